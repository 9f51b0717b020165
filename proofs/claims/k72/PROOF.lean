import PyProof.Rows.All
import Wide.All
import OpenK.AllK
import Wide.FinOn
import Lean
import PyProof.EqAt
import PyProof.EqKinds
import PyProof.TupleCall
import KE.KRevIter
import PyProof.ExcInit
import PyProof.InstStoreFacts
import PyProof.NsDelKeeps
import PyProof.FString5
import PyProof.NeData
import PyProof.TupleOfStr
import PyProof.IsRules
import PyProof.ListRange
import PyProof.FactsAll.tuple_3
import PyProof.SeqRoads
import PyProof.FactsAll.range_1
import PyProof.Rows.SortShellK
import PyProof.Rows.SortRunsK
import PySem.Challenge.RW_ringwords_k72_whole_cut_and_glued
set_option Elab.async false
set_option linter.all false
set_option maxRecDepth 100000
set_option maxHeartbeats 0
noncomputable section
def fu:=@List.getElem?_eq_getElem
def C4:=@List.length_map
def C5:=@PySem.wpAny_bind
def C6:=@PySem.Heap.get?_push_of_some
def C7:=@decide_eq_false
def C8:=@List.length_append
def C9:=@Array.length_toList
def C_:=@decide_eq_true
def Da:=@Nat.le_refl
def Dd:=@List.getElem?_eq_some_iff
def De:=@List.mem_singleton
def Dg:=@List.mem_cons_of_mem
def Dh:=@List.append_assoc
def Di:=@List.mem_append_right
def Dj:=@List.mem_cons
def Dk:=@PyProof.Rows.wpS_bind
def Dl:=@decide_eq_true_iff
def Dm:=@PySem.wpAny_pure
def Dn:=@List.getElem?_append_right
def Do:=@PySem.Heap.lt_size
def Dp:=@Option.some.inj
def Dq:=@PySem.boot_len
def Dr:=@PyProof.Rows.wpS_pure
def Ds:=@List.length_cons
def Du:=@Nat.lt_of_lt_of_le
def Dv:=@PySem.Heap.get?_push_size
def Dw:=@List.length_take
def Dx:=@List.getD_eq_getElem?_getD
def Dy:=@Bool.false_ne_true
def Dz:=@List.mem_cons_self
def DA:=@List.size_toArray
def DB:=@List.mem_append
def DC:=@PySem.F.plainAttrs_str
def DE:=@List.nodup_cons
def DF:=@Bool.false_eq_true
def DG:=@List.getElem?_map
def DH:=@congrArg
def DJ:=@List.take_append_drop
def DK:=@Int.toNat_natCast
def DM:=@List.mem_append_left
def DN:=@List.mem_map
def DO:=@Nat.le_trans
def DP:=@List.mem_of_getElem?
def DQ:=@List.map_cons
def DR:=@PySem.Heap.get?_update_other
def DS:=@List.not_mem_nil
def DT:=@Bool.eq_iff_iff
def DU:=@List.map_append
def DV:=@PySem.W.mg_none_of
def DW:=@List.flatten_cons
def DX:=@List.length_singleton
def DY:=@Array.getElem?_toList
def DZ:=@List.getElem_mem
def D0:=@List.perm_append_comm
def D1:=@Int.eq_ofNat_of_zero_le
def D2:=@Nat.zero_le
def D3:=@List.eq_nil_of_length_eq_zero
def D4:=@List.length_pos_iff
def D5:=@Nat.ne_of_lt
def D6:=@List.take_of_length_le
def D7:=@Array.getElem?_eq_some_iff
def D8:=@List.length_nil
def D9:=@List.map_map
def D_:=@List.Perm.append_right
def Ea:=@Bool.false_and
def Eb:=@List.getElem?_drop
def Ec:=@PyProof.Rows.wpS_forRange
def Ed:=@Nat.lt_irrefl
def Ee:=@List.append_nil
def Ef:=@List.mem_flatten
def Eg:=@List.getElem?_append_left
def Eh:=@List.nodup_append
def Ei:=@PySem.wpAny_passesOwn
def Ej:=@PySem.Heap.get?_update_self
def Ek:=@List.Perm.append_left
def El:=@Nat.mod_eq_of_lt
def Em:=@Array.toList_extract
def En:=@List.getElem?_of_mem
def Eo:=@List.append_of_mem
def Ep:=@PySem.wpAny_mono
def Er:=@List.drop_eq_getElem_cons
def Es:=@PyProof.Rows.KeyOrd.kle_refl
def Et:=@PySem.PassesOwn.never
def Eu:=@if_false
def Ew:=@PySem.wpAny_truthy_bool
def Ex:=@List.getElem?_take_of_lt
def Ey:=@PySem.Obj.data_mapFields
def Ez:=@Int.emod_lt_of_pos
def EA:=@beq_self_eq_true
def EB:=@List.take_length
def EC:=@PySem.mem_of_lookup
def ED:=@List.map_congr_left
def EE:=@PySem.wpAny_loadPart_at
def EF:=@List.pairwise_iff_getElem
def EG:=@PySem.Obj.isFreed_of_fields
def EH:=@List.cons_lt_cons_iff
def EI:=@List.zip_cons_cons
def EJ:=@List.getElem_idxOf
def EK:=@Bool.and_eq_true
def EL:=@List.all_eq_true
def EM:=@List.perm_middle
def EN:=@PyProof.Rows.wpS_mono
def EO:=@PySem.F.plainAttrs_list
def ER:=@PyProof.Rows.F.plain_set_update_loop
def ES:=@of_decide_eq_true
def ET:=@PyProof.Rows.callWith_type1
def EU:=@List.replicate_succ
def EV:=@Int.emod_nonneg
def EW:=@List.idxOf_lt_length_of_mem
def EX:=@List.length_reverse
def EY:=@List.append_eq_nil_iff
def EZ:=@PySem.F.slot_str_index
def E1:=@PySem.F.type_str_index
def E2:=@Array.perm_iff_toList_perm
def E3:=@PySem.W.mg_of
def E4:=@List.cons.inj
def E5:=@Nat.sub_self
def E6:=@List.eq_nil_or_concat
def E7:=@List.concat_eq_append
def E8:=@or_false
def E9:=@PySem.sizeLine_eq
def E_:=@Array.getElem?_setIfInBounds_ne
def Fb:=@Array.toList_push
def Fc:=@beq_false_of_ne
def Fe:=@if_true
def Ff:=@PySem.wpAny_getItem_str_slice
def Fg:=@PySem.wpAny_field
def Fh:=@List.getElem_of_mem
def Fi:=@Nat.add_sub_cancel_left
def Fj:=@List.flatten_append
def Fk:=@List.filter_cons_of_neg
def Fl:=@List.lookup_cons
def Fm:=@Nat.lt_succ_self
def Fn:=@PyProof.Rows.KeyOrd.kle_trans
def Fo:=@PySem.wpAny_setField
def Fp:=@PySem.wpAny_rule
def Fq:=@List.nodup_nil
def Fs:=@List.Perm.refl
def Ft:=@PySem.wpAny_Call_Name_kw
def Fu:=@List.pairwise_cons
def Fv:=@List.filter_append
def Fw:=@List.find?_cons
def Fx:=@PySem.builtinLookup_eq_fast
def Fy:=@PySem.codeAny_builtin
def Fz:=@List.idxOf_cons
def FA:=@PySem.F.slot_str_join
def FB:=@PySem.F.type_str_join
def FC:=@List.take_add_one
def FD:=@PySem.wpAny_holding
def FE:=@Int.emod_eq_of_lt
def FF:=@PyProof.Rows.KeyOrd.kle_of_klt
def FG:=@Bool.true_and
def FH:=@List.mem_of_mem_drop
def FI:=@List.mem_of_mem_take
def FJ:=@PySem.Heap.size_push
def FK:=@Array.getElem?_eq_getElem
def FL:=@PyProof.Rows.F.entry_set_update_loop
def FM:=@List.getLast?_eq_getElem?
def FN:=@PySem.wpAny_call_entry
def FO:=@Bool.not_eq_true
def FP:=@Nat.le_succ
def FQ:=@PySem.codeAny_mono
def FR:=@List.length_erase_of_mem
def FS:=@PyProof.Rows.wpS_modify
def FT:=@PySem.F.slot_list_extend
def FU:=@PySem.F.type_list_extend
def FV:=@List.mem_filter
def FW:=@PySem.wpAny_execs_nil
def FX:=@PySem.Code.quiet_builtin
def FY:=@Nat.not_lt_zero
def FZ:=@List.getElem?_take
def F0:=@PyProof.Rows.KK_mirror_equal
def F_:=@List.length_eq_zero_iff
def Ga:=@List.getElem?_cons_succ
def Gb:=@PySem.W.cellsFrom_some
def Ge:=@PySem.Calls.callWith_builtin
def Gf:=@List.drop_of_length_le
def Gg:=@List.flatten_singleton
def Gh:=@List.head?_eq_getElem?
def Gi:=@PySem.F.slot_str_upper
def Gj:=@PySem.F.type_str_upper
def Gk:=@PySem.F.slot_str_lower
def Gm:=@PySem.F.type_str_lower
def Gn:=@PySem.typeIs_str
def Gp:=@List.reverse_cons
def Gq:=@Bool.and_false
def Gr:=@PyProof.Rows.callWith_builtin1
def Gu:=@PySem.Txt.slice_le
def Gv:=@PyProof.Rows.listItems_at
def Gx:=@List.length_filter_le
def Gy:=@List.length_drop
def Gz:=@PySem.W.looks_findIn
def GA:=@PySem.codeAny_call_builtin
def GB:=@PySem.Around.under_plainId
def GC:=@List.any_cons
def GD:=@PySem.wpAny_newList
def GE:=@Bool.not_true
def GF:=@PySem.call_meets
def GG:=@beq_eq_false_iff_ne
def GH:=@List.filterMap_cons
def GI:=@List.of_mem_zip
def GJ:=@PySem.post_val_or_str
def GK:=@PySem.typeLookup_type
def GL:=@PySem.wpAny_of_eq
def GM:=@PySem.Heap.SameBut.update
def GN:=@PySem.wpAny_isSubtype_exc
def GO:=@PyProof.Rows.wpS_get
def GP:=@Array.toList_append
def GQ:=@List.sublist_flatten_of_mem
def GS:=@Nat.min_le_left
def GT:=@PySem.Calls.Name_function_global
def GU:=@PySem.wpAny_newFunctionEnv_cells
def GV:=@PySem.wpAny_pyIter_striter_ascii
def GW:=@PySem.F.excBase_ValueError
def GX:=@Array.toList_setIfInBounds
def GY:=@Nat.le_of_lt
def GZ:=@List.mem_filterMap
def G0:=@PySem.Calls.spliced_cons
def G3:=@PySem.W.callWith_K
def G4:=@List.map_nil
def G5:=@PySem.tupleKind_room_in1
def G6:=@PySem.wpAny_pyIter_ascii
def G7:=@Nat.le_of_eq
def G8:=@Int.zero_add
def G9:=@Int.add_emod
def G_:=@PySem.isSubtype_type
def Ha:=@List.exists_mem_of_ne_nil
def Hb:=@Bool.bne_false
def Hc:=@PySem.wpAny_pyIter_list
def Hd:=@PySem.wpAny_call
def He:=@PySem.AutoSeq1.sub_tuple_tuple
def Hf:=@PySem.Obj.cls_mapFields
def Hg:=@PySem.EqBoolInt.of_rcne
def Hh:=@PySem.F.store_ValueError
def Hi:=@Nat.le_succ_of_le
def Hj:=@decide_eq_true_eq
def Hk:=@Nat.lt_succ_of_lt
def Hl:=@PySem.Paired.length
def Hm:=@PySem.wpAny_standAt
def Hn:=@PySem.wpAny_attempt
def Ho:=@List.getLast?_cons_cons
def Hq:=@List.pairwise_singleton
def Hr:=@PyProof.Rows.listUpdate_at
def Hs:=@decide_eq_false_iff_not
def Ht:=@List.eraseIdx_cons_succ
def Hu:=@Option.getD_none
def Hv:=@List.drop_length
def Hw:=@Array.all_toList
def Hx:=@List.zipIdx_cons
def Hy:=@decide_eq_decide
def Hz:=@List.getElem?_set_self
def HA:=@Option.map_eq_some_iff
def HB:=@List.drop_eq_nil_of_le
def HC:=@Nat.ne_of_gt
def HD:=@List.foldl_cons
def HE:=@PySem.wpAny_specialOf
def HF:=@List.cons.injEq
def HG:=@PySem.codeAny_of_tree
def HH:=@Array.Perm.refl
def HJ:=@PyProof.Rows.Subscript_
def HK:=@PyProof.Rows.wpS_lift
def HL:=@List.mem_range
def HM:=@PySem.Walks.strAscii
def HN:=@List.drop_zero
def HP:=@List.take_left
def HQ:=@List.lt_irrefl
def HR:=@List.not_lt
def HS:=@List.all_cons
def HU:=@Bool.or_false
def HV:=@Nat.add_assoc
def HW:=@Int.ofNat.inj
def HX:=@beq_iff_eq
def HY:=@Nat.sub_zero
def HZ:=@Bool.or_true
def H_:=@Nat.zero_add
def Ia:=@getElem?_pos
namespace L2
open PySem PySem.Spec PyProof.Rows
abbrev Key:=Sum Int Str
def mG:Key→Value→Bool
 | .inl k,v=>Value.isInt k v
 | .inr x,v=>Value.isStrOf x v
def Ci (w:World):Key→Int
 | .inl k=>hashInt k
 | .inr x=>hashStr w x
theorem aW:∀ {k:Key} {v:Value},mG k v=true→(∃ i t,k=Sum.inl i∧v=Value.int i t) ∨ (∃ x t,k=Sum.inr x∧v=Value.str x t)
 | .inl i,v,h=>by
  obtain ⟨t,e⟩:=Value.isInt_shape (k:=i) (v:=v) h
  exact .inl ⟨i,t,rfl,e⟩
 | .inr x,v,h=>by
  obtain ⟨t,e⟩:=Value.isStrOf_shape (x:=x) (v:=v) h
  exact .inr ⟨x,t,rfl,e⟩
theorem nE (i:Int)(t:Tok):mG (.inl i) (.int i t)=true:=by simp [mG,Value.isInt]
theorem nF (x:Str)(t:Tok):mG (.inr x) (.str x t)=true:=by simp [mG,Value.isStrOf]
theorem xJ (a b:Int):decide ((Sum.inl a:Key)=Sum.inl b)=(a == b):=by
 by_cases e:a=b
 ·subst e;simp
 ·have h:¬ (Sum.inl a:Key)=Sum.inl b:=fun q=>e (Sum.inl.inj q)
  rw [C7 h]
  exact (GG.mpr e).symm
theorem xK (a b:Str):decide ((Sum.inr a:Key)=Sum.inr b)=decide (a=b):=by
 by_cases e:a=b
 ·subst e;simp
 ·have h:¬ (Sum.inr a:Key)=Sum.inr b:=fun q=>e (Sum.inr.inj q)
  rw [C7 h,C7 e]
theorem xM (a:Int)(b:Str):decide ((Sum.inl a:Key)=Sum.inr b)=false:=C7 (fun q=>nomatch q)
theorem xN (a:Str)(b:Int):decide ((Sum.inr a:Key)=Sum.inl b)=false:=C7 (fun q=>nomatch q)
def bb (prog:Program)(w:World):PySem.KeyKind prog w Key where
 is:=mG
 hash:=Ci w
 inj:=fun v a b ha hb=>by
  rcases aW ha with ⟨i,t,rfl,rfl⟩ | ⟨x,t,rfl,rfl⟩
  ·rcases aW hb with ⟨j,u,rfl,e⟩ | ⟨y,u,rfl,e⟩
   ·injection e with e1 _;rw [e1]
   ·exact nomatch e
  ·rcases aW hb with ⟨j,u,rfl,e⟩ | ⟨y,u,rfl,e⟩
   ·exact nomatch e
   ·injection e with e1 _;rw [e1]
 byValue:=fun k v h=>by
  rcases aW h with ⟨i,t,rfl,rfl⟩ | ⟨x,t,rfl,rfl⟩ <;> rfl
 pyHash:=fun hv h=>by
  rcases aW hv with ⟨i,t,rfl,rfl⟩ | ⟨x,t,rfl,rfl⟩
  ·exact wpAny_pyHash_int h
  ·exact wpAny_pyHash_str h
 eqBool:=fun hu hv h=>by
  rcases aW hu with ⟨i,t,rfl,rfl⟩ | ⟨x,t,rfl,rfl⟩
  ·rcases aW hv with ⟨j,u,rfl,rfl⟩ | ⟨y,u,rfl,rfl⟩
   ·rw [xJ] at h;exact wpAny_eqBool_int h
   ·rw [xM] at h;exact SeqAt.EqAt.int_str i t y u _ _ _ _ h
  ·rcases aW hv with ⟨j,u,rfl,rfl⟩ | ⟨y,u,rfl,rfl⟩
   ·rw [xN] at h;exact SeqAt.EqAt.str_int x t j u _ _ _ _ h
   ·rw [xK] at h;exact wpAny_eqBool_str h
 «strs»:=fun k x t v h=>by
  rcases aW h with ⟨i,u,rfl,e⟩ | ⟨y,u,rfl,e⟩
  ·exact nomatch e
  ·injection e with e1 _
   subst e1
   cases v <;> rfl
theorem jO (prog:Program)(w:World)(i:Int)(t:Tok):(bb prog w).is (.inl i) (.int i t)=true:=nE i t
theorem jP (prog:Program)(w:World)(x:Str)(t:Tok):(bb prog w).is (.inr x) (.str x t)=true:=nF x t
inductive V where
 | non | bl (b:Bool) | int (i:Int) | str (x:Str) | byt (b:Array UInt8) | flt (b:UInt64) | ref (a:Addr) | ty (n:String) | tks (x:Str) (t:Tok)
 deriving DecidableEq
def bf:V→Value→Prop
 | .non,u=>u=Value.none
 | .bl b,u=>u=Value.bool b
 | .int i,u=>∃ t,u=Value.int i t
 | .str x,u=>∃ t,u=Value.str x t
 | .byt b,u=>∃ t,u=Value.bytes b t
 | .flt b,u=>∃ t,u=Value.float b t
 | .ref a,u=>u=Value.ref a
 | .ty n,u=>u=Value.type n
 | .tks x t,u=>u=Value.str x t
def V.pl:V→Bool
 | .tks ..=>false
 | _=>true
abbrev aV:List V→List Value→Prop:=Paired bf
theorem aV.length {xs:List V}{us:List Value}(r:aV xs us):xs.length=us.length:=Hl r
theorem aV.get:∀ {xs:List V} {us:List Value} {i:Nat} {x:V},aV xs us→xs[i]? = some x→∃ u,us[i]? = some u∧bf x u
 | _,_,_,_,.nil,e=>by simp at e
 | _,_,0,_,.cons r _,e=>by simp at e;subst e;exact ⟨_,rfl,r⟩
 | _,_,i+1,x,.cons _ t,e=>by
  obtain ⟨u,h1,h2⟩:=aV.get (i:=i) (x:=x) t (by simpa using e)
  exact ⟨u,by simpa using h1,h2⟩
theorem aV.append:∀ {xs ys:List V} {us ws:List Value},aV xs us→aV ys ws→aV (xs++ys) (us++ws)
 | _,_,_,_,.nil,s=>s
 | _,_,_,_,.cons r t,s=>.cons r (aV.append t s)
theorem aV.take:∀ {xs:List V} {us:List Value} (n:Nat),aV xs us→aV (xs.take n) (us.take n)
 | _,_,0,_=>.nil
 | _,_,_+1,.nil=>.nil
 | _,_,n+1,.cons r t=>.cons r (aV.take n t)
theorem aV.drop:∀ {xs:List V} {us:List Value} (n:Nat),aV xs us→aV (xs.drop n) (us.drop n)
 | _,_,0,r=>r
 | _,_,_+1,.nil=>.nil
 | _,_,n+1,.cons _ t=>aV.drop n t
def ny:Option V→Option Value→Prop
 | some v,some u=>bf v u
 | none,none=>True
 | _,_=>False
def KV {κ:Type}:List (κ × V)→List (κ × Value)→Prop:=Paired fun (p:κ × V) (q:κ × Value)=>p.1=q.1∧bf p.2 q.2
def kV:Key→V
 | .inl i=>.int i
 | .inr x=>.str x
inductive HO where
 | lst (xs:List V)
 | tup (xs:List V)
 | dK (kvs:List (Key × V)) | dT (kvs:List (List Key × V))
 | set (S:Int→Bool) (n:Nat)
 | ins (C dx:Addr) (fs:List (Str × V))
 | own (x:Addr)
 | xd (fs:List (Str × V))
 | met (f x:Addr)
 | rng (lo hi:Int)
 | frz (o:Obj) (u:HO)
 | tbl (ps:Array Value)
 | ext (φ:Heap→Prop)
abbrev Hp:=Addr→Option HO
def upd (H:Hp)(a:Addr)(o:HO):Hp:=fun b=>if b=a then some o else H b
theorem ag {H:Hp}{a:Addr}{o:HO}:upd H a o a=some o:=by unfold upd; rw [if_pos rfl]
theorem ay {H:Hp}{a b:Addr}{o:HO}(h:b≠a):upd H a o b=H b:=by unfold upd; rw [if_neg h]
theorem eV {H:Hp}{a:Addr}{o u:HO}:upd (upd H a o) a u=upd H a u:=by
 funext b;unfold upd;split <;> rfl
theorem q9 {H:Hp}{a b:Addr}{o u:HO}(h:H a=some o)(h':H b=some u)(d:o≠u):a≠b:=by
 intro e;subst e;rw [h] at h';exact d (Dp h')
theorem aD {H:Hp}{a b:Addr}{o:HO}(h:H a=some o)(h':H b=none):a≠b:=by
 intro e;subst e;rw [h] at h';cases h'
section
variable (P:Program) (w:World)
def NoD (h:Heap)(a:Addr):Prop:=∃ o,h.get? a=some o∧o.dict=none
theorem NoD.new (h:Heap)(o:Obj)(e:o.dict=none)(hf:o.isFreed=false:=by rfl):NoD (h.push o) h.objs.size:=⟨o,Dv _ hf,e⟩
def bw (H:Hp)(h:Heap)(a:Addr):HO→Prop
 | .lst xs=>xs.length≤sizeLine∧∃ (its:List Value) (n:Nat),aV xs its∧h.get? a=some { cls:=.type "list",data:=.seq its.toArray n }
 | .tup xs=>xs.length≤sizeLine∧∃ its:List Value,aV xs its∧IsTup h a its.toArray∧NoD h a
 | .dK kvs=>kvs.length≤sizeLine∧(a == sysModules)=false∧∃ vs,KV kvs vs∧h.DictOf (bb P w) a vs
 | .dT kvs=>kvs.length≤sizeLine∧(a == sysModules)=false∧∃ xs:List (List Key × Addr × Value),
   Paired (fun (p:List Key × V) (q:List Key × Addr × Value)=>p.1=q.1∧H q.2.1=some (.tup (p.1.map kV))∧bf p.2 q.2.2) kvs xs ∧
   ∃ o es ep,h.get? a=some o∧o.ExactDict∧o.data = .dict es ep∧es.toList=xs.map (entryOfKey (tupleKind (bb P w)))∧(xs.map (·.1)).Nodup
 | .set S n=>h.SetOf (intKind P w) a S n
 | .ins C dx fs=>H dx=some (.own a)∧fs.length≤1000∧dx≠a∧h.get? a=some (PySem.W.instObj C dx) ∧
   ∃ mA,h.Ns1 dx mA∧(∀ f,ny (fs.lookup f) (mA f))∧PySem.Within mA (fs.map (·.1))
 | .own _=>∃ o,h.get? a=some o
 | .xd fs=>∃ mA,h.Ns1 a mA∧∀ f,ny (fs.lookup f) (mA f)
 | .rng lo hi=>∃ t u v,h.get? a=some { cls:=.type "range",data:=.fields #[.int lo t,.int hi u,.int 1 v] }
 | .frz o u=>h.get? a=some o∧bw H h a u
 | .tbl ps=>h.get? a=some { cls:=.none,data:=.fields ps }
 | .met f x=>h.get? a=some (PySem.W.methodObj (.ref f) (.ref x))
 | .ext φ=>φ h∧(∃ o,h.get? a=some o)∧∀ h1 h2:Heap,φ h1→(∀ o,h1.get? a=some o→h2.get? a=some o)→φ h2
def HOk (H:Hp)(h:Heap):Prop:=∀ a o,H a=some o→bw P w H h a o
end
section
variable {P:Program} {w:World} {H H':Hp} {h h':Heap} {a:Addr} {o:HO}
theorem bw.lt (x:bw P w H h a o):a < h.objs.size:=by
 cases o with
 | lst xs=>obtain ⟨_,_,_,_,e⟩:=x;exact Do e
 | tup xs=>obtain ⟨_,_,_,p,_⟩:=x;exact p.lt
 | dK kvs=>obtain ⟨_,_,_,_,o,_,_,e,_⟩:=x;exact Do e
 | dT kvs=>obtain ⟨_,_,_,_,o,_,_,e,_⟩:=x;exact Do e
 | set S n=>obtain ⟨o,_,_,_,e,_⟩:=x;exact Do e
 | ins C dx fs=>obtain ⟨_,_,_,e,_⟩:=x;exact Do e
 | own y=>obtain ⟨_,e⟩:=x;exact Do e
 | xd fs=>obtain ⟨_,⟨_,_,_,e,_⟩,_⟩:=x;exact Do e
 | rng lo hi=>obtain ⟨_,_,_,e⟩:=x;exact Do e
 | frz ob u=>obtain ⟨e,_⟩:=x;exact Do e
 | tbl ps=>exact Do (show h.get? a=some _ from x)
 | met f y=>exact Do (show h.get? a=some _ from x)
 | ext φ=>obtain ⟨_,⟨_,e⟩,_⟩:=x;exact Do e
theorem Paired.mapP {α β:Type}{F G:α→β→Prop}:∀ {l₁:List α} {l₂:List β},Paired F l₁ l₂→(∀ a b,F a b→G a b)→Paired G l₁ l₂
 | _,_,.nil,_=>.nil
 | _,_,.cons r t,f=>.cons (f _ _ r) (Paired.mapP t f)
theorem bw.stay (x:bw P w H h a o)(k:∀ b u,(b=a ∨ H b=some (.own a))→h.get? b=some u→h'.get? b=some u)
  (ho:∀ b,H b=some (.own a)→H' b=some (.own a)) (ht:∀ b xs,H b=some (.tup xs)→H' b=some (.tup xs)):bw P w H' h' a o:=by
 induction o with
 | lst xs=>obtain ⟨z,its,n,r,e⟩:=x;exact ⟨z,its,n,r,k _ _ (.inl rfl) e⟩
 | tup xs=>obtain ⟨z,its,r,⟨ob,e,c⟩,o2,e2,c2⟩:=x;exact ⟨z,its,r,⟨ob,k _ _ (.inl rfl) e,c⟩,o2,k _ _ (.inl rfl) e2,c2⟩
 | dK kvs=>obtain ⟨z,y,vs,r,ob,es,ep,e,c⟩:=x;exact ⟨z,y,vs,r,ob,es,ep,k _ _ (.inl rfl) e,c⟩
 | dT kvs =>
  obtain ⟨z,y,xs,r,ob,es,ep,e,c⟩:=x
  exact ⟨z,y,xs,Paired.mapP r fun p q z=>⟨z.1,ht _ _ z.2.1,z.2.2⟩,ob,es,ep,k _ _ (.inl rfl) e,c⟩
 | set S n=>obtain ⟨ob,es,ep,t,e,c⟩:=x;exact ⟨ob,es,ep,t,k _ _ (.inl rfl) e,c⟩
 | ins C dx fs =>
  obtain ⟨d,z,ne,e,mA,⟨od,es,ep,e2,c⟩,r⟩:=x
  exact ⟨ho _ d,z,ne,k _ _ (.inl rfl) e,mA,⟨od,es,ep,k _ _ (.inr d) e2,c⟩,r⟩
 | own y=>obtain ⟨ob,e⟩:=x;exact ⟨ob,k _ _ (.inl rfl) e⟩
 | xd fs=>obtain ⟨mA,⟨od,es,ep,e,c⟩,r⟩:=x;exact ⟨mA,⟨od,es,ep,k _ _ (.inl rfl) e,c⟩,r⟩
 | rng lo hi=>obtain ⟨t,u,v,e⟩:=x;exact ⟨t,u,v,k _ _ (.inl rfl) e⟩
 | frz ob u ih=>obtain ⟨e,q⟩:=x;exact ⟨k _ _ (.inl rfl) e,ih q⟩
 | tbl ps =>
  have e:h.get? a=some { cls:=.none,data:=.fields ps }:=x
  show h'.get? a=some { cls:=.none,data:=.fields ps }
  exact k a _ (.inl rfl) e
 | met f y =>
  have e:h.get? a=some (PySem.W.methodObj (.ref f) (.ref y)):=x
  show h'.get? a=some (PySem.W.methodObj (.ref f) (.ref y))
  exact k a _ (.inl rfl) e
 | ext φ=>obtain ⟨p,⟨o,e⟩,st⟩:=x;exact ⟨st _ _ p fun o q=>k _ _ (.inl rfl) q,⟨o,k _ _ (.inl rfl) e⟩,st⟩
theorem HOk.lt (x:HOk P w H h)(e:H a=some o):a < h.objs.size:=(x a o e).lt
theorem HOk.fresh (x:HOk P w H h)(e:h.objs.size≤a):H a=none:=by
 cases q:H a with
 | none=>rfl
 | some u=>exact absurd (Du (x.lt q) e) (Ed _)
theorem HOk.kept (x:HOk P w H h)(k:∀ b u,h.get? b=some u→h'.get? b=some u):HOk P w H h':=fun a o e =>
 (x a o e).stay (fun b u _ q=>k b u q) (fun _ q=>q) fun _ _ q=>q
theorem HOk.laid (x:HOk P w H h)(k:∀ b u,h.get? b=some u→h'.get? b=some u)(hp:h.objs.size≤a)(new:bw P w (upd H a o) h' a o):HOk P w (upd H a o) h':=fun b u e=>by
 have hn:=x.fresh hp
 by_cases hb:b=a
 ·subst hb;rw [ag] at e;cases e;exact new
 ·rw [ay hb] at e
  exact (x b u e).stay (fun c v _ q=>k c v q) (fun c q=>by rw [ay (aD q hn)];exact q) fun c xs q=>by rw [ay (aD q hn)];exact q
end
def Rd (H:Hp)(a:Addr)(u:HO):Prop:=H a=some u ∨ ∃ o,H a=some (.frz o u)
theorem Rd.ok {P:Program}{w:World}{H:Hp}{h:Heap}{a:Addr}{u:HO}(r:Rd H a u)(x:HOk P w H h):bw P w H h a u:=by
 rcases r with r | ⟨o,r⟩
 ·exact x a u r
 ·obtain ⟨_,q⟩:=x a _ r
  exact q
def Mut:Option HO→Prop
 | some (.lst _)=>True
 | some (.dK _)=>True
 | some (.dT _)=>True
 | some (.set _ _)=>True
 | some (.ins _ _ _)=>True
 | some (.ext _)=>True
 | _=>False
section
variable {P:Program} {w:World} {H:Hp} {h h':Heap} {x e:Addr} {o':HO}
theorem HOk.write (ok:HOk P w H h)(mu:Mut (H x))(he:e=x ∨ H e=some (.own x))(k:∀ b u,b≠e→h.get? b=some u→h'.get? b=some u)(heo:∃ u,h'.get? e=some u)
  (new:bw P w (upd H x o') h' x o'):HOk P w (upd H x o') h':=fun b u q=>by
 have nown:∀ c y,H c=some (.own y)→c≠x:=fun c y r z=>by subst z;rw [r] at mu;exact mu
 have ntup:∀ c xs,H c=some (.tup xs)→c≠x:=fun c xs r z=>by subst z;rw [r] at mu;exact mu
 by_cases hb:b=x
 ·subst hb;rw [ag] at q;cases q;exact new
 ·rw [ay hb] at q
  by_cases hbe:b=e
  ·have q':H b=some (.own x):=by
    rcases he with z | z
    ·exact absurd (hbe.trans z) hb
    ·rw [hbe];exact z
   rw [q] at q';cases q'
   obtain ⟨v,hv⟩:=heo
   exact ⟨v,by rw [hbe];exact hv⟩
  ·refine (ok b u q).stay (fun c v hc r=>k c v ?_ r) (fun c r=>by rw [ay (nown c b r)];exact r) fun c xs r=>by rw [ay (ntup c xs r)];exact r
   rcases hc with rfl | hc
   ·exact hbe
   ·rintro rfl
    rcases he with z | z
    ·exact nown c b hc z
    ·rw [hc] at z;cases z;exact hb rfl
end
structure Un (fs ex:List Addr) (H H':Hp) (h h':Heap):Prop where
 keep:∀ b o,h.get? b=some o→H b=none→b∉fs→b∉ex→h'.get? b=some o
 slot:∀ b o,h.get? b=some o→H b=none→b∈fs→b∉ex→∃ sl,h'.get? b=some { o with slots:=sl }
 free:∀ b o,h.get? b=some o→H b=none→b∉ex→H' b=none
 there:∀ b o,h.get? b=some o→b∉ex→∃ o',h'.get? b=some o'
 tups:∀ b xs,H b=some (.tup xs)→H' b=some (.tup xs)
 frzs:∀ b o u,H b=some (.frz o u)→H' b=some (.frz o u)
 tbls:∀ b ps,H b=some (.tbl ps)→∃ more,H' b=some (.tbl (ps++more))
section
variable {fs fs' ex ex':List Addr} {H H1 H2:Hp} {h h1 h2 h':Heap} {a x e:Addr} {o:HO}
theorem Un.any (u:Un fs ex H H1 h h1){b:Addr}{ob:Obj}(q:h.get? b=some ob)(n:H b=none)(hx:b∉ex):∃ sl,h1.get? b=some { ob with slots:=sl }:=by
 by_cases hb:b∈fs
 ·exact u.slot b ob q n hb hx
 ·exact ⟨ob.slots,u.keep b ob q n hb hx⟩
theorem Un.kept (k:∀ b u,h.get? b=some u→h'.get? b=some u):Un fs ex H H h h' :=
 ⟨fun b ob q _ _ _=>k b ob q,fun b ob q _ _ _=>⟨ob.slots,k b ob q⟩,fun _ _ _ n _=>n,fun b ob q _=>⟨ob,k b ob q⟩,fun _ _ q=>q,fun _ _ _ q=>q,fun _ ps q=>⟨#[],by rw [q];simp⟩⟩
theorem Un.refl:Un fs ex H H h h:=Un.kept fun _ _ q=>q
theorem Un.laid (k:∀ b u,h.get? b=some u→h'.get? b=some u)(hp:h.objs.size≤a)(hn:H a=none):Un fs ex H (upd H a o) h h' where
 keep:=fun b u q _ _ _=>k b u q
 slot:=fun b u q _ _ _=>⟨u.slots,k b u q⟩
 free:=fun b u q n _=>by rw [ay (D5 (Du (Do q) hp))];exact n
 there:=fun b u q _=>⟨u,k b u q⟩
 tups:=fun b xs q=>by rw [ay (aD q hn)];exact q
 frzs:=fun b u xs q=>by rw [ay (aD q hn)];exact q
 tbls:=fun b ps q=>⟨#[],by rw [ay (aD q hn),q];simp⟩
theorem Un.write (mu:Mut (H x))(he:e=x ∨ H e=some (.own x))(k:∀ b u,b≠e→h.get? b=some u→h'.get? b=some u)(heo:∃ u,h'.get? e=some u):Un fs ex H (upd H x o) h h':=by
 have hx:∀ b,H b=none→b≠x:=fun b n z=>by subst z;rw [n] at mu;exact mu
 have hb:∀ b,H b=none→b≠e:=fun b n z=>by
  subst z
  rcases he with r | r
  ·exact hx b n r
  ·rw [n] at r;cases r
 have hm:∀ b u,H b=some u→¬ Mut (some u)→b≠x:=fun b u q nm z=>by subst z;rw [q] at mu;exact nm mu
 refine ⟨fun b u q n _ _=>k b u (hb b n) q,fun b u q n _ _=>⟨u.slots,k b u (hb b n) q⟩,fun b u q n _=>by rw [ay (hx b n)];exact n,fun b u q _=>?_,
  fun b xs q=>by rw [ay (hm b _ q fun z=>z)];exact q,fun b u xs q=>by rw [ay (hm b _ q fun z=>z)];exact q,fun b ps q=>⟨#[],by rw [ay (hm b _ q fun z=>z),q];simp⟩⟩
 by_cases hbe:b=e
 ·subst hbe;exact heo
 ·exact ⟨u,k b u hbe q⟩
end
def trk (h:Heap)(H:Hp):List Addr:=(List.range h.objs.size).filter fun a=>(H a).isSome
def q_ (h:Heap)(H:Hp):Heap:=PySem.W.hideAll h (trk h H)
theorem nG (h:Heap)(H:Hp):(q_ h H).objs.size=h.objs.size:=PySem.W.hideAll_size _ _
theorem rf {h:Heap}{H:Hp}{b:Addr}{o:Obj}(e:h.get? b=some o)(n:H b=none):(q_ h H).get? b=some o :=
 PySem.W.hideAll_get _ e fun hm=>by
  have q:(H b).isSome=true:=(FV.mp hm).2
  rw [n] at q;simp at q
theorem uM {h:Heap}{H:Hp}{b:Addr}{o:Obj}(e:(q_ h H).get? b=some o):h.get? b=some o∧H b=none:=by
 have e':h.get? b=some o:=PySem.W.of_hideAll (trk h H) e
 refine ⟨e',?_⟩
 cases q:H b with
 | none=>rfl
 | some x =>
  have hm:b∈trk h H:=FV.mpr ⟨HL.mpr (Do e'),by simp [q]⟩
  have z:(q_ h H).get? b=none:=PySem.W.hideAll_none (trk h H) hm
  rw [z] at e;cases e
def uN (g h:Heap)(L:Addr):List (Addr × Obj):=(List.range h.objs.size).filterMap fun a=>if a=L ∨ (g.get? a).isSome=true then none else (h.get? a).map fun o=>(a,o)
def rest (g h:Heap)(L d:Addr):List (Addr × Obj):=(uN g h L).filter fun p=>decide (p.1≠d)
structure Mod (K:PySem.W.Frag) (mg:Str→Option Value) (base:Heap):Prop where
 kin:K.In base
 glob:base.Ns mainGlobals mg
 blt:∃ mb,base.Ns builtinsNs mb∧∀ x:Str,x ≠ "__name__"→mb x=bootBuiltins x
 nolimit:base.NoLimit
/-- the context: a def's body (or a comprehension's block) running. base: fixed through the whole law;s₀,H₀: the entry;outer: the frames whose slots others may change (a def's callers);stack: all frames that run;
  ex: iterators that were made ahead of the entry and are walked here (a comprehension's);fn: the names whose cells were made at the entry (a def: all;a comprehension's block: its own);calm: not within an except suite;pn: pins that every state bears;xe: what is wanted of an exception that leaves the code -/
structure Cx where
 prog:Program
 w:World
 K:PySem.W.Frag
 mg:Str→Option Value
 base:Heap
 A:Around
 N:List Str
 s₀:Shared
 H₀:Hp
 env:Env
 outer:List Env
 stack:List Env
 ex:List Addr
 fn:Str→Bool
 calm:Bool
 pn:List (Addr × Obj)
 xe:Value→Shared→Prop
 lo:Nat
def frs (l:List Env):List Addr:=l.filterMap (·.frame)
abbrev Cx.fs (X:Cx):List Addr:=frs X.outer
def Vis (sc:Scope)(x:Str):Prop:=sc.names.lookup x=some .local ∨ sc.names.lookup x=some .cell ∨ sc.names.lookup x=some .free
def Loc (sc:Scope)(x:Str):Prop:=sc.names.lookup x=some .local ∨ sc.names.lookup x=some .cell
def Cj (env:Env)(h:Heap)(m:Str→Option Value)(x:Str)(u:Value):Prop :=
 (env.kindOf x=some .local∧m x=some u) ∨ ((env.kindOf x=some .cell ∨ env.kindOf x=some .free)∧∃ c,env.cells.lookup x=some c∧h.IsCell c (some u))
structure Cx.Ok (X:Cx):Prop where
 mod:Mod X.K X.mg X.base
 kind:X.env.scope.kind = .function
 glob:X.env.globals=mainGlobals
 blt:X.env.builtins=builtinsNs
 above:X.s₀.heap.objs.size≤X.env.locals
 inj:∀ x y c,X.env.cells.lookup x=some c→X.env.cells.lookup y=some c→x=y
 has:∀ x,(X.env.kindOf x=some .cell ∨ X.env.kindOf x=some .free)→∃ c,X.env.cells.lookup x=some c
 cab:∀ x c,X.fn x=true→X.env.cells.lookup x=some c→X.s₀.heap.objs.size≤c
 hd:X.calm=true→X.A.handled=none
 frames:X.A.frames=some X.stack
 stk:X.stack=X.outer ∨ (X.stack=X.env::X.outer∧X.env.frame=some X.env.locals)
 exf:∀ b∈X.ex,b≠X.env.locals∧∀ x c,X.env.cells.lookup x=some c→c≠b
 bs:∀ b o,X.base.get? b=some o→X.s₀.heap.get? b=some o∧X.H₀ b=none
 bsz:X.base.objs.size≤X.s₀.heap.objs.size
 noex:∀ b o,X.base.get? b=some o→b∉X.ex
 exfs:∀ b∈X.ex,b∉X.fs
 funs:X.s₀.heap.FunFrames X.base X.outer
 frf:∀ b∈X.fs,X.H₀ b=none
structure InvW (X:Cx) (pins:List (Addr × Obj)) (σ:List (Option V)) (H:Hp) (s:Shared):Prop where
 ok:X.Ok
 os:s.os=X.s₀.os
 bare:AllBare s.gens
 base:Un X.fs X.ex X.H₀ H X.s₀.heap s.heap
 loc:∃ m,s.heap.Ns X.env.locals m∧∀ (i:Nat) (x:Str) (v:V),X.N[i]? = some x→σ[i]? = some (some v)→Vis X.env.scope x→∃ u,bf v u∧Cj X.env s.heap m x u
 cell:∀ x c,X.env.cells.lookup x=some c→∃ v,s.heap.IsCell c v
 free:H X.env.locals=none
 freeC:∀ x c,X.env.cells.lookup x=some c→H c=none
 pin:∀ p∈X.pn++pins,s.heap.get? p.1=some p.2∧H p.1=none∧p.1≠X.env.locals∧p.1∉X.fs∧∀ v,p.2.data ≠ .cell v
 hok:HOk X.prog X.w H s.heap
 len:σ.length=X.N.length
section
variable {X:Cx} {pins:List (Addr × Obj)} {σ:List (Option V)} {H H':Hp} {s:Shared} {h':Heap}
theorem Cx.Ok.nofr (ok:X.Ok){b:Addr}{o:Obj}(e:X.base.get? b=some o):b∉X.fs:=fun hb=>by
 have:=(ok.funs.mem hb).1
 rw [e] at this;cases this
theorem InvW.bs (I:InvW X pins σ H s):∀ b o,X.base.get? b=some o→s.heap.get? b=some o∧H b=none:=fun b o e =>
 ⟨I.base.keep b o (I.ok.bs b o e).1 (I.ok.bs b o e).2 (I.ok.nofr e) (I.ok.noex b o e),I.base.free b o (I.ok.bs b o e).1 (I.ok.bs b o e).2 (I.ok.noex b o e)⟩
theorem InvW.bk (I:InvW X pins σ H s):∀ b o,X.base.get? b=some o→s.heap.get? b=some o:=fun b o e=>(I.bs b o e).1
theorem InvW.mod (I:InvW X pins σ H s):Mod X.K X.mg X.base:=I.ok.mod
theorem InvW.kIn (I:InvW X pins σ H s):X.K.In s.heap:=I.ok.mod.kin.keeps I.bk
theorem InvW.fr (I:InvW X pins σ H s):∃ m,Fr X.base X.env.locals s.heap m :=
 let ⟨m,hn,_⟩:=I.loc
 ⟨m,hn,I.bk,DO I.ok.bsz I.ok.above⟩
theorem InvW.lt (I:InvW X pins σ H s):X.env.locals < s.heap.objs.size:=let ⟨_,hn,_⟩:=I.loc; hn.lt
theorem InvW.sz (I:InvW X pins σ H s):X.s₀.heap.objs.size≤s.heap.objs.size:=DO I.ok.above (GY I.lt)
theorem InvW.nofs (I:InvW X pins σ H s){a:Addr}(h:s.heap.objs.size≤a):a∉X.fs:=fun hb=>by
 obtain ⟨_,o,ho,_⟩:=I.ok.funs.mem hb
 exact absurd (Du (Do ho) (DO I.sz h)) (Ed _)
theorem InvW.cne (I:InvW X pins σ H s):∀ x c,X.env.cells.lookup x=some c→c≠X.env.locals:=fun x c e z=>by
 obtain ⟨v,o,ho,hd⟩:=I.cell x c e
 obtain ⟨m,⟨o',es,ep,ho',hd',_⟩,_⟩:=I.loc
 rw [z,ho'] at ho;cases ho;rw [hd'] at hd;cases hd
theorem InvW.funs (I:InvW X pins σ H s):s.heap.FunFrames X.base X.outer:=by
 have all:∀ (l:List Env),(∀ b∈frs l,b∈X.fs)→X.s₀.heap.FunFrames X.base l→s.heap.FunFrames X.base l:=by
  intro l
  induction l with
  | nil=>intro _ _;trivial
  | cons env r ih =>
   intro hs hl
   obtain ⟨hk,⟨L,o,hf,hn,ho,hd⟩,hr⟩:=hl
   have hL:L∈X.fs:=hs L (by unfold frs;rw [GH,hf];exact Dz)
   obtain ⟨sl,e⟩:=I.base.slot L o ho (I.ok.frf L hL) hL fun z=>I.ok.exfs L z hL
   exact ⟨hk,⟨L,_,hf,hn,e,hd⟩,ih (fun b hb=>hs b (by unfold frs;rw [GH,hf];exact Dg _ hb)) hr⟩
 exact all X.outer (fun _ hb=>hb) I.ok.funs
theorem InvW.stack (I:InvW X pins σ H s):s.heap.FunFrames X.base X.stack:=by
 rcases I.ok.stk with e | ⟨e,hf⟩
 ·rw [e];exact I.funs
 ·rw [e]
  obtain ⟨m,hn,_⟩:=I.loc
  refine .cons (by rw [I.ok.kind];decide) hf hn ?_ I.funs
  exact Heap.get?_none_of_le (DO I.ok.bsz I.ok.above)
theorem InvW.stkSub (I:InvW X pins σ H s):∀ b∈frs X.stack,b∈X.env.locals::X.fs:=fun b hb=>by
 rcases I.ok.stk with e | ⟨e,hf⟩
 ·rw [e] at hb;exact Dg _ hb
 ·rw [e] at hb
  unfold frs at hb
  rw [GH,hf] at hb
  exact hb
theorem InvW.stkFree (I:InvW X pins σ H s):∀ b∈frs X.stack,H b=none:=fun b hb=>by
 rcases Dj.mp (I.stkSub b hb) with e | hb
 ·rw [e];exact I.free
 ·obtain ⟨_,o,ho,_⟩:=I.ok.funs.mem hb
  exact I.base.free b o ho (I.ok.frf b hb) fun z=>I.ok.exfs b z hb
theorem InvW.step {g':Array GenState}{t':Nat}{d':Drawn}{ch:List Addr}(I:InvW X pins σ H s)
  (hch:∀ b∈ch,(b∈X.ex ∨ X.s₀.heap.objs.size≤b)∧b≠X.env.locals∧(∀ x c,X.env.cells.lookup x=some c→c≠b)∧∀ p∈X.pn++pins,p.1≠b)
  (keep:∀ b o,b≠X.env.locals→b∉X.fs→b∉ch→s.heap.get? b=some o→H b=none→h'.get? b=some o)
  (slot:∀ b o,b≠X.env.locals→b∈X.fs→b∉ch→s.heap.get? b=some o→H b=none→∃ sl,h'.get? b=some { o with slots:=sl }) (free:∀ b o,b∉ch→s.heap.get? b=some o→H b=none→H' b=none)
  (there:∀ b o,b∉ch→s.heap.get? b=some o→∃ o',h'.get? b=some o')
  (tups:∀ b xs,H b=some (.tup xs)→H' b=some (.tup xs)) (frzs:∀ b o u,H b=some (.frz o u)→H' b=some (.frz o u)) (tbls:∀ b ps,H b=some (.tbl ps)→∃ more,H' b=some (.tbl (ps++more)))
  (ns:∀ m,s.heap.Ns X.env.locals m→h'.Ns X.env.locals m) (hok:HOk X.prog X.w H' h') (hg:AllBare g') :
  InvW X pins σ H' { s with heap:=h',gens:=g',drawn:=d',toks:=t' }:=by
 have neL:∀ b o,X.s₀.heap.get? b=some o→b≠X.env.locals:=fun b o e=>D5 (Du (Do e) I.ok.above)
 have neC:∀ b o,X.s₀.heap.get? b=some o→b∉X.ex→b∉ch:=fun b o e hx hb=>by
  rcases (hch b hb).1 with z | z
  ·exact hx z
  ·exact absurd (Du (Do e) z) (Ed _)
 have cellK:∀ x c,X.env.cells.lookup x=some c→∀ v,s.heap.IsCell c v→h'.IsCell c v:=fun x c e v ⟨o,ho,hd⟩=>by
  have nch:c∉ch:=fun z=>(hch c z).2.2.1 x c e rfl
  by_cases hc:c∈X.fs
  ·obtain ⟨sl,q⟩:=slot c o (I.cne x c e) hc nch ho (I.freeC x c e)
   exact ⟨_,q,hd⟩
  ·exact ⟨o,keep c o (I.cne x c e) hc nch ho (I.freeC x c e),hd⟩
 refine ⟨I.ok,I.os,hg,⟨fun b o e n hb hx=>?_,fun b o e n hb hx=>?_,fun b o e n hx=>?_,fun b o e hx=>?_,fun b xs e=>tups b xs (I.base.tups b xs e),fun b o xs e=>frzs b o xs (I.base.frzs b o xs e),fun b ps e=>?_⟩,?_,fun x c e=>?_,?_,fun x c e=>?_,fun p hp=>?_,hok,I.len⟩
 ·exact keep b o (neL b o e) hb (neC b o e hx) (I.base.keep b o e n hb hx) (I.base.free b o e n hx)
 ·obtain ⟨sl,e1⟩:=I.base.slot b o e n hb hx
  obtain ⟨sl',e2⟩:=slot b _ (neL b o e) hb (neC b o e hx) e1 (I.base.free b o e n hx)
  exact ⟨sl',e2⟩
 ·obtain ⟨o',e1⟩:=I.base.there b o e hx
  exact free b o' (neC b o e hx) e1 (I.base.free b o e n hx)
 ·obtain ⟨o',e1⟩:=I.base.there b o e hx
  exact there b o' (neC b o e hx) e1
 ·obtain ⟨m1,e1⟩:=I.base.tbls b ps e
  obtain ⟨m2,e2⟩:=tbls b _ e1
  exact ⟨m1++m2,by rw [e2,Array.append_assoc]⟩
 ·obtain ⟨m,hn,hl⟩:=I.loc
  refine ⟨m,ns m hn,fun i x v e1 e2 e3=>?_⟩
  obtain ⟨u,r,l⟩:=hl i x v e1 e2 e3
  refine ⟨u,r,?_⟩
  rcases l with l | ⟨k,c,e,z⟩
  ·exact .inl l
  ·exact .inr ⟨k,c,e,cellK x c e _ z⟩
 ·obtain ⟨v,z⟩:=I.cell x c e
  exact ⟨v,cellK x c e v z⟩
 ·obtain ⟨m,⟨o,_,_,ho,_⟩,_⟩:=I.loc
  exact free _ o (fun z=>(hch _ z).2.1 rfl) ho I.free
 ·obtain ⟨v,o,ho,hd⟩:=I.cell x c e
  exact free c o (fun z=>(hch c z).2.2.1 x c e rfl) ho (I.freeC x c e)
 ·obtain ⟨e,n,ne,nf,d⟩:=I.pin p hp
  have nch:p.1∉ch:=fun z=>(hch p.1 z).2.2.2 p hp rfl
  exact ⟨keep p.1 p.2 ne nf nch e n,free p.1 p.2 nch e n,ne,nf,d⟩
theorem InvW.un {t':Nat}(I:InvW X pins σ H s)(u:Un X.fs [] H H' s.heap h')(hok:HOk X.prog X.w H' h'):InvW X pins σ H' { s with heap:=h',toks:=t' }:=by
 obtain ⟨m,⟨o,es,ep,ho,r⟩,_⟩:=id I.loc
 obtain ⟨sl,hL⟩:=u.any ho I.free (by simp)
 exact I.step (g':=s.gens) (d':=s.drawn) (ch:=[]) (fun _ z=>nomatch z) (fun b o _ hb _ e n=>u.keep b o e n hb (by simp)) (fun b o _ hb _ e n=>u.slot b o e n hb (by simp)) (fun b o _ e n=>u.free b o e n (by simp)) (fun b o _ e=>u.there b o e (by simp)) u.tups u.frzs u.tbls (fun m' hm=>by
  obtain ⟨o',es',ep',ho',r'⟩:=hm
  rw [ho] at ho';cases ho'
  exact ⟨_,es',ep',hL,r'⟩) hok I.bare
theorem InvW.call {g':Array GenState}{t':Nat}{d':Drawn}{ch:List Addr}(I:InvW X pins σ H s)(u:Un (frs X.stack) ch H H' s.heap h')(hok:HOk X.prog X.w H' h')(hg:AllBare g')
  (hch:∀ b∈ch,(b∈X.ex ∨ X.s₀.heap.objs.size≤b)∧b≠X.env.locals∧(∀ x c,X.env.cells.lookup x=some c→c≠b)∧∀ p∈X.pn++pins,p.1≠b) :
  InvW X pins σ H' { s with heap:=h',gens:=g',drawn:=d',toks:=t' }:=by
 obtain ⟨m,⟨o,es,ep,ho,r⟩,_⟩:=id I.loc
 obtain ⟨sl,hL⟩:=u.any ho I.free fun z=>(hch _ z).2.1 rfl
 exact I.step (ch:=ch) hch (fun b o hL hb hc e n=>u.keep b o e n (fun z=>(Dj.mp (I.stkSub b z)).elim hL hb) hc) (fun b o _ _ hc e n=>u.any e n hc) (fun b o hc e n=>u.free b o e n hc) (fun b o hc e=>u.there b o e hc) u.tups u.frzs u.tbls (fun m' hm=>by
  obtain ⟨o',es',ep',ho',r'⟩:=hm
  rw [ho] at ho';cases ho'
  exact ⟨_,es',ep',hL,r'⟩) hok hg
theorem InvW.turned {t':Nat}{it:Addr}(I:InvW X pins σ H s)(k:∀ b o,b≠it→s.heap.get? b=some o→h'.get? b=some o)(hn:H it=none)(hL:it≠X.env.locals)
  (h1:it∈X.ex ∨ X.s₀.heap.objs.size≤it) (h2:∀ x c,X.env.cells.lookup x=some c→c≠it) (h3:∀ p∈X.pn++pins,p.1≠it):InvW X pins σ H { s with heap:=h',toks:=t' }:=by
 have nit:∀ b u,H b=some u→b≠it:=fun b u e z=>by rw [z,hn] at e;cases e
 refine I.step (g':=s.gens) (d':=s.drawn) (ch:=[it]) (fun b hb=>?_) (fun b o _ _ hc e _=>k b o (fun z=>hc (by simp [z])) e) (fun b o _ _ hc e _=>⟨o.slots,k b o (fun z=>hc (by simp [z])) e⟩) (fun _ _ _ _ n=>n)
  (fun b o hc e=>⟨o,k b o (fun z=>hc (by simp [z])) e⟩) (fun _ _ e=>e) (fun _ _ _ e=>e) (fun b ps e=>⟨#[],by rw [e];simp⟩) (fun m hm=>?_) (fun b u e=>?_) I.bare
 ·have e:b=it:=by simpa using hb
  subst e
  exact ⟨h1,hL,h2,h3⟩
 ·obtain ⟨o,es,ep,ho,r⟩:=hm
  exact ⟨o,es,ep,k _ o (Ne.symm hL) ho,r⟩
 ·refine (I.hok b u e).stay (fun c v hc q=>k c v ?_ q) (fun _ q=>q) fun _ _ q=>q
  rcases hc with z | z
  ·rw [z];exact nit b u e
  ·exact nit c _ z
theorem InvW.tok (I:InvW X pins σ H s)(t:Nat):InvW X pins σ H { s with toks:=t }:=I.un (h':=s.heap) (t':=t) Un.refl I.hok
theorem InvW.kept {t':Nat}(I:InvW X pins σ H s)(k:∀ b u,s.heap.get? b=some u→h'.get? b=some u):InvW X pins σ H { s with heap:=h',toks:=t' }:=I.un (Un.kept k) (I.hok.kept k)
theorem InvW.laid {a:Addr}{o:HO}{t':Nat}(I:InvW X pins σ H s)(k:∀ b u,s.heap.get? b=some u→h'.get? b=some u)(hp:s.heap.objs.size≤a)(new:bw X.prog X.w (upd H a o) h' a o) :
  InvW X pins σ (upd H a o) { s with heap:=h',toks:=t' }:=I.un (Un.laid k hp (I.hok.fresh hp)) (I.hok.laid k hp new)
theorem InvW.write {x e:Addr}{o:HO}{t':Nat}(I:InvW X pins σ H s)(mu:Mut (H x))(he:e=x ∨ H e=some (.own x))(k:∀ b u,b≠e→s.heap.get? b=some u→h'.get? b=some u)(heo:∃ u,h'.get? e=some u)
  (new:bw X.prog X.w (upd H x o) h' x o):InvW X pins σ (upd H x o) { s with heap:=h',toks:=t' }:=I.un (Un.write mu he k heo) (I.hok.write mu he k heo new)
theorem InvW.pins_of {pins':List (Addr × Obj)}(I:InvW X pins σ H s)(h:∀ p∈pins',s.heap.get? p.1=some p.2∧H p.1=none∧p.1≠X.env.locals∧p.1∉X.fs∧∀ v,p.2.data ≠ .cell v):InvW X pins' σ H s :=
 ⟨I.ok,I.os,I.bare,I.base,I.loc,I.cell,I.free,I.freeC,fun p hp=>(DB.mp hp).elim (fun z=>I.pin p (DM _ z)) (h p),I.hok,I.len⟩
theorem kI {N:List Str}(hN:N.Nodup){i j:Nat}{x:Str}(a:N[i]? = some x)(b:N[j]? = some x):i=j:=by
 obtain ⟨h1,e1⟩:=Dd.mp a
 obtain ⟨h2,e2⟩:=Dd.mp b
 exact (List.getElem_inj hN).mp (e1.trans e2.symm)
theorem f7 {M:Model}{A:Around}{E:Value→Shared→Prop}{i:Nat}{x:Str}{v:V}{u:Value}{Q:Unit→Shared→Prop}(I:InvW X pins σ H s)(hN:X.N.Nodup)(hi:X.N[i]? = some x)(hx:Loc X.env.scope x)(r:bf v u)
  (h:∀ s',InvW X pins (σ.set i (some v)) H s'→(∃ a,Heap.SameBut a s.heap s'.heap∧(a=X.env.locals ∨ X.env.cells.lookup x=some a))→Q () s') (hf:X.fn x=true ∨ X.env.scope.names.lookup x=some .local:=by first | exact .inl rfl | exact .inr rfl | assumption):wpAny M A (storeName X.env x u) Q E s:=by
 obtain ⟨m,hn,hl⟩:=id I.loc
 have hcls:(X.env.scope.kind == .class || (X.env.scope.kind == .module && X.env.locals != X.env.globals))=false:=by rw [I.ok.kind];rfl
 have hiσ:i < σ.length:=by rw [I.len];exact (Dd.mp hi).1
 have cne:=I.cne
 have tracked:∀ {a:Addr} {h':Heap},(∃ o,s.heap.get? a=some o∧H a=none)→Heap.SameBut a s.heap h'→HOk X.prog X.w H h':=fun {a h'} ha hs b ob e=>by
  obtain ⟨_,_,hfree⟩:=ha
  refine (I.hok b ob e).stay (fun c w' hc q=>(hs.2 c ?_).trans q) (fun _ q=>q) fun _ _ q=>q
  rintro rfl
  rcases hc with rfl | hc
  ·rw [hfree] at e;cases e
  ·rw [hfree] at hc;cases hc
 rcases hx with hk | hk
 ·refine wpAny_storeName_local hk hn (fun h' hn' hs=>?_) hcls
  obtain ⟨oL,_,_,hoL,_⟩:=id hn
  refine h _ ⟨I.ok,I.os,I.bare,⟨fun b o e n hb hx=>?_,fun b o e n hb hx=>?_,I.base.free,fun b o e hx=>?_,I.base.tups,I.base.frzs,I.base.tbls⟩,⟨_,hn',fun j y v' e1 e2 e3=>?_⟩,fun y c e=>?_,I.free,I.freeC,fun p hp=>?_,tracked ⟨oL,hoL,I.free⟩ hs,by simpa using I.len⟩ ⟨_,hs,.inl rfl⟩
  ·exact (hs.2 b (D5 (Du (Do e) I.ok.above))).trans (I.base.keep b o e n hb hx)
  ·obtain ⟨sl,e1⟩:=I.base.slot b o e n hb hx
   exact ⟨sl,(hs.2 b (D5 (Du (Do e) I.ok.above))).trans e1⟩
  ·obtain ⟨o',e1⟩:=I.base.there b o e hx
   exact ⟨o',(hs.2 b (D5 (Du (Do e) I.ok.above))).trans e1⟩
  ·by_cases hj:j=i
   ·subst hj
    rw [hi] at e1;cases e1
    rw [Hz hiσ] at e2
    cases e2
    exact ⟨u,r,.inl ⟨hk,by simp⟩⟩
   ·rw [List.getElem?_set_ne (Ne.symm hj)] at e2
    obtain ⟨u',r',q⟩:=hl j y v' e1 e2 e3
    refine ⟨u',r',?_⟩
    rcases q with ⟨k,e⟩ | ⟨k,c,e,z⟩
    ·refine .inl ⟨k,?_⟩
     have:y≠x:=fun e=>hj (kI hN e1 (e ▸ hi))
     simp [this,e]
    ·exact .inr ⟨k,c,e,z.sameBut hs (cne y c e)⟩
  ·obtain ⟨w',z⟩:=I.cell y c e
   exact ⟨w',z.sameBut hs (cne y c e)⟩
  ·obtain ⟨e,n,ne,nf,d⟩:=I.pin p hp
   exact ⟨(hs.2 p.1 ne).trans e,n,ne,nf,d⟩
 ·have hfn:X.fn x=true:=by
   rcases hf with z | z
   ·exact z
   ·rw [z] at hk;cases hk
  obtain ⟨c,hc⟩:=I.ok.has x (.inl hk)
  obtain ⟨w',z⟩:=I.cell x c hc
  refine wpAny_storeName_cell I.ok.kind hk hc z (fun h' hc' hs=>?_)
  obtain ⟨oc,hoc,hocd⟩:=id z
  refine h { s with heap:=h' } ⟨I.ok,I.os,I.bare,⟨fun b o e n hb hx=>?_,fun b o e n hb hx=>?_,I.base.free,fun b o e hx=>?_,I.base.tups,I.base.frzs,I.base.tbls⟩,⟨m,hn.sameBut hs (Ne.symm (cne x c hc)),fun j y v' e1 e2 e3=>?_⟩,fun y c' e=>?_,I.free,I.freeC,fun p hp=>?_,tracked ⟨oc,hoc,I.freeC x c hc⟩ hs,by simpa using I.len⟩ ⟨c,hs,.inr hc⟩
  ·exact (hs.2 b (D5 (Du (Do e) (I.ok.cab x c hfn hc)))).trans (I.base.keep b o e n hb hx)
  ·obtain ⟨sl,e1⟩:=I.base.slot b o e n hb hx
   exact ⟨sl,(hs.2 b (D5 (Du (Do e) (I.ok.cab x c hfn hc)))).trans e1⟩
  ·obtain ⟨o',e1⟩:=I.base.there b o e hx
   exact ⟨o',(hs.2 b (D5 (Du (Do e) (I.ok.cab x c hfn hc)))).trans e1⟩
  ·by_cases hj:j=i
   ·subst hj
    rw [hi] at e1;cases e1
    rw [Hz hiσ] at e2
    cases e2
    exact ⟨u,r,.inr ⟨.inl hk,c,hc,hc'⟩⟩
   ·rw [List.getElem?_set_ne (Ne.symm hj)] at e2
    obtain ⟨u',r',q⟩:=hl j y v' e1 e2 e3
    refine ⟨u',r',?_⟩
    rcases q with q | ⟨k,c',e,z'⟩
    ·exact .inl q
    ·refine .inr ⟨k,c',e,z'.sameBut hs ?_⟩
     rintro rfl
     exact hj (kI hN e1 (I.ok.inj _ _ _ e hc ▸ hi))
  ·by_cases hcc:c'=c
   ·subst hcc;exact ⟨_,hc'⟩
   ·obtain ⟨w2,z2⟩:=I.cell y c' e
    exact ⟨w2,z2.sameBut hs hcc⟩
  ·obtain ⟨e,n,ne,nf,d⟩:=I.pin p hp
   refine ⟨(hs.2 p.1 ?_).trans e,n,ne,nf,d⟩
   intro q
   rw [q,hoc] at e
   have q':oc=p.2:=Dp e
   exact d w' (by rw [← q'];exact hocd)
theorem InvW.call' {s':Shared}{ch:List Addr}(I:InvW X pins σ H s)(ho:s'.os=s.os)(u:Un (frs X.stack) ch H H' s.heap s'.heap)(hok:HOk X.prog X.w H' s'.heap)(hg:AllBare s'.gens)
  (hch:∀ b∈ch,(b∈X.ex ∨ X.s₀.heap.objs.size≤b)∧b≠X.env.locals∧(∀ x c,X.env.cells.lookup x=some c→c≠b)∧∀ p∈X.pn++pins,p.1≠b):InvW X pins σ H' s':=by
 obtain ⟨h',g',d',t',o'⟩:=s'
 have e:o'=s.os:=ho
 subst e
 exact I.call (g':=g') (t':=t') (d':=d') u hok hg hch
structure Inv (X:Cx) (pins:List (Addr × Obj)) (σ:List (Option V)) (H:Hp) (s:Shared):Prop extends InvW X pins σ H s where
 low:X.lo≤s.toks
instance:Coe (Inv X pins σ H s) (InvW X pins σ H s):=⟨Inv.toInvW⟩
theorem InvW.up {s:Shared}(I:InvW X pins σ H s)(l:X.lo≤s.toks):Inv X pins σ H s:=⟨I,l⟩
theorem wt {α:Type}{M:Model}{A:Around}{t:Sem α}{Q:α→Shared→Prop}{E:Value→Shared→Prop}{n:Nat}{s:Shared}(hn:n≤s.toks)(h:wpAny M A t (fun a s'=>n≤s'.toks→Q a s') E s):wpAny M A t Q E s :=
 wpAny_with_toks hn (Ep h (fun _ _ x=>x) fun _ _ x _=>x)
theorem nH {M:Model}{A:Around}{E:Value→Shared→Prop}{i:Nat}{x:Str}{v:V}{u:Value}{Q:Unit→Shared→Prop}(I:Inv X pins σ H s)(hN:X.N.Nodup)(hi:X.N[i]? = some x)(hx:Loc X.env.scope x)(r:bf v u)
  (h:∀ s',Inv X pins (σ.set i (some v)) H s'→(∃ a,Heap.SameBut a s.heap s'.heap∧(a=X.env.locals ∨ X.env.cells.lookup x=some a))→Q () s') (hf:X.fn x=true ∨ X.env.scope.names.lookup x=some .local:=by first | exact .inl rfl | exact .inr rfl | assumption):wpAny M A (storeName X.env x u) Q E s :=
 wt I.low (f7 I.toInvW hN hi hx r (fun s' I' z l=>h s' ⟨I',l⟩ z) hf)
theorem gL {M:Model}{A:Around}{E:Value→Shared→Prop}{i:Nat}{x:Str}{v:V}{u:Value}{Q:Unit→Shared→Prop}(I:Inv X pins σ H s)(hN:X.N.Nodup)(hi:X.N[i]? = some x)(hx:Loc X.env.scope x)(r:bf v u)
  (h:∀ s',Inv X pins (σ.set i (some v)) H s'→Q () s') (hf:X.fn x=true ∨ X.env.scope.names.lookup x=some .local:=by first | exact .inl rfl | exact .inr rfl | assumption):wpAny M A (storeName X.env x u) Q E s :=
 nH I hN hi hx r (fun s' I' _=>h s' I') hf
theorem Inv.pins_of {pins':List (Addr × Obj)}(I:Inv X pins σ H s)(h:∀ p∈pins',s.heap.get? p.1=some p.2∧H p.1=none∧p.1≠X.env.locals∧p.1∉X.fs∧∀ v,p.2.data ≠ .cell v):Inv X pins' σ H s:=⟨I.toInvW.pins_of h,I.low⟩
end
abbrev XK:=Value→Option Addr→Hp→Prop
abbrev St:=List (Option V)
abbrev VK:=V→Hp→Prop
abbrev TE:=St→Hp→VK→Prop
abbrev TT:=St→Hp→(Bool→Hp→Prop)→Prop
abbrev TA:=St→Hp→(List V→Hp→Prop)→Prop
structure f9 where
 nx:St→Hp→Prop
 rt:VK
 bk:St→Hp→Prop:=fun _ _=>False
 ct:St→Hp→Prop:=fun _ _=>False
abbrev TS:=f9→St→Hp→Prop
def EP (X:Cx)(pins:List (Addr × Obj))(σ:St)(Q:VK)(u:Value)(s':Shared):Prop:=∃ v H',InvW X pins σ H' s'∧bf v u∧Q v H'
def EPs (X:Cx)(pins:List (Addr × Obj))(σ:St)(Q:VK)(u:Value)(s':Shared):Prop:=∃ v H',Inv X pins σ H' s'∧bf v u∧Q v H'
def TP (X:Cx)(pins:List (Addr × Obj))(σ:St)(Q:Bool→Hp→Prop)(b:Bool)(s':Shared):Prop:=∃ H',InvW X pins σ H' s'∧Q b H'
def TPs (X:Cx)(pins:List (Addr × Obj))(σ:St)(Q:Bool→Hp→Prop)(b:Bool)(s':Shared):Prop:=∃ H',Inv X pins σ H' s'∧Q b H'
def AP (X:Cx)(pins:List (Addr × Obj))(σ:St)(Q:List V→Hp→Prop)(us:List Value)(s':Shared):Prop:=∃ vs H',InvW X pins σ H' s'∧aV vs us∧Q vs H'
def APs (X:Cx)(pins:List (Addr × Obj))(σ:St)(Q:List V→Hp→Prop)(us:List Value)(s':Shared):Prop:=∃ vs H',Inv X pins σ H' s'∧aV vs us∧Q vs H'
def SP (X:Cx)(pins:List (Addr × Obj))(D:f9)(f:Flow)(s':Shared):Prop :=
 match f with
 | .next=>∃ σ' H',InvW X pins σ' H' s'∧D.nx σ' H'
 | .brk=>∃ σ' H',InvW X pins σ' H' s'∧D.bk σ' H'
 | .cont=>∃ σ' H',InvW X pins σ' H' s'∧D.ct σ' H'
 | .ret u=>∃ v σ' H',InvW X pins σ' H' s'∧bf v u∧D.rt v H'
def SPs (X:Cx)(pins:List (Addr × Obj))(D:f9)(f:Flow)(s':Shared):Prop :=
 match f with
 | .next=>∃ σ' H',Inv X pins σ' H' s'∧D.nx σ' H'
 | .brk=>∃ σ' H',Inv X pins σ' H' s'∧D.bk σ' H'
 | .cont=>∃ σ' H',Inv X pins σ' H' s'∧D.ct σ' H'
 | .ret u=>∃ v σ' H',Inv X pins σ' H' s'∧bf v u∧D.rt v H'
def PE (X:Cx)(e:Expr)(t:TE):Prop :=
 ∀ (pins:List (Addr × Obj)) (s:Shared) (σ:St) (H:Hp) (Q:VK),Inv X pins σ H s→t σ H Q→wpAny (model X.prog X.w) X.A (eval e X.env) (EP X pins σ Q) X.xe s
def PT (X:Cx)(e:Expr)(t:TT):Prop :=
 ∀ (pins:List (Addr × Obj)) (s:Shared) (σ:St) (H:Hp) (Q:Bool→Hp→Prop),Inv X pins σ H s→t σ H Q→wpAny (model X.prog X.w) X.A (isTrue e X.env (eval e X.env)) (TP X pins σ Q) X.xe s
def PW (X:Cx)(e:Expr)(t:TT):Prop :=
 ∀ (whole:Sem Value) (pins:List (Addr × Obj)) (s:Shared) (σ:St) (H:Hp) (Q:Bool→Hp→Prop),Inv X pins σ H s→t σ H Q→wpAny (model X.prog X.w) X.A (isTrue e X.env whole) (TP X pins σ Q) X.xe s
theorem PW.pt {X:Cx}{e:Expr}{t:TT}(h:PW X e t):PT X e t:=h _
def PA (X:Cx)(es:List Expr)(t:TA):Prop :=
 ∀ (pos:Pos) (pins:List (Addr × Obj)) (s:Shared) (σ:St) (H:Hp) (Q:List V→Hp→Prop),Inv X pins σ H s→t σ H Q→wpAny (model X.prog X.w) X.A (spliced (backTo pos (starEach es X.env))) (AP X pins σ Q) X.xe s
def PS (X:Cx)(st:Stmt)(t:TS):Prop :=
 ∀ (pins:List (Addr × Obj)) (s:Shared) (σ:St) (H:Hp) (D:f9),Inv X pins σ H s→t D σ H→wpAny (model X.prog X.w) X.A (exec st X.env) (SP X pins D) X.xe s
def PSs (X:Cx)(st:List Stmt)(t:TS):Prop :=
 ∀ (pins:List (Addr × Obj)) (s:Shared) (σ:St) (H:Hp) (D:f9),Inv X pins σ H s→t D σ H→wpAny (model X.prog X.w) X.A (execs st X.env) (SP X pins D) X.xe s
class Upg {α:Type} (Q:α→Shared→Prop) (n:outParam Nat) (Q':outParam (α→Shared→Prop)):Prop where
 up:∀ a s,n≤s.toks→Q a s→Q' a s
instance (priority:=low) {α:Type} (Q:α→Shared→Prop):Upg Q 0 Q:=⟨fun _ _ _ h=>h⟩
section
variable {X:Cx} {pins:List (Addr × Obj)} {σ:St}
instance {Q:VK}:Upg (EP X pins σ Q) X.lo (EPs X pins σ Q):=⟨fun _ _ l ⟨v,H,I,r⟩=>⟨v,H,I.up l,r⟩⟩
instance {Q:Bool→Hp→Prop}:Upg (TP X pins σ Q) X.lo (TPs X pins σ Q):=⟨fun _ _ l ⟨H,I,r⟩=>⟨H,I.up l,r⟩⟩
instance {Q:List V→Hp→Prop}:Upg (AP X pins σ Q) X.lo (APs X pins σ Q):=⟨fun _ _ l ⟨v,H,I,r⟩=>⟨v,H,I.up l,r⟩⟩
instance {D:f9}:Upg (SP X pins D) X.lo (SPs X pins D):=⟨fun f _ l h=>match f,h with
 | .next,⟨σ,H,I,r⟩=>⟨σ,H,I.up l,r⟩
 | .brk,⟨σ,H,I,r⟩=>⟨σ,H,I.up l,r⟩
 | .cont,⟨σ,H,I,r⟩=>⟨σ,H,I.up l,r⟩
 | .ret _,⟨v,σ,H,I,r⟩=>⟨v,σ,H,I.up l,r⟩⟩
end
theorem TPs.w {X:Cx}{pins:List (Addr × Obj)}{σ:St}{Q:Bool→Hp→Prop}{b:Bool}{s:Shared}(h:TPs X pins σ Q b s):TP X pins σ Q b s:=let ⟨H,I,r⟩:=h; ⟨H,I.toInvW,r⟩
theorem SPs.w {X:Cx}{pins:List (Addr × Obj)}{D:f9}{f:Flow}{s:Shared}(h:SPs X pins D f s):SP X pins D f s:=match f,h with
 | .next,⟨σ,H,I,r⟩=>⟨σ,H,I.toInvW,r⟩
 | .brk,⟨σ,H,I,r⟩=>⟨σ,H,I.toInvW,r⟩
 | .cont,⟨σ,H,I,r⟩=>⟨σ,H,I.toInvW,r⟩
 | .ret _,⟨v,σ,H,I,r⟩=>⟨v,σ,H,I.toInvW,r⟩
theorem thw {α:Type}{t:Sem α}{Q Q':α→Shared→Prop}{M:Model}{A:Around}{E:Value→Shared→Prop}{s:Shared}(h:wpAny M A t Q E s)(hQ:∀ a s,Q a s→Q' a s):wpAny M A t Q' E s:=Ep h hQ fun _ _ x=>x
theorem thn {α:Type}{t:Sem α}{Q Qs Q':α→Shared→Prop}{n:Nat}{M:Model}{A:Around}{E:Value→Shared→Prop}{s:Shared}(h:wpAny M A t Q E s)[u:Upg Q n Qs](hQ:∀ a s,Qs a s→Q' a s)(hn:n≤s.toks:=by first | exact D2 _ | assumption | (apply Inv.low; assumption)):wpAny M A t Q' E s :=
 wt hn (Ep h (fun a s' x l=>hQ a s' (u.up a s' l x)) fun _ _ x=>x)
section
variable {X:Cx}
inductive Ar (i:Nat)(σ:St)(H:Hp)(Q:VK):Prop
 | mk:∀ v,(σ[i]? = some (some v))→(Q v H)→Ar i σ H Q
def tC (v:V):TE:=fun _ H Q=>Q v H
theorem xO {i:Nat}{x:Str}{pos:Pos}(hN:X.N[i]? = some x)(hv:Vis X.env.scope x)(hd:(x == ("__debug__":Str))=false:=by decide)(hcd:(x == ("__classdict__":Str))=false:=by decide):PE X (.Name x pos) (Ar i):=by
 intro pins s σ H Q I h
 obtain ⟨v,e,h⟩:=h
 obtain ⟨m,hn,hl⟩:=I.loc
 obtain ⟨u,r,l⟩:=hl i x v hN e hv
 have fin:EP X pins σ Q u s:=⟨v,H,I,r,h⟩
 rcases l with ⟨hk,hm⟩ | ⟨hk,c,hc,hcell⟩
 ·exact wpAny_Name (wpAny_loadName_local I.ok.kind hk hn hm fin) hd
 ·rcases hk with hk | hk
  ·exact wpAny_Name (wpAny_loadName_cell I.ok.kind hk hc hcell fin) hd
  ·exact wpAny_Name (wpAny_loadName_free I.ok.kind hk hc hcell fin hcd) hd
theorem aj {i j pos}:PE X (.Constant (.int i) j pos) (tC (.int i)):=fun _ _ _ H _ I h=>wpAny_Constant_int ⟨.int i,H,I.tok _,⟨_,rfl⟩,h⟩
theorem gM {b j pos}:PE X (.Constant (.bool b) j pos) (tC (.bl b)):=fun _ _ _ H _ I h=>Constant_bool ⟨.bl b,H,I,rfl,h⟩
theorem xP {j pos}:PE X (.Constant .none j pos) (tC .non):=fun _ _ _ H _ I h=>Constant_none ⟨.non,H,I,rfl,h⟩
theorem aK {x j pos}:PE X (.Constant (.str x) j pos) (tC (.str x)):=fun _ _ _ H _ I h=>Calls.Constant_str ⟨.str x,H,I.tok _,⟨_,rfl⟩,h⟩
def Gl (X:Cx)(x:Str):Prop:=X.env.kindOf x=some .globalImplicit
theorem c9 {E:Value→Shared→Prop}{pins:List (Addr × Obj)}{s:Shared}{σ:St}{H:Hp}{x:Str}{u:Value}{pos:Pos}{Q:Value→Shared→Prop}(I:Inv X pins σ H s)(hg:Gl X x)(hm:X.mg x=some u)(h:Q u s)
  (hd:(x == ("__debug__":Str))=false:=by decide):wpAny (model X.prog X.w) X.A (eval (.Name x pos) X.env) Q E s :=
 GT I.ok.kind hg (Calls.loadGlobal_global (by rw [I.ok.glob];exact I.mod.glob.keeps I.bk) hm h) hd
theorem i4 {E:Value→Shared→Prop}{pins:List (Addr × Obj)}{s:Shared}{σ:St}{H:Hp}{x:Str}{u:Value}{pos:Pos}{Q:Value→Shared→Prop}(I:Inv X pins σ H s)(hg:Gl X x)(hm:X.mg x=none)(hv:bootBuiltins x=some u)(h:Q u s)
  (hn:x ≠ "__name__":=by decide) (hd:(x == ("__debug__":Str))=false:=by decide):wpAny (model X.prog X.w) X.A (eval (.Name x pos) X.env) Q E s:=by
 obtain ⟨mb,h1,h2⟩:=I.mod.blt
 exact GT I.ok.kind hg (Calls.loadGlobal_builtin (by rw [I.ok.glob];exact I.mod.glob.keeps I.bk) hm (by rw [I.ok.blt];exact h1.keeps I.bk) ((h2 x hn).trans hv) h) hd
theorem eW {x:Str}{v:V}{u:Value}{pos:Pos}(hg:Gl X x)(hm:X.mg x=some u)(r:bf v u)(hd:(x == ("__debug__":Str))=false:=by decide):PE X (.Name x pos) (tC v) :=
 fun _ _ _ H _ I h=>c9 I hg hm ⟨v,H,I,r,h⟩ hd
variable {a b:Expr} {ta tb:TE} {pos:Pos}
def PC (X:Cx)(op:CmpOp)(a b:Expr)(t:TE):Prop :=
 ∀ (pins:List (Addr × Obj)) (s:Shared) (σ:St) (H:Hp) (Q:VK),Inv X pins σ H s→t σ H Q →
  wpAny (model X.prog X.w) X.A (eval a X.env) (fun v s₁=>wpAny (model X.prog X.w) X.A (eval b X.env) (fun u s₂=>wpAny (model X.prog X.w) X.A (compareOp op v u) (EP X pins σ Q) X.xe s₂) X.xe s₁) X.xe s
theorem rg (b:Expr){op:CmpOp}(h:op ≠ .In)(h2:op ≠ .NotIn):behindInMarks op b=false:=by
 have e1:(op == CmpOp.In)=false:=by cases op <;> first | rfl | exact absurd rfl h
 have e2:(op == CmpOp.NotIn)=false:=by cases op <;> first | rfl | exact absurd rfl h2
 cases b <;> simp [behindInMarks,e1,e2]
inductive IsB (x:V)(H:Hp)(Q:Bool→Hp→Prop):Prop
 | mk:∀ c,(x = .bl c)→(Q c H)→IsB x H Q
def AF (Q:(Bool→Hp→Prop)):V→Hp→Prop:=fun x H1=>IsB x H1 Q
def tB (t:TE):TT:=fun σ H Q=>t σ H (AF Q)
theorem xQ {op:CmpOp}{t:TE}(h:PC X op a b t)(h1:behindInMarks op b=false:=by first | exact rg _ (by decide) (by decide) | rfl):PT X (.Compare a [op] [b] pos) (tB t):=by
 intro pins s σ H Q I hw
 refine wpAny_isTrue_Compare1 (thw (h pins s σ H _ I hw) fun v s1 h1=>thw h1 fun u s2 h2=>thw h2 fun c s3 zq5=>?_) h1
 obtain ⟨x,H1,I1,r1,q1⟩:=zq5
 obtain ⟨d,rfl,q⟩:=q1
 cases r1
 exact Ew ⟨H1,I1,q⟩
variable {tA tB':TT} {rest:List Expr}
def uO (u:TT)(σ:St)(Q:(Bool→Hp→Prop)):Bool→Hp→Prop:=fun c H1=>if c=true then u σ H1 Q else Q false H1
def Ck (t u:TT):TT:=fun σ H Q=>t σ H (uO u σ Q)
def i5 (u:TT)(σ:St)(Q:(Bool→Hp→Prop)):Bool→Hp→Prop:=fun c H1=>if c=true then Q true H1 else u σ H1 Q
def tOr (t u:TT):TT:=fun σ H Q=>t σ H (i5 u σ Q)
def jQ (Q:(Bool→Hp→Prop)):Bool→Hp→Prop:=fun c H1=>Q (!c) H1
def Cm (t:TT):TT:=fun σ H Q=>t σ H (jQ Q)
theorem nI (ha:PT X a tA):PW X (.BoolOp .And [a] pos) tA:=by
 intro wh pins s σ H Q I h
 refine isTrue_and (thn (ha pins s σ H Q I h) fun c s1 e=>?_)
 cases c with
 | true=>exact isTrue_and_nil e.w
 | false=>exact e.w
theorem i6 (ha:PT X a tA):PW X (.BoolOp .Or [a] pos) tA:=by
 intro wh pins s σ H Q I h
 refine isTrue_or (thn (ha pins s σ H Q I h) fun c s1 e=>?_)
 cases c with
 | false=>exact isTrue_or_nil e.w
 | true=>exact e.w
theorem tF (ha:PT X a tA)(hb:PW X (.BoolOp .And (b::rest) pos) tB'):PW X (.BoolOp .And (a::b::rest) pos) (Ck tA tB'):=by
 intro wh pins s σ H Q I h
 refine isTrue_and (thn (ha pins s σ H _ I h) fun c s1 zq7=>?_)
 obtain ⟨H1,I1,q1⟩:=zq7
 cases c with
 | true=>exact hb wh pins s1 σ H1 Q I1 q1
 | false=>exact ⟨H1,I1,q1⟩
theorem nJ (ha:PT X a tA)(hb:PW X (.BoolOp .Or (b::rest) pos) tB'):PW X (.BoolOp .Or (a::b::rest) pos) (tOr tA tB'):=by
 intro wh pins s σ H Q I h
 refine isTrue_or (thn (ha pins s σ H _ I h) fun c s1 zq8=>?_)
 obtain ⟨H1,I1,q1⟩:=zq8
 cases c with
 | true=>exact ⟨H1,I1,q1⟩
 | false=>exact hb wh pins s1 σ H1 Q I1 q1
theorem kJ (ha:PT X a tA):PT X (.UnaryOp .Not a pos) (Cm tA):=by
 intro pins s σ H Q I h
 exact isTrue_not (ha pins s σ H (fun c H1=>Q (!c) H1) I h)
def nK (ta:TE)(tb:TE)(σ:St)(Q:VK):Bool→Hp→Prop:=fun c H1=>if c=true then ta σ H1 Q else tb σ H1 Q
def tIf (t:TT)(ta tb:TE):TE:=fun σ H Q=>t σ H (nK ta tb σ Q)
theorem b6 {c:Expr}(hc:PT X c tA)(ha:PE X a ta)(hb:PE X b tb):PE X (.IfExp c a b pos) (tIf tA ta tb):=by
 intro pins s σ H Q I h
 refine wpAny_IfExp (thn (hc pins s σ H _ I h) fun d s1 zq12=>?_)
 obtain ⟨H1,I1,q1⟩:=zq12
 cases d with
 | true=>exact ha pins s1 σ H1 Q I1 q1
 | false=>exact hb pins s1 σ H1 Q I1 q1
end
def SqL (K:PySem.W.Frag)(H:Hp)(a:Addr)(xs:List V):Prop :=
 Rd H a (.lst xs) ∨
  ∃ (o:Obj) (its:Array Value) (n:Nat),K.lookup a=some o∧o.cls = .type "list"∧o.dict=none∧o.data = .seq its n∧its.size≤sizeLine∧aV xs its.toList∧xs.all V.pl=true
def SqT (K:PySem.W.Frag)(H:Hp)(a:Addr)(xs:List V):Prop :=
 Rd H a (.tup xs) ∨
  ∃ (o:Obj) (its:Array Value) (n:Nat),K.lookup a=some o∧o.cls = .type "tuple"∧o.data = .seq its n∧its.size≤sizeLine∧aV xs its.toList∧xs.all V.pl=true
def Cn:Value→Option V
 | .none=>some .non
 | .bool b=>some (.bl b)
 | .int i _=>some (.int i)
 | .str x _=>some (.str x)
 | .bytes b _=>some (.byt b)
 | .float b _=>some (.flt b)
 | .ref a=>some (.ref a)
 | .type n=>some (.ty n)
 | _=>none
theorem bf.abs {x:V}{u:Value}(r:bf x u)(hp:x.pl=true):Cn u=some x:=by
 cases x with
 | tks _ _=>cases hp
 | non=>cases r;rfl
 | bl _=>cases r;rfl
 | int _=>obtain ⟨t,rfl⟩:=r;rfl
 | str _=>obtain ⟨t,rfl⟩:=r;rfl
 | byt _=>obtain ⟨t,rfl⟩:=r;rfl
 | flt _=>obtain ⟨t,rfl⟩:=r;rfl
 | ref _=>cases r;rfl
 | ty _=>cases r;rfl
theorem bf.inj {x y:V}{u:Value}(r:bf x u)(q:bf y u)(hx:x.pl=true)(hy:y.pl=true):x=y:=Dp ((r.abs hx).symm.trans (q.abs hy))
theorem aV.inj:∀ {xs ys:List V} {us:List Value},aV xs us→aV ys us→xs.all V.pl=true→ys.all V.pl=true→xs=ys
 | _,_,_,.nil,.nil,_,_=>rfl
 | _,_,_,.cons r t,.cons r' t',hx,hy=>by
  rw [HS,EK] at hx hy
  rw [r.inj r' hx.1 hy.1,aV.inj t t' hx.2 hy.2]
section
variable {X:Cx} {pins:List (Addr × Obj)} {σ:St} {H:Hp} {s:Shared} {a:Addr} {xs ys:List V}
theorem SqL.of {K:PySem.W.Frag}(h:H a=some (.lst xs)):SqL K H a xs:=.inl (.inl h)
theorem SqT.of {K:PySem.W.Frag}(h:H a=some (.tup xs)):SqT K H a xs:=.inl (.inl h)
theorem Inv.list (I:Inv X pins σ H s)(h:SqL X.K H a xs):∃ its:List Value,aV xs its∧PlainL s.heap a its.toArray∧xs.length≤sizeLine:=by
 rcases h with h | ⟨o,its,n,hk,hc,hd,hs,hz,r,_⟩
 ·obtain ⟨z,its,n,r,e⟩:=h.ok I.hok
  exact ⟨its,r,⟨_,n,e,rfl,rfl,rfl⟩,z⟩
 ·refine ⟨its.toList,r,⟨o,n,I.kIn a o hk,hc,hd,by simpa using hs⟩,?_⟩
  have e:=r.length
  simp only [C9] at e
  omega
theorem Inv.tuple (I:Inv X pins σ H s)(h:SqT X.K H a xs):∃ its:List Value,aV xs its∧IsTup s.heap a its.toArray∧xs.length≤sizeLine:=by
 rcases h with h | ⟨o,its,n,hk,hc,hs,hz,r,_⟩
 ·obtain ⟨z,its,r,p,_⟩:=h.ok I.hok
  exact ⟨its,r,p,z⟩
 ·refine ⟨its.toList,r,⟨o,I.kIn a o hk,hc,n,by simpa using hs⟩,?_⟩
  have e:=r.length
  simp only [C9] at e
  omega
theorem Inv.noRd {u:HO}{o:Obj}(I:Inv X pins σ H s)(h:Rd H a u)(hk:X.K.lookup a=some o):False:=by
 have:=(I.bs a o (I.mod.kin a o hk)).2
 rcases h with h | ⟨_,h⟩ <;> (rw [this] at h;cases h)
theorem Inv.list_inj (I:Inv X pins σ H s)(h:SqL X.K H a xs)(h':SqL X.K H a ys):xs=ys:=by
 rcases h with h | ⟨o,its,n,hk,hc,hd,hs,hz,r,p⟩ <;> rcases h' with h' | ⟨o',its',n',hk',hc',hd',hs',hz',r',p'⟩
 ·rcases h with h | ⟨_,h⟩ <;> rcases h' with h' | ⟨_,h'⟩ <;> (rw [h] at h';cases h';try rfl)
 ·exact (I.noRd h hk').elim
 ·exact (I.noRd h' hk).elim
 ·rw [hk] at hk';cases hk'
  rw [hs] at hs';cases hs'
  exact r.inj r' p p'
theorem Inv.tuple_inj (I:Inv X pins σ H s)(h:SqT X.K H a xs)(h':SqT X.K H a ys):xs=ys:=by
 rcases h with h | ⟨o,its,n,hk,hc,hs,hz,r,p⟩ <;> rcases h' with h' | ⟨o',its',n',hk',hc',hs',hz',r',p'⟩
 ·rcases h with h | ⟨_,h⟩ <;> rcases h' with h' | ⟨_,h'⟩ <;> (rw [h] at h';cases h';try rfl)
 ·exact (I.noRd h hk').elim
 ·exact (I.noRd h' hk).elim
 ·rw [hk] at hk';cases hk'
  rw [hs] at hs';cases hs'
  exact r.inj r' p p'
end
abbrev Cx.wish (X:Cx)(E:Value→Shared→Prop):Cx:={ X with xe:=E }
abbrev Cx.nox (X:Cx):Cx:=X.wish fun _ _=>False
theorem Cx.Ok.wish {X:Cx}(ok:X.Ok)(E:Value→Shared→Prop):(X.wish E).Ok :=
 ⟨ok.mod,ok.kind,ok.glob,ok.blt,ok.above,ok.inj,ok.has,ok.cab,ok.hd,ok.frames,ok.stk,ok.exf,ok.bs,ok.bsz,ok.noex,ok.exfs,ok.funs,ok.frf⟩
theorem Cx.Ok.unwish {X:Cx}{E:Value→Shared→Prop}(ok:(X.wish E).Ok):X.Ok :=
 ⟨ok.mod,ok.kind,ok.glob,ok.blt,ok.above,ok.inj,ok.has,ok.cab,ok.hd,ok.frames,ok.stk,ok.exf,ok.bs,ok.bsz,ok.noex,ok.exfs,ok.funs,ok.frf⟩
section
variable {X:Cx} {pins:List (Addr × Obj)} {σ:St} {H:Hp} {s:Shared} {E:Value→Shared→Prop}
theorem InvW.wish (I:InvW X pins σ H s)(E:Value→Shared→Prop):InvW (X.wish E) pins σ H s:=⟨I.ok.wish E,I.os,I.bare,I.base,I.loc,I.cell,I.free,I.freeC,I.pin,I.hok,I.len⟩
theorem Inv.wish (I:Inv X pins σ H s)(E:Value→Shared→Prop):Inv (X.wish E) pins σ H s:=⟨I.toInvW.wish E,I.low⟩
theorem InvW.unwish (I:InvW (X.wish E) pins σ H s):InvW X pins σ H s:=⟨I.ok.unwish,I.os,I.bare,I.base,I.loc,I.cell,I.free,I.freeC,I.pin,I.hok,I.len⟩
theorem SP.unwish {D:f9}{f:Flow}{s':Shared}(h:SP (X.wish E) pins D f s'):SP X pins D f s':=by
 cases f with
 | next=>obtain ⟨σ',H',I,q⟩:=h;exact ⟨σ',H',I.unwish,q⟩
 | brk=>obtain ⟨σ',H',I,q⟩:=h;exact ⟨σ',H',I.unwish,q⟩
 | cont=>obtain ⟨σ',H',I,q⟩:=h;exact ⟨σ',H',I.unwish,q⟩
 | ret u=>obtain ⟨v,σ',H',I,r,q⟩:=h;exact ⟨v,σ',H',I.unwish,r,q⟩
theorem PSs.nox {st:List Stmt}{t:TS}(h:PSs X.nox st t):PSs X st t:=fun pins s σ H D I hw =>
 Ep (h pins s σ H D (I.wish _) hw) (fun _ _ q=>q.unwish) fun _ _ z=>False.elim z
end
section
variable {X:Cx} {st:Stmt} {rest:List Stmt} {t u:TS} {e:Expr} {te:TE} {pos:Pos}
def AG:TS:=fun D σ H=>D.nx σ H
def BW (t u:TS):TS:=fun D σ H=>t { D with nx:=u D } σ H
theorem aX:PSs X [] AG:=fun _ _ σ H _ I h=>FW ⟨σ,H,I,h⟩
theorem ah (h1:PS X st t)(h2:PSs X rest u):PSs X (st::rest) (BW t u):=by
 intro pins s σ H D I h
 refine wpAny_execs_cons (thn (h1 pins s σ H { D with nx:=u D } I h) fun f s1 q=>?_)
 cases f with
 | next =>
  obtain ⟨σ',H',I',q⟩:=q
  exact h2 pins s1 σ' H' D I' q
 | ret v=>exact q.w
 | brk=>exact q.w
 | cont=>exact q.w
theorem ak (h1:PS X st t):PSs X [st] t:=by
 intro pins s σ H D I h
 refine wpAny_execs_cons (thn (h1 pins s σ H D I h) fun f s1 q=>?_)
 cases f with
 | next=>exact FW q.w
 | ret v=>exact q.w
 | brk=>exact q.w
 | cont=>exact q.w
theorem Inv.quiet {pins:List (Addr × Obj)}{σ:St}{H:Hp}{s:Shared}(I:Inv X pins σ H s):interactive X.env=false:=by simp [interactive,I.ok.kind]
def ri (D:f9)(σ:St):V→Hp→Prop:=fun _ H1=>D.nx σ H1
def AH (te:TE):TS:=fun D σ H=>te σ H (ri D σ)
theorem dQ (he:PE X e te)(hs:swapsWith e none pos.line X.env=pure false:=by rfl):PS X (.Expr e pos) (AH te):=by
 intro pins s σ H D I h
 exact wpAny_Expr_any (thn (he pins s σ H _ I h) fun v s1 zq15=>(by obtain ⟨x,H1,I1,r1,q1⟩:=zq15;exact ⟨σ,H1,I1,q1⟩)) I.quiet hs
def Co (te:TE):TS:=fun D σ H=>te σ H D.rt
theorem aG (he:PE X e te):PS X (.Return (some e) pos) (Co te):=by
 intro pins s σ H D I h
 exact wpAny_Return_some (thn (he pins s σ H _ I h) fun v s1 zq16=>(by obtain ⟨x,H1,I1,r1,q1⟩:=zq16;exact ⟨x,σ,H1,I1,r1,q1⟩))
def b9 (t:TS)(u:TS)(D:f9)(σ:St):Bool→Hp→Prop:=fun b H1=>if b=true then t D σ H1 else u D σ H1
def Cp (c:TT)(t u:TS):TS:=fun D σ H=>c σ H (b9 t u D σ)
theorem bV {c:Expr}{a b:List Stmt}{tc:TT}(hc:PT X c tc)(ha:PSs X a t)(hb:PSs X b u):PS X (.If c a b pos) (Cp tc t u):=by
 intro pins s σ H D I h
 refine wpAny_If (thn (hc pins s σ H _ I h) fun d s1 zq17=>?_)
 obtain ⟨H1,I1,q1⟩:=zq17
 cases d with
 | true=>exact ha pins s1 σ H1 D I1 q1
 | false=>exact hb pins s1 σ H1 D I1 q1
end
abbrev TG:=V→St→Hp→(St→Hp→Prop)→Prop
abbrev TGs:=List V→St→Hp→(St→Hp→Prop)→Prop
def PG (X:Cx)(target:Expr)(t:TG):Prop :=
 ∀ (pins:List (Addr × Obj)) (s:Shared) (σ:St) (H:Hp) (v:V) (u:Value) (Q:St→Hp→Prop),Inv X pins σ H s→bf v u→t v σ H Q →
  wpAny (model X.prog X.w) X.A (assign target X.env u) (fun _ s'=>∃ σ' H',Inv X pins σ' H' s'∧Q σ' H') X.xe s
def PGs (X:Cx)(ts:List Expr)(t:TGs):Prop :=
 ∀ (pins:List (Addr × Obj)) (s:Shared) (σ:St) (H:Hp) (vs:List V) (us:List Value) (Q:St→Hp→Prop),Inv X pins σ H s→aV vs us→t vs σ H Q →
  wpAny (model X.prog X.w) X.A (assignInOrder ((assignEach ts X.env).map (·.2)) us) (fun _ s'=>∃ σ' H',Inv X pins σ' H' s'∧Q σ' H') X.xe s
abbrev TIp:=V→V→Hp→VK→Prop
def PIp (X:Cx)(op:Operator)(t:TIp):Prop :=
 ∀ (pins:List (Addr × Obj)) (s:Shared) (σ:St) (H:Hp) (x y:V) (v u:Value) (Q:VK),Inv X pins σ H s→bf x v→bf y u→t x y H Q →
  wpAny (model X.prog X.w) X.A (inplaceOp op v u) (EP X pins σ Q) X.xe s
section
variable {X:Cx} {pos:Pos}
def mH (i:Nat):TG:=fun v σ H Q=>Q (σ.set i (some v)) H
theorem aP {i:Nat}{x:Str}(hN:X.N.Nodup)(hi:X.N[i]? = some x)(hx:Loc X.env.scope x)(hf:X.fn x=true ∨ X.env.scope.names.lookup x=some .local:=by first | exact .inl rfl | exact .inr rfl | assumption):PG X (.Name x pos) (mH i):=by
 intro pins s σ H v u Q I r h
 exact wpAny_assign_Name (gL I hN hi hx r (fun s' I'=>⟨_,H,I',h⟩) hf)
def Cq:TGs:=fun vs σ H Q=>vs=[]∧Q σ H
def AI (t:TG)(u:TGs):TGs:=fun vs σ H Q=>∃ v r,vs=v::r∧t v σ H fun σ' H'=>u r σ' H' Q
theorem uP:PGs X [] Cq:=by
 intro pins s σ H vs us Q I r h
 obtain ⟨e,h⟩:=h
 subst e
 cases r
 exact assignInOrder_nil ⟨σ,H,I,h⟩
theorem kK {e:Expr}{es:List Expr}{t:TG}{u:TGs}(h1:PG X e t)(h2:PGs X es u)
  (hs:(assignEach (e::es) X.env).map (·.2)=assign e X.env::(assignEach es X.env).map (·.2):=by rfl):PGs X (e::es) (AI t u):=by
 intro pins s σ H vs us Q I r h
 obtain ⟨v,vr,e1,h⟩:=h
 subst e1
 cases r with
 | cons r rr =>
  rw [hs]
  refine assignInOrder_cons (thn (h1 pins s σ H _ _ _ I r h) fun _ s1 zq18=>?_)
  obtain ⟨σ1,H1,I1,q1⟩:=zq18
  exact h2 pins s1 σ1 H1 _ _ Q I1 rr q1
def Cr (K:PySem.W.Frag)(n:Nat)(t:TGs):TG:=fun v σ H Q=>∃ a xs,v = .ref a∧SqT K H a xs∧xs.length=n∧t xs σ H Q
theorem xR {es:List Expr}{k:Nat}{t:TGs}{n:Nat}(hc:X.calm=true)(h:PGs X es t)
  (hn:(assignEach es X.env).length=n:=by rfl) (hst:(assignEach es X.env).findIdx? (·.1)=none:=by rfl):PG X (.Tuple es k pos) (Cr X.K n t):=by
 intro pins s σ H v u Q I r hw
 obtain ⟨a,xs,e1,hq,hl,hw⟩:=hw
 subst e1
 cases r
 obtain ⟨its,rv,ht,hz⟩:=I.tuple hq
 refine assign_Tuple_tuple (I.ok.hd hc) ht (by simp [hn,← hl,rv.length]) hst fun h' hx=>?_
 have I1:Inv X pins σ H { s with heap:=h' }:=(I.kept (t':=s.toks) fun b o e=>hx b o (D5 (Do e)) e).up I.low
 exact h pins _ σ H xs _ Q I1 (by simpa using rv) hw
def eX (g:TG)(D:f9)(σ:St):V→Hp→Prop:=fun x H1=>g x σ H1 D.nx
def BX (te:TE)(g:TG):TS:=fun D σ H=>te σ H (eX g D σ)
theorem aC {i:Nat}{x:Str}{e:Expr}{te:TE}{pos':Pos}(hN:X.N.Nodup)(hi:X.N[i]? = some x)(hx:Loc X.env.scope x)(he:PE X e te)(hs:swapsWith e (some (.Name x pos')) pos.line X.env=pure false:=by rfl)(hf:X.fn x=true ∨ X.env.scope.names.lookup x=some .local:=by first | exact .inl rfl | exact .inr rfl | assumption) :
  PS X (.Assign [.Name x pos'] e pos) (BX te (mH i)):=by
 intro pins s σ H D I h
 refine wpAny_Assign_Name (thn (he pins s σ H _ I h) fun v s1 zq23=>?_) hs
 obtain ⟨y,H1,I1,r1,q1⟩:=zq23
 exact gL I1 hN hi hx r1 (fun s2 I2=>⟨_,H1,I2,q1⟩) hf
inductive BY (i:Nat)(te:TE)(ti:TIp)(D:f9)(σ:St)(H:Hp):Prop
 | mk:∀ x,(σ[i]? = some (some x))→(te σ H fun y H1=>ti x y H1 fun z H2=>D.nx (σ.set i (some z)) H2)→BY i te ti D σ H
theorem xS {i:Nat}{x:Str}{e:Expr}{te:TE}{op:Operator}{ti:TIp}{pos':Pos}(hN:X.N.Nodup)(hi:X.N[i]? = some x)(hx:Loc X.env.scope x)(he:PE X e te)(ho:PIp X op ti)(hf:X.fn x=true ∨ X.env.scope.names.lookup x=some .local:=by first | exact .inl rfl | exact .inr rfl | assumption) :
  PS X (.AugAssign (.Name x pos') op e pos) (BY i te ti):=by
 intro pins s σ H D I h
 obtain ⟨v,e1,h⟩:=h
 obtain ⟨m,hn,hl⟩:=I.loc
 have vis:Vis X.env.scope x:=by rcases hx with k | k;exact .inl k;exact .inr (.inl k)
 obtain ⟨u,r,l⟩:=hl i x v hi e1 vis
 refine wpAny_AugAssign_Name ?_
 have go:wpAny (model X.prog X.w) X.A (eval e X.env) (fun w s₂=>wpAny (model X.prog X.w) X.A (inplaceOp op u w) (fun r s₃=>wpAny (model X.prog X.w) X.A (storeName X.env x r) (fun _=>SP X pins D .next) X.xe s₃) X.xe s₂) X.xe s:=by
  refine thn (he pins s σ H _ I h) fun w s1 zq25=>?_
  obtain ⟨y,H1,I1,r1,q1⟩:=zq25
  refine thn (ho pins s1 σ H1 v y u w _ I1 r r1 q1) fun z s2 zq26=>?_
  obtain ⟨zv,H2,I2,r2,q2⟩:=zq26
  exact gL I2 hN hi hx r2 (fun s3 I3=>⟨_,H2,I3,q2⟩) hf
 rcases l with ⟨hk,hm⟩ | ⟨hk,c,hc,hcell⟩
 ·exact wpAny_loadName_local I.ok.kind hk hn hm go
 ·rcases hk with hk | hk
  ·exact wpAny_loadName_cell I.ok.kind hk hc hcell go
  ·rcases hx with k | k
   ·have:X.env.scope.names.lookup x=some .free:=hk
    rw [k] at this;cases this
   ·have:X.env.scope.names.lookup x=some .free:=hk
    rw [k] at this;cases this
def ipI (f:Int→Int→Int):TIp:=fun x y H Q=>∃ i j,x = .int i∧y = .int j∧Q (.int (f i j)) H
theorem xT:PIp X .Add (ipI fun i j=>i+j):=by
 intro pins s σ H x y v u Q I r1 r2 h
 obtain ⟨i,j,e1,e2,q⟩:=h
 subst e1;subst e2
 obtain ⟨t,rfl⟩:=r1
 obtain ⟨t',rfl⟩:=r2
 exact iadd_int ⟨.int _,H,I.tok _,⟨_,rfl⟩,q⟩
def xU (c:TT)(tb:TS):TS:=fun D σ H=>∃ W:Nat→St→Hp→Prop,(∃ m,W m σ H)∧∀ m σ H,W m σ H →
 c σ H fun b H1=>if b=true then ∃ N:St→Hp→Prop,(∀ σ' H',N σ' H'→∃ m',m' < m∧W m' σ' H')∧tb { D with nx:=N,ct:=N,bk:=D.nx } σ H1 else D.nx σ H1
theorem gN {c:Expr}{body:List Stmt}{tc:TT}{tb:TS}(hp:PassesOwn (model X.prog X.w) X.A X.env X.xe)(hc:PT X c tc)(hb:PSs X body tb):PS X (.While c body [] pos) (xU tc tb):=by
 intro pins s σ H D I h
 obtain ⟨W,⟨m0,w0⟩,turn⟩:=h
 refine wpAny_While (codeAny_whileLoop (fun n s'=>∃ σ' H',Inv X pins σ' H' s'∧W n σ' H') ?_ m0 ⟨σ,H,I,w0⟩)
 rintro n s1 ⟨σ1,H1,I1,w1⟩
 refine Ei hp (thn (hc pins s1 σ1 H1 _ I1 (turn n σ1 H1 w1)) fun b s2 zq33=>?_)
 obtain ⟨H2,I2,q2⟩:=zq33
 cases b with
 | true =>
  obtain ⟨N,hN,q2⟩:=q2
  rw [if_pos rfl]
  refine Ei hp (thn (hb pins s2 σ1 H2 _ I2 q2) fun f s3 q3=>?_)
  cases f with
  | next =>
   obtain ⟨σ3,H3,I3,n3⟩:=q3
   obtain ⟨m',hm,w3⟩:=hN σ3 H3 n3
   exact ⟨m',hm,σ3,H3,I3,w3⟩
  | cont =>
   obtain ⟨σ3,H3,I3,n3⟩:=q3
   obtain ⟨m',hm,w3⟩:=hN σ3 H3 n3
   exact ⟨m',hm,σ3,H3,I3,w3⟩
  | brk=>exact q3.w
  | ret v=>exact q3.w
 | false =>
  rw [if_neg Dy]
  exact FW ⟨σ1,H2,I2,q2⟩
end
structure It where
 go:Nat→Hp→Prop
 yld:Nat→Hp→V→Hp→Prop
 stop:Nat→Hp→Prop
def mI (X:Cx)(pins:List (Addr × Obj))(H:Hp)(b:Addr):Prop :=
 H b=none∧b≠X.env.locals∧b∉X.fs∧(b∈X.ex ∨ X.s₀.heap.objs.size≤b)∧(∀ x c,X.env.cells.lookup x=some c→c≠b)∧∀ p∈X.pn++pins,p.1≠b
theorem Inv.fpOk {X:Cx}{pins:List (Addr × Obj)}{σ:St}{H H':Hp}{s:Shared}{b:Addr}(I:Inv X pins σ H s)(hb:s.heap.objs.size≤b)(hn:H' b=none):mI X pins H' b:=by
 refine ⟨hn,HC (Du I.lt hb),I.nofs hb,.inr (DO I.sz hb),fun x c e z=>?_,fun p hp z=>?_⟩
 ·obtain ⟨v,q⟩:=I.cell x c e
  exact absurd (Du q.lt (by rw [z];exact hb)) (Ed _)
 ·exact absurd (Du (Do (I.pin p hp).1) (by rw [z];exact hb)) (Ed _)
structure xE (P:Program) (w:World) (K:PySem.W.Frag) (tg:Expr) (J:It) (fp:List Addr) (it:Addr) (tn:Nat→Heap→Prop):Prop where
 mem:it∈fp
 obj:∀ i h,tn i h→∀ b∈fp,∃ o,h.get? b=some o∧∀ v,o.data ≠ .cell v
 keep:∀ i h h',tn i h→(∀ b∈fp,∀ o,h.get? b=some o→h'.get? b=some o)→tn i h'
 item:∀ (X:Cx),X.prog=P→X.w=w→X.K=K→X.calm=true→∀ (i:Nat) (pins:List (Addr × Obj)) (s:Shared) (σ:St) (H:Hp) (E:Value→Shared→Prop),Inv X pins σ H s→(∀ b∈fp,mI X pins H b)→tn i s.heap→J.go i H →
  wpAny (model P w) X.A (pyNext (.ref it)) (fun r s1=>∃ u,r=some u ∧
   wpAny (model P w) X.A (letOwnedTupleGo tg (.ref it) u) (fun _ s2=>∃ x H',Inv X pins σ H' s2∧bf x u∧J.yld i H x H'∧tn (i+1) s2.heap∧∀ b∈fp,H' b=none) E s1) E s
 done:∀ (X:Cx),X.prog=P→X.w=w→X.K=K→X.calm=true→∀ (i:Nat) (pins:List (Addr × Obj)) (s:Shared) (σ:St) (H:Hp) (E:Value→Shared→Prop),Inv X pins σ H s→(∀ b∈fp,mI X pins H b)→tn i s.heap→J.stop i H →
  wpAny (model P w) X.A (pyNext (.ref it)) (fun r s1=>r=none∧Inv X pins σ H s1) E s
 self:∀ (A:Around) (i:Nat) (s:Shared) (Q:Value→Shared→Prop) (E:Value→Shared→Prop),tn i s.heap→Q (.ref it) s→wpAny (model P w) A (pyIter (.ref it)) Q E s
abbrev TI:=St→Hp→(It→Hp→Prop)→Prop
def PIE (X:Cx)(pins:List (Addr × Obj))(σ:St)(tg:Expr)(R:It→Hp→Prop)(itv:Value)(s2:Shared):Prop :=
 ∃ (it:Addr) (fp:List Addr) (tn:Nat→Heap→Prop) (J:It) (H':Hp),itv = .ref it∧Inv X pins σ H' s2∧xE X.prog X.w X.K tg J fp it tn∧tn 0 s2.heap∧(∀ b∈fp,mI X pins H' b)∧R J H'
def PI (X:Cx)(tg iter:Expr)(wi:TI):Prop :=
 ∀ (pins:List (Addr × Obj)) (s:Shared) (σ:St) (H:Hp) (R:It→Hp→Prop),Inv X pins σ H s→wi σ H R →
  wpAny (model X.prog X.w) X.A (eval iter X.env) (fun v s1=>wpAny (model X.prog X.w) X.A (pyIter v) (PIE X pins σ tg R) X.xe s1) X.xe s
theorem nM {M:Model}{A:Around}{E:Value→Shared→Prop}{s:Shared}{tg:Expr}{it:Addr}{u:Value}{o:Obj}{n:String}{vs:Array Value}{Q:Unit→Shared→Prop}(ho:s.heap.get? it=some o)(hc:o.cls = .type n)(hd:o.data = .fields vs)
  (hn:["enumerate","zip","dict_itemiterator","dict_reverseitemiterator","odict_iterator","itertools.zip_longest","itertools.pairwise"].contains n=false) (hQ:Q () s):wpAny M A (letOwnedTupleGo tg (.ref it) u) Q E s:=by
 unfold letOwnedTupleGo
 cases tg <;> first
  | exact Dm hQ
  | (cases u <;> first
    | exact Dm hQ
    | (
      refine C5 (wpAny_load ho ?_)
      rw [hc,hd]
      show wpAny M A (if (["enumerate","zip","dict_itemiterator","dict_reverseitemiterator","odict_iterator","itertools.zip_longest","itertools.pairwise"].contains n && vs[0]? == some (rawInt _))=true then _ else _) Q E s
      rw [if_neg (by intro h;rw [hn,Ea] at h;cases h)]
      exact Dm hQ))
def Itl (K:PySem.W.Frag)(a:Addr):It :=
 ⟨fun i H=>∃ xs x,SqL K H a xs∧xs[i]? = some x,fun i H x H'=>H'=H∧∀ xs,SqL K H a xs→xs[i]? = some x,fun i H=>∃ xs,SqL K H a xs∧xs.length≤i⟩
def Itt (K:PySem.W.Frag)(a:Addr):It :=
 ⟨fun i H=>∃ xs x,SqT K H a xs∧xs[i]? = some x,fun i H x H'=>H'=H∧∀ xs,SqT K H a xs→xs[i]? = some x,fun i H=>∃ xs,SqT K H a xs∧xs.length≤i⟩
def Itr (lo:Int)(n:Nat):It:=⟨fun i _=>i < n,fun i H x H'=>H'=H∧x = .int (lo+i),fun i _=>n≤i⟩
theorem nN {P:Program}{w:World}{K:PySem.W.Frag}{tg:Expr}(a it:Addr):xE P w K tg (Itl K a) [it] it (fun i h=>h.IsListIter it a i) where
 mem:=by simp
 obj:=fun i h st b hb=>by
  have e:b=it:=by simpa using hb
  subst e
  obtain ⟨o,e,c,d⟩:=st
  exact ⟨o,e,fun v z=>by rw [d] at z;cases z⟩
 keep:=fun i h h' st k=>st.at fun o e=>k it (by simp) o e
 item:=by
  intro X hP hw hK hc i pins s σ H E I hf st hg
  subst hP hw hK
  obtain ⟨xs,x,hq,hx⟩:=hg
  obtain ⟨its,rv,p,hz⟩:=I.list hq
  obtain ⟨u,hu,ru⟩:=rv.get hx
  obtain ⟨f0,f1,f2,f3,f4,f5⟩:=hf it (by simp)
  refine wpAny_pyNext_list_item st p.isList (x:=u) (by simpa using hu) fun h' st' sb=>?_
  have I1:Inv X pins σ H { s with heap:=h' }:=(I.turned (t':=s.toks) (fun b o hb e=>(sb.2 b hb).trans e) f0 f1 f3 f4 f5).up I.low
  obtain ⟨o,e,c,d⟩:=id st'
  exact ⟨u,rfl,nM (s:={ s with heap:=h' }) e c d (by decide) ⟨x,H,I1,ru,⟨rfl,fun ys hy=>by rw [I.list_inj hy hq];exact hx⟩,st',fun b hb=>(hf b hb).1⟩⟩
 done:=by
  intro X hP hw hK hc i pins s σ H E I hf st hg
  subst hP hw hK
  obtain ⟨xs,hq,hx⟩:=hg
  obtain ⟨its,rv,p,hz⟩:=I.list hq
  obtain ⟨f0,f1,f2,f3,f4,f5⟩:=hf it (by simp)
  have hl:=rv.length
  exact wpAny_pyNext_list_end (I.ok.hd hc) st p.isList (by simp;omega) fun h' eb=>⟨rfl,(I.turned (t':=s.toks) (fun b o hb e=>eb b o hb e) f0 f1 f3 f4 f5).up I.low⟩
 self:=fun _ _ _ _ _ st h=>wpAny_pyIter_listiter st h
theorem mJ {P:Program}{w:World}{K:PySem.W.Frag}{tg:Expr}(a it:Addr):xE P w K tg (Itt K a) [it] it (fun i h=>h.IsTupleIter it a i) where
 mem:=by simp
 obj:=fun i h st b hb=>by
  have e:b=it:=by simpa using hb
  subst e
  obtain ⟨o,e,c,d⟩:=st
  exact ⟨o,e,fun v z=>by rw [d] at z;cases z⟩
 keep:=fun i h h' st k=>st.at fun o e=>k it (by simp) o e
 item:=by
  intro X hP hw hK hc i pins s σ H E I hf st hg
  subst hP hw hK
  obtain ⟨xs,x,hq,hx⟩:=hg
  obtain ⟨its,rv,p,hz⟩:=I.tuple hq
  obtain ⟨u,hu,ru⟩:=rv.get hx
  obtain ⟨f0,f1,f2,f3,f4,f5⟩:=hf it (by simp)
  refine wpAny_pyNext_tuple_item st (show s.heap.IsTuple a its.toArray from p) (x:=u) (by simpa using hu) fun h' st' sb=>?_
  have I1:Inv X pins σ H { s with heap:=h' }:=(I.turned (t':=s.toks) (fun b o hb e=>(sb.2 b hb).trans e) f0 f1 f3 f4 f5).up I.low
  obtain ⟨o,e,c,d⟩:=id st'
  exact ⟨u,rfl,nM (s:={ s with heap:=h' }) e c d (by decide) ⟨x,H,I1,ru,⟨rfl,fun ys hy=>by rw [I.tuple_inj hy hq];exact hx⟩,st',fun b hb=>(hf b hb).1⟩⟩
 done:=by
  intro X hP hw hK hc i pins s σ H E I hf st hg
  subst hP hw hK
  obtain ⟨xs,hq,hx⟩:=hg
  obtain ⟨its,rv,p,hz⟩:=I.tuple hq
  obtain ⟨f0,f1,f2,f3,f4,f5⟩:=hf it (by simp)
  have hl:=rv.length
  exact wpAny_pyNext_tuple_end (I.ok.hd hc) st (show s.heap.IsTuple a its.toArray from p) (by simp;omega) fun h' eb=>⟨rfl,(I.turned (t':=s.toks) (fun b o hb e=>eb b o hb e) f0 f1 f3 f4 f5).up I.low⟩
 self:=fun _ _ _ _ _ st h=>wpAny_pyIter_tupleiter st h
theorem mK {P:Program}{w:World}{K:PySem.W.Frag}{tg:Expr}(it:Addr)(lo:Int)(n:Nat):xE P w K tg (Itr lo n) [it] it (fun i h=>IsRangeIter h it (lo+(i:Nat)*1) ((n:Int) - (i:Nat)) 1) where
 mem:=by simp
 obj:=fun i h st b hb=>by
  have e:b=it:=by simpa using hb
  subst e
  exact ⟨_,st,fun v z=>by
   have z':Data.fields _=Data.cell v:=z
   cases z'⟩
 keep:=fun i h h' st k=>k it (by simp) _ st
 item:=by
  intro X hP hw hK hc i pins s σ H E I hf st hg
  subst hP hw hK
  obtain ⟨f0,f1,f2,f3,f4,f5⟩:=hf it (by simp)
  have W:=Walks.range (prog:=X.prog) (w:=X.w) (I.ok.hd hc) it lo 1 n
  refine wt I.low (W.item i s _ _ hg st fun v h' tk hv st' kk hl=>?_)
  obtain ⟨t,rfl⟩:=hv
  have I1:Inv X pins σ H { s with heap:=h',toks:=tk }:=(I.turned (fun b o hb e=>kk b o (by simpa using hb) e) f0 f1 f3 f4 f5).up hl
  refine ⟨_,rfl,nM (s:={ s with heap:=h',toks:=tk }) (n:="range_iterator") st' rfl rfl (by decide) ⟨.int (lo+i),H,I1,⟨t,?_⟩,⟨rfl,rfl⟩,st',fun b hb=>(hf b hb).1⟩⟩
  rw [Int.mul_one]
 done:=by
  intro X hP hw hK hc i pins s σ H E I hf st hg
  subst hP hw hK
  obtain ⟨f0,f1,f2,f3,f4,f5⟩:=hf it (by simp)
  exact wpAny_pyNext_range_end (I.ok.hd hc) st (by have:n≤i:=hg;omega) fun h' eb=>⟨rfl,(I.turned (t':=s.toks) (fun b o hb e=>eb b o hb e) f0 f1 f3 f4 f5).up I.low⟩
 self:=fun _ _ _ _ _ st h=>wpAny_pyIter_rangeiter st h
section
variable {X:Cx} {tg:Expr}
def AJ (K:PySem.W.Frag)(tl:TE):TI:=fun σ H R=>tl σ H fun x H1=>∃ a,x = .ref a∧(∃ xs,SqL K H1 a xs)∧R (Itl K a) H1
def Ct (K:PySem.W.Frag)(tl:TE):TI:=fun σ H R=>tl σ H fun x H1=>∃ a,x = .ref a∧(∃ xs,SqT K H1 a xs)∧R (Itt K a) H1
theorem uQ {l:Expr}{tl:TE}(hl:PE X l tl):PI X tg l (AJ X.K tl):=by
 intro pins s σ H R I h
 refine thn (hl pins s σ H _ I h) fun v s1 zq34=>?_
 obtain ⟨x,H1,I1,r1,q1⟩:=zq34
 obtain ⟨a,e,⟨xs,hq⟩,q⟩:=q1
 subst e
 cases r1
 obtain ⟨its,rv,p,hz⟩:=I1.list hq
 refine Hc p.isList ?_
 refine ⟨s1.heap.objs.size,[s1.heap.objs.size],_,_,H1,rfl,(I1.kept (t':=s1.toks) fun b o e=>C6 _ e).up I1.low,nN a _,⟨_,Dv _ rfl,rfl,rfl⟩,fun b hb=>?_,q⟩
 have e:b=s1.heap.objs.size:=by simpa using hb
 subst e
 exact I1.fpOk (Da _) (I1.hok.fresh (Da _))
theorem nO {l:Expr}{tl:TE}(hl:PE X l tl):PI X tg l (Ct X.K tl):=by
 intro pins s σ H R I h
 refine thn (hl pins s σ H _ I h) fun v s1 zq35=>?_
 obtain ⟨x,H1,I1,r1,q1⟩:=zq35
 obtain ⟨a,e,⟨xs,hq⟩,q⟩:=q1
 subst e
 cases r1
 obtain ⟨its,rv,p,hz⟩:=I1.tuple hq
 refine wpAny_pyIter_tuple (show s1.heap.IsTuple a its.toArray from p) ?_
 refine ⟨s1.heap.objs.size,[s1.heap.objs.size],_,_,H1,rfl,(I1.kept (t':=s1.toks) fun b o e=>C6 _ e).up I1.low,mJ a _,⟨_,Dv _ rfl,rfl,rfl⟩,fun b hb=>?_,q⟩
 have e:b=s1.heap.objs.size:=by simpa using hb
 subst e
 exact I1.fpOk (Da _) (I1.hok.fresh (Da _))
theorem kL {pins:List (Addr × Obj)}{σ:St}{H:Hp}{s:Shared}{R:It→Hp→Prop}{E:Value→Shared→Prop}{lo hi:Int}{t u v:Tok}{tk:Nat}(I:Inv X pins σ H s)(h1:-(2 ^ 62)≤lo)(h2:lo < 2 ^ 62)(h3:-(2 ^ 62)≤hi)(h4:hi < 2 ^ 62)
  (q:R (Itr lo (hi - lo).toNat) H) (hk:X.lo≤tk):wpAny (model X.prog X.w) X.A (pyIter (.ref s.heap.objs.size)) (PIE X pins σ tg R) E { s with heap:=s.heap.push { cls:=.type "range",data:=.fields #[.int lo t,.int hi u,.int 1 v] },toks:=tk }:=by
 refine wpAny_pyIter_range (IsRange.new ..) (small_one h1 h2 h3 h4) ?_
 have I1:Inv X pins σ H { s with heap:=s.heap.push { cls:=.type "range",data:=.fields #[.int lo t,.int hi u,.int 1 v] },toks:=tk }:=(I.kept fun b o e=>C6 _ e).up hk
 refine ⟨(s.heap.push { cls:=.type "range",data:=.fields #[.int lo t,.int hi u,.int 1 v] }).objs.size,[(s.heap.push { cls:=.type "range",data:=.fields #[.int lo t,.int hi u,.int 1 v] }).objs.size],_,_,H,rfl,
  (I1.kept (t':=tk) fun b o e=>C6 _ e).up hk,mK _ lo (hi - lo).toNat,?_,fun b hb=>?_,q⟩
 ·have e1:lo+((0:Nat):Int)*1=lo:=by simp
  have e2:(((hi - lo).toNat:Nat):Int) - ((0:Nat):Int)=Builtin.Range.rangeSize lo hi 1:=by rw [rangeSize_one];split <;> omega
  show IsRangeIter _ _ (lo+((0:Nat):Int)*1) ((((hi - lo).toNat:Nat):Int) - ((0:Nat):Int)) 1
  rw [e1,e2]
  exact Dv _ rfl
 ·have e:b=(s.heap.push { cls:=.type "range",data:=.fields #[.int lo t,.int hi u,.int 1 v] }).objs.size:=by simpa using hb
  subst e
  exact I1.fpOk (Da _) (I1.hok.fresh (Da _))
def AK (ta:TA):TI:=fun σ H R=>ta σ H fun vs H1=>∃ j:Int,vs=[.int j]∧-(2 ^ 62)≤j∧j < 2 ^ 62∧R (Itr 0 j.toNat) H1
def AL (ta:TA):TI:=fun σ H R=>ta σ H fun vs H1=>∃ i j:Int,vs=[.int i,.int j]∧(-(2 ^ 62)≤i∧i < 2 ^ 62∧-(2 ^ 62)≤j∧j < 2 ^ 62)∧R (Itr i (j - i).toNat) H1
theorem bt {a:Expr}{ta:TA}{p pos:Pos}(hg:Gl X "range")(hm:X.mg "range" = none)(ha:PA X [a] ta)(hs:starEach [a] X.env=[(false,eval a X.env)]:=by rfl):PI X tg (.Call (.Name "range" p) [a] [] pos) (AK ta):=by
 intro pins s σ H R I h
 refine Call_ (i4 I hg hm boot_range (ET (thn (ha pos pins s σ H _ I h) fun us s1 zq36=>?_) hs rfl))
 obtain ⟨vs,H1,I1,r1,q1⟩:=zq36
 obtain ⟨j,e,q1,q2,q⟩:=q1
 subst e
 cases r1 with
 | cons r rr =>
  cases rr
  obtain ⟨t,rfl⟩:=r
  exact wt I1.low (call_range_1 fun hl=>kL I1 (by omega) (by omega) q1 q2 (by simpa using q) hl)
theorem nP {a b:Expr}{ta:TA}{p pos:Pos}(hg:Gl X "range")(hm:X.mg "range" = none)(ha:PA X [a,b] ta)(hs:starEach [a,b] X.env=[(false,eval a X.env),(false,eval b X.env)]:=by rfl)(hs2:starEach [b] X.env=[(false,eval b X.env)]:=by rfl) :
  PI X tg (.Call (.Name "range" p) [a,b] [] pos) (AL ta):=by
 intro pins s σ H R I h
 refine Call_ (i4 I hg hm boot_range (ET (thn (ha pos pins s σ H _ I h) fun us s1 zq37=>?_) (by rw [hs,hs2]) (by rw [hs2];rfl)))
 obtain ⟨vs,H1,I1,r1,q1⟩:=zq37
 obtain ⟨i,j,e,⟨q1,q2,q3,q4⟩,q⟩:=q1
 subst e
 cases r1 with
 | cons r rr =>
  cases rr with
  | cons r' rr =>
   cases rr
   obtain ⟨t,rfl⟩:=r
   obtain ⟨t',rfl⟩:=r'
   exact wt I1.low (call_range_2 fun hl=>kL I1 q1 q2 q3 q4 q hl)
def Cu (wi:TI)(g:TG)(tb:TS):TS:=fun D σ H=>wi σ H fun J H1=>∃ W:Nat→Nat→St→Hp→Prop,(∃ m,W 0 m σ H1)∧∀ i m σ H,W i m σ H →
 (J.stop i H∧D.nx σ H) ∨ (J.go i H∧∃ N:St→Hp→Prop,(∀ σ' H',N σ' H'→∃ m',m' < m∧W (i+1) m' σ' H')∧∀ x H',J.yld i H x H'→g x σ H' fun σ2 H2=>tb { D with nx:=N,ct:=N,bk:=D.nx } σ2 H2)
def f_ (fp:List Addr)(h:Heap):List (Addr × Obj):=fp.filterMap fun b=>(h.get? b).map fun o=>(b,o)
theorem bE {fp:List Addr}{h:Heap}{b:Addr}{o:Obj}(hb:b∈fp)(e:h.get? b=some o):(b,o)∈f_ fp h:=GZ.mpr ⟨b,hb,by rw [e]; rfl⟩
theorem nQ {fp:List Addr}{h:Heap}{p:Addr × Obj}(hp:p∈f_ fp h):p.1∈fp∧h.get? p.1=some p.2:=by
 obtain ⟨b,hb,e⟩:=GZ.mp hp
 cases q:h.get? b with
 | none=>rw [q] at e;cases e
 | some o =>
  rw [q] at e
  have e':(b,o)=p:=Dp e
  subst e'
  exact ⟨hb,q⟩
theorem Inv.pinned {pins:List (Addr × Obj)}{σ:St}{H:Hp}{s:Shared}{fp:List Addr}(I:Inv X pins σ H s)(hf:∀ b∈fp,mI X pins H b)(ho:∀ b∈fp,∃ o,s.heap.get? b=some o∧∀ v,o.data ≠ .cell v):Inv X (pins++f_ fp s.heap) σ H s :=
 I.pins_of fun p hp=>(DB.mp hp).elim (fun z=>I.pin p (Di _ z)) fun z=>by
  obtain ⟨hb,e⟩:=nQ z
  obtain ⟨f0,f1,f2,_⟩:=hf p.1 hb
  obtain ⟨o,e',d⟩:=ho p.1 hb
  rw [e] at e';cases e'
  exact ⟨e,f0,f1,f2,d⟩
theorem Inv.unpinned {pins pl:List (Addr × Obj)}{σ:St}{H:Hp}{s:Shared}(I:Inv X (pins++pl) σ H s):Inv X pins σ H s:=I.pins_of fun p hp=>I.pin p (Di _ (DM _ hp))
theorem ei {iter:Expr}{body:List Stmt}{wi:TI}{g:TG}{tb:TS}{pos:Pos}(hp:PassesOwn (model X.prog X.w) X.A X.env X.xe)(hc:X.calm=true)(hi:PI X tg iter wi)(hg:PG X tg g)(hb:PSs X body tb)
  (hs:∀ x,foldedSetIterable iter X.env x=pure x:=by intro _;rfl):PS X (.For tg iter body [] pos) (Cu wi g tb):=by
 intro pins s σ H D I h
 refine wpAny_For (thn (hi pins s σ H _ I h) fun v s1 h1=>thn h1 fun itv s2 h2=>?_) hs
 obtain ⟨it,fp,tn,J,H2,e,I2,T,st2,f2,W,⟨m0,w0⟩,turn⟩:=h2
 subst e
 -- what stays true of the iterator's objects through the loop
 have stat:∀ {H':Hp},(∀ b∈fp,H' b=none)→∀ b∈fp,mI X pins H' b:=fun hn b hb=>⟨hn b hb,(f2 b hb).2⟩
 refine codeAny_forLoop_any (fun n s'=>∃ i σ' H',Inv X pins σ' H' s'∧tn i s'.heap∧(∀ b∈fp,H' b=none)∧W i n σ' H') ?_ m0 ⟨0,σ,H2,I2,st2,fun b hb=>(f2 b hb).1,w0⟩
 rintro n s3 ⟨i,σ3,H3,I3,st3,fr3,w3⟩
 rcases turn i n σ3 H3 w3 with ⟨stop,qn⟩ | ⟨go,N,hN,step⟩
 ·refine Ei hp (thn (T.done X rfl rfl rfl hc i pins s3 σ3 H3 X.xe I3 (stat fr3) st3 stop) fun r s4 zq38=>?_)
  obtain ⟨hr,I4⟩:=zq38
  subst hr
  exact FW ⟨σ3,H3,I4,qn⟩
 ·refine Ei hp (thn (T.item X rfl rfl rfl hc i pins s3 σ3 H3 X.xe I3 (stat fr3) st3 go) fun r s4 zq39=>?_)
  obtain ⟨u,hr,h4⟩:=zq39
  subst hr
  refine Ei hp (thn h4 fun _ s5 zq40=>?_)
  obtain ⟨x,H5,I5,r5,y5,st5,fr5⟩:=zq40
  have I5':=I5.pinned (stat fr5) (T.obj _ _ st5)
  refine Ei hp (thn (hg _ s5 σ3 H5 x u _ I5' r5 (step x H5 y5)) fun _ s6 zq41=>?_)
  obtain ⟨σ6,H6,I6,q6⟩:=zq41
  refine Ei hp (thn (hb _ s6 σ6 H6 _ I6 q6) fun f s7 q7=>?_)
  have again:∀ {σ7:St} {H7:Hp},Inv X (pins++f_ fp s5.heap) σ7 H7 s7→N σ7 H7→∃ m,m < n∧∃ i σ' H',Inv X pins σ' H' s7∧tn i s7.heap∧(∀ b∈fp,H' b=none)∧W i m σ' H':=fun {σ7 H7} I7 n7=>by
   obtain ⟨m',hm,w7⟩:=hN σ7 H7 n7
   refine ⟨m',hm,i+1,σ7,H7,I7.unpinned,T.keep _ _ _ st5 fun b hb o e=>(I7.pin (b,o) (Di _ (Di _ (bE hb e)))).1,fun b hb=>?_,w7⟩
   obtain ⟨o,e,d⟩:=T.obj _ _ st5 b hb
   exact (I7.pin (b,o) (Di _ (Di _ (bE hb e)))).2.1
  cases f with
  | next=>obtain ⟨σ7,H7,I7,n7⟩:=q7;exact again I7 n7
  | cont=>obtain ⟨σ7,H7,I7,n7⟩:=q7;exact again I7 n7
  | brk=>obtain ⟨σ7,H7,I7,q7⟩:=q7;exact ⟨σ7,H7,I7.unpinned,q7⟩
  | ret v=>obtain ⟨x7,σ7,H7,I7,r7,q7⟩:=q7;exact ⟨x7,σ7,H7,I7.unpinned,r7,q7⟩
end
theorem rj {K:PySem.W.Frag}{a:Addr}{xs:List V}{g:TG}{tb:TS}{D:f9}{σ:St}{H:Hp}(Pv:Nat→St→Hp→Prop)(h0:Pv 0 σ H)(hl:∀ i σ H,i≤xs.length→Pv i σ H→SqL K H a xs)
  (hs:∀ i x σ H,xs[i]? = some x→Pv i σ H→g x σ H fun σ2 H2=>tb { D with nx:=Pv (i+1),ct:=Pv (i+1),bk:=D.nx } σ2 H2) (hd:∀ σ H,Pv xs.length σ H→D.nx σ H) :
  ∃ W:Nat→Nat→St→Hp→Prop,(∃ m,W 0 m σ H)∧∀ i m σ H,W i m σ H →
   ((Itl K a).stop i H∧D.nx σ H) ∨ ((Itl K a).go i H∧∃ N:St→Hp→Prop,(∀ σ' H',N σ' H'→∃ m',m' < m∧W (i+1) m' σ' H')∧∀ x H',(Itl K a).yld i H x H'→g x σ H' fun σ2 H2=>tb { D with nx:=N,ct:=N,bk:=D.nx } σ2 H2):=by
 refine ⟨fun i m σ H=>m=xs.length - i∧i≤xs.length∧Pv i σ H,⟨xs.length,by simp,D2 _,h0⟩,?_⟩
 rintro i m σ H ⟨rfl,hi,p⟩
 have q:=hl i σ H hi p
 by_cases hlt:i < xs.length
 ·refine .inr ⟨⟨xs,xs[i],q,by simp [hlt]⟩,Pv (i+1),fun σ' H' p'=>⟨xs.length - (i+1),by omega,rfl,hlt,p'⟩,fun x H' y=>?_⟩
  obtain ⟨e,y⟩:=y
  subst e
  exact hs i x σ _ (y xs q) p
 ·have e:i=xs.length:=by omega
  subst e
  exact .inl ⟨⟨xs,q,Da _⟩,hd σ H p⟩
theorem ck {lo:Int}{n:Nat}{g:TG}{tb:TS}{D:f9}{σ:St}{H:Hp}(Pv:Nat→St→Hp→Prop)(h0:Pv 0 σ H)
  (hs:∀ i σ H,i < n→Pv i σ H→g (.int (lo+i)) σ H fun σ2 H2=>tb { D with nx:=Pv (i+1),ct:=Pv (i+1),bk:=D.nx } σ2 H2) (hd:∀ σ H,Pv n σ H→D.nx σ H) :
  ∃ W:Nat→Nat→St→Hp→Prop,(∃ m,W 0 m σ H)∧∀ i m σ H,W i m σ H →
   ((Itr lo n).stop i H∧D.nx σ H) ∨ ((Itr lo n).go i H∧∃ N:St→Hp→Prop,(∀ σ' H',N σ' H'→∃ m',m' < m∧W (i+1) m' σ' H')∧∀ x H',(Itr lo n).yld i H x H'→g x σ H' fun σ2 H2=>tb { D with nx:=N,ct:=N,bk:=D.nx } σ2 H2):=by
 refine ⟨fun i m σ H=>m=n - i∧i≤n∧Pv i σ H,⟨n,by simp,D2 _,h0⟩,?_⟩
 rintro i m σ H ⟨rfl,hi,p⟩
 by_cases hlt:i < n
 ·refine .inr ⟨hlt,Pv (i+1),fun σ' H' p'=>⟨n - (i+1),by omega,rfl,hlt,p'⟩,fun x H' y=>?_⟩
  obtain ⟨e,y⟩:=y
  subst e y
  exact hs i σ _ hlt p
 ·have e:i=n:=by omega
  subst e
  exact .inl ⟨Da _,hd σ H p⟩
abbrev R2:=V→V→Hp→VK→Prop
def OpR (X:Cx)(f:Value→Value→Sem Value)(r:R2):Prop :=
 ∀ (pins:List (Addr × Obj)) (s:Shared) (σ:St) (H:Hp) (x y:V) (v u:Value) (Q:VK),Inv X pins σ H s→bf x v→bf y u→r x y H Q →
  wpAny (model X.prog X.w) X.A (f v u) (EP X pins σ Q) X.xe s
def UnR (X:Cx)(f:Value→Sem Value)(r:V→Hp→VK→Prop):Prop :=
 ∀ (pins:List (Addr × Obj)) (s:Shared) (σ:St) (H:Hp) (x:V) (v:Value) (Q:VK),Inv X pins σ H s→bf x v→r x H Q →
  wpAny (model X.prog X.w) X.A (f v) (EP X pins σ Q) X.xe s
def c_ (X:Cx)(f:Value)(r:List V→Hp→VK→Prop):Prop :=
 ∀ (pins:List (Addr × Obj)) (s:Shared) (σ:St) (H:Hp) (xs:List V) (us:List Value) (Q:VK),Inv X pins σ H s→aV xs us→r xs H Q →
  wpAny (model X.prog X.w) X.A (call f us) (EP X pins σ Q) X.xe s
def Cv (X:Cx)(r:V→Hp→(Bool→Hp→Prop)→Prop):Prop :=
 ∀ (pins:List (Addr × Obj)) (s:Shared) (σ:St) (H:Hp) (x:V) (v:Value) (Q:Bool→Hp→Prop),Inv X pins σ H s→bf x v→r x H Q →
  wpAny (model X.prog X.w) X.A (truthy v) (TP X pins σ Q) X.xe s
def xV (r:R2)(Q:VK)(x:V):V→Hp→Prop:=fun y H2=>r x y H2 Q
def xW (r:R2)(tb:TE)(σ:St)(Q:VK):V→Hp→Prop:=fun x H1=>tb σ H1 (xV r Q x)
def tOp (r:R2)(ta tb:TE):TE:=fun σ H Q=>ta σ H (xW r tb σ Q)
def xX (r:V→Hp→VK→Prop)(Q:VK):V→Hp→Prop:=fun x H1=>r x H1 Q
def tUn (r:V→Hp→VK→Prop)(ta:TE):TE:=fun σ H Q=>ta σ H (xX r Q)
inductive rI (C:Int→Int→Prop)(g:Int→Int→V)(x:V)(y:V)(H:Hp)(Q:VK):Prop
 | mk:∀ i j,(x = .int i)→(y = .int j)→(C i j)→(Q (g i j) H)→rI C g x y H Q
inductive rI0 (g:Int→Int→V)(x:V)(y:V)(H:Hp)(Q:VK):Prop
 | mk:∀ i j,(x = .int i)→(y = .int j)→(Q (g i j) H)→rI0 g x y H Q
inductive rU (g:Int→V)(x:V)(H:Hp)(Q:VK):Prop
 | mk:∀ i,(x = .int i)→(Q (g i) H)→rU g x H Q
section
variable {X:Cx} {a b c:Expr} {ta tb tc:TE} {pos:Pos}
theorem AM (ha:PE X a ta)(hb:PE X b tb){pins:List (Addr × Obj)}{s:Shared}{σ:St}{H:Hp}{R:V→V→Hp→Prop}(I:Inv X pins σ H s)
  (h:ta σ H fun x H1=>tb σ H1 fun y H2=>R x y H2) {Q:Value→Shared→Prop} {f:Value→Value→Sem Value}
  (hf:∀ v u s2 x y H2,Inv X pins σ H2 s2→bf x v→bf y u→R x y H2→wpAny (model X.prog X.w) X.A (f v u) Q X.xe s2) :
  wpAny (model X.prog X.w) X.A (eval a X.env) (fun v s₁=>wpAny (model X.prog X.w) X.A (eval b X.env) (fun u s₂=>wpAny (model X.prog X.w) X.A (f v u) Q X.xe s₂) X.xe s₁) X.xe s:=by
 refine thn (ha pins s σ H _ I h) fun v s1 zq42=>?_
 obtain ⟨x,H1,I1,r1,q1⟩:=zq42
 refine thn (hb pins s1 σ H1 _ I1 q1) fun u s2 zq43=>?_
 obtain ⟨y,H2,I2,r2,q2⟩:=zq43
 exact hf v u s2 x y H2 I2 r1 r2 q2
theorem aI {op:Operator}{r:R2}(ho:OpR X (binaryOp op) r)(ha:PE X a ta)(hb:PE X b tb):PE X (.BinOp a op b pos) (tOp r ta tb):=by
 intro pins s σ H Q I h
 exact wpAny_BinOp (AM ha hb I h fun v u s2 x y H2 I2 rx ry q=>ho pins s2 σ H2 x y v u Q I2 rx ry q)
theorem mL {op:UnaryOp}{r:V→Hp→VK→Prop}(ho:UnR X (unaryOp op) r)(ha:PE X a ta):PE X (.UnaryOp op a pos) (tUn r ta):=by
 intro pins s σ H Q I h
 exact UnaryOp_ (thn (ha pins s σ H _ I h) fun v s1 zq44=>(by obtain ⟨x,H1,I1,r1,q1⟩:=zq44;exact ho pins s1 σ H1 x v Q I1 r1 q1))
theorem opI {f:Value→Value→Sem Value}{C:Int→Int→Prop}{g:Int→Int→Int}
  (rule:∀ (i j:Int) (t u:Tok) (s:Shared) (Q:Value→Shared→Prop) (E:Value→Shared→Prop),C i j→Q (.int (g i j) s.toks) { s with toks:=s.toks+1 }→wpAny (model X.prog X.w) X.A (f (.int i t) (.int j u)) Q E s) :
  OpR X f (rI C fun i j=>.int (g i j)):=by
 intro pins s σ H x y v u Q I rx ry h
 obtain ⟨i,j,rfl,rfl,hc,q⟩:=h
 obtain ⟨t,rfl⟩:=rx
 obtain ⟨t',rfl⟩:=ry
 exact rule i j t t' s _ _ hc ⟨.int (g i j),H,I.tok _,⟨_,rfl⟩,q⟩
theorem BZ {f:Value→Value→Sem Value}{g:Int→Int→Int}
  (rule:∀ (i j:Int) (t u:Tok) (s:Shared) (Q:Value→Shared→Prop) (E:Value→Shared→Prop),Q (.int (g i j) s.toks) { s with toks:=s.toks+1 }→wpAny (model X.prog X.w) X.A (f (.int i t) (.int j u)) Q E s) :
  OpR X f (rI0 fun i j=>.int (g i j)):=by
 intro pins s σ H x y v u Q I rx ry h
 obtain ⟨i,j,rfl,rfl,q⟩:=h
 obtain ⟨t,rfl⟩:=rx
 obtain ⟨t',rfl⟩:=ry
 exact rule i j t t' s _ _ ⟨.int (g i j),H,I.tok _,⟨_,rfl⟩,q⟩
theorem AN {f:Value→Value→Sem Value}{g:Int→Int→Bool}
  (rule:∀ (i j:Int) (t u:Tok) (s:Shared) (Q:Value→Shared→Prop) (E:Value→Shared→Prop),Q (.bool (g i j)) s→wpAny (model X.prog X.w) X.A (f (.int i t) (.int j u)) Q E s) :
  OpR X f (rI0 fun i j=>.bl (g i j)):=by
 intro pins s σ H x y v u Q I rx ry h
 obtain ⟨i,j,rfl,rfl,q⟩:=h
 obtain ⟨t,rfl⟩:=rx
 obtain ⟨t',rfl⟩:=ry
 exact rule i j t t' s _ _ ⟨.bl (g i j),H,I,rfl,q⟩
def Cw (i j:Int):Prop:=0 < j∧j < 1073741824
def Cz (i j:Int):Prop:=0≤j∧j≤1000000∧i.natAbs < 2 ^ 64
def As (i j:Int):Prop:=(-(2 ^ 64) < i∧i < 2 ^ 64) ∨ (-(2 ^ 64) < j∧j < 2 ^ 64)
theorem As.ok {i j:Int}(h:As i j):IntMulOk i j:=by
 rcases h with ⟨h1,h2⟩ | ⟨h1,h2⟩
 ·exact .of_left (intBits_le_64 h1 h2)
 ·exact .of_right (intBits_le_64 h1 h2)
theorem bA:OpR X (binaryOp .Add) (rI0 fun i j=>.int (i+j)):=BZ fun _ _ _ _ _ _ _ q=>add_int q
theorem cn:OpR X (binaryOp .Sub) (rI0 fun i j=>.int (i - j)):=BZ fun _ _ _ _ _ _ _ q=>sub_int q
theorem eY:OpR X (binaryOp .Mult) (rI As fun i j=>.int (i*j)):=opI fun _ _ _ _ _ _ _ hc q=>mul_int q hc.ok
theorem bR:OpR X (binaryOp .FloorDiv) (rI Cw fun i j=>.int (i / j)):=opI fun i j _ _ _ _ _ hc q=>by
 have h1:(0:Int) < j:=hc.1
 have h2:j < 1073741824:=hc.2
 exact floordiv_int (by omega) (by rw [Int.fdiv_eq_ediv_of_nonneg i (by omega)];exact q) (.inl (PyProof.noPylong_small (by omega)))
theorem cV:OpR X (binaryOp .Mod) (rI (fun _ j=>0 < j) fun i j=>.int (i % j)):=opI fun i j _ _ _ _ _ hc q=>by
 have h1:(0:Int) < j:=hc
 exact mod_int' (by omega) (by rw [Int.fmod_eq_emod_of_nonneg i (by omega)];exact q)
theorem xY:OpR X (binaryOp .Pow) (rI Cz fun i j=>.int (i ^ j.toNat)):=opI fun _ _ _ _ _ _ _ hc q=>pow_int_small hc.1 hc.2.1 hc.2.2 q
theorem unI {f:Value→Sem Value}{g:Int→Int}
  (rule:∀ (i:Int) (t:Tok) (s:Shared) (Q:Value→Shared→Prop) (E:Value→Shared→Prop),Q (.int (g i) s.toks) { s with toks:=s.toks+1 }→wpAny (model X.prog X.w) X.A (f (.int i t)) Q E s) :
  UnR X f (rU fun i=>.int (g i)):=by
 intro pins s σ H x v Q I rx h
 obtain ⟨i,rfl,q⟩:=h
 obtain ⟨t,rfl⟩:=rx
 exact rule i t s _ _ ⟨.int (g i),H,I.tok _,⟨_,rfl⟩,q⟩
theorem gf:UnR X (unaryOp .USub) (rU fun i=>.int (-i)):=unI fun _ _ _ _ _ q=>neg_int q
end
def B0:V→V→Bool
 | .non,.non=>true | .non,.int _=>true | .int _,.non=>true | .non,.bl _=>true | .bl _,.non=>true | .non,.str _=>true | .str _,.non=>true
 | .int _,.int _=>true | .bl _,.bl _=>true | .str _,.str _=>true | .byt _,.byt _=>true
 | .int _,.str _=>true | .str _,.int _=>true | .bl _,.str _=>true | .str _,.bl _=>true
 | _,_=>false
def rEq:R2:=fun x y H Q=>B0 x y=true∧Q (.bl (decide (x=y))) H
def rNe:R2:=fun x y H Q=>B0 x y=true∧Q (.bl (!decide (x=y))) H
theorem nR {i j:Int}:decide (V.int i=V.int j)=(i == j):=by
 rw [DT]
 simp
theorem tG {i j:Bool}:decide (V.bl i=V.bl j)=(i == j):=by
 rw [DT]
 simp
theorem nS {i j:Str}:decide (V.str i=V.str j)=(i == j):=by
 rw [DT]
 simp
theorem nT {i j:Array UInt8}:decide (V.byt i=V.byt j)=(i.toList == j.toList):=by
 rw [DT]
 cases i
 cases j
 simp
section
variable {X:Cx} {a b c:Expr} {ta tb tc:TE} {pos:Pos}
theorem aN {pins:List (Addr × Obj)}{σ:St}{H:Hp}{s:Shared}{Q:VK}{k k':Bool}(I:Inv X pins σ H s)(q:Q (.bl k) H)(e:k=k'):EP X pins σ Q (.bool k') s:=by
 subst e
 exact ⟨.bl k,H,I,rfl,q⟩
theorem dR:OpR X (compareOp .Eq) rEq:=by
 intro pins s σ H x y v u Q I rx ry h
 obtain ⟨hs,q⟩:=h
 cases x with
 | non =>
  cases rx
  cases y with
  | non=>cases ry;exact PySem.EqNone.eq_none_none (aN I q (by simp))
  | bl j=>cases ry;exact PySem.EqNone.eq_none_bool (aN I q (by simp))
  | int j=>obtain ⟨t',rfl⟩:=ry;exact PySem.EqNone.eq_none_int (aN I q (by simp))
  | str j=>obtain ⟨t',rfl⟩:=ry;exact PySem.EqNone.eq_none_str (aN I q (by simp))
  | _=>exact absurd (show false=true from hs) Dy
 | bl i =>
  cases rx
  cases y with
  | non=>cases ry;exact PySem.EqNone.eq_bool_none (aN I q (by simp))
  | bl j=>cases ry;exact eq_bool (aN I q tG)
  | str j=>obtain ⟨t',rfl⟩:=ry;exact PySem.EqMixed.eq_bool_str (aN I q (by simp))
  | _=>exact absurd (show false=true from hs) Dy
 | int i =>
  obtain ⟨t,rfl⟩:=rx
  cases y with
  | non=>cases ry;exact PySem.EqNone.eq_int_none (aN I q (by simp))
  | int j=>obtain ⟨t',rfl⟩:=ry;exact eq_int (aN I q nR)
  | str j=>obtain ⟨t',rfl⟩:=ry;exact PySem.EqMixed.eq_int_str (aN I q (by simp))
  | _=>exact absurd (show false=true from hs) Dy
 | str i =>
  obtain ⟨t,rfl⟩:=rx
  cases y with
  | non=>cases ry;exact PySem.EqNone.eq_str_none (aN I q (by simp))
  | bl j=>cases ry;exact PySem.EqMixed.eq_str_bool (aN I q (by simp))
  | int j=>obtain ⟨t',rfl⟩:=ry;exact PySem.EqMixed.eq_str_int (aN I q (by simp))
  | str j=>obtain ⟨t',rfl⟩:=ry;exact eq_str (aN I q nS)
  | _=>exact absurd (show false=true from hs) Dy
 | byt i =>
  obtain ⟨t,rfl⟩:=rx
  cases y with
  | byt j=>obtain ⟨t',rfl⟩:=ry;exact PySem.W.eq_bytes (aN I q nT)
  | _=>exact absurd (show false=true from hs) Dy
 | _=>cases y <;> exact absurd (show false=true from hs) Dy
theorem i7:OpR X (compareOp .NotEq) rNe:=by
 intro pins s σ H x y v u Q I rx ry h
 obtain ⟨hs,q⟩:=h
 cases x with
 | non =>
  cases rx
  cases y with
  | non=>cases ry;exact PySem.EqNone.ne_none_none (aN I q (by simp))
  | bl j=>cases ry;exact PySem.EqNone.ne_none_bool (aN I q (by simp))
  | int j=>obtain ⟨t',rfl⟩:=ry;exact PySem.EqNone.ne_none_int (aN I q (by simp))
  | str j=>obtain ⟨t',rfl⟩:=ry;exact PySem.EqNone.ne_none_str (aN I q (by simp))
  | _=>exact absurd (show false=true from hs) Dy
 | bl i =>
  cases rx
  cases y with
  | non=>cases ry;exact PySem.EqNone.ne_bool_none (aN I q (by simp))
  | bl j=>cases ry;exact ne_bool (aN I q (DH not tG))
  | str j=>obtain ⟨t',rfl⟩:=ry;exact PySem.EqMixed.ne_bool_str (aN I q (by simp))
  | _=>exact absurd (show false=true from hs) Dy
 | int i =>
  obtain ⟨t,rfl⟩:=rx
  cases y with
  | non=>cases ry;exact PySem.EqNone.ne_int_none (aN I q (by simp))
  | int j=>obtain ⟨t',rfl⟩:=ry;exact ne_int (aN I q (DH not nR))
  | str j=>obtain ⟨t',rfl⟩:=ry;exact PySem.EqMixed.ne_int_str (aN I q (by simp))
  | _=>exact absurd (show false=true from hs) Dy
 | str i =>
  obtain ⟨t,rfl⟩:=rx
  cases y with
  | non=>cases ry;exact PySem.EqNone.ne_str_none (aN I q (by simp))
  | bl j=>cases ry;exact PySem.EqMixed.ne_str_bool (aN I q (by simp))
  | int j=>obtain ⟨t',rfl⟩:=ry;exact PySem.EqMixed.ne_str_int (aN I q (by simp))
  | str j=>obtain ⟨t',rfl⟩:=ry;exact ne_str (aN I q (DH not nS))
  | _=>exact absurd (show false=true from hs) Dy
 | byt i =>
  obtain ⟨t,rfl⟩:=rx
  cases y with
  | byt j=>obtain ⟨t',rfl⟩:=ry;exact PySem.W.ne_bytes (aN I q (DH not nT))
  | _=>exact absurd (show false=true from hs) Dy
 | _=>cases y <;> exact absurd (show false=true from hs) Dy
theorem gO:OpR X (compareOp .Lt) (rI0 fun i j=>.bl (decide (i < j))):=AN fun _ _ _ _ _ _ _ q=>lt_int q
theorem rl:OpR X (compareOp .LtE) (rI0 fun i j=>.bl (decide (i≤j))):=AN fun _ _ _ _ _ _ _ q=>le_int q
theorem AO:OpR X (compareOp .Gt) (rI0 fun i j=>.bl (decide (j < i))):=AN fun _ _ _ _ _ _ _ q=>gt_int q
inductive eZ  (x:V)(y:V)(H:Hp)(Q:VK):Prop
 | mk:∀ i j,(x = .str i)→(y = .str j)→(Q (.bl (!(Builtin.Str.occurrences j i 0 j.length 1).isEmpty)) H)→eZ x y H Q
theorem cq:OpR X (compareOp .In) eZ:=by
 intro pins s σ H x y v u Q I rx ry h
 obtain ⟨i,j,rfl,rfl,q⟩:=h
 obtain ⟨t,rfl⟩:=rx
 obtain ⟨t',rfl⟩:=ry
 exact in_str (aN I q rfl)
theorem aM (b:Expr){op:CmpOp}(h:op ≠ .In:=by decide)(h2:op ≠ .NotIn:=by decide):behindInMarks op b=false:=by
 have e1:(op == CmpOp.In)=false:=by cases op <;> first | rfl | exact absurd rfl h
 have e2:(op == CmpOp.NotIn)=false:=by cases op <;> first | rfl | exact absurd rfl h2
 cases b <;> simp [behindInMarks,e1,e2]
theorem de {op:CmpOp}{r:R2}(ho:OpR X (compareOp op) r)(ha:PE X a ta)(hb:PE X b tb)(hm:behindInMarks op b=false):PE X (.Compare a [op] [b] pos) (tOp r ta tb):=by
 intro pins s σ H Q I h
 exact wpAny_Compare1 (AM ha hb I h fun v u s2 x y H2 I2 rx ry q=>ho pins s2 σ H2 x y v u Q I2 rx ry q) hm
def rm (Q:(Bool→Hp→Prop)):V→Hp→Prop:=fun x H'=>IsB x H' Q
def xZ (t:TE):TT:=fun σ H Q=>t σ H (rm Q)
theorem aJ {op:CmpOp}{r:R2}(ho:OpR X (compareOp op) r)(ha:PE X a ta)(hb:PE X b tb)(hm:behindInMarks op b=false):PT X (.Compare a [op] [b] pos) (xZ (tOp r ta tb)):=by
 intro pins s σ H Q I h
 refine wpAny_isTrue_Compare1 (thn (ha pins s σ H _ I h) fun v s1 ⟨x,H1,I1,r1,q1⟩=>thn (hb pins s1 σ H1 _ I1 q1) fun u s2 ⟨y,H2,I2,r2,q2⟩ =>
  thn (ho pins s2 σ H2 x y v u _ I2 r1 r2 q2) fun c s3 ⟨z,H3,I3,r3,k,e,q3⟩=>?_) hm
 subst e
 cases r3
 exact Ew ⟨H3,I3,q3⟩
def tH (r r':R2)(ta tb tc:TE):TE:=fun σ H Q=>ta σ H fun x H1=>tb σ H1 fun y H2=>r x y H2 fun z H3=>∃ k,z = .bl k ∧
 (if k=true then tc σ H3 fun w' H4=>r' y w' H4 Q else Q (.bl false) H3)
theorem kM {op op':CmpOp}{r r':R2}(ho:OpR X (compareOp op) r)(ho':OpR X (compareOp op') r')(ha:PE X a ta)(hb:PE X b tb)(hc:PE X c tc)
  (hm:lastMarks [op,op'] [b,c]=false:=by with_unfolding_all rfl):PE X (.Compare a [op,op'] [b,c] pos) (tH r r' ta tb tc):=by
 intro pins s σ H Q I h
 refine Compare_chain (thn (ha pins s σ H _ I h) fun v s1 ⟨x,H1,I1,r1,q1⟩=>chain_link (thn (hb pins s1 σ H1 _ I1 q1) fun u s2 ⟨y,H2,I2,r2,q2⟩ =>
  thn (ho pins s2 σ H2 x y v u _ I2 r1 r2 q2) fun d s3 ⟨z,H3,I3,r3,k,e,q3⟩=>?_)) hm
 subst e
 cases r3
 refine Ew ?_
 cases k with
 | false=>exact ite_ff ⟨.bl false,H3,I3,rfl,q3⟩
 | true=>exact ite_tt (chain_last (thn (hc pins s3 σ H3 _ I3 q3) fun w' s4 zq45=>(by obtain ⟨z',H4,I4,r4,q4⟩:=zq45;exact ho' pins s4 σ H4 y z' u w' Q I4 r2 r4 q4)))
theorem kO {op op':CmpOp}{r r':R2}(ho:OpR X (compareOp op) r)(ho':OpR X (compareOp op') r')(ha:PE X a ta)(hb:PE X b tb)(hc:PE X c tc)
  (hm:lastMarks [op,op'] [b,c]=false:=by with_unfolding_all rfl):PT X (.Compare a [op,op'] [b,c] pos) (xZ (tH r r' ta tb tc)):=by
 intro pins s σ H Q I h
 refine isTrue_chain (thn (ha pins s σ H _ I h) fun v s1 ⟨x,H1,I1,r1,q1⟩=>test_link (thn (hb pins s1 σ H1 _ I1 q1) fun u s2 ⟨y,H2,I2,r2,q2⟩ =>
  thn (ho pins s2 σ H2 x y v u _ I2 r1 r2 q2) fun d s3 ⟨z,H3,I3,r3,k,e,q3⟩=>?_)) hm
 subst e
 cases r3
 refine Ew ?_
 cases k with
 | false =>
  obtain ⟨k',e',q'⟩:=q3
  cases e'
  exact ite_ff ⟨H3,I3,q'⟩
 | true =>
  refine ite_tt (test_last (thn (hc pins s3 σ H3 _ I3 q3) fun w' s4 ⟨z',H4,I4,r4,q4⟩=>thn (ho' pins s4 σ H4 y z' u w' _ I4 r2 r4 q4) fun d' s5 zq46=>?_))
  obtain ⟨z2,H5,I5,r5,k2,e2,q5⟩:=zq46
  subst e2
  cases r5
  exact Ew ⟨H5,I5,q5⟩
def CA (K:PySem.W.Frag)(x:V)(H:Hp)(k:Bool):Prop :=
 match x with
 | .non=>k=false
 | .bl b=>k=b
 | .int i=>k=(i != 0)
 | .str y=>y.length≤sizeLine∧k=((y.length:Int) != 0)
 | .byt y=>y.size≤sizeLine∧k=((y.size:Int) != 0)
 | .ref p=>(∃ xs,SqL K H p xs∧k=!xs.isEmpty) ∨ (∃ xs,SqT K H p xs∧k=!xs.isEmpty) ∨ ∃ kvs,H p=some (.dK kvs)∧k=!kvs.isEmpty
 | _=>False
theorem mM {κ:Type}{kvs:List (κ × V)}{vs:List (κ × Value)}(r:KV kvs vs):(!vs.isEmpty)=!kvs.isEmpty:=by
 cases r <;> rfl
theorem gg {xs:List V}{its:List Value}(r:aV xs its):(!its.toArray.isEmpty)=!xs.isEmpty:=by
 cases r <;> simp
theorem e8:(sizeLine:Nat) < 2 ^ 63:=by rw [E9]; decide
inductive uR (K:PySem.W.Frag)(x:V)(H:Hp)(Q:Bool→Hp→Prop):Prop
 | mk:∀ k,(CA K x H k)→(Q k H)→uR K x H Q
theorem x6:Cv X (uR X.K):=by
 intro pins s σ H x v Q I rx h
 obtain ⟨k,e,q⟩:=h
 have hl:=e8
 have hs:sizeLine=16777216:=E9
 cases x with
 | non =>
  cases rx
  have e':k=false:=e
  subst e'
  exact truthy_none ⟨H,I,q⟩
 | bl b =>
  cases rx
  have e':k=b:=e
  subst e'
  exact Ew ⟨H,I,q⟩
 | int i =>
  obtain ⟨t,rfl⟩:=rx
  have e':k=(i != 0):=e
  subst e'
  exact PySem.P.truthy_int ⟨H,I,q⟩
 | str y =>
  obtain ⟨t,rfl⟩:=rx
  obtain ⟨hy,e'⟩:y.length≤sizeLine∧k=((y.length:Int) != 0):=e
  subst e'
  exact PySem.P.truthy_str (by omega) ⟨H,I.tok _,q⟩
 | byt y =>
  obtain ⟨t,rfl⟩:=rx
  obtain ⟨hy,e'⟩:y.size≤sizeLine∧k=((y.size:Int) != 0):=e
  subst e'
  exact PySem.W.truthy_bytes (by omega) ⟨H,I.tok _,q⟩
 | ref p =>
  cases rx
  have e':(∃ xs,SqL X.K H p xs∧k=!xs.isEmpty) ∨ (∃ xs,SqT X.K H p xs∧k=!xs.isEmpty) ∨ ∃ kvs,H p=some (.dK kvs)∧k=!kvs.isEmpty:=e
  rcases e' with ⟨xs,hx,e'⟩ | ⟨xs,hx,e'⟩ | ⟨kvs,hx,e'⟩
  ·subst e'
   obtain ⟨its,r,pl,hz⟩:=I.list hx
   have hlen:=r.length
   exact wpAny_truthy_list pl.isList (by simp only [DA];omega) ⟨H,I.tok _,by rw [gg r];exact q⟩
  ·subst e'
   obtain ⟨its,r,pl,hz⟩:=I.tuple hx
   have hlen:=r.length
   exact truthy_tuple pl (by simp only [DA];omega) ⟨H,I.tok _,by rw [gg r];exact q⟩
  ·subst e'
   obtain ⟨hz,hS,vs,r,m⟩:kvs.length≤sizeLine∧(p == sysModules)=false∧∃ vs,KV kvs vs∧s.heap.DictOf (bb X.prog X.w) p vs:=I.hok p _ hx
   have hlen:kvs.length=vs.length:=Hl r
   exact wpAny_truthy_dict hS m (by omega) ⟨H,I.tok _,by rw [mM r];exact q⟩
 | _=>exact (show False from e).elim
def uS (K:PySem.W.Frag)(Q:(Bool→Hp→Prop)):V→Hp→Prop:=fun x H'=>uR K x H' Q
def CC (K:PySem.W.Frag)(ta:TE):TT:=fun σ H Q=>ta σ H (uS K Q)
theorem cK (ha:PE X a ta)(he:∀ whole,isTrue a X.env whole=(do let v ← whole; standAt a.pos; holding [v] (truthy v))) :
  PT X a (CC X.K ta):=by
 intro pins s σ H Q I h
 exact isTrue_plain (thn (ha pins s σ H _ I h) fun v s1 zq47=>(by obtain ⟨x,H1,I1,r1,q1⟩:=zq47;exact x6 pins s1 σ H1 x v Q I1 r1 q1)) (he _)
inductive eB  (x:V)(y:V)(H:Hp)(Q:VK):Prop
 | mk:∀ i j,(x = .str i)→(y = .str j)→(i.length+j.length≤sizeLine)→(Q (.str (i++j)) H)→eB x y H Q
theorem a6:OpR X (binaryOp .Add) eB:=by
 intro pins s σ H x y v u Q I rx ry h
 obtain ⟨i,j,rfl,rfl,hz,q⟩:=h
 obtain ⟨t,rfl⟩:=rx
 obtain ⟨t',rfl⟩:=ry
 exact add_str (fun t' tk=>⟨.str (i++j),H,I.tok _,⟨_,rfl⟩,q⟩) hz
theorem cT {x:V}{us:List Value}(r:aV [x] us):∃ u,us=[u]∧bf x u:=by
 cases r with
 | cons r1 r2=>cases r2;exact ⟨_,rfl,r1⟩
theorem x8 {x y:V}{us:List Value}(r:aV [x,y] us):∃ u w',us=[u,w']∧bf x u∧bf y w':=by
 cases r with
 | cons r1 r2 =>
  cases r2 with
  | cons r3 r4=>cases r4;exact ⟨_,_,rfl,r1,r3⟩
theorem e9:c_ X (.type "int") (fun xs H Q=>(∃ i,xs=[.int i]∧Q (.int i) H) ∨ ∃ k,xs=[.bl k]∧Q (.int (if k then 1 else 0)) H):=by
 intro pins s σ H xs us Q I r h
 rcases h with ⟨i,rfl,q⟩ | ⟨k,rfl,q⟩
 ·obtain ⟨u,rfl,t,rfl⟩:=cT r
  exact call_int_int ⟨.int i,H,I,⟨_,rfl⟩,q⟩
 ·obtain ⟨u,rfl,r1⟩:=cT r
  cases r1
  exact call_int_bool ⟨.int (if k then 1 else 0),H,I.tok _,⟨_,rfl⟩,q⟩
end
section
variable {prog:Program} {w:World} {A:Around} {E:Value→Shared→Prop} {s:Shared} {K:PySem.W.Frag} {x dx C f:Addr} {mA:Str→Option Value} {name:Str} {v:Value}
end
def B2 (f:Str)(v:V):List (Str × V)→List (Str × V)
 | []=>[(f,v)]
 | (g,x)::r=>if g=f then (g,v)::r else (g,x)::B2 f v r
theorem ny.some_of {v:V}{o:Option Value}(r:ny (some v) o):∃ u,o=some u∧bf v u:=by
 cases o with
 | none=>exact (show False from r).elim
 | some u=>exact ⟨u,rfl,r⟩
section
variable {P:Program} {w:World} {H H':Hp} {h h':Heap} {a C dx:Addr} {fs fs':List (Str × V)}
end
section
variable {X:Cx} {pins:List (Addr × Obj)} {σ:St} {H:Hp} {s:Shared} {a C dx:Addr} {fs:List (Str × V)} {f:Str} {v:V} {A:Around} {E:Value→Shared→Prop}
end
section
variable {X:Cx} {o e value:Expr} {f:Str} {pos pos' tpos:Pos} {ta tv:TE}
end
section
variable {X:Cx} {pins:List (Addr × Obj)} {σ:St} {H:Hp} {s:Shared} {A:Around} {E:Value→Shared→Prop} {Q:Value→Shared→Prop} {c:Value} {b:Bool}
end
structure cL (k:Nat) (A:Around):Prop where
 hd:A.handled=none
 dp:A.depth+3*k+5 < recursionLimit
 un:A.units+16*k+200 < cLine
 gd:A.guards=some []
theorem cL.mono {j k:Nat}{A:Around}(r:cL k A)(h:j≤k):cL j A:=⟨r.hd,by have:=r.dp; omega,by have:=r.un; omega,r.gd⟩
theorem cL.deeper {k:Nat}{A:Around}(r:cL (k+1) A)(env:Env):cL k (A.deeper env) :=
 ⟨r.hd,by have:=r.dp;show A.depth+1+3*k+5 < _;omega,by have:=r.un;show A.units+3+16*k+200 < _;omega,r.gd⟩
theorem mN {A:Around}{C:Addr}{us:List Value}{kw:List (Str × Value)}:(A.under (.builtin "type.__call__" ⟨.ref C::us,kw⟩)).depth=A.depth+1:=by
 first | rfl | simp [Around.under,Code.weight,Code.isCreation,Code.isGuard,Code.isCaller,Code.frames,Code.isFrame,guardIds]
theorem mO {A:Around}{C:Addr}{us:List Value}{kw:List (Str × Value)}:(A.under (.builtin "type.__call__" ⟨.ref C::us,kw⟩)).units=A.units+1:=by
 first | rfl | simp [Around.under,Code.cUnits,Code.frames,Code.isFrame]
theorem cL.make {k:Nat}{A:Around}(r:cL (k+1) A)(C:Addr)(us:List Value)(kw:List (Str × Value)):cL k (A.under (.builtin "type.__call__" ⟨.ref C::us,kw⟩)) :=
 ⟨r.hd,by have:=r.dp;rw [mN];omega,by have:=r.un;rw [mO];omega,by have g:=r.gd;simpa [Around.under,Code.guards,pushGuards,Code.isGuard,guardIds] using g⟩
theorem cL.depth {k:Nat}{A:Around}(r:cL k A):A.depth < recursionLimit:=by have:=r.dp; omega
theorem cL.units {k:Nat}{A:Around}(r:cL k A):A.units+64 < cLine:=by have:=r.un; omega
def AQ:TA:=fun _ H Q=>Q [] H
def rn (Q:(List V→Hp→Prop))(x:V):List V→Hp→Prop:=fun xs H2=>Q (x::xs) H2
def ro (tr:TA)(σ:St)(Q:(List V→Hp→Prop)):V→Hp→Prop:=fun x H1=>tr σ H1 (rn Q x)
def rq (ta:TE)(tr:TA):TA:=fun σ H Q=>ta σ H (ro tr σ Q)
section
variable {X:Cx} {e:Expr} {es:List Expr} {te:TE} {t:TA} {pos:Pos}
theorem af:PA X [] AQ:=fun _ _ _ _ H Q I h=>Calls.spliced_nil ⟨[],H,I,.nil,h⟩
theorem aa (ha:PE X e te)(hr:PA X es t)(hs:starEach (e::es) X.env=(false,eval e X.env)::starEach es X.env:=by rfl):PA X (e::es) (rq te t):=by
 intro pos pins s σ H Q I h
 rw [hs]
 show wpAny _ _ (spliced ((false,eval e X.env)::backTo pos (starEach es X.env))) _ _ s
 refine G0 (thn (ha pins s σ H _ I h) fun u s1 zq54=>?_)
 obtain ⟨x,H1,I1,r1,q1⟩:=zq54
 exact thn (hr pos pins s1 σ H1 _ I1 q1) fun us s2 zq55=>(by obtain ⟨xs,H2,I2,r2,q2⟩:=zq55;exact ⟨x::xs,H2,I2,.cons r1 r2,q2⟩)
def uT (Q:VK):List V→Hp→Prop:=fun xs H1=>xs.length≤sizeLine∧∀ p,H1 p=none→Q (.ref p) (upd H1 p (.tup xs))
def CD (t:TA):TE:=fun σ H Q=>t σ H (uT Q)
def uU (Q:VK):List V→Hp→Prop:=fun xs H1=>xs.length≤sizeLine∧∀ p,H1 p=none→Q (.ref p) (upd H1 p (.lst xs))
def CF (t:TA):TE:=fun σ H Q=>t σ H (uU Q)
theorem bG {x1}(h:PA X es t):PE X (.Tuple es x1 pos) (CD t):=by
 intro pins s σ H Q I hq
 refine wpAny_Tuple_spliced (thn (h pos pins s σ H _ I hq) fun us s1 ⟨xs,H1,I1,r,z,q⟩=>⟨by rw [← r.length];exact z,?_⟩)
 have hf:H1 s1.heap.objs.size=none:=I1.hok.fresh (Da _)
 refine ⟨.ref s1.heap.objs.size,upd H1 s1.heap.objs.size (.tup xs),I1.laid (t':=s1.toks) (fun b u e=>C6 _ e) (Da _) ?_,rfl,q _ hf⟩
 exact ⟨z,us,r,⟨_,Dv _ rfl,rfl,_,rfl⟩,.new _ _ rfl⟩
theorem bH (h:PA X es t):PE X (.List es pos) (CF t):=by
 intro pins s σ H Q I hq
 refine wpAny_List_spliced (thn (h pos pins s σ H _ I hq) fun us s1 ⟨xs,H1,I1,r,z,q⟩=>⟨by rw [← r.length];exact z,?_⟩)
 have hf:H1 s1.heap.objs.size=none:=I1.hok.fresh (Da _)
 refine ⟨.ref s1.heap.objs.size,upd H1 s1.heap.objs.size (.lst xs),I1.laid (t':=s1.toks) (fun b u e=>C6 _ e) (Da _) ?_,rfl,q _ hf⟩
 exact ⟨z,us,0,r,Dv _ rfl⟩
end
abbrev Sp:=List V→Hp→VK→XK→Prop
abbrev CXT:=List Env→Hp→Shared→XK→Value→Shared→Prop
structure tI (P:Program) (w:World) (K:PySem.W.Frag) (mg:Str→Option Value) (base:Heap) (A:Around) (outer:List Env) (s:Shared) (H:Hp):Prop where
 frames:A.frames=some outer
 mod:Mod K mg base
 bs:∀ b o,base.get? b=some o→s.heap.get? b=some o∧H b=none
 bsz:base.objs.size≤s.heap.objs.size
 funs:s.heap.FunFrames base outer
 frf:∀ b∈frs outer,H b=none
 hok:HOk P w H s.heap
 bare:AllBare s.gens
def CE (outer:List Env)(P:Program)(w:World)(H:Hp)(s:Shared)(Q:VK)(u:Value)(s':Shared):Prop :=
 ∃ v H',s'.os=s.os∧AllBare s'.gens∧Un (frs outer) [] H H' s.heap s'.heap∧HOk P w H' s'.heap∧bf v u∧Q v H'
def CR (CX:CXT)(outer:List Env)(P:Program)(w:World)(H:Hp)(s:Shared)(Q:VK)(E:XK)(r:Result)(s':Shared):Prop :=
 match r with
 | .ok (.ret u)=>CE outer P w H s Q u s'
 | .ok _=>False
 | .error e=>CX outer H s E e s'
structure qS (P:Program) (w:World) (K:PySem.W.Frag) (mg:Str→Option Value) (base:Heap) (CX:CXT) (k:Nat) (f:Addr) (fd:FuncData) (ps:List Str) (sp:Sp):Prop where
 len:∀ vs H Q E,sp vs H Q E→vs.length=ps.length
 run:∀ (A:Around) (outer:List Env) (s:Shared) (H:Hp) (args:Args) (us:List Value) (vs:List V) (Q:VK) (E:XK),cL k A→tI P w K mg base A outer s H→BindsTo s fd args (ps.zip us)→aV vs us→sp vs H Q E →
  codeAny (model P w) A (.call (.ref f) args) (CR CX outer P w H s Q E) s
theorem tI.make {P:Program}{w:World}{K:PySem.W.Frag}{mg:Str→Option Value}{base:Heap}{A:Around}{outer:List Env}{s:Shared}{H:Hp}(e:tI P w K mg base A outer s H)(C:Addr)(us:List Value)(kw:List (Str × Value)) :
  tI P w K mg base (A.under (.builtin "type.__call__" ⟨.ref C::us,kw⟩)) outer s H:=⟨by first | exact e.frames | (simpa [Around.under,Code.envs,Code.isFrame,pushEnvs] using e.frames),e.mod,e.bs,e.bsz,e.funs,e.frf,e.hok,e.bare⟩
section
variable {X:Cx} {pins:List (Addr × Obj)} {σ:St} {H:Hp} {s s':Shared}
theorem Inv.env0 (I:Inv X pins σ H s):tI X.prog X.w X.K X.mg X.base X.A X.stack s H :=
 ⟨I.ok.frames,I.ok.mod,I.bs,DO I.ok.bsz I.sz,I.stack,I.stkFree,I.hok,I.bare⟩
theorem Inv.after {Q:VK}{u:Value}(I:Inv X pins σ H s)(h:CE X.stack X.prog X.w H s Q u s'):EP X pins σ Q u s':=by
 obtain ⟨v,H',os,bare,un,hok,r,q⟩:=h
 obtain ⟨hh,g,d,t,os'⟩:=s'
 obtain rfl:os'=s.os:=os
 exact ⟨v,H',I.call (h':=hh) (g':=g) (d':=d) (t':=t) (ch:=[]) un hok bare (fun b z=>absurd z (by simp)),r,q⟩
end
def rz (sp:Sp)(dvs:List V)(E:XK)(Q:VK):List V→Hp→Prop:=fun vs H1=>sp (vs++dvs) H1 Q E
def uV (sp:Sp)(dvs:List V)(E:XK)(t:TA):TE:=fun σ H Q=>t σ H (rz sp dvs E Q)
def dS (K:PySem.W.Frag)(fd:FuncData)(ps:List Str)(ds:List Value):Prop :=
 ∀ (s:Shared) (us:List Value),K.In s.heap→(us++ds).length=ps.length→BindsTo s fd ⟨us,[]⟩ (ps.zip (us++ds))
theorem dS.all {K:PySem.W.Frag}{fd:FuncData}{ps:List Str}(h:∀ us:List Value,us.length=ps.length→bindArgs fd ⟨us,[]⟩=pure (ps.zip us)):dS K fd ps []:=fun s us _ hl=>by
 rw [Ee] at hl ⊢
 exact .of_eq (h us hl)
def dm (CX:CXT)(X:Cx)(E:XK):Prop:=∀ (pins:List (Addr × Obj)) (σ:St) (H:Hp) (s:Shared) (e:Value) (s':Shared),Inv X pins σ H s→CX X.stack H s E e s'→X.xe e s'
section
variable {X:Cx} {CX:CXT} {k:Nat} {f C:Addr} {fd:FuncData} {ps:List Str} {sp:Sp} {dvs:List V} {ds:List Value} {E:XK} {x m:Str} {p pos apos:Pos} {e o:Expr} {es:List Expr} {ta:TE} {t:TA}
theorem x9 {pins:List (Addr × Obj)}{σ:St}{H:Hp}{s:Shared}{Q:VK}{us:List Value}{vs:List V}(F:qS X.prog X.w X.K X.mg X.base CX k f fd ps sp)(hr:cL k X.A)(hb:dS X.K fd ps ds)(hd:aV dvs ds)(hx:dm CX X E)
  (I:Inv X pins σ H s) (r:aV vs us) (h:sp (vs++dvs) H Q E):wpAny (model X.prog X.w) X.A (call (.ref f) us) (EP X pins σ Q) X.xe s:=by
 have r2:aV (vs++dvs) (us++ds):=r.append hd
 have hl:(us++ds).length=ps.length:=by rw [← r2.length];exact F.len _ _ _ _ h
 refine Hd (FQ (F.run X.A X.stack s H ⟨us,[]⟩ (us++ds) (vs++dvs) Q E hr I.env0 (hb s us I.kIn hl) r2 h) fun r s' hq=>?_)
 cases r with
 | error e=>exact hx pins σ H s e s' I hq
 | ok fl =>
  cases fl with
  | ret u=>exact I.after hq
  | next=>exact False.elim hq
  | brk=>exact False.elim hq
  | cont=>exact False.elim hq
theorem nU (F:qS X.prog X.w X.K X.mg X.base CX k f fd ps sp)(hr:cL k X.A)(hg:Gl X x)(hm:X.mg x=some (.ref f))(hk:PySem.W.keepIn X.K (.ref f)=true)(hb:dS X.K fd ps ds)(hd:aV dvs ds)(hx:dm CX X E)
  (ha:PA X (e::es) t) (hdb:(x == ("__debug__":Str))=false:=by decide) (he:starEach (e::es) X.env=(false,eval e X.env)::starEach es X.env:=by rfl) (hpl:(backTo pos (starEach es X.env)).any (·.1)=false:=by rfl) :
  PE X (.Call (.Name x p) (e::es) [] pos) (uV sp dvs E t):=by
 intro pins s σ H Q I h
 refine Ft (c9 I hg hm ?_ hdb)
 refine G3 (h₀:=X.base) I.ok.mod.kin hk (thn (ha pos pins s σ H _ I h) fun us s1 ⟨vs,H1,I1,r,q⟩=>⟨I1.kIn,?_⟩) he hpl
 exact x9 F hr hb hd hx I1 r q
end
section
variable {X:Cx} {CX:CXT} {k:Nat} {f C:Addr} {fd:FuncData} {ps ks:List Str} {sp:Sp} {E:XK} {x m:Str} {p pos apos kpos:Pos} {e o:Expr} {es:List Expr} {kws:List Keyword} {te ta:TE} {t tk:TA} {nm:Option Str}
variable {g:List Value→List Value→List Value} {gV:List V→List V→List V}
end
structure ax (N P:List Str) (sc:Scope):Prop where
 kind:sc.kind = .function
 co:sc.isCoroutine=false
 gen:sc.isGenerator=false
 nd:N.Nodup
 pre:N.take P.length=P
 par:∀ x∈P,sc.names.lookup x=some .local ∨ sc.names.lookup x=some .cell
 nofree:∀ y∈sc.names,y.2 ≠ .free
theorem i8 {kindOf:Str→Option NameKind}{x:Str}:∀ {binds:List (Str × Value)} {m:Str→Option Value},(∀ v,(x,v)∉binds)→bindL kindOf binds m x=m x
 | [],_,_=>rfl
 | (n,v)::r,m,h=>by
  unfold bindL
  rw [i8 fun w hw=>h w (Dg _ hw)]
  split
  ·have:x≠n:=by rintro rfl;exact h v Dz
   simp [this]
  ·rfl
theorem i_ {kindOf:Str→Option NameKind}{x:Str}:∀ {binds:List (Str × Value)} {m:Str→Option Value},(∀ v,(x,v)∉binds)→bindC kindOf binds m x=m x
 | [],_,_=>rfl
 | (n,v)::r,m,h=>by
  unfold bindC
  rw [i_ fun w hw=>h w (Dg _ hw)]
  split
  ·rfl
  ·have:x≠n:=by rintro rfl;exact h v Dz
   simp [this]
theorem ja {kindOf:Str→Option NameKind}{x:Str}{v:Value}:∀ {P:List Str} {vs:List Value} {i:Nat} {m:Str→Option Value},P.Nodup→P[i]? = some x→vs[i]? = some v→kindOf x=some .local →
  bindL kindOf (P.zip vs) m x=some v
 | [],_,_,_,_,h,_,_=>by simp at h
 | _::_,[],_,_,_,_,h,_=>by simp at h
 | p::P,w::vs,0,m,nd,h1,h2,hk=>by
  simp at h1 h2;subst h1;subst h2
  show bindL kindOf ((p,w)::P.zip vs) m p=_
  unfold bindL
  rw [i8 fun v hv=>(DE.mp nd).1 (GI hv).1,if_pos hk]
  simp
 | p::P,w::vs,i+1,m,nd,h1,h2,hk=>by
  show bindL kindOf ((p,w)::P.zip vs) m x=_
  unfold bindL
  exact ja (i:=i) (DE.mp nd).2 (by simpa using h1) (by simpa using h2) hk
theorem jb {kindOf:Str→Option NameKind}{x:Str}{v:Value}:∀ {P:List Str} {vs:List Value} {i:Nat} {m:Str→Option Value},P.Nodup→P[i]? = some x→vs[i]? = some v→kindOf x≠some .local →
  bindC kindOf (P.zip vs) m x=some v
 | [],_,_,_,_,h,_,_=>by simp at h
 | _::_,[],_,_,_,_,h,_=>by simp at h
 | p::P,w::vs,0,m,nd,h1,h2,hk=>by
  simp at h1 h2;subst h1;subst h2
  show bindC kindOf ((p,w)::P.zip vs) m p=_
  unfold bindC
  rw [i_ fun v hv=>(DE.mp nd).1 (GI hv).1,if_neg hk]
  simp
 | p::P,w::vs,i+1,m,nd,h1,h2,hk=>by
  show bindC kindOf ((p,w)::P.zip vs) m x=_
  unfold bindC
  exact jb (i:=i) (DE.mp nd).2 (by simpa using h1) (by simpa using h2) hk
def start (N:List Str)(vs:List V):St:=vs.map some++List.replicate (N.length - vs.length) none
def gP (CX:CXT)(P:Program)(w:World)(K:PySem.W.Frag)(mg:Str→Option Value)(base:Heap)(N:List Str)(qual:Str)(scope:Scope)(f:Addr)(cd:Value)(A:Around)(outer:List Env)(s:Shared)(H:Hp)(E:XK):Cx where
 prog:=P
 w:=w
 K:=K
 mg:=mg
 base:=base
 A:=A.deeper (envOfC qual scope s.heap.objs.size f cd)
 N:=N
 s₀:=s
 H₀:=H
 env:=envOfC qual scope s.heap.objs.size f cd
 outer:=outer
 stack:=envOfC qual scope s.heap.objs.size f cd::outer
 ex:=[]
 calm:=true
 fn:=fun _=>true
 pn:=[]
 lo:=s.toks
 xe:=fun e s'=>wpAny (model P w) (A.deeper (envOfC qual scope s.heap.objs.size f cd)) (leaving (envOfC qual scope s.heap.objs.size f cd) e) (fun _ s''=>CX outer H s E e s'') (fun e' s''=>CX outer H s E e' s'') s'
theorem kP {sc:Scope}{n:Nat}{x:Str}(h:sc.names.lookup x=some .cell):∃ c,(cellsFrom n sc.names []).lookup x=some c:=by
 have q:=Gb sc.names n [] (.inl h)
 exact Option.isSome_iff_exists.mp q
theorem jc {CX:CXT}{P:Program}{w:World}{K:PySem.W.Frag}{mg:Str→Option Value}{base:Heap}{N ps:List Str}{qual:Str}{scope:Scope}{f:Addr}{cd:Value}{A:Around}{outer:List Env}{s s1:Shared}{H:Hp}{E:XK}{us:List Value}{vs:List V}
  (S:ax N ps scope) (hd:A.handled=none) (e0:tI P w K mg base A outer s H) (hl:vs.length=ps.length) (r:aV vs us)
  (x:InCallC s s.heap.objs.size (bindL (envOfC qual scope s.heap.objs.size f cd).kindOf (ps.zip us) fun _=>none) (cellsFrom (s.heap.objs.size+1) scope.names []) (bindC (envOfC qual scope s.heap.objs.size f cd).kindOf (ps.zip us) fun _=>none) s1) :
  InvW (gP CX P w K mg base N qual scope f cd A outer s H E) [] (start N vs) H s1:=by
 have hpl:ps.length≤N.length:=by have:=DH List.length S.pre;rw [Dw] at this;omega
 obtain ⟨h1,tk,rfl,hk⟩:=x.done
 have noA:∀ b:Addr,b∉(gP CX P w K mg base N qual scope f cd A outer s H E).ex:=fun b z=>absurd (show b∈([]:List Addr) from z) (by simp)
 refine ⟨⟨e0.mod,S.kind,rfl,rfl,Da _,fun y z c h1 h2=>?_,fun y hy=>?_,fun y c _ h=>?_,fun _=>hd,Around.frames_deeper e0.frames,.inr ⟨rfl,rfl⟩,fun b z=>absurd z (noA b),e0.bs,e0.bsz,fun b _ _=>noA b,fun b z=>absurd z (noA b),e0.funs,e0.frf⟩,
  rfl,e0.bare,Un.kept hk,⟨_,x.toInCall.ns,fun i y v h1 h2 h3=>?_⟩,fun y c h=>⟨_,x.cell y c h⟩,e0.hok.fresh (Da _),fun y c h=>?_,fun p hp=>absurd (show p∈([]:List (Addr × Obj)) from hp) (by simp),e0.hok.kept hk,?_⟩
 ·exact name_of_addr x.apart (EC h1) (EC h2)
 ·have hy:scope.names.lookup y=some .cell ∨ scope.names.lookup y=some .free:=hy
  rcases hy with hy | hy
  ·exact kP hy
  ·exact absurd rfl (S.nofree _ (EC hy))
 ·exact GY (x.above y c (EC h))
 ·have hi:i < vs.length:=by
   unfold start at h2
   by_cases hi:i < vs.length
   ·exact hi
   ·rw [Dn (by simpa using hi)] at h2
    rw [List.getElem?_replicate] at h2
    split at h2 <;> cases h2
  have ha:vs[i]? = some v:=by
   unfold start at h2
   rw [Eg (by simpa using hi),DG] at h2
   cases e:vs[i]? with
   | none=>rw [e] at h2;cases h2
   | some a=>rw [e] at h2;cases h2;rfl
  obtain ⟨u,hu,rv⟩:=r.get ha
  have hp:ps[i]? = some y:=by
   rw [← S.pre,Ex (by omega)];exact h1
  have ndP:ps.Nodup:=by rw [← S.pre];exact S.nd.sublist (List.take_sublist _ _)
  refine ⟨u,rv,?_⟩
  rcases S.par y (DP hp) with k | k
  ·exact .inl ⟨k,ja ndP hp hu k⟩
  ·obtain ⟨c,e⟩:=kP (n:=s.heap.objs.size+1) k
   refine .inr ⟨.inl k,c,e,?_⟩
   have q:=x.cell y c e
   rw [jb ndP hp hu (by show scope.names.lookup y≠_;rw [k];decide)] at q
   exact q
 ·exact e0.hok.fresh (GY (x.above y c (EC h)))
 ·unfold start
  show _=N.length
  rw [C8,C4,List.length_replicate]
  omega
theorem x_ {CX:CXT}{P:Program}{w:World}{K:PySem.W.Frag}{mg:Str→Option Value}{base:Heap}{k:Nat}{f:Addr}{name qual:Str}{params:Arguments}{body:List Stmt}{scope:Scope}{dV kV doc pm cdv ct oc:Value}{an od:Option Addr}
  {osl:Array (Option Value)} {N ps:List Str} {sp:Sp} (lk:K.lookup f=some ⟨oc,od,.func (PySem.W.fnOf name qual params body scope dV kV doc pm an cdv ct),osl⟩) (hcd:PySem.W.codeIn K cdv qual=true) (S:ax N ps scope)
  (len:∀ vs H Q E,sp vs H Q E→vs.length=ps.length)
  (hbody:∀ (A:Around) (outer:List Env) (s:Shared) (H:Hp) (vs:List V) (Q:VK) (E:XK),cL k (A.deeper (envOfC qual scope s.heap.objs.size f cdv))→sp vs H Q E →
   ∃ t,PSs (gP CX P w K mg base N qual scope f cdv A outer s H E) body t∧t { nx:=fun _ H'=>Q .non H',rt:=Q } (start N vs) H) :
  qS P w K mg base CX (k+1) f (PySem.W.fnOf name qual params body scope dV kV doc pm an cdv ct) ps sp:=by
 refine ⟨len,fun A outer s H args us vs Q E hr e0 hb r hsp=>?_⟩
 have hl:=len _ _ _ _ hsp
 have KX:K.In s.heap:=e0.mod.kin.keeps fun b o e=>(e0.bs b o e).1
 have lim:s.heap.NoLimit:=e0.mod.nolimit.keeps fun b o e=>(e0.bs b o e).1
 have hkind:∀ y∈ps.zip us,scope.names.lookup y.1=some .local ∨ (scope.names.lookup y.1=some .cell∧((cellsFrom (s.heap.objs.size+1) scope.names []).lookup y.1).isSome=true):=fun ⟨n,v⟩ hy=>by
  rcases S.par n (GI hy).1 with q | q
  ·exact .inl q
  ·exact .inr ⟨q,Gb _ _ _ (.inl q)⟩
 refine codeAny_call_function hr.depth (KX _ _ lk) rfl S.co S.gen rfl (PySem.W.codeRec_of KX hcd) (hb _ _ _ _ ?_)
 refine wt (n:=s.toks) (Da _) (GU S.kind hkind fun env he s1 x hlo=>?_)
 subst he
 refine ⟨lim.keeps x.toInCall.keep,codeAny_func ?_⟩
 obtain ⟨t,ht,hq⟩:=hbody A outer s H vs Q E (hr.deeper _) hsp
 have I:Inv (gP CX P w K mg base N qual scope f cdv A outer s H E) [] (start N vs) H s1:=(jc S hr.hd e0 hl r x).up hlo
 refine Ep (ht [] s1 (start N vs) H _ I hq) (fun fl s' hs=>?_) fun e s' hs=>hs
 have fin:∀ {σ':St} {H':Hp} {v:V} {u:Value},InvW (gP CX P w K mg base N qual scope f cdv A outer s H E) [] σ' H' s'→bf v u→Q v H'→CE outer P w H s Q u s' :=
  fun {σ' H' v u} J rv q=>⟨v,H',J.os,J.bare,J.base,J.hok,rv,q⟩
 cases fl with
 | ret u =>
  obtain ⟨v,σ',H',J,rv,q⟩:=hs
  exact fin J rv q
 | next =>
  obtain ⟨σ',H',J,q⟩:=hs
  exact fin (v:=V.non) (u:=Value.none) J rfl q
 | brk =>
  obtain ⟨_,_,_,q⟩:=hs
  exact False.elim q
 | cont =>
  obtain ⟨_,_,_,q⟩:=hs
  exact False.elim q
section
variable {X:Cx} {x:Str} {p pos:Pos} {e:Expr} {es:List Expr} {t:TA} {id T:String} {r:List V→Hp→VK→Prop}
def yd (r:List V→Hp→VK→Prop)(Q:VK):List V→Hp→Prop:=fun vs H1=>r vs H1 Q
def tCB (r:List V→Hp→VK→Prop)(t:TA):TE:=fun σ H Q=>t σ H (yd r Q)
theorem aq (hc:c_ X (.builtin id) r)(hg:Gl X x)(hm:X.mg x=none)(hv:bootBuiltins x=some (.builtin id))(ha:PA X (e::es) t)(hn:x ≠ "__name__":=by decide)(hdb:(x == ("__debug__":Str))=false:=by decide)
  (he:starEach (e::es) X.env=(false,eval e X.env)::starEach es X.env:=by rfl) (hpl:(backTo pos (starEach es X.env)).any (·.1)=false:=by rfl):PE X (.Call (.Name x p) (e::es) [] pos) (tCB r t):=by
 intro pins s σ H Q I h
 refine Ft (i4 I hg hm hv ?_ hn hdb)
 exact Gr (thn (ha pos pins s σ H _ I h) fun us s1 zq60=>(by obtain ⟨vs,H1,I1,r1,q1⟩:=zq60;exact hc pins s1 σ H1 vs us Q I1 r1 q1)) he hpl
theorem bu (hc:c_ X (.type T) r)(hg:Gl X x)(hm:X.mg x=none)(hv:bootBuiltins x=some (.type T))(ha:PA X (e::es) t)(hn:x ≠ "__name__":=by decide)(hdb:(x == ("__debug__":Str))=false:=by decide)
  (he:starEach (e::es) X.env=(false,eval e X.env)::starEach es X.env:=by rfl) (hpl:(backTo pos (starEach es X.env)).any (·.1)=false:=by rfl):PE X (.Call (.Name x p) (e::es) [] pos) (tCB r t):=by
 intro pins s σ H Q I h
 refine Ft (i4 I hg hm hv ?_ hn hdb)
 exact ET (thn (ha pos pins s σ H _ I h) fun us s1 zq61=>(by obtain ⟨vs,H1,I1,r1,q1⟩:=zq61;exact hc pins s1 σ H1 vs us Q I1 r1 q1)) he hpl
end
end L2
namespace HT
open PySem PyProof.Rows
def bC:List Int→List Int→Bool
 | [],[]=>false
 | [],_::_=>true
 | _::_,[]=>false
 | x::xs,y::ys=>if x=y then bC xs ys else decide (x < y)
theorem bF (x y:Int)(xs ys:List Int):bC (x::xs) (y::ys)=if x=y then bC xs ys else decide (x < y):=rfl
theorem b_:bC [] []=false:=rfl
theorem cX (y:Int)(ys:List Int):bC [] (y::ys)=true:=rfl
theorem cY (x:Int)(xs:List Int):bC (x::xs) []=false:=rfl
theorem kQ (A:Around)(s:Shared)(a:Int)(t:Tok)(c:Int)(u:Tok):∃ e,SeqAt.EqAt A s (.int a t) (.int c u) e∧(e=true ↔ a=c) :=
 ⟨(a == c),SeqAt.EqAt.int_int a t c u,by simp⟩
theorem rA (A:Around)(s:Shared)(a:Int)(t:Tok)(c:Int)(u:Tok)(prog:Program)(w:World)(E:Value→Shared→Prop)(Q:Value→Shared→Prop)(h:Q (.bool (decide (a < c))) s) :
  wpAny (model prog w) A (richCompare .Lt (.int a t) (.int c u)) Q E s :=
 (PyProof.Rows.lt_int h:wpAny (model prog w) A (compareOp .Lt (.int a t) (.int c u)) Q E s)
section
open PySem.SeqAt
open PySem.AutoSeq1 (wpAny_loadPart')
open PySem.MeetsSeq PySem.MeetsSeq2 PySem.MeetsSeq3
theorem gQ (l b:Addr)(items items2:Array Value)(n n2:Nat)(dd dd2:Option Addr)(sl sl2:Array (Option Value))(ns ms:List Int)(hi:IntsAre items.toList ns)(hj:IntsAre items2.toList ms) :
  Meets (Builtin.«tuple.__lt__» ⟨[.ref l,.ref b],[]⟩)
   (fun _ R s=>s.heap.get? l=some { cls:=.type "tuple",dict:=dd,data:=.seq items n,slots:=sl }∧s.heap.get? b=some { cls:=.type "tuple",dict:=dd2,data:=.seq items2 n2,slots:=sl2 } ∧
    R (.ok (.ret (.bool (bC ns ms)))) s) :=
 .of_wp fun prog w A R s h=>by
  obtain ⟨hp,g,d,tk,os⟩:=s;obtain ⟨hl,hb,h⟩:=h
  have f2:=He
  have z1:items.size=ns.length:=by rw [← hi.length];simp
  have z2:items2.size=ms.length:=by rw [← hj.length];simp
  wp_walk using wpAny_loadPart' hl,wpAny_loadPart' hb,wpAny_forIn_list _ (fun rest b s'=>b.1=none∧s'=⟨hp,g,d,tk,os⟩∧∃ (vs ws:List Value) (ns' ms':List Int),rest=vs.zip ws ∧
   IntsAre vs ns'∧IntsAre ws ms'∧ns'.length+items2.size=ms'.length+items.size∧R (.ok (.ret (.bool (bC ns' ms')))) ⟨hp,g,d,tk,os⟩) _
  case turn =>
   rintro ⟨y,x⟩ rest b s' ⟨hb',rfl,vs,ws,ns',ms',hz,hvi,hwi,hlen,hR⟩
   cases hvi with
   | nil=>rw [List.zip_nil_left] at hz;cases hz
   | cons a t hvi' =>
    cases hwi with
    | nil=>rw [List.zip_nil_right] at hz;cases hz
    | cons c u hwi' =>
     rw [EI] at hz
     injection hz with hyx hrest
     injection hyx with hy hx
     subst hy hx
     rw [bF] at hR
     simp only [Ds] at hlen
     obtain ⟨e,he,hiff⟩:=kQ A.in1 ⟨hp,g,d,tk,os⟩ a t c u
     refine C5 (he prog w _ _ ?_)
     cases e with
     | true =>
      rw [if_pos (hiff.mp rfl)] at hR
      wp_walk
      exact ⟨rfl,rfl,_,_,_,_,hrest,hvi',hwi',by omega,hR⟩
     | false =>
      rw [if_neg (fun q=>absurd (hiff.mpr q) Dy)] at hR
      have hri:=rA A.in1 ⟨hp,g,d,tk,os⟩ a t c u prog w
      wp_walk using hri
      exact ⟨_,rfl,by simpa using hR⟩
  case fin =>
   rintro ⟨b1,b2⟩ s' ⟨hb',rfl,vs,ws,ns',ms',hz,hvi,hwi,hlen,hR⟩
   simp only at hb'
   subst hb'
   have hv:bC ns' ms'=decide (items.size < items2.size):=by
    cases hvi with
    | nil =>
     cases hwi with
     | nil =>
      simp only [D8] at hlen
      rw [b_]
      exact (C7 (by omega)).symm
     | cons c u hw =>
      simp only [D8,Ds] at hlen
      rw [cX]
      exact (C_ (by omega)).symm
    | cons a t hv =>
     cases hwi with
     | nil =>
      simp only [D8,Ds] at hlen
      rw [cY]
      exact (C7 (by omega)).symm
     | cons c u hw =>
      rw [EI] at hz
      cases hz
   rw [hv] at hR
   wp_walk
   exact ⟨_,rfl,by simpa [Builtin.Tuple.tupleCompareSizes] using hR⟩
  case h =>
   exact ⟨rfl,rfl,items.toList,items2.toList,ns,ms,rfl,hi,hj,by omega,h⟩
end
section
variable {prog:Program} {w:World} {A:Around} {E:Value→Shared→Prop} {s:Shared}
theorem gh {l b:Addr}{items items2:Array Value}{ns ms:List Int}{Q:Value→Shared→Prop}(hl:IsTup s.heap l items)(hb:IsTup s.heap b items2)(hi:IntsAre items.toList ns)(hj:IntsAre items2.toList ms)
  (hu:A.units < cLine) (h:Q (.bool (bC ns ms)) s):wpAny (model prog w) A (compareOp .Lt (.ref l) (.ref b)) Q E s:=by
 obtain ⟨⟨cls,dd,data,sl⟩,ho,hc,n,hd⟩:=id hl
 obtain ⟨⟨cls2,dd2,data2,sl2⟩,ho2,hc2,n2,hd2⟩:=id hb
 simp only at hc hd hc2 hd2
 subst hc hd hc2 hd2
 exact richCompare_meets_room (op:=.Lt) ⟨_,ho,rfl⟩ ⟨_,ho2,rfl⟩ PySem.F.slot_tuple_lt PySem.F.entry_tuple_lt (PySem.F.args_tuple_lt_2 _ _) (gQ l b items items2 n n2 dd dd2 sl sl2 ns ms hi hj)
  ⟨ho,ho2,show Value.bool (bC ns ms)≠Value.notImplemented∧Q (.bool (bC ns ms)) s from ⟨(fun x=>nomatch x),h⟩⟩ hu
def sIx (n d:Nat):Option Int→Nat
 | none=>d
 | some v=>if v < 0 then (v+(n:Int)).toNat else min v.toNat n
theorem gR (n d:Nat):sIx n d none=d:=rfl
theorem e_ (n d k:Nat):sIx n d (some (k:Int))=min k n:=by
 show (if (k:Int) < 0 then ((k:Int)+(n:Int)).toNat else min (k:Int).toNat n)=min k n
 rw [if_neg (by omega),DK]
theorem tJ (n d:Nat)(hd:d≤n)(o:Option Int):sIx n d o≤n:=by
 cases o with
 | none=>exact hd
 | some v =>
  show (if v < 0 then (v+(n:Int)).toNat else min v.toNat n)≤n
  by_cases hv:v < 0
  ·rw [if_pos hv];omega
  ·rw [if_neg hv];exact Nat.min_le_right _ _
end
end HT
namespace L2
open PySem PySem.Spec PyProof.Rows
abbrev TO:=St→Hp→(Option Int→Hp→Prop)→Prop
def PO (X:Cx)(e:Option Expr)(t:TO):Prop :=
 ∀ (pins:List (Addr × Obj)) (s:Shared) (σ:St) (H:Hp) (Q:Option Int→Hp→Prop),Inv X pins σ H s→t σ H Q →
  wpAny (model X.prog X.w) X.A (evalPart e X.env) (fun u s'=>∃ o H',Inv X pins σ H' s'∧IsPart u o∧Q o H') X.xe s
def uW:TO:=fun _ H Q=>Q none H
inductive IsI (x:V)(H:Hp)(Q:Option Int→Hp→Prop):Prop
 | mk:∀ i,(x = .int i)→(Q (some i) H)→IsI x H Q
def rB (Q:(Option Int→Hp→Prop)):V→Hp→Prop:=fun x H1=>IsI x H1 Q
def AR (t:TE):TO:=fun σ H Q=>t σ H (rB Q)
theorem cM {ns:List Int}:∀ {us:List Value},aV (ns.map V.int) us→IntsAre us ns:=by
 induction ns with
 | nil=>intro us r;rw [G4] at r;cases r;exact .nil
 | cons n ns ih =>
  intro us r
  rw [DQ] at r
  cases r with
  | cons r1 r2 =>
   obtain ⟨t,e⟩:=r1
   subst e
   exact .cons n t (ih r2)
section
variable {X:Cx} {e:Expr} {te:TE} {lo hi:Option Expr} {tl th:TO} {pos p2:Pos}
theorem bx:PO X none uW:=by
 intro pins s σ H Q I h
 rw [evalPart_none]
 exact Dm ⟨none,H,I,.none,h⟩
theorem bh (h:PE X e te):PO X (some e) (AR te):=by
 intro pins s σ H Q I hw
 rw [evalPart_some]
 refine thn (h pins s σ H _ I hw) fun u s1 zq62=>?_
 obtain ⟨x,H1,I1,r1,q1⟩:=zq62
 obtain ⟨i,rfl,q⟩:=q1
 obtain ⟨t,rfl⟩:=r1
 exact ⟨some i,H1,I1,.int i t,q⟩
def SlR (X:Cx)(r:V→Option Int→Option Int→Hp→VK→Prop):Prop :=
 ∀ (pins:List (Addr × Obj)) (s:Shared) (σ:St) (H:Hp) (x:V) (v vl vu:Value) (lo hi:Option Int) (sl:Addr) (Q:VK),Inv X pins σ H s→bf x v→s.heap.IsSliceOf sl vl vu .none→IsPart vl lo→IsPart vu hi→r x lo hi H Q →
  ∃ T id,typeLookup (.type T) "__getitem__" = pure (some (.builtin id))∧s.TypeIs v T∧wpAny (model X.prog X.w) X.A (getItem v (.ref sl)) (EP X pins σ Q) X.xe s
def ye (r:V→Option Int→Option Int→Hp→VK→Prop)(Q:VK)(x:V)(l:Option Int):Option Int→Hp→Prop:=fun u H3=>r x l u H3 Q
def yf (r:V→Option Int→Option Int→Hp→VK→Prop)(th:TO)(σ:St)(Q:VK)(x:V):Option Int→Hp→Prop:=fun l H2=>th σ H2 (ye r Q x l)
def yg (r:V→Option Int→Option Int→Hp→VK→Prop)(tl:TO)(th:TO)(σ:St)(Q:VK):V→Hp→Prop:=fun x H1=>tl σ H1 (yf r th σ Q x)
def tSl (r:V→Option Int→Option Int→Hp→VK→Prop)(te:TE)(tl th:TO):TE:=fun σ H Q=>te σ H (yg r tl th σ Q)
theorem ba {r:V→Option Int→Option Int→Hp→VK→Prop}(hr:SlR X r)(he:PE X e te)(hl:PO X lo tl)(hu:PO X hi th):PE X (.Subscript e (.Slice lo hi none p2) pos) (tSl r te tl th):=by
 intro pins s σ H Q I h
 refine HJ (thn (he pins s σ H _ I h) fun v s1 zq63=>?_)
 obtain ⟨x,H1,I1,r1,q1⟩:=zq63
 refine wpAny_Slice (thn (hl pins s1 σ H1 _ I1 q1) fun vl s2 ⟨l,H2,I2,pl,q2⟩=>thn (hu pins s2 σ H2 _ I2 q2) fun vu s3 zq64=>?_)
 obtain ⟨u,H3,I3,pu,q3⟩:=zq64
 rw [evalPart_none]
 refine Dm ?_
 have I4:Inv X pins σ H3 { s3 with heap:=s3.heap.push { cls:=.type "slice",data:=.fields #[vl,vu,.none] } }:=(I3.kept (t':=s3.toks) fun b ob q=>C6 _ q).up I3.low
 obtain ⟨T,id,hT,ht,hg⟩:=hr pins { s3 with heap:=s3.heap.push { cls:=.type "slice",data:=.fields #[vl,vu,.none] } } σ H3 x v vl vu l u s3.heap.objs.size Q I4 r1 (Heap.IsSliceOf.new ..) pl pu q3
 show wpAny (model X.prog X.w) X.A (subscriptTail e (.Slice lo hi none p2) v (.ref s3.heap.objs.size)) (EP X pins σ Q) X.xe { s3 with heap:=s3.heap.push { cls:=.type "slice",data:=.fields #[vl,vu,.none] } }
 exact tail_any (ops:=[.ref s3.heap.objs.size,v]) ht hT hg (by with_unfolding_all rfl)
def nA (xs:List V)(lo hi:Option Int):List V:=(xs.drop (HT.sIx xs.length 0 lo)).take (HT.sIx xs.length xs.length hi - HT.sIx xs.length 0 lo)
theorem jR (xs:List V)(lo hi:Option Int):(nA xs lo hi).length≤xs.length:=by
 unfold nA
 rw [Dw,Gy]
 omega
inductive AS (K:PySem.W.Frag)(x:V)(y:V)(H:Hp)(Q:VK):Prop
 | mk:∀ a b ns ms,(x = .ref a)→(y = .ref b)→(SqT K H a (ns.map V.int))→(SqT K H b (ms.map V.int))→(Q (.bl (HT.bC ns ms)) H)→AS K x y H Q
theorem yh (hu:X.A.units < cLine):OpR X (compareOp .Lt) (AS X.K):=by
 intro pins s σ H x y v u Q I rx ry h
 obtain ⟨a,b,ns,ms,rfl,rfl,ha,hb,q⟩:=h
 cases rx
 cases ry
 obtain ⟨its,r1,p1,_⟩:=I.tuple ha
 obtain ⟨its2,r2,p2,_⟩:=I.tuple hb
 have i1:IntsAre its.toArray.toList ns:=cM r1
 have i2:IntsAre its2.toArray.toList ms:=cM r2
 exact HT.gh p1 p2 i1 i2 hu ⟨.bl (HT.bC ns ms),H,I,rfl,q⟩
end
def ixN (n:Nat)(i:Int):Option Nat:=if 0≤i then (if i < n then some i.toNat else none) else if -(n:Int)≤i then some (i+n).toNat else none
def atI {α:Type}(xs:List α)(i:Int):Option α:=(ixN xs.length i).bind fun j=>xs[j]?
theorem nV {n:Nat}{i:Int}{j:Nat}(h:ixN n i=some j):seqIndex? i n=some j∧j < n∧-(n:Int)≤i∧i < n:=by
 unfold ixN at h
 by_cases h0:0≤i
 ·rw [if_pos h0] at h
  by_cases h1:i < n
  ·rw [if_pos h1] at h
   have e:i.toNat=j:=Dp h
   exact ⟨by rw [seqIndex_of h0 h1,e],by omega,by omega,h1⟩
  ·rw [if_neg h1] at h;cases h
 ·rw [if_neg h0] at h
  by_cases h1:-(n:Int)≤i
  ·rw [if_pos h1] at h
   have e:(i+n).toNat=j:=Dp h
   exact ⟨by rw [seqIndex_neg (by omega) h1,e],by omega,h1,by omega⟩
  ·rw [if_neg h1] at h;cases h
theorem jS {α:Type}{xs:List α}{i:Int}{v:α}(h:atI xs i=some v):∃ j,seqIndex? i xs.length=some j∧xs[j]? = some v∧j < xs.length∧-(xs.length:Int)≤i∧i < xs.length:=by
 unfold atI at h
 cases e:ixN xs.length i with
 | none=>rw [e] at h;cases h
 | some j =>
  rw [e] at h
  obtain ⟨h1,h2,h3,h4⟩:=nV e
  exact ⟨j,h1,h,h2,h3,h4⟩
theorem bI {α:Type}{xs:List α}{j:Nat}{v:α}(h:xs[j]? = some v):atI xs (j:Int)=some v:=by
 have hj:j < xs.length:=(Dd.mp h).1
 have e:ixN xs.length (j:Int)=some j:=by
  unfold ixN
  rw [if_pos (by omega),if_pos (by omega)];simp
 unfold atI;rw [e];exact h
def jT (b:Expr):Prop:=∀ o i,subscripted b false o i=operate [o,i] (getItem o i)
def IxR (X:Cx)(r:R2):Prop :=
 ∀ (value slice:Expr) (pins:List (Addr × Obj)) (s:Shared) (σ:St) (H:Hp) (x y:V) (v u:Value) (Q:VK),Inv X pins σ H s→bf x v→bf y u→r x y H Q →
  subscripted slice false v u=operate [v,u] (getItem v u)→wpAny (model X.prog X.w) X.A (subscriptTail value slice v u) (EP X pins σ Q) X.xe s
def MtR (X:Cx)(id:String)(r:V→List V→Hp→VK→Prop):Prop :=
 ∀ (pins:List (Addr × Obj)) (s:Shared) (σ:St) (H:Hp) (x:V) (xs:List V) (v:Value) (us:List Value) (Q:VK),Inv X pins σ H s→bf x v→aV xs us→r x xs H Q →
  wpAny (model X.prog X.w) X.A (call (.builtin id) (v::us)) (EP X pins σ Q) X.xe s
section
variable {X:Cx} {a b:Expr} {ta tb:TE} {pos:Pos}
theorem aR {r:R2}(hr:IxR X r)(ha:PE X a ta)(hb:PE X b tb)(hs:jT b):PE X (.Subscript a b pos) (tOp r ta tb):=by
 intro pins s σ H Q I h
 exact HJ (AM ha hb I h fun v u s2 x y H2 I2 rx ry q=>hr a b pins s2 σ H2 x y v u Q I2 rx ry q (hs _ _))
inductive AU (K:PySem.W.Frag)(x:V)(y:V)(H:Hp)(Q:VK):Prop
 | mk:∀ p xs i v,(x = .ref p)→(y = .int i)→(SqL K H p xs)→(atI xs i=some v)→(Q v H)→AU K x y H Q
inductive B3 (K:PySem.W.Frag)(x:V)(y:V)(H:Hp)(Q:VK):Prop
 | mk:∀ p xs i v,(x = .ref p)→(y = .int i)→(SqT K H p xs)→(atI xs i=some v)→(Q v H)→B3 K x y H Q
inductive B4 (x:V)(y:V)(H:Hp)(Q:VK):Prop
 | mk:∀ z i c,(x = .str z)→(y = .int i)→(z.length≤sizeLine)→(atI z.cps.toList i=some c)→(Q (.str ⟨#[c]⟩) H)→B4 x y H Q
theorem bJ:IxR X (AU X.K):=by
 intro value slice pins s σ H x y v u Q I rx ry h hs
 obtain ⟨p,xs,i,z,rfl,rfl,hq,he,q⟩:=h
 cases rx
 obtain ⟨t,rfl⟩:=ry
 obtain ⟨its,r,pl,hz⟩:=I.list hq
 obtain ⟨j,h1,h2,h3,h4,h5⟩:=jS he
 obtain ⟨w,ew,rw'⟩:=r.get h2
 have hl:=r.length
 have hn:=e8
 have fin:EP X pins σ Q w s:=⟨z,H,I,rw',q⟩
 by_cases h0:0≤i
 ·have hj:i.toNat=j:=by
   rw [seqIndex_of h0 h5] at h1
   exact Dp h1
  exact item_listR pl.isList h0 (by omega) (by rw [hj];simpa using ew) fin hs
 ·have hj:(i+(its.toArray.size:Int)).toNat=j:=by
   rw [seqIndex_neg (by omega) h4] at h1
   rw [DA,← hl]
   exact Dp h1
  exact subscriptTail_builtinR (x:=w) pl.isList.typeIs slot_list_getitem.lookup
   (wpAny_getItem_list_neg (Q:=fun r s'=>r=w∧EP X pins σ Q r s') pl.isList (by omega) (by rw [DA] <;> omega) (by omega) (by rw [hj];simpa using ew) ⟨rfl,fin⟩) hs
theorem bg:IxR X (B3 X.K):=by
 intro value slice pins s σ H x y v u Q I rx ry h hs
 obtain ⟨p,xs,i,z,rfl,rfl,hq,he,q⟩:=h
 cases rx
 obtain ⟨t,rfl⟩:=ry
 obtain ⟨its,r,pl,hz⟩:=I.tuple hq
 obtain ⟨j,h1,h2,h3,h4,h5⟩:=jS he
 obtain ⟨w,ew,rw'⟩:=r.get h2
 have hl:=r.length
 have hn:=e8
 have fin:EP X pins σ Q w s:=⟨z,H,I,rw',q⟩
 exact subscriptTail_builtinR (x:=w) pl.typeIs slot_tuple_getitem.lookup
  (getItem_tuple (j:=j) (Q:=fun r s'=>r=w∧EP X pins σ Q r s') pl (by omega) (by omega) (by rw [DA,← hl];exact h1) (by simpa using ew) ⟨rfl,fin⟩) hs
theorem fc:IxR X B4:=by
 intro value slice pins s σ H x y v u Q I rx ry h hs
 obtain ⟨z,i,c,rfl,rfl,hz,he,q⟩:=h
 obtain ⟨t,rfl⟩:=rx
 obtain ⟨t',rfl⟩:=ry
 obtain ⟨j,h1,h2,h3,h4,h5⟩:=jS he
 have hl:z.cps.toList.length=z.length:=by simp [Str.length]
 rw [hl] at h1 h4 h5
 have hn:=e8
 exact tail_any (Gn s z t) slot_str_getitem.lookup (getItem_str (c:=c) (by
  have e1:decide (i < -(2 ^ 63:Int))=false:=C7 (by omega)
  have e2:decide (i≥2 ^ 63)=false:=C7 (by omega)
  rw [e1,e2,HU]) (by rw [h1];simpa using h2) ⟨.str ⟨#[c]⟩,H,I.tok _,⟨_,rfl⟩,q⟩) hs
theorem Inv.lst {pins:List (Addr × Obj)}{σ:St}{H:Hp}{s:Shared}{p:Addr}{xs:List V}(I:Inv X pins σ H s)(h:H p=some (.lst xs)) :
  ∃ (its:List Value) (n:Nat),aV xs its∧s.heap.get? p=some { cls:=.type "list",data:=.seq its.toArray n }∧xs.length≤sizeLine:=by
 obtain ⟨z,its,n,r,e⟩:=I.hok p _ h
 exact ⟨its,n,r,e,z⟩
theorem jd (lo hi:Option Int)(n:Nat):(sliceBounds lo hi none n).1=((HT.sIx n 0 lo:Nat):Int)∧(sliceBounds lo hi none n).2.1=((HT.sIx n n hi:Nat):Int)∧(sliceBounds lo hi none n).2.2=1:=by
 refine ⟨?_,?_,rfl⟩
 ·cases lo with
  | none=>simp [sliceBounds,HT.sIx]
  | some i =>
   simp only [sliceBounds,HT.sIx,Hu,show (1:Int) > 0 by decide,Fe]
   by_cases h:i < 0
   ·simp only [h,Fe] <;> omega
   ·simp only [h,Eu] <;> omega
 ·cases hi with
  | none=>simp [sliceBounds,HT.sIx]
  | some i =>
   simp only [sliceBounds,HT.sIx,Hu,show (1:Int) > 0 by decide,Fe]
   by_cases h:i < 0
   ·simp only [h,Fe] <;> omega
   ·simp only [h,Eu] <;> omega
theorem gU (its:List Value)(lo hi:Option Int):slicePick its.toArray lo hi none=((its.drop (HT.sIx its.length 0 lo)).take (HT.sIx its.length its.length hi - HT.sIx its.length 0 lo)).toArray:=by
 obtain ⟨h1,h2,h3⟩:=jd lo hi its.toArray.size
 unfold slicePick
 rw [h1,h2,h3]
 simp only [sliceRange_one,pick_run,DA] <;> rfl
inductive B5 (K:PySem.W.Frag)(x:V)(lo:Option Int)(hi:Option Int)(H:Hp)(Q:VK):Prop
 | mk:∀ a xs,(x = .ref a)→(SqL K H a xs)→(∀ p,H p=none→Q (.ref p) (upd H p (.lst (nA xs lo hi))))→B5 K x lo hi H Q
theorem jU:SlR X (B5 X.K):=by
 intro pins s σ H x v vl vu lo hi sl Q I rx hs pl pu h
 obtain ⟨a,xs,rfl,hx,q⟩:=h
 cases rx
 obtain ⟨its,r,ht,hz⟩:=I.list hx
 have hlen:=r.length
 refine ⟨"list",_,slot_list_getitem.lookup,ht.isList.typeIs,?_⟩
 refine wpAny_getItem_list_slice ht.isList hs pl pu .none (by simp) ?_ (by rw [DA] <;> omega)
 rw [gU,← hlen]
 refine ⟨.ref s.heap.objs.size,_,I.laid (t':=s.toks) (o:=.lst (nA xs lo hi)) (fun b ob q=>C6 _ q) (Da _) ?_,rfl,q _ (I.hok.fresh (Da _))⟩
 exact ⟨DO (jR xs lo hi) hz,_,0,(r.drop (HT.sIx xs.length 0 lo)).take (HT.sIx xs.length xs.length hi - HT.sIx xs.length 0 lo),Dv _ rfl⟩
def gW:V→Bool
 | .non=>true
 | .bl _=>true
 | .int _=>true
 | .str _=>true
 | _=>false
def eqV:V→V→Bool
 | .non,.non=>true
 | .bl a,.bl b=>a == b
 | .bl a,.int b=>(if a then 1 else 0) == b
 | .int a,.bl b=>a == (if b then 1 else 0)
 | .int a,.int b=>a == b
 | .str a,.str b=>a == b
 | _,_=>false
theorem yi {A:Around}{s:Shared}{y x:V}{u v:Value}(ry:bf y u)(rx:bf x v)(fy:gW y=true)(fx:gW x=true):SeqAt.EqAt A s u v (eqV y x):=by
 cases y with
 | non =>
  cases ry
  cases x with
  | non=>cases rx;exact SeqAt.EqAt.same _
  | bl b=>cases rx;exact SeqAt.EqAt.none_bool b
  | int b=>obtain ⟨t,rfl⟩:=rx;exact SeqAt.EqAt.none_int b t
  | str b=>obtain ⟨t,rfl⟩:=rx;exact SeqAt.EqAt.none_str b t
  | _=>exact absurd (show false=true from fx) Dy
 | bl a =>
  cases ry
  cases x with
  | non=>cases rx;exact SeqAt.EqAt.bool_none a
  | bl b=>cases rx;exact SeqAt.EqAt.bool_bool a b
  | int b=>obtain ⟨t,rfl⟩:=rx;exact SeqAt.EqAt.bool_int a b t
  | str b=>obtain ⟨t,rfl⟩:=rx;exact SeqAt.EqAt.bool_str a b t
  | _=>exact absurd (show false=true from fx) Dy
 | int a =>
  obtain ⟨t',rfl⟩:=ry
  cases x with
  | non=>cases rx;exact SeqAt.EqAt.int_none a t'
  | bl b=>cases rx;exact SeqAt.EqAt.int_bool a t' b
  | int b=>obtain ⟨t,rfl⟩:=rx;exact SeqAt.EqAt.int_int a t' b t
  | str b=>obtain ⟨t,rfl⟩:=rx;exact SeqAt.EqAt.int_str a t' b t
  | _=>exact absurd (show false=true from fx) Dy
 | str a =>
  obtain ⟨t',rfl⟩:=ry
  cases x with
  | non=>cases rx;exact SeqAt.EqAt.str_none a t'
  | bl b=>cases rx;exact SeqAt.EqAt.str_bool a t' b
  | int b=>obtain ⟨t,rfl⟩:=rx;exact SeqAt.EqAt.str_int a t' b t
  | str b=>obtain ⟨t,rfl⟩:=rx;exact SeqAt.EqAt.str_str a t' b t
  | _=>exact absurd (show false=true from fx) Dy
 | _=>exact absurd (show false=true from fy) Dy
def eqU (x:V)(u:Value):Bool:=match u with
 | .none=>eqV .non x
 | .bool b=>eqV (.bl b) x
 | .int i _=>eqV (.int i) x
 | .str z _=>eqV (.str z) x
 | _=>false
theorem tK {x y:V}{u:Value}(r:bf y u)(f:gW y=true):eqU x u=eqV y x:=by
 cases y with
 | non=>cases r;rfl
 | bl b=>cases r;rfl
 | int i=>obtain ⟨t,rfl⟩:=r;rfl
 | str z=>obtain ⟨t,rfl⟩:=r;rfl
 | _=>exact absurd (show false=true from f) Dy
theorem jV {x:V}:∀ {xs:List V} {us:List Value},aV xs us→xs.all gW=true→us.any (eqU x)=xs.any fun y=>eqV y x
 | _,_,.nil,_=>rfl
 | y::xs,u::us,.cons r t,f=>by
  rw [HS,EK] at f
  rw [GC,GC,tK r f.1,jV t f.2]
theorem gX {A:Around}{s:Shared}{x:V}{v:Value}(rx:bf x v)(fx:gW x=true):∀ {xs:List V} {us:List Value},aV xs us→xs.all gW=true→∀ u∈us,SeqAt.EqAt A s u v (eqU x u)
 | _,_,.nil,_=>fun u hu=>by cases hu
 | y::xs,u::us,.cons r t,f=>fun u' hu=>by
  rw [HS,EK] at f
  rcases Dj.mp hu with rfl | hu
  ·rw [tK r f.1];exact yi r rx f.1 fx
  ·exact gX rx fx t f.2 u' hu
def inV (x:V)(xs:List V):Bool:=xs.any fun y=>eqV y x
inductive rIn (K:PySem.W.Frag)(neg:Bool)(x:V)(y:V)(H:Hp)(Q:VK):Prop
 | mk:∀ p xs,(y = .ref p)→((SqL K H p xs ∨ SqT K H p xs))→(gW x=true)→(xs.all gW=true)→(Q (.bl (if neg then !inV x xs else inV x xs)) H)→rIn K neg x y H Q
theorem je:OpR X (compareOp .NotIn) (rIn X.K true):=by
 intro pins s σ H x y v u Q I rx ry h
 obtain ⟨p,xs,rfl,hq,fx,fs,q⟩:=h
 cases ry
 rcases hq with hq | hq
 ·obtain ⟨its,r,pl,hz⟩:=I.list hq
  refine SeqAt.notIn_listAt (eqU x) pl.isList (fun w hw=>gX rx fx r fs w (by simpa using hw)) ⟨.bl _,H,I,rfl,?_⟩
  rw [show its.toArray.any (eqU x)=its.any (eqU x) by simp,jV r fs]
  exact q
 ·obtain ⟨its,r,pl,hz⟩:=I.tuple hq
  refine SeqAt.notIn_tupleAt (eqU x) pl (fun w hw=>gX rx fx r fs w (by simpa using hw)) ⟨.bl _,H,I,rfl,?_⟩
  rw [show its.toArray.any (eqU x)=its.any (eqU x) by simp,jV r fs]
  exact q
inductive bS (K:PySem.W.Frag)(xs:List V)(H:Hp)(Q:VK):Prop
 | mk:∀ p ys,(xs=[.ref p])→((SqL K H p ys ∨ SqT K H p ys))→(Q (.int ys.length) H)→bS K xs H Q
theorem aH:c_ X (.builtin "len") (bS X.K):=by
 intro pins s σ H xs us Q I r h
 obtain ⟨p,ys,rfl,hq,q⟩:=h
 obtain ⟨u,rfl,rx⟩:=cT r
 cases rx
 have hn:=e8
 rcases hq with hq | hq
 ·obtain ⟨its,r',pl,hz⟩:=I.list hq
  have hlen:=r'.length
  exact Calls.call_len_list pl.isList (by simp only [DA] <;> omega) ⟨.int ys.length,H,I.tok _,⟨s.toks+1,by rw [DA,hlen]⟩,q⟩
 ·obtain ⟨its,r',pl,hz⟩:=I.tuple hq
  have hlen:=r'.length
  exact len_tuple pl (by simp only [DA] <;> omega) ⟨.int ys.length,H,I.tok _,⟨s.toks+1,by rw [DA,hlen]⟩,q⟩
inductive cZ  (xs:List V)(H:Hp)(Q:VK):Prop
 | mk:∀ z,(xs=[.str z])→(z.length≤sizeLine)→(Q (.int z.length) H)→cZ xs H Q
theorem ao:c_ X (.builtin "len") cZ:=by
 intro pins s σ H xs us Q I r h
 obtain ⟨z,rfl,hz,q⟩:=h
 obtain ⟨u,rfl,t,rfl⟩:=cT r
 have hn:=e8
 exact len_str (by omega) ⟨.int z.length,H,I.tok _,⟨_,rfl⟩,q⟩
inductive c5 (K:PySem.W.Frag)(xs:List V)(H:Hp)(Q:VK):Prop
 | mk:∀ p ys,(xs=[.ref p])→((SqL K H p ys ∨ SqT K H p ys))→(∀ l,H l=none→Q (.ref l) (upd H l (.lst ys)))→c5 K xs H Q
theorem jf:c_ X (.type "list") (c5 X.K):=by
 intro pins s σ H xs us Q I r h
 obtain ⟨p,ys,rfl,hq,q⟩:=h
 obtain ⟨u,rfl,rx⟩:=cT r
 cases rx
 have fin:∀ (its:List Value),aV ys its→ys.length≤sizeLine→∀ (h':Heap) (c':Nat),(∀ b o',s.heap.get? b=some o'→h'.get? b=some o') →
   h'.get? s.heap.objs.size=some { cls:=.type "list",dict:=none,data:=.seq its.toArray c',slots:=#[] }→EP X pins σ Q (.ref s.heap.objs.size) { s with heap:=h' }:=fun its r' hz h' c' kp e =>
  ⟨.ref s.heap.objs.size,_,I.laid (t':=s.toks) kp (Da _) (show bw X.prog X.w _ h' _ (.lst ys) from ⟨hz,its,c',r',e⟩),rfl,q _ (I.hok.fresh (Da _))⟩
 rcases hq with hq | hq
 ·obtain ⟨its,r',pl,hz⟩:=I.list hq
  have hlen:=r'.length
  obtain ⟨o,ho,hc,n,hd⟩:=pl.isList
  exact call_list_seq p (.inl rfl) ho hc hd (fun h' c' kp e=>fin its r' hz h' c' kp e) (by simp only [DA] <;> omega)
 ·obtain ⟨its,r',pl,hz⟩:=I.tuple hq
  have hlen:=r'.length
  obtain ⟨o,ho,hc,n,hd⟩:=pl
  exact call_list_seq p (.inr rfl) ho hc hd (fun h' c' kp e=>fin its r' hz h' c' kp e) (by simp only [DA] <;> omega)
inductive cu (K:PySem.W.Frag)(xs:List V)(H:Hp)(Q:VK):Prop
 | mk:∀ p ys,(xs=[.ref p])→(((SqL K H p ys∧∀ l,H l=none→Q (.ref l) (upd H l (.tup ys))) ∨ (SqT K H p ys∧Q (.ref p) H)))→cu K xs H Q
theorem gY:c_ X (.type "tuple") (cu X.K):=by
 intro pins s σ H xs us Q I r h
 obtain ⟨p,ys,rfl,h⟩:=h
 obtain ⟨u,rfl,rx⟩:=cT r
 cases rx
 rcases h with ⟨hq,q⟩ | ⟨hq,q⟩
 ·obtain ⟨its,r',pl,hz⟩:=I.list hq
  have hlen:=r'.length
  refine call_tuple_list pl.isList (fun h' kp=>?_) (by simp only [DA] <;> omega)
  have I1:InvW X pins σ H { s with heap:=h' }:=I.kept (t':=s.toks) kp
  have I2:InvW X pins σ (upd H h'.objs.size (.tup ys)) { s with heap:=h'.push { cls:=.type "tuple",data:=.seq its.toArray } } :=
   I1.laid (t':=s.toks) (fun b o e=>C6 _ e) (Da _) (show bw X.prog X.w _ _ _ (.tup ys) from ⟨hz,its,r',IsTup.new _ _,.new _ _ rfl⟩)
  exact ⟨.ref h'.objs.size,_,I2,rfl,q _ (I1.hok.fresh (Da _))⟩
 ·obtain ⟨its,r',pl,hz⟩:=I.tuple hq
  exact call_tuple_same pl ⟨.ref p,H,I,rfl,q⟩
def tyV (K:PySem.W.Frag)(T:String)(x:V)(H:Hp):Prop:=match x with
 | .str _=>T = "str"
 | .int _=>T = "int"
 | .ref p=>(T = "list"∧∃ xs,SqL K H p xs) ∨ (T = "tuple"∧((∃ o,K.lookup p=some o∧o.cls = .type "tuple"∧o.dict=none) ∨ ∃ xs,H p=some (.tup xs))) ∨
   (T = "dict"∧((∃ kvs,H p=some (.dK kvs)) ∨ ∃ kvs,H p=some (.dT kvs))) ∨ (T = "set"∧∃ S n,H p=some (.set S n))
 | _=>False
theorem tL {pins:List (Addr × Obj)}{σ:St}{H:Hp}{s:Shared}{T:String}{x:V}{v:Value}(I:Inv X pins σ H s)(r:bf x v)(ty:tyV X.K T x H) :
  s.TypeIs v T∧∀ a,v = .ref a→∃ ob,s.heap.get? a=some ob∧ob.dict=none:=by
 cases x with
 | str z =>
  obtain ⟨t,rfl⟩:=r
  cases (show T = "str" from ty)
  exact ⟨Gn s z t,fun _ e=>nomatch e⟩
 | int i =>
  obtain ⟨t,rfl⟩:=r
  cases (show T = "int" from ty)
  exact ⟨typeIs_int s i t,fun _ e=>nomatch e⟩
 | ref p =>
  cases r
  rcases ty with ⟨rfl,xs,hq⟩ | ⟨rfl,⟨o,hk,hc,hd⟩ | ⟨xs,hk⟩⟩ | ⟨rfl,hk⟩ | ⟨rfl,S,n,hk⟩
  ·obtain ⟨its,_,pl,_⟩:=I.list hq
   refine ⟨pl.isList.typeIs,fun a e=>?_⟩
   cases e
   obtain ⟨o,n,e,c,hd,_⟩:=pl
   exact ⟨o,e,hd⟩
  ·refine ⟨⟨o,I.kIn p o hk,hc⟩,fun a e=>?_⟩
   cases e
   exact ⟨o,I.kIn _ o hk,hd⟩
  ·obtain ⟨_,_,_,⟨o,e,hc,_⟩,hn⟩:=I.hok p _ hk
   refine ⟨⟨o,e,hc⟩,fun a e=>?_⟩
   cases e
   exact hn
  ·have z:∃ o,s.heap.get? p=some o∧o.ExactDict:=by
    rcases hk with ⟨kvs,hk⟩ | ⟨kvs,hk⟩
    ·obtain ⟨_,_,_,_,o,_,_,e,ex,_⟩:=I.hok p _ hk
     exact ⟨o,e,ex⟩
    ·obtain ⟨_,_,_,_,o,_,_,e,ex,_⟩:=I.hok p _ hk
     exact ⟨o,e,ex⟩
   obtain ⟨o,e,ex⟩:=z
   refine ⟨⟨o,e,ex.1⟩,fun a e2=>?_⟩
   cases e2
   exact ⟨o,e,ex.2.1⟩
  ·obtain ⟨o,_,_,_,e,ex,_⟩:=I.hok p _ hk
   refine ⟨⟨o,e,ex.1⟩,fun a e2=>?_⟩
   cases e2
   exact ⟨o,e,ex.2.1⟩
 | _=>exact False.elim ty
def uX (K:PySem.W.Frag)(T:String)(r:V→List V→Hp→VK→Prop)(Q:VK):V→Hp→Prop:=fun x H1=>tyV K T x H1∧r x [] H1 Q
def B6 (K:PySem.W.Frag)(T:String)(r:V→List V→Hp→VK→Prop)(to:TE):TE:=fun σ H Q=>to σ H (uX K T r Q)
def yj (r:V→List V→Hp→VK→Prop)(Q:VK)(x:V):List V→Hp→Prop:=fun xs H2=>r x xs H2 Q
def yk (K:PySem.W.Frag)(T:String)(r:V→List V→Hp→VK→Prop)(t:TA)(σ:St)(Q:VK):V→Hp→Prop:=fun x H1=>tyV K T x H1∧t σ H1 (yj r Q x)
def tBM (K:PySem.W.Frag)(T:String)(r:V→List V→Hp→VK→Prop)(to:TE)(t:TA):TE:=fun σ H Q=>to σ H (yk K T r t σ Q)
variable {o e:Expr} {es:List Expr} {to:TE} {t:TA} {name:Str} {apos cpos:Pos} {T id:String} {r:V→List V→Hp→VK→Prop}
theorem gi (pa:PlainAttrs T)(slot:Slot T name id)(hty:typeOf (.builtin id)=pure (.type "method_descriptor"))(hm:MtR X id r)(ho:PE X o to)
  (hbase:attributeBase o name X.env (eval o X.env)=eval o X.env:=by rfl) (hline:(apos.endLine == cpos.line)=true:=by rfl):PE X (.Call (.Attribute o name apos) [] [] cpos) (B6 X.K T r to):=by
 intro pins s σ H Q I h
 refine wpAny_Call_method0_late hbase hline (thn (ho pins s σ H _ I h) fun v s1 zq65=>?_)
 obtain ⟨x,H1,I1,r1,ty,q1⟩:=zq65
 obtain ⟨h1,h2⟩:=tL I1 r1 ty
 exact ⟨T,id,pa,slot,hty,h1,h2,Ge rfl (PySem.evalArgs_none (hm pins s1 σ H1 x [] v [] Q I1 r1 .nil q1))⟩
theorem cU (pa:PlainAttrs T)(slot:Slot T name id)(hty:typeOf (.builtin id)=pure (.type "method_descriptor"))(hm:MtR X id r)(ho:PE X o to)(ha:PA X (e::es) t)
  (hbase:attributeBase o name X.env (eval o X.env)=eval o X.env:=by rfl)
  (hfew:((backTo cpos (starEach (e::es) X.env)).all (fun x=>!x.1) && (backToKw cpos (keywordEach [] X.env)).all (fun x=>x.1.isSome)
   && decide ((e::es).length+([]:List Keyword).length+(if ([]:List Keyword).isEmpty then 0 else 1) < 30))=true:=by rfl)
  (hline:(apos.endLine == cpos.line)=true:=by rfl) (hs:starEach (e::es) X.env=(false,eval e X.env)::starEach es X.env:=by rfl) (hplain:(backTo cpos (starEach es X.env)).any (·.1)=false:=by rfl) :
  PE X (.Call (.Attribute o name apos) (e::es) [] cpos) (tBM X.K T r to t):=by
 intro pins s σ H Q I h
 refine wpAny_Call_method_late hbase hfew hline rfl (thn (ho pins s σ H _ I h) fun v s1 zq66=>?_)
 obtain ⟨x,H1,I1,r1,ty,q1⟩:=zq66
 obtain ⟨h1,h2⟩:=tL I1 r1 ty
 refine ⟨T,id,pa,slot,hty,h1,h2,?_⟩
 have hA:=ha cpos pins s1 σ H1 _ I1 q1
 rw [hs] at hA ⊢
 refine Ge (by show (false || (backTo cpos (starEach es X.env)).any (·.1))=false;rw [hplain] <;> rfl) (Calls.evalArgs_plain ?_)
 exact thn hA fun us s2 zq67=>(by obtain ⟨vs,H2,I2,r2,q2⟩:=zq67;exact hm pins s2 σ H2 x vs v us Q I2 r1 r2 q2)
/- xs.append(e),list.index on a module's tuple .. are MtR facts of 06m -/
end
def MtM (X:Cx)(id:String)(r:V→List V→Hp→VK→Prop):Prop :=
 ∀ (pins:List (Addr × Obj)) (s:Shared) (σ:St) (H:Hp) (x:V) (xs:List V) (v:Value) (us:List Value) (Q:VK),Inv X pins σ H s→bf x v→aV xs us→r x xs H Q →
  wpAny (model X.prog X.w) X.A (call (.builtin id) (v::us)) (EP X pins σ Q) X.xe s
theorem aV.one:∀ {x:V} {us:List Value},aV [x] us→∃ u,us=[u]∧bf x u
 | _,_,.cons r .nil=>⟨_,rfl,r⟩
theorem aV.eraseIdx:∀ {xs:List V} {us:List Value} (i:Nat),aV xs us→aV (xs.eraseIdx i) (us.eraseIdx i)
 | _,_,_,.nil=>.nil
 | _,_,0,.cons _ t=>t
 | _,_,i+1,.cons r t=>.cons r (aV.eraseIdx i t)
theorem aV.rep {xs:List V}{us:List Value}(h:aV xs us):∀ k:Nat,aV (List.replicate k xs).flatten (List.replicate k us).flatten
 | 0=>.nil
 | k+1=>by
  rw [EU,EU,DW,DW]
  exact aV.append h (aV.rep h k)
theorem jg {α:Type}:∀ (l:List α) (i:Nat),(l.eraseIdx i).length≤l.length
 | [],_=>Da _
 | _::_,0=>FP _
 | _::r,i+1=>Nat.succ_le_succ (jg r i)
theorem jh (its:List Value):∀ (k:Nat) (acc:List Value),
  List.foldl (fun x1 x2=>x1++x2) acc.toArray (List.replicate k its.toArray)=(acc++(List.replicate k its).flatten).toArray
 | 0,acc=>by simp
 | k+1,acc=>by
  have e:acc.toArray++its.toArray=(acc++its).toArray:=by simp
  have e2:(acc++its)++(List.replicate k its).flatten=acc++(List.replicate (k+1) its).flatten:=by
   rw [EU,DW,Dh]
  rw [← e2,← jh its k (acc++its),← e,EU,HD]
section
variable {X:Cx} {pins:List (Addr × Obj)} {σ:St} {H:Hp} {s:Shared} {l b:Addr} {xs ys zs:List V}
theorem Inv.lset {its its':List Value}{n:Nat}{f:Array Value→Array Value}{t':Nat}(I:Inv X pins σ H s)(hH:H l=some (.lst xs))
  (e:s.heap.get? l=some { cls:=.type "list",data:=.seq its.toArray n }) (hf:f its.toArray=its'.toArray) (hv:aV ys its') (hz:ys.length≤sizeLine) :
  InvW X pins σ (upd H l (.lst ys)) { s with heap:=s.heap.update l (Obj.mapSeq f),toks:=t' }:=by
 have q:=PySem.IsL.update e f
 rw [hf] at q
 refine I.write (x:=l) (e:=l) (by rw [hH];exact trivial) (.inl rfl) (fun b' u hb hu=>(DR s.heap (Obj.mapSeq f) (Ne.symm hb)).trans hu) ⟨_,q⟩ ?_
 exact ⟨hz,its',_,hv,q⟩
theorem Inv.lnew {its:List Value}{t':Nat}(I:Inv X pins σ H s)(hv:aV ys its)(hz:ys.length≤sizeLine) :
  InvW X pins σ (upd H s.heap.objs.size (.lst ys)) { s with heap:=s.heap.push { cls:=.type "list",data:=.seq its.toArray },toks:=t' } :=
 I.laid (fun _ _ q=>C6 _ q) (Da _) ⟨hz,its,0,hv,Dv _ rfl⟩
theorem Inv.fresh (I:Inv X pins σ H s):H s.heap.objs.size=none:=I.hok.fresh (Da _)
theorem Inv.lstM (I:Inv X pins σ H s)(hH:H l=some (.lst xs)):xs.length≤sizeLine∧∃ (its:List Value) (n:Nat),aV xs its∧xs.length=its.length∧s.heap.get? l=some { cls:=.type "list",data:=.seq its.toArray n }:=by
 obtain ⟨z,its,n,r,e⟩:=I.hok l _ hH
 exact ⟨z,its,n,r,r.length,e⟩
theorem kR {n:Nat}(h:n≤sizeLine):Builtin.List.listTooLong n=false:=by
 unfold Builtin.List.listTooLong
 exact C7 (by omega)
end
section
variable {X:Cx}
inductive nX (x:V)(vs:List V)(H:Hp)(Q:VK):Prop
 | mk:∀ l xs y,(x = .ref l)→(vs=[y])→(H l=some (.lst xs))→(xs.length < sizeLine)→(Q .non (upd H l (.lst (xs++[y]))))→nX x vs H Q
theorem nY:MtM X "list.append" nX:=by
 intro pins s σ H x vs v us Q I rx rv h
 obtain ⟨l,xs,y,rfl,rfl,hH,hz,q⟩:=h
 cases rx
 obtain ⟨u,rfl,ru⟩:=rv.one
 obtain ⟨z,its,n,r,hl,e⟩:=I.lstM hH
 refine GF F.slot_list_append ⟨_,e,rfl⟩ F.entry_list_append (F.args_list_append_2 _ _) (PySem.list_append l its.toArray n u (by rw [DA];omega)) ⟨e,?_⟩
 refine ⟨.non,_,I.lset (its':=its++[u]) hH e (by simp) (r.append (.cons ru .nil)) ?_,rfl,q⟩
 rw [C8,DX]
 omega
inductive n_ (x:V)(vs:List V)(H:Hp)(Q:VK):Prop
 | mk:∀ l b xs zs,(x = .ref l)→(vs=[.ref b])→(H l=some (.lst xs))→(H b=some (.lst zs))→(xs.length+zs.length≤sizeLine)→(Q .non (upd H l (.lst (xs++zs))))→n_ x vs H Q
theorem fe:MtM X "list.extend" n_:=by
 intro pins s σ H x vs v us Q I rx rv h
 obtain ⟨l,b,xs,zs,rfl,rfl,hH,hB,hz,q⟩:=h
 cases rx
 obtain ⟨u,rfl,ru⟩:=rv.one
 cases ru
 obtain ⟨z,its,n,r,hl,e⟩:=I.lstM hH
 obtain ⟨z2,its2,n2,r2,hl2,e2⟩:=I.lstM hB
 have hsz:its.toArray.size+its2.toArray.size≤sizeLine:=by rw [DA,DA];omega
 have hlong:¬ (!its.toArray.isEmpty && Builtin.List.listTooLong (its.toArray.size+its2.toArray.size))=true:=by
  rw [kR hsz,Gq]
  exact Dy
 refine GF F.slot_list_extend ⟨_,e,rfl⟩ F.entry_list_extend (F.args_list_extend_2 _ _)
  (AutoSeq1.list_extend_list_list_0 l its.toArray n b its2.toArray n2 hlong (by rw [DA];omega) (by omega)) ⟨e,e2,?_⟩
 refine ⟨.non,_,I.lset (its':=its++its2) hH e (by simp) (r.append r2) ?_,rfl,q⟩
 rw [C8]
 omega
inductive tM (x:V)(vs:List V)(H:Hp)(Q:VK):Prop
 | mk:∀ l xs i k y,(x = .ref l)→(vs=[.int i])→(H l=some (.lst xs))→(-(2 ^ 63)≤i)→(i < 2 ^ 63)→(seqIndex? i xs.length=some k)→(xs[k]? = some y)→(Q y (upd H l (.lst (xs.eraseIdx k))))→tM x vs H Q
theorem rD:MtM X "list.pop" tM:=by
 intro pins s σ H x vs v us Q I rx rv h
 obtain ⟨l,xs,i,k,y,rfl,rfl,hH,h1,h2,hk,hy,q⟩:=h
 cases rx
 obtain ⟨u,rfl,ru⟩:=rv.one
 obtain ⟨t,rfl⟩:=ru
 obtain ⟨z,its,n,r,hl,e⟩:=I.lstM hH
 obtain ⟨w,hw,rw'⟩:=r.get hy
 refine GF F.slot_list_pop ⟨_,e,rfl⟩ F.entry_list_pop (F.args_list_pop_2 _ _)
  (MeetsSeq.list_pop_at l its.toArray n i t k w (fitsIndex_both h1 h2) (by rw [DA,← hl];exact hk) (by rw [← DY];exact hw) (by rw [DA];omega)) ⟨e,?_⟩
 refine ⟨y,_,I.lset (its':=its.eraseIdx k) hH e ?_ (r.eraseIdx k) ?_,rw',q⟩
 ·show its.toArray.eraseIdxIfInBounds k=(its.eraseIdx k).toArray
  rw [List.eraseIdxIfInBounds_toArray]
 ·have:=jg xs k
  omega
inductive B7 (x:V)(y:V)(H:Hp)(Q:VK):Prop
 | mk:∀ l b xs zs,(x = .ref l)→(y = .ref b)→(H l=some (.lst xs))→(H b=some (.lst zs))→(xs.length+zs.length≤sizeLine)→(∀ p,H p=none→Q (.ref p) (upd H p (.lst (xs++zs))))→B7 x y H Q
theorem ym:OpR X (binaryOp .Add) B7:=by
 intro pins s σ H x y v u Q I rx ry h
 obtain ⟨l,b,xs,zs,rfl,rfl,hH,hB,hz,q⟩:=h
 cases rx
 cases ry
 obtain ⟨z,its,n,r,hl,e⟩:=I.lstM hH
 obtain ⟨z2,its2,n2,r2,hl2,e2⟩:=I.lstM hB
 refine PySem.P.add_list e e2 ?_ (by rw [DA,DA];omega)
 have ea:its.toArray++its2.toArray=(its++its2).toArray:=by simp
 rw [ea]
 exact ⟨.ref _,_,I.lnew (t':=s.toks) (r.append r2) (by rw [C8];omega),rfl,q _ I.fresh⟩
inductive B8 (x:V)(y:V)(H:Hp)(Q:VK):Prop
 | mk:∀ l k xs,(x = .ref l)→(y = .int k)→(H l=some (.lst xs))→(-(2 ^ 63)≤k)→(k < 2 ^ 63)→(xs.length*k.toNat≤sizeLine)→(∀ p,H p=none→Q (.ref p) (upd H p (.lst (List.replicate k.toNat xs).flatten)))→B8 x y H Q
theorem uY {α:Type}(xs:List α)(k:Nat):(List.replicate k xs).flatten.length=k*xs.length:=by
 induction k with
 | zero=>simp
 | succ k ih=>rw [EU,DW,C8,ih,Nat.succ_mul,Nat.add_comm]
theorem yn:OpR X (binaryOp .Mult) B8:=by
 intro pins s σ H x y v u Q I rx ry h
 obtain ⟨l,k,xs,rfl,rfl,hH,h1,h2,hz,q⟩:=h
 cases rx
 obtain ⟨t,rfl⟩:=ry
 obtain ⟨z,its,n,r,hl,e⟩:=I.lstM hH
 have hlen:its.toArray.size*k.toNat≤sizeLine:=by rw [DA,← hl];exact hz
 have hcap:¬ its.toArray.size*k.toNat > (2 ^ 63 - 1) / 8:=by
  have:(sizeLine:Nat)≤(2 ^ 63 - 1) / 8:=by decide
  omega
 have hfit:¬ (!Builtin.List.listFitsIndex k)=true:=by
  rw [fitsIndex_both h1 h2]
  exact Dy
 have hlong:¬ Builtin.List.listTooLong (its.toArray.size*k.toNat)=true:=by
  rw [kR hlen]
  exact Dy
 have hnew:List.foldl (fun x1 x2=>x1++x2) #[] (List.replicate (if its.toArray.isEmpty=true then 0 else k.toNat) its.toArray)=(List.replicate k.toNat its).flatten.toArray:=by
  have f0:∀ m:Nat,List.foldl (fun x1 x2=>x1++x2) #[] (List.replicate m its.toArray)=(List.replicate m its).flatten.toArray:=fun m=>by
   have:=jh its m []
   rw [List.nil_append] at this
   exact this
  rw [f0]
  cases its with
  | nil=>simp
  | cons a r'=>rw [if_neg (by simp)]
 refine wpAny_binaryOp_repeat_ref (T:="list") (U:="int") (by decide) ⟨_,e,rfl⟩ (fun s'=>typeIs_int s' k t) noFill_list_mul F.fills_int_mul F.slot_int_rmul repeat_list F.slot_int_index.lookup
  (GF F.slot_int_rmul (typeIs_int s k t) F.entry_int_rmul (F.args_int_rmul_2 _ _) (int___rmul___int_list k t l its.toArray n)
   ⟨e,rfl,⟨_,e,rfl⟩,GF F.slot_list_mul ⟨_,e,rfl⟩ F.entry_list_mul (F.args_list_mul_2 _ _) (AutoListH.list___mul___list_int_3 l its.toArray n k t hfit hcap hlong) ⟨e,?_⟩⟩)
 rw [hnew]
 exact ⟨.ref _,_,I.lnew (t':=s.toks) (r.rep k.toNat) (by rw [uY,Nat.mul_comm];exact hz),rfl,q _ I.fresh⟩
end
section
variable {prog:Program} {w:World} {A:Around} {E:Value→Shared→Prop} {s:Shared}
end
section
variable {X:Cx}
end
section
variable {κ:Type} [DecidableEq κ]
def eK (kvs:List (κ × V))(k:κ):Option V:=(kvs.find? fun kv=>decide (kv.1=k)).map (·.2)
def eD (kvs:List (κ × V))(k:κ)(v:V):List (κ × V) :=
 if (kvs.any fun kv=>decide (kv.1=k))=true then kvs.map (fun kv=>if kv.1=k then (kv.1,v) else kv) else kvs++[(k,v)]
theorem g8 {p:κ × V}{r:List (κ × V)}{k:κ}(e:p.1=k):eK (p::r) k=some p.2:=by simp [eK,Fw,e]
theorem g9 {p:κ × V}{r:List (κ × V)}{k:κ}(e:¬ p.1=k):eK (p::r) k=eK r k:=by simp [eK,Fw,e]
theorem eM (k:κ):∀ kvs:List (κ × V),(kvs.any fun kv=>decide (kv.1=k))=(eK kvs k).isSome
 | []=>rfl
 | p::r=>by
  rw [GC]
  by_cases e:p.1=k
  ·simp only [g8 e,C_ e,Bool.true_or,Option.isSome_some]
  ·rw [g9 e,C7 e,Bool.false_or];exact eM k r
theorem dh (kvs:List (κ × V))(k:κ)(v:V):(eD kvs k v).length≤kvs.length+1:=by
 unfold eD
 split
 ·rw [C4];omega
 ·rw [C8,Ds,D8];omega
theorem rE {kvs:List (κ × V)}{k:κ}(v:V)(h:eK kvs k=none):eD kvs k v=kvs++[(k,v)]:=by
 unfold eD
 rw [eM,h]
 exact if_neg (by decide)
theorem ny.isSome_eq {o:Option V}{u:Option Value}(r:ny o u):o.isSome=u.isSome:=by
 cases o with
 | none=>cases u with
  | none=>rfl
  | some _=>exact (show False from r).elim
 | some _=>cases u with
  | none=>exact (show False from r).elim
  | some _=>rfl
theorem KV.val {kvs:List (κ × V)}{vs:List (κ × Value)}(r:KV kvs vs)(k:κ):ny (eK kvs k) (valueAt vs k):=by
 unfold KV at r
 induction r with
 | nil=>exact True.intro
 | @cons p q ps qs h t ih =>
  obtain ⟨h1,h2⟩:=h
  by_cases e:p.1=k
  ·have e':q.1=k:=h1.symm.trans e
   have b:valueAt (q::qs) k=some q.2:=by simp [valueAt,Fw,e']
   rw [g8 e,b];exact h2
  ·have e':¬ q.1=k:=fun z=>e (h1.trans z)
   have b:valueAt (q::qs) k=valueAt qs k:=by simp [valueAt,Fw,e']
   rw [g9 e,b];exact ih
theorem KV.any {kvs:List (κ × V)}{vs:List (κ × Value)}(r:KV kvs vs)(k:κ):(kvs.any fun kv=>decide (kv.1=k))=vs.any fun kv=>decide (kv.1=k):=by
 unfold KV at r
 induction r with
 | nil=>rfl
 | cons h t ih=>rw [GC,GC,ih,h.1]
theorem KV.repl {kvs:List (κ × V)}{vs:List (κ × Value)}(r:KV kvs vs)(k:κ){y:V}{u:Value}(ry:bf y u) :
  KV (kvs.map fun kv=>if kv.1=k then (kv.1,y) else kv) (vs.map fun kv=>if kv.1=k then (kv.1,u) else kv):=by
 unfold KV at r ⊢
 induction r with
 | nil=>exact .nil
 | @cons p q ps qs h t ih =>
  rw [DQ,DQ]
  refine .cons ?_ ih
  obtain ⟨h1,h2⟩:=h
  by_cases e:p.1=k
  ·rw [if_pos e,if_pos (h1.symm.trans e)];exact ⟨h1,ry⟩
  ·rw [if_neg e,if_neg (fun z=>e (h1.trans z))];exact ⟨h1,h2⟩
theorem KV.put {kvs:List (κ × V)}{vs:List (κ × Value)}(r:KV kvs vs)(k:κ){y:V}{u:Value}(ry:bf y u):KV (eD kvs k y) (stored vs k u):=by
 unfold eD stored
 rw [r.any k]
 by_cases e:(vs.any fun kv=>decide (kv.1=k))=true
 ·rw [if_pos e,if_pos e];exact r.repl k ry
 ·rw [if_neg e,if_neg e];exact Paired.snoc r ⟨rfl,ry⟩
theorem KV.length {kvs:List (κ × V)}{vs:List (κ × Value)}(r:KV kvs vs):kvs.length=vs.length:=Hl r
end
theorem oa {P:Program}{w:World}{k:Key}{u:Value}(r:bf (kV k) u):(bb P w).is k u=true:=by
 cases k with
 | inl i=>obtain ⟨t,e⟩:=(show ∃ t,u=Value.int i t from r);subst e;exact jO P w i t
 | inr x=>obtain ⟨t,e⟩:=(show ∃ t,u=Value.str x t from r);subst e;exact jP P w x t
theorem ji {P:Program}{w:World}:∀ {ks:List Key} {us:List Value},aV (ks.map kV) us→ItemsAre (bb P w) ks us
 | [],_,r=>by rw [G4] at r;cases r;exact .nil
 | k::ks,_,r=>by
  rw [DQ] at r
  cases r with
  | cons h t=>exact .cons (oa h) (ji t)
abbrev KT (H:Hp):List (List Key × V)→List (List Key × Addr × Value)→Prop:=Paired fun p q=>p.1=q.1∧H q.2.1=some (.tup (p.1.map kV))∧bf p.2 q.2.2
theorem KT.val {H:Hp}{kvs:List (List Key × V)}{xs:List (List Key × Addr × Value)}(r:KT H kvs xs)(k:List Key):ny (eK kvs k) ((atKey xs k).map (·.2)):=by
 induction r with
 | nil=>exact True.intro
 | @cons p q ps qs h t ih =>
  obtain ⟨h1,_,h2⟩:=h
  by_cases e:p.1=k
  ·have e':q.1=k:=h1.symm.trans e
   have b:atKey (q::qs) k=some q.2:=by simp [atKey,Fw,e']
   rw [g8 e,b];exact h2
  ·have e':¬ q.1=k:=fun z=>e (h1.trans z)
   have b:atKey (q::qs) k=atKey qs k:=by simp [atKey,Fw,e']
   rw [g9 e,b];exact ih
theorem KT.repl {H:Hp}{kvs:List (List Key × V)}{xs:List (List Key × Addr × Value)}(r:KT H kvs xs)(k:List Key){y:V}{u:Value}(ry:bf y u) :
  KT H (kvs.map fun kv=>if kv.1=k then (kv.1,y) else kv) (xs.map (putAt k u)):=by
 induction r with
 | nil=>exact .nil
 | @cons p q ps qs h t ih =>
  rw [DQ,DQ]
  refine .cons ?_ ih
  obtain ⟨h1,h2,h3⟩:=h
  unfold putAt
  by_cases e:p.1=k
  ·rw [if_pos e,if_pos (h1.symm.trans e)];exact ⟨h1,h2,ry⟩
  ·rw [if_neg e,if_neg (fun z=>e (h1.trans z))];exact ⟨h1,h2,h3⟩
theorem KT.put {H:Hp}{kvs:List (List Key × V)}{xs:List (List Key × Addr × Value)}(r:KT H kvs xs)(k:List Key){b:Addr}{y:V}{u:Value}(hb:H b=some (.tup (k.map kV)))(ry:bf y u) :
  KT H (eD kvs k y) (storedH xs k b u):=by
 have e:(kvs.any fun kv=>decide (kv.1=k))=(atKey xs k).isSome:=by
  rw [eM,(r.val k).isSome_eq,Option.isSome_map]
 unfold eD storedH
 rw [e]
 by_cases q:(atKey xs k).isSome=true
 ·rw [if_pos q,if_pos q];exact r.repl k ry
 ·rw [if_neg q,if_neg q];exact Paired.snoc r ⟨rfl,hb,ry⟩
theorem KT.keeps {H H':Hp}{kvs:List (List Key × V)}{xs:List (List Key × Addr × Value)}(r:KT H kvs xs)(ht:∀ b ys,H b=some (.tup ys)→H' b=some (.tup ys)):KT H' kvs xs :=
 Paired.mapP r fun _ _ z=>⟨z.1,ht _ _ z.2.1,z.2.2⟩
section
variable {P:Program} {w:World} {H:Hp} {h:Heap} {a:Addr}
theorem yo {u:HO}(ok:HOk P w H h)(e:Rd H a u):bw P w H h a u:=e.ok ok
theorem rF {kvs:List (Key × V)}(ok:HOk P w H h)(e:Rd H a (.dK kvs)):kvs.length≤sizeLine∧(a == sysModules)=false∧∃ vs,KV kvs vs∧h.DictOf (bb P w) a vs :=
 show bw P w H h a (.dK kvs) from yo ok e
theorem yp {kvs:List (Key × V)}(ok:HOk P w H h)(e:H a=some (.dK kvs)):kvs.length≤sizeLine∧(a == sysModules)=false∧∃ vs,KV kvs vs∧h.DictOf (bb P w) a vs:=rF ok (.inl e)
theorem kU {ks:List Key}(ok:HOk P w H h)(e:H a=some (.tup (ks.map kV))):(tupleKind (bb P w)).is h ks a:=by
 obtain ⟨_,its,r,⟨o,h1,h2,n,h3⟩,_⟩:=(show bw P w H h a (.tup (ks.map kV)) from ok a _ e)
 exact ⟨o,its.toArray,n,h1,h2,h3,by simpa using ji r⟩
theorem rG {kvs:List (List Key × V)}(ok:HOk P w H h)(e:Rd H a (.dT kvs)):kvs.length≤sizeLine∧(a == sysModules)=false ∧
  ∃ xs,KT H kvs xs∧h.DictOfH (tupleKind (bb P w)) a xs:=by
 obtain ⟨z,y,xs,r,o,es,ep,h1,h2,h3,h4,h5⟩:=(show bw P w H h a (.dT kvs) from yo ok e)
 refine ⟨z,y,xs,r,o,es,ep,h1,h2,h3,h4,fun x hx=>?_,h5⟩
 have all:∀ {l:List (List Key × V)} {m:List (List Key × Addr × Value)},KT H l m→∀ x∈m,(tupleKind (bb P w)).is h x.1 x.2.1:=by
  intro l m q
  induction q with
  | nil=>intro x hx;exact nomatch hx
  | @cons p q ps qs hq t ih =>
   intro x hx
   rcases Dj.mp hx with e | hx
   ·subst e
    exact kU ok (by rw [← hq.1];exact hq.2.1)
   ·exact ih x hx
 exact all r x hx
theorem AV {kvs:List (List Key × V)}(ok:HOk P w H h)(e:H a=some (.dT kvs)):kvs.length≤sizeLine∧(a == sysModules)=false ∧
  ∃ xs,KT H kvs xs∧h.DictOfH (tupleKind (bb P w)) a xs:=rG ok (.inl e)
end
def og (H:Hp)(a:Addr)(y:V)(r:Option V):Prop :=
 (∃ kvs k,Rd H a (.dK kvs)∧y=kV k∧r=eK kvs k) ∨ ∃ kvs k b,Rd H a (.dT kvs)∧y = .ref b∧H b=some (.tup (k.map kV))∧r=eK kvs k
def uZ (H:Hp)(a:Addr)(y v:V)(H':Hp):Prop :=
 (∃ kvs k,H a=some (.dK kvs)∧y=kV k∧kvs.length < sizeLine∧H'=upd H a (.dK (eD kvs k v))) ∨
 ∃ kvs k b,H a=some (.dT kvs)∧y = .ref b∧H b=some (.tup (k.map kV))∧kvs.length < sizeLine∧H'=upd H a (.dT (eD kvs k v))
theorem og.k {H:Hp}{a:Addr}{kvs:List (Key × V)}{k:Key}(e:H a=some (.dK kvs)):og H a (kV k) (eK kvs k):=.inl ⟨kvs,k,.inl e,rfl,rfl⟩
theorem uZ.k {H:Hp}{a:Addr}{kvs:List (Key × V)}{k:Key}{v:V}(e:H a=some (.dK kvs))(hl:kvs.length < sizeLine):uZ H a (kV k) v (upd H a (.dK (eD kvs k v))):=.inl ⟨kvs,k,e,rfl,hl,rfl⟩
section
variable {X:Cx} {pins:List (Addr × Obj)} {σ:St} {H:Hp} {s:Shared} {a:Addr} {y v:V} {u r:Value} {o:Option V} {A:Around} {E:Value→Shared→Prop}
theorem Inv.big (I:Inv X pins σ H s):sysModules < s.heap.objs.size:=by
 have h:mainGlobals < s.heap.objs.size:=(I.mod.glob.keeps I.bk).lt
 exact Nat.lt_trans (by decide) h
theorem oh {Q:Value→Shared→Prop}(hu:A.units+1 < cLine)(I:Inv X pins σ H s)(g:og H a y (some v))(ry:bf y u)(h:∀ w' s',InvW X pins σ H s'→bf v w'→Q w' s') :
  wpAny (model X.prog X.w) A (getItem (.ref a) u) Q E s:=by
 rcases g with ⟨kvs,k,e,ey,l⟩ | ⟨kvs,k,b,e,ey,eb,l⟩
 ·subst ey
  obtain ⟨z,hd,vs,rel,dd⟩:=rF I.hok e
  obtain ⟨w',hw,rw'⟩:=ny.some_of (v:=v) (o:=valueAt vs k) (by rw [l];exact rel.val k)
  exact wpAny_getItem_of (oa ry) dd.mapOf hw (h w' _ (I.tok _) rw')
 ·subst ey
  cases (show u=Value.ref b from ry)
  obtain ⟨z,hd,xs,rel,dd⟩:=rG I.hok e
  obtain ⟨w',hw,rw'⟩:=ny.some_of (v:=v) (o:=(atKey xs k).map (·.2)) (by rw [l];exact rel.val k)
  obtain ⟨p,hp,hp2⟩:=HA.mp hw
  refine wpAny_getItem_heap (G5 hu) (kU I.hok eb) dd hp ?_
  rw [hp2]
  exact h w' _ (I.tok _) rw'
theorem u3 {Q:Value→Shared→Prop}(hu:A.units+1 < cLine)(I:Inv X pins σ H s)(g:og H a y o)(ry:bf y u)(h:∀ s',InvW X pins σ H s'→Q (.bool (!o.isSome)) s') :
  wpAny (model X.prog X.w) A (compareOp .NotIn u (.ref a)) Q E s:=by
 rcases g with ⟨kvs,k,e,ey,l⟩ | ⟨kvs,k,b,e,ey,eb,l⟩
 ·subst ey
  obtain ⟨z,hd,vs,rel,dd⟩:=rF I.hok e
  refine wpAny_notIn_of (oa ry) hd dd.mapOf ?_
  rw [← (rel.val k).isSome_eq,← l]
  exact h _ (I.tok _)
 ·subst ey
  cases (show u=Value.ref b from ry)
  obtain ⟨z,hd,xs,rel,dd⟩:=rG I.hok e
  refine wpAny_notIn_heap (G5 hu) (kU I.hok eb) hd dd ?_
  have q:=(rel.val k).isSome_eq
  rw [Option.isSome_map] at q
  rw [← q,← l]
  exact h _ (I.tok _)
theorem jW {h':Heap}{t':Nat}{ob:HO}(I:Inv X pins σ H s)(mu:Mut (H a))(hs:Heap.SameBut a s.heap h')(he:∃ q,h'.get? a=some q)(new:bw X.prog X.w (upd H a ob) h' a ob) :
  InvW X pins σ (upd H a ob) { s with heap:=h',toks:=t' } :=
 I.write (x:=a) (e:=a) mu (.inl rfl) (fun b q hb z=>(hs.2 b hb).trans z) he new
theorem tO {P:Program}{w:World}{H':Hp}{h':Heap}{kvs:List (Key × V)}{vs:List (Key × Value)}(z:kvs.length≤sizeLine)(hd:(a == sysModules)=false)(rel:KV kvs vs)(dd:h'.DictOf (bb P w) a vs) :
  bw P w H' h' a (.dK kvs):=⟨z,hd,vs,rel,dd⟩
theorem oi {H':Hp}{Q:Unit→Shared→Prop}(hu:A.units+1 < cLine)(I:Inv X pins σ H s)(g:uZ H a y v H')(ry:bf y u)(rv:bf v r)(h:∀ s',InvW X pins σ H' s'→Q () s') :
  wpAny (model X.prog X.w) A (setItem (.ref a) u r) Q E s:=by
 rcases g with ⟨kvs,k,e,ey,l,eH⟩ | ⟨kvs,k,b,e,ey,eb,l,eH⟩
 ·subst ey eH
  obtain ⟨z,hd,vs,rel,dd⟩:=yp I.hok e
  have hz:vs.length≤sizeLine:=by rw [← rel.length];exact z
  have hl:(eD kvs k v).length≤sizeLine:=by have:=dh kvs k v;omega
  refine wpAny_setItem_pairs (hsz:=hz) (oa ry) dd fun h' dd' hs=>h _ ?_
  have he:∃ q,h'.get? a=some q:=let ⟨q,_,_,hq,_⟩:=dd';⟨q,hq⟩
  exact jW I (by rw [e];exact True.intro) hs he (tO hl hd (rel.put k rv) dd')
 ·subst ey eH
  cases (show u=Value.ref b from ry)
  obtain ⟨z,hd,xs,rel,dd⟩:=AV I.hok e
  have hz:xs.length≤sizeLine:=by rw [← Hl rel];exact z
  have hl:(eD kvs k v).length≤sizeLine:=by have:=dh kvs k v;omega
  refine wpAny_setItem_heap (hsz:=hz) (G5 hu) (kU I.hok eb) dd fun h' dd' hs=>h _ ?_
  obtain ⟨q,es,ep,hq,h2,h3,h4,_,h5⟩:=dd'
  refine jW I (by rw [e];exact True.intro) hs ⟨q,hq⟩ ⟨hl,hd,_,(rel.put k eb rv).keeps fun c ys ec=>?_,q,es,ep,hq,h2,h3,h4,h5⟩
  rw [ay (q9 ec e (fun z=>nomatch z))]
  exact ec
end
section
variable {X:Cx} {pins:List (Addr × Obj)} {σ:St} {H:Hp} {s:Shared} {a:Addr} {kvs:List (Key × V)} {k:Key} {u:Value} {A:Around} {E:Value→Shared→Prop}
end
def B9 (i:Expr):Prop:=∀ ov iv,subscripted i false ov iv=operate [ov,iv] (getItem ov iv)
theorem u4 {prog:Program}{w:World}{A:Around}{E:Value→Shared→Prop}{s:Shared}{env:Env}{value slice:Expr}{pos:Pos}{T id:String}{Q:Value→Shared→Prop}
  (hl:typeLookup (.type T) "__getitem__" = pure (some (.builtin id))) (hs:B9 slice)
  (h:wpAny (model prog w) A (eval value env) (fun o s₁=>wpAny (model prog w) A (eval slice env) (fun i s₂=>s₂.TypeIs o T∧wpAny (model prog w) A (getItem o i) Q E s₂) E s₁) E s) :
  wpAny (model prog w) A (eval (.Subscript value slice pos) env) Q E s:=by
 refine HJ (Ep h (fun o s₁ h₁=>Ep h₁ (fun i s₂ h₂=>?_) fun _ _ x=>x) fun _ _ x=>x)
 obtain ⟨hT,h₂⟩:=h₂
 unfold subscriptTail
 refine C5 ?_
 rw [getitemInPython_of_ne hT.not_modules]
 refine C5 (HE hT hl ?_)
 have fin:wpAny (model prog w) A (subscripted slice false o i) (fun r s₃=>wpAny (model prog w) A (letTemporaryGo value o r >>= fun _=>pure r) Q E s₃) E s₂:=by
  rw [hs o i]
  exact wpAny_operating (Ep h₂ (fun r s₃ h₃=>C5 (wpAny_letTemporaryGo (Dm h₃))) fun _ _ x=>x)
 first
  | exact Dm (C5 fin)
  | exact C5 (Dm (C5 fin))
  | exact C5 fin
theorem jX {X:Cx}{pins:List (Addr × Obj)}{σ:St}{H:Hp}{s:Shared}{a:Addr}{y:V}{o:Option V}(I:Inv X pins σ H s)(g:og H a y o):s.TypeIs (.ref a) "dict":=by
 rcases g with ⟨kvs,k,e,_,_⟩ | ⟨kvs,k,b,e,_,_,_⟩
 ·obtain ⟨_,_,vs,_,dd⟩:=rF I.hok e
  exact dd.typeIs
 ·obtain ⟨_,_,xs,_,dd⟩:=rG I.hok e
  exact dd.typeIs
def AW (td ty:TE):TE:=fun σ H Q=>td σ H fun x H1=>ty σ H1 fun y H2=>∃ a v,x = .ref a∧og H2 a y (some v)∧Q v H2
def oj (ty td:TE):TE:=fun σ H Q=>ty σ H fun y H1=>td σ H1 fun x H2=>∃ a o,x = .ref a∧og H2 a y o∧Q (.bl (!o.isSome)) H2
def AX (td ty tv:TE):TS:=fun D σ H=>tv σ H fun v H1=>td σ H1 fun x H2=>ty σ H2 fun y H3=>∃ a H4,x = .ref a∧uZ H3 a y v H4∧D.nx σ H4
section
variable {X:Cx} {o i e value:Expr} {pos pos' tpos:Pos} {td ty tv:TE}
theorem bT (hu:X.A.units+1 < cLine)(ho:PE X o td)(hi:PE X i ty)(hs:B9 i):PE X (.Subscript o i pos) (AW td ty):=by
 intro pins s σ H Q I h
 refine u4 PySem.F.slot_dict_getitem.lookup hs (thn (ho pins s σ H _ I h) fun u s1 ⟨x,H1,I1,rx,q1⟩=>thn (hi pins s1 σ H1 _ I1 q1) fun iv s2 zq68=>?_)
 obtain ⟨y,H2,I2,ry,a,v,ex,g,q2⟩:=zq68
 subst ex
 obtain rfl:u=Value.ref a:=rx
 exact ⟨jX I2 g,oh hu I2 g ry fun w' s3 I3 rw'=>⟨v,H2,I3,rw',q2⟩⟩
theorem om (hu:X.A.units+1 < cLine)(hi:PE X i ty)(ho:PE X o td):PC X .NotIn i o (oj ty td):=by
 intro pins s σ H Q I h
 refine thn (hi pins s σ H _ I h) fun iv s1 ⟨y,H1,I1,ry,q1⟩=>thn (ho pins s1 σ H1 _ I1 q1) fun u s2 zq70=>?_
 obtain ⟨x,H2,I2,rx,a,ov,ex,g,q2⟩:=zq70
 subst ex
 obtain rfl:u=Value.ref a:=rx
 exact u3 hu I2 g ry fun s3 I3=>⟨.bl (!ov.isSome),H2,I3,rfl,q2⟩
theorem ff (hu:X.A.units+1 < cLine)(ho:PE X o td)(hi:PE X i ty)(hv:PE X value tv)(hs:swapsWith value (some (.Subscript o i pos')) pos.line X.env=pure false) :
  PS X (.Assign [.Subscript o i pos'] value pos) (AX td ty tv):=by
 intro pins s σ H D I h
 refine wpAny_Assign_Subscript (thn (hv pins s σ H _ I h) fun r s1 ⟨v,H1,I1,rv,q1⟩=>thn (ho pins s1 σ H1 _ I1 q1) fun u s2 ⟨x,H2,I2,rx,q2⟩=>thn (hi pins s2 σ H2 _ I2 q2) fun iv s3 zq71=>?_) hs
 obtain ⟨y,H3,I3,ry,a,H4,ex,g,q3⟩:=zq71
 subst ex
 obtain rfl:u=Value.ref a:=rx
 exact oi hu I3 g ry rv fun s4 I4=>⟨σ,H4,I4,q3⟩
end
theorem kW {P:Program}{w:World}{H:Hp}(h:Heap)(hb:sysModules < h.objs.size):bw P w H (h.push { cls:=.type "dict",data:=.dict #[] }) h.objs.size (.dK []) :=
 ⟨D2 _,GG.mpr (Ne.symm (D5 hb)),[],.nil,Heap.DictOf.new h⟩
def yq:TE:=fun _ H Q=>∀ p,H p=none→Q (.ref p) (upd H p (.dK []))
section
variable {X:Cx} {pos:Pos}
theorem rH:PE X (.Dict [] [] pos) yq:=fun pins s σ H Q I h =>
 wpAny_Dict_empty ⟨.ref s.heap.objs.size,_,I.laid (a:=s.heap.objs.size) (o:=.dK []) (t':=s.toks) (fun _ _ q=>C6 _ q) (Da _) (kW s.heap I.big),rfl,h _ (I.hok.fresh (Da _))⟩
end
def oo:List (TE × TE)→St→Hp→(List (V × V)→Hp→Prop)→Prop
 | [],_,H,Q=>Q [] H
 | (tk,tv)::r,σ,H,Q=>tk σ H fun x H1=>tv σ H1 fun y H2=>oo r σ H2 fun ps H3=>Q ((x,y)::ps) H3
abbrev VV:List (V × V)→List (Value × Value)→Prop:=Paired fun p q=>bf p.1 q.1∧bf p.2 q.2
def PPs (X:Cx)(pos:Pos)(keys:List (Option Expr))(values:List Expr)(trs:List (TE × TE)):Prop :=
 ∀ (pins:List (Addr × Obj)) (s:Shared) (σ:St) (H:Hp) (Q:List (V × V)→Hp→Prop),Inv X pins σ H s→oo trs σ H Q →
  wpAny (model X.prog X.w) X.A (evalPairs (pairTrees keys values X.env pos)) (fun vs s'=>∃ ps H',Inv X pins σ H' s'∧VV ps vs∧Q ps H') X.xe s
theorem u5 {X:Cx}{pos:Pos}:PPs X pos [] [] []:=fun pins s σ H Q I h=>pairTrees_nil_walk ⟨[],H,I,.nil,h⟩
theorem eN {X:Cx}{pos:Pos}{k v:Expr}{ks:List (Option Expr)}{vs:List Expr}{tk tv:TE}{trs:List (TE × TE)}(hk:PE X k tk)(hv:PE X v tv)(hr:PPs X pos ks vs trs) :
  PPs X pos (some k::ks) (v::vs) ((tk,tv)::trs):=fun pins s σ H Q I h =>
 pairTrees_cons_walk (thn (hk pins s σ H _ I h) fun u s1 ⟨x,H1,I1,rx,q1⟩=>thn (hv pins s1 σ H1 _ I1 q1) fun w2 s2 ⟨y,H2,I2,ry,q2⟩ =>
  thn (hr pins s2 σ H2 _ I2 q2) fun ws s3 zq75=>(by obtain ⟨ps,H3,I3,rel,q3⟩:=zq75;exact ⟨(x,y)::ps,H3,I3,.cons ⟨rx,ry⟩ rel,q3⟩))
def fg (kvs more:List (Key × V)):List (Key × V):=more.foldl (fun acc kv=>eD acc kv.1 kv.2) kvs
theorem KV.merge:∀ {more:List (Key × V)} {rs:List (Key × Value)} {kvs:List (Key × V)} {vs:List (Key × Value)},KV more rs→KV kvs vs→KV (fg kvs more) (merged vs rs):=by
 intro more rs kvs vs r
 unfold KV at r
 induction r generalizing kvs vs with
 | nil=>intro q;exact q
 | @cons p q ps qs h t ih =>
  intro r0
  have e:KV (eD kvs p.1 p.2) (stored vs q.1 q.2):=by
   have:=r0.put p.1 h.2
   rw [← h.1];exact this
  exact ih e
theorem dq:∀ (more kvs:List (Key × V)),(fg kvs more).length≤kvs.length+more.length
 | [],kvs=>by show kvs.length≤kvs.length+0;omega
 | p::r,kvs=>by
  have h1:=dq r (eD kvs p.1 p.2)
  have h2:=dh kvs p.1 p.2
  show (fg (eD kvs p.1 p.2) r).length≤_
  rw [Ds];omega
theorem gj {P:Program}{w:World}:∀ {kvs:List (Key × V)} {ws:List (Value × Value)},VV (kvs.map fun kv=>(kV kv.1,kv.2)) ws→∃ rs,Carries (bb P w) ws rs∧KV kvs rs
 | [],_,r=>by rw [G4] at r;cases r;exact ⟨[],True.intro,.nil⟩
 | p::kvs,_,r=>by
  rw [DQ] at r
  cases r with
  | @cons a b as bs h t =>
   obtain ⟨rs,c,q⟩:=gj (P:=P) (w:=w) t
   obtain ⟨b1,b2⟩:=b
   exact ⟨(p.1,b2)::rs,⟨oa h.1,rfl,c⟩,.cons ⟨rfl,h.2⟩ q⟩
def AY (trs:List (TE × TE)):TE:=fun σ H Q=>∀ p,H p=none→oo trs σ (upd H p (.dK [])) fun ps H2=>H2 p=some (.dK [])∧∃ kvs:List (Key × V),ps=kvs.map (fun kv=>(kV kv.1,kv.2))∧kvs.length≤15∧Q (.ref p) (upd H2 p (.dK (fg [] kvs)))
theorem u6 {X:Cx}{pos:Pos}{keys:List (Option Expr)}{values:List Expr}{trs:List (TE × TE)}(h:PPs X pos keys values trs)(hall:keys.all (·.isSome)=true)(hl:keys.length=values.length)(h0:keys≠[])
  (h15:keys.length≤15):PE X (.Dict keys values pos) (AY trs):=by
 intro pins s σ H Q I q
 have hn:=I.hok.fresh (Da s.heap.objs.size)
 have I1:=(I.laid (a:=s.heap.objs.size) (o:=.dK []) (h':=s.heap.push { cls:=.type "dict",data:=.dict #[] }) (t':=s.toks) (fun _ _ q=>C6 _ q) (Da _) (kW s.heap I.big)).up I.low
 refine wpAny_Dict_walk (knd:=bb X.prog X.w) hall hl h0 h15 (thn (h pins _ σ _ _ I1 (q _ hn)) fun ws s2 zq76=>?_)
 obtain ⟨ps,H2,I2,rel,e,kvs,ep,lk,q2⟩:=zq76
 subst ep
 obtain ⟨rs,c,rk⟩:=gj (P:=X.prog) (w:=X.w) rel
 obtain ⟨z,hd,vs0,r0,dd⟩:=yp I2.hok e
 cases r0
 refine ⟨rs,c,dd,fun h' dd' hs=>⟨.ref s.heap.objs.size,_,?_,rfl,q2⟩⟩
 have hz:(fg [] kvs).length≤sizeLine:=by
  have h1:=dq kvs []
  rw [D8] at h1
  rw [E9];omega
 have he:∃ q,h'.get? s.heap.objs.size=some q:=let ⟨q,_,_,hq,_⟩:=dd';⟨q,hq⟩
 exact jW I2 (by rw [e];exact True.intro) hs he (tO hz hd (rk.merge .nil) dd')
structure M1 (X:Cx) (o:Expr) (m:Str) (apos:Pos) (e:Expr) (cpos:Pos):Prop where
 base:attributeBase o m X.env (eval o X.env)=eval o X.env
 few:((backTo cpos (starEach [e] X.env)).all (fun x=>!x.1) && (backToKw cpos (keywordEach [] X.env)).all (fun x=>x.1.isSome)
  && decide (([e]:List Expr).length+([]:List Keyword).length+(if ([]:List Keyword).isEmpty then 0 else 1) < 30))=true
 line:(apos.endLine == cpos.line)=true
 trees:backTo cpos (starEach [e] X.env)=[(false,eval e X.env)]
structure M2 (X:Cx) (o:Expr) (m:Str) (apos:Pos) (e f:Expr) (cpos:Pos):Prop where
 base:attributeBase o m X.env (eval o X.env)=eval o X.env
 few:((backTo cpos (starEach [e,f] X.env)).all (fun x=>!x.1) && (backToKw cpos (keywordEach [] X.env)).all (fun x=>x.1.isSome)
  && decide (([e,f]:List Expr).length+([]:List Keyword).length+(if ([]:List Keyword).isEmpty then 0 else 1) < 30))=true
 line:(apos.endLine == cpos.line)=true
 trees:backTo cpos (starEach [e,f] X.env)=[(false,eval e X.env),(false,eval f X.env)]
section
variable {X:Cx} {pins:List (Addr × Obj)} {σ:St} {H:Hp} {s:Shared} {a:Addr} {y d:V} {u r:Value} {o:Option V} {A:Around} {E:Value→Shared→Prop}
end
section
variable {X:Cx} {o e f:Expr} {apos cpos:Pos} {td ty tx:TE}
end
section
variable {X:Cx} {pins:List (Addr × Obj)} {σ:St} {H:Hp} {s:Shared} {a:Addr} {kvs:List (Key × V)} {A:Around} {E:Value→Shared→Prop}
end
section
variable {X:Cx} {pins:List (Addr × Obj)} {σ:St} {H:Hp} {s:Shared} {a:Addr} {y:V} {u:Value} {A:Around} {E:Value→Shared→Prop}
end
end L2
namespace Att
open PySem PySem.W PySem.Calls PyProof.Rows
theorem fh {P:Params}{h:Heap}:∀ (ns:List Int) (vs:List Value),WellAll P h vs (ns.map WData.int)→IntsAre vs ns:=by
 intro ns
 induction ns with
 | nil =>
  intro vs w
  rw [G4] at w
  cases w
  exact .nil
 | cons n ns ih =>
  intro vs w
  rw [DQ] at w
  cases w with
  | cons a b =>
   cases a
   exact .cons _ _ (ih _ b)
theorem script_of {l:OpenLaw}{n:Nat}(hn:l.most=some n){P:Params}{h:Heap}{args:List WData}{vals:List Value}
  (hpre:l.row.toRowW.claim.pre args=true) (hwl:WellAll P h vals args) :
  ∃ a vs ns,vals=[Value.ref a]∧args=[WData.list (ns.map WData.int)]∧h.get? a=some { cls:=.type "list",data:=.seq vs.toArray }∧IntsAre vs ns∧ns.length≤n:=by
 have hsh:WShape.hasAll [] args [.list .int]=true:=(pre_splitW hpre).1
 have hc:l.pre.holds [] { args:=args }=true:=(pre_splitW hpre).2
 obtain ⟨d,r,rfl,h1,h2⟩:=hasAllW_cons hsh
 obtain rfl:=hasAllW_nil h2
 obtain ⟨xs,rfl,h3⟩:=hasW_list h1
 obtain ⟨ns,rfl⟩:=items_int h3
 have hlen:ns.length≤n:=by
  unfold OpenLaw.pre at hc
  have h4:(WTm.not (.lt (.lit (.int (n:Int))) (.len (.arg 0)))).holds [] { args:=[.list (ns.map .int)] }=true:=by
   have h4:=(holds_andW hc).1
   rw [hn] at h4
   exact h4
  have h5:=condW_of h4 (w_not (w_lt w_lit (w_len_list (w_arg rfl))))
  rw [C4] at h5
  refine Nat.le_of_not_lt fun q=>?_
  have q':(n:Int) < ((ns.length:Nat):Int):=by omega
  first
   | (rw [C_ q'] at h5;exact absurd h5 (by decide))
   | (simp at h5;omega)
 cases hwl with
 | cons w1 w2 =>
  cases w2
  cases w1 with
  | list ho hall=>exact ⟨_,_,ns,rfl,rfl,ho,fh ns _ hall,hlen⟩
theorem post_true (l:OpenLaw)(args:List WData):l.row.toRowW.claim.post args (.bool true) args=true :=
 postW_of (r:=l.row.toRowW) (X:=(true == true))
  (show WShape.has [] (.bool true) .bool=true by first | rfl | decide | simp [WShape.has,WShape.arms,WShape.armsAll])
  (show (WTm.eq .res (.lit (.bool true))).value [] { args:=args,res:=some (.bool true),after:=args }=some (.bool (true == true)) from w_eq_bool (w_res rfl) w_lit) rfl
section
variable {prog:Program} {w:World} {A:Around} {E:Value→Shared→Prop} {s:Shared} {K:Frag}
end
end Att
namespace L2
open PySem PySem.Spec PyProof.Rows
theorem jj:∀ {vs:List Value} {ns:List Int},IntsAre vs ns→aV (ns.map V.int) vs
 | _,_,.nil=>.nil
 | _,_,.cons n t h=>.cons ⟨t,rfl⟩ (jj h)
def AZ (H:Hp):Prop:=∀ b,H b=none ∨ ∃ o xs,H b=some (.frz o (.lst xs))
end L2
/- THE LAST THEOREM (shape;LID,My.* are yours):
  My.Adr: a structure of the addresses that your layer names (classes,functions);My.Txt K t: a structure (Prop) of the equations over K;
  My.txt_mk:{K} {implicit addresses ..} (e1:nsIn K mainGlobals "law" = some (some (.ref f))) (e2:K.lookup f=some ⟨oc,od,.func (fnOf "law" "law" params body scope dV kV doc pm an cdv ct),sl⟩) (e3:codeIn K cdv "law" = true) ..:∃ t,My.Txt K t
set_option maxRecDepth 100000 in
set_option maxHeartbeats 0 in
theorem PySem.Challenge.cw_LID_holds : PySem.Challenge.rw_LID.Holds := by
 w_on;o_law;k_head;(case hw=>w_witness2)
 k_fill
 refine L2.walk_of (l:=PySem.Challenge.rw_LID) (n:=63) (k:=40) (x:="script") (CX:=fun w=>..) (sp:=fun _=>My.sp_law) rfl (by decide) rfl ⟨rfl,by decide,by decide⟩ (fun w h Y=>PySem.W.kIn_of Y) ?F ?S ?C
 case F =>
  intro w mg fa h KX G hmg
  have T:∃ t,My.Txt (L2.KOf KX) t:=by
   dsimp only [L2.KOf]                          -- K must stand as «<heap const> w.params» for k_is
   refine' My.txt_mk ?e1 ?e2 ?e3 ..
   (case e1=>PySem.W.k_is)                    -- in the order: a name -> its address -> its object -> its parts
   (case e2=>PySem.W.k_is)
   ..
  obtain ⟨t,T⟩:=T
  have e0:=hmg.symm.trans (E3 KX G T.law)
  cases e0                                       -- fa is the law's own address
  exact ⟨_,fun s u=>.of_eq rfl,fun base kb nb=>My.law_fn T kb nb⟩     -- if «.of_eq rfl» comes too early: refine' ⟨_,?b,fun base kb nb=>My.law_fn T kb nb⟩;exact fun s u=>.of_eq rfl
 case S=>exact fun w H a ns hl hO hS=>..
 case C=>exact ..
(the tactic k_is has no namespace: write k_is) -/
namespace L2
open PySem PySem.Spec PyProof.Rows
def bo (s:Stmt):Arguments:=match s with
 | .FunctionDef _ a _ _ _ _ _ _ _ _=>a
 | _=>{ posonlyargs:=[],args:=[],vararg:=none,kwonlyargs:=[],kw_defaults:=[],kwarg:=none,defaults:=[] }
def aY (s:Stmt):List Stmt:=match s with
 | .FunctionDef _ _ b _ _ _ _ _ _ _=>b
 | _=>[]
def ai (s:Stmt):Scope:=match s with
 | .FunctionDef _ _ _ _ _ _ sc _ _ _=>sc
 | _=>{ kind:=.function,names:=[],isGenerator:=false,isCoroutine:=false }
abbrev CX0:CXT:=fun _ _ _ _ _ _=>False
abbrev E0:XK:=fun _ _ _=>False
theorem A0 {X:Cx}:dm CX0 X E0:=fun _ _ _ _ _ _ _ h=>h.elim
structure Fun (K:PySem.W.Frag) (x qual:Str) (st:Stmt) (f:Addr) (fd:FuncData):Prop where
 ex:∃ (oc:Value) (od:Option Addr) (kV doc pm:Value) (an:Option Addr) (cdv ct:Value) (osl:Array (Option Value)),
  fd=PySem.W.fnOf x qual (bo st) (aY st) (ai st) .none kV doc pm an cdv ct∧K.lookup f=some ⟨oc,od,.func fd,osl⟩∧PySem.W.codeIn K cdv qual=true
 kp:PySem.W.keepIn K (.ref f)=true
section
variable {P:Program} {w:World} {K:PySem.W.Frag} {mg:Str→Option Value} {base:Heap}
theorem Fun.ok {x qual:Str}{st:Stmt}{f:Addr}{fd:FuncData}{N ps:List Str}{k:Nat}{sp:Sp}(F:Fun K x qual st f fd)(S:ax N ps (ai st))(len:∀ vs H Q E,sp vs H Q E→vs.length=ps.length)
  (hbody:∀ (cdv:Value) (A:Around) (outer:List Env) (s:Shared) (H:Hp) (vs:List V) (Q:VK) (E:XK),cL k (A.deeper (envOfC qual (ai st) s.heap.objs.size f cdv))→sp vs H Q E →
   ∃ t,PSs (gP CX0 P w K mg base N qual (ai st) f cdv A outer s H E).nox (aY st) t∧t { nx:=fun _ H'=>Q .non H',rt:=Q } (start N vs) H):qS P w K mg base CX0 (k+1) f fd ps sp:=by
 obtain ⟨oc,od,kV,doc,pm,an,cdv,ct,osl,rfl,lk,hcd⟩:=F.ex
 refine x_ lk hcd S len fun A outer s H vs Q E hr hsp=>?_
 obtain ⟨t,h,q⟩:=hbody cdv A outer s H vs Q E hr hsp
 exact ⟨t,h.nox,q⟩
theorem Fun.binds {x qual:Str}{st:Stmt}{f:Addr}{fd:FuncData}{ps:List Str}(F:Fun K x qual st f fd)
  (h:∀ (kV doc pm:Value) (an:Option Addr) (cdv ct:Value) (us:List Value),us.length=ps.length→bindArgs (PySem.W.fnOf x qual (bo st) (aY st) (ai st) .none kV doc pm an cdv ct) ⟨us,[]⟩=pure (ps.zip us)):dS K fd ps []:=by
 obtain ⟨oc,od,kV,doc,pm,an,cdv,ct,osl,rfl,lk,hcd⟩:=F.ex
 exact .all (h kV doc pm an cdv ct)
theorem kX {x qual:Str}{st:Stmt}{f:Addr}{oc:Value}{od an:Option Addr}{osl:Array (Option Value)}{kV doc pm cdv ct:Value}(l:K.lookup f=some ⟨oc,od,.func (PySem.W.fnOf x qual (bo st) (aY st) (ai st) .none kV doc pm an cdv ct),osl⟩)
  (c:PySem.W.codeIn K cdv qual=true) (k:PySem.W.keepIn K (.ref f)=true):Fun K x qual st f (PySem.W.fnOf x qual (bo st) (aY st) (ai st) .none kV doc pm an cdv ct):=⟨⟨oc,od,kV,doc,pm,an,cdv,ct,osl,rfl,l,c⟩,k⟩
end
theorem rJ {A:Around}{k:Nat}(hr:cL k A):A.units+1 < cLine:=Nat.lt_of_le_of_lt (Nat.add_le_add_left (by decide:1≤64) _) hr.units
section
variable {X:Cx}
theorem pv (i:Nat){x:Str}{pos:Pos}(hN:X.N[i]? = some x:=by rfl)(hv:Vis X.env.scope x:=by first | exact Or.inl rfl | exact Or.inr (Or.inl rfl) | exact Or.inr (Or.inr rfl))(hd:(x == ("__debug__":Str))=false:=by decide)
  (hcd:(x == ("__classdict__":Str))=false:=by decide):PE X (.Name x pos) (Ar i):=xO hN hv hd hcd
end
theorem tP {A B:Prop}(h:B):if false=true then A else B:=by
 rw [if_neg Dy]
 exact h
theorem yr {A B:Prop}(h:A):if true=true then A else B:=by
 rw [if_pos rfl]
 exact h
theorem qT {c A B:Prop}[Decidable c](h1:c→A)(h2:¬ c→B):if c then A else B:=by
 by_cases h:c
 ·rw [if_pos h]
  exact h1 h
 ·rw [if_neg h]
  exact h2 h
def aA (H H':Hp):Prop:=∀ b o,H b=some o→H' b=some o
theorem aA.refl (H:Hp):aA H H:=fun _ _ h=>h
theorem aA.trans {H H1 H2:Hp}(a:aA H H1)(b:aA H1 H2):aA H H2:=fun c o h=>b c o (a c o h)
theorem aA.free {H H':Hp}(e:aA H H'){l:Addr}(h:H' l=Option.none):H l=Option.none:=by
 cases q:H l with
 | none=>rfl
 | some o =>
  rw [e l o q] at h
  cases h
theorem aA.seq {K:PySem.W.Frag}{H H':Hp}{a:Addr}{xs:List V}(e:aA H H')(h:SqL K H a xs):SqL K H' a xs:=by
 rcases h with (h | ⟨o,h⟩) | h
 ·exact .inl (.inl (e _ _ h))
 ·exact .inl (.inr ⟨o,e _ _ h⟩)
 ·exact .inr h
section
variable {κ:Type} [DecidableEq κ]
end
def kZ (cells:List (Str × Addr)):List (Str × NameKind)→List (Str × Addr)→List (Str × Addr)
 | [],acc=>acc
 | (x,k)::r,acc=>if k == NameKind.free then kZ cells r ((x,(cells.lookup x).getD 0)::acc) else kZ cells r acc
theorem g_ {cells:List (Str × Addr)}{p:Str × Addr}:∀ {names:List (Str × NameKind)} {acc:List (Str × Addr)},p∈kZ cells names acc→p∈acc ∨ ((p.1,NameKind.free)∈names∧p.2=(cells.lookup p.1).getD 0)
 | [],_,h=>.inl h
 | (x,k)::r,acc,h=>by
  unfold kZ at h
  by_cases hk:(k == NameKind.free)=true
  ·rw [if_pos hk] at h
   have ek:k=NameKind.free:=by simpa using hk
   subst ek
   rcases g_ h with h | ⟨h,e⟩
   ·rcases Dj.mp h with h | h
    ·subst h
     exact .inr ⟨Dz,rfl⟩
    ·exact .inl h
   ·exact .inr ⟨Dg _ h,e⟩
  ·rw [if_neg hk] at h
   rcases g_ h with h | ⟨h,e⟩
   ·exact .inl h
   ·exact .inr ⟨Dg _ h,e⟩
theorem hJ {cells:List (Str × Addr)}{p:Str × Addr}:∀ {names:List (Str × NameKind)} {acc:List (Str × Addr)},p∈acc→p∈kZ cells names acc
 | [],_,h=>h
 | (x,k)::r,acc,h=>by
  unfold kZ
  split
  ·exact hJ (Dg _ h)
  ·exact hJ h
theorem hU {cells:List (Str × Addr)}{x:Str}:∀ {names:List (Str × NameKind)} {acc:List (Str × Addr)},(x,NameKind.free)∈names→(x,(cells.lookup x).getD 0)∈kZ cells names acc
 | [],_,h=>by simp at h
 | (y,k)::r,acc,h=>by
  unfold kZ
  rcases Dj.mp h with h | h
  ·have e1:x=y:=DH Prod.fst h
   have e2:NameKind.free=k:=DH Prod.snd h
   subst e1 e2
   rw [if_pos (by simp)]
   exact hJ Dz
  ·split
   ·exact hU h
   ·exact hU h
theorem du {x:Str}{c:Addr}:∀ {l:List (Str × Addr)},(x,c)∈l→∃ d,l.lookup x=some d
 | [],h=>by simp at h
 | (y,d)::r,h=>by
  rw [Fl]
  by_cases e:(x == y)=true
  ·rw [e];exact ⟨d,rfl⟩
  ·have e':(x == y)=false:=by simpa using e
   rw [e']
   rcases Dj.mp h with h | h
   ·have:x=y:=DH Prod.fst h
    exact absurd (by simpa using this) e
   ·exact du h
theorem h_ {env:Env}{scope:Scope}(h:∀ y∈scope.names,y.2=NameKind.free→∃ c,env.cells.lookup y.1=some c):closureFor scope env=pure (kZ env.cells scope.names []):=by
 have all:∀ (names:List (Str × NameKind)) (acc:List (Str × Addr)),(∀ y∈names,y.2=NameKind.free→∃ c,env.cells.lookup y.1=some c) →
   (forIn names acc (fun (p:Str × NameKind) (r:List (Str × Addr))=>(if (p.2 == NameKind.free)=true then (do let a ← cellOf env p.1;pure (ForInStep.yield ((p.1,a)::r))) else pure (ForInStep.yield r):Sem (ForInStep (List (Str × Addr))))))=(pure (kZ env.cells names acc):Sem (List (Str × Addr))):=by
  intro names
  induction names with
  | nil=>intro acc _;rfl
  | cons p r ih =>
   intro acc hh
   obtain ⟨x,k⟩:=p
   have hr:∀ y∈r,y.2=NameKind.free→∃ c,env.cells.lookup y.1=some c:=fun y hy=>hh y (Dg _ hy)
   rw [List.forIn_cons]
   unfold kZ
   by_cases hk:(k == NameKind.free)=true
   ·obtain ⟨c,hc⟩:=hh (x,k) Dz (by simpa using hk)
    have hc:env.cells.lookup x=some c:=hc
    have ec:cellOf env x=pure c:=by
     unfold cellOf
     rw [hc]
    simp only [hk,Fe,ec,pure_bind,hc,Option.getD_some]
    exact ih _ hr
   ·simp only [hk,Eu,pure_bind]
    exact ih _ hr
 have e:=all scope.names [] h
 unfold closureFor
 simp only [bind_pure]
 exact e
def yt (scope sc:Scope)(NB own:List Str)(cap:List Nat)(N:List Str):Bool :=
 (scope.kind == .function) && (sc.kind == .function) &&
 (scope.names.all fun y=>match y.2 with
  | .cell=>false
  | .free=>sc.names.lookup y.1 == some NameKind.cell
  | .local=>scope.names.lookup y.1 == some NameKind.local
  | _=>true) &&
 (own.all fun x=>scope.names.lookup x == some NameKind.local && scope.names.all fun y=>!(y.1 == x) || y.2 == NameKind.local) &&
 (NB == own++cap.map fun i=>N.getD i "") && (cap.all fun i=>decide (i < N.length) && scope.names.lookup (N.getD i "") == some NameKind.free)
structure Blk (X:Cx) (scope:Scope) (NB own:List Str) (cap:List Nat):Prop where
 kind:scope.kind = .function
 outk:X.env.scope.kind = .function
 nocell:∀ y∈scope.names,y.2 ≠ .cell
 free:∀ y∈scope.names,y.2 = .free→X.env.kindOf y.1=some .cell
 names:∀ y∈scope.names,y.2 = .local→scope.names.lookup y.1=some .local
 owns:∀ x∈own,∀ y∈scope.names,y.1=x→y.2 = .local
 nb:NB=own++cap.map fun i=>X.N.getD i ""
 caps:∀ i∈cap,i < X.N.length∧scope.names.lookup (X.N.getD i "")=some .free
theorem cf {X:Cx}{scope sc:Scope}{NB own:List Str}{cap:List Nat}(hs:X.env.scope=sc)(h:yt scope sc NB own cap X.N=true):Blk X scope NB own cap:=by
 unfold yt at h
 simp only [EK] at h
 obtain ⟨⟨⟨⟨⟨h1,h2⟩,h3⟩,h4⟩,h5⟩,h6⟩:=h
 rw [EL] at h3 h4 h6
 subst hs
 refine ⟨by simpa using h1,by simpa using h2,fun y hy e=>?_,fun y hy e=>?_,fun y hy e=>?_,fun x hx y hy e=>?_,by simpa using h5,fun i hi=>?_⟩
 ·have:=h3 y hy
  rw [e] at this
  exact absurd this (by simp)
 ·have:=h3 y hy
  rw [e] at this
  show X.env.scope.names.lookup y.1=some .cell
  simpa using this
 ·have:=h3 y hy
  rw [e] at this
  simpa using this
 ·have:=h4 x hx
  simp only [EK,EL] at this
  have q:=this.2 y hy
  subst e
  simpa using q
 ·have:=h6 i hi
  simp only [EK] at this
  exact ⟨ES this.1,by simpa using this.2⟩
def cxB (X:Cx)(NB own:List Str)(scope:Scope)(C:Addr)(fp:List Addr)(s₀:Shared)(H₀:Hp):Cx where
 prog:=X.prog
 w:=X.w
 K:=X.K
 mg:=X.mg
 base:=X.base
 A:=X.A
 N:=NB
 s₀:=s₀
 H₀:=H₀
 env:=compEnvC scope (kZ X.env.cells scope.names []) C X.env
 outer:=X.stack
 stack:=X.stack
 ex:=fp
 fn:=fun x=>own.contains x
 calm:=X.calm
 pn:=[]
 lo:=X.lo
 xe:=fun _ _=>False
theorem cz {env:Env}{x:Str}{k:NameKind}(hk:k = .cell ∨ k = .free):∀ {names:List (Str × NameKind)},(∀ y∈names,y.2 ≠ .cell) →
  (names.map fun (n,k)=>if (k == NameKind.free && env.scope.kind == .function && env.kindOf n == some .cell) then (n,NameKind.cell) else (n,k)).lookup x=some k→(x,NameKind.free)∈names
 | [],_,h=>by simp at h
 | (n,q)::r,hn,h=>by
  have ih:=@cz env x k hk r fun y hy=>hn y (Dg _ hy)
  rw [DQ,Fl] at h
  have key:(if (q == NameKind.free && env.scope.kind == .function && env.kindOf n == some .cell)=true then (n,NameKind.cell) else (n,q)).1=n:=by split <;> rfl
  by_cases e:(x == n)=true
  ·have en:x=n:=by simpa using e
   subst en
   by_cases hq:q = .free
   ·subst hq;exact Dz
   ·have hqf:(q == NameKind.free)=false:=by simpa using hq
    simp only [hqf,Ea,DF,Eu,EA] at h
    have h':q=k:=Dp h
    rcases hk with z | z
    ·exact absurd (h'.trans z) (hn (x,q) Dz)
    ·exact absurd (h'.trans z) hq
  ·have e':(x == n)=false:=by simpa using e
   refine Dg _ (ih ?_)
   have e2:(x == (if (q == NameKind.free && env.scope.kind == .function && env.kindOf n == some .cell)=true then (n,NameKind.cell) else (n,q)).1)=false:=by rw [key];exact e'
   rw [e2] at h
   exact h
theorem fi {env:Env}{x:Str}(hk:env.scope.kind = .function)(hc:env.kindOf x=some .cell):∀ {names:List (Str × NameKind)},names.lookup x=some .free →
  (names.map fun (n,k)=>if (k == NameKind.free && env.scope.kind == .function && env.kindOf n == some .cell) then (n,NameKind.cell) else (n,k)).lookup x=some .cell
 | [],h=>by simp at h
 | (n,q)::r,h=>by
  have ih:=@fi env x hk hc r
  rw [Fl] at h
  rw [DQ,Fl]
  by_cases e:(x == n)=true
  ·have en:x=n:=by simpa using e
   subst en
   rw [e] at h
   have hq:q = .free:=Dp h
   subst hq
   simp [hk,hc]
  ·have e':(x == n)=false:=by simpa using e
   rw [e'] at h
   have key:(if (q == NameKind.free && env.scope.kind == .function && env.kindOf n == some .cell)=true then (n,NameKind.cell) else (n,q)).1=n:=by split <;> rfl
   have e2:(x == (if (q == NameKind.free && env.scope.kind == .function && env.kindOf n == some .cell)=true then (n,NameKind.cell) else (n,q)).1)=false:=by rw [key];exact e'
   rw [e2]
   exact ih h
def stB (own:List Str)(cap:List Nat)(σ:St):St:=(own.map fun _=>none)++cap.map fun i=>(σ[i]?).getD none
section
variable {X:Cx} {pins:List (Addr × Obj)} {σ:St} {H:Hp} {s:Shared} {scope:Scope} {NB own:List Str} {cap:List Nat} {fp:List Addr} {C:Addr}
theorem Blk.cells (B:Blk X scope NB own cap)(ok:X.Ok){x:Str}{c:Addr}(h:(kZ X.env.cells scope.names []).lookup x=some c):X.env.cells.lookup x=some c∧(x,NameKind.free)∈scope.names:=by
 rcases g_ (EC h) with q | ⟨q,e⟩
 ·simp at q
 ·obtain ⟨d,hd⟩:=ok.has x (.inl (B.free (x,.free) q rfl))
  have e:c=(X.env.cells.lookup x).getD 0:=e
  rw [hd] at e
  refine ⟨?_,q⟩
  rw [hd,e];rfl
theorem Blk.cell (B:Blk X scope NB own cap)(ok:X.Ok){x:Str}(h:(x,NameKind.free)∈scope.names):∃ c,(kZ X.env.cells scope.names []).lookup x=some c:=du (hU h)
theorem Blk.start (B:Blk X scope NB own cap)(I:Inv X pins σ H s)(hf:∀ b∈fp,mI X pins H b)(hfs:∀ b∈fp,∃ o,s.heap.get? b=some o){h':Heap}{tk:Nat}{m:Str→Option Value}(hC:s.heap.objs.size≤C)
  (k:∀ b o,s.heap.get? b=some o→h'.get? b=some o) (hn:h'.Ns C m) (hk:s.toks≤tk) :
  Inv (cxB X NB own scope C fp s H) [] (stB own cap σ) H { s with heap:=h',toks:=tk }:=by
 have hlen:NB.length=own.length+cap.length:=by rw [B.nb];simp
 have okB:(cxB X NB own scope C fp s H).Ok:=by
  refine ⟨I.ok.mod,B.kind,I.ok.glob,I.ok.blt,hC,fun x y c h1 h2=>I.ok.inj x y c (B.cells I.ok h1).1 (B.cells I.ok h2).1,fun x hx=>?_,fun x c h1 h2=>?_,I.ok.hd,I.ok.frames,.inl rfl,fun b hb=>⟨?_,fun x c h=>?_⟩,I.bs,DO I.ok.bsz I.sz,fun b o e hb=>?_,fun b hb z=>?_,I.stack,I.stkFree⟩
  ·have:(x,NameKind.free)∈scope.names:=by
    rcases hx with z | z
    ·exact cz (.inl rfl) B.nocell z
    ·exact cz (.inr rfl) B.nocell z
   exact B.cell I.ok this
  ·have hx:x∈own:=by simpa [cxB] using h1
   have q:=B.owns x hx _ (B.cells I.ok h2).2 rfl
   exact absurd q (by simp)
  ·obtain ⟨o,e⟩:=hfs b hb
   exact D5 (Du (Do e) hC)
  ·exact (hf b hb).2.2.2.2.1 x c (B.cells I.ok h).1
  ·have hb:b∈fp:=hb
   rcases (hf b hb).2.2.2.1 with z | z
   ·exact I.ok.noex b o e z
   ·exact absurd (Du (Do e) (DO I.ok.bsz z)) (Ed _)
  ·rcases Dj.mp (I.stkSub b z) with z | z
   ·exact (hf b hb).2.1 z
   ·exact (hf b hb).2.2.1 z
 refine InvW.up (X:=cxB X NB own scope C fp s H) ?_ (DO I.low hk)
 refine ⟨okB,rfl,I.bare,Un.kept k,⟨m,hn,fun i x v e1 e2 e3=>?_⟩,fun x c h=>?_,I.hok.fresh hC,fun x c h=>I.freeC x c (B.cells I.ok h).1,fun p hp=>absurd (show p∈([]:List (Addr × Obj)) from hp) (by simp),I.hok.kept k,?_⟩
 ·have e1:NB[i]? = some x:=e1
  have hi:¬ i < own.length:=fun hi=>by
   unfold stB at e2
   rw [Eg (by simpa using hi),DG] at e2
   cases q:own[i]? <;> rw [q] at e2 <;> cases e2
  unfold stB at e2
  rw [Dn (by simpa using hi),DG] at e2
  rw [B.nb,Dn (by omega),DG] at e1
  simp only [C4] at e2
  cases q:cap[i - own.length]? with
  | none=>rw [q] at e1;cases e1
  | some j =>
   rw [q] at e1 e2
   have ex:X.N.getD j "" = x:=Dp e1
   have ev:(σ[j]?).getD none=some v:=Dp e2
   obtain ⟨hj,hjf⟩:=B.caps j (DP q)
   rw [ex] at hjf
   have hN:X.N[j]? = some x:=by rw [← ex,Dx,fu hj];rfl
   have hσ:σ[j]? = some (some v):=by
    cases z:σ[j]? with
    | none=>rw [z] at ev;cases ev
    | some u=>rw [z] at ev;exact DH some ev
   have hmem:(x,NameKind.free)∈scope.names:=EC hjf
   have hkc:=B.free _ hmem rfl
   obtain ⟨m0,hn0,hl⟩:=I.loc
   obtain ⟨u,r,l⟩:=hl j x v hN hσ (.inr (.inl hkc))
   refine ⟨u,r,.inr ⟨.inl (fi B.outk hkc hjf),?_⟩⟩
   obtain ⟨c,hc⟩:=B.cell I.ok hmem
   refine ⟨c,hc,?_⟩
   rcases l with ⟨z,_⟩ | ⟨_,c',hc',⟨oc,hoc,hd⟩⟩
   ·rw [show X.env.kindOf x=some .cell from hkc] at z;cases z
   ·have:=(B.cells I.ok hc).1
    rw [hc'] at this
    have:c'=c:=Dp this
    subst this
    exact ⟨oc,k _ _ hoc,hd⟩
 ·obtain ⟨v,oc,hoc,hd⟩:=I.cell x c (B.cells I.ok h).1
  exact ⟨v,oc,k _ _ hoc,hd⟩
 ·show (stB own cap σ).length=NB.length
  unfold stB
  rw [hlen];simp
theorem Blk.done (B:Blk X scope NB own cap)(I:Inv X pins σ H s)(hf:∀ b∈fp,mI X pins H b){σB:St}{H':Hp}{s':Shared}{h'':Heap}{D:Addr}{ys:List V}{its:List Value}{n:Nat}(hC:s.heap.objs.size≤C)(hD:s.heap.objs.size≤D)(hDC:D≠C)
  (J:Inv (cxB X NB own scope C fp s H) [] σB H' s') (hn:H' D=none) (e:s'.heap.get? D=some { cls:=.type "list",data:=.seq its.toArray n }) (hv:aV ys its) (hz:ys.length≤sizeLine)
  (sb:Heap.SameBut C s'.heap h''):InvW X pins σ (upd H' D (.lst ys)) { s' with heap:=h'' }:=by
 have un:Un (frs X.stack) fp H H' s.heap s'.heap:=J.base
 have neC:∀ {b o},s.heap.get? b=some o→b≠C:=fun q=>D5 (Du (Do q) hC)
 have neD:∀ {b o},s.heap.get? b=some o→b≠D:=fun q=>D5 (Du (Do q) hD)
 have hCn:H' C=none:=J.free
 refine I.call' (s':={ s' with heap:=h'' }) (ch:=fp) J.os ⟨fun b o q n hb hx=>?_,fun b o q n hb hx=>?_,fun b o q n hx=>?_,fun b o q hx=>?_,fun b xs q=>?_,fun b o u q=>?_,fun b ps q=>?_⟩ (fun b u q=>?_) J.bare fun b hb=>?_
 ·exact (sb.2 b (neC q)).trans (un.keep b o q n hb hx)
 ·obtain ⟨sl,r⟩:=un.slot b o q n hb hx
  exact ⟨sl,(sb.2 b (neC q)).trans r⟩
 ·rw [ay (neD q)]
  exact un.free b o q n hx
 ·obtain ⟨o',r⟩:=un.there b o q hx
  exact ⟨o',(sb.2 b (neC q)).trans r⟩
 ·have r:=un.tups b xs q
  rw [ay (aD r hn)]
  exact r
 ·have r:=un.frzs b o u q
  rw [ay (aD r hn)]
  exact r
 ·obtain ⟨more,r⟩:=un.tbls b ps q
  exact ⟨more,by rw [ay (aD r hn)];exact r⟩
 ·by_cases hb:b=D
  ·subst hb
   rw [ag] at q
   cases q
   exact ⟨hz,its,n,hv,(sb.2 b hDC).trans e⟩
  ·rw [ay hb] at q
   refine (J.hok b u q).stay (fun c v hc r=>(sb.2 c ?_).trans r) (fun c r=>?_) fun c xs r=>?_
   ·rcases hc with z | z
    ·rw [z];exact aD q hCn
    ·exact aD z hCn
   ·rw [ay (aD r hn)];exact r
   ·rw [ay (aD r hn)];exact r
 ·obtain ⟨_,f1,_,f3,f4,f5⟩:=hf b hb
  exact ⟨f3,f1,f4,f5⟩
end
def PIf (X:Cx)(ifs:List Expr)(t:TT):Prop :=
 ∀ (pins:List (Addr × Obj)) (s:Shared) (σ:St) (H:Hp) (Q:Bool→Hp→Prop),Inv X pins σ H s→t σ H Q →
  wpAny (model X.prog X.w) X.A (forIn ifs true fun c r=>if r=true then do let ok ← isTrue c X.env (eval c X.env);pure (ForInStep.yield ok) else pure (ForInStep.yield r)) (TP X pins σ Q) X.xe s
def CG:TT:=fun _ H Q=>Q true H
theorem bQ {X:Cx}:PIf X [] CG:=fun _ _ _ H _ I h=>wpAny_tests_nil ⟨H,I,h⟩
theorem eO {X:Cx}{c:Expr}{t:TT}(h:PT X c t):PIf X [c] t:=fun pins s σ H Q I q=>wpAny_tests_one (h pins s σ H Q I q)
section
variable {prog:Program} {w:World} {A:Around} {R:Result→Shared→Prop} {s:Shared}
abbrev noE:Value→Shared→Prop:=fun _ _=>False
theorem oq {elt tg iter:Expr}{ifs:List Expr}{scope:Scope}{pos:Pos}{it acc:Value}{env:Env}(I:Nat→Shared→Prop)
  (turn:∀ n s,I n s→wpAny (model prog w) A (pyNext it) (fun r s₁=>match r with
   | none=>R (.ok .next) s₁
   | some v=>wpAny (model prog w) A (letOwnedTupleGo tg it v) (fun _ s₀=>wpAny (model prog w) A (assign tg env v) (fun _ s₂ =>
     wpAny (model prog w) A (forIn ifs true fun c r=>if r=true then do let ok ← isTrue c env (eval c env);pure (ForInStep.yield ok) else pure (ForInStep.yield r)) (fun ok s₃ =>
      if ok=true then wpAny (model prog w) A (eval elt env) (fun x s₄=>wpAny (model prog w) A (call (.builtin "list.append") [acc,x]) (fun _ s₅=>∃ m,m < n∧I m s₅) noE s₄) noE s₃
      else ∃ m,m < n∧I m s₃) noE s₂) noE s₀) noE s₁) noE s)
  (n:Nat) (h:I n s):codeAny (model prog w) A (.compLoop (.ListComp elt [⟨tg,iter,ifs,0⟩] scope pos) 0 it acc env) R s:=by
 refine codeAny_loop rfl I (fun n s hI=>?_) n h
 show wpAny _ A ((compTurn (.ListComp elt [⟨tg,iter,ifs,0⟩] scope pos) 0 it acc env).onRaise (fun x=>do noteFrame x env;theTreesLotGoes x)) _ _ s
 refine wpAny_noted ?_
 rw [compTurn_list]
 refine C5 (Hm (C5 (Ep (turn n s hI) (fun r s₁ h₁=>?_) fun _ _ z=>False.elim z)))
 cases r with
 | none=>exact Dm h₁
 | some v =>
  refine C5 (Ep h₁ (fun _ s₀ h₀=>C5 (Ep h₀ (fun _ s₂ h₂=>C5 (Ep h₂ (fun ok s₃ h₃=>?_) fun _ _ z=>False.elim z)) fun _ _ z=>False.elim z)) fun _ _ z=>False.elim z)
  cases ok with
  | false=>exact Dm ⟨rfl,h₃⟩
  | true=>exact C5 (C5 (Ep h₃ (fun x s₄ h₄=>C5 (Ep h₄ (fun _ s₅ h₅=>Dm (Dm ⟨rfl,h₅⟩)) fun _ _ z=>False.elim z)) fun _ _ z=>False.elim z))
end
def u7 (own:List Str)(cap:List Nat)(g:TG)(ti:TT)(te:TE)(Q:VK)(σ:St)(J:It)(H1:Hp):Prop:=∃ W:Nat→Nat→List V→St→Hp→Prop,(∃ m,W 0 m [] (stB own cap σ) H1)∧∀ i m ys σ H,W i m ys σ H →
 (J.stop i H∧ys.length≤sizeLine∧∀ D,H D=none→Q (.ref D) (upd H D (.lst ys))) ∨
 (J.go i H∧ys.length < sizeLine∧∀ x H',J.yld i H x H'→g x σ H' fun σ2 H2=>ti σ2 H2 fun b H3=>if b=true then te σ2 H3 fun y H4=>∃ m',m' < m∧W (i+1) m' (ys++[y]) σ2 H4 else ∃ m',m' < m∧W (i+1) m' ys σ2 H3)
def u9 (own:List Str)(cap:List Nat)(wi:TI)(g:TG)(ti:TT)(te:TE):TE:=fun σ H Q=>wi σ H fun J H1=>u7 own cap g ti te Q σ J H1
theorem k6 {X:Cx}{pos2:Pos}{use:Option (Value→Sem Unit)}{QQ:Value→Shared→Prop}{pins:List (Addr × Obj)}{s:Shared}{σ:St}{H:Hp}{Q:VK}{elt iter tg:Expr}{ifs:List Expr}{scope:Scope}{pos:Pos}{NB own:List Str}{cap:List Nat}{wi:TI}{g:TG}{ti:TT}{te:TE}(B:Blk X scope NB own cap)(hc:X.calm=true)(hi:PI X tg iter wi)
  (hg:∀ C fp s₀ H₀,PG (cxB X NB own scope C fp s₀ H₀) tg g) (ht:∀ C fp s₀ H₀,PIf (cxB X NB own scope C fp s₀ H₀) ifs ti) (he:∀ C fp s₀ H₀,PE (cxB X NB own scope C fp s₀ H₀) elt te)
  (hs:∀ x,foldedSetIterable iter X.env x=pure x) (I0:Inv X pins σ H s) (h:u9 own cap wi g ti te σ H Q)
  (fin:∀ (fp:List Addr) (C:Addr) (s2 s4:Shared) (H2 H3:Hp) (σ3:St) (its:List Value) (ys:List V) (k:Nat),Inv X pins σ H2 s2→(∀ b∈fp,mI X pins H2 b)→s2.heap.objs.size≤C→s2.heap.objs.size≠C→Inv (cxB X NB own scope C fp s2 H2) [] σ3 H3 s4→H3 s2.heap.objs.size=none→s4.heap.get? s2.heap.objs.size=some { cls:=.type "list",data:=.seq its.toArray k }→aV ys its→ys.length≤sizeLine→Q (.ref s2.heap.objs.size) (upd H3 s2.heap.objs.size (.lst ys)) →
   compPost (model X.prog X.w) X.A X.xe use QQ (.ref s2.heap.objs.size) C (.ok .next) s4):wpAny (model X.prog X.w) X.A (comprehension (.ListComp elt [⟨tg,iter,ifs,0⟩] scope pos) scope X.env pos2 (newList []) false (eval iter X.env) use) QQ X.xe s:=by
 have hclos:=h_ (env:=X.env) (scope:=scope) fun y hy e=>I0.ok.has y.1 (.inl (B.free y hy e))
 refine wpAny_comprehension_free (use:=use) rfl hs hclos B.kind B.names (thn (hi pins s σ H _ I0 h) fun v s1 h1=>thn h1 fun itv s2 h2=>?_)
 obtain ⟨it,fp,tn,J,H2,rfl,I,T,st2,f2,W,⟨m0,w0⟩,turn⟩:=h2
 refine GD ?_
 refine wpAny_newFunctionEnv B.nocell (by intro y hy;simp at hy) (fun h₁ hns₁ hsb₁=>?_) B.kind
 dsimp only at hns₁ hsb₁ ⊢
 generalize hP:s2.heap.push { cls:=.type "list",dict:=none,data:=.seq ([]:List Value).toArray }=P at hns₁ hsb₁ ⊢
 have hC:P.objs.size=s2.heap.objs.size+1:=by rw [← hP,FJ]
 have hDC:s2.heap.objs.size≠P.objs.size:=by rw [hC];exact D5 (Fm _)
 have hCle:s2.heap.objs.size≤P.objs.size:=by rw [hC];exact FP _
 have old:∀ b o,s2.heap.get? b=some o→h₁.get? b=some o:=fun b o e=>by
  refine (hsb₁.2 b ?_).trans (C6 _ (hP ▸ C6 _ e))
  exact D5 (Du (Do e) hCle)
 have hD:h₁.get? s2.heap.objs.size=some { cls:=.type "list",data:=.seq ([]:List Value).toArray 0 }:=by
  refine (hsb₁.2 _ hDC).trans (C6 _ ?_)
  rw [← hP]
  exact Dv _ rfl
 have hfs:∀ b∈fp,∃ o,s2.heap.get? b=some o:=fun b hb=>let ⟨o,e,_⟩:=T.obj _ _ st2 b hb;⟨o,e⟩
 have st4:tn 0 h₁:=T.keep _ _ _ st2 fun b _ o e=>old b o e
 generalize htk:s2.toks+([]:List (Str × Value)).length=tk4
 have I4:=B.start (C:=P.objs.size) (tk:=tk4) I f2 hfs hCle old hns₁ (htk ▸ Nat.le_add_right _ _)
 have fOk:∀ {H':Hp} {b:Addr} {ob:Obj},b∈fp→H' b=none→mI (cxB X NB own scope P.objs.size fp s2 H2) [(s2.heap.objs.size,ob)] H' b:=fun {H' b ob} hb hn=>by
  obtain ⟨o,e⟩:=hfs b hb
  refine ⟨hn,(I4.ok.exf b hb).1,I4.ok.exfs b hb,.inl hb,(I4.ok.exf b hb).2,fun p hp=>?_⟩
  have ep:p=(s2.heap.objs.size,ob):=De.mp (show p∈[(s2.heap.objs.size,ob)] from hp)
  rw [ep]
  exact fun z=>absurd (Do e) (by rw [← z];exact Ed _)
 have dnf:s2.heap.objs.size∉frs X.stack:=fun z=>by
  rcases Dj.mp (I.stkSub _ z) with z | z
  ·exact absurd I.lt (by rw [← z];exact Ed _)
  ·exact I.nofs (Da _) z
 have I3D:∀ {σ3:St} {H3:Hp} {s3:Shared} {its:List Value} {k:Nat},Inv (cxB X NB own scope P.objs.size fp s2 H2) [] σ3 H3 s3→s3.heap.get? s2.heap.objs.size=some { cls:=.type "list",data:=.seq its.toArray k }→H3 s2.heap.objs.size=none →
   Inv (cxB X NB own scope P.objs.size fp s2 H2) [(s2.heap.objs.size,{ cls:=.type "list",data:=.seq its.toArray k })] σ3 H3 s3:=fun I3 e n=>I3.pins_of fun p hp=>by
  have ep:=De.mp hp
  subst ep
  exact ⟨e,n,hDC,dnf,fun v z=>by cases z⟩
 have ndf:s2.heap.objs.size∉fp:=fun z=>by
  obtain ⟨o,e⟩:=hfs _ z
  exact absurd (Do e) (Ed _)
 have nCD:∀ x c,(cxB X NB own scope P.objs.size fp s2 H2).env.cells.lookup x=some c→c≠s2.heap.objs.size:=fun x c e z=>by
  obtain ⟨v,o,ho,_⟩:=I.cell x c (B.cells I.ok e).1
  rw [z] at ho
  exact absurd (Do ho) (Ed _)
 have loop:∀ s₃:Shared,s₃ = { s2 with heap:=h₁,toks:=tk4 }→codeAny (model X.prog X.w) X.A (.compLoop (.ListComp elt [⟨tg,iter,ifs,0⟩] scope pos) 0 (.ref it) (.ref s2.heap.objs.size) (cxB X NB own scope P.objs.size fp s2 H2).env)
   (compPost (model X.prog X.w) X.A X.xe use QQ (.ref s2.heap.objs.size) P.objs.size) s₃:=by
  rintro s₃ rfl
  refine oq (fun n s'=>∃ i σB H' ys its k,Inv (cxB X NB own scope P.objs.size fp s2 H2) [] σB H' s'∧tn i s'.heap∧(∀ b∈fp,H' b=none)∧s'.heap.get? s2.heap.objs.size=some { cls:=.type "list",data:=.seq (its:List Value).toArray k }∧aV ys its∧H' s2.heap.objs.size=none∧W i n ys σB H') ?_ m0
   ⟨0,stB own cap σ,H2,[],[],0,I4,st4,fun b hb=>(f2 b hb).1,hD,.nil,I.hok.fresh (Da _),w0⟩
  rintro n s3 ⟨i,σ3,H3,ys,its,k,I3,st3,fr3,hD3,rv,hn3,w3⟩
  rcases turn i n ys σ3 H3 w3 with ⟨stop,hz,q⟩ | ⟨go,hz,step⟩
  ·refine thn (T.done (cxB X NB own scope P.objs.size fp s2 H2) rfl rfl rfl hc i _ s3 σ3 H3 noE (I3D I3 hD3 hn3) (fun b hb=>fOk hb (fr3 b hb)) st3 stop) fun r s4 zq1=>?_
   obtain ⟨hr,I4'⟩:=zq1
   subst hr
   have hD4:s4.heap.get? s2.heap.objs.size=some { cls:=.type "list",data:=.seq (its:List Value).toArray k }:=(I4'.pin (s2.heap.objs.size,_) (Di _ (De.mpr rfl))).1
   have I5:Inv (cxB X NB own scope P.objs.size fp s2 H2) [] σ3 H3 s4:=I4'.pins_of fun p hp=>absurd (show p∈([]:List (Addr × Obj)) from hp) (by simp)
   exact fin fp _ s2 s4 H2 H3 σ3 its ys k I f2 hCle hDC I5 hn3 hD4 rv hz (q _ hn3)
  ·refine thn (T.item (cxB X NB own scope P.objs.size fp s2 H2) rfl rfl rfl hc i _ s3 σ3 H3 noE (I3D I3 hD3 hn3) (fun b hb=>fOk hb (fr3 b hb)) st3 go) fun r s4 zq2=>?_
   obtain ⟨u,hr,h4⟩:=zq2
   subst hr
   refine thn h4 fun _ s5 zq3=>?_
   obtain ⟨x,H5,I5,r5,y5,st5,fr5⟩:=zq3
   have I5':=I5.pinned (fun b hb=>fOk hb (fr5 b hb)) (T.obj _ _ st5)
   refine thn (hg _ fp s2 H2 _ s5 σ3 H5 x u _ I5' r5 (step x H5 y5)) fun _ s6 zq4=>?_
   obtain ⟨σ6,H6,I6,q6⟩:=zq4
   refine thn (ht _ fp s2 H2 _ s6 σ6 H6 _ I6 q6) fun b s7 zq5=>?_
   obtain ⟨H7,I7,q7⟩:=zq5
   have pinned:∀ {σ8:St} {H8:Hp} {s8:Shared},Inv (cxB X NB own scope P.objs.size fp s2 H2) ([(s2.heap.objs.size,{ cls:=.type "list",data:=.seq (its:List Value).toArray k })]++f_ fp s5.heap) σ8 H8 s8 →
     tn (i+1) s8.heap∧(∀ b∈fp,H8 b=none)∧s8.heap.get? s2.heap.objs.size=some { cls:=.type "list",data:=.seq (its:List Value).toArray k }∧H8 s2.heap.objs.size=none:=fun {σ8 H8 s8} I8=>by
    refine ⟨T.keep _ _ _ st5 fun b hb o e=>(I8.pin (b,o) (Di _ (Di _ (bE hb e)))).1,fun b hb=>?_,?_,?_⟩
    ·obtain ⟨o,e,d⟩:=T.obj _ _ st5 b hb
     exact (I8.pin (b,o) (Di _ (Di _ (bE hb e)))).2.1
    ·exact (I8.pin (s2.heap.objs.size,_) (Di _ (DM _ (De.mpr rfl)))).1
    ·exact (I8.pin (s2.heap.objs.size,_) (Di _ (DM _ (De.mpr rfl)))).2.1
   have nopin:∀ {pp:List (Addr × Obj)} {σ8:St} {H8:Hp} {s8:Shared},Inv (cxB X NB own scope P.objs.size fp s2 H2) pp σ8 H8 s8→Inv (cxB X NB own scope P.objs.size fp s2 H2) [] σ8 H8 s8:=fun I8=>I8.pins_of fun p hp=>absurd (show p∈([]:List (Addr × Obj)) from hp) (by simp)
   cases b with
   | false =>
    rw [if_neg Dy] at q7 ⊢
    obtain ⟨m',hm,w7⟩:=q7
    obtain ⟨p1,p2,p3,p4⟩:=pinned I7
    exact ⟨m',hm,i+1,σ6,H7,ys,its,k,nopin I7,p1,p2,p3,rv,p4,w7⟩
   | true =>
    rw [if_pos rfl] at q7 ⊢
    refine thn (he _ fp s2 H2 _ s7 σ6 H7 _ I7 q7) fun yv s8 zq6=>?_
    obtain ⟨y,H8,I8,r8,m',hm,w8⟩:=zq6
    obtain ⟨p1,p2,p3,p4⟩:=pinned I8
    refine GF F.slot_list_append ⟨_,p3,rfl⟩ F.entry_list_append (F.args_list_append_2 _ _) (PySem.list_append s2.heap.objs.size its.toArray k yv (by rw [DA,← rv.length];omega)) ⟨p3,?_⟩
    have q:=PySem.IsL.update p3 fun a=>a.push yv
    have ea:its.toArray.push yv=(its++[yv]).toArray:=by simp
    rw [ea] at q
    have I9:Inv (cxB X NB own scope P.objs.size fp s2 H2) [] σ6 H8 { s8 with heap:=s8.heap.update s2.heap.objs.size (Obj.mapSeq fun a=>a.push yv),toks:=s8.toks } :=
     ((nopin I8).turned (it:=s2.heap.objs.size) (fun b o hb e=>(DR s8.heap _ (Ne.symm hb)).trans e) p4 hDC (.inr (Da _)) (fun x c e=>nCD x c e) fun p hp=>absurd (show p∈([]:List (Addr × Obj)) from hp) (by simp)).up I8.low
    refine ⟨m',hm,i+1,σ6,H8,ys++[y],its++[yv],_,I9,?_,p2,q,rv.append (.cons r8 .nil),p4,w8⟩
    refine T.keep _ _ _ p1 fun b hb o e=>(DR s8.heap _ ?_).trans e
    intro z
    rw [z] at ndf
    exact ndf hb
 exact codeAny_compStart_list (loop _ rfl) (T.self X.A 0 _ _ _ st4 (loop _ rfl))
theorem di {X:Cx}{elt iter tg:Expr}{ifs:List Expr}{scope:Scope}{pos:Pos}{NB own:List Str}{cap:List Nat}{wi:TI}{g:TG}{ti:TT}{te:TE}(B:Blk X scope NB own cap)(hc:X.calm=true)(hi:PI X tg iter wi)
  (hg:∀ C fp s₀ H₀,PG (cxB X NB own scope C fp s₀ H₀) tg g) (ht:∀ C fp s₀ H₀,PIf (cxB X NB own scope C fp s₀ H₀) ifs ti) (he:∀ C fp s₀ H₀,PE (cxB X NB own scope C fp s₀ H₀) elt te)
  (hs:∀ x,foldedSetIterable iter X.env x=pure x:=by intro _;rfl):PE X (.ListComp elt [⟨tg,iter,ifs,0⟩] scope pos) (u9 own cap wi g ti te):=by
 intro pins s σ H Q I0 h
 rw [eval_ListComp]
 refine k6 (use:=none) (QQ:=EP X pins σ Q) B hc hi hg ht he hs I0 h fun fp C s2 s4 H2 H3 σ3 its ys k I f2 hCle hDC I5 hn3 hD4 rv hz q=>?_
 obtain ⟨mC,hnC,_⟩:=I5.loc
 exact ⟨mC,hnC,fun h'' sb=>⟨.ref s2.heap.objs.size,_,B.done I f2 hCle (Da _) hDC I5 hn3 hD4 rv hz sb,rfl,q⟩⟩
theorem bK {own:List Str}{cap:List Nat}{J:It}{g:TG}{ti:TT}{te:TE}{σ:St}{H:Hp}{Q:VK}(n:Nat)(Pv:Nat→List V→St→Hp→Prop)(h0:Pv 0 [] (stB own cap σ) H)(hz:∀ i ys σ H,i≤n→Pv i ys σ H→ys.length≤i)(hn:n≤sizeLine)
  (hgo:∀ i ys σ H,i < n→Pv i ys σ H→J.go i H) (hst:∀ ys σ H,Pv n ys σ H→J.stop n H)
  (hs:∀ i ys σ H x H' (N:List V→St→Hp→Prop),i < n→Pv i ys σ H→J.yld i H x H'→(∀ ys' σ' H'',Pv (i+1) ys' σ' H''→N ys' σ' H'')→g x σ H' fun σ2 H2=>ti σ2 H2 fun b H3=>if b=true then te σ2 H3 fun y H4=>N (ys++[y]) σ2 H4 else N ys σ2 H3)
  (hd:∀ ys σ H D,Pv n ys σ H→H D=none→Q (.ref D) (upd H D (.lst ys))) :
  u7 own cap g ti te Q σ J H:=by
 refine ⟨fun i m ys σ H=>m=n - i∧i≤n∧Pv i ys σ H,⟨n,by simp,D2 _,h0⟩,?_⟩
 rintro i m ys σ H ⟨rfl,hi,p⟩
 have hl:=hz i ys σ H hi p
 by_cases hlt:i < n
 ·refine .inr ⟨hgo i ys σ H hlt p,by omega,fun x H' y=>?_⟩
  exact hs i ys σ H x H' (fun ys' σ' H''=>∃ m',m' < n - i∧m'=n - (i+1)∧i+1≤n∧Pv (i+1) ys' σ' H'') hlt p y fun ys' σ' H'' q=>⟨n - (i+1),by omega,rfl,hlt,q⟩
 ·have e:i=n:=by omega
  subst e
  exact .inl ⟨hst ys σ H p,by omega,fun D hD=>hd ys σ H D p hD⟩
def Its (z:Str):It:=⟨fun i _=>i < z.cps.size,fun i H x H'=>H'=H∧∃ c,z.cps[i]? = some c∧x = .str ⟨#[c]⟩,fun i _=>i=z.cps.size⟩
theorem bD {P:Program}{w:World}{K:PySem.W.Frag}{tg:Expr}{it n:Nat}{Pv:Nat→Value→Prop}{st:Nat→Heap→Prop}{J:It}{T:String}{fl:Nat→Array Value}
  (W:∀ A:Around,A.handled=none→Walks P w A it [it] [it] n Pv st) (hst:∀ i h,st i h→∃ o,h.get? it=some o∧o.cls = .type T∧o.data = .fields (fl i))
  (hT:["enumerate","zip","dict_itemiterator","dict_reverseitemiterator","odict_iterator","itertools.zip_longest","itertools.pairwise"].contains T=false)
  (hgo:∀ i H,J.go i H→i < n) (hstop:∀ i H,J.stop i H→i=n) (hy:∀ i H u,J.go i H→Pv i u→∃ x,bf x u∧J.yld i H x H)
  (hself:∀ (A:Around) (i:Nat) (s:Shared) (Q:Value→Shared→Prop) (E:Value→Shared→Prop),st i s.heap→Q (.ref it) s→wpAny (model P w) A (pyIter (.ref it)) Q E s):xE P w K tg J [it] it st where
 mem:=by simp
 obj:=fun i h s b hb=>by
  have e:b=it:=by simpa using hb
  subst e
  obtain ⟨o,e,c,d⟩:=hst i h s
  exact ⟨o,e,fun v z=>by rw [d] at z;cases z⟩
 keep:=fun i h h' s k=>(W {} rfl).frame i h h' s k
 item:=by
  intro X hP hw hK hc i pins s σ H E I hf s0 hg
  subst hP hw hK
  obtain ⟨f0,f1,f2,f3,f4,f5⟩:=hf it (by simp)
  refine wt I.low ((W X.A (I.ok.hd hc)).item i s _ _ (hgo i H hg) s0 fun v h' tk hv st' kk hl=>?_)
  have I1:Inv X pins σ H { s with heap:=h',toks:=tk }:=(I.turned (fun b o hb e=>kk b o (by simpa using hb) e) f0 f1 f3 f4 f5).up hl
  obtain ⟨o,e,c,d⟩:=hst _ _ st'
  obtain ⟨x,rx,yx⟩:=hy i H v hg hv
  exact ⟨v,rfl,nM (s:={ s with heap:=h',toks:=tk }) e c d hT ⟨x,H,I1,rx,yx,st',fun b hb=>(hf b hb).1⟩⟩
 done:=by
  intro X hP hw hK hc i pins s σ H E I hf s0 hg
  subst hP hw hK
  obtain ⟨f0,f1,f2,f3,f4,f5⟩:=hf it (by simp)
  have e:=hstop i H hg
  subst e
  exact wt I.low ((W X.A (I.ok.hd hc)).done s _ _ s0 fun h' tk kk hl=>⟨rfl,(I.turned (fun b o hb e=>kk b o (by simpa using hb) e) f0 f1 f3 f4 f5).up hl⟩)
 self:=hself
section
variable {X:Cx} {tg:Expr}
def CH (tl:TE):TI:=fun σ H R=>tl σ H fun x H1=>∃ z,x = .str z∧R (Its z) H1
theorem jY {z:Str}{i:Nat}{H:Hp}{u:Value}(h:SignAt z i u):∃ x,bf x u∧(Its z).yld i H x H:=by
 obtain ⟨c,t,e,rfl⟩:=h
 exact ⟨.str ⟨#[c]⟩,⟨t,rfl⟩,rfl,c,e,rfl⟩
theorem jk {l:Expr}{tl:TE}(hl:PE X l tl):PI X tg l (CH tl):=by
 intro pins s σ H R I h
 refine thn (hl pins s σ H _ I h) fun v s1 zq1=>?_
 obtain ⟨x,H1,I1,r1,q1⟩:=zq1
 obtain ⟨z,rfl,q⟩:=q1
 obtain ⟨t,rfl⟩:=r1
 have fp:∀ b∈[s1.heap.objs.size],mI X pins H1 b:=fun b hb=>by
  have e:b=s1.heap.objs.size:=by simpa using hb
  subst e
  exact I1.fpOk (Da _) (I1.hok.fresh (Da _))
 cases ha:z.cps.all (· < 128)
 ·refine wpAny_pyIter_wide ha ⟨s1.heap.objs.size,[s1.heap.objs.size],_,Its z,H1,rfl,(I1.kept (t':=s1.toks) fun b o e=>C6 _ e).up I1.low,
   bD (T:="str_iterator") (fl:=fun i=>#[.str z t,.int i 0]) (fun A hh=>Walks.strWide hh _ z t) (fun i h st=>st) (by decide) (fun i H g=>g) (fun i H g=>g) (fun i H u _ hu=>jY hu) (fun A i s Q E st h=>wpAny_pyIter_striter_wide st h),⟨_,Dv _ rfl,rfl,rfl⟩,fp,q⟩
 ·refine G6 ha ⟨s1.heap.objs.size,[s1.heap.objs.size],_,Its z,H1,rfl,(I1.kept (t':=s1.toks) fun b o e=>C6 _ e).up I1.low,
   bD (T:="str_ascii_iterator") (fl:=fun i=>#[.str z t,.int i 0]) (fun A hh=>HM hh _ z t) (fun i h st=>st) (by decide) (fun i H g=>g) (fun i H g=>g) (fun i H u _ hu=>jY hu) (fun A i s Q E st h=>GV st h),⟨_,Dv _ rfl,rfl,rfl⟩,fp,q⟩
inductive B_ (x:V)(lo:Option Int)(hi:Option Int)(H:Hp)(Q:VK):Prop
 | mk:∀ z,(x = .str z)→(z.length≤sizeLine)→(Q (.str (Txt.slice z lo hi)) H)→B_ x lo hi H Q
theorem c6:SlR X B_:=by
 intro pins s σ H x v vl vu lo hi sl Q I rx hs pl pu h
 obtain ⟨z,rfl,hz,q⟩:=h
 obtain ⟨t,rfl⟩:=rx
 have fin:∀ (lo hi:Option Int),Q (.str (Txt.slice z lo hi)) H→∀ t' k,EP X pins σ Q (.str (Txt.slice z lo hi) t') { s with toks:=k }:=fun lo hi q t' k=>⟨.str _,H,I.tok _,⟨_,rfl⟩,q⟩
 refine ⟨"str",_,F.slot_str_getitem.lookup,Gn _ _ _,?_⟩
 cases pl with
 | none =>
  cases pu with
  | none=>exact Ff (l:=none) (u:=none) (st:=none) hs rfl (GJ ⟨DO (Gu z _ _) hz,fun t' k=>fin _ _ q t' k⟩)
  | int j uj=>exact Ff (l:=none) (u:=some (j,uj)) (st:=none) hs rfl (GJ ⟨DO (Gu z _ _) hz,fun t' k=>fin _ _ q t' k⟩)
 | int i ui =>
  cases pu with
  | none=>exact Ff (l:=some (i,ui)) (u:=none) (st:=none) hs rfl (GJ ⟨DO (Gu z _ _) hz,fun t' k=>fin _ _ q t' k⟩)
  | int j uj=>exact Ff (l:=some (i,ui)) (u:=some (j,uj)) (st:=none) hs rfl (GJ ⟨DO (Gu z _ _) hz,fun t' k=>fin _ _ q t' k⟩)
inductive tQ (x:V)(vs:List V)(H:Hp)(Q:VK):Prop
 | mk:∀ z,(x = .str z)→(vs=[])→(z.length≤5592405)→(Q (.str (Txt.upper z)) H)→tQ x vs H Q
inductive tR (x:V)(vs:List V)(H:Hp)(Q:VK):Prop
 | mk:∀ z,(x = .str z)→(vs=[])→(z.length≤5592405)→(Q (.str (Txt.lower z)) H)→tR x vs H Q
theorem ia:MtR X "str.upper" tQ:=by
 intro pins s σ H x vs v us Q I rx rv h
 obtain ⟨z,rfl,rfl,hz,q⟩:=h
 obtain ⟨t,rfl⟩:=rx
 cases rv
 exact SCL.upper hz fun _=>⟨.str _,H,I.tok _,⟨_,rfl⟩,q⟩
theorem ib:MtR X "str.lower" tR:=by
 intro pins s σ H x vs v us Q I rx rv h
 obtain ⟨z,rfl,rfl,hz,q⟩:=h
 obtain ⟨t,rfl⟩:=rx
 cases rv
 exact SCL.lower hz fun _=>⟨.str _,H,I.tok _,⟨_,rfl⟩,q⟩
theorem gk:∀ {ys:List Str} {us:List Value},aV (ys.map V.str) us→StrsAre us ys
 | [],_,r=>by
  rw [G4] at r
  cases r
  exact .nil
 | y::ys,us,r=>by
  rw [DQ] at r
  cases r with
  | cons r1 r2 =>
   obtain ⟨t,e⟩:=r1
   subst e
   exact .cons y t (gk r2)
inductive yu (K:PySem.W.Frag)(x:V)(vs:List V)(H:Hp)(Q:VK):Prop
 | mk:∀ z p ys,(x = .str z)→(vs=[.ref p])→(SqL K H p (ys.map V.str))→((ys.map (·.length)).sum+ys.length*z.length≤16777216)→(Q (.str (Txt.join z ys)) H)→yu K x vs H Q
theorem jZ:MtR X "str.join" (yu X.K):=by
 intro pins s σ H x vs v us Q I rx rv h
 obtain ⟨z,p,ys,rfl,rfl,hq,hz,q⟩:=h
 obtain ⟨t,rfl⟩:=rx
 obtain ⟨u,rfl,ru⟩:=cT rv
 cases ru
 obtain ⟨its,r,pl,_⟩:=I.list hq
 exact join_list pl.isList (by simpa using gk r) hz fun t' k=>⟨.str _,H,I.tok _,⟨_,rfl⟩,q⟩
inductive eE  (x:V)(y:V)(H:Hp)(Q:VK):Prop
 | mk:∀ z n,(x = .str z)→(y = .int n)→(MulOk z n)→(Q (.str (Txt.mul z n)) H)→eE x y H Q
theorem mR:OpR X (binaryOp .Mult) eE:=by
 intro pins s σ H x y v u Q I rx ry h
 obtain ⟨z,n,rfl,rfl,hz,q⟩:=h
 obtain ⟨t,rfl⟩:=rx
 obtain ⟨t',rfl⟩:=ry
 exact SB.mul hz fun t' k=>⟨.str _,H,I.tok _,⟨_,rfl⟩,q⟩
end
theorem ou {z:Str}{g:TG}{tb:TS}{D:f9}{σ:St}{H:Hp}(Pv:Nat→St→Hp→Prop)(h0:Pv 0 σ H)
  (hs:∀ i c σ H,z.cps[i]? = some c→Pv i σ H→g (.str ⟨#[c]⟩) σ H fun σ2 H2=>tb { D with nx:=Pv (i+1),ct:=Pv (i+1),bk:=D.nx } σ2 H2) (hd:∀ σ H,Pv z.cps.size σ H→D.nx σ H) :
  ∃ W:Nat→Nat→St→Hp→Prop,(∃ m,W 0 m σ H)∧∀ i m σ H,W i m σ H →
   ((Its z).stop i H∧D.nx σ H) ∨ ((Its z).go i H∧∃ N:St→Hp→Prop,(∀ σ' H',N σ' H'→∃ m',m' < m∧W (i+1) m' σ' H')∧∀ x H',(Its z).yld i H x H'→g x σ H' fun σ2 H2=>tb { D with nx:=N,ct:=N,bk:=D.nx } σ2 H2):=by
 refine ⟨fun i m σ H=>m=z.cps.size - i∧i≤z.cps.size∧Pv i σ H,⟨z.cps.size,by simp,D2 _,h0⟩,?_⟩
 rintro i m σ H ⟨rfl,hi,p⟩
 by_cases hlt:i < z.cps.size
 ·refine .inr ⟨hlt,Pv (i+1),fun σ' H' p'=>⟨z.cps.size - (i+1),by omega,rfl,hlt,p'⟩,fun x H' y=>?_⟩
  obtain ⟨e,c,hc,ex⟩:=y
  subst e ex
  exact hs i c σ _ hc p
 ·have e:i=z.cps.size:=by omega
  subst e
  exact .inl ⟨rfl,hd σ H p⟩
end L2
namespace PySem
open Sem (wp)
open Builtin Builtin.SmallTypes
namespace F
theorem lookup_str_reversed:typeLookup (.type "str") "__reversed__" = pure none:=by rw [GK,Fx]; kernel_rfl
theorem ie:Slot "reversed" "__init__" "object.__init__" :=
 .of (owner:="object") (n:="__init__") (by rw [GK,Fx];kernel_rfl) (by decide +kernel) (by decide +kernel) (by decide +kernel)
  (by first | exact .inl (by decide +kernel) | exact .inr (by decide +kernel)) (by rw [G_];kernel_rfl)
theorem called_rvs:TypeCalled "reversed" "reversed.__new__" "object.__init__" :=
 ⟨by decide +kernel,create_reversed,⟨_,_,mro_reversed⟩,made_reversed,plain_reversed_new,sub_reversed_self,ie⟩
end F
set_option maxHeartbeats 1000000 in
theorem ow (x:Str)(t:Tok):Meets (Builtin.«reversed.__new__» ⟨[.type "reversed",.str x t],[]⟩) (fun _ R s=>¬ (x.length:Int)≥2 ^ 63 ∧
   ∀ tk,R (.ok (.ret (.ref s.heap.objs.size))) { s with heap:=s.heap.push { cls:=.type "reversed",data:=.fields #[.str x t,rawInt ((x.length:Int) - 1)] },toks:=tk }) :=
 .of_wp fun prog w A R s h=>by
  obtain ⟨hx,h⟩:=h
  unfold Builtin.«reversed.__new__»
  refine C5 (GL (newClass_reversed _) ?_)
  try dsimp only
  refine C5 (GL (a:=()) (by first | rfl | kernel_rfl) ?_)
  refine C5 (GL (a:=()) (by first | rfl | kernel_rfl) ?_)
  try dsimp only
  refine C5 (HE (Gn s x t) F.lookup_str_reversed ?_)
  try dsimp only
  refine C5 ?_
  have hl:=F.slot_str_getitem.lookup
  have hT:=Gn s x t
  have hD:isSubtype (.type "str") (.type "dict")=pure false:=by rw [G_];kernel_rfl
  repeat (any_goals (first | assumption | refine PySem.P.len_str hx ?_ | wp_step))
  exact ⟨_,rfl,h _⟩
def Heap.IsRvs (h:Heap)(a:Addr)(x:Str)(t:Tok)(i:Int):Prop:=∃ o,h.get? a=some o∧o.cls = .type "reversed"∧o.data = .fields #[.str x t,rawInt i]
theorem Heap.IsRvs.typeIs {s:Shared}{a:Addr}{x:Str}{t:Tok}{i:Int}(y:s.heap.IsRvs a x t i):s.TypeIs (.ref a) "reversed":=let ⟨o,ho,hc,_⟩:=y; ⟨o,ho,hc⟩
namespace F
theorem slot_rvs_next:Slot "reversed" "__next__" "reversed.__next__" :=
 .of (owner:="reversed") (n:="__next__") (by rw [GK,Fx];kernel_rfl) (by decide +kernel) (by decide +kernel) (by decide +kernel)
  (by first | exact .inl (by decide +kernel) | exact .inr (by decide +kernel)) (by rw [G_];kernel_rfl)
theorem entry_rvs_next:entryFor table "reversed.__next__" = some Builtin.«reversed.__next__»:=entryFor_of_tree (by kernel_rfl)
theorem args_rvs_next (a:Value):argsOk "reversed.__next__" ⟨[a],[]⟩:=by unfold argsOk; kernel_rfl
theorem slot_rvs_iter:Slot "reversed" "__iter__" "reversed.__iter__" :=
 .of (owner:="reversed") (n:="__iter__") (by rw [GK,Fx];kernel_rfl) (by decide +kernel) (by decide +kernel) (by decide +kernel)
  (by first | exact .inl (by decide +kernel) | exact .inr (by decide +kernel)) (by rw [G_];kernel_rfl)
theorem args_rvs_iter (a:Value):argsOk "reversed.__iter__" ⟨[a],[]⟩:=by unfold argsOk; kernel_rfl
theorem entry_rvs_iter:entryFor table "reversed.__iter__" = some Builtin.«dict_keyiterator.__iter__» :=
 entryFor_alias (id':="dict_keyiterator.__iter__") (by kernel_rfl) rfl (by decide +kernel) (by kernel_rfl)
end F
section
variable {prog:Program} {w:World} {A:Around} {E:Value→Shared→Prop} {s:Shared} {x:Str} {t:Tok}
theorem jl {Q:Value→Shared→Prop}(hx:¬ (x.length:Int)≥2 ^ 63)
  (h:∀ tk,Q (.ref s.heap.objs.size) { s with heap:=s.heap.push { cls:=.type "reversed",data:=.fields #[.str x t,rawInt ((x.length:Int) - 1)] },toks:=tk }):wpAny (model prog w) A (call (.type "reversed") [.str x t]) Q E s :=
 callType_new F.called_rvs (by decide) (F.typeCall_reversed_1 _) (F.newCall_reversed_1 _) (fun obj=>F.args_object_init_2 obj _) F.entry_reversed_new (ow x t) ⟨hx,fun tk=>⟨⟨_,Dv _ rfl,rfl⟩,h tk⟩⟩
theorem ig {it:Addr}{i:Int}{Q:Value→Shared→Prop}(hit:s.heap.IsRvs it x t i)(h:Q (.ref it) s):wpAny (model prog w) A (pyIter (.ref it)) Q E s:=by
 refine wpAny_pyIter_slot hit.typeIs F.slot_rvs_iter (FN F.slot_rvs_iter hit.typeIs F.entry_rvs_iter ?_ (F.args_rvs_iter _))
 show wpAny _ _ (ret (.ref it)) _ _ s
 exact Dm ⟨_,rfl,"reversed",_,hit.typeIs,F.slot_rvs_next.lookup,h⟩
theorem ij {it:Addr}{i:Nat}{c:Nat}{Q:Option Value→Shared→Prop}(hit:s.heap.IsRvs it x t (i:Int))(hx:x.cps[i]? = some c)(h63:(i:Int) < 2 ^ 63)
  (hQ:∀ h' tk u,h'.IsRvs it x t ((i:Int) - 1)→Heap.SameBut it s.heap h'→Q (some (.str ⟨#[c]⟩ u)) { s with heap:=h',toks:=tk }):wpAny (model prog w) A (pyNext (.ref it)) Q E s:=by
 obtain ⟨o,ho,hc,hd⟩:=id hit
 unfold pyNext
 refine C5 (Hn (wpAny_callSpecial?_slot (name:=Str.ofString "__next__") hit.typeIs F.slot_rvs_next
  (FN F.slot_rvs_next hit.typeIs F.entry_rvs_next ?_ (F.args_rvs_next _))))
 unfold Builtin.«reversed.__next__»
 refine C5 (GL (a:=(Value.ref it,[])) rfl ?_)
 try dsimp only
 refine C5 (Fg ho hd (x:=.str x t) rfl ?_)
 refine C5 (Fg ho hd (x:=rawInt (i:Int)) rfl ?_)
 show wpAny _ _ (if (i:Int) < 0 then _ else _) _ _ s
 rw [if_neg (by omega)]
 refine C5 (HE (Gn s x t) F.slot_str_getitem.lookup ?_)
 show wpAny _ _ (if (some (Value.builtin "str.__getitem__")).isNone=true then _ else _) _ _ s
 rw [if_neg (by decide)]
 refine C5 (wpAny_mkInt ?_)
 have hlt:i < x.length:=by
  have:=D7.mp hx
  exact this.1
 refine C5 (Hn (PySem.P.getItem_str (c:=c) ?_ ?_ ?_))
 ·have e1:decide ((i:Int) < -(2 ^ 63:Int))=false:=C7 (by omega)
  have e2:decide ((i:Int)≥2 ^ 63)=false:=C7 (by omega)
  rw [e1,e2,HU]
 ·rw [PySem.StrLaws.seqIndex_nonneg (by omega) (by omega)]
  simpa using hx
 try dsimp only
 refine C5 (Fg ho hd (x:=rawInt (i:Int)) rfl ?_)
 show wpAny _ _ (setField (.ref it) 1 (rawInt ((i:Int) - 1)) >>= _) _ _ _
 refine C5 (Fo ho hd (by simp) ?_)
 refine Dm ⟨_,rfl,Dm (hQ _ _ _ ?_ (GM ..))⟩
 exact ⟨_,Ej _ ho (EG (Ey hd _)),(Hf ..).trans hc,by
  rw [Ey hd];simp⟩
theorem jm {it:Addr}{Q:Option Value→Shared→Prop}(hh:A.handled=none)(hit:s.heap.IsRvs it x t (-1))
  (hQ:∀ h',(∀ b o,b≠it→s.heap.get? b=some o→h'.get? b=some o)→Q none { s with heap:=h' }):wpAny (model prog w) A (pyNext (.ref it)) Q E s:=by
 obtain ⟨o,ho,hc,hd⟩:=id hit
 unfold pyNext
 refine C5 (Hn (wpAny_callSpecial?_slot (name:=Str.ofString "__next__") hit.typeIs F.slot_rvs_next
  (FN F.slot_rvs_next hit.typeIs F.entry_rvs_next ?_ (F.args_rvs_next _))))
 unfold Builtin.«reversed.__next__»
 refine C5 (GL (a:=(Value.ref it,[])) rfl ?_)
 try dsimp only
 refine C5 (Fg ho hd (x:=.str x t) rfl ?_)
 refine C5 (Fg ho hd (x:=rawInt (-1)) rfl ?_)
 show wpAny _ _ (if (-1:Int) < 0 then _ else _) _ _ s
 rw [if_pos (by decide)]
 refine C5 (Fp ?_)
 refine C5 ?_
 show wpAny _ _ (setField (.ref it) 1 (rawInt (-1)) >>= fun _=>setField (.ref it) 0 .none) _ _ s
 refine C5 (Fo ho hd (by simp) ?_)
 have ho2:=Ej (Obj.mapFields fun a=>a.setIfInBounds 1 (rawInt (-1))) ho (EG (Ey hd _))
 have hd2:=Ey hd fun a=>a.setIfInBounds 1 (rawInt (-1))
 refine Fo ho2 hd2 (by simp) ?_
 generalize hh2:(s.heap.update it _).update it _=h2
 have kk:∀ b o,b≠it→s.heap.get? b=some o→h2.get? b=some o:=fun b o hb e=>by
  rw [← hh2]
  exact (DR _ _ (Ne.symm hb)).trans ((DR _ _ (Ne.symm hb)).trans e)
 have hz:A.in1.handled=none:=hh
 have sub:=isSubtype_stop
 repeat (any_goals (first | assumption | wp_step))
 unfold raiseNew
 refine C5 (wpAny_handled ?_)
 rw [hz]
 refine C5 (Dm (wpAny_throw ?_))
 refine C5 (wpAny_isInstance (T:="StopIteration") (b:=true) ?_ sub (Dm (hQ _ fun b o hb e=>?_)))
 ·exact ⟨_,Dv _ rfl,rfl⟩
 exact C6 _ (C6 _ (kk b o hb e))
theorem ox (hh:A.handled=none)(it:Addr)(x:Str)(t:Tok)(h63:(x.cps.size:Int) < 2 ^ 63) :
  Walks prog w A it [it] [it] x.cps.size (fun i v=>∃ c u,x.cps[x.cps.size - 1 - i]? = some c∧v = .str ⟨#[c]⟩ u) (fun i h=>i≤x.cps.size∧h.IsRvs it x t ((x.cps.size:Int) - 1 - (i:Int))) where
 sub:=fun _ hb=>hb
 frame:=fun _ _ _ st hk=>let ⟨l,o,ho,r⟩:=st;⟨l,o,hk it (by simp) o ho,r⟩
 item:=fun i s Q E hi y hQ=>by
  have e:(x.cps.size:Int) - 1 - (i:Int)=((x.cps.size - 1 - i:Nat):Int):=by omega
  have hit:=y.2
  rw [e] at hit
  have hx:x.cps[x.cps.size - 1 - i]? = some (x.cps[x.cps.size - 1 - i]'(by omega)):=FK (by omega)
  refine ij hit hx (by omega) fun h' tk u hit' hs'=>?_
  have e2:((x.cps.size - 1 - i:Nat):Int) - 1=(x.cps.size:Int) - 1 - ((i+1:Nat):Int):=by omega
  rw [e2] at hit'
  exact hQ _ h' tk ⟨_,u,hx,rfl⟩ ⟨hi,hit'⟩ fun b o hb eo=>hs'.extBut b o (fun h=>hb (by simp [h])) eo
 done:=fun s Q E y hQ=>by
  have e:(x.cps.size:Int) - 1 - (x.cps.size:Int) = -1:=by omega
  have hit:=y.2
  rw [e] at hit
  exact jm hh hit fun h' he'=>hQ h' s.toks fun b o hb eo=>he' b o (fun h=>hb (by simp [h])) eo
 self:=fun _ _ _ _ y hQ=>ig y.2 hQ
end
end PySem
namespace L2
open PySem PySem.Spec PyProof.Rows
def Au (z:Str):It:=⟨fun i _=>i < z.cps.size,fun i H x H'=>H'=H∧∃ c,z.cps[z.cps.size - 1 - i]? = some c∧x = .str ⟨#[c]⟩,fun i _=>i=z.cps.size⟩
section
variable {X:Cx} {tg:Expr}
def A2 (ta:TA):TI:=fun σ H R=>ta σ H fun vs H1=>∃ z,vs=[.str z]∧z.length≤sizeLine∧R (Au z) H1
theorem oy {a:Expr}{ta:TA}{p pos:Pos}(hg:Gl X "reversed")(hm:X.mg "reversed" = none)(hb:bootBuiltins "reversed" = some (.type "reversed"))(ha:PA X [a] ta)(hs:starEach [a] X.env=[(false,eval a X.env)]:=by rfl) :
  PI X tg (.Call (.Name "reversed" p) [a] [] pos) (A2 ta):=by
 intro pins s σ H R I h
 refine Call_ (i4 I hg hm hb (ET (thn (ha pos pins s σ H _ I h) fun us s1 zq1=>?_) hs rfl))
 obtain ⟨vs,H1,I1,r1,q1⟩:=zq1
 obtain ⟨z,rfl,hz,q⟩:=q1
 obtain ⟨u,rfl,t,rfl⟩:=cT r1
 have hn:=e8
 have hsz:z.cps.size=z.length:=rfl
 refine wt I1.low (jl (by omega) fun tk hl=>?_)
 have hit:Heap.IsRvs (s1.heap.push { cls:=.type "reversed",data:=.fields #[.str z t,rawInt ((z.length:Int) - 1)] }) s1.heap.objs.size z t ((z.length:Int) - 1):=⟨_,Dv _ rfl,rfl,rfl⟩
 refine ig (s:={ s1 with heap:=s1.heap.push { cls:=.type "reversed",data:=.fields #[.str z t,rawInt ((z.length:Int) - 1)] },toks:=tk }) hit ?_
 refine ⟨s1.heap.objs.size,[s1.heap.objs.size],_,Au z,H1,rfl,(I1.kept (t':=tk) fun b o e=>C6 _ e).up hl,
  bD (T:="reversed") (fl:=fun i=>#[.str z t,rawInt ((z.cps.size:Int) - 1 - (i:Int))]) (fun A hh=>ox hh _ z t (by omega)) (fun i h st=>st.2) (by decide) (fun i H g=>g) (fun i H g=>g)
   (fun i H u _ ⟨c,t',e,eu⟩=>⟨.str ⟨#[c]⟩,⟨t',eu⟩,rfl,c,e,rfl⟩) (fun A i s Q E st h=>ig st.2 h),⟨D2 _,by simpa [hsz] using hit⟩,fun b hb=>?_,q⟩
 have e:b=s1.heap.objs.size:=by simpa using hb
 subst e
 exact I1.fpOk (Da _) (I1.hok.fresh (Da _))
structure DTx (K:PySem.W.Frag) (w:World) (a:Addr):Prop where
 ob:∃ (es:Array DictEntry) (n:Nat),K.lookup a=some ⟨.type "dict",none,.dict es n,#[]⟩∧PySem.W.KeysLit w.params es.toList
theorem rK {a:Addr}(D:DTx X.K X.w a):IxR X (fun x y H Q=>∃ z z' t,x = .ref a∧y = .str z∧PySem.W.nsIn X.K a z=some (some (.str z' t))∧Q (.str z') H):=by
 intro value slice pins s σ H x y v u Q I rx ry h hs
 obtain ⟨z,z',t',rfl,rfl,e,q⟩:=h
 cases rx
 obtain ⟨t,rfl⟩:=ry
 obtain ⟨es,n,hl,hk⟩:=D.ob
 obtain ⟨m,F⟩:=I.fr
 exact PySem.W.topItem_K F I.ok.mod.kin hl hk e ⟨.str z',H,I.tok _,⟨_,rfl⟩,q⟩ hs
def rL (K:PySem.W.Frag)(a:Addr)(Q:VK):V→Hp→Prop:=fun y H1=>∃ z z' t,y = .str z∧PySem.W.nsIn K a z=some (some (.str z' t))∧Q (.str z') H1
def A3 (K:PySem.W.Frag)(a:Addr)(ti:TE):TE:=fun σ H Q=>ti σ H (rL K a Q)
theorem u_ {K:PySem.W.Frag}{w:World}{a:Addr}{x:Str}{i:Expr}{ti:TE}{p pos:Pos}(D:DTx K w a)(hK:X.K=K)(hw:X.w=w)(hg:Gl X x)(hm:X.mg x=some (.ref a))(hi:PE X i ti)(hs:jT i)
  (hd:(x == ("__debug__":Str))=false:=by decide):PE X (.Subscript (.Name x p) i pos) (A3 K a ti):=by
 subst hK hw
 intro pins s σ H Q I h
 refine HJ (c9 I hg hm (thn (hi pins s σ H _ I h) fun u s2 zq2=>?_) hd)
 obtain ⟨y,H2,I2,ry,z,z',t',e1,e2,q⟩:=zq2
 exact rK D _ _ pins s2 σ H2 (.ref a) y (.ref a) u Q I2 rfl ry ⟨z,z',t',rfl,e1,e2,q⟩ (hs _ _)
end
end L2
namespace Wd
abbrev L:=Fin 12
def inv (x:L):L:=if h:x.val < 6 then ⟨x.val+6,by omega⟩ else ⟨x.val - 6,by omega⟩
theorem aT:∀ x:L,inv (inv x)=x:=by decide
theorem cC:∀ x:L,inv x≠x:=by decide
def bk (w:List L):List L:=(w.map inv).reverse
theorem oz (u v:List L):bk (u++v)=bk v++bk u:=by simp [bk]
theorem cD (w:List L):(bk w).length=w.length:=by simp [bk]
theorem c7 (x:L):bk [x]=[inv x]:=rfl
def push (st:List L)(x:L):List L:=match st with
 | []=>[x]
 | y::r=>if y=inv x then r else x::y::r
def act (w:List L)(st:List L):List L:=w.foldl push st
theorem k7 (x:L)(w st:List L):act (x::w) st=act w (push st x):=rfl
theorem mS (u v st:List L):act (u++v) st=act v (act u st):=by simp [act,List.foldl_append]
theorem rM (u:List L)(x:L)(st:List L):act (u++[x]) st=push (act u st) x:=by rw [mS]; rfl
def Rd:List L→Prop
 | []=>True
 | [_]=>True
 | x::y::r=>y≠inv x∧Rd (y::r)
theorem Rd.tail:∀ {x:L} {r:List L},Rd (x::r)→Rd r
 | _,[],_=>trivial
 | _,_::_,h=>h.2
theorem va {st:List L}(x:L)(h:Rd st):Rd (push st x):=by
 cases st with
 | nil=>trivial
 | cons y r =>
  show Rd (if y=inv x then r else x::y::r)
  split
  ·exact h.tail
  ·rename_i hn
   exact ⟨hn,h⟩
theorem tT:∀ (w:List L) {st:List L},Rd st→Rd (act w st)
 | [],_,h=>h
 | x::w,st,h=>tT w (va x h)
def red (w:List L):List L:=(act w []).reverse
theorem yw:Rd []:=trivial
theorem j2 (st:List L)(x:L):(push st x).length≤st.length+1:=by
 cases st with
 | nil=>simp [push]
 | cons y r =>
  show (if y=inv x then r else x::y::r).length≤_
  split
  ·simp only [Ds];omega
  ·simp
theorem dU:∀ (w st:List L),(act w st).length≤st.length+w.length
 | [],_=>by simp [act]
 | x::w,st=>by
  have:=dU w (push st x)
  have:=j2 st x
  rw [k7,Ds]
  omega
theorem mT (w:List L):(red w).length≤w.length:=by
 have:=dU w []
 simpa [red] using this
def rep:Nat→List L→List L
 | 0,_=>[]
 | n+1,w=>rep n w++w
theorem ik (w:List L):∀ n,rep n w++w=w++rep n w
 | 0=>by simp [rep]
 | n+1=>by
  show (rep n w++w)++w=w++(rep n w++w)
  rw [← Dh,← ik w n]
theorem gq (w:List L):∀ n,(rep n w).length=n*w.length
 | 0=>by simp [rep]
 | n+1=>by
  show (rep n w++w).length=_
  rw [C8,gq w n,Nat.succ_mul]
def pw (w:List L)(n:Int):List L:=rep n.natAbs (if n < 0 then bk w else w)
end Wd
namespace L2
open PySem PySem.Spec PyProof.Rows Wd
def cp (x:L):Nat:=if x.val < 6 then 97+x.val else 59+x.val
theorem rN:∀ x:L,cp x < 128:=by decide
theorem oA:∀ x y:L,cp x=cp y→x=y:=by decide
def toS (w:List L):Str:=⟨(w.map cp).toArray⟩
def tx (w:List L):V:=.str (toS w)
theorem a_ (w:List L):(toS w).cps.toList=w.map cp:=by simp [toS]
theorem ae (w:List L):(toS w).length=w.length:=by simp [toS,Str.length]
theorem aZ (w:List L):(toS w).cps.size=w.length:=by simp [toS]
theorem bW (u v:List L):toS u++toS v=toS (u++v):=by
 apply Str.ext'
 rw [Str.cps_append]
 simp [toS]
theorem dW:∀ {u v:List L},u.map cp=v.map cp→u=v
 | [],[],_=>rfl
 | [],_::_,h=>by simp at h
 | _::_,[],h=>by simp at h
 | x::u,y::v,h=>by
  simp only [DQ,HF] at h
  rw [oA x y h.1,dW h.2]
theorem il {u v:List L}(h:toS u=toS v):u=v:=by
 have:(toS u).cps.toList=(toS v).cps.toList:=by rw [h]
 rw [a_,a_] at this
 exact dW this
theorem k8 {u v:List L}(h:tx u=tx v):u=v:=il (V.str.inj h)
theorem vb:toS []=("":Str):=by decide +kernel
theorem k9:tx []=V.str ("":Str):=DH V.str vb
theorem oB (u v:List L):decide (tx u=tx v)=decide (u=v):=by
 by_cases h:u=v
 ·subst h;simp
 ·rw [C7 h,C7 fun e=>h (k8 e)]
theorem vc:toS [0,1,2,3,4,5]=("abcdef":Str):=by decide +kernel
theorem big:toS [6,7,8,9,10,11]=("ABCDEF":Str):=by decide +kernel
theorem cb {w:List L}{i c:Nat}(h:(toS w).cps[i]? = some c):∃ x,w[i]? = some x∧(⟨#[c]⟩:Str)=toS [x]:=by
 have h:((w.map cp).toArray)[i]? = some c:=h
 rw [List.getElem?_toArray,DG] at h
 cases e:w[i]? with
 | none=>rw [e] at h;cases h
 | some x =>
  rw [e] at h
  have:cp x=c:=Dp h
  exact ⟨x,rfl,by rw [← this];rfl⟩
theorem fj {w:List L}{k:Nat}{x:L}{i:Int}(hk:i=(k:Int))(h:w[k]? = some x):atI (toS w).cps.toList i=some (cp x):=by
 subst hk
 rw [a_]
 obtain ⟨hl,e⟩:=Dd.mp h
 unfold atI ixN
 rw [if_pos (by omega),if_pos (by rw [C4];omega)]
 show (w.map cp)[((k:Nat):Int).toNat]? = _
 rw [DK,DG,h]
 rfl
def oE (w:List L)(lo hi:Option Int):List L:=(w.drop (HT.sIx w.length 0 lo)).take (HT.sIx w.length w.length hi - HT.sIx w.length 0 lo)
theorem vd (lo hi:Option Int)(n:Nat):Builtin.Str.strSliceIndices lo hi 1 n=(List.range (HT.sIx n n hi - HT.sIx n 0 lo)).map (fun k=>HT.sIx n 0 lo+k):=by
 have cl:∀ v:Int,max (0:Int) (min (if v < 0 then v+(n:Int) else v) (n:Int))=(((if v < 0 then (v+(n:Int)).toNat else min v.toNat n):Nat):Int):=fun v=>by
  by_cases hv:v < 0
  ·simp only [if_pos hv];omega
  ·simp only [if_neg hv];omega
 have fin:∀ a b:Nat,sliceRange (a:Int) (b:Int) 1=(List.range (b - a)).map (fun k=>a+k):=fun a b=>by
  unfold sliceRange
  simp only [show ((1:Int) > 0)=True from by simp,Fe]
  by_cases hlt:(a:Int) < b
  ·have e3:(((b:Int) - a+1 - 1) / 1).toNat=b - a:=by first | omega | (simp;done) | (simp;omega)
   simp only [hlt,Fe,e3]
   exact ED fun k _=>by omega
  ·have:b - a=0:=by omega
   simp [hlt,this]
 unfold Builtin.Str.strSliceIndices
 simp only [show ((1:Int) > 0)=True from by simp,Fe]
 cases lo with
 | none =>
  cases hi with
  | none=>exact fin 0 n
  | some j=>simp only [cl];exact fin 0 _
 | some i =>
  cases hi with
  | none=>simp only [cl];exact fin _ n
  | some j=>simp only [cl];exact fin _ _
theorem bp (w:List L)(lo hi:Option Int):Txt.slice (toS w) lo hi=toS (oE w lo hi):=by
 have h1:=HT.tJ w.length 0 (D2 _) lo
 have h2:=HT.tJ w.length w.length (Da _) hi
 unfold Txt.slice
 rw [vd,ae]
 split
 ·rename_i h
  have hl:HT.sIx w.length w.length hi - HT.sIx w.length 0 lo=w.length:=by simpa using h
  have e:oE w lo hi=w:=by
   unfold oE
   rw [hl]
   have ha:HT.sIx w.length 0 lo=0 ∨ w.length=0:=by omega
   rcases ha with ha | ha
   ·rw [ha,HN,EB]
   ·have:w=[]:=D3 ha
    subst this
    simp
  rw [e]
 ·apply Str.ext'
  show (List.filterMap _ _).toArray=_
  have e:=StrLaws.picks (w.map cp) (HT.sIx w.length w.length hi - HT.sIx w.length 0 lo) (HT.sIx w.length 0 lo)
  by_cases hle:HT.sIx w.length 0 lo≤HT.sIx w.length w.length hi
  ·have e:=e (by rw [C4];omega)
   have e2:(fun k:Nat=>(toS w).cps[k]?)=fun k:Nat=>(w.map cp)[k]?:=funext fun k=>by simp [toS]
   rw [e2,e]
   simp [toS,oE,List.map_take,List.map_drop]
  ·have z:HT.sIx w.length w.length hi - HT.sIx w.length 0 lo=0:=by omega
   rw [z]
   simp [toS,oE,z]
theorem fk (w:List L){n:Int}(h:0≤n):oE w none (some n)=w.take n.toNat:=by
 obtain ⟨k,rfl⟩:=D1 h
 unfold oE
 rw [HT.gR,HT.e_,HN,HY,DK]
 by_cases hk:k≤w.length
 ·rw [Nat.min_eq_left hk]
 ·rw [Nat.min_eq_right (by omega),EB,D6 (by omega)]
theorem rO (w:List L){n:Int}(h:0≤n):oE w (some n) none=w.drop n.toNat:=by
 obtain ⟨k,rfl⟩:=D1 h
 unfold oE
 rw [HT.gR,HT.e_,DK]
 by_cases hk:k≤w.length
 ·rw [Nat.min_eq_left hk,D6 (by rw [Gy];omega)]
 ·rw [Nat.min_eq_right (by omega),Hv,HB (by omega)]
  simp
theorem oF (w:List L):Txt.upper (toS w)=⟨((w.map cp).map up1).toArray⟩:=by
 rw [upper_ascii fun c hc=>by rw [a_] at hc;obtain ⟨x,_,rfl⟩:=DN.mp hc;exact rN x]
 simp [toS]
theorem fm (w:List L):Txt.lower (toS w)=⟨((w.map cp).map lo1).toArray⟩:=by
 rw [lower_ascii fun c hc=>by rw [a_] at hc;obtain ⟨x,_,rfl⟩:=DN.mp hc;exact rN x]
 simp [toS]
theorem A4:∀ x:L,x.val < 6→up1 (cp x)=cp (inv x):=by decide
theorem A5:∀ x:L,¬ x.val < 6→lo1 (cp x)=cp (inv x):=by decide
theorem dw {x:L}(h:x.val < 6):Txt.upper (toS [x])=toS [inv x]:=by
 rw [oF]
 show (⟨#[up1 (cp x)]⟩:Str)=⟨#[cp (inv x)]⟩
 rw [A4 x h]
theorem jo {x:L}(h:¬ x.val < 6):Txt.lower (toS [x])=toS [inv x]:=by
 rw [fm]
 show (⟨#[lo1 (cp x)]⟩:Str)=⟨#[cp (inv x)]⟩
 rw [A5 x h]
theorem ex1:∀ x:L,cp x∈List.map cp [0,1,2,3,4,5]→x.val < 6:=by decide
theorem ex2:∀ x:L,x.val < 6→(List.map cp [0,1,2,3,4,5])[x.val]? = some (cp x):=by decide
theorem rP (x:L):(!(Builtin.Str.occurrences ("abcdef":Str) (toS [x]) 0 ("abcdef":Str).length 1).isEmpty)=decide (x.val < 6):=by
 have h:=StrLaws.found_iff ("abcdef":Str) (toS [x])
 have e:(∃ i,i+(toS [x]).length≤("abcdef":Str).length∧Builtin.Str.subAt ("abcdef":Str) (toS [x]) i=true) ↔ x.val < 6:=by
  have e2:∀ i,(i+(toS [x]).length≤("abcdef":Str).length∧Builtin.Str.subAt ("abcdef":Str) (toS [x]) i=true) ↔ ("abcdef":Str).cps.toList[i]? = some (cp x):=fun i=>StrLaws.subAt_one _ _ _
  rw [show (("abcdef":Str))=toS [0,1,2,3,4,5] from vc.symm] at e2 ⊢
  constructor
  ·rintro ⟨i,hi⟩
   have hi:=(e2 i).mp hi
   rw [a_] at hi
   exact ex1 x (DP hi)
  ·intro hx
   refine ⟨x.val,(e2 x.val).mpr ?_⟩
   rw [a_]
   exact ex2 x hx
 rw [DT,h,e,Dl]
theorem rQ:∀ w:List L,Txt.join ("":Str) (w.map fun x=>toS [x])=toS w:=by
 intro w
 have e0:("":Str)=Str.empty:=by decide +kernel
 unfold Txt.join
 rw [StrLaws.glued_eq_join,e0]
 induction w with
 | nil=>rfl
 | cons x r ih =>
  cases r with
  | nil=>rfl
  | cons y r =>
   show toS [x]++Str.empty++Str.join Str.empty ((y::r).map fun x=>toS [x])=_
   rw [ih,Str.append_empty,bW]
   rfl
theorem ve (w:List L):((w.map fun x=>toS [x]).map (·.length)).sum=w.length:=by
 induction w with
 | nil=>rfl
 | cons x r ih =>
  simp only [DQ,List.sum_cons,Ds]
  rw [ih,ae]
  simp only [DX]
  omega
theorem eF (w:List L):∀ (n:Nat) (acc:Array Nat),(List.replicate n (toS w).cps).foldl (· ++ ·) acc=acc++((rep n w).map cp).toArray
 | 0,acc=>by simp [rep]
 | n+1,acc=>by
  rw [EU,HD,eF w n]
  show _=acc++((rep n w++w).map cp).toArray
  rw [ik]
  simp [toS]
theorem oH:∀ n,rep n ([]:List L)=[]
 | 0=>rfl
 | n+1=>by show rep n []++[]=[];rw [oH n];rfl
theorem vf (w:List L)(n:Int):Txt.mul (toS w) n=toS (rep n.toNat w):=by
 unfold Txt.mul
 by_cases h1:n < 1
 ·rw [if_pos h1]
  have:n.toNat=0:=by omega
  rw [this]
  rfl
 ·rw [if_neg h1]
  split
  ·rename_i h
   rw [ae] at h
   simp only [Bool.or_eq_true,HX] at h
   rcases h with h | h
   ·subst h
    show toS w=toS (rep 1 w)
    show toS w=toS ([]++w)
    rfl
   ·have:w=[]:=D3 h
    subst this
    rw [oH]
  ·apply Str.ext'
   show (List.replicate n.toNat (toS w).cps).foldl (· ++ ·) #[]=_
   rw [eF]
   simp [toS]
theorem oI (w:List L){n:Int}(h1:-1000000≤n)(h2:n≤1000)(hw:w.length≤10000):MulOk (toS w) n:=by
 refine ⟨?_,fun hn _=>?_,fun hn _=>?_⟩
 ·have e1:decide (n < -(2 ^ 63:Int))=false:=C7 (by omega)
  have e2:decide (n≥2 ^ 63)=false:=C7 (by omega)
  rw [e1,e2,HU]
 ·rw [ae]
  have hn1:1≤n:=by omega
  have q:(9223372036854775:Int)≤(2 ^ 63 - 1) / n:=by
   rw [Int.le_ediv_iff_mul_le (by omega)]
   omega
  omega
 ·rw [ae]
  unfold Builtin.Str.tooLong
  have e:sizeLine=16777216:=E9
  obtain ⟨k,rfl⟩:=D1 (show 0≤n by omega)
  have hk:k≤1000:=by omega
  rw [DK]
  have q:w.length*k≤10000*1000:=Nat.mul_le_mul hw hk
  exact C7 (by omega)
structure Fnc (P:Program) (w:World) (K:PySem.W.Frag) (mg:Str→Option Value) (base:Heap) (x:Str) (ps:List Str) (k:Nat) (sp:Sp):Prop where
 ex:∃ (f:Addr) (fd:FuncData),mg x=some (.ref f)∧PySem.W.keepIn K (.ref f)=true∧dS K fd ps []∧qS P w K mg base CX0 k f fd ps sp
theorem aF {X:Cx}{x:Str}{ps:List Str}{k j:Nat}{sp:Sp}{e:Expr}{es:List Expr}{t:TA}{p pos:Pos}(F:Fnc X.prog X.w X.K X.mg X.base x ps j sp)(hr:cL k X.A)(hj:j≤k)(hg:Gl X x)(ha:PA X (e::es) t)
  (hdb:(x == ("__debug__":Str))=false:=by decide) (he:starEach (e::es) X.env=(false,eval e X.env)::starEach es X.env:=by rfl) (hpl:(backTo pos (starEach es X.env)).any (·.1)=false:=by rfl) :
  PE X (.Call (.Name x p) (e::es) [] pos) (uV sp [] E0 t):=by
 obtain ⟨f,fd,hm,hk,hb,F⟩:=F.ex
 exact nU F (hr.mono hj) hg hm hk hb .nil A0 ha hdb he hpl
structure Df (K:PySem.W.Frag) (mg:Str→Option Value) (x:Str) (st:Stmt):Prop where
 ex:∃ (f:Addr) (fd:FuncData),mg x=some (.ref f)∧Fun K x x st f fd
theorem Df.ok {P:Program}{w:World}{K:PySem.W.Frag}{mg:Str→Option Value}{base:Heap}{x:Str}{st:Stmt}{N ps:List Str}{k:Nat}{sp:Sp}(D:Df K mg x st)(S:ax N ps (ai st))
  (hb:∀ (kV doc pm:Value) (an:Option Addr) (cdv ct:Value) (us:List Value),us.length=ps.length→bindArgs (PySem.W.fnOf x x (bo st) (aY st) (ai st) .none kV doc pm an cdv ct) ⟨us,[]⟩=pure (ps.zip us))
  (len:∀ vs H Q E,sp vs H Q E→vs.length=ps.length)
  (hbody:∀ (f:Addr) (cdv:Value) (A:Around) (outer:List Env) (s:Shared) (H:Hp) (vs:List V) (Q:VK) (E:XK),cL k (A.deeper (envOfC x (ai st) s.heap.objs.size f cdv))→sp vs H Q E →
   ∃ t,PSs (gP CX0 P w K mg base N x (ai st) f cdv A outer s H E).nox (aY st) t∧t { nx:=fun _ H'=>Q .non H',rt:=Q } (start N vs) H):Fnc P w K mg base x ps (k+1) sp:=by
 obtain ⟨f,fd,hm,F⟩:=D.ex
 exact ⟨f,fd,hm,F.kp,F.binds hb,F.ok S len fun cdv A outer s H vs Q E hr h=>hbody f cdv A outer s H vs Q E hr h⟩
def bL (d:Addr)(H H':Hp):Prop:=∀ b o,b≠d→H b=some o→H' b=some o
theorem bL.refl (d:Addr)(H:Hp):bL d H H:=fun _ _ _ h=>h
theorem bL.trans {d:Addr}{H H1 H2:Hp}(a:bL d H H1)(b:bL d H1 H2):bL d H H2:=fun c o n h=>b c o n (a c o n h)
theorem aA.b {d:Addr}{H H':Hp}(a:aA H H'):bL d H H':=fun b o _ h=>a b o h
theorem aA.new {H:Hp}{a:Addr}{o:HO}(h:H a=none):aA H (upd H a o):=fun b u e=>by rw [ay (aD e h)]; exact e
theorem bL.upd {d:Addr}{H:Hp}{o:HO}:bL d H (upd H d o):=fun b u n e=>by rw [ay n]; exact e
theorem aA.then {H H1:Hp}{a:Addr}{o:HO}(s:aA H H1)(h:H1 a=none):aA H (L2.upd H1 a o):=s.trans (aA.new h)
def kS (x:Str):Key:=.inr x
def fkv (c:Addr)(i l t:Int):List (Key × V):=[(kS "cells",.ref c),(kS "at",.int i),(kS "left",.int l),(kS "turn",.int t)]
theorem A6:¬ (kS "cells" = kS "at"):=by decide +kernel
theorem A7:¬ (kS "cells" = kS "left"):=by decide +kernel
theorem A8:¬ (kS "cells" = kS "turn"):=by decide +kernel
theorem Av:¬ (kS "at" = kS "left"):=by decide +kernel
theorem Aw:¬ (kS "at" = kS "turn"):=by decide +kernel
theorem Ax:¬ (kS "left" = kS "turn"):=by decide +kernel
theorem eQ {κ:Type}[DecidableEq κ]{k:κ}{v:V}{r:List (κ × V)}:eK ((k,v)::r) k=some v:=by unfold eK; simp
theorem bX {κ:Type}[DecidableEq κ]{k k':κ}{v:V}{r:List (κ × V)}(h:¬ k'=k):eK ((k',v)::r) k=eK r k:=by unfold eK; simp [h]
theorem oJ (c:Addr)(i l t:Int):eK (fkv c i l t) (kS "cells")=some (.ref c):=eQ
theorem Ca (c:Addr)(i l t:Int):eK (fkv c i l t) (kS "at")=some (.int i):=(bX A6).trans eQ
theorem jq (c:Addr)(i l t:Int):eK (fkv c i l t) (kS "left")=some (.int l):=(bX A7).trans ((bX Av).trans eQ)
theorem oK (c:Addr)(i l t:Int):eK (fkv c i l t) (kS "turn")=some (.int t):=(bX A8).trans ((bX Aw).trans ((bX Ax).trans eQ))
theorem CI:¬ (kS "turn" = kS "at"):=fun e=>Aw e.symm
theorem CJ:¬ (kS "left" = kS "at"):=fun e=>Av e.symm
theorem CK:¬ (kS "turn" = kS "left"):=fun e=>Ax e.symm
theorem CL (c:Addr)(i l t z:Int):eD (fkv c i l t) (kS "at") (.int z)=fkv c z l t:=by simp [eD,fkv,A6,CJ,CI]
theorem oM (c:Addr)(i l t z:Int):eD (fkv c i l t) (kS "left") (.int z)=fkv c i z t:=by simp [eD,fkv,A7,Av,CK]
theorem yz (c:Addr)(i l t z:Int):eD (fkv c i l t) (kS "turn") (.int z)=fkv c i l z:=by simp [eD,fkv,A8,Aw,Ax]
theorem fo (c:Addr)(i l t:Int):(fkv c i l t).length < sizeLine:=by show 4 < sizeLine; decide
theorem A9 (c:Addr)(i l t:Int):fg [] (fkv c i l t)=fkv c i l t:=by simp [fg,eD,fkv,A6,A7,A8,Av,Aw,Ax]
structure Fd (H:Hp) (d:Addr):Prop where
 ex:∃ (c:Addr) (i l t:Int) (ns:List Int),H d=some (.dK (fkv c i l t))∧H c=some (.lst (ns.map V.int))∧ns≠[]∧ns.length≤64
theorem Fd.same {H H':Hp}{d:Addr}(F:Fd H d)(s:aA H H'):Fd H' d:=by
 obtain ⟨c,i,l,t,ns,h1,h2,h3,h4⟩:=F.ex
 exact ⟨c,i,l,t,ns,s _ _ h1,s _ _ h2,h3,h4⟩
theorem Fd.new {H:Hp}{d a:Addr}{o:HO}(F:Fd H d)(h:H a=none):Fd (upd H a o) d:=F.same (aA.new h)
theorem Fd.ne {H:Hp}{d a:Addr}(F:Fd H d)(h:H a=none):a≠d:=by
 obtain ⟨c,i,l,t,ns,h1,h2,h3,h4⟩:=F.ex
 exact (aD h1 h).symm
theorem Fd.nl {H:Hp}{d a:Addr}{xs:List V}(F:Fd H d)(h:H a=some (.lst xs)):a≠d:=by
 obtain ⟨c,i,l,t,ns,h1,h2,h3,h4⟩:=F.ex
 exact q9 h h1 (by intro z;cases z)
inductive jr (vs:List V)(H:Hp)(Q:VK)(u3_:XK):Prop
 | mk:∀ (d:Addr) (m:Int),(vs=[.ref d,.int m])→(Fd H d)→(0 < m)→(m < 1000000)→(∀ (r:Int) (H':Hp),0≤r→r < m→Fd H' d→bL d H H'→Q (.int r) H')→jr vs H Q u3_
inductive oO (K:PySem.W.Frag)(vs:List V)(H:Hp)(Q:VK)(u3_:XK):Prop
 | mk:∀ (a:Addr) (ns:List Int),(vs=[.ref a])→(SqL K H a (ns.map V.int))→(ns.length≤63)→(∀ (d:Addr) (H':Hp),H d=none→Fd H' d→aA H H'→Q (.ref d) H')→oO K vs H Q u3_
theorem vg {ns:List Int}(h:ns≠[])(i:Int):∃ n:Int,atI (ns.map V.int) (i % ((ns.map V.int).length:Int))=some (.int n):=by
 have hl:0 < ns.length:=D4.mpr h
 rw [C4]
 have h0:=EV i (show (ns.length:Int)≠0 by omega)
 have h1:=Ez i (show (0:Int) < ns.length by omega)
 obtain ⟨k,hk⟩:=D1 h0
 rw [hk] at h1 ⊢
 have hk':k < ns.length:=by omega
 refine ⟨ns[k],?_⟩
 unfold atI ixN
 rw [if_pos (by omega),if_pos (by rw [C4];omega)]
 show (ns.map V.int)[((k:Nat):Int).toNat]? = _
 rw [DK,DG,fu hk']
 rfl
mutual
inductive Dt (H:Hp):V→PyData→Prop where
 | non:Dt H .non .none
 | bl (b:Bool):Dt H (.bl b) (.bool b)
 | int (i:Int):Dt H (.int i) (.int i)
 | str (x:Str):Dt H (.str x) (.str x)
 | lst {a:Addr} {xs:List V} {ds:List PyData}:H a=some (.lst xs)→Dts H xs ds→Dt H (.ref a) (.list ds)
 | tup {a:Addr} {xs:List V} {ds:List PyData}:H a=some (.tup xs)→Dts H xs ds→Dt H (.ref a) (.tuple ds)
inductive Dts (H:Hp):List V→List PyData→Prop where
 | nil:Dts H [] []
 | cons {v:V} {d:PyData} {vs:List V} {ds:List PyData}:Dt H v d→Dts H vs ds→Dts H (v::vs) (d::ds)
end
section
variable {P:Program} {w:World} {H:Hp} {h:Heap}
mutual
theorem Dt.reads (ok:HOk P w H h):∀ {v:V} {d:PyData},Dt H v d→∀ {u:Value},bf v u→∃ as,Reads h u d as
 | _,_,.non,u,r=>by cases r;exact ⟨_,.none⟩
 | _,_,.bl b,u,r=>by cases r;exact ⟨_,.bool b⟩
 | _,_,.int i,u,r=>by obtain ⟨t,rfl⟩:=r;exact ⟨_,.int i t⟩
 | _,_,.str x,u,r=>by obtain ⟨t,rfl⟩:=r;exact ⟨_,.str x t⟩
 | _,_,.lst e q,u,r=>by
  cases r
  obtain ⟨_,its,n,rv,g⟩:=ok _ _ e
  obtain ⟨as,ra⟩:=Dts.reads ok q rv
  exact ⟨_,.list g rfl rfl (by simpa using ra)⟩
 | _,_,.tup e q,u,r=>by
  cases r
  obtain ⟨_,its,rv,⟨ob,g,c,n,d⟩,_⟩:=ok _ _ e
  obtain ⟨as,ra⟩:=Dts.reads ok q rv
  exact ⟨_,.tuple g c d (by simpa using ra)⟩
theorem Dts.reads (ok:HOk P w H h):∀ {vs:List V} {ds:List PyData},Dts H vs ds→∀ {us:List Value},aV vs us→∃ as,ReadsAll h us ds as
 | _,_,.nil,_,r=>by cases r;exact ⟨_,.nil⟩
 | _,_,.cons q qs,_,r=>by
  cases r with
  | cons r rs =>
   obtain ⟨as,a1⟩:=Dt.reads ok q r
   obtain ⟨bs,a2⟩:=Dts.reads ok qs rs
   exact ⟨_,.cons a1 a2⟩
end
end
section
variable {X:Cx}
end
def yA (m:Str)(ys:List Str):Prop:=m∈ys∧∀ y∈ys,m.cps.toList≤y.cps.toList
def dX (ys:List Str)(i:Nat):Str:=ys.getD i Str.empty
def btS (ys:List Str)(i j:Nat):Bool:=decide ((dX ys i).cps.toList < (dX ys j).cps.toList)
theorem gs (ys:List Str):∀ k,argBest (btS ys) k≤k∧∀ j,j≤k→(dX ys (argBest (btS ys) k)).cps.toList≤(dX ys j).cps.toList
 | 0=>⟨Da _,fun j hj=>by
  have:j=0:=by omega
  subst this
  exact List.le_refl _⟩
 | k+1=>by
  obtain ⟨h1,h2⟩:=gs ys k
  have e:argBest (btS ys) (k+1)=if btS ys (k+1) (argBest (btS ys) k)=true then k+1 else argBest (btS ys) k:=rfl
  rw [e]
  by_cases h:btS ys (k+1) (argBest (btS ys) k)=true
  ·rw [if_pos h]
   have h:(dX ys (k+1)).cps.toList < (dX ys (argBest (btS ys) k)).cps.toList:=ES h
   refine ⟨Da _,fun j hj=>?_⟩
   by_cases e:j=k+1
   ·subst e;exact List.le_refl _
   ·exact List.le_trans (List.le_of_lt h) (h2 j (by omega))
  ·rw [if_neg h]
   have h:¬ (dX ys (k+1)).cps.toList < (dX ys (argBest (btS ys) k)).cps.toList:=fun z=>h (C_ z)
   refine ⟨by omega,fun j hj=>?_⟩
   by_cases e:j=k+1
   ·subst e;exact HR.mp h
   ·exact h2 j (by omega)
section
variable {X:Cx}
end
end L2
namespace Kx
open PySem PySem.Spec PyProof.Rows L2 Wd
theorem oP:bootBuiltins "list" = some (.type "list"):=by kernel_rfl
theorem vh:bootBuiltins "int" = some (.type "int"):=by kernel_rfl
theorem A_:bootBuiltins "max" = some (.builtin "max"):=by kernel_rfl
theorem Ba:bootBuiltins "min" = some (.builtin "min"):=by kernel_rfl
theorem rR:bootBuiltins "sorted" = some (.builtin "sorted"):=by kernel_rfl
theorem vi:bootBuiltins "tuple" = some (.type "tuple"):=by kernel_rfl
theorem gu:bootBuiltins "reversed" = some (.type "reversed"):=by kernel_rfl
structure Bt (K:PySem.W.Frag) (w:World) (mg:Str→Option Value) (aB:Addr):Prop where
 len:mg "len" = none
 repr:mg "repr" = none
 abs:mg "abs" = none
 max:mg "max" = none
 int:mg "int" = none
 list:mg "list" = none
 range:mg "range" = none
 reversed:mg "reversed" = none
 min:mg "min" = none
 sorted:mg "sorted" = none
 tuple:mg "tuple" = none
 isinstance:mg "isinstance" = none
 all:mg "all" = none
 str:mg "str" = none
 zip:mg "zip" = none
 mgB:mg "BACKS" = some (.ref aB)
 dB:DTx K w aB
 gB:∀ x:L,∃ t,PySem.W.nsIn K aB (toS [x])=some (some (.str (toS [inv x]) t))
theorem dg {H:Hp}{d:Addr}{kvs:List (Key × V)}{k:Str}{v:V}(h:H d=some (.dK kvs))(e:eK kvs (kS k)=some v):og H d (.str k) (some v):=by
 have q:=og.k (k:=kS k) h
 rw [e] at q
 exact q
theorem dp {H:Hp}{d:Addr}{kvs kvs':List (Key × V)}{k:Str}{v:V}(h:H d=some (.dK kvs))(hl:kvs.length < sizeLine)(e:eD kvs (kS k) v=kvs'):uZ H d (.str k) v (upd H d (.dK kvs')):=by
 have q:=uZ.k (k:=kS k) (v:=v) h hl
 rw [e] at q
 exact q
theorem Bb {ns:List Int}(h:ns.length≤63):nA (ns.map V.int) none (some 63)=ns.map V.int:=by
 unfold nA
 have e:HT.sIx (ns.map V.int).length (ns.map V.int).length (some 63)=(ns.map V.int).length:=by
  have:=HT.e_ (ns.map V.int).length (ns.map V.int).length 63
  rw [show ((63:Nat):Int)=63 from rfl] at this
  rw [this,C4]
  omega
 rw [e,HT.gR,HN,HY,EB]
def dz (w:List L):List V:=w.map fun x=>tx [x]
theorem ip (w:List L):dz w=(w.map fun x=>toS [x]).map V.str:=by unfold dz; rw [D9]; rfl
theorem dA (w:List L)(x:L):dz w++[tx [x]]=dz (w++[x]):=by unfold dz; rw [DU]; rfl
theorem aO (w:List L):(dz w).length=w.length:=by unfold dz; rw [C4]
theorem fq (w:List L):V.str (Txt.join ("":Str) (w.map fun x=>toS [x]))=tx w:=DH V.str (rQ w)
theorem ft (w:List L)(h:w.length≤1000000):((w.map fun x=>toS [x]).map (·.length)).sum+(w.map fun x=>toS [x]).length*("":Str).length≤16777216:=by
 have e:("":Str).length=0:=by decide +kernel
 rw [e,ve]
 omega
theorem aQ:sizeLine=16777216:=E9
inductive k_ (vs:List V)(H:Hp)(Q:VK)(u3_:XK):Prop
 | mk:∀ w,(vs=[tx w])→(w.length≤5000)→(∀ H',aA H H'→Q (tx (bk w)) H')→k_ vs H Q u3_
inductive vj (vs:List V)(H:Hp)(Q:VK)(u3_:XK):Prop
 | mk:∀ w,(vs=[tx w])→(w.length≤5000)→(∀ H',aA H H'→Q (tx (red w)) H')→vj vs H Q u3_
theorem eG (u v:List L):V.str (toS u++toS v)=tx (u++v):=DH V.str (bW u v)
def sg (m:Int):List L:=([0,1,2,3,4,5]:List L).take m.toNat++([6,7,8,9,10,11]:List L).take m.toNat
theorem oQ {m:Int}(h1:1≤m)(h2:m≤6):(sg m).length=2*m.toNat:=by
 unfold sg
 rw [C8,Dw,Dw]
 simp only [Ds,D8]
 omega
theorem rS {m:Int}(h1:1≤m):V.str (Txt.slice ("abcdef":Str) none (some m)++Txt.slice ("ABCDEF":Str) none (some m))=tx (sg m):=by
 rw [← vc,← big,bp,bp,fk _ (by omega),fk _ (by omega),eG]
 rfl
theorem lh:("abcdef":Str).length=6:=by decide +kernel
theorem tU:("ABCDEF":Str).length=6:=by decide +kernel
theorem yB (u:List L){i:Nat}{y:L}(hi:i < u.length)(h:u[u.length - 1 - i]? = some y):(bk u)[i]? = some (inv y):=by
 unfold bk
 rw [List.getElem?_reverse (by rw [C4];exact hi),C4,DG,h]
 rfl
theorem bY {u:List L}{i:Nat}{x:L}(h:u[i]? = some x):u.take (i+1)=u.take i++[x]:=by
 obtain ⟨hl,e⟩:=Dd.mp h
 rw [FC,h]
 rfl
theorem nB {c:Bool}{A B:Prop}(hc:c=true)(h:A):if c=true then A else B:=by rw [if_pos hc]; exact h
theorem tV {c:Bool}{A B:Prop}(hc:c=false)(h:B):if c=true then A else B:=by rw [hc]; exact tP h
theorem two_at (x:L){q:Int}(h0:0≤q)(h2:q < 2):∃ y:L,atI [tx [x],tx [inv x]] q=some (tx [y]):=by
 have:q=0 ∨ q=1:=by omega
 rcases this with rfl | rfl
 ·exact ⟨x,rfl⟩
 ·exact ⟨inv x,rfl⟩
def dws (ws:List (List L)):List PyData:=ws.map fun w=>.str (toS w)
theorem j3 {H:Hp}:∀ (ws:List (List L)),Dts H (ws.map tx) (dws ws)
 | []=>.nil
 | w::r=>.cons (.str (toS w)) (j3 r)
end Kx
namespace L2
open PySem PySem.Spec PyProof.Rows Wd
section
variable {X:Cx} {tg:Expr}
end
section
variable {X:Cx} {o e:Expr} {es:List Expr} {to:TE} {t:TA} {name:Str} {apos cpos:Pos} {T id:String} {r:V→List V→Hp→VK→Prop} {K:PySem.W.Frag}
theorem oR (hK:X.K=K)(pa:PlainAttrs T)(slot:Slot T name id)(hty:typeOf (.builtin id)=pure (.type "method_descriptor"))(hm:MtR X id r)(ho:PE X o to)
  (hbase:attributeBase o name X.env (eval o X.env)=eval o X.env:=by rfl) (hline:(apos.endLine == cpos.line)=true:=by rfl):PE X (.Call (.Attribute o name apos) [] [] cpos) (B6 K T r to):=by
 subst hK
 exact gi pa slot hty hm ho hbase hline
theorem yC (hK:X.K=K)(pa:PlainAttrs T)(slot:Slot T name id)(hty:typeOf (.builtin id)=pure (.type "method_descriptor"))(hm:MtR X id r)(ho:PE X o to)(ha:PA X (e::es) t)
  (hbase:attributeBase o name X.env (eval o X.env)=eval o X.env:=by rfl)
  (hfew:((backTo cpos (starEach (e::es) X.env)).all (fun x=>!x.1) && (backToKw cpos (keywordEach [] X.env)).all (fun x=>x.1.isSome)
   && decide ((e::es).length+([]:List Keyword).length+(if ([]:List Keyword).isEmpty then 0 else 1) < 30))=true:=by rfl)
  (hline:(apos.endLine == cpos.line)=true:=by rfl) (hs:starEach (e::es) X.env=(false,eval e X.env)::starEach es X.env:=by rfl) (hplain:(backTo cpos (starEach es X.env)).any (·.1)=false:=by rfl) :
  PE X (.Call (.Attribute o name apos) (e::es) [] cpos) (tBM K T r to t):=by
 subst hK
 exact cU pa slot hty hm ho ha hbase hfew hline hs hplain
end
section
variable {X:Cx}
inductive tW (x:V)(vs:List V)(H:Hp)(Q:VK):Prop
 | mk:∀ z y i rest,(x = .str z)→(vs=[.str y])→(Builtin.Str.occurrences z y 0 z.length 1=i::rest)→(Q (.int (i:Nat)) H)→tW x vs H Q
theorem dC:MtR X "str.index" tW:=by
 intro pins s σ H x vs v us Q I rx rv h
 obtain ⟨z,y,i,rest,rfl,rfl,ho,q⟩:=h
 obtain ⟨t,rfl⟩:=rx
 obtain ⟨u1,rfl,⟨t1,rfl⟩⟩:=cT rv
 exact SC.index ho ⟨.int _,H,I.tok _,⟨_,rfl⟩,q⟩
def iq (z:Str):List V:=z.cps.toList.map fun c=>.str ⟨#[c]⟩
theorem mU {z:Str}{acc:Array Value}(h:ItemsOf (SignAt z) acc z.cps.size):aV (iq z) acc.toList:=by
 have all:∀ (cs:List Nat) (us:List Value),cs.length=us.length→(∀ (j:Nat) (v:Value),us[j]? = some v→∃ c u,cs[j]? = some c∧v = .str ⟨#[c]⟩ u)→aV (cs.map fun c=>V.str ⟨#[c]⟩) us:=by
  intro cs
  induction cs with
  | nil =>
   intro us hl _
   cases us with
   | nil=>exact .nil
   | cons _ _=>simp at hl
  | cons c cs ih =>
   intro us hl hh
   cases us with
   | nil=>simp at hl
   | cons u us =>
    obtain ⟨c',t,e1,e2⟩:=hh 0 u rfl
    have:c=c':=Dp e1
    subst this
    exact .cons ⟨t,e2⟩ (ih us (by simpa using hl) fun j v hj=>hh (j+1) v (by simpa using hj))
 refine all _ _ (by rw [C9,C9];exact h.1.symm) fun j v hj=>?_
 obtain ⟨c,u,e1,e2⟩:=h.2 j v (by simpa using hj)
 exact ⟨c,u,by simpa using e1,e2⟩
inductive bZ  (xs:List V)(H:Hp)(Q:VK):Prop
 | mk:∀ z,(xs=[.str z])→(z.length≤sizeLine)→(∀ p,H p=none→Q (.ref p) (upd H p (.lst (iq z))))→bZ xs H Q
theorem cE (hc:X.calm=true):c_ X (.type "list") bZ:=by
 intro pins s σ H xs us Q I r h
 obtain ⟨z,rfl,hz,q⟩:=h
 obtain ⟨u,rfl,t,rfl⟩:=cT r
 refine call_list_str (I.ok.hd hc) z t (fun h' tk acc' c' kp e hI=>?_) hz
 have hl:(iq z).length≤sizeLine:=by unfold iq;rw [C4,C9];exact hz
 exact ⟨.ref s.heap.objs.size,_,I.laid kp (Da _) (show bw X.prog X.w _ h' _ (.lst (iq z)) from ⟨hl,acc'.toList,c',mU hI,by simpa using e⟩),rfl,q _ (I.hok.fresh (Da _))⟩
theorem mV {K:PySem.W.Frag}(hK:X.K=K):OpR X (compareOp .NotIn) (rIn K true):=by
 subst hK
 exact je
end
end L2
namespace PySem
open Sem (wp)
section
variable {prog:Program} {w:World} {A:Around} {E:Value→Shared→Prop} {s:Shared} {z TI TO i1 i2:Addr} {x y:Str} {t u:Tok} {k c d:Nat} {a b:Value}
end
end PySem
namespace PySem
end PySem
namespace L2
open PySem PySem.Spec PyProof.Rows
section
variable {X:Cx}
end
end L2
namespace L2
open PySem PySem.Spec PyProof.Rows Wd
def oS:Expr→Bool
 | .Starred _ _=>false
 | _=>true
theorem vk {e:Expr}(h:oS e=true)(es:List Expr)(env:Env):starEach (e::es) env=(false,eval e env)::starEach es env:=by
 cases e <;> first | rfl | cases h
theorem qU {X:Cx}{e:Expr}{es:List Expr}{te:TE}{t:TA}(ha:PE X e te)(hr:PA X es t)(h:oS e=true:=by rfl):PA X (e::es) (rq te t):=aa ha hr (vk h _ _)
def Bc:List Str:=([0,1,2,3,4,5,6,7,8,9,10,11]:List L).map fun x=>toS [x]
end L2
namespace Kx
open PySem PySem.Spec PyProof.Rows L2 Wd
inductive vm (vs:List V)(H:Hp)(Q:VK)(u3_:XK):Prop
 | mk:∀ (x:L),(vs=[tx [x]])→(Q (.int ((x.val % 6:Nat):Int)) H)→vm vs H Q u3_
theorem asc (u:List L):(toS u).cps.all (· < 128)=true:=by
 rw [← Hw,a_,EL]
 intro c hc
 obtain ⟨x,_,rfl⟩:=DN.mp hc
 exact C_ (rN x)
theorem yD:∀ x:L,Builtin.Str.occurrences ("abcdef":Str) (Txt.lower (toS [x])) 0 ("abcdef":Str).length 1=[x.val % 6]:=by
 have q:∀ x:L,Builtin.Str.occurrences ("abcdef":Str) (⟨(([x].map cp).map lo1).toArray⟩:Str) 0 ("abcdef":Str).length 1=[x.val % 6]:=by decide +kernel
 intro x
 rw [fm]
 exact q x
end Kx
namespace L2
open PySem PySem.Spec PyProof.Rows Wd
section
variable {X:Cx}
inductive tX (x:V)(y:V)(H:Hp)(Q:VK):Prop
 | mk:∀ a b xs,(x = .ref a)→(y = .ref b)→(H a=some (.lst xs))→(H b=some (.lst []))→(Q (.bl (!xs.isEmpty)) H)→tX x y H Q
theorem oU (hu:X.A.units+64 < cLine):OpR X (compareOp .NotEq) tX:=by
 intro pins s σ H x y v u Q I rx ry h
 obtain ⟨a,b,xs,rfl,rfl,ha,hb,q⟩:=h
 cases rx
 cases ry
 obtain ⟨its,n,rv,ea,_⟩:=I.lst ha
 obtain ⟨its2,n2,rv2,eb,_⟩:=I.lst hb
 cases rv2
 have hla:s.heap.IsList a its.toArray:=⟨_,ea,rfl,_,rfl⟩
 have hlb:s.heap.IsList b ([]:List Value).toArray:=⟨_,eb,rfl,_,rfl⟩
 cases xs with
 | nil =>
  cases rv
  refine Hg (SeqAt.RcNeAt.lists (e:=fun _=>true) hla hlb rfl (by omega) (fun j hj=>by simp at hj)) ?_
  exact ⟨.bl false,H,I,rfl,q⟩
 | cons z r =>
  cases rv with
  | cons r1 r2 =>
   refine Hg (SeqAt.RcNeAt.lists_lengths hla hlb (by simp) (by omega)) ?_
   exact ⟨.bl true,H,I,rfl,q⟩
end
end L2
namespace Kx
open PySem PySem.Spec PyProof.Rows L2 Wd
theorem s12:toS [0,1,2,3,4,5,6,7,8,9,10,11]=("abcdefABCDEF":Str):=by decide +kernel
end Kx
namespace L2
open PySem PySem.Spec PyProof.Rows Wd
theorem ir {K:PySem.W.Frag}{a:Addr}{xs:List V}{own:List Str}{cap:List Nat}{g:TG}{ti:TT}{te:TE}{σ:St}{H:Hp}{Q:VK}(Pv:Nat→List V→St→Hp→Prop)(h0:Pv 0 [] (stB own cap σ) H)(hz:∀ i ys σ H,i≤xs.length→Pv i ys σ H→ys.length≤i)(hn:xs.length≤sizeLine)
  (hl:∀ i ys σ H,Pv i ys σ H→SqT K H a xs)
  (hs:∀ i ys σ H x (N:List V→St→Hp→Prop),xs[i]? = some x→Pv i ys σ H→(∀ ys' σ' H'',Pv (i+1) ys' σ' H''→N ys' σ' H'')→g x σ H fun σ2 H2=>ti σ2 H2 fun b H3=>if b=true then te σ2 H3 fun y H4=>N (ys++[y]) σ2 H4 else N ys σ2 H3)
  (hd:∀ ys σ H D,Pv xs.length ys σ H→H D=none→Q (.ref D) (upd H D (.lst ys))) :
  u7 own cap g ti te Q σ (Itt K a) H:=by
 refine bK (J:=Itt K a) xs.length Pv h0 hz hn (fun i ys σ H hi p=>⟨xs,xs[i],hl i ys σ H p,fu hi⟩) (fun ys σ H p=>⟨xs,hl _ ys σ H p,Da _⟩) ?_ hd
 rintro i ys σ H x H' N hi p ⟨rfl,hx⟩ hN
 exact hs i ys σ _ x N (hx xs (hl i ys σ _ p)) p hN
theorem vn (x z:L)(mid:List L):oE (x::(mid++[z])) (some 1) (some (((x::(mid++[z])).length:Int) - 1))=mid:=by
 have e:(((x::(mid++[z])).length:Int) - 1)=((mid.length+1:Nat):Int):=by simp only [Ds,C8,D8];omega
 rw [e]
 unfold oE
 have h1:=HT.e_ (x::(mid++[z])).length 0 1
 have h2:=HT.e_ (x::(mid++[z])).length (x::(mid++[z])).length (mid.length+1)
 have l:(x::(mid++[z])).length=mid.length+2:=by simp
 rw [show ((1:Nat):Int)=1 from rfl] at h1
 rw [h1,h2,l]
 rw [show min 1 (mid.length+2)=1 by omega,show min (mid.length+1) (mid.length+2)=mid.length+1 by omega]
 simp
end L2
namespace L2
open PySem PySem.Spec PyProof.Rows
theorem fv {X:Cx}{i:Nat}{y:Str}{py spos:Pos}{elt iter tg:Expr}{ifs:List Expr}{scope:Scope}{pos:Pos}{NB own:List Str}{cap:List Nat}{wi:TI}{g:TG}{ti:TT}{te:TE}(hN:X.N.Nodup)(hi0:X.N[i]? = some y)(hx:Loc X.env.scope y)(B:Blk X scope NB own cap)(hc:X.calm=true)(hi:PI X tg iter wi)
  (hg:∀ C fp s₀ H₀,PG (cxB X NB own scope C fp s₀ H₀) tg g) (ht:∀ C fp s₀ H₀,PIf (cxB X NB own scope C fp s₀ H₀) ifs ti) (he:∀ C fp s₀ H₀,PE (cxB X NB own scope C fp s₀ H₀) elt te)
  (hs:∀ x,foldedSetIterable iter X.env x=pure x:=by intro _;rfl) (hsw:swapsWith (.ListComp elt [⟨tg,iter,ifs,0⟩] scope pos) (some (.Name y py)) spos.line X.env=pure true:=by rfl) (hf:X.fn y=true ∨ X.env.scope.names.lookup y=some .local:=by first | exact .inl rfl | exact .inr rfl | assumption):PS X (.Assign [.Name y py] (.ListComp elt [⟨tg,iter,ifs,0⟩] scope pos) spos) (BX (u9 own cap wi g ti te) (mH i)):=by
 intro pins s σ H DD I0 h
 rw [exec_Assign_Name_used _ _ _ _ hsw]
 refine C5 (Hm (C5 ?_))
 show wpAny _ X.A (do let _ ← comprehension (.ListComp elt [⟨tg,iter,ifs,0⟩] scope pos) scope X.env _ (newList []) false (eval iter X.env) (some (assign (.Name y py) X.env))) _ _ s
 refine C5 (Ep (k6 (use:=some (assign (.Name y py) X.env)) (QQ:=fun _ s'=>SP X pins DD .next s') (pos:=pos) B hc hi hg ht he hs I0 h fun fp C s2 s4 H2 H3 σ3 its ys k I f2 hCle hDC I5 hn3 hD4 rv hz q=>?_) (fun _ s' hq=>Dm (Dm hq)) fun _ _ e=>e)
 obtain ⟨mC,hnC,_⟩:=I5.loc
 have I6:Inv X pins σ (upd H3 s2.heap.objs.size (.lst ys)) s4:=(B.done (h'':=s4.heap) I f2 hCle (Da _) hDC I5 hn3 hD4 rv hz ⟨rfl,fun _ _=>rfl⟩).up I5.low
 obtain ⟨oC,es,ep,hoC,hdC,rC⟩:=hnC
 have hCn:(upd H3 s2.heap.objs.size (.lst ys)) C=none:=by rw [ay hDC.symm];exact I5.free
 have nL:C≠X.env.locals:=fun z=>absurd I.lt (by rw [← z];exact Nat.not_lt.mpr hCle)
 have I7:Inv X (pins++[(C,oC)]) σ (upd H3 s2.heap.objs.size (.lst ys)) s4:=I6.pins_of fun p hp=>by
  rcases DB.mp hp with z | z
  ·exact I6.pin p (Di _ z)
  ·have ep:=De.mp z
   subst ep
   exact ⟨hoC,hCn,nL,I.nofs hCle,fun v z=>by rw [hdC] at z;cases z⟩
 refine thn (aP (pos:=py) hN hi0 hx hf (pins++[(C,oC)]) s4 σ _ (.ref s2.heap.objs.size) (.ref s2.heap.objs.size) (fun σ' H'=>DD.nx σ' H'∧H'=upd H3 s2.heap.objs.size (.lst ys)) I7 rfl ⟨q,rfl⟩) fun _ s5 zq2=>?_
 obtain ⟨σ5,H5,I8,q5,e5⟩:=zq2
 subst e5
 have pC:=(I8.pin (C,oC) (Di _ (Di _ (De.mpr rfl)))).1
 refine ⟨mC,⟨oC,es,ep,pC,hdC,rC⟩,fun h'' sb=>⟨σ5,_,?_,q5⟩⟩
 have I9:Inv X pins σ5 (upd H3 s2.heap.objs.size (.lst ys)) s5:=I8.pins_of fun p hp=>I8.pin p (Di _ (DM _ hp))
 refine I9.turned (t':=s5.toks) (it:=C) (fun b o hb e=>(sb.2 b hb).trans e) hCn nL (.inr (DO I.sz hCle)) (fun x c e z=>?_) fun p hp z=>?_
 ·obtain ⟨v,o,ho,_⟩:=I.cell x c e
  exact absurd (Do ho) (by rw [z];exact Nat.not_lt.mpr hCle)
 ·exact absurd (Do (I.pin p hp).1) (by rw [z];exact Nat.not_lt.mpr hCle)
end L2
namespace L2
open PySem PySem.Spec PyProof.Rows Wd
end L2
namespace PySem
open Sem (wp)
open AutoSeq1 (wpAny_loadPart')
section
variable {prog:Program} {w:World} {A:Around} {E:Value→Shared→Prop} {s:Shared}
end
end PySem
namespace L2
open PySem PySem.Spec PyProof.Rows Wd
section
variable {X:Cx}
end
end L2
namespace PySem
open Sem (wp)
section
variable {prog:Program} {w:World} {A:Around} {E:Value→Shared→Prop} {s:Shared} {z TI TO i1 i2:Addr} {k n1 n2:Nat} {a b:Value} {fp1 fp2:List Addr} {P1 P2:Nat→Value→Prop} {S1 S2:Nat→Heap→Prop}
end
end PySem
namespace PySem
end PySem
namespace L2
open PySem PySem.Spec PyProof.Rows Wd
section
variable {X:Cx}
end
end L2
namespace Kx
open PySem PySem.Spec PyProof.Rows L2 Wd
def jn (yl:List Nat):List (List Nat)→List Nat
 | []=>[]
 | [p]=>p
 | p::q::r=>p++yl++jn yl (q::r)
def Gd (c:Nat):Prop:=(48≤c∧c≤57) ∨ 65≤c
end Kx
namespace L2
open PySem PySem.Spec PyProof.Rows Wd
section
variable {X:Cx} {tg:Expr}
end
end L2
namespace Kx
open PySem PySem.Spec PyProof.Rows L2 Wd
def dV:V→PyData
 | .int i=>.int i
 | .str z=>.str z
 | _=>.none
end Kx
namespace HT
open PySem PySem.Spec PyProof.Rows
section
variable {prog:Program} {w:World} {A:Around} {E:Value→Shared→Prop} {s:Shared}
end
end HT
namespace L2
open PySem PySem.Spec PyProof.Rows Wd
end L2
namespace PySem
open Sem (wp)
section
variable {prog:Program} {w:World} {A:Around} {E:Value→Shared→Prop} {s:Shared}
def ddp (val:Nat→Str):Nat→List Str
 | 0=>[]
 | i+1=>if val i∈ddp val i then ddp val i else ddp val i++[val i]
theorem oV (val:Nat→Str):∀ i,(ddp val i).length≤i
 | 0=>Da _
 | i+1=>by
  have ih:=oV val i
  unfold ddp
  split
  ·omega
  ·rw [C8,DX];omega
section
variable {R:Result→Shared→Prop} {I:Addr} {fp wr:List Addr} {G:Array GenState→Array GenState→Prop} {n:Nat} {P:Nat→Value→Prop} {St:Nat→Shared→Prop}
end
abbrev sob (led:Bool):Obj:={ cls:=.type "set",dict:=none,data:=.set #[] 0 (.fresh 0 0 led) }
end
end PySem
namespace L2
open PySem PySem.Spec PyProof.Rows
theorem lx {h:Heap}{T:Addr}{o:Obj}{f:Obj→Obj}(ho:h.get? T=some o)(hf:f o=o)(b:Addr):(h.update T f).get? b=h.get? b:=by
 by_cases e:T=b
 ·subst e
  have:=Ej f ho (by rw [hf];exact (Heap.get?_some_iff.mp ho).2)
  rw [this,hf,ho]
 ·exact DR _ _ e
theorem ly {oT:Obj}{ts:Array Value}{i:Nat}{v:Value}(hd:oT.data = .fields ts)(h3:ts[i]? = some v):Obj.mapFields (·.setIfInBounds i v) oT=oT:=by
 obtain ⟨c,d,dt,sl⟩:=oT
 simp only at hd
 subst hd
 obtain ⟨hi,hv⟩:=D7.mp h3
 have:ts.setIfInBounds i v=ts:=by
  apply Array.ext
  ·simp
  ·intro j h1 h2
   by_cases hj:i=j
   ·subst hj;simp [hv]
   ·rw [Array.getElem_setIfInBounds_ne _ hj]
 simp only [Obj.mapFields,this]
def Ay (T:Addr)(h:Heap)(a:Addr)(fl:Value):Prop :=
 ∃ oe vs oT ts,h.get? a=some oe∧oe.data = .fields vs∧vs[1]? = some (.ref T)∧T≠a∧h.get? T=some oT∧oT.data = .fields ts∧ts[3]? = some fl
def Flt (h:Heap)(a:Addr)(fl:Value):Prop:=∃ T,Ay T h a fl
structure Nts (fs:List Addr) (a:Addr) (fl:Value) (h h':Heap):Prop where
 keep:∀ b o,b∉fs→b≠a→h.get? b=some o→h'.get? b=some o
 slot:∀ b o,b∈fs→h.get? b=some o→∃ sl,h'.get? b=some { o with slots:=sl }
 exc:∀ oe vs,h.get? a=some oe→oe.data = .fields vs→∃ oe' vs',h'.get? a=some oe'∧oe'.cls=oe.cls∧oe'.dict=oe.dict∧oe'.data = .fields vs'∧vs'.size=vs.size∧vs'[2]? = vs[2]?
 fly:∃ T,h.objs.size≤T∧Ay T h' a fl
section
variable {M:Model} {A:Around} {E:Value→Shared→Prop} {s:Shared}
set_option maxHeartbeats 1600000 in
theorem tY {base:Heap}{env:Env}{outer:List Env}{L e:Addr}{oe:Obj}{vs:Array Value}{head:Value}{hadNext:Bool}{Q:Unit→Shared→Prop}
  (hfr:A.frames=some (env::outer)) (hl:s.heap.FunFrames base (env::outer)) (hf:env.frame=some L)
  (he:s.heap.get? e=some oe) (hd:oe.data = .fields vs) (hsz:1 < vs.size)
  (h:∀ h',Nts (frs (env::outer)) e (rawInt L) s.heap h'→Q () { s with heap:=h' }) :
  wpAny M A (do let a ← frameOf env;let pl ← entryPlaceOf L hadNext;let b ← EntryCells.newEntry head a .none (rawInt L) .none pl;setField (.ref e) 1 b) Q E s:=by
 have hene:e∉frs (env::outer):=fun hm=>by
  obtain ⟨_,o,ho,hnf⟩:=hl.mem hm
  rw [he] at ho;injection ho with ho;subst ho;exact hnf vs hd
 refine C5 (wpAny_frameOf_fun hfr hl hf fun h₁ hs₁=>?_)
 refine C5 (wpAny_entryPlaceOf fun pl hpl=>?_)
 unfold EntryCells.newEntry newFields
 refine C5 (wpAny_newObj_type ?_ (hpl.sizeOk5 _ _ _ _ _))
 generalize hN:({ cls:=.type "traceback",dict:=none,data:=.fields ([head,.ref L,.none,rawInt L,.none]++(if pl.isEmpty then List.replicate 6 Value.none else pl)).toArray }:Obj)=oN
 have hNd:oN.data = .fields ([head,.ref L,.none,rawInt L,.none]++(if pl.isEmpty then List.replicate 6 Value.none else pl)).toArray:=by rw [← hN]
 have hNf:oN.isFreed=false:=by rw [← hN];rfl
 have he₁:h₁.get? e=some oe:=(hs₁.2.1 e hene).trans he
 have he₂:=C6 (h:=h₁) oN he₁
 refine Fo he₂ hd hsz (h _ ?_)
 have hTe:h₁.objs.size≠e:=HC (Do he₁)
 have hd₃:=Ey hd (·.setIfInBounds 1 (Value.ref h₁.objs.size))
 have he₃:=Ej (Obj.mapFields (·.setIfInBounds 1 (Value.ref h₁.objs.size))) he₂ (EG hd₃)
 have hT₃:=(DR (h₁.push oN) (Obj.mapFields (·.setIfInBounds 1 (Value.ref h₁.objs.size))) (Ne.symm hTe)).trans (Dv h₁ hNf)
 have keep:∀ b o,b≠e→h₁.get? b=some o→((h₁.push oN).update e (Obj.mapFields (·.setIfInBounds 1 (Value.ref h₁.objs.size)))).get? b=some o:=fun b o hbe hb=>by
  rw [DR _ _ (Ne.symm hbe)]
  exact C6 _ hb
 refine ⟨fun b o hb hbe q=>keep b o hbe ((hs₁.2.1 b hb).trans q),fun b o hb q=>?_,fun oe' vs' q qd=>?_,?_⟩
 ·obtain ⟨sl,q'⟩:=hs₁.2.2 b o q
  exact ⟨sl,keep b _ (fun z=>hene (z ▸ hb)) q'⟩
 ·rw [he] at q;cases q
  rw [hd] at qd;cases qd
  refine ⟨_,_,he₃,Hf _ _,?_,hd₃,by simp,E_ (by decide)⟩
  obtain ⟨c,d,dt,sl⟩:=oe
  cases dt <;> rfl
 ·refine ⟨h₁.objs.size,G7 hs₁.1.symm,_,_,oN,_,he₃,hd₃,by simp [hsz],hTe,hT₃,hNd,?_⟩
  first | (simp;done) | (rcases hpl with rfl | ⟨_,_,_,_,_,_,_,rfl⟩ <;> simp)
theorem Bd {base:Heap}{env:Env}{outer:List Env}{L e:Addr}{oe:Obj}{vs:Array Value}{Q:Unit→Shared→Prop}
  (hfr:A.frames=some (env::outer)) (hl:s.heap.FunFrames base (env::outer)) (hf:env.frame=some L)
  (he:s.heap.get? e=some oe) (hd:oe.data = .fields vs) (h1:vs[1]? = some .none ∨ Flt s.heap e .none)
  (h:∀ h',Nts (frs (env::outer)) e (rawInt L) s.heap h'→Q () { s with heap:=h' }):wpAny M A (noteFrame (.ref e) env) Q E s:=by
 unfold noteFrame
 simp only [hf]
 rcases h1 with h1 | ⟨T,oe',vs',oT,ts,he',hd',h1,hTe,hT,hdT,h3⟩
 ·refine C5 (Fg he hd h1 ?_)
  rw [if_neg (by decide)]
  exact tY hfr hl hf he hd (D7.mp h1).1 h
 ·rw [he] at he';cases he'
  rw [hd] at hd';cases hd'
  refine C5 (Fg he hd h1 ?_)
  rw [if_pos (show (Value.ref T != Value.none)=true from by simp)]
  refine C5 (Fg hT hdT h3 ?_)
  rw [if_neg (show ¬ ((Value.none == rawInt L)=true) from by simp [rawInt])]
  refine C5 (Fo hT hdT (D7.mp h3).1 ?_)
  have idle:=lx (f:=Obj.mapFields (·.setIfInBounds 3 Value.none)) hT (ly hdT h3)
  refine tY hfr (hl.of_keeps fun b o hb _=>⟨o,(idle b).trans hb,rfl⟩) hf ((idle e).trans he) hd (D7.mp h1).1 fun h' N=>h h' ?_
  obtain ⟨k1,k2,k3,k4⟩:=N
  refine ⟨fun b o hb hbe q=>k1 b o hb hbe ((idle b).trans q),fun b o hb q=>k2 b o hb ((idle b).trans q),fun o v q d=>k3 o v ((idle e).trans q) d,?_⟩
  obtain ⟨T',b1,b2⟩:=k4
  exact ⟨T',DO (G7 (Heap.size_after_update ..).symm) b1,b2⟩
theorem vo {T e:Addr}{fl:Value}{Q:Unit→Shared→Prop}(hF:Ay T s.heap e fl)
  (h:∀ h',Ay T h' e .none→(∀ b o,b≠T→s.heap.get? b=some o→h'.get? b=some o)→(∀ b,(∃ o,s.heap.get? b=some o)→∃ o,h'.get? b=some o)→(fl = .none→∀ b,h'.get? b=s.heap.get? b)→Q () { s with heap:=h' }) :
  wpAny M A (setFlight (.ref e) none) Q E s:=by
 obtain ⟨oe,vs,oT,ts,he,hd,h1,hTe,hT,hdT,h3⟩:=hF
 have hsz3:3 < ts.size:=(D7.mp h3).1
 have other:∀ b,b≠T→(s.heap.update T (Obj.mapFields (·.setIfInBounds 3 ((none:Option Addr).elim Value.none fun f=>rawInt f)))).get? b=s.heap.get? b :=
  fun b hb=>DR _ _ (Ne.symm hb)
 have hT':=Ej (Obj.mapFields (·.setIfInBounds 3 ((none:Option Addr).elim Value.none fun f=>rawInt f))) hT (EG (Ey hdT _))
 unfold setFlight
 refine C5 (Fg he hd h1 ?_)
 rw [if_pos (show (Value.ref T != Value.none)=true from by simp)]
 refine Fo hT hdT hsz3 (h _ ⟨oe,vs,_,_,(other e (Ne.symm hTe)).trans he,hd,h1,hTe,hT',Ey hdT _,by simp [hsz3]⟩ (fun b o hb q=>(other b hb).trans q) (fun b ⟨o,q⟩=>?_) fun z b=>?_)
 ·by_cases z:b=T
  ·subst z;exact ⟨_,hT'⟩
  ·exact ⟨o,(other b z).trans q⟩
 ·subst z
  exact lx hT (ly hdT h3) b
theorem yE {base:Heap}{env:Env}{outer:List Env}{L e:Addr}{oe:Obj}{vs:Array Value}{Q:Unit→Shared→Prop}
  (hfr:A.frames=some (env::outer)) (hl:s.heap.FunFrames base (env::outer)) (hf:env.frame=some L)
  (he:s.heap.get? e=some oe) (hd:oe.data = .fields vs) (h1:vs[1]? = some .none ∨ Flt s.heap e .none)
  (h:∀ h',Nts (frs (env::outer)) e .none s.heap h'→Q () { s with heap:=h' }):wpAny M A (leaving env (.ref e)) Q E s:=by
 unfold leaving
 refine C5 (Bd hfr hl hf he hd h1 fun h₁ N=>?_)
 obtain ⟨k1,k2,k3,T,hT,k4⟩:=N
 refine vo (s:={ s with heap:=h₁ }) k4 fun h₂ f1 f2 f3 _=>h h₂ ⟨fun b o hb hbe q=>f2 b o (fun z=>?_) (k1 b o hb hbe q),fun b o hb q=>?_,fun oe vs q qd=>?_,T,hT,f1⟩
 ·exact absurd (Du (Do q) (z ▸ hT)) (Ed _)
 ·obtain ⟨sl,q'⟩:=k2 b o hb q
  exact ⟨sl,f2 b _ (fun z=>absurd (Du (Do q) (z ▸ hT)) (Ed _)) q'⟩
 ·obtain ⟨oe',vs',q1,q2⟩:=k3 oe vs q qd
  exact ⟨oe',vs',f2 e _ (fun z=>absurd (Du (Do q) (z ▸ hT)) (Ed _)) q1,q2⟩
end
def exo (a C:Addr)(d:Option Addr)(b c:Bool):Heap→Prop:=fun h =>
 ∃ oe vs,h.get? a=some oe∧oe.cls = .ref C∧oe.dict=d∧oe.data = .fields vs∧vs.size=6∧(b=true→vs[1]? = some .none)∧(c=true→vs[2]? = some .none)
abbrev Exo (a C:Addr)(d:Option Addr)(b:Bool)(c:Bool:=false):HO:=.ext (exo a C d b c)
theorem rT {a C:Addr}{d:Option Addr}{b c:Bool}{h1 h2:Heap}(x:exo a C d b c h1)(k:∀ o,h1.get? a=some o→h2.get? a=some o):exo a C d b c h2 :=
 let ⟨oe,vs,q,r⟩:=x;⟨oe,vs,k _ q,r⟩
theorem lA {P:Program}{w:World}{H:Hp}{h:Heap}{a C:Addr}{d:Option Addr}{b c:Bool}(x:exo a C d b c h):bw P w H h a (Exo a C d b c) :=
 ⟨x,let ⟨oe,_,q,_⟩:=x;⟨oe,q⟩,fun _ _ y k=>rT y k⟩
theorem lC {H:Hp}{a:Addr}{o:HO}(h:H a=some o):upd H a o=H:=by
 funext b
 by_cases e:b=a
 ·subst e;rw [ag,h]
 ·rw [ay e]
def CXe (P:Program)(w:World):CXT:=fun outer H s E e s' =>
 ∃ a C d c H',e = .ref a∧s'.os=s.os∧AllBare s'.gens∧Un (frs outer) [] H H' s.heap s'.heap∧HOk P w H' s'.heap∧H' a=some (Exo a C d false c)∧Flt s'.heap a .none∧E (.ref a) none H'
section
variable {P:Program} {w:World} {H:Hp} {h h':Heap} {fs:List Addr} {e C:Addr} {d:Option Addr} {b cx:Bool} {fl:Value}
theorem yF (ok:HOk P w H h)(he:H e=some (Exo e C d b cx))(hfs:∀ c∈fs,H c=none)(N:Nts fs e fl h h') :
  Un fs [] H (upd H e (Exo e C d false cx)) h h'∧HOk P w (upd H e (Exo e C d false cx)) h':=by
 obtain ⟨⟨oe,vs,g1,g2,g3,g4,g5,g6,g7⟩,_,_⟩:=ok e _ he
 obtain ⟨oe',vs',n1,n2,n3,n4,n5,n6⟩:=N.exc oe vs g1 g4
 have hx:exo e C d false cx h':=⟨oe',vs',n1,n2.trans g2,n3.trans g3,n4,n5.trans g5,(fun z=>by cases z),fun z=>n6.trans (g7 z)⟩
 have ne:∀ c,H c=none→c≠e:=fun c n z=>by rw [z,he] at n;cases n
 have ne':∀ c u,H c=some u→u≠Exo e C d b cx→c≠e:=fun c u q n z=>by rw [z,he] at q;cases q;exact n rfl
 refine ⟨⟨fun c o q n hc _=>N.keep c o hc (ne c n) q,fun c o q n hc _=>N.slot c o hc q,fun c o q n _=>by rw [ay (ne c n)];exact n,fun c o q _=>?_,
  fun c xs q=>by rw [ay (ne' c _ q (by intro z;cases z))];exact q,fun c o u q=>by rw [ay (ne' c _ q (by intro z;cases z))];exact q,fun c ps q=>⟨#[],by rw [ay (ne' c _ q (by intro z;cases z)),q];simp⟩⟩,fun c u q=>?_⟩
 ·by_cases z:c=e
  ·subst z;exact ⟨_,n1⟩
  ·by_cases y:c∈fs
   ·obtain ⟨sl,r⟩:=N.slot c o y q
    exact ⟨_,r⟩
   ·exact ⟨o,N.keep c o y z q⟩
 ·by_cases z:c=e
  ·subst z;rw [ag] at q;cases q;exact lA hx
  ·rw [ay z] at q
   refine (ok c u q).stay (fun x v hx q'=>?_) (fun x hx=>by rw [ay (ne' x _ hx (by intro z;cases z))];exact hx) fun x xs hx=>by rw [ay (ne' x _ hx (by intro z;cases z))];exact hx
   have nx:x≠e:=by
    rcases hx with rfl | hx
    ·exact z
    ·exact ne' x _ hx (by intro z;cases z)
   refine N.keep x v (fun y=>?_) nx q'
   have:=hfs x y
   rcases hx with rfl | hx
   ·rw [this] at q;cases q
   ·rw [this] at hx;cases hx
end
def tZ (X:Cx)(E:XK):Prop:=∀ (pins:List (Addr × Obj)) (σ:St) (H:Hp) (s:Shared) (a C:Addr) (d:Option Addr) (c:Bool),InvW X pins σ H s→H a=some (Exo a C d true c)→E (.ref a) none (upd H a (Exo a C d false c))→X.xe (.ref a) s
section
variable {P:Program} {w:World} {K:PySem.W.Frag} {mg:Str→Option Value} {base:Heap} {N:List Str} {qual:Str} {scope:Scope} {f:Addr} {cd:Value} {A:Around} {outer:List Env} {s:Shared} {H:Hp} {E:XK}
theorem js {pins:List (Addr × Obj)}{σ:St}{H1:Hp}{s1:Shared}{a C:Addr}{d:Option Addr}{b c:Bool}(I:InvW (gP (CXe P w) P w K mg base N qual scope f cd A outer s H E) pins σ H1 s1)
  (ha:H1 a=some (Exo a C d b c)) (hf:b=true ∨ Flt s1.heap a .none) (hE:E (.ref a) none (upd H1 a (Exo a C d false c))):(gP (CXe P w) P w K mg base N qual scope f cd A outer s H E).xe (.ref a) s1:=by
 obtain ⟨⟨oe,vs,g1,g2,g3,g4,g5,g6,_⟩,_,_⟩:=I.hok a _ ha
 refine yE (base:=base) (outer:=outer) I.ok.frames I.stack rfl g1 g4 (hf.imp (fun z=>g6 z) id) fun h' Nt=>?_
 obtain ⟨un,hok⟩:=yF I.hok ha I.stkFree Nt
 have J:=I.call' (s':={ s1 with heap:=h' }) rfl un hok I.bare (fun b z=>absurd z (by simp))
 obtain ⟨T,_,hT⟩:=Nt.fly
 exact ⟨a,C,d,c,_,rfl,J.os,J.bare,J.base,J.hok,ag ..,⟨T,hT⟩,hE⟩
theorem cN:tZ (gP (CXe P w) P w K mg base N qual scope f cd A outer s H E) E:=fun pins σ H1 s1 a C d c I ha hE=>js I ha (.inl rfl) hE
theorem dY:dm (CXe P w) (gP (CXe P w) P w K mg base N qual scope f cd A outer s H E) E:=by
 intro pins σ H1 s1 e s' I ⟨a,C,d,c,H',he,os,bare,un,hok,ha,hf,hE⟩
 subst he
 have J:=I.call' os un hok bare (fun b z=>absurd z (by simp))
 exact js J ha (.inr hf) (by rw [lC ha];exact hE)
end
abbrev bmV:List Value:=[.type "ValueError",.type "Exception",.type "BaseException",.type "object"]
structure XCl (K:PySem.W.Frag) (C:Addr) (bm:List Value):Prop where
 obj:∃ dd cd k0 k1 k2 k3 k5,K.lookup C=some ⟨.type "type",dd,.cls cd,#[k0,k1,k2,k3,some (.builtin "ValueError.__new__"),k5]⟩∧cd.mro = .ref C::bm∧cd.hasDel=false∧cd.hasDict=true
 tl:PySem.W.tailIn K bmV bm=true
 kp:PySem.W.keepIn K (.ref C)=true
abbrev lD (us:List Value):Obj:={ cls:=.type "tuple",data:=.seq us.toArray }
abbrev qV (C t:Addr):Obj:={ cls:=.ref C,data:=.fields #[.ref t,.none,.none,.none,.bool false,.none] }
theorem XCl.at {K:PySem.W.Frag}{C:Addr}{bm:List Value}{h:Heap}(x:XCl K C bm)(X:K.In h):OwnTail h bmV bm∧∃ nm q N bs sn sub ab col dd k0 k1 k2 k3 k5,h.get? C=some (excClassObj nm q C N bs bm true sn sub ab col dd k0 k1 k2 k3 k5 "ValueError.__new__"):=by
 refine ⟨PySem.W.tail_of_in X x.tl,?_⟩
 obtain ⟨dd,cd,k0,k1,k2,k3,k5,hl,hm,hd,hh⟩:=x.obj
 obtain ⟨nm,bs,mro,ns,qn,hdc,sn,sub,ab,col,del⟩:=cd
 dsimp only at hm hd hh
 subst hm hd hh
 exact ⟨nm,qn,ns,bs,sn,sub,ab,col,dd,k0,k1,k2,k3,k5,X _ _ hl⟩
section
variable {prog:Program} {w:World} {A:Around} {E:Value→Shared→Prop} {h:Heap} {g:Array GenState} {d:Drawn} {t:Nat} {os:OsState} {K:PySem.W.Frag} {C fI:Addr} {bm:List Value}
set_option maxHeartbeats 1600000 in
theorem j4 {rest:List Value}{Q:Fin→Shared→Prop}(X:K.In h)(x:XCl K C bm)(hi:PySem.W.findIn K (.ref C) "__init__" = some (some (.ref fI)))(hf:PySem.W.isFn K (.ref fI)=true)
  (hq:wpAny (model prog w) A (call (.ref fI) (.ref (h.objs.size+1)::rest)) (fun r s'=>r = .none∧Q (.done (.ret (.ref (h.objs.size+1)))) s') E ⟨(h.push (lD rest)).push (qV C h.objs.size),g,d,t,os⟩) (hrest:rest.length≤sizeLine) :
  wpAny (model prog w) A (Builtin.«type.__call__» ⟨.ref C::rest,[]⟩) Q E ⟨h,g,d,t,os⟩:=by
 obtain ⟨T,nm,q,N,bs,sn,sub,ab,col,dd,k0,k1,k2,k3,k5,hC⟩:=x.at X
 have F:=GW
 repeat (first | with_reducible refine EE hC ?_ | with_reducible refine wpAny_madeBy_exc hC ?_ | wp_step)
 refine codeAny_call_builtin_code (FX _ F.quiet) (wpAny_check_new_subT F T hC ?_)
 refine codeAny_exc_new_subT F T hC ?_ hrest
 show wpAny _ _ _ _ _ _
 have k1:∀ b o,h.get? b=some o→((h.push (lD rest)).push (qV C h.objs.size)).get? b=some o:=fun b o e=>C6 _ (C6 _ e)
 have hC₁:=k1 _ _ hC
 have X₁:K.In ((h.push (lD rest)).push (qV C h.objs.size)):=fun b o e=>k1 b o (X b o e)
 have hget:((h.push (lD rest)).push (qV C h.objs.size)).get? (h.objs.size+1)=some (qV C h.objs.size):=by heap_get
 have hcC:(Value.ref C::bm).contains (.ref C)=true:=by simp
 unfold isInstance
 repeat (first | with_reducible refine EE hget ?_ | (with_reducible refine GN hC₁ ?_;rw [hcC]) | wp_step)
 show wpAny _ _ (typeLookup (.ref C) _) _ _ _
 refine (Gz (M:=model prog w) X₁ hi).at ?_
 refine FD (C5 ?_)
 unfold bindSpecial
 have L:=PySem.W.looks_typeIn (M:=model prog w) X₁ (HX.mp hf)
 refine C5 (L.at ?_)
 rw [if_pos (by decide)]
 refine Dm (C5 (Ep hq (fun r s' hr=>?_) fun _ _ x=>x))
 obtain ⟨rfl,hQ⟩:=hr
 wp_walk
 exact hQ
theorem yG {rest:List Value}{Q:Value→Shared→Prop}(X:K.In h)(x:XCl K C bm)(hi:PySem.W.findIn K (.ref C) "__init__" = some (some (.ref fI)))(hf:PySem.W.isFn K (.ref fI)=true)
  (hq:wpAny (model prog w) (A.under (.builtin "type.__call__" ⟨.ref C::rest,[]⟩)) (call (.ref fI) (.ref (h.objs.size+1)::rest)) (fun r s'=>r = .none∧Q (.ref (h.objs.size+1)) s') E ⟨(h.push (lD rest)).push (qV C h.objs.size),g,d,t,os⟩) (hrest:rest.length≤sizeLine) :
  wpAny (model prog w) A (call (.ref C) rest) Q E ⟨h,g,d,t,os⟩:=by
 obtain ⟨T,nm,q,N,bs,sn,sub,ab,col,dd,k0,k1,k2,k3,k5,hC⟩:=x.at X
 have f1:=tc_lookup
 have f2:=tc_bind (.ref C)
 have hT:(⟨h,g,d,t,os⟩:Shared).TypeIs (.ref C) "type":=⟨_,hC,rfl⟩
 refine Hd (HG ?_)
 show wpAny _ _ (callAny (.ref C) _) _ _ _
 repeat (any_goals (first | assumption | with_reducible refine EE hC ?_ | wp_step))
 refine ⟨rfl,?_⟩
 exact codeAny_call_builtin_at (FX _ (by decide +kernel)) entry_typeCall (wpAny_check_type_call_sub hC (j4 X x hi hf hq hrest))
end
section
variable {X:Cx} {k:Nat} {f C:Addr} {fd:FuncData} {ps:List Str} {sp:Sp} {x:Str} {p pos:Pos} {e:Expr} {es:List Expr} {t:TA} {bm:List Value}
theorem Inv.madeX {pins:List (Addr × Obj)}{σ:St}{H:Hp}{s:Shared}(I:Inv X pins σ H s)(us:List Value):Inv X pins σ (upd H (s.heap.objs.size+1) (Exo (s.heap.objs.size+1) C none true true)) { s with heap:=(s.heap.push (lD us)).push (qV C s.heap.objs.size) }:=by
 have I1:=I.kept (h':=s.heap.push (lD us)) (t':=s.toks) (fun b u q=>C6 _ q)
 refine InvW.up (X:=X) (I1.laid (a:=s.heap.objs.size+1) (t':=s.toks) (fun b u q=>C6 _ q) (G7 (FJ _ _)) (lA ⟨qV C s.heap.objs.size,_,?_,rfl,rfl,rfl,rfl,(fun _=>rfl),fun _=>rfl⟩)) I.low
 have:=Dv (s.heap.push (lD us)) (o:=qV C s.heap.objs.size) rfl
 rwa [FJ] at this
theorem oW {pins:List (Addr × Obj)}{σ:St}{H:Hp}{s:Shared}{Q:VK}{us:List Value}{vs:List V}(M:XCl X.K C bm)(hi:PySem.W.findIn X.K (.ref C) "__init__" = some (some (.ref f)))(hf:PySem.W.isFn X.K (.ref f)=true)
  (F:qS X.prog X.w X.K X.mg X.base CX0 k f fd ps sp) (hr:cL (k+1) X.A) (hb:dS X.K fd ps []) (I:Inv X pins σ H s) (r:aV vs us)
  (h:vs.length≤1000∧∀ x,H x=none→sp (.ref x::vs) (upd H x (Exo x C none true true)) (fun v H2=>v = .non∧Q (.ref x) H2) E0):wpAny (model X.prog X.w) X.A (call (.ref C) us) (EP X pins σ Q) X.xe s:=by
 obtain ⟨hl0,h⟩:=h
 have hq:=h (s.heap.objs.size+1) (I.hok.fresh (FP _))
 have I2:=Inv.madeX (C:=C) I us
 have r2:aV (V.ref (s.heap.objs.size+1)::vs) (Value.ref (s.heap.objs.size+1)::us):=.cons rfl r
 have hl:(Value.ref (s.heap.objs.size+1)::us++[]).length=ps.length:=by
  have e:=r2.length
  rw [F.len _ _ _ _ hq] at e
  rw [Ee]
  exact e.symm
 obtain ⟨hh,g,d,tk,os⟩:=s
 refine yG I.kIn M hi hf (Hd ?_) (by rw [← r.length,E9];omega)
 have hb':=hb ⟨(hh.push (lD us)).push (qV C hh.objs.size),g,d,tk,os⟩ (Value.ref (hh.objs.size+1)::us) I2.kIn hl
 rw [Ee] at hb'
 refine FQ (F.run _ X.stack _ _ ⟨Value.ref (hh.objs.size+1)::us,[]⟩ (Value.ref (hh.objs.size+1)::us) _ _ E0 (hr.make C us []) (I2.env0.make C us []) hb' r2 hq) fun r s' hq'=>?_
 cases r with
 | error e=>exact hq'.elim
 | ok fl =>
  cases fl with
  | ret u =>
   obtain ⟨v,H',I3,rv,ev,q3⟩:=I2.after hq'
   subst ev
   exact ⟨rv,⟨V.ref (hh.objs.size+1),H',I3,rfl,q3⟩⟩
  | next=>exact False.elim hq'
  | brk=>exact False.elim hq'
  | cont=>exact False.elim hq'
end
end L2
namespace L2
open PySem PySem.Spec PyProof.Rows Builtin Builtin.ObjectAttr
section
variable {prog:Program} {w:World} {A:Around} {E:Value→Shared→Prop} {h:Heap} {g:Array GenState} {d:Drawn} {t:Nat} {os:OsState} {K:PySem.W.Frag} {C e:Addr} {bm:List Value} {oe:Obj} {vs:Array Value}
theorem yH {rest:List Value}{R:Result→Shared→Prop}(X:K.In h)(x:XCl K C bm)(he:h.get? e=some oe)(hcls:oe.cls = .ref C)(hd:oe.data = .fields vs)(hsz:vs.size=6)(hrest:rest.length≤sizeLine)
  (hq:R (.ok (.ret .none)) ⟨(h.push (lD rest)).update e (Obj.mapFields (·.setIfInBounds 0 (.ref h.objs.size))),g,d,t,os⟩) :
  codeAny (model prog w) A (.call (.builtin "ValueError.__init__") ⟨.ref e::rest,[]⟩) R ⟨h,g,d,t,os⟩:=by
 obtain ⟨T,nm,q,N,bs,sn,sub,ab,col,dd,k0,k1,k2,k3,k5,hC⟩:=x.at X
 have F:=GW
 refine GA F.init.plain F.initEntry (wpAny_check_init_subT F T hC he hcls ?_)
 unfold Builtin.«BaseException.__init__»
 refine C5 (m:=newTuple rest) ?_
 unfold newTuple
 refine wpAny_newObj_type ?_ (by show rest.toArray.size≤sizeLine;rw [DA];exact hrest)
 have he₁:=C6 (h:=h) (lD rest) he
 have h0:∃ a0,vs[0]? = some a0:=⟨vs[0],FK (by omega)⟩
 obtain ⟨a0,h0⟩:=h0
 unfold BaseException.bexcPut
 refine C5 (C5 (Fg he₁ hd h0 (C5 (Fo he₁ hd (by omega) ?_))))
 cases a0 <;> first | exact wpAny_letGo (Dm hq) | exact Dm (Dm hq)
theorem j5 {bm:List Value}{self:Value}(T:OwnTail h bmV bm):refuseLoop self "__setattr__" bm=pure ():=by
 induction T with
 | base=>exact Hh.passes self
 | own _ _ _ _ ih=>rw [refuseLoop_ref];exact ih
structure Cb (h h':Heap) (e:Addr) (oe:Obj) (name:Str) (v:Value) (mA:Str→Option Value) (dx:Addr):Prop where
 ns:h'.Ns1 dx fun y=>if y=name then some v else mA y
 exc:h'.get? e=some { oe with dict:=some dx }
 keep:∀ b o,b≠e→b≠dx→h.get? b=some o→h'.get? b=some o
section
variable {name:Str} {v:Value} {mA:Str→Option Value}
set_option maxHeartbeats 1600000 in
theorem mW {tk:Tok}{Q:Fin→Shared→Prop}{ns:List Str}(X:K.In h)(x:XCl K C bm)(hna:PySem.W.findIn K (.ref C) name=some none)
  (hx:h.get? e=some oe) (hc:oe.cls = .ref C) (hnc:oe.data = .fields vs) (hd:(oe.dict=none∧∀ n,mA n=none) ∨ ∃ dx,oe.dict=some dx∧dx≠e∧h.Ns1 dx mA)
  (hq:∀ h' tk' dx,Cb h h' e oe name v mA dx→(oe.dict=none→dx=h.objs.size)→(∀ dy,oe.dict=some dy→dx=dy)→Q (.done (.ret .none)) ⟨h',g,d,tk',os⟩) (hw:Within mA ns) (hsz:ns.length≤1000) :
  wpAny (model prog w) A (Builtin.«object.__setattr__» ⟨[.ref e,.str name tk,v],[]⟩) Q E ⟨h,g,d,t,os⟩:=by
 obtain ⟨T,nm,q,N,bs,sn,sub,ab,col,dd,k0,k1,k2,k3,k5,hC⟩:=x.at X
 have hpass:=j5 (self:=.ref e) T
 have L:=Gz (M:=model prog w) X hna
 unfold Builtin.«object.__setattr__»
 repeat (first | rw [refuse_eq] | (rw [refuseLoop_ref,hpass]) | (with_reducible refine EE hx ?_;rw [hc]) | with_reducible refine wpAny_mroOf_exc hC ?_ | with_reducible refine L.at ?_ | wp_step)
 rcases hd with ⟨hdn,hmA⟩ | ⟨dx,hdx,hne,hns⟩
 ·rw [hdn,if_neg (by simp [typeHasDict])]
  split
  ·rename_i hcd
   cases hcd
  split
  ·rename_i c hcd
   rw [hnc] at hcd;cases hcd
  ·have hx₁:(h.push { cls:=.type "dict",data:=.dict #[] }).get? e=some oe:=C6 _ hx
   have hxs:e≠h.objs.size:=D5 (Do hx)
   refine C5 (wpAny_alloc' ?_)
   refine C5 (wpAny_update' hx₁ ?_)
   refine Dm ?_
   have hgd:((h.push { cls:=.type "dict",data:=.dict #[] }).update e fun o=>{ cls:=o.cls,dict:=some h.objs.size,data:=o.data,slots:=o.slots }).get? h.objs.size
     = some { cls:=.type "dict",data:=.dict #[] } :=
    (Heap.get?_update_ne _ _ _ _ hxs.symm).trans (Heap.get?_push_at rfl rfl)
   have hnd:((h.push { cls:=.type "dict",data:=.dict #[] }).update e fun o=>{ cls:=o.cls,dict:=some h.objs.size,data:=o.data,slots:=o.slots }).Ns h.objs.size (fun _=>none) :=
    ⟨_,#[],_,hgd,rfl,fun e he=>absurd he (by simp),fun _=>rfl⟩
   show wpAny _ _ (storeInDict h.objs.size (.str name tk) name v) _ _ _
   unfold storeInDict newKeyGuard
   refine C5 (Dm (C5 (wpAny_nsSet1 (Heap.Ns1.of_empty hnd) fun h' hn' hs=>?_)))
   obtain ⟨oD,esD,epD,hoD,hdD,hcD⟩:=hn'.count (Within.cons name v Within.nil)
   refine C5 (wpAny_lookBehind hoD (by rw [hdD];exact pastItsLine_dict (DO hcD (by rw [Ds,D8,E9];omega))) ?_)
   wp_walk
   refine hq h' _ h.objs.size ⟨?_,?_,fun b o hbx _ hb=>?_⟩ (fun _=>rfl) fun dy q=>by rw [hdn] at q;cases q
   ·obtain ⟨o',es,ep,e1,e2,e3,eu,e4⟩:=hn'
    exact ⟨o',es,ep,e1,e2,e3,eu,fun y=>by rw [e4 y];by_cases hy:y=name <;> simp [hy,hmA]⟩
   ·exact (hs.2 e hxs).trans (Ej _ hx₁ (EG hnc))
   ·exact (hs.2 b (D5 (Do hb))).trans ((Heap.get?_update_ne _ _ _ _ hbx).trans (C6 _ hb))
 ·rw [hdx]
  refine Dm ?_
  show wpAny _ _ (storeInDict dx (.str name tk) name v) _ _ _
  unfold storeInDict newKeyGuard
  refine C5 (Dm (C5 (wpAny_nsSet1 hns fun h' hn' hs=>?_)))
  obtain ⟨oD,esD,epD,hoD,hdD,hcD⟩:=hn'.count (Within.cons name v hw)
  refine C5 (wpAny_lookBehind hoD (by rw [hdD];exact pastItsLine_dict (DO hcD (by rw [Ds,E9];omega))) ?_)
  wp_walk
  refine hq h' _ dx ⟨hn',?_,fun b ob _ hbd hb=>(hs.2 b hbd).trans hb⟩ (fun q=>by rw [hdx] at q;cases q) fun dy q=>by rw [hdx] at q;cases q;rfl
  rw [(hs.2 e hne.symm).trans hx]
  obtain ⟨c,dd,dt,sl⟩:=oe
  simp only at hdx
  subst hdx
  rfl
theorem oX {M:Model}{nameV:Value}{Q:Unit→Shared→Prop}(X:K.In h)(x:XCl K C bm)(hx:h.get? e=some oe)(hc:oe.cls = .ref C)(hq:Q () ⟨h,g,d,t,os⟩) :
  wpAny M A (checkBuiltinCall "object.__setattr__" ⟨[.ref e,nameV,v],[]⟩) Q E ⟨h,g,d,t,os⟩:=by
 obtain ⟨T,nm,q,N,bs,sn,sub,ab,col,dd,k0,k1,k2,k3,k5,hC⟩:=x.at X
 have SF:=Hh
 have hcB:(Value.ref C::bm).contains (.type "object")=true:=by rw [List.contains_cons,T.hasType SF.hasOwner,HZ]
 have ha:=SF.args (.ref e) nameV v
 simp only [checkBuiltinCall,SF.kind,SF.split]
 refine C5 ?_
 unfold isInstance
 repeat (first | (with_reducible refine EE hx ?_;rw [hc]) | (with_reducible refine GN hC ?_;rw [hcB]) | wp_step)
 exact hq
theorem Be {Q:Unit→Shared→Prop}{ns:List Str}(X:K.In h)(x:XCl K C bm)(hsa:PySem.W.findIn K (.ref C) "__setattr__" = some (some (.builtin "object.__setattr__")))(hna:PySem.W.findIn K (.ref C) name=some none)
  (hx:h.get? e=some oe) (hc:oe.cls = .ref C) (hnc:oe.data = .fields vs) (hd:(oe.dict=none∧∀ n,mA n=none) ∨ ∃ dx,oe.dict=some dx∧dx≠e∧h.Ns1 dx mA)
  (hq:∀ h' tk' dx,Cb h h' e oe name v mA dx→(oe.dict=none→dx=h.objs.size)→(∀ dy,oe.dict=some dy→dx=dy)→Q () ⟨h',g,d,tk',os⟩) (hw:Within mA ns) (hsz:ns.length≤1000) :
  wpAny (model prog w) A (setAttr (.ref e) name v) Q E ⟨h,g,d,t,os⟩:=by
 obtain ⟨T,nm,q,N,bs,sn,sub,ab,col,dd,k0,k1,k2,k3,k5,hC⟩:=id (x.at X)
 have SF:=Hh
 have f3:=SF.slot.bind (.ref e)
 have L:=Gz (M:=model prog w) X hsa
 unfold setAttr callSpecial? specialOf
 repeat (any_goals (first | assumption | (with_reducible refine EE hx ?_;rw [hc]) | with_reducible refine L.at ?_ | wp_step))
 refine GA SF.slot.plain SF.entry (oX X x hx hc (mW X x hna hx hc hnc hd (fun h' tk' dx a b c=>?_) hw hsz))
 repeat (any_goals (first | assumption | wp_step))
 exact hq h' tk' dx a b c
end
end
end L2
namespace L2
open PySem PySem.Spec PyProof.Rows
def xdt (d:Addr)(fs:List (Str × V)):Heap→Prop:=fun h=>∃ mA,h.Ns1 d mA∧(∀ f,ny (fs.lookup f) (mA f))∧PySem.Within mA (fs.map (·.1))
abbrev Xdt (d:Addr)(fs:List (Str × V)):HO:=.ext (xdt d fs)
theorem yI {P:Program}{w:World}{H:Hp}{h:Heap}{d:Addr}{fs:List (Str × V)}(x:xdt d fs h):bw P w H h d (Xdt d fs) :=
 ⟨x,let ⟨_,⟨o,_,_,q,_⟩,_⟩:=x;⟨o,q⟩,fun _ _ y k=>let ⟨mA,n,r⟩:=y;⟨mA,n.at k,r⟩⟩
structure XAt (K:PySem.W.Frag) (C:Addr):Prop where
 cl:∃ bm,XCl K C bm
 sa:PySem.W.findIn K (.ref C) "__setattr__" = some (some (.builtin "object.__setattr__"))
 ga:PySem.W.findIn K (.ref C) "__getattribute__" = some (some (.builtin "BaseException.__getattribute__"))
 gn:PySem.W.findIn K (.ref C) "__getattr__" = some none
section
variable {X:Cx} {pins:List (Addr × Obj)} {σ:St} {H:Hp} {s:Shared} {A:Around} {E:Value→Shared→Prop} {a C:Addr} {b cx:Bool} {f:Str} {y:V} {u:Value} {Q:Unit→Shared→Prop}
theorem j6 {P:Program}{w:World}{h:Heap}{d:Option Addr}(ok:HOk P w H h)(e:H a=some (Exo a C d b cx)):exo a C d b cx h:=(ok a _ e).1
theorem rV (I:Inv X pins σ H s)(ea:H a=some (Exo a C none b cx))(x:XAt X.K C)(hna:PySem.W.findIn X.K (.ref C) f=some none)(ry:bf y u)
  (h:∀ s' dx,H dx=none→dx≠a→InvW X pins σ (upd (upd H a (Exo a C (some dx) b cx)) dx (Xdt dx [(f,y)])) s'→Q () s'):wpAny (model X.prog X.w) A (setAttr (.ref a) f u) Q E s:=by
 obtain ⟨oe,vs,g1,g2,g3,g4,g5,g6⟩:=j6 I.hok ea
 obtain ⟨bm,xc⟩:=x.cl
 obtain ⟨hh,g,dr,tk,os⟩:=s
 refine Be (mA:=fun _=>none) (ns:=[]) I.kIn xc x.sa hna g1 g2 g4 (.inl ⟨g3,fun _=>rfl⟩) (fun h' tk' dx S d1 _=>?_) (fun n hn=>absurd rfl hn) (by simp)
 have hdx:dx=hh.objs.size:=d1 g3
 have hfr:H dx=none:=I.hok.fresh (G7 hdx.symm)
 have nea:dx≠a:=fun z=>by rw [z,ea] at hfr;cases hfr
 have nin:∀ c o,hh.get? c=some o→c≠dx:=fun c o q z=>absurd (Do q) (by rw [z,hdx];exact Ed _)
 have neA:∀ c,H c=none→c≠a:=fun c n z=>by rw [z,ea] at n;cases n
 have neA':∀ c v,H c=some v→v≠Exo a C none b cx→c≠a:=fun c v q n z=>by rw [z,ea] at q;cases q;exact n rfl
 have neD:∀ c v,H c=some v→c≠dx:=fun c v q z=>by rw [z,hfr] at q;cases q
 have same:∀ c v,H c=some v→v≠Exo a C none b cx→upd (upd H a (Exo a C (some dx) b cx)) dx (Xdt dx [(f,y)]) c=some v:=fun c v q n=>by rw [ay (neD c v q),ay (neA' c v q n)];exact q
 refine h _ dx hfr nea (I.un (t':=tk') ⟨fun c o q n _ _=>S.keep c o (neA c n) (nin c o q) q,fun c o q n _ _=>⟨o.slots,S.keep c o (neA c n) (nin c o q) q⟩,
  fun c o q n _=>by rw [ay (nin c o q),ay (neA c n)];exact n,fun c o q _=>?_,fun c xs q=>same c _ q (by intro z;cases z),fun c o v q=>same c _ q (by intro z;cases z),fun c ps q=>⟨#[],by rw [same c _ q (by intro z;cases z)];simp⟩⟩ fun c v q=>?_)
 ·by_cases z:c=a
  ·subst z;exact ⟨_,S.exc⟩
  ·exact ⟨o,S.keep c o z (nin c o q) q⟩
 ·by_cases z:c=dx
  ·subst z
   rw [ag] at q;cases q
   refine yI ⟨_,S.ns,fun n=>?_,fun n hn=>?_⟩
   ·show ny (List.lookup n [(f,y)]) (if n=f then some u else none)
    by_cases z:n=f
    ·subst z;rw [if_pos rfl,Fl,EA];exact ry
    ·rw [if_neg z,Fl,GG.mpr z];exact True.intro
   ·by_cases z:n=f
    ·subst z;exact Dz
    ·exact absurd (show (if n=f then some u else none)=none by rw [if_neg z]) hn
  ·rw [ay z] at q
   by_cases y':c=a
   ·subst y'
    rw [ag] at q;cases q
    exact lA ⟨_,vs,S.exc,g2,rfl,g4,g5,g6⟩
   ·rw [ay y'] at q
    have hc:=I.hok c v q
    refine hc.stay (fun p o hp r=>S.keep p o ?_ (nin p o r) r) (fun p hp=>same p _ hp (by intro z;cases z)) fun p xs hp=>same p _ hp (by intro z;cases z)
    rcases hp with rfl | hp
    ·exact y'
    ·exact neA' p _ hp (by intro z;cases z)
end
def CM (K:PySem.W.Frag)(ta tv:TE)(f:Str):TS:=fun D σ H=>tv σ H fun y H1=>ta σ H1 fun x H2=>∃ a C b cx,x = .ref a∧H2 a=some (Exo a C none b cx)∧XAt K C∧PySem.W.findIn K (.ref C) f=some none ∧
 ∀ dx,H2 dx=none→dx≠a→D.nx σ (upd (upd H2 a (Exo a C (some dx) b cx)) dx (Xdt dx [(f,y)]))
section
variable {X:Cx} {o e value:Expr} {es:List Expr} {f x:Str} {p pos pos' apos:Pos} {ta tv te:TE} {t:TA} {R:Addr} {E:XK}
theorem t_ (ha:PE X o ta)(hv:PE X value tv)(hs:swapsWith value (some (.Attribute o f pos')) pos.line X.env=pure false):PS X (.Assign [.Attribute o f pos'] value pos) (CM X.K ta tv f):=by
 intro pins s σ H D I h
 refine plainObj_wpAny_Assign_Attribute (thn (hv pins s σ H _ I h) fun u s1 ⟨y,H1,I1,ry,q⟩=>thn (ha pins s1 σ H1 _ I1 q) fun ov s2 zq1=>?_) hs
 obtain ⟨z,H2,I2,rx,a,C,b,cx,ex,ea,c,n,q2⟩:=zq1
 subst ex
 obtain rfl:ov=Value.ref a:=rx
 exact rV I2 ea c n ry fun s3 dx h1 h2 I3=>⟨σ,_,I3,q2 dx h1 h2⟩
def yJ (K:PySem.W.Frag)(t:TA):TE:=fun σ H Q=>t σ H fun vs H1=>∃ a C d b cx rest,vs = .ref a::rest∧rest.length≤1000∧H1 a=some (Exo a C d b cx)∧XAt K C∧Q .non H1
structure rX (K:PySem.W.Frag) (R:Addr):Prop where
 rd:PySem.W.readsIn K R (.type "type")=true
 at_:PySem.W.findCls K (.ref R) (.type "type") "__init__" = some (.val (.builtin "ValueError.__init__"))
 ga:PySem.W.specialIn K (.ref R) "__getattribute__" = some (some (.builtin "type.__getattribute__"))
 hd:PySem.W.handedIn (.builtin "ValueError.__init__")=true
theorem rY {pins:List (Addr × Obj)}{σ:St}{H:Hp}{s:Shared}{A:Around}{F:Value→Shared→Prop}{Q:Value→Shared→Prop}{a C:Addr}{d:Option Addr}{b cx:Bool}{rest:List Value}(I:Inv X pins σ H s)(ea:H a=some (Exo a C d b cx))(x:XAt X.K C)(hl:rest.length≤1000)
  (h:∀ s',InvW X pins σ H s'→Q .none s'):wpAny (model X.prog X.w) A (call (.builtin "ValueError.__init__") (.ref a::rest)) Q F s:=by
 obtain ⟨oe,vs,g1,g2,g3,g4,g5,g6⟩:=j6 I.hok ea
 obtain ⟨bm,xc⟩:=x.cl
 obtain ⟨hh,g,dr,tk,os⟩:=s
 refine Hd (yH I.kIn xc g1 g2 g4 g5 (by rw [E9];omega) (h _ ?_))
 have I1:=I.kept (h':=hh.push (lD rest)) (t':=tk) (fun b u q=>C6 _ q)
 have g1':=C6 (h:=hh) (lD rest) g1
 have hd':=Ey g4 (·.setIfInBounds 0 (Value.ref hh.objs.size))
 have e':=Ej (Obj.mapFields (·.setIfInBounds 0 (Value.ref hh.objs.size))) g1' (EG hd')
 have I2:=I1.write (t':=tk) (x:=a) (e:=a) (h':=(hh.push (lD rest)).update a (Obj.mapFields (·.setIfInBounds 0 (Value.ref hh.objs.size)))) (o:=Exo a C d b cx) (by rw [ea];exact True.intro) (.inl rfl) (fun c o hc q=>(DR _ _ (Ne.symm hc)).trans q) ⟨_,e'⟩
  (lA ⟨_,_,e',(Hf _ _).trans g2,by
   rw [← g3]
   obtain ⟨c1,c2,c3,c4⟩:=oe
   cases c3 <;> rfl,hd',by rw [Array.size_setIfInBounds];exact g5,(fun z=>by rw [E_ (by decide)];exact g6.1 z),fun z=>by rw [E_ (by decide)];exact g6.2 z⟩)
 rwa [lC ea] at I2
theorem lE {pl:Sem Bool}(B:rX X.K R)(hg:Gl X x)(hm:X.mg x=some (.ref R))(ha:PA X (e::es) t)(hdb:(x == ("__debug__":Str))=false:=by decide)
  (hst:starEach (e::es) X.env=(false,eval e X.env)::starEach es X.env:=by rfl) (hpl:(backTo pos (starEach es X.env)).any (·.1)=false:=by rfl)
  (ht:eval (.Call (.Attribute (.Name x p) "__init__" apos) (e::es) [] pos) X.env=(do
   let ov ← eval (.Name x p) X.env
   standAt apos.atName
   let (f,first) ← holding [ov] (getMethod ov "__init__" pl)
   callWith pos f first (backTo pos (starEach (e::es) X.env)) (backToKw pos (keywordEach [] X.env))):=by rfl) :
  PE X (.Call (.Attribute (.Name x p) "__init__" apos) (e::es) [] pos) (yJ X.K t):=by
 intro pins s σ H Q I h
 refine PySem.W.methodCall_KW (pl:=pl) (c9 I hg hm ?_ hdb) ht
 refine PySem.W.method_cls I.kIn B.ga (PySem.W.cls_value I.kIn B.rd B.at_ B.hd ?_)
 refine Gr (thn (ha pos pins _ σ H _ ((I.tok _).up (Hi I.low)) h) (fun us s2 zq3=>?_) (Hi I.low)) hst hpl
 obtain ⟨vs,H2,I2,r,a,C,d,b,cx,rest,ev,hl,ea,xa,q2⟩:=zq3
 subst ev
 cases r with
 | cons r1 r2 =>
  obtain rfl:_=Value.ref a:=r1
  exact rY I2 ea xa (by rw [← r2.length];exact hl) fun s3 I3=>⟨.non,H2,I3,rfl,q2⟩
def oY (K:PySem.W.Frag)(te:TE)(E:XK):TS:=fun D σ H=>te σ H fun v H1=>∃ a C d cx,v = .ref a∧H1 a=some (Exo a C d true cx)∧XAt K C∧E (.ref a) none (upd H1 a (Exo a C d false cx))
theorem dD (hx:tZ X E)(hc:X.calm=true)(he:PE X e te):PS X (.Raise (some e) none pos) (oY X.K te E):=by
 intro pins s σ H D I h
 rw [arm_exec_Raise]
 refine C5 (Hm ?_)
 unfold raiseStmt
 refine C5 (C5 (thn (he pins s σ H _ I h) fun v s1 ⟨y,H1,I1,ry,a,C,d,cx,ey,ea,xa,q⟩=>C5 (Hm (Dm ?_))))
 subst ey
 obtain rfl:v=Value.ref a:=ry
 have fin:=hx pins σ H1 s1 a C d cx I1 ea q
 obtain ⟨⟨oc,od,odt,osl⟩,vs,g1,g2,g3,g4,g5,g6⟩:=j6 I1.hok ea
 simp only at g2 g3 g4
 subst g2 g3 g4
 obtain ⟨bm,xc⟩:=xa.cl
 obtain ⟨T,nm,q,N,bs,sn,sub,ab,col,dd,k0,k1,k2,k3,k5,hC⟩:=xc.at I1.kIn
 have hcB:(Value.ref C::bm).contains (.type "BaseException")=true:=by rw [List.contains_cons,T.hasType GW.hasBase,HZ]
 have hh:=I1.ok.hd hc
 obtain ⟨hp,g,dr,tk,os⟩:=s1
 repeat (first | with_reducible refine EE g1 ?_ | with_reducible refine EE hC ?_ | (with_reducible refine GN hC ?_;rw [hcB]) | wp_step)
 rw [g6.1 rfl]
 refine Dm ?_
 rw [if_neg (by decide)]
 exact Dm (wpAny_raiseNew_none hh fin)
end
section
variable {prog:Program} {w:World} {A:Around} {E:Value→Shared→Prop} {s:Shared} {K:PySem.W.Frag} {C a:Addr} {bm:List Value} {oe:Obj} {od:Option Obj} {name:Str} {fill expr:Bool} {tk:Tok}
end
structure XCa (K:PySem.W.Frag) (C:Addr):Prop where
 at_:XAt K C
 ca:PySem.W.findIn K (.ref C) "__class__" = some (some (.builtin "object.__class__"))
 gt:PySem.W.specialIn K (.builtin "object.__class__") "__get__" = some (some (.builtin "getset_descriptor.__get__"))
 tk:PySem.W.takesIn K (.builtin "object.__class__")=some true
section
variable {X:Cx} {pins:List (Addr × Obj)} {σ:St} {H:Hp} {s:Shared} {A:Around} {E:Value→Shared→Prop} {a C dx:Addr} {b cx:Bool} {fs:List (Str × V)} {f:Str} {v:V}
end
section
variable {X:Cx} {e:Expr} {f:Str} {pos:Pos} {ta:TE}
end
section
variable {X:Cx} {pins:List (Addr × Obj)} {σ:St} {H:Hp} {s:Shared}
end
section
variable {M:Model} {A:Around} {E:Value→Shared→Prop} {s:Shared}
end
structure yK (P:Program) (w:World) (K:PySem.W.Frag) (mg:Str→Option Value) (base:Heap) (x:Str) (ps:List Str) (k:Nat) (sp:Sp):Prop where
 ex:∃ (f:Addr) (fd:FuncData),mg x=some (.ref f)∧PySem.W.keepIn K (.ref f)=true∧dS K fd ps []∧qS P w K mg base (CXe P w) k f fd ps sp
theorem Df.okX {P:Program}{w:World}{K:PySem.W.Frag}{mg:Str→Option Value}{base:Heap}{x:Str}{st:Stmt}{N ps:List Str}{k:Nat}{sp:Sp}(D:Df K mg x st)(S:ax N ps (ai st))
  (hb:∀ (kV doc pm:Value) (an:Option Addr) (cdv ct:Value) (us:List Value),us.length=ps.length→bindArgs (PySem.W.fnOf x x (bo st) (aY st) (ai st) .none kV doc pm an cdv ct) ⟨us,[]⟩=pure (ps.zip us))
  (len:∀ vs H Q E,sp vs H Q E→vs.length=ps.length)
  (hbody:∀ (f:Addr) (cdv:Value) (A:Around) (outer:List Env) (s:Shared) (H:Hp) (vs:List V) (Q:VK) (E:XK),cL k (A.deeper (envOfC x (ai st) s.heap.objs.size f cdv))→sp vs H Q E →
   ∃ t,PSs (gP (CXe P w) P w K mg base N x (ai st) f cdv A outer s H E) (aY st) t∧t { nx:=fun _ H'=>Q .non H',rt:=Q } (start N vs) H):yK P w K mg base x ps (k+1) sp:=by
 obtain ⟨f,fd,hm,F⟩:=D.ex
 refine ⟨f,fd,hm,F.kp,F.binds hb,?_⟩
 obtain ⟨oc,od,kV,doc,pm,an,cdv,ct,osl,rfl,lk,hcd⟩:=F.ex
 exact x_ lk hcd S len fun A outer s H vs Q E hr hsp=>hbody f cdv A outer s H vs Q E hr hsp
section
variable {X:Cx} {E:XK} {x:Str} {ps:List Str} {k j:Nat} {sp:Sp} {e a b:Expr} {es:List Expr} {t:TA} {te tb:TE} {tt:TT} {p pos pos':Pos}
theorem ua (F:yK X.prog X.w X.K X.mg X.base x ps j sp)(hr:cL k X.A)(hj:j≤k)(hx:dm (CXe X.prog X.w) X E)(hg:Gl X x)(ha:PA X (e::es) t)
  (hdb:(x == ("__debug__":Str))=false:=by decide) (he:starEach (e::es) X.env=(false,eval e X.env)::starEach es X.env:=by rfl) (hpl:(backTo pos (starEach es X.env)).any (·.1)=false:=by rfl) :
  PE X (.Call (.Name x p) (e::es) [] pos) (uV sp [] E t):=by
 obtain ⟨f,fd,hm,hk,hb,F⟩:=F.ex
 exact nU F (hr.mono hj) hg hm hk hb .nil hx ha hdb he hpl
end
section
variable {K:PySem.W.Frag} {C R N:Addr} {dd d0:Option Addr} {c0 oc:Value} {cd cdR:ClassData} {k0 k1 k2 k3 k5:Option Value} {sl sl':Array (Option Value)} {es:Array DictEntry} {n:Nat} {bm bm':List Value}
theorem fw:PySem.W.tailIn K bmV bmV=true:=by
 unfold PySem.W.tailIn
 rw [EA];rfl
theorem oZ (l:K.lookup N=some ⟨oc,d0,.dict es n,sl'⟩)(h:(es.toList.all fun e=>match e.key with | .str _ _=>true | _=>false)=true):PySem.W.nsOkIn K N=true:=by
 unfold PySem.W.nsOkIn;rw [l];dsimp only;rw [← Hw];exact h
theorem lF (l:K.lookup R=some ⟨c0,d0,.cls cdR,sl⟩)(ok:PySem.W.nsOkIn K cdR.ns=true)(ni:PySem.W.nsIn K cdR.ns "__init__" = some none)(t:PySem.W.tailIn K bmV bm=true):PySem.W.tailIn K bmV (.ref R::bm)=true:=by
 unfold PySem.W.tailIn
 simp only [l,ok,ni,t,EA,Bool.and_self,HZ]
theorem o7 (l:K.lookup C=some ⟨.type "type",dd,.cls cd,#[k0,k1,k2,k3,some (.builtin "ValueError.__new__"),k5]⟩)(m:cd.mro = .ref C::bm)(h1:cd.hasDel=false)(h2:cd.hasDict=true)(t:PySem.W.tailIn K bmV bm=true)(kp:PySem.W.keepIn K (.ref C)=true):XCl K C bm :=
 ⟨⟨dd,cd,k0,k1,k2,k3,k5,l,m,h1,h2⟩,t,kp⟩
end
def rZ:List (Str × V)→List (Str × V)→List (Str × V)
 | acc,[]=>acc
 | acc,(f,y)::r=>rZ (B2 f y acc) r
inductive lG (names:List Str)(C:Addr)(vs:List V)(H:Hp)(Q:VK)(E:XK):Prop
 | mk:∀ a ys b cx,(vs = .ref a::ys)→(ys.length=names.length)→(H a=some (Exo a C none b cx))→(∀ dx,H dx=none→dx≠a→Q .non (upd (upd H a (Exo a C (some dx) b cx)) dx (Xdt dx (rZ [] (names.zip ys)))))→lG names C vs H Q E
structure XMk (P:Program) (w:World) (K:PySem.W.Frag) (mg:Str→Option Value) (base:Heap) (x:Str) (C:Addr) (names:List Str) (k:Nat):Prop where
 at_:mg x=some (.ref C)
 ca:XCa K C
 no:∀ f∈names,PySem.W.findIn K (.ref C) f=some none
 ex:∃ (f:Addr) (fd:FuncData) (bm:List Value),XCl K C bm∧PySem.W.findIn K (.ref C) "__init__" = some (some (.ref f))∧PySem.W.isFn K (.ref f)=true∧dS K fd ("self" :: names) []∧qS P w K mg base CX0 k f fd ("self" :: names) (lG names C)
def vp (C:Addr)(names:List Str)(t:TA):TE:=fun σ H Q=>t σ H fun ys H1=>ys.length=names.length∧names.length≤900∧∀ a dx,H1 a=none→H1 dx=none→dx≠a →
 Q (.ref a) (upd (upd H1 a (Exo a C (some dx) true true)) dx (Xdt dx (rZ [] (names.zip ys))))
section
variable {X:Cx} {x:Str} {C:Addr} {names:List Str} {k j:Nat} {e:Expr} {es:List Expr} {t:TA} {p pos:Pos}
theorem r6 (M:XMk X.prog X.w X.K X.mg X.base x C names j)(hr:cL k X.A)(hj:j+1≤k)(hg:Gl X x)(ha:PA X (e::es) t)
  (hdb:(x == ("__debug__":Str))=false:=by decide) (he:starEach (e::es) X.env=(false,eval e X.env)::starEach es X.env:=by rfl) (hpl:(backTo pos (starEach es X.env)).any (·.1)=false:=by rfl) :
  PE X (.Call (.Name x p) (e::es) [] pos) (vp C names t):=by
 obtain ⟨f,fd,bm,xc,hi,hf,hb,F⟩:=M.ex
 intro pins s σ H Q I h
 refine Ft (c9 I hg M.at_ ?_ hdb)
 refine G3 (h₀:=X.base) I.ok.mod.kin xc.kp (thn (ha pos pins s σ H _ I h) fun us s1 ⟨vs,H1,I1,r,hl,hn,q⟩=>⟨I1.kIn,?_⟩) he hpl
 refine oW (k:=j) xc hi hf F (hr.mono hj) hb I1 r ⟨by omega,fun a h0=>⟨a,vs,true,true,rfl,hl,ag ..,fun dx hdx ne=>⟨rfl,?_⟩⟩⟩
 rw [eV]
 exact q a dx h0 (by rw [ay ne] at hdx;exact hdx) ne
end
section
variable {K:PySem.W.Frag} {C dx a:Addr} {b:Bool} {H:Hp}
end
section
variable {X:Cx} {K:PySem.W.Frag} {e:Expr} {f:Str} {pos:Pos} {ta:TE}
end
section
variable {X:Cx} {E:XK} {e a b c:Expr} {te ta tb:TE} {tA:TT} {pos:Pos}
end
end L2
namespace L2
open PySem PySem.Spec PyProof.Rows Wd
section
variable {X:Cx}
theorem o8 {i o:Expr}{ty td:TE}{pos:Pos}(hu:X.A.units+1 < cLine)(hi:PE X i ty)(ho:PE X o td)(h1:behindInMarks .NotIn o=false):PT X (.Compare i [.NotIn] [o] pos) (tB (oj ty td)):=xQ (om hu hi ho) h1
end
end L2
namespace L2
open PySem PySem.Spec PyProof.Rows
section
variable {X:Cx}
theorem gv {i j:Int}{its:List Value}(r:aV [.int i,.int j] its):∃ t u,its=[.int i t,.int j u]:=by
 obtain ⟨u1,u2,rfl,⟨t1,rfl⟩,⟨t2,rfl⟩⟩:=x8 r
 exact ⟨t1,t2,rfl⟩
def nAt (i j:Int)(k:Nat):Int:=if k=0 then i else j
end
section
variable {prog:Program} {w:World} {A:Around} {E:Value→Shared→Prop} {s:Shared}
end
section
variable {X:Cx}
end
end L2
namespace Wd
structure Srf (u:List L):Prop where
 ne:u≠[]
 nd:u.Nodup
 iv:∀ x∈u,inv x∈u
 le:u.length≤12
theorem Srf.pos {u:List L}(S:Srf u):0 < u.length:=D4.mpr S.ne
def dZ (u:List L)(g:Nat):L:=u.getD ((g+1) % u.length) 0
def cj (u:List L)(g:Nat):Nat:=u.idxOf (inv (dZ u g))
theorem cO {u:List L}(S:Srf u)(g:Nat):u[(g+1) % u.length]? = some (dZ u g):=by
 have h:=Nat.mod_lt (g+1) S.pos
 unfold dZ
 rw [Dx,fu h]
 rfl
theorem iu {u:List L}(S:Srf u)(g:Nat):dZ u g∈u:=DP (cO S g)
theorem dE {u:List L}(S:Srf u)(g:Nat):cj u g < u.length:=EW (S.iv _ (iu S g))
structure Sn (u:List L) (S:List Nat):Prop where
 nd:S.Nodup
 lt:∀ g∈S,g < u.length
theorem o9:∀ (n:Nat) (S:List Nat),S.Nodup→(∀ g∈S,g < n)→S.length≤n
 | 0,S,_,h=>by
  cases S with
  | nil=>exact Da _
  | cons a r=>exact absurd (h a Dz) (FY _)
 | n+1,S,nd,h=>by
  by_cases hn:n∈S
  ·have q:=o9 n (S.erase n) (nd.erase n) fun g hg=>by
    have:=(List.Nodup.mem_erase_iff nd).mp hg
    have:=h g this.2
    omega
   rw [FR hn] at q
   omega
  ·have q:=o9 n S nd fun g hg=>by
    have h1:=h g hg
    have h2:g≠n:=fun e=>hn (e ▸ hg)
    omega
   omega
theorem Sn.le {u:List L}{S:List Nat}(h:Sn u S):S.length≤u.length:=o9 _ _ h.nd h.lt
theorem Sn.snoc {u:List L}{S:List Nat}(h:Sn u S){g:Nat}(hg:g < u.length)(hn:g∉S):Sn u (S++[g]):=by
 refine ⟨?_,fun x hx=>?_⟩
 ·rw [Eh]
  refine ⟨h.nd,by simp,fun a ha b hb e=>?_⟩
  rw [De] at hb
  subst hb
  exact hn (e ▸ ha)
 ·rcases DB.mp hx with h1 | h1
  ·exact h.lt x h1
  ·rw [De] at h1
   exact h1 ▸ hg
theorem Sn.nil (u:List L):Sn u []:=⟨Fq,fun _ h=>absurd h (by simp)⟩
def vq (u:List L):Nat→Nat→List Nat→List L→List Nat × List L
 | 0,_,S,w=>(S,w)
 | n+1,g,S,w=>if g∈S then (S,w) else vq u n (cj u g) (S++[g]) (w++[dZ u g])
def wk (u:List L)(g:Nat)(S:List Nat)(w:List L):List Nat × List L:=vq u (u.length+1 - S.length) g S w
theorem yL {u:List L}{g:Nat}{S:List Nat}{w:List L}(h:g∈S):wk u g S w=(S,w):=by
 unfold wk
 cases u.length+1 - S.length with
 | zero=>rfl
 | succ n=>unfold vq;rw [if_pos h]
theorem ub {u:List L}{g:Nat}{S:List Nat}{w:List L}(hs:Sn u S)(hg:g < u.length)(h:g∉S):wk u g S w=wk u (cj u g) (S++[g]) (w++[dZ u g]):=by
 have h1:=(hs.snoc hg h).le
 rw [C8,DX] at h1
 unfold wk
 rw [C8,DX]
 have e:u.length+1 - S.length=(u.length+1 - (S.length+1))+1:=by omega
 rw [e]
 show (if g∈S then (S,w) else _)=_
 rw [if_neg h]
def dk (u:List L):Nat→List Nat × List (List L)
 | 0=>([],[])
 | i+1=>if i∈(dk u i).1 then dk u i else ((wk u i (dk u i).1 []).1,(dk u i).2++[(wk u i (dk u i).1 []).2])
theorem j7 (u:List L):∀ i,(dk u i).2.length≤i
 | 0=>Da _
 | i+1=>by
  have:=j7 u i
  unfold dk
  split
  ·omega
  ·show ((dk u i).2++[_]).length≤i+1
   rw [C8,DX]
   omega
theorem jt {u:List L}{i:Nat}(h:i∈(dk u i).1):dk u (i+1)=dk u i:=by
 show (if _ then _ else _)=_
 rw [if_pos h]
theorem iw {u:List L}{i:Nat}(h:i∉(dk u i).1):dk u (i+1)=((wk u i (dk u i).1 []).1,(dk u i).2++[(wk u i (dk u i).1 []).2]):=by
 show (if _ then _ else _)=_
 rw [if_neg h]
def fam (k:Nat):List L:=(List.range k).flatMap fun j=>if h:j < 6 then [⟨j,by omega⟩,⟨j+6,by omega⟩] else []
theorem uc:∀ k:Fin 7,(fam k.val).Nodup∧(∀ x∈fam k.val,inv x∈fam k.val)∧(fam k.val).length=2*k.val:=by decide
theorem yM {k:Nat}{u:List L}(h1:1≤k)(h6:k≤6)(p:u.Perm (fam k)):Srf u:=by
 obtain ⟨a,b,c⟩:=uc ⟨k,by omega⟩
 have hl:=p.length_eq
 have c:(fam k).length=2*k:=c
 refine ⟨fun e=>?_,(p.nodup_iff).mpr a,fun x hx=>p.mem_iff.mpr (b x (p.mem_iff.mp hx)),by omega⟩
 subst e
 rw [c] at hl
 simp at hl
 omega
def hol (u:List L):List (List L):=(dk u u.length).2
end Wd
namespace Kx
open PySem PySem.Spec PyProof.Rows L2 Wd
theorem o_ (u:List L)(x:L)(i:Nat):StrLaws.At (toS u) (toS [x]) (toS u).length i ↔ u[i]? = some x:=by
 unfold StrLaws.At
 rw [ae,ae,StrLaws.subAt_eq,ae,a_,a_,HX,← List.map_drop,← List.map_take]
 simp only [DX]
 constructor
 ·rintro ⟨h1,h2⟩
  have h2:=dW h2
  have:(u.drop i).take 1=[u[i]]:=by rw [Er (by omega)];rfl
  rw [this] at h2
  rw [fu (by omega)]
  exact DH some (E4 h2).1
 ·intro h
  obtain ⟨hl,e⟩:=Dd.mp h
  refine ⟨by omega,?_⟩
  rw [Er hl,e]
  rfl
theorem ju {u:List L}{x:L}(h:x∈u):∃ rest,Builtin.Str.occurrences (toS u) (toS [x]) 0 (toS u).length 1=u.idxOf x::rest:=by
 have hlt:=EW h
 have hx:u[u.idxOf x]? = some x:=by rw [fu hlt];exact DH some (EJ hlt)
 rcases StrLaws.occ_head (toS u) (toS [x]) 1 (Da 1) with ⟨h0,hn⟩ | ⟨i,r,h0,hi,hn⟩
 ·exact absurd ((o_ u x _).mpr hx) (hn _)
 ·refine ⟨r,?_⟩
  rw [h0]
  have hi:=(o_ u x i).mp hi
  have:i=u.idxOf x:=by
   rcases Nat.lt_trichotomy i (u.idxOf x) with h1 | h1 | h1
   ·have q:=List.not_of_lt_findIdx (p:=(· == x)) h1
    obtain ⟨hl,e⟩:=Dd.mp hi
    exact absurd (HX.mpr e) (by simpa using q)
   ·exact h1
   ·exact absurd ((o_ u x _).mpr hx) (hn _ h1)
  rw [this]
def sk (S:List Nat):List (Key × V):=S.map fun g:Nat=>(Sum.inl (g:Int),V.bl true)
theorem pe (S:List Nat)(g:Nat):(eK (sk S) (Sum.inl (g:Int))).isSome=decide (g∈S):=by
 rw [← eM]
 unfold sk
 rw [List.any_map,DT,List.any_eq_true,Dl]
 constructor
 ·rintro ⟨x,hx,e⟩
  have e:(Sum.inl (x:Int):Key)=Sum.inl (g:Int):=ES e
  have e:=Sum.inl.inj e
  have:x=g:=by omega
  exact this ▸ hx
 ·intro h
  exact ⟨g,h,C_ rfl⟩
theorem yN {S:List Nat}{g:Nat}(h:g∉S):eD (sk S) (Sum.inl (g:Int)) (V.bl true)=sk (S++[g]):=by
 have e:=pe S g
 rw [C7 h] at e
 rw [rE _ (by cases h:eK (sk S) (Sum.inl (g:Int)) with | none=>rfl | some v=>rw [h] at e;cases e)]
 unfold sk
 rw [DU]
 rfl
theorem yO (S:List Nat):(sk S).length=S.length:=by unfold sk; rw [C4]
inductive ph (vs:List V)(H:Hp)(Q:VK)(u3_:XK):Prop
 | mk:∀ (u:List L) (g:Nat) (a:Addr) (S:List Nat),(vs=[tx u,.int g,.ref a])→(Srf u)→(g < u.length)→(Sn u S)→(H a=some (.dK (sk S)))→(∀ H',H' a=some (.dK (sk (wk u g S []).1))→Sn u (wk u g S []).1→bL a H H'→Q (tx (wk u g S []).2) H')→ph vs H Q u3_
inductive iy (vs:List V)(H:Hp)(Q:VK)(u3_:XK):Prop
 | mk:∀ u,(vs=[tx u])→(Srf u)→(∀ (l:Addr) (H':Hp),H l=none→H' l=some (.lst ((hol u).map tx))→aA H H'→Q (.ref l) H')→iy vs H Q u3_
inductive fz (vs:List V)(H:Hp)(Q:VK)(u3_:XK):Prop
 | mk:∀ u,(vs=[tx u])→(Srf u)→(∀ (H':Hp),aA H H'→Q (.int ((1+(u.length:Int) / 2 - ((hol u).length:Int)) / 2)) H')→fz vs H Q u3_
theorem vt (u:List L)(i:Nat):((dk u i).2.map tx).length≤i:=by
 rw [C4]
 exact j7 u i
end Kx
namespace Wd
def rot (w:List L)(p:Nat):List L:=w.drop p++w.take p
structure SK (u:List L) (k:Nat):Prop where
 pm:u.Perm (fam k)
 lo:1≤k
 hi:k≤6
theorem SK.srf {u:List L}{k:Nat}(h:SK u k):Srf u:=yM h.lo h.hi h.pm
theorem vv {k:Nat}(h:k≤6):(fam k).length=2*k:=(uc ⟨k,by omega⟩).2.2
theorem SK.len {u:List L}{k:Nat}(h:SK u k):u.length=2*k:=by rw [h.pm.length_eq,vv h.hi]
theorem vw:∀ (k:Fin 7) (x:L),x∈fam k.val ↔ x.val % 6 < k.val:=by decide
theorem SK.mem {u:List L}{k:Nat}(h:SK u k)(x:L):x∈u ↔ x.val % 6 < k:=by
 rw [h.pm.mem_iff]
 exact vw ⟨k,by have:=h.hi;omega⟩ x
theorem d3:∀ x:L,(inv x).val % 6=x.val % 6:=by decide
theorem b5 {u:List L}(nd:u.Nodup){i:Nat}{x:L}(h:u[i]? = some x):u.idxOf x=i:=by
 obtain ⟨hi,e⟩:=Dd.mp h
 subst e
 exact List.Nodup.idxOf_getElem nd i hi
theorem j8 {u:List L}{x:L}(h:x∈u):u[u.idxOf x]? = some x:=by
 have hlt:=EW h
 rw [fu hlt]
 exact DH some (EJ hlt)
theorem bq {u:List L}{x:L}(h:x∈u):u.idxOf x < u.length:=EW h
theorem bU {u:List L}{x y:L}(hx:x∈u)(hy:y∈u)(h:u.idxOf x=u.idxOf y):x=y:=by
 have h1:=j8 hx
 have h2:=j8 hy
 rw [h,h2] at h1
 exact (Dp h1).symm
def rfI (u:List L)(a b:L):Int:=((u.idxOf b:Int) - (u.idxOf a:Int)) % (u.length:Int)
theorem vz {n a b:Nat}(ha:a < n)(hb:b < n):((b:Int) - (a:Int)) % (n:Int)=if a≤b then (b:Int) - a else (b:Int) - a+n:=by
 split
 ·exact FE (by omega) (by omega)
 ·have:(b:Int) - a=((b:Int) - a+n)+(n:Int)*(-1):=by omega
  rw [this,Int.add_mul_emod_self_left,FE (by omega) (by omega)]
  omega
theorem cg {u:List L}{a b:L}(ha:a∈u)(hb:b∈u):rfI u a b=if u.idxOf a≤u.idxOf b then (u.idxOf b:Int) - (u.idxOf a:Int) else (u.idxOf b:Int) - (u.idxOf a:Int)+(u.length:Int):=vz (bq ha) (bq hb)
def ic (u:List L)(x z:L):Int:=if rfI u x z < rfI u x (inv x) then 1 else 0
def sd (u:List L)(x y:L):Int:=ic u x y - ic u x (inv y)
structure xF (u:List L) (x y:L):Prop where
 mx:x∈u
 mX:inv x∈u
 my:y∈u
 mY:inv y∈u
 n1:u.idxOf x≠u.idxOf (inv x)
 n2:u.idxOf x≠u.idxOf y
 n3:u.idxOf x≠u.idxOf (inv y)
 n4:u.idxOf (inv x)≠u.idxOf y
 n5:u.idxOf (inv x)≠u.idxOf (inv y)
 n6:u.idxOf y≠u.idxOf (inv y)
theorem vA {u:List L}(U:Srf u){x y:L}(hx:x∈u)(hy:y∈u)(h1:x≠y)(h2:x≠inv y):xF u x y:=by
 have hX:=U.iv x hx
 have hY:=U.iv y hy
 refine ⟨hx,hX,hy,hY,fun e=>cC x (bU hx hX e).symm,fun e=>h1 (bU hx hy e),fun e=>h2 (bU hx hY e),fun e=>h2 ?_,fun e=>h1 ?_,fun e=>cC y (bU hy hY e).symm⟩
 ·rw [← bU hX hy e,aT]
 ·have:=DH inv (bU hX hY e)
  rw [aT,aT] at this
  exact this
theorem xF.swap {u:List L}{x y:L}(F:xF u x y):xF u y x:=⟨F.my,F.mY,F.mx,F.mX,F.n6,F.n2.symm,F.n4.symm,F.n3.symm,F.n5.symm,F.n1⟩
theorem vB {u:List L}{x y:L}(F:xF u x y):sd u y x = - sd u x y:=by
 have a1:=bq F.mx
 have a2:=bq F.mX
 have a3:=bq F.my
 have a4:=bq F.mY
 have n1:=F.n1;have n2:=F.n2;have n3:=F.n3;have n4:=F.n4;have n5:=F.n5;have n6:=F.n6
 unfold sd ic
 rw [cg F.mx F.my,cg F.mx F.mX,cg F.mx F.mY,cg F.my F.mx,cg F.my F.mY,cg F.my F.mX]
 generalize u.idxOf x=a at *
 generalize u.idxOf (inv x)=b at *
 generalize u.idxOf y=c at *
 generalize u.idxOf (inv y)=d at *
 generalize u.length=n at *
 grind
def jv:Nat→(Nat→Int)→Int
 | 0,_=>0
 | n+1,f=>jv n f+f n
theorem d4 {f g:Nat→Int}:∀ (n:Nat),(∀ i,i < n→f i=g i)→jv n f=jv n g
 | 0,_=>rfl
 | n+1,h=>by
  show jv n f+f n=jv n g+g n
  rw [d4 n fun i hi=>h i (by omega),h n (by omega)]
theorem jw {f:Nat→Int}(n:Nat)(h:∀ i,i < n→f i=0):jv n f=0:=by
 rw [d4 n h]
 clear h
 induction n with
 | zero=>rfl
 | succ n ih =>
  show jv n (fun _=>0)+0=0
  rw [ih]
  rfl
theorem lH (f g:Nat→Int):∀ n,jv n (fun i=>f i+g i)=jv n f+jv n g
 | 0=>rfl
 | n+1=>by
  show jv n (fun i=>f i+g i)+(f n+g n)=(jv n f+f n)+(jv n g+g n)
  rw [lH f g n]
  omega
theorem fA {f:Nat→Int}{j:Nat}:∀ (n:Nat),j < n→(∀ i,i < n→i≠j→f i=0)→jv n f=f j
 | 0,h,_=>absurd h (FY _)
 | n+1,h,hz=>by
  show jv n f+f n=f j
  by_cases e:j=n
  ·subst e
   rw [jw j fun i hi=>hz i (by omega) (by omega),G8]
  ·rw [fA n (by omega) fun i hi=>hz i (by omega),hz n (by omega) (fun e'=>e e'.symm),Int.add_zero]
def lt6 (j:Nat):L:=if h:j < 12 then ⟨j,h⟩ else 0
def dfi (w:List L)(x:L):Int:=((w.count x:Nat):Int) - ((w.count (inv x):Nat):Int)
theorem pj {j:Nat}(h:j < 6):(lt6 j).val=j:=by
 unfold lt6
 rw [dif_pos (by omega)]
theorem pk:∀ x:L,x.val < 6→(inv x).val=x.val+6:=by decide
theorem SK.four {u:List L}{k:Nat}(h:SK u k){x y:Nat}(hx:x < k)(hy:y < k)(hn:x≠y):xF u (lt6 x) (lt6 y):=by
 have h6:=h.hi
 have vx:=pj (show x < 6 by omega)
 have vy:=pj (show y < 6 by omega)
 refine vA h.srf ((h.mem _).mpr (by rw [vx];omega)) ((h.mem _).mpr (by rw [vy];omega)) (fun e=>hn ?_) (fun e=>?_)
 ·rw [← vx,← vy,e]
 ·have:=pk (lt6 y) (by omega)
  rw [← e] at this
  omega
theorem vC (v w:List L)(x:L):dfi (v++w) x=dfi v x+dfi w x:=by
 unfold dfi
 rw [List.count_append,List.count_append]
 omega
theorem vD (x:L):dfi [] x=0:=rfl
def tau (u:List L)(y l:L):Int:=if l=y ∨ l=inv y then 0 else ic u y (inv l) - ic u y l
def Bf (u:List L)(y:L):List L→Int
 | []=>0
 | l::w=>tau u y l+Bf u y w
theorem pz (l x:L):dfi [l] x=(if l=x then 1 else 0) - (if l=inv x then 1 else 0):=by
 have c:∀ a b:L,(([a].count b:Nat):Int)=if a=b then 1 else 0:=fun a b=>by
  rw [List.count_singleton]
  by_cases h:a=b
  ·rw [if_pos h,h]
   simp
  ·rw [if_neg h]
   simp [h]
 unfold dfi
 rw [c,c]
theorem pA:∀ l:L,l=lt6 (l.val % 6) ∨ l=inv (lt6 (l.val % 6)):=by decide
theorem pB:∀ (l:L) (x:Fin 6),x.val≠l.val % 6→l≠lt6 x.val∧l≠inv (lt6 x.val):=by decide
theorem ud:∀ l:L,¬ (l=lt6 (l.val % 6)∧l=inv (lt6 (l.val % 6))):=by decide
theorem Bg {u:List L}{k:Nat}(h:SK u k){y:Nat}(hy:y < k){l:L}(hl:l∈u):jv k (fun x=>if x=y then 0 else dfi [l] (lt6 x)*sd u (lt6 x) (lt6 y))=tau u (lt6 y) l:=by
 have h6:=h.hi
 have hj:=(h.mem l).mp hl
 rw [fA k hj]
 ·unfold tau
  by_cases e:l.val % 6=y
  ·subst e
   rw [if_pos rfl,if_pos (pA l)]
  ·rw [if_neg e]
   have q:=pB l ⟨y,by omega⟩ (fun z=>e z.symm)
   rw [if_neg (fun z=>z.elim q.1 q.2),pz]
   have F:=h.four hj hy e
   have an:=vB F.swap
   rcases pA l with e1 | e1
   ·have e2:¬ l=inv (lt6 (l.val % 6)):=fun z=>ud l ⟨e1,z⟩
    rw [if_pos e1,if_neg e2,an,← e1]
    unfold sd
    omega
   ·have e2:¬ l=lt6 (l.val % 6):=fun z=>ud l ⟨z,e1⟩
    have e3:lt6 (l.val % 6)=inv l:=by rw [e1,aT,← e1]
    rw [if_neg e2,if_pos e1,an,e3]
    unfold sd
    rw [aT]
    omega
 ·intro i hi hn
  by_cases e:i=y
  ·rw [if_pos e]
  ·rw [if_neg e,pz]
   have q:=pB l ⟨i,by omega⟩ hn
   rw [if_neg q.1,if_neg q.2]
   omega
theorem z_all {u:List L}{k:Nat}(h:SK u k){y:Nat}(hy:y < k):∀ w:List L,(∀ l∈w,l∈u)→jv k (fun x=>if x=y then 0 else dfi w (lt6 x)*sd u (lt6 x) (lt6 y))=Bf u (lt6 y) w
 | [],_=>jw k fun x _=>by
  split
  ·rfl
  ·rw [vD,Int.zero_mul]
 | l::w,hw=>by
  have ih:=z_all h hy w fun z hz=>hw z (Dg _ hz)
  show _=tau u (lt6 y) l+Bf u (lt6 y) w
  rw [← ih,← Bg h hy (hw l Dz),← lH]
  refine d4 k fun x _=>?_
  have e:dfi (l::w) (lt6 x)=dfi [l] (lt6 x)+dfi w (lt6 x):=vC [l] w (lt6 x)
  rw [e]
  split
  ·rfl
  ·rw [Int.add_mul]
end Wd
namespace L2
open PySem PySem.Spec PyProof.Rows
section
variable {X:Cx}
end
end L2
namespace Kx
open PySem PySem.Spec PyProof.Rows L2 Wd
def ends (k:Nat):List L:=(List.range k).map lt6++bk ((List.range k).map lt6)
theorem gx {α:Type}[DecidableEq α]:∀ (T Z:List α),T.Nodup→(∀ t∈T,t∈Z)→T.length=Z.length→Z.Perm T
 | [],Z,_,_,h=>by
  have:Z=[]:=D3 h.symm
  rw [this]
 | t::T,Z,nd,hs,hl=>by
  rw [DE] at nd
  have ht:=hs t Dz
  refine (List.perm_cons_erase ht).trans (List.Perm.cons t (gx T (Z.erase t) nd.2 (fun x hx=>?_) ?_))
  ·have hne:x≠t:=fun e=>nd.1 (e ▸ hx)
   exact (List.mem_erase_of_ne hne).mpr (hs x (Dg _ hx))
  ·rw [FR ht]
   simp only [Ds] at hl
   omega
end Kx
namespace L2
open PySem PySem.Spec PyProof.Rows
def V.w:V→V
 | .tks x _=>.str x
 | v=>v
theorem bf.w {v:V}{u:Value}(r:bf v u):bf v.w u:=by
 cases v with
 | tks x t=>exact ⟨t,r⟩
 | _=>exact r
def tWk (t:TE):TE:=fun σ H Q=>t σ H fun v H1=>Q v.w H1
theorem fB {X:Cx}{e:Expr}{t:TE}(h:PE X e t):PE X e (tWk t):=fun pins s σ H Q I q =>
 thw (h pins s σ H _ I q) fun u s' ⟨v,H',I',r,q⟩=>⟨v.w,H',I',r.w,q⟩
abbrev SpT:=Nat→Sp
structure eJ (P:Program) (w:World) (K:PySem.W.Frag) (mg:Str→Option Value) (base:Heap) (CX:CXT) (k:Nat) (f:Addr) (fd:FuncData) (ps:List Str) (sp:SpT):Prop where
 len:∀ n vs H Q E,sp n vs H Q E→vs.length=ps.length
 run:∀ (A:Around) (outer:List Env) (s:Shared) (H:Hp) (args:Args) (us:List Value) (vs:List V) (Q:VK) (E:XK),cL k A→tI P w K mg base A outer s H→BindsTo s fd args (ps.zip us)→aV vs us→sp s.toks vs H Q E →
  codeAny (model P w) A (.call (.ref f) args) (CR CX outer P w H s Q E) s
theorem eJ.mono {P:Program}{w:World}{K:PySem.W.Frag}{mg:Str→Option Value}{base:Heap}{CX:CXT}{j k:Nat}{f:Addr}{fd:FuncData}{ps:List Str}{sp:SpT}(F:eJ P w K mg base CX j f fd ps sp)(h:j≤k) :
  eJ P w K mg base CX k f fd ps sp:=⟨F.len,fun A outer s H args us vs Q E hr=>F.run A outer s H args us vs Q E (hr.mono h)⟩
theorem ue {CX:CXT}{P:Program}{w:World}{K:PySem.W.Frag}{mg:Str→Option Value}{base:Heap}{k:Nat}{f:Addr}{name qual:Str}{params:Arguments}{body:List Stmt}{scope:Scope}{dV kV doc pm cdv ct oc:Value}{an od:Option Addr}
  {osl:Array (Option Value)} {N ps:List Str} {sp:SpT} (lk:K.lookup f=some ⟨oc,od,.func (PySem.W.fnOf name qual params body scope dV kV doc pm an cdv ct),osl⟩) (hcd:PySem.W.codeIn K cdv qual=true) (S:ax N ps scope)
  (len:∀ n vs H Q E,sp n vs H Q E→vs.length=ps.length)
  (hbody:∀ (A:Around) (outer:List Env) (s:Shared) (H:Hp) (vs:List V) (Q:VK) (E:XK),cL k (A.deeper (envOfC qual scope s.heap.objs.size f cdv))→sp s.toks vs H Q E →
   ∃ t,PSs (gP CX P w K mg base N qual scope f cdv A outer s H E) body t∧t { nx:=fun _ H'=>Q .non H',rt:=Q } (start N vs) H) :
  eJ P w K mg base CX (k+1) f (PySem.W.fnOf name qual params body scope dV kV doc pm an cdv ct) ps sp:=by
 refine ⟨len,fun A outer s H args us vs Q E hr e0 hb r hsp=>?_⟩
 have hl:=len _ _ _ _ _ hsp
 have KX:K.In s.heap:=e0.mod.kin.keeps fun b o e=>(e0.bs b o e).1
 have lim:s.heap.NoLimit:=e0.mod.nolimit.keeps fun b o e=>(e0.bs b o e).1
 have hkind:∀ y∈ps.zip us,scope.names.lookup y.1=some .local ∨ (scope.names.lookup y.1=some .cell∧((cellsFrom (s.heap.objs.size+1) scope.names []).lookup y.1).isSome=true):=fun ⟨n,v⟩ hy=>by
  rcases S.par n (GI hy).1 with q | q
  ·exact .inl q
  ·exact .inr ⟨q,Gb _ _ _ (.inl q)⟩
 refine codeAny_call_function hr.depth (KX _ _ lk) rfl S.co S.gen rfl (PySem.W.codeRec_of KX hcd) (hb _ _ _ _ ?_)
 refine wt (n:=s.toks) (Da _) (GU S.kind hkind fun env he s1 x hlo=>?_)
 subst he
 refine ⟨lim.keeps x.toInCall.keep,codeAny_func ?_⟩
 obtain ⟨t,ht,hq⟩:=hbody A outer s H vs Q E (hr.deeper _) hsp
 have I:Inv (gP CX P w K mg base N qual scope f cdv A outer s H E) [] (start N vs) H s1:=(jc S hr.hd e0 hl r x).up hlo
 refine Ep (ht [] s1 (start N vs) H _ I hq) (fun fl s' hs=>?_) fun e s' hs=>hs
 have fin:∀ {σ':St} {H':Hp} {v:V} {u:Value},InvW (gP CX P w K mg base N qual scope f cdv A outer s H E) [] σ' H' s'→bf v u→Q v H'→CE outer P w H s Q u s' :=
  fun {σ' H' v u} J rv q=>⟨v,H',J.os,J.bare,J.base,J.hok,rv,q⟩
 cases fl with
 | ret u =>
  obtain ⟨v,σ',H',J,rv,q⟩:=hs
  exact fin J rv q
 | next =>
  obtain ⟨σ',H',J,q⟩:=hs
  exact fin (v:=V.non) (u:=Value.none) J rfl q
 | brk =>
  obtain ⟨_,_,_,q⟩:=hs
  exact False.elim q
 | cont =>
  obtain ⟨_,_,_,q⟩:=hs
  exact False.elim q
structure qW (P:Program) (w:World) (K:PySem.W.Frag) (mg:Str→Option Value) (base:Heap) (x:Str) (ps:List Str) (k:Nat) (sp:SpT):Prop where
 ex:∃ (f:Addr) (fd:FuncData),mg x=some (.ref f)∧PySem.W.keepIn K (.ref f)=true∧dS K fd ps []∧eJ P w K mg base (CXe P w) k f fd ps sp
theorem Df.okT {P:Program}{w:World}{K:PySem.W.Frag}{mg:Str→Option Value}{base:Heap}{x:Str}{st:Stmt}{N ps:List Str}{k:Nat}{sp:SpT}(D:Df K mg x st)(S:ax N ps (ai st))
  (hb:∀ (kV doc pm:Value) (an:Option Addr) (cdv ct:Value) (us:List Value),us.length=ps.length→bindArgs (PySem.W.fnOf x x (bo st) (aY st) (ai st) .none kV doc pm an cdv ct) ⟨us,[]⟩=pure (ps.zip us))
  (len:∀ n vs H Q E,sp n vs H Q E→vs.length=ps.length)
  (hbody:∀ (f:Addr) (cdv:Value) (A:Around) (outer:List Env) (s:Shared) (H:Hp) (vs:List V) (Q:VK) (E:XK),cL k (A.deeper (envOfC x (ai st) s.heap.objs.size f cdv))→sp s.toks vs H Q E →
   ∃ t,PSs (gP (CXe P w) P w K mg base N x (ai st) f cdv A outer s H E) (aY st) t∧t { nx:=fun _ H'=>Q .non H',rt:=Q } (start N vs) H):qW P w K mg base x ps (k+1) sp:=by
 obtain ⟨f,fd,hm,F⟩:=D.ex
 refine ⟨f,fd,hm,F.kp,F.binds hb,?_⟩
 obtain ⟨oc,od,kV,doc,pm,an,cdv,ct,osl,rfl,lk,hcd⟩:=F.ex
 exact ue lk hcd S len fun A outer s H vs Q E hr hsp=>hbody f cdv A outer s H vs Q E hr hsp
def uf (lo:Nat)(sp:SpT)(E:XK)(t:TA):TE:=fun σ H Q=>t σ H fun vs H1=>∀ n,lo≤n→sp n (vs++[]) H1 Q E
section
variable {X:Cx} {E:XK} {x:Str} {ps:List Str} {k j:Nat} {sp:SpT} {e:Expr} {es:List Expr} {t:TA} {p pos:Pos} {f:Addr} {fd:FuncData} {CX:CXT} {dvs:List V} {ds:List Value}
theorem vE {pins:List (Addr × Obj)}{σ:St}{H:Hp}{s:Shared}{Q:VK}{us:List Value}{vs:List V}(F:eJ X.prog X.w X.K X.mg X.base CX k f fd ps sp)(hr:cL k X.A)(hb:dS X.K fd ps ds)(hd:aV dvs ds)(hx:dm CX X E)
  (I:Inv X pins σ H s) (r:aV vs us) (h:sp s.toks (vs++dvs) H Q E):wpAny (model X.prog X.w) X.A (call (.ref f) us) (EP X pins σ Q) X.xe s:=by
 have r2:aV (vs++dvs) (us++ds):=r.append hd
 have hl:(us++ds).length=ps.length:=by rw [← r2.length];exact F.len _ _ _ _ _ h
 refine Hd (FQ (F.run X.A X.stack s H ⟨us,[]⟩ (us++ds) (vs++dvs) Q E hr I.env0 (hb s us I.kIn hl) r2 h) fun r s' hq=>?_)
 cases r with
 | error e=>exact hx pins σ H s e s' I hq
 | ok fl =>
  cases fl with
  | ret u=>exact I.after hq
  | next=>exact False.elim hq
  | brk=>exact False.elim hq
  | cont=>exact False.elim hq
theorem pD (F:qW X.prog X.w X.K X.mg X.base x ps j sp)(hr:cL k X.A)(hj:j≤k)(hx:dm (CXe X.prog X.w) X E)(hg:Gl X x)(ha:PA X (e::es) t)
  (hdb:(x == ("__debug__":Str))=false:=by decide) (he:starEach (e::es) X.env=(false,eval e X.env)::starEach es X.env:=by rfl) (hpl:(backTo pos (starEach es X.env)).any (·.1)=false:=by rfl) :
  PE X (.Call (.Name x p) (e::es) [] pos) (uf X.lo sp E t):=by
 obtain ⟨f,fd,hm,hk,hb,F⟩:=F.ex
 intro pins s σ H Q I h
 refine Ft (c9 I hg hm ?_ hdb)
 refine G3 (h₀:=X.base) I.ok.mod.kin hk (thn (ha pos pins s σ H _ I h) fun us s1 ⟨vs,H1,I1,r,q⟩=>⟨I1.kIn,?_⟩) he hpl
 exact vE (F.mono hj) hr hb .nil hx I1 r (q _ I1.low)
end
def vF (lo:Nat)(to_ ta:TE):TE:=fun σ H Q=>to_ σ H fun v H1=>∃ S:Str,v = .str S∧S.length≤1000∧ta σ H1 fun y H2=>∃ (c t:Nat),y = .tks ⟨#[c]⟩ t∧0 < t∧t < lo∧Q (.str (Txt.replace S ⟨#[c]⟩ "")) H2
theorem jx {X:Cx}{o a:Expr}{to_ ta:TE}{k1:Nat}{pa p1 pos:Pos}(ho:PE X o to_)(ha:PE X a ta)
  (hbase:attributeBase o "replace" X.env (eval o X.env)=eval o X.env:=by rfl)
  (hfew:((backTo pos (starEach [a,.Constant (.str "") k1 p1] X.env)).all (fun x=>!x.1) && (backToKw pos (keywordEach [] X.env)).all (fun x=>x.1.isSome)
   && decide (([a,.Constant (.str "") k1 p1]:List Expr).length+([]:List Keyword).length+(if ([]:List Keyword).isEmpty then 0 else 1) < 30))=true:=by rfl)
  (hline:(pa.endLine == pos.line)=true:=by rfl)
  (hst:backTo pos (starEach [a,.Constant (.str "") k1 p1] X.env)=[(false,eval a X.env),(false,eval (.Constant (.str "") k1 p1) X.env)]:=by rfl) :
  PE X (.Call (.Attribute o "replace" pa) [a,.Constant (.str "") k1 p1] [] pos) (vF X.lo to_ ta):=by
 intro pins s σ H Q I h
 have l16:sizeLine=16777216:=E9
 refine wpAny_Call_method_late hbase hfew hline rfl (thn (ho pins s σ H _ I h) fun uz s1 ⟨v,H1,I1,r1,S,ev,hS,h1⟩=>?_)
 subst ev
 obtain ⟨tz,rfl⟩:=r1
 refine ⟨"str","str.replace",DC,PySem.F.slot_str_replace,PySem.F.type_str_replace,Gn _ _ _,(fun _ e=>nomatch e),?_⟩
 rw [hst]
 refine Ge rfl (Calls.evalArgs_plain ?_)
 refine G0 (thn (ha pins s1 σ H1 _ I1 h1) fun u s2 ⟨y,H2,I2,r2,c,t,ey,h0,hl,q⟩=>?_)
 subst ey
 obtain rfl:u=Value.str ⟨#[c]⟩ t:=r2
 refine G0 (Calls.Constant_str (Calls.spliced_nil ?_))
 have low:=I2.low
 have hyz:((⟨#[c]⟩:Str) == ("":Str))=false:=by
  cases e:((⟨#[c]⟩:Str) == ("":Str)) with
  | false=>rfl
  | true =>
   have e:=eq_of_beq e
   have:(⟨#[c]⟩:Str).length=("":Str).length:=by rw [e]
   have h0:("":Str).length=0:=by decide +kernel
   rw [h0] at this
   exact absurd this (by show ¬ 1=0;decide)
 have e0:("":Str).length=0:=by decide +kernel
 exact SC.replace (Nat.pos_iff_ne_zero.mp h0) (by show s2.toks≠0;omega) (by show t≠s2.toks;omega) hyz (by rw [e0];omega) fun t' k=>⟨.str _,H2,I2.tok k,⟨_,rfl⟩,q⟩
inductive ug (K:PySem.W.Frag)(x:V)(vs:List V)(H:Hp)(Q:VK):Prop
 | mk:∀ (z:Str) (p:Addr) (y:Str) (t:Tok),(x = .str z)→(vs=[.ref p])→(SqL K H p [.tks y t])→(y.length+z.length≤1000)→(Q (.tks y t) H)→ug K x vs H Q
theorem r9 {X:Cx}:MtR X "str.join" (ug X.K):=by
 intro pins s σ H x vs v us Q I rx rv h
 obtain ⟨z,p,y,t,rfl,rfl,hq,hz,q⟩:=h
 obtain ⟨tz,rfl⟩:=rx
 obtain ⟨u,rfl,ru⟩:=rv.one
 cases ru
 obtain ⟨its,r,pl,_⟩:=I.list hq
 obtain ⟨u,rfl,r1⟩:=r.one
 obtain rfl:u=Value.str y t:=r1
 have hok:JoinOk z ([(y,t)].map (·.1))=true:=joinOk_of (by simp;omega)
 unfold JoinOk at hok
 rw [Bool.not_eq_true'] at hok
 exact GF F.slot_str_join (Gn _ _ _) F.entry_str_join (F.args_str_join_2 _ _) (meets_str_join_list z tz p [(y,t)] hok) ⟨pl.isList,⟨.tks y t,H,I,rfl,q⟩⟩
def pE (K:PySem.W.Frag)(a:Addr)(Q:VK):V→Hp→Prop:=fun y H1=>∃ z z' t,y = .str z∧PySem.W.nsIn K a z=some (some (.str z' t))∧Q (.tks z' t) H1
def yP (K:PySem.W.Frag)(a:Addr)(ti:TE):TE:=fun σ H Q=>ti σ H (pE K a Q)
theorem pF {X:Cx}{a:Addr}(D:DTx X.K X.w a):IxR X (fun x y H Q=>∃ z z' t,x = .ref a∧y = .str z∧PySem.W.nsIn X.K a z=some (some (.str z' t))∧Q (.tks z' t) H):=by
 intro value slice pins s σ H x y v u Q I rx ry h hs
 obtain ⟨z,z',t',rfl,rfl,e,q⟩:=h
 cases rx
 obtain ⟨t,rfl⟩:=ry
 obtain ⟨es,n,hl,hk⟩:=D.ob
 obtain ⟨m,F⟩:=I.fr
 exact PySem.W.topItem_K F I.ok.mod.kin hl hk e ⟨.tks z' t',H,I.tok _,rfl,q⟩ hs
theorem r_ {X:Cx}{K:PySem.W.Frag}{w:World}{a:Addr}{x:Str}{i:Expr}{ti:TE}{p pos:Pos}(D:DTx K w a)(hK:X.K=K)(hw:X.w=w)(hg:Gl X x)(hm:X.mg x=some (.ref a))(hi:PE X i ti)(hs:jT i)
  (hd:(x == ("__debug__":Str))=false:=by decide):PE X (.Subscript (.Name x p) i pos) (yP K a ti):=by
 subst hK hw
 intro pins s σ H Q I h
 refine HJ (c9 I hg hm (thn (hi pins s σ H _ I h) fun u s2 zq2=>?_) hd)
 obtain ⟨y,H2,I2,ry,z,z',t',e1,e2,q⟩:=zq2
 exact pF D _ _ pins s2 σ H2 (.ref a) y (.ref a) u Q I2 rfl ry ⟨z,z',t',rfl,e1,e2,q⟩ (hs _ _)
theorem pG {P:Program}{w:World}{K:PySem.W.Frag}{mg mb:Str→Option Value}{CX:CXT}{k:Nat}{fa a:Addr}{fd:FuncData}{x:Str}{sp:SpT}{s₁:Shared}{vs:List Value}{ns:List Int}
  (KX:K.In s₁.heap) (hns:s₁.heap.Ns mainGlobals mg) (hb:s₁.heap.Ns builtinsNs mb) (hbb:∀ x:Str,x ≠ "__name__"→mb x=bootBuiltins x) (hlim:s₁.heap.NoLimit) (hg:s₁.gens=#[])
  (ha:s₁.heap.get? a=some { cls:=.type "list",data:=.seq vs.toArray }) (hi:IntsAre vs ns) (hl:ns.length≤sizeLine) (hr:cL k callerA)
  (F:∀ base:Heap,K.In base→base.Ns mainGlobals mg→eJ P w K mg base CX k fa fd [x] sp) (hbind:∀ (s:Shared) (u:Value),BindsTo s fd ⟨[u],[]⟩ [(x,u)])
  (hsp:∀ H:Hp,AZ H→SqL K H a (ns.map V.int)→sp s₁.toks [.ref a] H (fun v _=>v = .bl true) fun _ _ _=>False)
  (hCX:∀ H e s',CX [] H s₁ (fun _ _ _=>False) e s'→False) :
  codeAny (model P w) callerA (.call (.ref fa) ⟨[.ref a],[]⟩) (fun r s'=>r = .ok (.ret (.bool true))∧OldK s₁.heap s'.heap∧s'.os=s₁.os∧AllBare s'.gens) s₁:=by
 have rv:=jj hi
 have lenV:=hi.length
 -- from an abstract heap in which nothing but the script may be tracked
 have core:∀ H:Hp,AZ H→SqL K H a (ns.map V.int)→HOk P w H s₁.heap→(∀ b,H b≠none→b=a)→(H a≠none→K.lookup a=none) →
   codeAny (model P w) callerA (.call (.ref fa) ⟨[.ref a],[]⟩) (fun r s'=>r = .ok (.ret (.bool true))∧OldK s₁.heap s'.heap∧s'.os=s₁.os∧AllBare s'.gens) s₁:=by
  intro H hO hS hok hA hK
  have base_of:∀ {b:Addr} {o:Obj},s₁.heap.get? b=some o→H b=none→(q_ s₁.heap H).get? b=some o:=fun e n=>rf e n
  have noA:∀ {b:Addr} {o:Obj} {es:Array DictEntry} {ep:Nat},s₁.heap.get? b=some o→o.data = .dict es ep→H b=none:=fun {b o es ep} e d=>by
   cases q:H b with
   | none=>rfl
   | some u =>
    have e':b=a:=hA b (by rw [q];simp)
    subst e'
    rw [ha] at e;cases e
    have d':Data.seq vs.toArray _=Data.dict es ep:=d
    cases d'
  have nsK:∀ {b:Addr} {m:Str→Option Value},s₁.heap.Ns b m→(q_ s₁.heap H).Ns b m:=fun {b m} ⟨o,es,ep,e,d,r⟩=>⟨o,es,ep,base_of e (noA e d),d,r⟩
  have hKb:K.In (q_ s₁.heap H):=fun b o e=>base_of (KX b o e) (by
   cases q:H b with
   | none=>rfl
   | some u =>
    have e':b=a:=hA b (by rw [q];simp)
    subst e'
    rw [hK (by rw [q];simp)] at e;cases e)
  have hM:Mod K mg (q_ s₁.heap H):=⟨hKb,nsK hns,⟨mb,nsK hb,hbb⟩,let ⟨mc,h1,h2⟩:=hlim;⟨mc,nsK h1,h2⟩⟩
  have e0:tI P w K mg (q_ s₁.heap H) callerA [] s₁ H:=⟨rfl,hM,fun b o e=>uM e,G7 (nG _ _),trivial,fun b hb=>absurd (show b∈([]:List Addr) from hb) (by simp),hok,.of_eq hg⟩
  refine FQ ((F _ hKb (nsK hns)).run callerA [] s₁ H ⟨[.ref a],[]⟩ [.ref a] [.ref a] _ _ hr e0 (hbind s₁ (.ref a)) (.cons rfl .nil) (hsp H hO hS)) fun r s' h=>?_
  cases r with
  | error e=>exact (hCX H e s' h).elim
  | ok fl =>
   cases fl with
   | next=>exact False.elim h
   | brk=>exact False.elim h
   | cont=>exact False.elim h
   | ret u =>
    obtain ⟨v,H',os,bare,un,hok',r',q⟩:=h
    have q':v = .bl true:=q
    subst q'
    obtain rfl:u=Value.bool true:=r'
    refine ⟨rfl,OldK.of_keep fun b o e=>?_,os,bare⟩
    cases q:H b with
    | none=>exact un.keep b o e q (by intro z;exact absurd (show b∈([]:List Addr) from z) (by simp)) (by simp)
    | some u =>
     rcases hO b with z | ⟨ob,xs,z⟩
     ·rw [q] at z;cases z
     ·have z2:=un.frzs b ob _ z
      obtain ⟨e1,_⟩:=hok b _ z
      obtain ⟨e2,_⟩:=hok' b _ z2
      rw [e] at e1;cases e1
      exact e2
 cases hk:K.lookup a with
 | some o =>
  -- the script is one of the module's own objects
  have e:=KX a o hk
  rw [ha] at e
  cases e
  refine core (fun _=>none) (fun _=>.inl rfl) (.inr ⟨_,vs.toArray,_,hk,rfl,rfl,rfl,by rw [DA,lenV];exact hl,by simpa using rv,by rw [EL];intro x hx;obtain ⟨i,_,rfl⟩:=DN.mp hx;rfl⟩) (fun b u z=>by have z':(none:Option HO)=some u:=z;cases z') (fun b z=>absurd rfl z) fun z=>absurd rfl z
 | none =>
  refine core (fun b=>if b=a then some (.frz { cls:=.type "list",data:=.seq vs.toArray } (.lst (ns.map V.int))) else none) (fun b=>?_) (.inl (.inr ⟨{ cls:=.type "list",data:=.seq vs.toArray },if_pos rfl⟩)) (fun b u z=>?_) (fun b z=>?_) fun _=>hk
  ·by_cases hb:b=a
   ·exact .inr ⟨_,_,if_pos hb⟩
   ·exact .inl (if_neg hb)
  ·by_cases hb:b=a
   ·have z':=(if_pos hb).symm.trans z
    cases z'
    subst hb
    exact ⟨ha,by rw [C4];exact hl,vs,_,rv,ha⟩
   ·have z':=(if_neg hb).symm.trans z
    cases z'
  ·by_cases hb:b=a
   ·exact hb
   ·exact absurd (if_neg hb) z
theorem gD:∀ ns:List Int,PySem.W.ofPys (ns.map PyData.int)=ns.map PySem.W.WData.int
 | []=>rfl
 | n::ns=>by
  show PySem.W.ofPy (PyData.int n)::PySem.W.ofPys (ns.map PyData.int)=_
  rw [gD ns];rfl
theorem se {l:PySem.W.OpenLaw}{n k:Nat}{q:Program}{loose:List Str}{XP:(Str→Option Value)→Heap→Prop}{d:DefRec}{K:Params→PySem.W.Frag}{as:List Addr}{n0 t0:Nat}{CX:World→CXT}{sp:World→SpT}{x:Str}
  (he:∀ P,as=(K P).map (·.1)) (hn:l.most=some n) (hn2:n≤sizeLine) (hdf:d.params.defaults=[]) (hr:cL k callerA)
  (F:∀ (w:World) (mg:Str→Option Value) (fa:Addr) (h:Heap),(K w.params).In h→h.Ns mainGlobals mg→mg d.name=some (.ref fa) →
   ∃ fd:FuncData,(∀ (s:Shared) (u:Value),BindsTo s fd ⟨[u],[]⟩ [(x,u)]) ∧
    ∀ base:Heap,(K w.params).In base→base.Ns mainGlobals mg→eJ l.prog w (K w.params) mg base (CX w) k fa fd [x] (sp w))
  (hsp:∀ (w:World) (m:Nat) (H:Hp) (a:Addr) (ns:List Int),t0≤m→ns.length≤n→AZ H→SqL (K w.params) H a (ns.map V.int)→sp w m [.ref a] H (fun v _=>v = .bl true) fun _ _ _=>False)
  (hCX:∀ (w:World) (H:Hp) (s:Shared) (e:Value) (s':Shared),CX w [] H s (fun _ _ _=>False) e s'→False) :
  PySem.W.WalkX q loose XP (PySem.W.X.obsZ as) (PySem.W.X.valZ K n0 t0) l.row.toRowW d [] (fun f vs=>PySem.call f vs):=by
 intro w s₀ s₁ mg mb G y fa o pm cd doc dV kV ho hd hcd hD hmg hg args vals as' Ld hpre hlay hrd hwl hlo
 obtain rfl:dV = .none:=PySem.W.Dflts.none hD hdf
 obtain rfl:kV = .none:=PySem.W.Dflts.noKw hD
 obtain ⟨a,vs,ns,rfl,rfl,hobj,hints,hlen⟩:=Att.script_of hn hpre hwl
 obtain ⟨_,ZI,_,ZT⟩:=PySem.W.X.z_facts he y
 have KX:(K w.params).In s₁.heap:=PySem.W.InK.keeps w _ _ ZI Ld.keeps
 have Ld':=Ld
 rw [← gD] at Ld'
 have htk:t0≤s₁.toks:=PySem.W.X.script_toks (ns:=ns) Ld' ZT
 obtain ⟨fd,hb,hF⟩:=F w mg fa _ KX G.T.g hmg
 refine PySem.W.enter_call (FQ (pG KX G.T.g G.T.b G.T.builtins G.T.nolimit hg hobj hints (DO hlen hn2) hr hF hb (fun H hO hS=>hsp w _ H a ns htk hlen hO hS) fun H e s'=>hCX w H s₁ e s') fun r s' hq=>?_)
 obtain ⟨rfl,h2,h3,h4⟩:=hq
 exact ⟨.inl ⟨.bool true,.bool true,[],rfl,fun _=>rfl,.bool true,Att.post_true l _,fun _=>⟨List.Pairwise.nil,fun _ hm=>(nomatch hm)⟩⟩,h2,h3,h4⟩
end L2
namespace PySem
end PySem
namespace L2
open PySem PySem.Spec PyProof.Rows Wd
section
variable {X:Cx}
end
def rnd (w:List L)(t:Nat):Nat:=((w.map cp)[t % w.length]?).getD 0
theorem rnd_at {w:List L}{t:Nat}{x:L}(h:(w++w)[t]? = some x):rnd w t=cp x:=by
 unfold rnd
 have hl:=(Dd.mp h).1
 rw [C8] at hl
 by_cases c:t < w.length
 ·rw [El c,DG]
  rw [Eg c] at h
  rw [h]
  rfl
 ·have e:t % w.length=t - w.length:=by
   rw [Nat.mod_eq_sub_mod (by omega),El (by omega)]
  rw [e,DG]
  rw [Dn (by omega)] at h
  rw [h]
  rfl
def Bh (w:List L):List (List L):=(List.range (max 1 w.length)).map fun i=>w.drop i++w.take i
theorem sf (ys:List Str)(h:ys≠[]):∃ m,yA m ys:=by
 have hp:0 < ys.length:=D4.mpr h
 obtain ⟨h1,h2⟩:=gs ys (ys.length - 1)
 have q:∀ i,i < ys.length→dX ys i∈ys:=fun i hi=>by
  unfold dX
  rw [Dx,fu hi]
  exact DZ hi
 refine ⟨dX ys (argBest (btS ys) (ys.length - 1)),q _ (by omega),fun y hy=>?_⟩
 obtain ⟨j,hj,e⟩:=Fh hy
 have:=h2 j (by omega)
 have e2:dX ys j=y:=by
  unfold dX
  rw [Dx,fu hj,e]
  rfl
 rw [e2] at this
 exact this
section
variable {X:Cx}
end
end L2
namespace Wd
def img (ws:List (List L))(x:L):List L:=if x.val < 6 then ws.getD x.val [] else bk (ws.getD (x.val - 6) [])
def sub (ws:List (List L))(u:List L):List L:=u.flatMap (img ws)
theorem vG (x:L):(inv x).val=if x.val < 6 then x.val+6 else x.val - 6:=by unfold inv; split <;> rfl
def InM (n:Nat)(u:List L):Prop:=∀ x∈u,x.val % 6 < n
theorem pH:∀ (u st:List L) (x:L),x∈act u st→x∈u ∨ x∈st
 | [],st,x,h=>.inr h
 | y::u,st,x,h=>by
  rw [k7] at h
  rcases pH u _ x h with h | h
  ·exact .inl (Dg _ h)
  ·cases st with
   | nil =>
    have h:x∈[y]:=h
    rw [De] at h
    exact .inl (h ▸ Dz)
   | cons z r =>
    have h:x∈(if z=inv y then r else y::z::r):=h
    split at h
    ·exact .inr (Dg _ h)
    ·rcases Dj.mp h with h | h
     ·exact .inl (h ▸ Dz)
     ·exact .inr h
theorem vH {u:List L}{x:L}(h:x∈red u):x∈u:=by
 unfold red at h
 rw [List.mem_reverse] at h
 rcases pH u [] x h with h | h
 ·exact h
 ·cases h
end Wd
namespace PySem
section
variable {prog:Program} {w:World} {A:Around} {E:Value→Shared→Prop}
end
end PySem
namespace L2
open PySem PySem.Spec PyProof.Rows Wd
section
variable {X:Cx} {pos:Pos}
inductive Cc (x:V)(y:V)(H:Hp)(Q:VK):Prop
 | mk:∀ da db,(Dt H x da)→(Dt H y db)→(da.canLay0=true)→(db.canLay0=true)→(da.depth≤10)→(Q (.bl (!PyData.eqv da db)) H)→Cc x y H Q
theorem pI (hu:X.A.units+64 < cLine):OpR X (compareOp .NotEq) Cc:=by
 intro pins s σ H x y v u Q I rx ry h
 obtain ⟨da,db,ha,hb,la,lb,dp,q⟩:=h
 obtain ⟨as,ra⟩:=ha.reads I.hok rx
 obtain ⟨bs,rb⟩:=hb.reads I.hok ry
 exact Hg (SeqAt.rcNeAt_reads ra rb la lb (by omega)) ⟨.bl _,H,I,rfl,q⟩
end
theorem vI (u:List L):(PyData.str (toS u)).canLay0=true:=by
 unfold PyData.canLay0 PyData.strOk
 rw [← Hw,a_,EL]
 intro c hc
 obtain ⟨x,_,rfl⟩:=DN.mp hc
 have:=rN x
 exact C_ (by omega)
theorem jy:∀ ws:List (List L),PyData.canLayAll0 (ws.map fun u=>.str (toS u))=true
 | []=>rfl
 | u::ws=>by
  rw [DQ,PyData.canLayAll0,vI,jy ws]
  rfl
section
variable {X:Cx}
inductive uh (x:V)(vs:List V)(H:Hp)(Q:VK):Prop
 | mk:∀ z y,(x = .str z)→(vs=[.str y])→(Q (.int (Txt.find z y)) H)→uh x vs H Q
theorem lI:MtR X "str.find" uh:=by
 intro pins s σ H x vs v us Q I rx rv h
 obtain ⟨z,y,rfl,rfl,q⟩:=h
 obtain ⟨t,rfl⟩:=rx
 obtain ⟨u1,rfl,⟨t1,rfl⟩⟩:=cT rv
 exact SC.find ⟨.int _,H,I.tok _,⟨_,rfl⟩,q⟩
theorem iz {K:PySem.W.Frag}(hK:X.K=K):IxR X (AU K):=by subst hK; exact bJ
inductive lJ (x:V)(vs:List V)(H:Hp)(Q:VK):Prop
 | mk:∀ z,(x = .str z)→(vs=[])→(Q (.bl (Txt.islower z)) H)→lJ x vs H Q
theorem mZ:MtR X "str.islower" lJ:=by
 intro pins s σ H x vs v us Q I rx rv h
 obtain ⟨z,rfl,rfl,q⟩:=h
 obtain ⟨t,rfl⟩:=rx
 cases rv
 exact SC.islower ⟨.bl _,H,I,rfl,q⟩
end
end L2
namespace Kx
open PySem PySem.Spec PyProof.Rows L2 Wd
end Kx
namespace Wd
structure Az (n:Nat) (u:List L):Prop where
 len:u.length=2*n
 nd:u.Nodup
 ins:InM n u
theorem yQ {n:Nat}(h6:n≤6){x:L}(hx:x.val % 6 < n):x∈([0,1,2,3,4,5]:List L).take n++([6,7,8,9,10,11]:List L).take n:=by
 have q:∀ (n:Fin 7) (x:L),x.val % 6 < n.val→x∈([0,1,2,3,4,5]:List L).take n.val++([6,7,8,9,10,11]:List L).take n.val:=by decide
 exact q ⟨n,by omega⟩ x hx
theorem si {n:Nat}{u:List L}(h1:1≤n)(h6:n≤6)(p:u.Perm (([0,1,2,3,4,5]:List L).take n++([6,7,8,9,10,11]:List L).take n)):Az n u:=by
 have q:∀ n:Fin 7,(([0,1,2,3,4,5]:List L).take n.val++([6,7,8,9,10,11]:List L).take n.val).length=2*n.val∧(([0,1,2,3,4,5]:List L).take n.val++([6,7,8,9,10,11]:List L).take n.val).Nodup∧∀ x∈([0,1,2,3,4,5]:List L).take n.val++([6,7,8,9,10,11]:List L).take n.val,x.val % 6 < n.val:=by decide
 obtain ⟨a,b,c⟩:=q ⟨n,by omega⟩
 exact ⟨by rw [p.length_eq,a],p.nodup_iff.mpr b,fun x hx=>c x (p.mem_iff.mp hx)⟩
end Wd
namespace L2
open PySem PySem.Spec PyProof.Rows Wd
section
variable {X:Cx}
inductive Cd (x:V)(y:V)(H:Hp)(Q:VK):Prop
 | mk:∀ da db,(Dt H x da)→(Dt H y db)→(da.canLay0=true)→(db.canLay0=true)→(da.depth≤10)→(Q (.bl (PyData.eqv da db)) H)→Cd x y H Q
theorem pJ (hu:X.A.units+64 < cLine):OpR X (compareOp .Eq) Cd:=by
 intro pins s σ H x y v u Q I rx ry h
 obtain ⟨da,db,ha,hb,la,lb,dp,q⟩:=h
 obtain ⟨as,ra⟩:=ha.reads I.hok rx
 obtain ⟨bs,rb⟩:=hb.reads I.hok ry
 exact SeqAt.rcAt_reads ra rb la lb (by omega) _ _ _ _ ⟨.bl _,H,I,rfl,q⟩
end
end L2
namespace Kx
open PySem PySem.Spec PyProof.Rows L2 Wd
end Kx
namespace L2
open PySem PySem.Spec PyProof.Rows Wd
section
variable {X:Cx}
end
end L2
namespace L2
open PySem PySem.Spec PyProof.Rows
section
variable {prog:Program} {w:World} {A:Around} {E:Value→Shared→Prop} {s:Shared}
end
section
variable {X:Cx}
end
end L2
namespace L2
open PySem PySem.Spec PyProof.Rows Wd
section
variable {X:Cx}
end
end L2
namespace Kx
open PySem PySem.Spec PyProof.Rows L2 Wd
end Kx
namespace L2
open PySem PySem.Spec PyProof.Rows Wd
theorem gE (u:List L)(e:L):Txt.replace (toS u) ⟨#[cp e]⟩ "" = toS (u.filter (fun x=>decide (x≠e))):=by
 have h:=replace_strikes (toS u) (cp e)
 have e0:("":Str)=⟨#[]⟩:=by decide +kernel
 rw [e0]
 have h2:(toS (u.filter (fun x=>decide (x≠e)))).cps.toList=(toS u).cps.toList.filter (· != cp e):=by
  rw [a_,a_,List.filter_map]
  congr 1
  refine List.filter_congr fun x _=>?_
  show decide (x≠e)=(cp x != cp e)
  by_cases z:x=e
  ·subst z;simp
  ·rw [C_ z]
   have:cp x≠cp e:=fun q=>z (oA x e q)
   simp [this]
 have h3:(Txt.replace (toS u) ⟨#[cp e]⟩ ⟨#[]⟩).cps=(toS (u.filter (fun x=>decide (x≠e)))).cps:=Array.toList_inj.mp (h.trans h2.symm)
 generalize Txt.replace (toS u) ⟨#[cp e]⟩ ⟨#[]⟩=z at h3
 cases z
 cases hh:toS (u.filter (fun x=>decide (x≠e)))
 rw [hh] at h3
 exact DH Str.mk h3
end L2
namespace Kx
open PySem PySem.Spec PyProof.Rows L2 Wd
theorem lK {t u:TS}{D:f9}{σ:L2.St}{H:Hp}(h:t D σ H):b9 t u D σ true H:=yr h
theorem j9 {t u:TS}{D:f9}{σ:L2.St}{H:Hp}(h:u D σ H):b9 t u D σ false H:=tP h
theorem Ce {u:TT}{σ:L2.St}{Q:Bool→Hp→Prop}{H:Hp}(h:Q true H):i5 u σ Q true H:=yr h
theorem yR {u:TT}{σ:L2.St}{Q:Bool→Hp→Prop}{H:Hp}(h:u σ H Q):i5 u σ Q false H:=tP h
theorem AA {ta tb:TE}{σ:L2.St}{Q:VK}{H:Hp}(h:ta σ H Q):nK ta tb σ Q true H:=yr h
theorem AB {ta tb:TE}{σ:L2.St}{Q:VK}{H:Hp}(h:tb σ H Q):nK ta tb σ Q false H:=tP h
theorem nkF {Q:Bool→Hp→Prop}{H:Hp}(h:Q true H):jQ Q false H:=h
theorem nkT {Q:Bool→Hp→Prop}{H:Hp}(h:Q false H):jQ Q true H:=h
def br (x y:L):L:=if y.val % 6 < x.val % 6 then y else y - 1
inductive vJ (N:Nat)(vs:List V)(H:Hp)(Q:VK)(u3_:XK):Prop
 | mk:∀ x:L,(vs=[tx [x]])→(∀ t H',0 < t→t < N→aA H H'→Q (.tks (toS [inv x]) t) H')→vJ N vs H Q u3_
inductive pK (vs:List V)(H:Hp)(Q:VK)(u3_:XK):Prop
 | mk:∀ x y:L,(vs=[tx [x],tx [y]])→(y.val % 6≠x.val % 6)→(∀ H',aA H H'→Q (tx [br x y]) H')→pK vs H Q u3_
inductive dF (vs:List V)(H:Hp)(Q:VK)(u3_:XK):Prop
 | mk:∀ (x:L) (u:List L),(vs=[tx [x],tx u])→(u.length≤500)→(∀ y∈u,y.val % 6≠x.val % 6)→(∀ H',aA H H'→Q (tx (u.map (br x))) H')→dF vs H Q u3_
def X1 (C:Addr)(f:Str)(v:V)(H:Hp)(a:Addr):Prop:=∃ dx c,H a=some (Exo a C (some dx) false c)∧H dx=some (Xdt dx [(f,v)])
def d5 (u:List L)(x:L):List L:=((u.filter fun y=>decide (y≠x)).filter fun y=>decide (y≠inv x)).map (br x)
inductive lL (CB:Addr)(N n:Nat)(vs:List V)(H:Hp)(Q:VK)(E:XK):Prop
 | mk:∀ (u:List L) (z:Str) (y:V),(vs=[tx u,y])→(y.w = .str z)→(N≤n)→(2≤u.length)→(u.length≤12)→(z.length≤100) →
  (∀ x:L,u.length≠2→x.val < u.length / 2→x.val < 6→z=toS [x]→(∃ t,y = .tks z t∧0 < t∧t < n)∧∀ H',aA H H'→Q (tx (d5 u x)) H') →
  ((u.length=2 ∨ ∀ x:L,x.val < u.length / 2→x.val < 6→z≠toS [x])→∀ b H',X1 CB "letter" (.str z) H' b→aA H H'→E (.ref b) none H')→lL CB N n vs H Q E
inductive j_ (vs:List V)(H:Hp)(Q:VK)(u3_:XK):Prop
 | mk:∀ (u:List L) (p:Nat) (v:List L),(vs=[tx u,.int (p:Int),tx v])→(p≤u.length)→(u.length≤20)→(v.length≤4)→(∀ H',aA H H'→Q (tx (u.take p++v++u.drop p)) H')→j_ vs H Q u3_
inductive Glu where
 | band | slide (k:Nat) | told (w:List L)
def gluW (u:List L)(p q:Nat)(m:Nat):List L :=
 let w:=u.take p++[lt6 m]++u.drop p
 w.take q++[inv (lt6 m)]++w.drop q
def glu (u:List L)(p q:Int):Glu :=
 if u.length=12 then .band else if 0≤p∧p≤(u.length:Int) then (if 0≤q∧q≤(u.length:Int)+1 then .told (gluW u p.toNat q.toNat (u.length / 2)) else .slide 1) else .slide 0
theorem pL {C:Addr}{H:Hp}{a dx:Addr}{f:Str}{v:V}{c c':Bool}(ha:H a=none)(hd:H dx=none)(ne:dx≠a) :
  X1 C f v (upd (upd (upd H a (Exo a C (some dx) true c)) dx (Xdt dx (rZ [] ([f].zip [v])))) a (Exo a C (some dx) false c')) a:=by
 refine ⟨dx,c',ag,?_⟩
 rw [ay ne,ag]
 rfl
theorem fC {H:Hp}{a dx:Addr}{o o' o2:HO}(ha:H a=none)(hd:H dx=none):aA H (upd (upd (upd H a o) dx o') a o2):=fun b u e=>by
 have ne:∀ {x:Addr},H x=none→b≠x:=fun h z=>by rw [z,h] at e;cases e
 rw [ay (ne ha),ay (ne hd),ay (ne ha)];exact e
inductive iA (CB CS:Addr)(vs:List V)(H:Hp)(Q:VK)(E:XK):Prop
 | mk:∀ (u:List L) (p q:Int),(vs=[tx u,.int p,.int q])→(2≤u.length)→(u.length≤12)→(∀ w,glu u p q = .told w→∀ H',aA H H'→Q (tx w) H')→(glu u p q = .band→∀ b H',X1 CB "letter" (.str "") H' b→aA H H'→E (.ref b) none H') →
  (∀ k,glu u p q = .slide k→∀ b H',X1 CS "place" (.int (k:Nat)) H' b→aA H H'→E (.ref b) none H')→iA CB CS vs H Q E
theorem m5 {n:Nat}{u:List L}(R:Az n u)(h6:n≤6):u.Perm (ends n):=by
 have all:∀ m:Fin 7,(ends m.val).length=2*m.val∧∀ x:L,x.val % 6 < m.val→x∈ends m.val:=by decide
 obtain ⟨e1,e2⟩:=all ⟨n,by omega⟩
 exact (gx u (ends n) R.nd (fun t ht=>e2 t (R.ins t ht)) (by rw [R.len];exact e1.symm)).symm
theorem sj {u:List L}{p q m:Nat}:(gluW u p q m).Perm (lt6 m::inv (lt6 m)::u):=by
 unfold gluW
 have h:∀ (w:List L) (i:Nat) (x:L),(w.take i++[x]++w.drop i).Perm (x::w):=fun w i x=>by
  have h1:(w.take i++[x]++w.drop i).Perm ([x]++w.take i++w.drop i):=D_ _ D0
  have h2:[x]++w.take i++w.drop i=x::w:=by rw [Dh,DJ];rfl
  rw [h2] at h1
  exact h1
 exact (h _ q _).trans ((List.Perm.cons _ (h u p _)).trans (List.Perm.swap _ _ _))
inductive kc (vs:List V)(H:Hp)(Q:VK)(u3_:XK):Prop
 | mk:∀ (d:Addr) (n:Nat),(vs=[.ref d,.int (n:Int)])→(Fd H d)→(1≤n)→(n≤6)→(∀ (u:List L) (H':Hp),Az n u→(∀ x:L,x.val % 6 < n→x∈u)→Fd H' d→bL d H H'→Q (tx u) H')→kc vs H Q u3_
inductive fD (vs:List V)(H:Hp)(Q:VK)(u3_:XK):Prop
 | mk:∀ (x:L) (u:List L),(vs=[tx [x],tx u])→(u.length≤500)→(∀ H',aA H H'→Q (if x∈u ∨ inv x∈u then .non else tx (u.map (br x))) H')→fD vs H Q u3_
end Kx
namespace PySem
open Sem (wp)
section
variable {prog:Program} {w:World} {A:Around} {E:Value→Shared→Prop} {s:Shared} {R:Result→Shared→Prop}
end
end PySem
namespace L2
open PySem PySem.Spec PyProof.Rows
section
variable {X:Cx} {e:Expr} {es:List Expr} {t:TA} {x:Str} {p pos:Pos} {a b:Expr} {tb:TE} {ta:St→Hp→(Nat→VK)→Prop}
end
section
variable {X:Cx} {pins:List (Addr × Obj)} {σ:St} {H:Hp} {s:Shared} {n:Nat}
theorem yS:({ X with lo:=n }:Cx).Ok ↔ X.Ok:=⟨fun h=>by cases h; constructor <;> assumption,fun h=>by cases h; constructor <;> assumption⟩
theorem InvW.relo (I:InvW X pins σ H s):InvW { X with lo:=n } pins σ H s:=by
 obtain ⟨h1,h2,h3,h4,h5,h6,h7,h8,h9,h10,h11⟩:=I
 exact ⟨yS.mpr h1,h2,h3,h4,h5,h6,h7,h8,h9,h10,h11⟩
theorem InvW.unlo (I:InvW { X with lo:=n } pins σ H s):InvW X pins σ H s:=by
 obtain ⟨h1,h2,h3,h4,h5,h6,h7,h8,h9,h10,h11⟩:=I
 exact ⟨yS.mp h1,h2,h3,h4,h5,h6,h7,h8,h9,h10,h11⟩
theorem vK {D:f9}{f:Flow}(h:SP { X with lo:=n } pins D f s):SP X pins D f s:=by
 cases f with
 | next=>obtain ⟨a,b,c,d⟩:=h;exact ⟨a,b,c.unlo,d⟩
 | brk=>obtain ⟨a,b,c,d⟩:=h;exact ⟨a,b,c.unlo,d⟩
 | cont=>obtain ⟨a,b,c,d⟩:=h;exact ⟨a,b,c.unlo,d⟩
 | ret u=>obtain ⟨a,b,c,d,e,g⟩:=h;exact ⟨a,b,c,d.unlo,e,g⟩
end
section
variable {X:Cx} {E:XK} {pos:Pos}
end
end L2
namespace Kx
open PySem PySem.Spec PyProof.Rows L2 Wd
end Kx
namespace L2
open PySem PySem.Spec PyProof.Rows Wd
theorem lM (u:List L)(x:L):(!(Builtin.Str.occurrences (toS u) (toS [x]) 0 (toS u).length 1).isEmpty)=decide (x∈u):=by
 have h:=StrLaws.found_iff (toS u) (toS [x])
 have e2:∀ i,(i+(toS [x]).length≤(toS u).length∧Builtin.Str.subAt (toS u) (toS [x]) i=true) ↔ (toS u).cps.toList[i]? = some (cp x):=fun i=>StrLaws.subAt_one _ _ _
 rw [DT,h,Dl]
 constructor
 ·rintro ⟨i,hi⟩
  have hi:=(e2 i).mp hi
  rw [a_,DG] at hi
  obtain ⟨y,hy,e⟩:=HA.mp hi
  rw [← oA _ _ e]
  exact DP hy
 ·intro hx
  obtain ⟨i,hi⟩:=List.mem_iff_getElem?.mp hx
  exact ⟨i,(e2 i).mpr (by rw [a_,DG,hi];rfl)⟩
theorem yT:∀ x y:L,x.val < 6→(!decide (V.str (Txt.lower (toS [y]))=V.str (toS [x])))=(decide (y≠x) && decide (y≠inv x)):=by
 have q:∀ x y:L,x.val < 6→decide ((⟨(([y].map cp).map lo1).toArray⟩:Str)=toS [x])=!(decide (y≠x) && decide (y≠inv x)):=by decide +kernel
 intro x y hx
 have q:=q x y hx
 rw [← fm] at q
 have:decide (V.str (Txt.lower (toS [y]))=V.str (toS [x]))=decide (Txt.lower (toS [y])=toS [x]):=by
  by_cases h:Txt.lower (toS [y])=toS [x]
  ·rw [C_ h,h];exact C_ rfl
  ·rw [C7 h];exact C7 fun e=>h (V.str.inj e)
 rw [this,q,Bool.not_not]
theorem fE {X:Cx}:dm (CXe X.prog X.w) X E0:=by
 rintro pins σ H s e s' I ⟨a,C,d,c,H',he,os,bare,un,hok,ha,hf,hE⟩
 exact False.elim hE
theorem pM {X:Cx}{E:XK}{x:Str}{ps:List Str}{k j lo:Nat}{sp:SpT}{e:Expr}{es:List Expr}{t:TA}{p pos:Pos}(hlo:X.lo=lo)(F:qW X.prog X.w X.K X.mg X.base x ps j sp)(hr:cL k X.A)(hj:j≤k)(hx:dm (CXe X.prog X.w) X E)(hg:Gl X x)(ha:PA X (e::es) t)
  (hdb:(x == ("__debug__":Str))=false:=by decide) (he:starEach (e::es) X.env=(false,eval e X.env)::starEach es X.env:=by rfl) (hpl:(backTo pos (starEach es X.env)).any (·.1)=false:=by rfl) :
  PE X (.Call (.Name x p) (e::es) [] pos) (uf lo sp E t):=by
 subst hlo
 exact pD F hr hj hx hg ha hdb he hpl
theorem Fun.okT {P:Program}{w:World}{K:PySem.W.Frag}{mg:Str→Option Value}{base:Heap}{x qual:Str}{st:Stmt}{f:Addr}{fd:FuncData}{N ps:List Str}{k:Nat}{sp:SpT}(F:Fun K x qual st f fd)(S:ax N ps (ai st))(len:∀ n vs H Q E,sp n vs H Q E→vs.length=ps.length)
  (hbody:∀ (cdv:Value) (A:Around) (outer:List Env) (s:Shared) (H:Hp) (vs:List V) (Q:VK) (E:XK),cL k (A.deeper (envOfC qual (ai st) s.heap.objs.size f cdv))→sp s.toks vs H Q E →
   ∃ t,PSs (gP CX0 P w K mg base N qual (ai st) f cdv A outer s H E).nox (aY st) t∧t { nx:=fun _ H'=>Q .non H',rt:=Q } (start N vs) H):eJ P w K mg base CX0 (k+1) f fd ps sp:=by
 obtain ⟨oc,od,kV,doc,pm,an,cdv,ct,osl,rfl,lk,hcd⟩:=F.ex
 refine ue lk hcd S len fun A outer s H vs Q E hr hsp=>?_
 obtain ⟨t,h,q⟩:=hbody cdv A outer s H vs Q E hr hsp
 exact ⟨t,h.nox,q⟩
end L2
namespace Kx
open PySem PySem.Spec PyProof.Rows L2 Wd
def iB (K:PySem.W.Frag)(N:Nat):SpT:=fun n vs H Q _=>∃ (a:Addr) (ns:List Int),vs=[.ref a]∧SqL K H a (ns.map V.int)∧ns.length≤63∧0 < N∧N≤n∧∀ H',Q (.bl true) H'
end Kx
namespace Wd
def J (u v:List L):Prop:=∀ x y,u.getLast? = some x→v.head? = some y→y≠inv x
theorem cF:∀ (u v:List L),Rd (u++v) ↔ Rd u∧Rd v∧J u v
 | [],v=>by
  constructor
  ·intro h
   exact ⟨trivial,h,fun x y hx=>by simp at hx⟩
  ·intro h
   exact h.2.1
 | [x],[]=>by
  constructor
  ·intro h
   exact ⟨trivial,trivial,fun x y _ hy=>by simp at hy⟩
  ·intro _
   exact trivial
 | [x],y::v=>by
  constructor
  ·intro h
   refine ⟨trivial,h.2,fun a b ha hb=>?_⟩
   have ha:x=a:=by simpa using ha
   have hb:y=b:=by simpa using hb
   subst ha hb
   exact h.1
  ·intro h
   exact ⟨h.2.2 x y rfl rfl,h.2.1⟩
 | x::y::u,v=>by
  have ih:=cF (y::u) v
  constructor
  ·intro h
   have h2:=ih.mp h.2
   refine ⟨⟨h.1,h2.1⟩,h2.2.1,fun a b ha hb=>h2.2.2 a b ?_ hb⟩
   rw [Ho] at ha
   exact ha
  ·intro h
   refine ⟨h.1.1,ih.mpr ⟨h.1.2,h.2.1,fun a b ha hb=>h.2.2 a b ?_ hb⟩⟩
   rw [Ho]
   exact ha
theorem yU {x y:L}(h:y=inv x):x=inv y:=by rw [h,aT]
theorem uk:∀ {w:List L},Rd w→Rd w.reverse
 | [],_=>trivial
 | x::w,h=>by
  rw [Gp,cF]
  refine ⟨uk h.tail,trivial,fun a b ha hb=>?_⟩
  have hb:x=b:=by simpa using hb
  subst hb
  cases w with
  | nil=>simp at ha
  | cons y w =>
   have ha:y=a:=by simpa using ha
   subst ha
   intro e
   exact h.1 (yU e)
theorem yV (w:List L):Rd (red w):=uk (tT w yw)
structure Rnd (c:List L):Prop where
 ne:c≠[]
 rd:Rd c
 jn:J c c
theorem sq {r:List L}(h:r≠[])(n:Nat):(rep (n+1) r).head? = r.head?:=by
 show (rep n r++r).head? = _
 rw [ik]
 cases r with
 | nil=>exact absurd rfl h
 | cons x r=>rfl
theorem su {r:List L}(h:r≠[])(n:Nat):(rep (n+1) r).getLast? = r.getLast?:=by
 show (rep n r++r).getLast? = _
 rw [List.getLast?_append]
 cases hr:r.getLast? with
 | none=>exact absurd (List.getLast?_eq_none_iff.mp hr) h
 | some x=>rfl
theorem lN {r:List L}{n:Nat}(h:Rnd (rep (n+1) r)):Rnd r:=by
 have hne:r≠[]:=by
  intro e
  subst e
  have:rep (n+1) ([]:List L)=[]:=by
   apply D3
   rw [gq]
   rfl
  exact h.ne this
 have hr:Rd (rep n r++r):=h.rd
 rw [cF] at hr
 refine ⟨hne,hr.2.1,fun x y hx hy=>?_⟩
 exact h.jn x y (by rw [su hne];exact hx) (by rw [sq hne];exact hy)
end Wd
namespace L2
open PySem PySem.Spec PyProof.Rows Wd
end L2
namespace Kx
open PySem PySem.Spec PyProof.Rows L2 Wd
end Kx
namespace L2
open PySem PySem.Spec PyProof.Rows Wd
section
variable {X:Cx}
end
end L2
namespace PySem
end PySem
namespace L2
open PySem PySem.Spec PyProof.Rows Wd
section
variable {X:Cx}
end
end L2
namespace HT
open PySem PySem.Spec PyProof.Rows
section
variable {prog:Program} {w:World} {A:Around} {E:Value→Shared→Prop} {s:Shared}
end
end HT
namespace L2
open PySem PySem.Spec PyProof.Rows Wd
section
variable {X:Cx}
end
theorem iC {X:Cx}{K:PySem.W.Frag}(hK:X.K=K):c_ X (.builtin "len") (bS K):=by
 subst hK
 exact aH
section
variable {X:Cx}
end
end L2
namespace HT
open PySem PySem.Spec PyProof.Rows PySem.SeqAt
end HT
namespace L2
open PySem PySem.Spec PyProof.Rows Wd
section
variable {X:Cx}
end
end L2
namespace L2
open PySem PySem.Spec PyProof.Rows
end L2
namespace Kx
open PySem PySem.Spec PyProof.Rows L2 Wd
theorem vL:∀ k:Fin 6,("abcdef":Str).cps.toList[k.val]? = some (cp (lt6 k.val)):=by decide +kernel
theorem sv {u:List L}{p q:Int}(h:u.length=12):glu u p q = .band:=by unfold glu; rw [if_pos h]
theorem yW {u:List L}{p q:Int}(h:u.length≠12)(h0:¬ (0≤p∧p≤(u.length:Int))):glu u p q = .slide 0:=by unfold glu; rw [if_neg h,if_neg h0]
theorem yX {u:List L}{p q:Int}(h:u.length≠12)(h0:0≤p∧p≤(u.length:Int))(h1:¬ (0≤q∧q≤(u.length:Int)+1)):glu u p q = .slide 1:=by unfold glu; rw [if_neg h,if_pos h0,if_neg h1]
theorem fF {u:List L}{p q:Int}(h:u.length≠12)(h0:0≤p∧p≤(u.length:Int))(h1:0≤q∧q≤(u.length:Int)+1):glu u p q = .told (gluW u p.toNat q.toNat (u.length / 2)):=by unfold glu; rw [if_neg h,if_pos h0,if_pos h1]
end Kx
namespace L2
open PySem PySem.Spec PyProof.Rows
inductive yY (X:Cx)(k:Nat)(body:List Stmt)(te:TE)(D:f9)(σ:St)(H:Hp):Prop
 | mk:(te σ H fun v H1=>∃ z,v = .str z∧z.cps.all (· < 128)=true∧∃ Pv:Nat→St→Hp→Prop,Pv 0 σ H1 ∧
   (∀ i σ2 H2 c,z.cps[i]? = some c→Pv i σ2 H2→∀ n t,X.lo≤t→t < n→∃ tb,PSs { X with lo:=n } body tb∧tb { D with nx:=Pv (i+1),ct:=Pv (i+1),bk:=D.nx } (σ2.set k (some (.tks ⟨#[c]⟩ t))) H2) ∧
   ∀ σ2 H2,Pv z.cps.size σ2 H2→D.nx σ2 H2)→yY X k body te D σ H
theorem vM {X:Cx}{iter:Expr}{k:Nat}{x:Str}{body:List Stmt}{te:TE}{pos px:Pos}(hp:PassesOwn (model X.prog X.w) X.A X.env X.xe)(hc:X.calm=true)(hi:PE X iter te)(hN:X.N.Nodup)(hk:X.N[k]? = some x)(hx:Loc X.env.scope x)(hf:X.fn x=true ∨ X.env.scope.names.lookup x=some .local)
  (hs:∀ x,foldedSetIterable iter X.env x=pure x:=by intro _;rfl):PS X (.For (.Name x px) iter body [] pos) (yY X k body te):=by
 intro pins s σ H D I h
 obtain ⟨h⟩:=h
 refine wpAny_For (thn (hi pins s σ H _ I h) fun v s1 h1=>?_) hs
 obtain ⟨y,H1,I1,r1,z,ey,ha,Pv,p0,hb,hd⟩:=h1
 subst ey
 obtain ⟨tz,rfl⟩:=r1
 refine G6 ha ?_
 have T:xE X.prog X.w X.K (.Name x px) (Its z) [s1.heap.objs.size] s1.heap.objs.size (fun i h=>h.IsStrIter s1.heap.objs.size "str_ascii_iterator" z tz i) :=
  bD (T:="str_ascii_iterator") (fl:=fun i=>#[.str z tz,.int i 0]) (fun A hh=>HM hh _ z tz) (fun i h st=>st) (by decide) (fun i H g=>g) (fun i H g=>g) (fun i H u _ hu=>jY hu) (fun A i s Q E st h=>GV st h)
 have f2:∀ b∈[s1.heap.objs.size],mI X pins H1 b:=fun b hb=>by
  have e:b=s1.heap.objs.size:=by simpa using hb
  subst e
  exact I1.fpOk (Da _) (I1.hok.fresh (Da _))
 have I2:=(I1.kept (t':=s1.toks) fun b o e=>C6 { cls:=.type "str_ascii_iterator",data:=.fields #[.str z tz,.int 0 0] } e).up I1.low
 have stat:∀ {H':Hp},(∀ b∈[s1.heap.objs.size],H' b=none)→∀ b∈[s1.heap.objs.size],mI X pins H' b:=fun hn b hb=>⟨hn b hb,(f2 b hb).2⟩
 have st0:(s1.heap.push { cls:=.type "str_ascii_iterator",data:=.fields #[.str z tz,.int 0 0] }).IsStrIter s1.heap.objs.size "str_ascii_iterator" z tz 0:=⟨_,Dv _ rfl,rfl,rfl⟩
 generalize s1.heap.objs.size=it at T f2 stat I2 st0 ⊢
 refine codeAny_forLoop_any (fun n s'=>∃ i σ' H',n=z.cps.size - i∧i≤z.cps.size∧Inv X pins σ' H' s'∧s'.heap.IsStrIter it "str_ascii_iterator" z tz i∧(∀ b∈[it],H' b=none)∧Pv i σ' H') ?_ z.cps.size ⟨0,σ,H1,rfl,D2 _,I2,st0,fun b hb=>(f2 b hb).1,p0⟩
 rintro n s3 ⟨i,σ3,H3,rfl,hi,I3,st3,fr3,w3⟩
 by_cases hlt:i < z.cps.size
 rotate_left
 ·have e:i=z.cps.size:=by omega
  subst e
  refine Ei hp (thn (T.done X rfl rfl rfl hc z.cps.size pins s3 σ3 H3 X.xe I3 (stat fr3) st3 rfl) fun r s4 zq38=>?_)
  obtain ⟨hr,I4⟩:=zq38
  subst hr
  exact FW ⟨σ3,H3,I4,hd _ _ w3⟩
 ·have hcs:z.cps[i]? = some z.cps[i]:=FK hlt
  refine Ei hp (wpAny_pyNext_ascii_item st3 hcs fun h' hit' hs'=>?_)
  obtain ⟨f0,f1,f2',f3,f4,f5⟩:=stat fr3 it (by simp)
  have I4:Inv X pins σ3 H3 { s3 with heap:=h',toks:=s3.toks+1 }:=(I3.turned (fun b o hb e=>hs'.extBut b o hb e) f0 f1 f3 f4 f5).up (Hi I3.low)
  have st4:({ s3 with heap:=h',toks:=s3.toks+1 }:Shared).heap.IsStrIter it "str_ascii_iterator" z tz (i+1):=hit'
  have I5':=I4.pinned (stat fr3) (T.obj _ _ st4)
  obtain ⟨o,eo,co,do_⟩:=hit'
  refine Ei hp (nM (s:={ s3 with heap:=h',toks:=s3.toks+1 }) eo co do_ (by decide) ?_)
  obtain ⟨tb,hb1,q⟩:=hb i σ3 H3 _ hcs w3 (s3.toks+1) s3.toks I3.low (Fm _)
  refine Ei hp (wpAny_assign_Name (wt (Da (s3.toks+1)) (f7 (v:=.tks ⟨#[z.cps[i]]⟩ s3.toks) I5'.toInvW hN hk hx rfl (fun s6 I6 _ l6=>?_) hf)))
  refine Ei hp (wt (n:=X.lo) (DO I3.low (DO (FP _) l6)) (Ep (hb1 _ s6 _ H3 _ ⟨I6.relo,l6⟩ q) (fun f s7 q7 l7=>?_) fun _ _ z=>z))
  have q7:=vK q7
  have again:∀ {σ7:St} {H7:Hp},Inv X (pins++f_ [it] h') σ7 H7 s7→Pv (i+1) σ7 H7→∃ m,m < z.cps.size - i∧∃ i σ' H',m=z.cps.size - i∧i≤z.cps.size∧Inv X pins σ' H' s7∧s7.heap.IsStrIter it "str_ascii_iterator" z tz i∧(∀ b∈[it],H' b=none)∧Pv i σ' H':=fun {σ7 H7} I7 n7=>by
   refine ⟨z.cps.size - (i+1),by omega,i+1,σ7,H7,rfl,hlt,I7.unpinned,T.keep _ _ _ st4 fun b hb o e=>(I7.pin (b,o) (Di _ (Di _ (bE hb e)))).1,fun b hb=>?_,n7⟩
   obtain ⟨o,e,d⟩:=T.obj _ _ st4 b hb
   exact (I7.pin (b,o) (Di _ (Di _ (bE hb e)))).2.1
  cases f with
  | next=>obtain ⟨σ7,H7,I7,n7⟩:=q7;exact again (I7.up l7) n7
  | cont=>obtain ⟨σ7,H7,I7,n7⟩:=q7;exact again (I7.up l7) n7
  | brk=>obtain ⟨σ7,H7,I7,q7⟩:=q7;exact ⟨σ7,H7,(I7.up l7).unpinned,q7⟩
  | ret v=>obtain ⟨x7,σ7,H7,I7,r7,q7⟩:=q7;exact ⟨x7,σ7,H7,(I7.up l7).unpinned,r7,q7⟩
end L2
namespace Tv
open PySem PyProof.Rows
theorem au {σ:Type}{M:Model}{A:Around}{E:Value→Shared→Prop}{s:Shared}{α:Type}{c:Prop}[Decidable c]{x y:StateT σ Sem α}{Q:α→σ→Prop}{st:σ}(h:c)(p:wpS M A E s x Q st):wpS M A E s (if c then x else y) Q st:=by
 rw [if_pos h];exact p
theorem av {σ:Type}{M:Model}{A:Around}{E:Value→Shared→Prop}{s:Shared}{α:Type}{c:Prop}[Decidable c]{x y:StateT σ Sem α}{Q:α→σ→Prop}{st:σ}(h:¬ c)(p:wpS M A E s y Q st):wpS M A E s (if c then x else y) Q st:=by
 rw [if_neg h];exact p
def kof (κ:KeyKind)(p:Keyed):κ.α:=(κ.keyOf p.1).getD κ.dflt
def Gd (κ:KeyKind)(p:Keyed):Prop:=∃ a,κ.keyOf p.1=some a
theorem Gd.eq {κ:KeyKind}{p:Keyed}(h:Gd κ p):κ.keyOf p.1=some (kof κ p):=by
 obtain ⟨a,e⟩:=h
 unfold kof
 rw [e]
 rfl
structure TB (kd:SortKind) (st:SortSt):Prop where
 kind:kindOf st=kd
 failed:failedOf st=none
def Lt1 (κ:KeyKind)(prog:Program)(w:World)(A:Around)(s:Shared)(kd:SortKind):Prop:=∀ (E:Value→Shared→Prop) (x y:Value) (a b:κ.α) (Q:Bool→Shared→Prop),κ.keyOf x=some a→κ.keyOf y=some b→Q (κ.blt a b) s→wpAny (model prog w) A (keyLt' kd x y) Q E s
def gal:Bool→Keyed→Array Keyed→Nat→Nat→Nat→StateT SortSt Sem (Option Nat):=sortPriv% PySem.Builtin.gallop
def gbd (lf:Bool)(key:Keyed)(arr:Array Keyed)(b i:Nat):StateT SortSt Sem (Option Bool):=do
 let it ← elem' arr (b+i)
 if lf then lt' it key else return (← lt' key it).map (!·)
def AC (lf:Bool)(key:Keyed)(arr:Array Keyed)(b n d0 u0:Nat):StateT SortSt Sem (Option Nat):=do
 let mut dn:=d0
 let mut up:=u0
 for _ in [0:n] do
  if dn≥up then break
  let md:=dn+(up - dn) / 2
  let some mr ← gbd lf key arr b md | return none
  if mr then dn:=md+1 else up:=md
 return some up
theorem yZ (lf:Bool)(key:Keyed)(arr:Array Keyed)(b n h:Nat):gal lf key arr b n h=(do
 let mut la:=0
 let mut of:=1
 let some rt ← gbd lf key arr b h | return none
 if rt then
  for _ in [0:n] do
   if of≥n - h then break
   let some mr ← gbd lf key arr b (h+of) | return none
   if !mr then break
   la:=of
   of:=2*of+1
  AC lf key arr b n (h+la+1) (h+min of (n - h))
 else
  for _ in [0:n] do
   if of≥h+1 then break
   let some fd ← gbd lf key arr b (h - of) | return none
   if fd then break
   la:=of
   of:=2*of+1
  AC lf key arr b n (h+1 - min of (h+1)) (h - la)):=rfl
section
variable {prog:Program} {w:World} {A:Around} {E:Value→Shared→Prop} {s:Shared} {κ:KeyKind} {kd:SortKind}
theorem jz {st:SortSt}{x y:Keyed}{Q:Option Bool→SortSt→Prop}(hO:Lt1 κ prog w A s kd)(hB:TB kd st)(hx:Gd κ x)(hy:Gd κ y)(h:Q (some (κ.blt (kof κ x) (kof κ y))) st):wpS (model prog w) A E s (lt' x y) Q st:=by
 rw [lt'_eq]
 refine Dk (GO ?_)
 rw [hB.kind]
 refine Dk (HK (Hn (hO _ x.1 y.1 _ _ _ hx.eq hy.eq ⟨rfl,?_⟩)))
 exact Dr h
def bdB (κ:KeyKind)(lf:Bool)(key:κ.α)(x:κ.α):Bool:=if lf then κ.blt x key else !κ.blt key x
theorem vN {st:SortSt}{lf:Bool}{key p:Keyed}{arr:Array Keyed}{b i:Nat}{Q:Option Bool→SortSt→Prop}(hO:Lt1 κ prog w A s kd)(hB:TB kd st)(hk:Gd κ key)(e:arr[b+i]? = some p)(hp:Gd κ p)
  (h:Q (some (bdB κ lf (kof κ key) (kof κ p))) st):wpS (model prog w) A E s (gbd lf key arr b i) Q st:=by
 unfold gbd
 rw [elem'_eq,e]
 refine Dk (Dr ?_)
 unfold bdB at h
 cases lf with
 | true=>exact jz hO hB hp hk h
 | false=>exact Dk (jz hO hB hk hp (Dr h))
theorem ke {st:SortSt}{lf:Bool}{key:Keyed}{arr:Array Keyed}{b n h:Nat}{Q:Option Nat→SortSt→Prop}(hO:Lt1 κ prog w A s kd)(hB:TB kd st)(hk:Gd κ key)(B:Nat→Bool)(hh:h < n)
  (at_:∀ i,i < n→∃ p,arr[b+i]? = some p∧Gd κ p∧bdB κ lf (kof κ key) (kof κ p)=B i) (mono:∀ i j,i≤j→j < n→B j=true→B i=true)
  (hq:∀ k,k≤n→(∀ i,i < k→B i=true)→(∀ i,k≤i→i < n→B i=false)→Q (some k) st):wpS (model prog w) A E s (gal lf key arr b n h) Q st:=by
 have ask:∀ {i:Nat} {R:Option Bool→SortSt→Prop},i < n→R (some (B i)) st→wpS (model prog w) A E s (gbd lf key arr b i) R st:=fun {i R} hi r=>by
  obtain ⟨p,e,g,eb⟩:=at_ i hi
  exact vN hO hB hk e g (by rw [eb];exact r)
 have no:∀ i j,i≤j→j < n→B i=false→B j=false:=fun i j hij hj e=>by
  cases ej:B j with
  | false=>rfl
  | true=>rw [mono i j hij hj ej] at e;cases e
 -- the last part
 have fin:∀ dn up,dn≤up→up≤n→(∀ i,i < dn→B i=true)→(∀ i,up≤i→i < n→B i=false)→wpS (model prog w) A E s (AC lf key arr b n dn up) Q st:=by
  intro dn up h1 h2 h3 h4
  unfold AC
  refine Dk (EN (Ec (I:=fun x c st'=>st'=st∧∃ dn up,c=(none,dn,up)∧dn≤up∧up≤n∧up - dn≤n - x∧(∀ i,i < dn→B i=true)∧(∀ i,up≤i→i < n→B i=false))
   (Q:=fun c st'=>st'=st∧∃ k,c=(none,k,k)∧k≤n∧(∀ i,i < k→B i=true)∧(∀ i,k≤i→i < n→B i=false)) ?step ?fin ⟨rfl,dn,up,rfl,h1,h2,by omega,h3,h4⟩) ?post)
  case post =>
   rintro c st' ⟨rfl,k,rfl,a1,a2,a3⟩
   exact Dr (hq k a1 a2 a3)
  case fin =>
   rintro c st' ⟨rfl,dn,up,rfl,a1,a2,a3,a4,a5⟩
   have:dn=up:=by omega
   subst this
   exact ⟨rfl,dn,rfl,a2,a4,a5⟩
  case step =>
   rintro x c st' _ hx ⟨rfl,dn,up,rfl,a1,a2,a3,a4,a5⟩
   dsimp only
   by_cases hd:dn≥up
   ·refine au hd ?_
    have:dn=up:=by omega
    subst this
    exact Dr ⟨rfl,dn,rfl,a2,a4,a5⟩
   ·refine av hd ?_
    refine Dk (ask (by omega) ?_)
    cases eb:B (dn+(up - dn) / 2) with
    | true =>
     simp only [Fe]
     exact Dr ⟨rfl,dn+(up - dn) / 2+1,up,rfl,by omega,a2,by omega,fun i hi=>mono i _ (by omega) (by omega) eb,a5⟩
    | false =>
     simp only [DF,Eu]
     exact Dr ⟨rfl,dn,dn+(up - dn) / 2,rfl,by omega,by omega,by omega,a4,fun i hi1 hi2=>no _ i (by omega) hi2 eb⟩
 rw [yZ]
 refine Dk (ask hh ?_)
 cases eh:B h with
 | true =>
  dsimp only
  refine au rfl ?_
  refine Dk (EN (Ec (I:=fun x c st'=>st'=st∧∃ la of,c=(none,la,of)∧la < of∧x+1≤of∧h+la < n∧B (h+la)=true)
   (Q:=fun c st'=>st'=st∧∃ la of,c=(none,la,of)∧la < of∧h+la < n∧B (h+la)=true∧(of≥n - h ∨ (h+of < n∧B (h+of)=false))) ?step ?fin ⟨rfl,0,1,rfl,by omega,by omega,by omega,eh⟩) ?post)
  case post =>
   rintro c st' ⟨rfl,la,of,rfl,a1,a2,a3,a4⟩
   dsimp only
   refine fin (h+la+1) (h+min of (n - h)) (by omega) (by omega) (fun i hi=>mono i _ (by omega) a2 a3) fun i hi1 hi2=>?_
   rcases a4 with a4 | ⟨a4,a5⟩
   ·omega
   ·exact no _ i (by omega) hi2 a5
  case fin =>
   rintro c st' ⟨rfl,la,of,rfl,a1,a2,a3,a4⟩
   exact ⟨rfl,la,of,rfl,a1,a3,a4,.inl (by omega)⟩
  case step =>
   rintro x c st' _ hx ⟨rfl,la,of,rfl,a1,a2,a3,a4⟩
   dsimp only
   by_cases ho:of≥n - h
   ·refine au ho ?_
    exact Dr ⟨rfl,la,of,rfl,a1,a3,a4,.inl ho⟩
   ·refine av ho ?_
    refine Dk (ask (by omega) ?_)
    cases eb:B (h+of) with
    | true =>
     simp only [GE,DF,Eu]
     exact Dr ⟨rfl,of,2*of+1,rfl,by omega,by omega,by omega,eb⟩
    | false =>
     simp only [Bool.not_false,Fe]
     exact Dr ⟨rfl,la,of,rfl,a1,a3,a4,.inr ⟨by omega,eb⟩⟩
 | false =>
  dsimp only
  refine av Dy ?_
  refine Dk (EN (Ec (I:=fun x c st'=>st'=st∧∃ la of,c=(none,la,of)∧la < of∧x+1≤of∧la≤h∧B (h - la)=false)
   (Q:=fun c st'=>st'=st∧∃ la of,c=(none,la,of)∧la < of∧la≤h∧B (h - la)=false∧(of≥h+1 ∨ (of≤h∧B (h - of)=true))) ?step ?fin ⟨rfl,0,1,rfl,by omega,by omega,by omega,eh⟩) ?post)
  case post =>
   rintro c st' ⟨rfl,la,of,rfl,a1,a2,a3,a4⟩
   dsimp only
   refine fin (h+1 - min of (h+1)) (h - la) (by omega) (by omega) (fun i hi=>?_) fun i hi1 hi2=>no _ i hi1 hi2 a3
   rcases a4 with a4 | ⟨a4,a5⟩
   ·omega
   ·exact mono i _ (by omega) (by omega) a5
  case fin =>
   rintro c st' ⟨rfl,la,of,rfl,a1,a2,a3,a4⟩
   exact ⟨rfl,la,of,rfl,a1,a3,a4,.inl (by omega)⟩
  case step =>
   rintro x c st' _ hx ⟨rfl,la,of,rfl,a1,a2,a3,a4⟩
   dsimp only
   by_cases ho:of≥h+1
   ·refine au ho ?_
    exact Dr ⟨rfl,la,of,rfl,a1,a3,a4,.inl ho⟩
   ·refine av ho ?_
    refine Dk (ask (by omega) ?_)
    cases eb:B (h - of) with
    | false =>
     simp only [DF,Eu]
     exact Dr ⟨rfl,of,2*of+1,rfl,by omega,by omega,by omega,eb⟩
    | true =>
     simp only [Fe]
     exact Dr ⟨rfl,la,of,rfl,a1,a3,a4,.inr ⟨by omega,eb⟩⟩
end
def mlo:Array Keyed→Array Keyed→StateT SortSt Sem (Array Keyed):=sortPriv% PySem.Builtin.mergeLo
def smg:Nat→StateT SortSt Sem Unit:=sortPriv% PySem.Builtin.setMinGallop
abbrev mDn (a b o:Array Keyed)(i j:Nat):Array Keyed:=o++a.extract i a.size++b.extract j b.size
abbrev mLa (a b o:Array Keyed)(i j:Nat):Array Keyed:=o++b.extract j b.size++a.extract i a.size
theorem y6 (a b:Array Keyed):mlo a b=(do
 rule "list.sort.merge-lo"
 let mut o:Array Keyed:=#[← elem' b 0]
 let mut i:=0
 let mut j:=1
 if j == b.size then return mDn a b o i j
 if i+1 == a.size then return mLa a b o i j
 let mut g:=gallopOf (← get)
 for _ in [0:a.size+b.size] do
  let mut p:=0
  let mut q:=0
  for _ in [0:a.size+b.size] do
   let some w ← lt' (← elem' b j) (← elem' a i) | return mDn a b o i j
   if w then
    o:=o.push (← elem' b j)
    j:=j+1
    q:=q+1
    p:=0
    if j == b.size then return mDn a b o i j
    if q≥g then break
   else
    o:=o.push (← elem' a i)
    i:=i+1
    p:=p+1
    q:=0
    if i+1 == a.size then return mLa a b o i j
    if p≥g then break
  rule "list.sort.gallop"
  g:=g+1
  for _ in [0:a.size+b.size] do
   if g > 1 then g:=g - 1
   smg g
   let some k ← gal false (← elem' b j) a i (a.size - i) 0 | return mDn a b o i j
   p:=k
   if k > 0 then
    o:=o++a.extract i (i+k)
    i:=i+k
    if i+1 == a.size then return mLa a b o i j
    if i == a.size then return mDn a b o i j
   o:=o.push (← elem' b j)
   j:=j+1
   if j == b.size then return mDn a b o i j
   let some k ← gal true (← elem' a i) b j (b.size - j) 0 | return mDn a b o i j
   q:=k
   if k > 0 then
    o:=o++b.extract j (j+k)
    j:=j+k
    if j == b.size then return mDn a b o i j
   o:=o.push (← elem' a i)
   i:=i+1
   if i+1 == a.size then return mLa a b o i j
   if p < 7 && q < 7 then break
  g:=g+1
  smg g
 unsupported "internal:list.sort.merge-bound"):=rfl
end Tv
namespace Tv
open PySem PyProof.Rows
variable {κ:KeyKind} {kd:SortKind}
def lek (κ:KeyKind)(x y:Keyed):Prop:=κ.kle (kof κ x) (kof κ y)
theorem dG {x y z:Keyed}(h:lek κ x y)(g:lek κ y z):lek κ x z:=Fn h g
theorem sC (x:Keyed):lek κ x x:=Es _
def Srt (κ:KeyKind)(l:List Keyed):Prop:=l.Pairwise (lek κ)
theorem Srt.drop {l:List Keyed}(h:Srt κ l)(i:Nat):Srt κ (l.drop i):=List.Pairwise.sublist (List.drop_sublist i l) h
theorem Srt.take {l:List Keyed}(h:Srt κ l)(i:Nat):Srt κ (l.take i):=List.Pairwise.sublist (List.take_sublist i l) h
def Lel (κ:KeyKind)(l m:List Keyed):Prop:=∀ x∈l,∀ y∈m,lek κ x y
theorem a9 {l m:List Keyed}:Srt κ (l++m) ↔ Srt κ l∧Srt κ m∧Lel κ l m:=List.pairwise_append
theorem Srt.at {l:List Keyed}(h:Srt κ l){i j:Nat}{x y:Keyed}(hij:i≤j)(hx:l[i]? = some x)(hy:l[j]? = some y):lek κ x y:=by
 by_cases e:i=j
 ·subst e
  rw [hx] at hy
  cases hy
  exact sC _
 ·obtain ⟨h1,e1⟩:=Dd.mp hx
  obtain ⟨h2,e2⟩:=Dd.mp hy
  have:=EF.mp h i j h1 h2 (by omega)
  rw [e1,e2] at this
  exact this
theorem bM {l:List Keyed}{i:Nat}{x:Keyed}(h:l[i]? = some x):l.drop i=x::l.drop (i+1):=by
 obtain ⟨h1,e1⟩:=Dd.mp h
 rw [Er h1,e1]
theorem a7 {l:List Keyed}{i:Nat}{x:Keyed}(h:l[i]? = some x):l.take (i+1)=l.take i++[x]:=by
 rw [FC,h]
 rfl
structure Mc (κ:KeyKind) (A B O:List Keyed) (i j:Nat):Prop where
 pm:O.Perm (A.take i++B.take j)
 so:Srt κ O
 la:Lel κ O (A.drop i)
 lb:Lel κ O (B.drop j)
 hi:i≤A.length
 hj:j≤B.length
theorem Mc.pushA {A B O:List Keyed}{i j:Nat}(M:Mc κ A B O i j)(sA:Srt κ A){x:Keyed}(h:A[i]? = some x)(hx:Lel κ [x] (B.drop j)):Mc κ A B (O++[x]) (i+1) j:=by
 have ed:=bM h
 have sd:=sA.drop i
 rw [ed] at sd
 have sd':=Fu.mp sd
 refine ⟨?_,a9.mpr ⟨M.so,Hq _ _,fun o ho y hy=>?_⟩,fun o ho y hy=>?_,fun o ho y hy=>?_,(Dd.mp h).1,M.hj⟩
 ·rw [a7 h]
  refine (M.pm.append_right [x]).trans ?_
  rw [Dh,Dh]
  exact Ek _ D0
 ·rw [De] at hy
  subst hy
  exact M.la o ho _ (by rw [ed];exact Dz)
 ·rcases DB.mp ho with ho | ho
  ·exact M.la o ho y (by rw [ed];exact Dg _ hy)
  ·rw [De] at ho
   subst ho
   exact sd'.1 y hy
 ·rcases DB.mp ho with ho | ho
  ·exact M.lb o ho y hy
  ·exact hx o ho y hy
theorem Mc.pushB {A B O:List Keyed}{i j:Nat}(M:Mc κ A B O i j)(sB:Srt κ B){x:Keyed}(h:B[j]? = some x)(hx:Lel κ [x] (A.drop i)):Mc κ A B (O++[x]) i (j+1):=by
 have ed:=bM h
 have sd:=sB.drop j
 rw [ed] at sd
 have sd':=Fu.mp sd
 refine ⟨?_,a9.mpr ⟨M.so,Hq _ _,fun o ho y hy=>?_⟩,fun o ho y hy=>?_,fun o ho y hy=>?_,M.hi,(Dd.mp h).1⟩
 ·rw [a7 h]
  refine (M.pm.append_right [x]).trans ?_
  rw [Dh]
 ·rw [De] at hy
  subst hy
  exact M.lb o ho _ (by rw [ed];exact Dz)
 ·rcases DB.mp ho with ho | ho
  ·exact M.la o ho y hy
  ·exact hx o ho y hy
 ·rcases DB.mp ho with ho | ho
  ·exact M.lb o ho y (by rw [ed];exact Dg _ hy)
  ·rw [De] at ho
   subst ho
   exact sd'.1 y hy
theorem Mc.pushAs {A B O:List Keyed}{i j:Nat}(M:Mc κ A B O i j)(sA:Srt κ A):∀ k,i+k≤A.length→Lel κ ((A.drop i).take k) (B.drop j)→Mc κ A B (O++(A.drop i).take k) (i+k) j
 | 0,_,_=>by simpa using M
 | k+1,hk,hl=>by
  have hlt:i+k < A.length:=by omega
  have e:(A.drop i)[k]? = some A[i+k]:=by rw [Eb,fu hlt]
  have et:(A.drop i).take (k+1)=(A.drop i).take k++[A[i+k]]:=a7 e
  rw [et] at hl ⊢
  have ih:=Mc.pushAs M sA k (by omega) fun x hx=>hl x (DM _ hx)
  have:=ih.pushA sA (fu hlt) fun x hx=>hl x (Di _ hx)
  rw [Dh] at this
  exact this
theorem Mc.pushBs {A B O:List Keyed}{i j:Nat}(M:Mc κ A B O i j)(sB:Srt κ B):∀ k,j+k≤B.length→Lel κ ((B.drop j).take k) (A.drop i)→Mc κ A B (O++(B.drop j).take k) i (j+k)
 | 0,_,_=>by simpa using M
 | k+1,hk,hl=>by
  have hlt:j+k < B.length:=by omega
  have e:(B.drop j)[k]? = some B[j+k]:=by rw [Eb,fu hlt]
  have et:(B.drop j).take (k+1)=(B.drop j).take k++[B[j+k]]:=a7 e
  rw [et] at hl ⊢
  have ih:=Mc.pushBs M sB k (by omega) fun x hx=>hl x (DM _ hx)
  have:=ih.pushB sB (fu hlt) fun x hx=>hl x (Di _ hx)
  rw [Dh] at this
  exact this
def Mg (κ:KeyKind)(A B R:List Keyed):Prop:=R.Perm (A++B)∧Srt κ R
theorem Mc.perm {A B O:List Keyed}{i j:Nat}(M:Mc κ A B O i j):(O++(A.drop i++B.drop j)).Perm (A++B):=by
 have h1:(O++(A.drop i++B.drop j)).Perm ((A.take i++B.take j)++(A.drop i++B.drop j)):=M.pm.append_right _
 refine h1.trans ?_
 have h2:((A.take i++B.take j)++(A.drop i++B.drop j)).Perm ((A.take i++A.drop i)++(B.take j++B.drop j)):=by
  rw [Dh,Dh]
  refine Ek _ ?_
  rw [← Dh,← Dh]
  exact D_ _ D0
 rw [DJ,DJ] at h2
 exact h2
theorem Mc.done {A B O:List Keyed}{i j:Nat}(M:Mc κ A B O i j)(sA:Srt κ A)(sB:Srt κ B)(h:i=A.length ∨ j=B.length):Mg κ A B (O++A.drop i++B.drop j):=by
 refine ⟨by rw [Dh];exact M.perm,?_⟩
 rw [Dh]
 refine a9.mpr ⟨M.so,a9.mpr ⟨sA.drop i,sB.drop j,fun x hx y hy=>?_⟩,fun o ho y hy=>?_⟩
 ·rcases h with h | h
  ·subst h;rw [Hv] at hx;cases hx
  ·subst h;rw [Hv] at hy;cases hy
 ·rcases DB.mp hy with hy | hy
  ·exact M.la o ho y hy
  ·exact M.lb o ho y hy
theorem Mc.last {A B O:List Keyed}{i j:Nat}(M:Mc κ A B O i j)(sA:Srt κ A)(sB:Srt κ B)(h:i+1=A.length)(hl:∀ z,A[A.length - 1]? = some z→Lel κ B [z]):Mg κ A B (O++B.drop j++A.drop i):=by
 have hlt:i < A.length:=by omega
 have ed:A.drop i=[A[i]]:=by rw [bM (fu hlt),Gf (by omega)]
 refine ⟨?_,?_⟩
 ·refine List.Perm.trans ?_ M.perm
  rw [Dh]
  exact Ek _ D0
 ·rw [Dh]
  refine a9.mpr ⟨M.so,a9.mpr ⟨sB.drop j,sA.drop i,fun x hx y hy=>?_⟩,fun o ho y hy=>?_⟩
  ·rw [ed] at hy
   exact hl A[i] (by rw [show A.length - 1=i by omega];exact fu hlt) x (FH hx) y hy
  ·rcases DB.mp hy with hy | hy
   ·exact M.lb o ho y hy
   ·exact M.la o ho y hy
theorem lO (a b o:Array Keyed)(i j:Nat):(mDn a b o i j).toList=o.toList++a.toList.drop i++b.toList.drop j:=by
 simp [mDn,Em,D6]
theorem lP (a b o:Array Keyed)(i j:Nat):(mLa a b o i j).toList=o.toList++b.toList.drop j++a.toList.drop i:=by
 simp [mLa,Em,D6]
theorem lQ (a:Array Keyed)(i k:Nat):(a.extract i (i+k)).toList=(a.toList.drop i).take k:=by
 simp [Em,List.take_drop]
theorem lS {lf:Bool}{key x y:κ.α}(h:κ.kle x y)(hb:bdB κ lf key y=true):bdB κ lf key x=true:=by
 unfold bdB at hb ⊢
 cases lf with
 | true=>exact KeyOrd.klt_of_kle_of_klt h hb
 | false =>
  have hb:(!κ.blt key y)=true:=hb
  have hy:κ.kle y key:=by show κ.blt key y=false;simpa using hb
  have:=Fn h hy
  show (!κ.blt key x)=true
  have this:κ.blt key x=false:=this
  rw [this]
  rfl
end Tv
namespace Tv
open PySem PyProof.Rows
section
variable {prog:Program} {w:World} {A:Around} {E:Value→Shared→Prop} {s:Shared} {κ:KeyKind} {kd:SortKind}
structure Ok (kd:SortKind) (st st':SortSt):Prop where
 tb:TB kd st'
 ar:arrOf st'=arrOf st
 pd:pendingOf st'=pendingOf st
theorem Ok.refl {st:SortSt}(h:TB kd st):Ok kd st st:=⟨h,rfl,rfl⟩
theorem iD {st st':SortSt}{g:Nat}{Q:Unit→SortSt→Prop}(h:Ok kd st st')(q:∀ st'',Ok kd st st''→Q () st''):wpS (model prog w) A E s (smg g) Q st':=by
 refine FS (q _ ⟨⟨h.tb.kind,h.tb.failed⟩,h.ar,h.pd⟩)
theorem aL {st:SortSt}{arr:Array Keyed}{i:Nat}{x:Keyed}{Q:Keyed→SortSt→Prop}(e:arr.toList[i]? = some x)(h:Q x st):wpS (model prog w) A E s (elem' arr i) Q st:=by
 have e':arr[i]? = some x:=by simpa using e
 rw [elem'_eq,e']
 exact Dr h
theorem lU {st:SortSt}{lf:Bool}{key:Keyed}{arr:Array Keyed}{i:Nat}{Q:Option Nat→SortSt→Prop}(hO:Lt1 κ prog w A s kd)(hB:TB kd st)(hk:Gd κ key)(hg:∀ x∈arr.toList,Gd κ x)(sa:Srt κ arr.toList)(hi:i < arr.size)
  (hq:∀ k,i+k≤arr.size→(∀ x∈(arr.toList.drop i).take k,bdB κ lf (kof κ key) (kof κ x)=true)→(∀ x∈arr.toList.drop (i+k),bdB κ lf (kof κ key) (kof κ x)=false)→Q (some k) st) :
  wpS (model prog w) A E s (gal lf key arr i (arr.size - i) 0) Q st:=by
 have hl:arr.toList.length=arr.size:=C9
 refine ke hO hB hk (fun t=>match arr.toList[i+t]? with | some p=>bdB κ lf (kof κ key) (kof κ p) | none=>false) (by omega) (fun t ht=>?_) (fun t u htu hu hb=>?_) (fun k hk' h1 h2=>hq k (by omega) (fun x hx=>?_) fun x hx=>?_)
 ·have hlt:i+t < arr.toList.length:=by omega
  have e:=fu hlt
  refine ⟨arr.toList[i+t],by simpa using e,hg _ (DZ hlt),?_⟩
  rw [e]
 ·have h1:i+t < arr.toList.length:=by omega
  have h2:i+u < arr.toList.length:=by omega
  have e1:=fu h1
  have e2:=fu h2
  rw [e2] at hb
  rw [e1]
  exact lS (sa.at (by omega) e1 e2) hb
 ·obtain ⟨t,e⟩:=En hx
  have ht:t < k:=by
   have:=(Dd.mp e).1
   rw [Dw] at this
   omega
  rw [FZ,if_pos ht,Eb] at e
  have:=h1 t ht
  rw [e] at this
  exact this
 ·obtain ⟨t,e⟩:=En hx
  rw [Eb] at e
  have hlt:=(Dd.mp e).1
  have:=h2 (k+t) (by omega) (by omega)
  rw [show i+(k+t)=i+k+t by omega,e] at this
  exact this
theorem not_lt {x y:Keyed}(h:κ.blt (kof κ x) (kof κ y)=false):lek κ y x:=h
theorem sD {x y:Keyed}(h:κ.blt (kof κ x) (kof κ y)=true):lek κ x y:=FF h
theorem fG {l:List Keyed}(sl:Srt κ l){i:Nat}{x y:Keyed}(e:l[i]? = some y)(h:lek κ x y):Lel κ [x] (l.drop i):=fun z hz t ht=>by
 rw [De] at hz
 subst hz
 rw [bM e] at ht
 rcases Dj.mp ht with rfl | ht
 ·exact h
 ·have sd:=sl.drop i
  rw [bM e] at sd
  exact dG h ((Fu.mp sd).1 t ht)
abbrev MSt:=Option (Array Keyed) × Array Keyed × Nat × Nat × Nat × Nat × Nat
def jp3 (a b:Array Keyed)(i g p q:Nat)(o:Array Keyed)(j:Nat):StateT SortSt Sem (ForInStep MSt):=do
 let e ← elem' a i
 if (i+1+1 == a.size)=true then pure (.done (some (mLa a b (o.push e) (i+1) j),o.push e,i+1,j,g,p,q))
 else if (decide (p < 7) && decide (q < 7))=true then pure (.done (none,o.push e,i+1,j,g,p,q)) else pure (.yield (none,o.push e,i+1,j,g,p,q))
def jp2 (a b:Array Keyed)(j g p q:Nat)(o:Array Keyed)(i:Nat):StateT SortSt Sem (ForInStep MSt):=do
 let e ← elem' b j
 if (j+1 == b.size)=true then pure (.done (some (mDn a b (o.push e) i (j+1)),o.push e,i,j+1,g,p,q))
 else do
  let f ← elem' a i
  let y ← gal true f b (j+1) (b.size - (j+1)) 0
  match y with
  | some k=>if k > 0 then (if (j+1+k == b.size)=true then pure (.done (some (mDn a b (o.push e++b.extract (j+1) (j+1+k)) i (j+1+k)),o.push e++b.extract (j+1) (j+1+k),i,j+1+k,g,p,k)) else jp3 a b i g p k (o.push e++b.extract (j+1) (j+1+k)) (j+1+k)) else jp3 a b i g p k (o.push e) (j+1)
  | _=>pure (.done (some (mDn a b (o.push e) i (j+1)),o.push e,i,j+1,g,p,q))
def jp1 (a b:Array Keyed)(o:Array Keyed)(i j p q g:Nat):StateT SortSt Sem (ForInStep MSt):=do
 smg g
 let e ← elem' b j
 let y ← gal false e a i (a.size - i) 0
 match y with
 | some k=>if k > 0 then (if (i+k+1 == a.size)=true then pure (.done (some (mLa a b (o++a.extract i (i+k)) (i+k) j),o++a.extract i (i+k),i+k,j,g,k,q)) else if (i+k == a.size)=true then pure (.done (some (mDn a b (o++a.extract i (i+k)) (i+k) j),o++a.extract i (i+k),i+k,j,g,k,q)) else jp2 a b j g k q (o++a.extract i (i+k)) (i+k)) else jp2 a b j g k q o i
 | _=>pure (.done (some (mDn a b o i j),o,i,j,g,p,q))
def Pst (κ:KeyKind)(a b:Array Keyed)(x:Nat)(st:SortSt)(r:ForInStep MSt)(st':SortSt):Prop:=match r with
 | .done c=>((∃ r z,c=(some r,z)∧Mg κ a.toList b.toList r.toList) ∨ ∃ o i j g p q,c=(none,o,i,j,g,p,q)∧Mc κ a.toList b.toList o.toList i j∧i+1 < a.size∧j < b.size∧x+2≤i+j)∧Ok kd st st'
 | .yield c=>∃ o i j g p q,c=(none,o,i,j,g,p,q)∧Mc κ a.toList b.toList o.toList i j∧i+1 < a.size∧j < b.size∧x+2≤i+j∧Ok kd st st'
structure Two (κ:KeyKind) (a b:Array Keyed):Prop where
 ga:∀ x∈a.toList,Gd κ x
 gb:∀ x∈b.toList,Gd κ x
 sa:Srt κ a.toList
 sb:Srt κ b.toList
 hl:∀ z,a.toList[a.size - 1]? = some z→Lel κ b.toList [z]
theorem Two.atA {a b:Array Keyed}(T:Two κ a b){i:Nat}(hi:i < a.size):∃ x,a.toList[i]? = some x∧Gd κ x:=⟨a.toList[i]'(by rw [C9]; exact hi),fu (by rw [C9]; exact hi),T.ga _ (DZ _)⟩
theorem Two.atB {a b:Array Keyed}(T:Two κ a b){i:Nat}(hi:i < b.size):∃ x,b.toList[i]? = some x∧Gd κ x:=⟨b.toList[i]'(by rw [C9]; exact hi),fu (by rw [C9]; exact hi),T.gb _ (DZ _)⟩
theorem Two.dn {a b:Array Keyed}(T:Two κ a b){o:Array Keyed}{i j:Nat}(M:Mc κ a.toList b.toList o.toList i j)(h:i=a.size ∨ j=b.size):Mg κ a.toList b.toList (mDn a b o i j).toList:=by
 rw [lO]
 exact M.done T.sa T.sb (by rw [C9,C9];exact h)
theorem Two.ls {a b:Array Keyed}(T:Two κ a b){o:Array Keyed}{i j:Nat}(M:Mc κ a.toList b.toList o.toList i j)(h:i+1=a.size):Mg κ a.toList b.toList (mLa a b o i j).toList:=by
 rw [lP]
 exact M.last T.sa T.sb (by rw [C9];exact h) (by rw [C9];exact T.hl)
theorem pN {st st':SortSt}{a b o:Array Keyed}{i j g p q x:Nat}{xa:Keyed}(T:Two κ a b)(M:Mc κ a.toList b.toList o.toList i j)(hi:i+1 < a.size)(hj:j < b.size)(hx:x+2≤i+j)(ok:Ok kd st st')(exa:a.toList[i]? = some xa)(hle:Lel κ [xa] (b.toList.drop j)) :
  wpS (model prog w) A E s (jp3 a b i g p q o j) (Pst (kd:=kd) κ a b x st) st':=by
 unfold jp3
 refine Dk (aL exa ?_)
 have M':Mc κ a.toList b.toList (o.push xa).toList (i+1) j:=by rw [Fb];exact M.pushA T.sa exa hle
 by_cases hia:i+1+1=a.size
 ·refine au (by simpa using hia) ?_
  exact Dr ⟨.inl ⟨_,_,rfl,T.ls M' hia⟩,ok⟩
 ·refine av (by simpa using hia) ?_
  by_cases hpq:(decide (p < 7) && decide (q < 7))=true
  ·refine au hpq ?_
   exact Dr ⟨.inr ⟨_,_,_,_,_,_,rfl,M',by omega,hj,by omega⟩,ok⟩
  ·refine av hpq ?_
   exact Dr ⟨_,_,_,_,_,_,rfl,M',by omega,hj,by omega,ok⟩
theorem eR {x y:Keyed}:bdB κ false (kof κ x) (kof κ y)=true→lek κ y x:=fun h=>by
 unfold bdB at h
 have h:(!κ.blt (kof κ x) (kof κ y))=true:=h
 show κ.blt (kof κ x) (kof κ y)=false
 simpa using h
theorem fH {x y:Keyed}:bdB κ false (kof κ x) (kof κ y)=false→lek κ x y:=fun h=>by
 unfold bdB at h
 have h:(!κ.blt (kof κ x) (kof κ y))=false:=h
 exact sD (by simpa using h)
theorem kf {x y:Keyed}:bdB κ true (kof κ x) (kof κ y)=true→lek κ y x:=fun h=>sD h
theorem iE {x y:Keyed}:bdB κ true (kof κ x) (kof κ y)=false→lek κ x y:=fun h=>h
theorem pO {st st':SortSt}{a b o:Array Keyed}{i j g p q x:Nat}{xb:Keyed}(hO:Lt1 κ prog w A s kd)(T:Two κ a b)(M:Mc κ a.toList b.toList o.toList i j)(hi:i+1 < a.size)(hj:j < b.size)(hx:x+2≤i+j)(ok:Ok kd st st')(exb:b.toList[j]? = some xb)(hle:Lel κ [xb] (a.toList.drop i)) :
  wpS (model prog w) A E s (jp2 a b j g p q o i) (Pst (kd:=kd) κ a b x st) st':=by
 have la:a.toList.length=a.size:=C9
 have lb:b.toList.length=b.size:=C9
 unfold jp2
 refine Dk (aL exb ?_)
 have M':Mc κ a.toList b.toList (o.push xb).toList i (j+1):=by rw [Fb];exact M.pushB T.sb exb hle
 by_cases hjb:j+1=b.size
 ·refine au (by simpa using hjb) ?_
  exact Dr ⟨.inl ⟨_,_,rfl,T.dn M' (.inr hjb)⟩,ok⟩
 refine av (by simpa using hjb) ?_
 obtain ⟨xa,exa,gxa⟩:=T.atA (i:=i) (by omega)
 refine Dk (aL exa (Dk (lU hO ok.tb gxa T.gb T.sb (by omega) fun k hk t1 t2=>?_)))
 dsimp only
 have MB:Mc κ a.toList b.toList ((o.push xb).toList++(b.toList.drop (j+1)).take k) i (j+1+k):=M'.pushBs T.sb k (by omega) fun z hz=>fG T.sa exa (kf (t1 z hz)) z (De.mpr rfl)
 have rest:Lel κ [xa] (b.toList.drop (j+1+k)):=fun z hz y hy=>by
  rw [De] at hz
  subst hz
  exact iE (t2 y hy)
 by_cases hk0:k > 0
 ·refine au hk0 ?_
  have MB':Mc κ a.toList b.toList (o.push xb++b.extract (j+1) (j+1+k)).toList i (j+1+k):=by rw [GP,lQ];exact MB
  by_cases hje:j+1+k=b.size
  ·refine au (by simpa using hje) ?_
   exact Dr ⟨.inl ⟨_,_,rfl,T.dn MB' (.inr hje)⟩,ok⟩
  ·refine av (by simpa using hje) ?_
   exact pN T MB' hi (by omega) (by omega) ok exa rest
 ·refine av hk0 ?_
  have:k=0:=by omega
  subst this
  exact pN T M' hi (by omega) (by omega) ok exa rest
theorem pP {st st':SortSt}{a b o:Array Keyed}{i j g p q x:Nat}(hO:Lt1 κ prog w A s kd)(T:Two κ a b)(M:Mc κ a.toList b.toList o.toList i j)(hi:i+1 < a.size)(hj:j < b.size)(hx:x+2≤i+j)(ok:Ok kd st st') :
  wpS (model prog w) A E s (jp1 a b o i j p q g) (Pst (kd:=kd) κ a b x st) st':=by
 have la:a.toList.length=a.size:=C9
 have lb:b.toList.length=b.size:=C9
 unfold jp1
 refine Dk (iD ok fun st3 ok3=>?_)
 obtain ⟨xb,exb,gxb⟩:=T.atB hj
 refine Dk (aL exb (Dk (lU hO ok3.tb gxb T.ga T.sa (by omega) fun k hk t1 t2=>?_)))
 dsimp only
 have MA:Mc κ a.toList b.toList (o.toList++(a.toList.drop i).take k) (i+k) j:=M.pushAs T.sa k (by omega) fun z hz=>fG T.sb exb (eR (t1 z hz)) z (De.mpr rfl)
 have rest:Lel κ [xb] (a.toList.drop (i+k)):=fun z hz y hy=>by
  rw [De] at hz
  subst hz
  exact fH (t2 y hy)
 by_cases hk0:k > 0
 ·refine au hk0 ?_
  have MA':Mc κ a.toList b.toList (o++a.extract i (i+k)).toList (i+k) j:=by rw [GP,lQ];exact MA
  by_cases h1:i+k+1=a.size
  ·refine au (by simpa using h1) ?_
   exact Dr ⟨.inl ⟨_,_,rfl,T.ls MA' h1⟩,ok3⟩
  ·refine av (by simpa using h1) ?_
   by_cases h2:i+k=a.size
   ·refine au (by simpa using h2) ?_
    exact Dr ⟨.inl ⟨_,_,rfl,T.dn MA' (.inl h2)⟩,ok3⟩
   ·refine av (by simpa using h2) ?_
    exact pO hO T MA' (by omega) hj (by omega) ok3 exb rest
 ·refine av hk0 ?_
  have:k=0:=by omega
  subst this
  exact pO hO T M hi hj hx ok3 exb rest
abbrev TS (α:Type):=StateT SortSt Sem α
abbrev T6:=Option (Array Keyed) × Array Keyed × Nat × Nat × Nat × Nat
abbrev T5:=Option (Array Keyed) × Array Keyed × Nat × Nat × Nat
def mBe {α:Type}(c:Option (Array Keyed) × α):TS (Array Keyed):=match c.1 with
 | some r=>pure r
 | none=>unsupported "internal:list.sort.merge-bound"
def mB1 (a b:Array Keyed)(g:Nat):T6→TS (ForInStep T6):=fun (_,o,i,j,p,q)=>do
 let y ← elem' b j
 let x ← elem' a i
 let w ← lt' y x
 match w with
 | some w =>
  if w=true then do
   let e ← elem' b j
   if (j+1 == b.size)=true then pure (.done (some (mDn a b (o.push e) i (j+1)),o.push e,i,j+1,0,q+1))
   else if q+1≥g then pure (.done (none,o.push e,i,j+1,0,q+1)) else pure (.yield (none,o.push e,i,j+1,0,q+1))
  else do
   let e ← elem' a i
   if (i+1+1 == a.size)=true then pure (.done (some (mLa a b (o.push e) (i+1) j),o.push e,i+1,j,p+1,0))
   else if p+1≥g then pure (.done (none,o.push e,i+1,j,p+1,0)) else pure (.yield (none,o.push e,i+1,j,p+1,0))
 | _=>pure (.done (some (mDn a b o i j),o,i,j,p,q))
def mB3 (a b:Array Keyed):MSt→TS (ForInStep MSt):=fun (_,o,i,j,g,p,q)=>if g > 1 then jp1 a b o i j p q (g - 1) else jp1 a b o i j p q g
def mB2 (a b:Array Keyed)(g:Nat):T6→TS (ForInStep T5)
 | (some r,o,i,j,_)=>pure (.done (some r,o,i,j,g))
 | (none,o,i,j,p,q)=>do
  rule "list.sort.gallop"
  match ← forIn [0:a.size+b.size] ((none,o,i,j,g+1,p,q):MSt) fun _ d=>mB3 a b d with
  | (some r,o,i,j,g,_)=>pure (.done (some r,o,i,j,g))
  | (none,o,i,j,g,_)=>do
   smg (g+1)
   pure (.yield (none,o,i,j,g+1))
def mB0 (a b:Array Keyed):T5→TS (ForInStep T5):=fun (_,o,i,j,g)=>do
 let d ← forIn [0:a.size+b.size] ((none,o,i,j,0,0):T6) fun _ d=>mB1 a b g d
 mB2 a b g d
theorem vO (a b:Array Keyed):mlo a b=(do
 rule "list.sort.merge-lo"
 let e ← elem' b 0
 if (1 == b.size)=true then pure (mDn a b #[e] 0 1)
 else if (0+1 == a.size)=true then pure (mLa a b #[e] 0 1)
 else do
  let st ← get
  let c ← forIn [0:a.size+b.size] ((none,#[e],0,1,gallopOf st):T5) fun _ c=>mB0 a b c
  mBe c):=by
 rw [y6]
 refine DH (bind _) (funext fun u=>DH (bind _) (funext fun e=>DH (ite _ _) (DH (ite _ _) (DH (bind _) (funext fun st=>?_)))))
 refine congr (DH bind (DH (forIn _ _) (funext fun x=>funext fun c=>?_))) (funext fun c=>?_)
 ·refine congr (DH bind (DH (forIn _ _) (funext fun y=>funext fun d=>rfl))) (funext fun d=>?_)
  rcases d with ⟨_ | r,d⟩
  ·refine DH (bind _) (funext fun u=>?_)
   refine congr (DH bind (DH (forIn _ _) (funext fun y=>funext fun d=>rfl))) (funext fun d=>?_)
   rcases d with ⟨_ | r,d⟩ <;> rfl
  ·rfl
 ·rcases c with ⟨_ | r,c⟩ <;> rfl
theorem vP {st:SortSt}{a b:Array Keyed}{Q:Array Keyed→SortSt→Prop}(hO:Lt1 κ prog w A s kd)(hB:TB kd st)(ga:∀ x∈a.toList,Gd κ x)(gb:∀ x∈b.toList,Gd κ x)(sa:Srt κ a.toList)(sb:Srt κ b.toList)(h0:0 < a.size)(h1:0 < b.size)
  (hf:∀ x y,a.toList[0]? = some x→b.toList[0]? = some y→lek κ y x) (hl:∀ z,a.toList[a.size - 1]? = some z→Lel κ b.toList [z])
  (hq:∀ r st',Ok kd st st'→Mg κ a.toList b.toList r.toList→Q r st'):wpS (model prog w) A E s (mlo a b) Q st:=by
 have la:a.toList.length=a.size:=C9
 have lb:b.toList.length=b.size:=C9
 have hl:∀ z,a.toList[a.toList.length - 1]? = some z→Lel κ b.toList [z]:=by rw [la];exact hl
 have atA:∀ {i:Nat},i < a.size→∃ x,a.toList[i]? = some x∧Gd κ x:=fun {i} hi=>⟨a.toList[i]'(by omega),fu (by omega),ga _ (DZ _)⟩
 have atB:∀ {i:Nat},i < b.size→∃ x,b.toList[i]? = some x∧Gd κ x:=fun {i} hi=>⟨b.toList[i]'(by omega),fu (by omega),gb _ (DZ _)⟩
 rw [vO]
 refine Dk (HK (Fp ⟨rfl,?_⟩))
 obtain ⟨y0,ey0,gy0⟩:=atB h1
 obtain ⟨x0,ex0,gx0⟩:=atA h0
 refine Dk (aL ey0 ?_)
 have M0:Mc κ a.toList b.toList [y0] 0 1:=by
  have:Mc κ a.toList b.toList ([]++[y0]) 0 (0+1):=Mc.pushB (O:=[]) (i:=0) (j:=0) ⟨Fs _,.nil,(fun x hx=>by cases hx),(fun x hx=>by cases hx),D2 _,D2 _⟩ sb ey0 (fG sa ex0 (hf _ _ ex0 ey0))
  exact this
 have dn:∀ {o:Array Keyed} {i j:Nat},Mc κ a.toList b.toList o.toList i j→(i=a.size ∨ j=b.size)→Mg κ a.toList b.toList (mDn a b o i j).toList:=fun M h=>by rw [lO];exact M.done sa sb (by rw [la,lb];exact h)
 have ls:∀ {o:Array Keyed} {i j:Nat},Mc κ a.toList b.toList o.toList i j→i+1=a.size→Mg κ a.toList b.toList (mLa a b o i j).toList:=fun M h=>by rw [lP];exact M.last sa sb (by rw [la];exact h) hl
 by_cases hb1:1=b.size
 ·refine au (by simpa using hb1) ?_
  exact Dr (hq _ _ (.refl hB) (dn (o:=#[y0]) M0 (.inr hb1)))
 refine av (by simpa using hb1) ?_
 by_cases ha1:0+1=a.size
 ·refine au (by simpa using ha1) ?_
  exact Dr (hq _ _ (.refl hB) (ls (o:=#[y0]) M0 ha1))
 refine av (by simpa using ha1) ?_
 refine Dk (GO ?_)
 refine Dk (EN (Ec (I:=fun x c st'=>∃ o i j g,c=(none,o,i,j,g)∧Mc κ a.toList b.toList o.toList i j∧i+1 < a.size∧j < b.size∧x+1≤i+j∧Ok kd st st')
  (Q:=fun c st'=>∃ r z,c=(some r,z)∧Mg κ a.toList b.toList r.toList∧Ok kd st st') ?step ?fin ⟨#[y0],0,1,_,rfl,M0,by omega,by omega,by omega,.refl hB⟩) ?post)
 case post =>
  rintro c st' ⟨r,z,rfl,m,ok⟩
  unfold mBe
  exact Dr (hq _ _ ok m)
 case fin =>
  rintro c st' ⟨o,i,j,g,rfl,M,hi,hj,hx,ok⟩
  omega
 case step =>
  rintro x c st1 _ hx ⟨o,i,j,g,rfl,M,hi,hj,hij,ok1⟩
  unfold mB0
  dsimp only
  refine Dk (EN (Ec (I:=fun y c st'=>st'=st1∧∃ o i j p q,c=(none,o,i,j,p,q)∧Mc κ a.toList b.toList o.toList i j∧i+1 < a.size∧j < b.size∧x+1+y≤i+j)
   (Q:=fun c st'=>st'=st1∧((∃ r z,c=(some r,z)∧Mg κ a.toList b.toList r.toList) ∨ ∃ o i j p q,c=(none,o,i,j,p,q)∧Mc κ a.toList b.toList o.toList i j∧i+1 < a.size∧j < b.size∧x+2≤i+j)) ?step1 ?fin1 ⟨rfl,o,i,j,0,0,rfl,M,hi,hj,by omega⟩) ?post1)
  case fin1 =>
   rintro c st' ⟨rfl,o,i,j,p,q,rfl,M,hi,hj,hy⟩
   exact ⟨rfl,.inr ⟨o,i,j,p,q,rfl,M,hi,hj,by omega⟩⟩
  case step1 =>
   rintro y c st' _ hy ⟨rfl,o,i,j,p,q,rfl,M,hi,hj,hij⟩
   unfold mB1
   dsimp only
   obtain ⟨xb,exb,gxb⟩:=atB hj
   obtain ⟨xa,exa,gxa⟩:=atA (i:=i) (by omega)
   refine Dk (aL exb (Dk (aL exa (Dk (jz hO ok1.tb gxb gxa ?_)))))
   cases eb:κ.blt (kof κ xb) (kof κ xa) with
   | true =>
    simp only [Fe]
    refine Dk (aL exb ?_)
    have M':Mc κ a.toList b.toList (o.push xb).toList i (j+1):=by rw [Fb];exact M.pushB sb exb (fG sa exa (sD eb))
    by_cases hjb:j+1=b.size
    ·refine au (by simpa using hjb) ?_
     exact Dr ⟨rfl,.inl ⟨_,_,rfl,dn M' (.inr hjb)⟩⟩
    ·refine av (by simpa using hjb) ?_
     by_cases hqg:q+1≥g
     ·refine au hqg ?_
      exact Dr ⟨rfl,.inr ⟨_,_,_,_,_,rfl,M',hi,by omega,by omega⟩⟩
     ·refine av hqg ?_
      exact Dr ⟨rfl,_,_,_,_,_,rfl,M',hi,by omega,by omega⟩
   | false =>
    simp only [DF,Eu]
    refine Dk (aL exa ?_)
    have M':Mc κ a.toList b.toList (o.push xa).toList (i+1) j:=by rw [Fb];exact M.pushA sa exa (fG sb exb (not_lt eb))
    by_cases hia:i+1+1=a.size
    ·refine au (by simpa using hia) ?_
     exact Dr ⟨rfl,.inl ⟨_,_,rfl,ls M' hia⟩⟩
    ·refine av (by simpa using hia) ?_
     by_cases hpg:p+1≥g
     ·refine au hpg ?_
      exact Dr ⟨rfl,.inr ⟨_,_,_,_,_,rfl,M',by omega,hj,by omega⟩⟩
     ·refine av hpg ?_
      exact Dr ⟨rfl,_,_,_,_,_,rfl,M',by omega,hj,by omega⟩
  case post1 =>
   rintro c st' ⟨rfl,⟨r,z,rfl,m⟩ | ⟨o,i,j,p,q,rfl,M,hi,hj,hij⟩⟩
   ·exact Dr ⟨r,_,rfl,m,ok1⟩
   unfold mB2
   dsimp only
   refine Dk (HK (Fp ⟨rfl,?_⟩))
   refine Dk (EN (Ec (I:=fun y c st'=>∃ o i j g p q,c=(none,o,i,j,g,p,q)∧Mc κ a.toList b.toList o.toList i j∧i+1 < a.size∧j < b.size∧x+2≤i+j∧Ok kd st st')
    (Q:=fun c st'=>((∃ r z,c=(some r,z)∧Mg κ a.toList b.toList r.toList) ∨ ∃ o i j g p q,c=(none,o,i,j,g,p,q)∧Mc κ a.toList b.toList o.toList i j∧i+1 < a.size∧j < b.size∧x+2≤i+j)∧Ok kd st st') ?step2 ?fin2 ⟨o,i,j,_,p,q,rfl,M,hi,hj,hij,ok1⟩) ?post2)
   case fin2 =>
    rintro c st' ⟨o,i,j,g,p,q,rfl,M,hi,hj,hij,ok⟩
    exact ⟨.inr ⟨o,i,j,g,p,q,rfl,M,hi,hj,hij⟩,ok⟩
   case post2 =>
    rintro c st' ⟨⟨r,z,rfl,m⟩ | ⟨o,i,j,g,p,q,rfl,M,hi,hj,hij⟩,ok⟩
    ·exact Dr ⟨r,_,rfl,m,ok⟩
    ·dsimp only
     exact Dk (iD ok fun st'' ok'=>Dr ⟨o,i,j,_,rfl,M,hi,hj,by omega,ok'⟩)
   case step2 =>
    rintro y c st2 _ hy ⟨o,i,j,g,p,q,rfl,M,hi,hj,hij,ok2⟩
    change wpS _ _ _ _ (if g > 1 then jp1 a b o i j p q (g - 1) else jp1 a b o i j p q g) _ _
    refine EN (Q:=Pst (kd:=kd) κ a b x st) ?_ fun r st' h=>?_
    rotate_left
    ·cases r with
     | done c=>exact h
     | yield c=>exact h
    by_cases hg:g > 1
    ·refine au hg ?_
     exact pP hO ⟨ga,gb,sa,sb,by rw [← la];exact hl⟩ M hi hj hij ok2
    ·refine av hg ?_
     exact pP hO ⟨ga,gb,sa,sb,by rw [← la];exact hl⟩ M hi hj hij ok2
end
end Tv
namespace Tv
open PySem PyProof.Rows
def mhi:Array Keyed→Array Keyed→StateT SortSt Sem (Array Keyed):=sortPriv% PySem.Builtin.mergeHi
abbrev hDn (a b o:Array Keyed)(i j:Nat):Array Keyed:=a.extract 0 i++b.extract 0 j++o.reverse
abbrev hFb (a b o:Array Keyed)(i j:Nat):Array Keyed:=b.extract 0 j++a.extract 0 i++o.reverse
theorem y7 (a b:Array Keyed):mhi a b=(do
 rule "list.sort.merge-hi"
 let mut i:=a.size - 1
 let mut j:=b.size
 let mut o:Array Keyed:=#[← elem' a i]
 if i == 0 then return hDn a b o i j
 if j == 1 then return hFb a b o i j
 let mut g:=gallopOf (← get)
 for _ in [0:a.size+b.size] do
  let mut p:=0
  let mut q:=0
  for _ in [0:a.size+b.size] do
   let some w ← lt' (← elem' b (j - 1)) (← elem' a (i - 1)) | return hDn a b o i j
   if w then
    i:=i - 1
    o:=o.push (← elem' a i)
    p:=p+1
    q:=0
    if i == 0 then return hDn a b o i j
    if p≥g then break
   else
    j:=j - 1
    o:=o.push (← elem' b j)
    q:=q+1
    p:=0
    if j == 1 then return hFb a b o i j
    if q≥g then break
  rule "list.sort.gallop"
  g:=g+1
  for _ in [0:a.size+b.size] do
   if g > 1 then g:=g - 1
   smg g
   let some t ← gal false (← elem' b (j - 1)) a 0 i (i - 1) | return hDn a b o i j
   let k:=i - t
   p:=k
   if k > 0 then
    o:=o++(a.extract t i).reverse
    i:=t
    if i == 0 then return hDn a b o i j
   j:=j - 1
   o:=o.push (← elem' b j)
   if j == 1 then return hFb a b o i j
   let some t ← gal true (← elem' a (i - 1)) b 0 j (j - 1) | return hDn a b o i j
   let k:=j - t
   q:=k
   if k > 0 then
    o:=o++(b.extract t j).reverse
    j:=t
    if j == 1 then return hFb a b o i j
    if j == 0 then return hDn a b o i j
   i:=i - 1
   o:=o.push (← elem' a i)
   if i == 0 then return hDn a b o i j
   if p < 7 && q < 7 then break
  g:=g+1
  smg g
 unsupported "internal:list.sort.merge-bound"):=rfl
variable {κ:KeyKind} {kd:SortKind}
structure Mh (κ:KeyKind) (A B R:List Keyed) (i j:Nat):Prop where
 pm:R.Perm (A.drop i++B.drop j)
 so:Srt κ R
 la:Lel κ (A.take i) R
 lb:Lel κ (B.take j) R
 hi:i≤A.length
 hj:j≤B.length
theorem Mh.pushA {A B R:List Keyed}{i j:Nat}(M:Mh κ A B R (i+1) j)(sA:Srt κ A){x:Keyed}(h:A[i]? = some x)(hx:Lel κ (B.take j) [x]):Mh κ A B (x::R) i j:=by
 have et:=a7 h
 have st:=sA.take (i+1)
 rw [et] at st
 have st':=a9.mp st
 refine ⟨?_,Fu.mpr ⟨fun y hy=>M.la x (by rw [et];simp) y hy,M.so⟩,fun y hy z hz=>?_,fun y hy z hz=>?_,by have:=M.hi;omega,M.hj⟩
 ·rw [bM h,List.cons_append]
  exact M.pm.cons x
 ·rcases Dj.mp hz with rfl | hz
  ·exact st'.2.2 y hy _ (by simp)
  ·exact M.la y (by rw [et];exact DM _ hy) z hz
 ·rcases Dj.mp hz with rfl | hz
  ·exact hx y hy _ (by simp)
  ·exact M.lb y hy z hz
theorem Mh.pushB {A B R:List Keyed}{i j:Nat}(M:Mh κ A B R i (j+1))(sB:Srt κ B){x:Keyed}(h:B[j]? = some x)(hx:Lel κ (A.take i) [x]):Mh κ A B (x::R) i j:=by
 have et:=a7 h
 have st:=sB.take (j+1)
 rw [et] at st
 have st':=a9.mp st
 refine ⟨?_,Fu.mpr ⟨fun y hy=>M.lb x (by rw [et];simp) y hy,M.so⟩,fun y hy z hz=>?_,fun y hy z hz=>?_,M.hi,by have:=M.hj;omega⟩
 ·rw [bM h]
  exact (M.pm.cons x).trans EM.symm
 ·rcases Dj.mp hz with rfl | hz
  ·exact hx y hy _ (by simp)
  ·exact M.la y hy z hz
 ·rcases Dj.mp hz with rfl | hz
  ·exact st'.2.2 y hy _ (by simp)
  ·exact M.lb y (by rw [et];exact DM _ hy) z hz
theorem Mh.pushAs {A B R:List Keyed}{t j:Nat}(sA:Srt κ A):∀ k,Mh κ A B R (t+k) j→Lel κ (B.take j) ((A.drop t).take k)→Mh κ A B ((A.drop t).take k++R) t j
 | 0,M,_=>by simpa using M
 | k+1,M,hl=>by
  have hlt:t+k < A.length:=by have:=M.hi;omega
  have e:(A.drop t)[k]? = some A[t+k]:=by rw [Eb,fu hlt]
  have et:(A.drop t).take (k+1)=(A.drop t).take k++[A[t+k]]:=a7 e
  rw [et] at hl ⊢
  have M1:Mh κ A B (A[t+k]::R) (t+k) j:=Mh.pushA M sA (fu hlt) fun y hy z hz=>hl y hy z (Di _ hz)
  have:=Mh.pushAs sA k M1 fun y hy z hz=>hl y hy z (DM _ hz)
  rw [Dh]
  exact this
theorem Mh.pushBs {A B R:List Keyed}{t i:Nat}(sB:Srt κ B):∀ k,Mh κ A B R i (t+k)→Lel κ (A.take i) ((B.drop t).take k)→Mh κ A B ((B.drop t).take k++R) i t
 | 0,M,_=>by simpa using M
 | k+1,M,hl=>by
  have hlt:t+k < B.length:=by have:=M.hj;omega
  have e:(B.drop t)[k]? = some B[t+k]:=by rw [Eb,fu hlt]
  have et:(B.drop t).take (k+1)=(B.drop t).take k++[B[t+k]]:=a7 e
  rw [et] at hl ⊢
  have M1:Mh κ A B (B[t+k]::R) i (t+k):=Mh.pushB M sB (fu hlt) fun y hy z hz=>hl y hy z (Di _ hz)
  have:=Mh.pushBs sB k M1 fun y hy z hz=>hl y hy z (DM _ hz)
  rw [Dh]
  exact this
theorem Mh.perm {A B R:List Keyed}{i j:Nat}(M:Mh κ A B R i j):(A.take i++B.take j++R).Perm (A++B):=by
 have h1:(A.take i++B.take j++R).Perm (A.take i++B.take j++(A.drop i++B.drop j)):=M.pm.append_left _
 refine h1.trans ?_
 have h2:((A.take i++B.take j)++(A.drop i++B.drop j)).Perm ((A.take i++A.drop i)++(B.take j++B.drop j)):=by
  rw [Dh,Dh]
  refine Ek _ ?_
  rw [← Dh,← Dh]
  exact D_ _ D0
 rw [DJ,DJ] at h2
 exact h2
theorem Mh.done {A B R:List Keyed}{i j:Nat}(M:Mh κ A B R i j)(sA:Srt κ A)(sB:Srt κ B)(h:i=0 ∨ j=0):Mg κ A B (A.take i++B.take j++R):=by
 refine ⟨M.perm,a9.mpr ⟨a9.mpr ⟨sA.take i,sB.take j,fun x hx y hy=>?_⟩,M.so,fun o ho y hy=>?_⟩⟩
 ·rcases h with h | h
  ·subst h;simp at hx
  ·subst h;simp at hy
 ·rcases DB.mp ho with ho | ho
  ·exact M.la o ho y hy
  ·exact M.lb o ho y hy
theorem Mh.first {A B R:List Keyed}{i j:Nat}(M:Mh κ A B R i j)(sA:Srt κ A)(sB:Srt κ B)(h:j=1)(hf:∀ z,B[0]? = some z→Lel κ [z] A):Mg κ A B (B.take j++A.take i++R):=by
 refine ⟨List.Perm.trans (D_ _ D0) M.perm,a9.mpr ⟨a9.mpr ⟨sB.take j,sA.take i,fun x hx y hy=>?_⟩,M.so,fun o ho y hy=>?_⟩⟩
 ·subst h
  cases B with
  | nil=>simp at hx
  | cons z B =>
   have hx:x=z:=by simpa using hx
   subst hx
   exact hf x rfl x (by simp) y (FI hy)
 ·rcases DB.mp ho with ho | ho
  ·exact M.lb o ho y hy
  ·exact M.la o ho y hy
theorem sE (a b o:Array Keyed)(i j:Nat):(hDn a b o i j).toList=a.toList.take i++b.toList.take j++o.toList.reverse:=by
 simp [hDn,Em]
theorem sF (a b o:Array Keyed)(i j:Nat):(hFb a b o i j).toList=b.toList.take j++a.toList.take i++o.toList.reverse:=by
 simp [hFb,Em]
theorem pQ (a:Array Keyed)(t i:Nat):((a.extract t i).reverse).toList.reverse=(a.toList.drop t).take (i - t):=by
 simp [Em]
section
variable {prog:Program} {w:World} {A:Around} {E:Value→Shared→Prop} {s:Shared}
theorem lX {st:SortSt}{lf:Bool}{key:Keyed}{arr:Array Keyed}{n:Nat}{Q:Option Nat→SortSt→Prop}(hO:Lt1 κ prog w A s kd)(hB:TB kd st)(hk:Gd κ key)(hg:∀ x∈arr.toList,Gd κ x)(sa:Srt κ arr.toList)(hn:0 < n)(hna:n≤arr.size)
  (hq:∀ k,k≤n→(∀ x∈arr.toList.take k,bdB κ lf (kof κ key) (kof κ x)=true)→(∀ x∈(arr.toList.drop k).take (n - k),bdB κ lf (kof κ key) (kof κ x)=false)→Q (some k) st) :
  wpS (model prog w) A E s (gal lf key arr 0 n (n - 1)) Q st:=by
 have hl:arr.toList.length=arr.size:=C9
 refine ke hO hB hk (fun t=>match arr.toList[t]? with | some p=>bdB κ lf (kof κ key) (kof κ p) | none=>false) (by omega) (fun t ht=>?_) (fun t u htu hu hb=>?_) (fun k hk' h1 h2=>hq k (by omega) (fun x hx=>?_) fun x hx=>?_)
 ·have hlt:t < arr.toList.length:=by omega
  have e:=fu hlt
  refine ⟨arr.toList[t],by rw [H_];simpa using e,hg _ (DZ hlt),?_⟩
  rw [e]
 ·have h1:t < arr.toList.length:=by omega
  have h2:u < arr.toList.length:=by omega
  have e1:=fu h1
  have e2:=fu h2
  rw [e2] at hb
  rw [e1]
  exact lS (sa.at (by omega) e1 e2) hb
 ·obtain ⟨t,e⟩:=En hx
  have ht:t < k:=by
   have:=(Dd.mp e).1
   rw [Dw] at this
   omega
  rw [FZ,if_pos ht] at e
  have:=h1 t ht
  rw [e] at this
  exact this
 ·obtain ⟨t,e⟩:=En hx
  have ht:t < n - k:=by
   have:=(Dd.mp e).1
   rw [Dw] at this
   omega
  rw [FZ,if_pos ht,Eb] at e
  have:=h2 (k+t) (by omega) (by omega)
  rw [e] at this
  exact this
theorem iF {l:List Keyed}(sl:Srt κ l){i:Nat}{x y:Keyed}(e:l[i]? = some y)(h:lek κ y x):Lel κ (l.take (i+1)) [x]:=fun z hz t ht=>by
 rw [De] at ht
 subst ht
 rw [a7 e] at hz
 rcases DB.mp hz with hz | hz
 ·have st:=sl.take (i+1)
  rw [a7 e] at st
  exact dG ((a9.mp st).2.2 z hz y (by simp)) h
 ·rw [De] at hz
  subst hz
  exact h
structure nC (κ:KeyKind) (a b:Array Keyed):Prop where
 ga:∀ x∈a.toList,Gd κ x
 gb:∀ x∈b.toList,Gd κ x
 sa:Srt κ a.toList
 sb:Srt κ b.toList
 hf:∀ z,b.toList[0]? = some z→Lel κ [z] a.toList
theorem nC.atA {a b:Array Keyed}(T:nC κ a b){i:Nat}(hi:i < a.size):∃ x,a.toList[i]? = some x∧Gd κ x:=⟨a.toList[i]'(by rw [C9]; exact hi),fu (by rw [C9]; exact hi),T.ga _ (DZ _)⟩
theorem nC.atB {a b:Array Keyed}(T:nC κ a b){i:Nat}(hi:i < b.size):∃ x,b.toList[i]? = some x∧Gd κ x:=⟨b.toList[i]'(by rw [C9]; exact hi),fu (by rw [C9]; exact hi),T.gb _ (DZ _)⟩
theorem nC.dn {a b:Array Keyed}(T:nC κ a b){o:Array Keyed}{i j:Nat}(M:Mh κ a.toList b.toList o.toList.reverse i j)(h:i=0 ∨ j=0):Mg κ a.toList b.toList (hDn a b o i j).toList:=by
 rw [sE]
 exact M.done T.sa T.sb h
theorem nC.fb {a b:Array Keyed}(T:nC κ a b){o:Array Keyed}{i j:Nat}(M:Mh κ a.toList b.toList o.toList.reverse i j)(h:j=1):Mg κ a.toList b.toList (hFb a b o i j).toList:=by
 rw [sF]
 exact M.first T.sa T.sb h T.hf
theorem eS (o:Array Keyed)(x:Keyed):(o.push x).toList.reverse=x::o.toList.reverse:=by simp
theorem pR (o:Array Keyed)(a:Array Keyed)(t i:Nat):(o++(a.extract t i).reverse).toList.reverse=(a.toList.drop t).take (i - t)++o.toList.reverse:=by
 rw [GP,List.reverse_append,pQ]
abbrev HSt:=Option (Array Keyed) × Nat × Nat × Array Keyed × Nat × Nat × Nat
def hq3 (a b:Array Keyed)(i g p q j:Nat)(o:Array Keyed):StateT SortSt Sem (ForInStep HSt):=do
 let e ← elem' a (i - 1)
 if (i - 1 == 0)=true then pure (.done (some (hDn a b (o.push e) (i - 1) j),i - 1,j,o.push e,g,p,q))
 else if (decide (p < 7) && decide (q < 7))=true then pure (.done (none,i - 1,j,o.push e,g,p,q)) else pure (.yield (none,i - 1,j,o.push e,g,p,q))
def hq2 (a b:Array Keyed)(j g p q i:Nat)(o:Array Keyed):StateT SortSt Sem (ForInStep HSt):=do
 let e ← elem' b (j - 1)
 if (j - 1 == 1)=true then pure (.done (some (hFb a b (o.push e) i (j - 1)),i,j - 1,o.push e,g,p,q))
 else do
  let f ← elem' a (i - 1)
  let y ← gal true f b 0 (j - 1) (j - 1 - 1)
  match y with
  | some t=>if j - 1 - t > 0 then (if (t == 1)=true then pure (.done (some (hFb a b (o.push e++(b.extract t (j - 1)).reverse) i t),i,t,o.push e++(b.extract t (j - 1)).reverse,g,p,j - 1 - t)) else if (t == 0)=true then pure (.done (some (hDn a b (o.push e++(b.extract t (j - 1)).reverse) i t),i,t,o.push e++(b.extract t (j - 1)).reverse,g,p,j - 1 - t)) else hq3 a b i g p (j - 1 - t) t (o.push e++(b.extract t (j - 1)).reverse)) else hq3 a b i g p (j - 1 - t) (j - 1) (o.push e)
  | _=>pure (.done (some (hDn a b (o.push e) i (j - 1)),i,j - 1,o.push e,g,p,q))
def hq1 (a b:Array Keyed)(i j:Nat)(o:Array Keyed)(p q g:Nat):StateT SortSt Sem (ForInStep HSt):=do
 smg g
 let e ← elem' b (j - 1)
 let y ← gal false e a 0 i (i - 1)
 match y with
 | some t=>if i - t > 0 then (if (t == 0)=true then pure (.done (some (hDn a b (o++(a.extract t i).reverse) t j),t,j,o++(a.extract t i).reverse,g,i - t,q)) else hq2 a b j g (i - t) q t (o++(a.extract t i).reverse)) else hq2 a b j g (i - t) q i o
 | _=>pure (.done (some (hDn a b o i j),i,j,o,g,p,q))
def Hst (κ:KeyKind)(a b:Array Keyed)(x:Nat)(st:SortSt)(r:ForInStep HSt)(st':SortSt):Prop:=match r with
 | .done c=>((∃ r z,c=(some r,z)∧Mg κ a.toList b.toList r.toList) ∨ ∃ i j o g p q,c=(none,i,j,o,g,p,q)∧Mh κ a.toList b.toList o.toList.reverse i j∧0 < i∧1 < j∧x+2+i+j≤a.size+b.size)∧Ok kd st st'
 | .yield c=>∃ i j o g p q,c=(none,i,j,o,g,p,q)∧Mh κ a.toList b.toList o.toList.reverse i j∧0 < i∧1 < j∧x+2+i+j≤a.size+b.size∧Ok kd st st'
theorem pS {st st':SortSt}{a b o:Array Keyed}{i j g p q x:Nat}{xa:Keyed}(T:nC κ a b)(M:Mh κ a.toList b.toList o.toList.reverse i j)(hi:0 < i)(hj:1 < j)(hx:x+2+i+j≤a.size+b.size)(ok:Ok kd st st')(exa:a.toList[i - 1]? = some xa)(hle:Lel κ (b.toList.take j) [xa]) :
  wpS (model prog w) A E s (hq3 a b i g p q j o) (Hst (kd:=kd) κ a b x st) st':=by
 unfold hq3
 refine Dk (aL exa ?_)
 have M':Mh κ a.toList b.toList (o.push xa).toList.reverse (i - 1) j:=by
  rw [eS]
  exact Mh.pushA (by rw [show i - 1+1=i by omega];exact M) T.sa exa hle
 by_cases h0:i - 1=0
 ·refine au (by simpa using h0) ?_
  exact Dr ⟨.inl ⟨_,_,rfl,T.dn M' (.inl h0)⟩,ok⟩
 ·refine av (by simpa using h0) ?_
  by_cases hpq:(decide (p < 7) && decide (q < 7))=true
  ·refine au hpq ?_
   exact Dr ⟨.inr ⟨_,_,_,_,_,_,rfl,M',by omega,hj,by omega⟩,ok⟩
  ·refine av hpq ?_
   exact Dr ⟨_,_,_,_,_,_,rfl,M',by omega,hj,by omega,ok⟩
theorem pT {st st':SortSt}{a b o:Array Keyed}{i j g p q x:Nat}{xb:Keyed}(hO:Lt1 κ prog w A s kd)(T:nC κ a b)(M:Mh κ a.toList b.toList o.toList.reverse i j)(hi:0 < i)(hj:1 < j)(hx:x+2+i+j≤a.size+b.size)(ok:Ok kd st st')(exb:b.toList[j - 1]? = some xb)(hle:Lel κ (a.toList.take i) [xb]) :
  wpS (model prog w) A E s (hq2 a b j g p q i o) (Hst (kd:=kd) κ a b x st) st':=by
 have la:a.toList.length=a.size:=C9
 have lb:b.toList.length=b.size:=C9
 have hia:=M.hi
 have hjb:=M.hj
 unfold hq2
 refine Dk (aL exb ?_)
 have M':Mh κ a.toList b.toList (o.push xb).toList.reverse i (j - 1):=by
  rw [eS]
  exact Mh.pushB (by rw [show j - 1+1=j by omega];exact M) T.sb exb hle
 by_cases h1:j - 1=1
 ·refine au (by simpa using h1) ?_
  exact Dr ⟨.inl ⟨_,_,rfl,T.fb M' h1⟩,ok⟩
 refine av (by simpa using h1) ?_
 obtain ⟨xa,exa,gxa⟩:=T.atA (i:=i - 1) (by omega)
 refine Dk (aL exa (Dk (lX hO ok.tb gxa T.gb T.sb (by omega) (by omega) fun t ht t1 t2=>?_)))
 dsimp only
 have up:Lel κ (b.toList.take t) [xa]:=fun z hz y hy=>by
  rw [De] at hy
  subst hy
  exact kf (t1 z hz)
 have MB:Mh κ a.toList b.toList ((b.toList.drop t).take (j - 1 - t)++(o.push xb).toList.reverse) i t:=Mh.pushBs T.sb (j - 1 - t) (by rw [show t+(j - 1 - t)=j - 1 by omega];exact M') fun y hy z hz=>by
  have:=iF T.sa exa (iE (t2 z hz))
  rw [show i - 1+1=i by omega] at this
  exact this y hy z (by simp)
 by_cases hk0:j - 1 - t > 0
 ·refine au hk0 ?_
  have MB':Mh κ a.toList b.toList (o.push xb++(b.extract t (j - 1)).reverse).toList.reverse i t:=by rw [pR];exact MB
  by_cases ht1:t=1
  ·refine au (by simpa using ht1) ?_
   exact Dr ⟨.inl ⟨_,_,rfl,T.fb MB' ht1⟩,ok⟩
  ·refine av (by simpa using ht1) ?_
   by_cases ht0:t=0
   ·refine au (by simpa using ht0) ?_
    exact Dr ⟨.inl ⟨_,_,rfl,T.dn MB' (.inr ht0)⟩,ok⟩
   ·refine av (by simpa using ht0) ?_
    exact pS T MB' hi (by omega) (by omega) ok exa up
 ·refine av hk0 ?_
  have:t=j - 1:=by omega
  subst this
  exact pS T M' hi (by omega) (by omega) ok exa up
theorem pU {st st':SortSt}{a b o:Array Keyed}{i j g p q x:Nat}(hO:Lt1 κ prog w A s kd)(T:nC κ a b)(M:Mh κ a.toList b.toList o.toList.reverse i j)(hi:0 < i)(hj:1 < j)(hx:x+2+i+j≤a.size+b.size)(ok:Ok kd st st') :
  wpS (model prog w) A E s (hq1 a b i j o p q g) (Hst (kd:=kd) κ a b x st) st':=by
 have la:a.toList.length=a.size:=C9
 have lb:b.toList.length=b.size:=C9
 have hia:=M.hi
 have hjb:=M.hj
 unfold hq1
 refine Dk (iD ok fun st3 ok3=>?_)
 obtain ⟨xb,exb,gxb⟩:=T.atB (i:=j - 1) (by omega)
 refine Dk (aL exb (Dk (lX hO ok3.tb gxb T.ga T.sa hi (by omega) fun t ht t1 t2=>?_)))
 dsimp only
 have up:Lel κ (a.toList.take t) [xb]:=fun z hz y hy=>by
  rw [De] at hy
  subst hy
  exact eR (t1 z hz)
 have MA:Mh κ a.toList b.toList ((a.toList.drop t).take (i - t)++o.toList.reverse) t j:=Mh.pushAs T.sa (i - t) (by rw [show t+(i - t)=i by omega];exact M) fun y hy z hz=>by
  have:=iF T.sb exb (fH (t2 z hz))
  rw [show j - 1+1=j by omega] at this
  exact this y hy z (by simp)
 by_cases hk0:i - t > 0
 ·refine au hk0 ?_
  have MA':Mh κ a.toList b.toList (o++(a.extract t i).reverse).toList.reverse t j:=by rw [pR];exact MA
  by_cases ht0:t=0
  ·refine au (by simpa using ht0) ?_
   exact Dr ⟨.inl ⟨_,_,rfl,T.dn MA' (.inl ht0)⟩,ok3⟩
  ·refine av (by simpa using ht0) ?_
   exact pT hO T MA' (by omega) hj (by omega) ok3 exb up
 ·refine av hk0 ?_
  have:t=i:=by omega
  subst this
  exact pT hO T M hi hj hx ok3 exb up
abbrev H6:=Option (Array Keyed) × Nat × Nat × Array Keyed × Nat × Nat
abbrev H5:=Option (Array Keyed) × Nat × Nat × Array Keyed × Nat
def hB1 (a b:Array Keyed)(g:Nat):H6→TS (ForInStep H6):=fun (_,i,j,o,p,q)=>do
 let y ← elem' b (j - 1)
 let x ← elem' a (i - 1)
 let w ← lt' y x
 match w with
 | some w =>
  if w=true then do
   let e ← elem' a (i - 1)
   if (i - 1 == 0)=true then pure (.done (some (hDn a b (o.push e) (i - 1) j),i - 1,j,o.push e,p+1,0))
   else if p+1≥g then pure (.done (none,i - 1,j,o.push e,p+1,0)) else pure (.yield (none,i - 1,j,o.push e,p+1,0))
  else do
   let e ← elem' b (j - 1)
   if (j - 1 == 1)=true then pure (.done (some (hFb a b (o.push e) i (j - 1)),i,j - 1,o.push e,0,q+1))
   else if q+1≥g then pure (.done (none,i,j - 1,o.push e,0,q+1)) else pure (.yield (none,i,j - 1,o.push e,0,q+1))
 | _=>pure (.done (some (hDn a b o i j),i,j,o,p,q))
def hB3 (a b:Array Keyed):HSt→TS (ForInStep HSt):=fun (_,i,j,o,g,p,q)=>if g > 1 then hq1 a b i j o p q (g - 1) else hq1 a b i j o p q g
def hB2 (a b:Array Keyed)(g:Nat):H6→TS (ForInStep H5)
 | (some r,i,j,o,_)=>pure (.done (some r,i,j,o,g))
 | (none,i,j,o,p,q)=>do
  rule "list.sort.gallop"
  match ← forIn [0:a.size+b.size] ((none,i,j,o,g+1,p,q):HSt) fun _ d=>hB3 a b d with
  | (some r,i,j,o,g,_)=>pure (.done (some r,i,j,o,g))
  | (none,i,j,o,g,_)=>do
   smg (g+1)
   pure (.yield (none,i,j,o,g+1))
def hB0 (a b:Array Keyed):H5→TS (ForInStep H5):=fun (_,i,j,o,g)=>do
 let d ← forIn [0:a.size+b.size] ((none,i,j,o,0,0):H6) fun _ d=>hB1 a b g d
 hB2 a b g d
theorem vQ (a b:Array Keyed):mhi a b=(do
 rule "list.sort.merge-hi"
 let e ← elem' a (a.size - 1)
 if (a.size - 1 == 0)=true then pure (hDn a b #[e] (a.size - 1) b.size)
 else if (b.size == 1)=true then pure (hFb a b #[e] (a.size - 1) b.size)
 else do
  let st ← get
  let c ← forIn [0:a.size+b.size] ((none,a.size - 1,b.size,#[e],gallopOf st):H5) fun _ c=>hB0 a b c
  mBe c):=by
 rw [y7]
 refine DH (bind _) (funext fun u=>DH (bind _) (funext fun e=>DH (ite _ _) (DH (ite _ _) (DH (bind _) (funext fun st=>?_)))))
 refine congr (DH bind (DH (forIn _ _) (funext fun x=>funext fun c=>?_))) (funext fun c=>?_)
 ·refine congr (DH bind (DH (forIn _ _) (funext fun y=>funext fun d=>rfl))) (funext fun d=>?_)
  rcases d with ⟨_ | r,d⟩
  ·refine DH (bind _) (funext fun u=>?_)
   refine congr (DH bind (DH (forIn _ _) (funext fun y=>funext fun d=>rfl))) (funext fun d=>?_)
   rcases d with ⟨_ | r,d⟩ <;> rfl
  ·rfl
 ·rcases c with ⟨_ | r,c⟩ <;> rfl
theorem vR {st:SortSt}{a b:Array Keyed}{Q:Array Keyed→SortSt→Prop}(hO:Lt1 κ prog w A s kd)(hB:TB kd st)(T:nC κ a b)(h0:0 < a.size)(h1:0 < b.size)
  (hl:∀ z,a.toList[a.size - 1]? = some z→Lel κ b.toList [z])
  (hq:∀ r st',Ok kd st st'→Mg κ a.toList b.toList r.toList→Q r st'):wpS (model prog w) A E s (mhi a b) Q st:=by
 have la:a.toList.length=a.size:=C9
 have lb:b.toList.length=b.size:=C9
 rw [vQ]
 refine Dk (HK (Fp ⟨rfl,?_⟩))
 obtain ⟨z0,ez0,gz0⟩:=T.atA (i:=a.size - 1) (by omega)
 refine Dk (aL ez0 ?_)
 have M0:Mh κ a.toList b.toList (#[z0]:Array Keyed).toList.reverse (a.size - 1) b.size:=by
  have:Mh κ a.toList b.toList [z0] (a.size - 1) b.size:=Mh.pushA (R:=[]) (by
   rw [show a.size - 1+1=a.size by omega]
   refine ⟨?_,.nil,(fun x hx y hy=>by cases hy),(fun x hx y hy=>by cases hy),by omega,by omega⟩
   rw [Gf (by omega),Gf (by omega)]
   exact Fs _) T.sa ez0 (by rw [D6 (by omega)];exact hl _ ez0)
  exact this
 by_cases ha1:a.size - 1=0
 ·refine au (by simpa using ha1) ?_
  exact Dr (hq _ _ (.refl hB) (T.dn M0 (.inl ha1)))
 refine av (by simpa using ha1) ?_
 by_cases hb1:b.size=1
 ·refine au (by simpa using hb1) ?_
  exact Dr (hq _ _ (.refl hB) (T.fb M0 hb1))
 refine av (by simpa using hb1) ?_
 refine Dk (GO ?_)
 refine Dk (EN (Ec (I:=fun x c st'=>∃ i j o g,c=(none,i,j,o,g)∧Mh κ a.toList b.toList o.toList.reverse i j∧0 < i∧1 < j∧x+1+i+j≤a.size+b.size∧Ok kd st st')
  (Q:=fun c st'=>∃ r z,c=(some r,z)∧Mg κ a.toList b.toList r.toList∧Ok kd st st') ?step ?fin ⟨_,_,_,_,rfl,M0,by omega,by omega,by omega,.refl hB⟩) ?post)
 case post =>
  rintro c st' ⟨r,z,rfl,m,ok⟩
  unfold mBe
  exact Dr (hq _ _ ok m)
 case fin =>
  rintro c st' ⟨i,j,o,g,rfl,M,hi,hj,hx,ok⟩
  omega
 case step =>
  rintro x c st1 _ hx ⟨i,j,o,g,rfl,M,hi,hj,hij,ok1⟩
  unfold hB0
  dsimp only
  refine Dk (EN (Ec (I:=fun y c st'=>st'=st1∧∃ i j o p q,c=(none,i,j,o,p,q)∧Mh κ a.toList b.toList o.toList.reverse i j∧0 < i∧1 < j∧x+1+y+i+j≤a.size+b.size)
   (Q:=fun c st'=>st'=st1∧((∃ r z,c=(some r,z)∧Mg κ a.toList b.toList r.toList) ∨ ∃ i j o p q,c=(none,i,j,o,p,q)∧Mh κ a.toList b.toList o.toList.reverse i j∧0 < i∧1 < j∧x+2+i+j≤a.size+b.size)) ?step1 ?fin1 ⟨rfl,i,j,o,0,0,rfl,M,hi,hj,by omega⟩) ?post1)
  case fin1 =>
   rintro c st' ⟨rfl,i,j,o,p,q,rfl,M,hi,hj,hy⟩
   exact ⟨rfl,.inr ⟨i,j,o,p,q,rfl,M,hi,hj,by omega⟩⟩
  case step1 =>
   rintro y c st' _ hy ⟨rfl,i,j,o,p,q,rfl,M,hi,hj,hij⟩
   unfold hB1
   dsimp only
   have hia:=M.hi
   have hjb:=M.hj
   obtain ⟨xb,exb,gxb⟩:=T.atB (i:=j - 1) (by omega)
   obtain ⟨xa,exa,gxa⟩:=T.atA (i:=i - 1) (by omega)
   refine Dk (aL exb (Dk (aL exa (Dk (jz hO ok1.tb gxb gxa ?_)))))
   cases eb:κ.blt (kof κ xb) (kof κ xa) with
   | true =>
    simp only [Fe]
    refine Dk (aL exa ?_)
    have M':Mh κ a.toList b.toList (o.push xa).toList.reverse (i - 1) j:=by
     rw [eS]
     refine Mh.pushA (by rw [show i - 1+1=i by omega];exact M) T.sa exa ?_
     have:=iF T.sb exb (sD eb)
     rwa [show j - 1+1=j by omega] at this
    by_cases hi0:i - 1=0
    ·refine au (by simpa using hi0) ?_
     exact Dr ⟨rfl,.inl ⟨_,_,rfl,T.dn M' (.inl hi0)⟩⟩
    ·refine av (by simpa using hi0) ?_
     by_cases hpg:p+1≥g
     ·refine au hpg ?_
      exact Dr ⟨rfl,.inr ⟨_,_,_,_,_,rfl,M',by omega,hj,by omega⟩⟩
     ·refine av hpg ?_
      exact Dr ⟨rfl,_,_,_,_,_,rfl,M',by omega,hj,by omega⟩
   | false =>
    simp only [DF,Eu]
    refine Dk (aL exb ?_)
    have M':Mh κ a.toList b.toList (o.push xb).toList.reverse i (j - 1):=by
     rw [eS]
     refine Mh.pushB (by rw [show j - 1+1=j by omega];exact M) T.sb exb ?_
     have:=iF T.sa exa (not_lt eb)
     rwa [show i - 1+1=i by omega] at this
    by_cases hj1:j - 1=1
    ·refine au (by simpa using hj1) ?_
     exact Dr ⟨rfl,.inl ⟨_,_,rfl,T.fb M' hj1⟩⟩
    ·refine av (by simpa using hj1) ?_
     by_cases hqg:q+1≥g
     ·refine au hqg ?_
      exact Dr ⟨rfl,.inr ⟨_,_,_,_,_,rfl,M',hi,by omega,by omega⟩⟩
     ·refine av hqg ?_
      exact Dr ⟨rfl,_,_,_,_,_,rfl,M',hi,by omega,by omega⟩
  case post1 =>
   rintro c st' ⟨rfl,⟨r,z,rfl,m⟩ | ⟨i,j,o,p,q,rfl,M,hi,hj,hij⟩⟩
   ·exact Dr ⟨r,_,rfl,m,ok1⟩
   unfold hB2
   dsimp only
   refine Dk (HK (Fp ⟨rfl,?_⟩))
   refine Dk (EN (Ec (I:=fun y c st'=>∃ i j o g p q,c=(none,i,j,o,g,p,q)∧Mh κ a.toList b.toList o.toList.reverse i j∧0 < i∧1 < j∧x+2+i+j≤a.size+b.size∧Ok kd st st')
    (Q:=fun c st'=>((∃ r z,c=(some r,z)∧Mg κ a.toList b.toList r.toList) ∨ ∃ i j o g p q,c=(none,i,j,o,g,p,q)∧Mh κ a.toList b.toList o.toList.reverse i j∧0 < i∧1 < j∧x+2+i+j≤a.size+b.size)∧Ok kd st st') ?step2 ?fin2 ⟨i,j,o,_,p,q,rfl,M,hi,hj,hij,ok1⟩) ?post2)
   case fin2 =>
    rintro c st' ⟨i,j,o,g,p,q,rfl,M,hi,hj,hij,ok⟩
    exact ⟨.inr ⟨i,j,o,g,p,q,rfl,M,hi,hj,hij⟩,ok⟩
   case post2 =>
    rintro c st' ⟨⟨r,z,rfl,m⟩ | ⟨i,j,o,g,p,q,rfl,M,hi,hj,hij⟩,ok⟩
    ·exact Dr ⟨r,_,rfl,m,ok⟩
    ·dsimp only
     exact Dk (iD ok fun st'' ok'=>Dr ⟨i,j,o,_,rfl,M,hi,hj,by omega,ok'⟩)
   case step2 =>
    rintro y c st2 _ hy ⟨i,j,o,g,p,q,rfl,M,hi,hj,hij,ok2⟩
    change wpS _ _ _ _ (if g > 1 then hq1 a b i j o p q (g - 1) else hq1 a b i j o p q g) _ _
    refine EN (Q:=Hst (kd:=kd) κ a b x st) ?_ fun r st' h=>?_
    rotate_left
    ·cases r with
     | done c=>exact h
     | yield c=>exact h
    by_cases hg:g > 1
    ·refine au hg ?_
     exact pU hO T M hi hj hij ok2
    ·refine av hg ?_
     exact pU hO T M hi hj hij ok2
end
end Tv
namespace Tv
open PySem PyProof.Rows
variable {κ:KeyKind} {kd:SortKind}
def SrI (κ:KeyKind)(xs:Array Keyed)(lo hi:Nat):Prop:=∀ i j,lo≤i→i≤j→j < hi→κ.kle (KK κ xs i) (KK κ xs j)
def NiI (κ:KeyKind)(xs:Array Keyed)(lo hi:Nat):Prop:=∀ i j,lo≤i→i≤j→j < hi→κ.kle (KK κ xs j) (KK κ xs i)
structure Rp (lo hi:Nat) (xs ys:Array Keyed):Prop where
 pm:ys.Perm xs
 out:∀ k,(k < lo ∨ hi≤k)→ys[k]? = xs[k]?
theorem Rp.refl (lo hi:Nat)(xs:Array Keyed):Rp lo hi xs xs:=⟨HH _,fun _ _=>rfl⟩
theorem Rp.trans {lo hi:Nat}{xs ys zs:Array Keyed}(h:Rp lo hi xs ys)(g:Rp lo hi ys zs):Rp lo hi xs zs:=⟨g.pm.trans h.pm,fun k hk=>(g.out k hk).trans (h.out k hk)⟩
theorem Rp.size {lo hi:Nat}{xs ys:Array Keyed}(h:Rp lo hi xs ys):ys.size=xs.size:=h.pm.size_eq
theorem Rp.mirror {lo hi i j:Nat}{xs:Array Keyed}(h1:lo≤i)(h2:j≤hi)(hj:j≤xs.size):Rp lo hi xs (mirror xs i j ((j - i) / 2)):=by
 refine ⟨mirror_perm _ _ _ _,fun k hk=>?_⟩
 rw [getElem?_mirror_all hj,if_neg (by omega)]
theorem Rp.bubble {lo hi src d:Nat}{xs:Array Keyed}(h1:lo+d≤src)(h2:src < hi)(hs:src < xs.size):Rp lo hi xs (bubble xs src d):=by
 refine ⟨bubble_perm _ _ _,fun k hk=>?_⟩
 rw [getElem?_bubble hs d (by omega),if_neg (by omega),if_neg (by omega)]
structure Rs (kd:SortKind) (κ:KeyKind) (lo hi:Nat) (st st':SortSt):Prop where
 tb:TB kd st'
 pd:pendingOf st'=pendingOf st
 gd:∀ x∈(arrOf st').toList,Gd κ x
 rp:Rp lo hi (arrOf st) (arrOf st')
theorem Rs.refl {lo hi:Nat}{st:SortSt}(h:TB kd st)(g:∀ x∈(arrOf st).toList,Gd κ x):Rs kd κ lo hi st st:=⟨h,rfl,g,.refl _ _ _⟩
theorem Rs.arr {lo hi:Nat}{st st':SortSt}(h:Rs kd κ lo hi st st'){ys:Array Keyed}(r:Rp lo hi (arrOf st') ys):Rs kd κ lo hi st (setArr st' ys) :=
 ⟨⟨h.tb.kind,h.tb.failed⟩,h.pd,fun x hx=>h.gd x ((E2.mp r.pm).mem_iff.mp hx),h.rp.trans r⟩
theorem y8 {xs:Array Keyed}(g:∀ x∈xs.toList,Gd κ x){i:Nat}(hi:i < xs.size):∃ x p,xs[i]? = some (x,p)∧κ.keyOf x=some (KK κ xs i):=by
 have e:xs[i]? = some xs[i]:=Ia xs i hi
 refine ⟨xs[i].1,xs[i].2,e,?_⟩
 have:=(g xs[i] (by simp)).eq
 rw [this]
 unfold KK kof
 rw [e]
section
variable {prog:Program} {w:World} {A:Around} {E:Value→Shared→Prop} {s:Shared}
theorem d6 {st:SortSt}{i j:Nat}{Q:Option Bool→SortSt→Prop}(hO:Lt1 κ prog w A s kd)(hB:TB kd st)(g:∀ x∈(arrOf st).toList,Gd κ x)(hi:i < (arrOf st).size)(hj:j < (arrOf st).size)
  (h:Q (some (κ.blt (KK κ (arrOf st) i) (KK κ (arrOf st) j))) st):wpS (model prog w) A E s (ltAt' i j) Q st:=by
 obtain ⟨x,p,e1,k1⟩:=y8 g hi
 obtain ⟨y,q,e2,k2⟩:=y8 g hj
 have hx:Gd κ (x,p):=⟨_,k1⟩
 have hy:Gd κ (y,q):=⟨_,k2⟩
 rw [ltAt'_eq]
 refine Dk (GO ?_)
 show wpS _ _ _ _ (do let x ← elem' (arrOf st) i;let y ← elem' (arrOf st) j;lt' x y) Q st
 rw [elem'_eq,elem'_eq,e1,e2]
 refine Dk (Dr (Dk (Dr (jz hO hB hx hy ?_))))
 have a1:kof κ (x,p)=_:=Dp (hx.eq.symm.trans k1)
 have a2:kof κ (y,q)=_:=Dp (hy.eq.symm.trans k2)
 rw [a1,a2]
 exact h
def Bi (lo a nr:Nat):StateT SortSt Sem (Option Nat):=do
 let mut n:=a
 for _ in [a:nr] do
  let some sm ← ltAt' (lo+n) (lo+n - 1) | return none
  if sm then break
  n:=n+1
 return some n
def vS (lo a nr:Nat):StateT SortSt Sem (Option Nat):=do
 reverseSlice' lo (lo+a)
 Bi lo a nr
def Bj (lo a nr:Nat):StateT SortSt Sem (Option Nat):=do
 rule "list.sort.descending-run"
 let mut n:=a+1
 let mut e:=0
 for _ in [a+1:nr] do
  let some sm ← ltAt' (lo+n) (lo+n - 1) | return none
  if sm then
   if e > 0 then reverseSlice' (lo+n - (e+1)) (lo+n)
   e:=0
  else
   let some lg ← ltAt' (lo+n - 1) (lo+n) | return none
   if lg then break
   e:=e+1
  n:=n+1
 if e > 0 then reverseSlice' (lo+n - (e+1)) (lo+n)
 vS lo n nr
theorem pV {xs:Array Keyed}{lo x:Nat}(a1:SrI κ xs lo (lo+x))(h1:1≤x)(e:κ.blt (KK κ xs (lo+x)) (KK κ xs (lo+x - 1))=false):SrI κ xs lo (lo+(x+1)):=fun i j hi hij hj=>by
 by_cases q:j < lo+x
 ·exact a1 i j hi hij q
 ·have:j=lo+x:=by omega
  subst this
  by_cases q2:i=lo+x
  ·subst q2;exact Es _
  ·exact Fn (a1 i (lo+x - 1) hi (by omega) (by omega)) e
theorem sG {st:SortSt}{lo a nr:Nat}{Q:Option Nat→SortSt→Prop}(hO:Lt1 κ prog w A s kd)(hB:TB kd st)(g:∀ x∈(arrOf st).toList,Gd κ x)(h1:1≤a)(h2:a≤nr)(h3:lo+nr≤(arrOf st).size)(hs:SrI κ (arrOf st) lo (lo+a))
  (h:∀ n,a≤n→n≤nr→SrI κ (arrOf st) lo (lo+n)→Q (some n) st):wpS (model prog w) A E s (Bi lo a nr) Q st:=by
 unfold Bi
 refine Dk (EN (Ec (I:=fun x c st'=>st'=st∧c=(none,x)∧SrI κ (arrOf st) lo (lo+x))
  (Q:=fun c st'=>st'=st∧∃ n,c=(none,n)∧a≤n∧n≤nr∧SrI κ (arrOf st) lo (lo+n)∧(n=nr ∨ κ.klt (KK κ (arrOf st) (lo+n)) (KK κ (arrOf st) (lo+n - 1)))) ?step ?fin ⟨rfl,rfl,hs⟩) ?post)
 case fin =>
  rintro c st' ⟨rfl,rfl,a1⟩
  have e:max a nr=nr:=by omega
  rw [e] at a1 ⊢
  exact ⟨rfl,nr,rfl,by omega,Da _,a1,.inl rfl⟩
 case step =>
  rintro x c st' hx1 hx2 ⟨rfl,rfl,a1⟩
  dsimp only
  refine Dk (d6 hO hB g (by omega) (by omega) ?_)
  cases e:κ.blt (KK κ (arrOf st') (lo+x)) (KK κ (arrOf st') (lo+x - 1)) with
  | true =>
   simp only [Fe]
   exact Dr ⟨rfl,x,rfl,hx1,by omega,a1,.inr e⟩
  | false =>
   simp only [DF,Eu]
   exact Dr ⟨rfl,rfl,pV a1 (by omega) e⟩
 case post =>
  rintro c st' ⟨rfl,n,rfl,a1,a2,a3,a4⟩
  exact Dr (h n a1 a2 a3)
theorem jA {st st':SortSt}{lo a nr:Nat}{Q:Option Nat→SortSt→Prop}(hO:Lt1 κ prog w A s kd)(R:Rs kd κ lo (lo+nr) st st')(h1:1≤a)(h2:a≤nr)(h3:lo+nr≤(arrOf st).size)(hs:NiI κ (arrOf st') lo (lo+a))
  (h:∀ n st'',1≤n→n≤nr→Rs kd κ lo (lo+nr) st st''→SrI κ (arrOf st'') lo (lo+n)→Q (some n) st''):wpS (model prog w) A E s (vS lo a nr) Q st':=by
 have hz:=R.rp.size
 unfold vS
 refine Dk (wpS_reverse ?_)
 have R':Rs kd κ lo (lo+nr) st (setArr st' (mirror (arrOf st') lo (lo+a) ((lo+a - lo) / 2))):=R.arr (Rp.mirror (Da _) (by omega) (by omega))
 refine sG hO R'.tb R'.gd h1 h2 (by rw [R'.rp.size];exact h3) (fun i j hi hij hj=>?_) fun n a1 a2 a3=>h n _ (by omega) a2 R' a3
 show κ.kle (KK κ (mirror (arrOf st') lo (lo+a) ((lo+a - lo) / 2)) i) (KK κ (mirror (arrOf st') lo (lo+a) ((lo+a - lo) / 2)) j)
 rw [KK_mirror (by omega),KK_mirror (by omega),if_pos (by omega),if_pos (by omega)]
 exact hs _ _ (by omega) (by omega) (by omega)
theorem lY {st st':SortSt}{lo a nr:Nat}{Q:Option Nat→SortSt→Prop}(hO:Lt1 κ prog w A s kd)(R:Rs kd κ lo (lo+nr) st st')(h2:a+1≤nr)(h3:lo+nr≤(arrOf st).size)(hs:NiI κ (arrOf st') lo (lo+(a+1)))
  (h:∀ n st'',1≤n→n≤nr→Rs kd κ lo (lo+nr) st st''→SrI κ (arrOf st'') lo (lo+n)→Q (some n) st''):wpS (model prog w) A E s (Bj lo a nr) Q st':=by
 unfold Bj
 refine Dk (HK (Fp ⟨rfl,?_⟩))
 dsimp only
 refine Dk (EN (Ec (I:=fun x c st''=>∃ e,c=(none,x,e)∧Rs kd κ lo (lo+nr) st st''∧NiI κ (arrOf st'') lo (lo+x)∧e+1≤x∧∀ i,lo+x - (e+1)≤i→i < lo+x→KK κ (arrOf st'') i=KK κ (arrOf st'') (lo+x - 1))
  (Q:=fun c st''=>∃ x e,c=(none,x,e)∧a+1≤x∧x≤nr∧Rs kd κ lo (lo+nr) st st''∧NiI κ (arrOf st'') lo (lo+x)∧e+1≤x∧∀ i,lo+x - (e+1)≤i→i < lo+x→KK κ (arrOf st'') i=KK κ (arrOf st'') (lo+x - 1)) ?step ?fin ⟨0,rfl,R,hs,by omega,fun i h1 h2=>by congr 1;omega⟩) ?post)
 case fin =>
  rintro c st'' ⟨e,rfl,R,hs,he,hk⟩
  have ex:max (a+1) nr=nr:=by omega
  rw [ex] at hs he hk ⊢
  exact ⟨nr,e,rfl,h2,Da _,R,hs,he,hk⟩
 case post =>
  rintro c st'' ⟨x,e,rfl,hx1,hx2,R,hs,he,hk⟩
  have hz:=R.rp.size
  dsimp only
  by_cases h0:e > 0
  ·refine au h0 ?_
   refine Dk (wpS_reverse ?_)
   refine jA hO (R.arr (Rp.mirror (by omega) (by omega) (by omega))) (by omega) hx2 h3 (fun i j hi hij hj=>?_) h
   show κ.kle (KK κ (mirror (arrOf st'') _ _ _) j) (KK κ (mirror (arrOf st'') _ _ _) i)
   rw [F0 (by omega) hk,F0 (by omega) hk]
   exact hs i j hi hij hj
  ·refine av h0 ?_
   exact jA hO R (by omega) hx2 h3 hs h
 case step =>
  rintro x c st'' hx1 hx2 ⟨e,rfl,R,hs,he,hk⟩
  have hz:=R.rp.size
  dsimp only
  refine Dk (d6 hO R.tb R.gd (by omega) (by omega) ?_)
  cases e1:κ.blt (KK κ (arrOf st'') (lo+x)) (KK κ (arrOf st'') (lo+x - 1)) with
  | true =>
   simp only [Fe]
   have nx:∀ xs:Array Keyed,(∀ k,KK κ xs k=KK κ (arrOf st'') k)→NiI κ xs lo (lo+(x+1)):=fun xs ek i j hi hij hj=>by
    rw [ek,ek]
    by_cases q:j < lo+x
    ·exact hs i j hi hij q
    ·have:j=lo+x:=by omega
     subst this
     by_cases q2:i=lo+x
     ·subst q2;exact Es _
     ·exact Fn (FF e1) (hs i (lo+x - 1) hi (by omega) (by omega))
   by_cases h0:e > 0
   ·refine au h0 ?_
    exact Dk (wpS_reverse (Dr ⟨0,rfl,R.arr (Rp.mirror (by omega) (by omega) (by omega)),nx _ (F0 (by omega) hk),by omega,fun i h1 h2=>by congr 1;omega⟩))
   ·refine av h0 ?_
    exact Dr ⟨0,rfl,R,nx _ fun _=>rfl,by omega,fun i h1 h2=>by congr 1;omega⟩
  | false =>
   simp only [DF,Eu]
   refine Dk (d6 hO R.tb R.gd (by omega) (by omega) ?_)
   cases e2:κ.blt (KK κ (arrOf st'') (lo+x - 1)) (KK κ (arrOf st'') (lo+x)) with
   | true =>
    simp only [Fe]
    exact Dr ⟨x,e,rfl,hx1,by omega,R,hs,he,hk⟩
   | false =>
    simp only [DF,Eu]
    have ee:KK κ (arrOf st'') (lo+x)=KK κ (arrOf st'') (lo+x - 1):=KeyOrd.kle_antisymm e2 e1
    refine Dr ⟨e+1,rfl,R,fun i j hi hij hj=>?_,by omega,fun i h1 h2=>?_⟩
    ·by_cases q:j < lo+x
     ·exact hs i j hi hij q
     ·have:j=lo+x:=by omega
      subst this
      by_cases q2:i=lo+x
      ·subst q2;exact Es _
      ·rw [ee];exact hs i (lo+x - 1) hi (by omega) (by omega)
    ·rw [show lo+(x+1) - 1=lo+x by omega]
     by_cases q:i=lo+x
     ·subst q;rfl
     ·rw [ee];exact hk i (by omega) (by omega)
theorem sH {st:SortSt}{lo nr:Nat}{Q:Option Nat→SortSt→Prop}(hO:Lt1 κ prog w A s kd)(hB:TB kd st)(g:∀ x∈(arrOf st).toList,Gd κ x)(h1:1≤nr)(h3:lo+nr≤(arrOf st).size)
  (h:∀ n st',1≤n→n≤nr→Rs kd κ lo (lo+nr) st st'→SrI κ (arrOf st') lo (lo+n)→Q (some n) st'):wpS (model prog w) A E s (countRun' lo nr) Q st:=by
 have R:Rs kd κ lo (lo+nr) st st:=.refl hB g
 rw [countRun'_eq]
 change wpS _ _ _ _ (do
  let mut n:=1
  for _ in [1:nr] do
   let some sm ← ltAt' (lo+n) (lo+n - 1) | return none
   if sm then break
   n:=n+1
  if n == nr then return some n
  if n > 1 then
   let some rs ← ltAt' lo (lo+n - 1) | return none
   if rs then return some n
   reverseSlice' lo (lo+n)
  Bj lo n nr) _ _
 refine Dk (EN (Ec (I:=fun x c st'=>st'=st∧c=(none,x)∧SrI κ (arrOf st) lo (lo+x))
  (Q:=fun c st'=>st'=st∧∃ n,c=(none,n)∧1≤n∧n≤nr∧SrI κ (arrOf st) lo (lo+n)∧(n=nr ∨ κ.klt (KK κ (arrOf st) (lo+n)) (KK κ (arrOf st) (lo+n - 1)))) ?step ?fin ⟨rfl,rfl,fun i j hi hij hj=>by have:i=j:=(by omega);subst this;exact Es _⟩) ?post)
 case fin =>
  rintro c st' ⟨rfl,rfl,a1⟩
  have e:max 1 nr=nr:=by omega
  rw [e] at a1 ⊢
  exact ⟨rfl,nr,rfl,by omega,Da _,a1,.inl rfl⟩
 case step =>
  rintro x c st' hx1 hx2 ⟨rfl,rfl,a1⟩
  dsimp only
  refine Dk (d6 hO hB g (by omega) (by omega) ?_)
  cases e:κ.blt (KK κ (arrOf st') (lo+x)) (KK κ (arrOf st') (lo+x - 1)) with
  | true =>
   simp only [Fe]
   exact Dr ⟨rfl,x,rfl,hx1,by omega,a1,.inr e⟩
  | false =>
   simp only [DF,Eu]
   exact Dr ⟨rfl,rfl,pV a1 (by omega) e⟩
 rintro c st' ⟨rfl,n,rfl,a1,a2,a3,a4⟩
 dsimp only
 by_cases hn:n=nr
 ·refine au (by simpa using hn) ?_
  exact Dr (h n st' a1 a2 R a3)
 ·refine av (by simpa using hn) ?_
  have lt:κ.klt (KK κ (arrOf st') (lo+n)) (KK κ (arrOf st') (lo+n - 1)):=a4.resolve_left hn
  by_cases hg:n > 1
  ·refine au hg ?_
   refine Dk (d6 hO hB g (by omega) (by omega) ?_)
   cases e:κ.blt (KK κ (arrOf st') lo) (KK κ (arrOf st') (lo+n - 1)) with
   | true =>
    simp only [Fe]
    exact Dr (h n st' a1 a2 R a3)
   | false =>
    simp only [DF,Eu]
    refine Dk (wpS_reverse ?_)
    have same:∀ i,lo≤i→i < lo+n→KK κ (arrOf st') i=KK κ (arrOf st') (lo+n - 1):=fun i hi1 hi2=>by
     have b1:=a3 i (lo+n - 1) hi1 (by omega) (by omega)
     have b2:=a3 lo i (Da _) hi1 hi2
     exact KeyOrd.kle_antisymm b1 (Fn e b2)
    refine lY hO (R.arr (Rp.mirror (Da _) (by omega) (by omega))) (by omega) h3 (fun i j hi hij hj=>?_) h
    show κ.kle (KK κ (mirror (arrOf st') _ _ _) j) (KK κ (mirror (arrOf st') _ _ _) i)
    rw [F0 (by omega) same,F0 (by omega) same]
    by_cases q:j < lo+n
    ·rw [same i hi (by omega),same j (by omega) q]
     exact Es _
    ·have:j=lo+n:=by omega
     subst this
     by_cases q2:i=lo+n
     ·subst q2;exact Es _
     ·rw [same i hi (by omega)]
      exact FF lt
  ·refine av hg ?_
   have:n=1:=by omega
   subst this
   refine lY hO R (by omega) h3 (fun i j hi hij hj=>?_) h
   by_cases q2:i=j
   ·subst q2;exact Es _
   ·have e1:i=lo:=by omega
    have e2:j=lo+1:=by omega
    subst e1 e2
    exact FF lt
end
end Tv
namespace Tv
open PySem PyProof.Rows
variable {κ:KeyKind} {kd:SortKind}
section
variable {prog:Program} {w:World} {A:Around} {E:Value→Shared→Prop} {s:Shared}
theorem sI {st:SortSt}{lo n ok:Nat}{Q:Bool→SortSt→Prop}(hO:Lt1 κ prog w A s kd)(hB:TB kd st)(g:∀ x∈(arrOf st).toList,Gd κ x)(hn:lo+n≤(arrOf st).size)(hok:ok≤n)(hs:SrI κ (arrOf st) lo (lo+ok))
  (h:∀ st',Rs kd κ lo (lo+n) st st'→SrI κ (arrOf st') lo (lo+n)→Q true st'):wpS (model prog w) A E s (binarySort' lo n ok) Q st:=by
 rw [binarySort'_eq]
 refine Dk (EN (Ec (I:=fun y c st'=>c=(none,())∧Rs kd κ lo (lo+n) st st'∧SrI κ (arrOf st') lo (lo+min y n))
  (Q:=fun c st'=>c=(none,())∧Rs kd κ lo (lo+n) st st'∧SrI κ (arrOf st') lo (lo+n)) ?step ?fin ?init) ?post)
 case post =>
  rintro c st' ⟨rfl,R,hs'⟩
  exact Dr (h st' R hs')
 case init =>
  refine ⟨rfl,.refl hB g,fun i j hi hij hj=>?_⟩
  by_cases e:i=j
  ·subst e;exact Es _
  ·exact hs i j hi hij (by omega)
 case fin =>
  rintro c st' ⟨hc,R,hs'⟩
  rw [show min (max (max ok 1) n) n=n by omega] at hs'
  exact ⟨hc,R,hs'⟩
 case step =>
  rintro y c st' hy1 hy2 ⟨rfl,R,hs'⟩
  have hz:=R.rp.size
  rw [show min y n=y by omega] at hs'
  refine Dk (EN (Ec (I:=fun x c st''=>st''=st'∧∃ l r,c=(none,l,r)∧l≤r∧r≤y∧r - l≤y - x ∧
    (∀ i,lo≤i→i < lo+l→κ.kle (KK κ (arrOf st') i) (KK κ (arrOf st') (lo+y)))∧(∀ i,lo+r≤i→i < lo+y→κ.klt (KK κ (arrOf st') (lo+y)) (KK κ (arrOf st') i)))
   (Q:=fun c st''=>st''=st'∧∃ l r,c=(none,l,r)∧l≤y ∧
    (∀ i,lo≤i→i < lo+l→κ.kle (KK κ (arrOf st') i) (KK κ (arrOf st') (lo+y)))∧(∀ i,lo+l≤i→i < lo+y→κ.klt (KK κ (arrOf st') (lo+y)) (KK κ (arrOf st') i))) ?istep ?ifin ?iinit) ?ipost)
  case iinit=>exact ⟨rfl,0,y,rfl,by omega,by omega,by omega,fun i h1 h2=>by omega,fun i h1 h2=>by omega⟩
  case ifin =>
   rintro c st'' ⟨rfl,l,r,rfl,q1,q2,q3,q4,q5⟩
   have:l=r:=by omega
   subst this
   exact ⟨rfl,l,l,rfl,q2,q4,q5⟩
  case istep =>
   rintro x c st'' _ hx ⟨rfl,l,r,rfl,q1,q2,q3,q4,q5⟩
   dsimp only
   by_cases hge:l≥r
   ·refine au hge ?_
    have:l=r:=by omega
    subst this
    exact Dr ⟨rfl,l,l,rfl,q2,q4,q5⟩
   ·refine av hge ?_
    refine Dk (d6 hO R.tb R.gd (by omega) (by omega) ?_)
    cases e:κ.blt (KK κ (arrOf st'') (lo+y)) (KK κ (arrOf st'') (lo+(l+r) / 2)) with
    | true =>
     simp only [Fe]
     refine Dr ⟨rfl,l,(l+r) / 2,rfl,by omega,by omega,by omega,q4,fun i h1 h2=>?_⟩
     exact KeyOrd.klt_of_klt_of_kle e (hs' _ _ (by omega) h1 h2)
    | false =>
     simp only [DF,Eu]
     refine Dr ⟨rfl,(l+r) / 2+1,r,rfl,by omega,by omega,by omega,fun i h1 h2=>?_,q5⟩
     exact Fn (hs' i (lo+(l+r) / 2) h1 (by omega) (by omega)) (show κ.kle _ _ from e)
  case ipost =>
   rintro c st'' ⟨rfl,l,r,rfl,hl,q4,q5⟩
   show wpS _ _ _ _ (do moveDown' (lo+y) (lo+l);pure (ForInStep.yield (none,()))) _ _
   rw [moveDown'_eq]
   have hk:lo+y < (arrOf st'').size:=by omega
   refine Dk (FS (Dr ⟨rfl,R.arr (Rp.bubble (by omega) (by omega) hk),?_⟩))
   rw [show min (y+1) n=y+1 by omega]
   intro i j hi hij hj
   show κ.kle (KK κ (bubble (arrOf st'') (lo+y) (lo+y - (lo+l))) i) (KK κ (bubble (arrOf st'') (lo+y) (lo+y - (lo+l))) j)
   rw [KK_bubble hk (by omega),KK_bubble hk (by omega),show lo+y - (lo+y - (lo+l))=lo+l by omega]
   repeat' split
   all_goals first
    | (exfalso;omega)
    | exact Es _
    | exact q4 _ (by omega) (by omega)
    | exact FF (q5 _ (by omega) (by omega))
    | exact hs' _ _ (by omega) (by omega) (by omega)
end
theorem pX:∀ (r:List Keyed) (z b:Nat) (arr:Array Keyed) (X Y Z:List Keyed),arr.toList=X++(Y++Z)→X.length=z+b→Y.length=r.length →
  ((r.zipIdx b).foldl (fun a (p,j)=>a.setIfInBounds (z+j) p) arr).toList=X++(r++Z)
 | [],z,b,arr,X,Y,Z,e,h1,h2=>by
  rw [F_.mp h2] at e
  exact e
 | p::r,z,b,arr,X,Y,Z,e,h1,h2=>by
  cases Y with
  | nil=>simp at h2
  | cons y Y =>
   rw [Hx,HD]
   have:=pX r z (b+1) (arr.setIfInBounds (z+b) p) (X++[p]) Y Z (by
    rw [GX,e,← h1,List.set_append_right _ _ (Da _),E5]
    simp) (by simp [h1];omega) (by simpa using h2)
   rw [this]
   simp
def mAt (i:Nat):StateT SortSt Sem Bool:=do
 let u ← get
 let (some (za,la,pw),some (zb,lb,_)):=((pendingOf u)[i]?,(pendingOf u)[i+1]?) | unsupported "internal:list.sort.pending"
 set (setPending u (((pendingOf u).setIfInBounds i (za,la+lb,pw)).eraseIdxIfInBounds (i+1)))
 let some c ← gal false (← elem' (arrOf u) zb) (arrOf u) za la 0 | return false
 let (za,la):=(za+c,la - c)
 if la == 0 then return true
 let some lb ← gal true (← elem' (arrOf u) (za+la - 1)) (arrOf u) zb lb (lb - 1) | return false
 if lb == 0 then return true
 let x:=(arrOf u).extract za zb
 let y:=(arrOf u).extract zb (zb+lb)
 let out ← if la≤lb then mlo x y else mhi x y
 modify fun v=>setArr v (out.toList.zipIdx.foldl (fun a (p,j)=>a.setIfInBounds (za+j) p) (arrOf v))
 return (failedOf (← get)).isNone
theorem y9 (i:Nat):mergeAt' i=mAt i:=rfl
end Tv
namespace Tv
open PySem PyProof.Rows
variable {κ:KeyKind} {kd:SortKind}
section
variable {prog:Program} {w:World} {A:Around} {E:Value→Shared→Prop} {s:Shared}
end
end Tv
namespace PySem
open Sem (wp)
def sJ (xs:Array Nat):Prop:=∀ (i j a b:Nat),i < j→xs[i]? = some a→xs[j]? = some b→a < b
theorem iG {xs:Array Nat}{j:Nat}(hr:sJ xs):∀ (f lo hi:Nat),hi - lo≤f→lo≤hi→hi≤xs.size→(∀ i a,i < lo→xs[i]? = some a→a < j)→(∀ i a,hi≤i→xs[i]? = some a→j≤a) →
  SetTable.below.go xs j f lo hi≤xs.size∧(∀ i a,i < SetTable.below.go xs j f lo hi→xs[i]? = some a→a < j)∧∀ i a,SetTable.below.go xs j f lo hi≤i→xs[i]? = some a→j≤a
 | 0,lo,hi,h,h1,h2,l,u=>by
  have e:lo=hi:=by omega
  unfold SetTable.below.go
  exact ⟨by omega,l,by rw [e];exact u⟩
 | f+1,lo,hi,h,h1,h2,l,u=>by
  unfold SetTable.below.go
  by_cases hlt:lo < hi
  ·rw [if_pos hlt]
   have hm:(lo+hi) / 2 < xs.size:=by omega
   have em:xs[(lo+hi) / 2]? = some xs[(lo+hi) / 2]:=Ia xs _ hm
   have eg:xs.getD ((lo+hi) / 2) j=xs[(lo+hi) / 2]:=by simp [Array.getD,hm]
   dsimp only
   rw [eg]
   split
   ·rename_i hx
    refine iG hr f _ _ (by omega) (by omega) h2 (fun i a hi' e=>?_) u
    by_cases q:i=(lo+hi) / 2
    ·subst q;rw [em] at e;cases e;exact hx
    ·exact Nat.lt_trans (hr i _ _ _ (by omega) e em) hx
   ·rename_i hx
    refine iG hr f _ _ (by omega) (by omega) (by omega) l (fun i a hi' e=>?_)
    by_cases q:i=(lo+hi) / 2
    ·subst q;rw [em] at e;cases e;omega
    ·have:=hr _ i _ _ (show (lo+hi) / 2 < i by omega) em e
     omega
  ·rw [if_neg hlt]
   have e:lo=hi:=by omega
   exact ⟨by omega,l,by rw [e];exact u⟩
theorem sL {xs:Array Nat}(hr:sJ xs)(j:Nat):SetTable.below xs j≤xs.size∧(∀ i a,i < SetTable.below xs j→xs[i]? = some a→a < j)∧∀ i a,SetTable.below xs j≤i→xs[i]? = some a→j≤a :=
 iG hr xs.size 0 xs.size (by omega) (D2 _) (Da _) (fun i a h=>absurd h (FY _)) fun i a h e=>by
  have:=(D7.mp e).1
  omega
theorem sJ.put {xs:Array Nat}(hr:sJ xs){j:Nat}(hn:xs[SetTable.below xs j]? ≠ some j):sJ (SetTable.insertAt xs (SetTable.below xs j) j):=by
 obtain ⟨h1,h2,h3⟩:=sL hr j
 have hl:(SetTable.insertAt xs (SetTable.below xs j) j).toList=xs.toList.take (SetTable.below xs j)++j::xs.toList.drop (SetTable.below xs j):=by
  unfold SetTable.insertAt
  simp [Em,D6]
 have at_:∀ k,(SetTable.insertAt xs (SetTable.below xs j) j)[k]? = if k < SetTable.below xs j then xs[k]? else if k=SetTable.below xs j then some j else xs[k - 1]?:=fun k=>by
  rw [← DY,hl]
  have z:(xs.toList.take (SetTable.below xs j)).length=SetTable.below xs j:=by rw [Dw,C9];omega
  by_cases q1:k < SetTable.below xs j
  ·rw [if_pos q1,Eg (by omega),FZ,if_pos q1,DY]
  ·rw [if_neg q1,Dn (by omega),z]
   by_cases q2:k=SetTable.below xs j
   ·rw [if_pos q2,q2,E5]
    rfl
   ·rw [if_neg q2]
    obtain ⟨m,hm⟩:∃ m,k - SetTable.below xs j=m+1:=⟨k - SetTable.below xs j - 1,by omega⟩
    rw [hm,Ga,Eb,DY]
    congr 1
    omega
 intro i k a b hik ea eb
 rw [at_] at ea eb
 have ne:∀ m c,SetTable.below xs j≤m→xs[m]? = some c→j < c:=fun m c hm e=>by
  have l:=h3 m c hm e
  by_cases q:m=SetTable.below xs j
  ·subst q
   have:c≠j:=fun z=>hn (by rw [e,z])
   omega
  ·have hb:SetTable.below xs j < xs.size:=by have:=(D7.mp e).1;omega
   have e0:xs[SetTable.below xs j]? = some xs[SetTable.below xs j]:=Ia xs _ hb
   have:=h3 _ _ (Da _) e0
   have:=hr _ m _ _ (by omega) e0 e
   omega
 split at ea
 ·rename_i c1
  split at eb
  ·exact hr i k a b hik ea eb
  ·split at eb
   ·cases eb;exact h2 i a c1 ea
   ·have:=h2 i a c1 ea
    have:=ne (k - 1) b (by omega) eb
    omega
 ·split at ea
  ·cases ea
   rw [if_neg (by omega),if_neg (by omega)] at eb
   exact ne (k - 1) b (by omega) eb
  ·rw [if_neg (by omega),if_neg (by omega)] at eb
   exact hr (i - 1) (k - 1) a b (by omega) ea eb
theorem m6 (n:Nat):sJ (Array.range n):=fun i j a b h ea eb=>by
 rw [Array.getElem?_range] at ea eb
 split at ea <;> split at eb <;> simp_all
theorem sM:sJ #[]:=fun i j a b h ea=>by simp at ea
theorem gF {t:SetTable}(hd:t.dummies=#[])(g:Nat→Int)(h:Int):∀ (f:Nat) (p:SetTable.Probe) (j:Nat) (d:Option Nat),p.dummy=none→SetTable.probe.go t g h f p=some (.empty j d)→d=none∧t.slot j = .empty
 | 0,p,j,d,_,e=>by unfold SetTable.probe.go at e;cases e
 | f+1,p,j,d,hp,e=>by
  unfold SetTable.probe.go at e
  have hh:∀ x,SetTable.has t.dummies x=false:=fun x=>by rw [hd];unfold SetTable.has;simp
  have hs:∀ x,t.slot x ≠ .dummy:=fun x=>by
   unfold SetTable.slot
   dsimp only
   rw [hh]
   simp only [DF,Eu]
   split
   ·exact fun z=>by cases z
   ·exact fun z=>by cases z
  cases hq:t.slot p.j with
  | empty =>
   rw [hq] at e
   cases e
   exact ⟨hp,hq⟩
  | dummy=>exact absurd hq (hs _)
  | live i =>
   rw [hq] at e
   have ad:(t.advance p).dummy=none:=by
    unfold SetTable.advance
    split
    ·exact hp
    ·exact hp
   dsimp only at e
   split at e
   ·cases e
   ·exact gF hd g h f _ j d ad e
theorem sN {t:SetTable}(hd:t.dummies=#[]){h:Int}{j:Nat}{b:Bool}(e:t.freeSlot h=some (j,b)):t.place[SetTable.below t.place j]? ≠ some j:=by
 unfold SetTable.freeSlot SetTable.probe at e
 split at e
 ·rename_i k d hq
  obtain ⟨rfl,hs⟩:=gF hd _ _ _ _ k d rfl hq
  cases e
  intro z
  unfold SetTable.slot at hs
  simp only [Hu] at z
  dsimp only at hs
  rw [z] at hs
  simp at hs
 ·cases e
abbrev ldr (w:World):Bool:=!w.params.followText "set-order"
theorem m7 {t:SetTable}{es:Array (Int × Value)}{h:Int}{x:Value}:(layNew t es h x).2.1.led=t.led:=by
 unfold layNew
 split
 ·dsimp only
  unfold SetTable.orStandIn
  split
  ·rfl
  ·rfl
 ·rfl
theorem m8 {t t':SetTable}{hs:Array Int}{w:Nat}{order:Array Nat}(h:t.relaid hs w=some (t',order)):t'.led=t.led:=by
 unfold SetTable.relaid SetTable.laid at h
 cases hq:SetTable.layClean (SetTable.sizeAbove w - 1) hs with
 | none=>rw [hq] at h;cases h
 | some o=>rw [hq] at h;cases h;rfl
theorem jB {t:SetTable}{es:Array (Int × Value)}{w:Nat}:(relayAll t es w).2.1.led=t.led:=by
 unfold relayAll
 split
 ·rename_i t' order he
  dsimp only
  split
  ·exact m8 he
  ·rfl
 ·rfl
def Tk (t:SetTable):Prop:=t.dummies=#[]∧sJ t.place
theorem cR {t:SetTable}{n:Nat}:Tk (t.standIn n):=⟨rfl,m6 n⟩
theorem pY {t:SetTable}{es:Array (Int × Value)}{h:Int}{x:Value}(k:Tk t):Tk (layNew t es h x).2.1:=by
 unfold layNew
 split
 ·rename_i j d hq
  dsimp only
  unfold SetTable.orStandIn
  split
  ·refine ⟨?_,k.2.put (sN k.1 hq)⟩
   have:SetTable.has t.dummies j=false:=by rw [k.1];unfold SetTable.has;simp
   show (if SetTable.has t.dummies j=true then _ else t.dummies)=#[]
   rw [this]
   simpa using k.1
  ·exact cR
 ·exact cR
theorem p5 (n:Nat)(f:Nat→Option Nat):sJ ((((List.range n).filterMap fun j=>(f j).map (j,·)).map (·.1)).toArray):=by
 have key:((((List.range n).filterMap fun j=>(f j).map (j,·)).map (·.1))).Pairwise (· < ·):=by
  rw [List.pairwise_map]
  refine List.Pairwise.filterMap _ (fun a a' hlt b hb b' hb'=>?_) List.pairwise_lt_range
  cases h1:f a with
  | none=>rw [h1] at hb;simp at hb
  | some x =>
   rw [h1] at hb
   cases h2:f a' with
   | none=>rw [h2] at hb';simp at hb'
   | some x' =>
    rw [h2] at hb'
    simp at hb hb'
    rw [← hb,← hb']
    exact hlt
 intro i j a b hij ea eb
 rw [List.getElem?_toArray] at ea eb
 obtain ⟨h1,e1⟩:=Dd.mp ea
 obtain ⟨h2,e2⟩:=Dd.mp eb
 rw [← e1,← e2]
 exact EF.mp key i j h1 h2 hij
theorem kg {t:SetTable}{es:Array (Int × Value)}{w:Nat}:Tk (relayAll t es w).2.1:=by
 unfold relayAll
 split
 ·rename_i t' order he
  dsimp only
  split
  ·unfold SetTable.relaid SetTable.laid at he
   cases hq:SetTable.layClean (SetTable.sizeAbove w - 1) (es.map (·.1)) with
   | none=>rw [hq] at he;cases he
   | some o=>rw [hq] at he;cases he;exact ⟨rfl,p5 _ _⟩
  ·exact cR
 ·exact cR
section
variable {K:Type} [DecidableEq K] {prog:Program} {w:World} {knd:KeyKind prog w K} {A:Around} {E:Value→Shared→Prop} {s:Shared}
def m9 {K:Type}[DecidableEq K]{prog:Program}{w:World}(knd:KeyKind prog w K)(h:Heap)(a:Addr)(dl:List K):Prop :=
 ∃ o es ep t,h.get? a=some o∧o.ExactSet∧o.data = .set es ep t∧ElemsOf knd es.toList∧(∀ k,k∈dl ↔ ∃ e∈es.toList,knd.is k e.2=true)∧es.size < scanBound∧t.fits es.size=true∧es.size=dl.length∧Tk t∧t.led=ldr w
theorem y_ {a:Addr}{o:Obj}{es es1:Array (Int × Value)}{ep:Nat}{t t2:SetTable}{dl:List K}(ho:s.heap.get? a=some o)(hex:o.ExactSet)(hd:o.data = .set es ep t)(hel:ElemsOf knd es1.toList)
  (hm:∀ k,k∈dl ↔ ∃ e∈es1.toList,knd.is k e.2=true) (hb:es1.size < scanBound) (hf:t2.fits es1.size=true) (hn:es1.size=dl.length) (hp:Tk t2) (hld:t2.led=ldr w) :
  (s.heap.update a (Obj.putSet es1 t2)).get? a=some { o with data:=.set es1 (ep+1) t2 }∧m9 knd (s.heap.update a (Obj.putSet es1 t2)) a dl:=by
 have hg:(s.heap.update a (Obj.putSet es1 t2)).get? a=some { o with data:=.set es1 (ep+1) t2 }:=by
  have q:=Ej (Obj.putSet es1 t2) ho (by rw [putSet_of es1 t2 hd];rfl)
  rwa [putSet_of es1 t2 hd] at q
 exact ⟨hg,_,es1,ep+1,t2,hg,hex,rfl,hel,hm,hb,hf,hn,hp,hld⟩
theorem Bk {a:Addr}{dl:List K}{z:K}{v:Value}{Q:Bool→Shared→Prop}(hkey:knd.is z v=true)(hsc:v.scannable=true)(hS:m9 knd s.heap a dl)(hroom:dl.length+1 < scanBound)
  (h:∀ h' b,Heap.SameBut a s.heap h'→m9 knd h' a (if z∈dl then dl else dl++[z])→Q b { s with heap:=h' }) :
  wpAny (model prog w) A (setAddHashed a v (knd.hash z)) Q E s:=by
 obtain ⟨o,es,ep,t,ho,hex,hd,hel,hm,hb,hf,hn,hpl,hld⟩:=hS
 unfold setAddHashed setAddHashedIn
 refine FD (C5 (wpAny_setState_of ho hd hf ?_))
 dsimp only
 rw [byScan_of (knd:=knd) hsc hb hel]
 simp only [↓reduceIte]
 unfold setAddByScan
 refine C5 (C5 (Fp (C5 (wpAny_setScan_of (knd:=knd) hkey ho hd hf hel ?_))))
 cases hr:List.findIdx? (fun e=>knd.is z e.2) es.toList with
 | some j =>
  dsimp only
  obtain ⟨hj,hpj,_⟩:=List.findIdx?_eq_some_iff_getElem.mp hr
  have hz:z∈dl:=(hm z).mpr ⟨es.toList[j],DZ hj,hpj⟩
  refine Dm (Dm ?_)
  have q:=h s.heap false (Heap.SameBut.refl a s.heap) (by rw [if_pos hz];exact ⟨o,es,ep,t,ho,hex,hd,hel,hm,hb,hf,hn,hpl,hld⟩)
  have e:s={ s with heap:=s.heap }:=by cases s;rfl
  rw [e];exact q
 | none =>
  dsimp only
  have hz:z∉dl:=fun hz=>by
   obtain ⟨e,he,hp⟩:=(hm z).mp hz
   have q:=List.findIdx?_eq_none_iff.mp hr e he
   rw [hp] at q
   cases q
  have hq:∀ h',Heap.SameBut a s.heap h'→m9 knd h' a (dl++[z])→Q true { s with heap:=h' }:=fun h' sb hs=>h h' true sb (by rw [if_neg hz];exact hs)
  have hperm:=layNew_perm t es (knd.hash z) v
  have hfits:=layNew_fits t es (knd.hash z) v
  have hoff:=pY (es:=es) (h:=knd.hash z) (x:=v) hpl
  have hl1:(layNew t es (knd.hash z) v).2.1.led=ldr w:=m7.trans hld
  generalize hL:layNew t es (knd.hash z) v=L at hperm hfits hoff hl1 ⊢
  obtain ⟨es1,t1,wasDummy,gave⟩:=L
  dsimp only at hperm hfits hoff hl1 ⊢
  rw [Fb] at hperm
  have hel1:ElemsOf knd es1.toList:=(hel.push hkey hsc).perm hperm
  have hm1:∀ k,k∈dl++[z] ↔ ∃ e∈es1.toList,knd.is k e.2=true:=fun k=>by
   rw [← mem_push_iff (knd:=knd) (S:=fun k=>decide (k∈dl)) hkey (fun k=>by rw [Dl];exact hm k) hperm k]
   simp
  have hsz1:es1.size=(dl++[z]).length:=by rw [← C9,hperm.length_eq,C8,C9,hn,C8];rfl
  have hb1:es1.size < scanBound:=by rw [hsz1,C8];exact hroom
  have tail:∀ t2:SetTable,Tk t2→t2.led=ldr w→t2.fits es1.size=true→wpAny (model prog w) A (do
    storeSet a es1 t2
    if (!wasDummy && t2.tooFull)=true then do
      (match (relayAll t2 es1 (SetTable.grown es1.size)).2.2 with | true=>rule "set.scan.the-table-gave-way" | false=>pure ())
      storeSet a (relayAll t2 es1 (SetTable.grown es1.size)).1 (relayAll t2 es1 (SetTable.grown es1.size)).2.1
      pure (some true)
     else pure (some true)) (fun r s'=>wpAny (model prog w) A (match r with | some added=>pure added | none=>setAddHashedIn a v (knd.hash z) 99999) Q E s') E s:=fun t2 hp2 hd2 hf2=>by
   refine C5 (wpAny_storeSet_of ho hd ?_ (fits_of_scanBound hb1))
   obtain ⟨ho1,hS1⟩:=y_ ho hex hd hel1 hm1 hb1 hf2 hsz1 hp2 hd2
   have hsb1:=GM s.heap a (Obj.putSet es1 t2)
   split
   ·have hp:=relayAll_perm t2 es1 (SetTable.grown es1.size)
    have hfr:=relayAll_fits t2 es1 (SetTable.grown es1.size)
    have hof:=kg (t:=t2) (es:=es1) (w:=SetTable.grown es1.size)
    have hof2:=(jB (t:=t2) (es:=es1) (w:=SetTable.grown es1.size)).trans hd2
    generalize relayAll t2 es1 (SetTable.grown es1.size)=Rl at hp hfr hof hof2 ⊢
    obtain ⟨es2,t3,gave2⟩:=Rl
    dsimp only at hp hfr hof hof2 ⊢
    have hsz:es2.size=es1.size:=by rw [← C9,hp.length_eq,C9]
    have go:wpAny (model prog w) A (storeSet a es2 t3 >>= fun _=>pure (some true)) (fun r s'=>wpAny (model prog w) A (match r with | some added=>pure added | none=>setAddHashedIn a v (knd.hash z) 99999) Q E s') E { s with heap:=s.heap.update a (Obj.putSet es1 t2) }:=by
     refine C5 (wpAny_storeSet_of ho1 rfl ?_ (fits_of_scanBound (by rw [hsz];exact hb1)))
     obtain ⟨_,hS2⟩:=y_ (s:={ s with heap:=s.heap.update a (Obj.putSet es1 t2) }) ho1 hex rfl (hel1.perm hp) (fun k=>(hm1 k).trans ⟨fun zq2=>(by obtain ⟨e,he,q⟩:=zq2;exact ⟨e,hp.mem_iff.mpr he,q⟩),fun zq1=>(by obtain ⟨e,he,q⟩:=zq1;exact ⟨e,hp.mem_iff.mp he,q⟩)⟩) (by rw [hsz];exact hb1) hfr (hsz.trans hsz1) hof hof2
     exact Dm (Dm (hq _ (hsb1.trans (GM _ a _)) hS2))
    cases gave2
    ·exact C5 (Dm go)
    ·exact C5 (Fp go)
   ·exact Dm (Dm (hq _ hsb1 hS1))
  have rest:wpAny (model prog w) A (do
    let byValue ← if t1.plain=true then hashByValue 8 v else pure true
    storeSet a es1 (if byValue=true then t1 else { t1 with plain:=false })
    if (!wasDummy && (if byValue=true then t1 else { t1 with plain:=false }:SetTable).tooFull)=true then do
      (match (relayAll (if byValue=true then t1 else { t1 with plain:=false }) es1 (SetTable.grown es1.size)).2.2 with | true=>rule "set.scan.the-table-gave-way" | false=>pure ())
      storeSet a (relayAll (if byValue=true then t1 else { t1 with plain:=false }) es1 (SetTable.grown es1.size)).1 (relayAll (if byValue=true then t1 else { t1 with plain:=false }) es1 (SetTable.grown es1.size)).2.1
      pure (some true)
     else pure (some true)) (fun r s'=>wpAny (model prog w) A (match r with | some added=>pure added | none=>setAddHashedIn a v (knd.hash z) 99999) Q E s') E s:=by
   by_cases hp1:t1.plain=true
   ·rw [if_pos hp1]
    refine C5 ?_
    rw [hashByValue_scannable 8 hsc]
    refine Dm ?_
    cases plainKind v
    ·exact tail { t1 with plain:=false } hoff hl1 (SetTable.fits_plain_off hfits)
    ·exact tail t1 hoff hl1 hfits
   ·rw [if_neg hp1]
    refine C5 (Dm ?_)
    exact tail t1 hoff hl1 hfits
  cases gave
  ·exact C5 (Dm rest)
  ·exact C5 (Fp rest)
theorem m9.at {h h':Heap}{a:Addr}{dl:List K}(hS:m9 knd h a dl)(k:∀ o,h.get? a=some o→h'.get? a=some o):m9 knd h' a dl:=by
 obtain ⟨o,es,ep,t,ho,r⟩:=hS
 exact ⟨o,es,ep,t,k o ho,r⟩
section
variable {R:Result→Shared→Prop} {I:Addr} {fp wr:List Addr} {G:Array GenState→Array GenState→Prop} {n:Nat} {P:Nat→Value→Prop} {St:Nat→Shared→Prop}
theorem Bl (dd:Nat→List K)(W:WalksS prog w A.in1 I fp wr G n P St)(S:Addr)(hSf:S∉fp)(val:Nat→K)(d1:∀ i,val i∈dd i→dd (i+1)=dd i)(d2:∀ i,val i∉dd i→dd (i+1)=dd i++[val i])(hl:∀ i,(dd i).length≤i)(hval:∀ i v,P i v→knd.is (val i) v=true∧v.scannable=true)(hb:n+1 < scanBound) :
  ∀ (k i:Nat) (s:Shared),n - i=k→i≤n→St i s→m9 knd s.heap S (dd i)→(∀ s',Moved (S::wr) G s s'→m9 knd s'.heap S (dd n)→R (.ok (.ret .none)) s') →
   codeAny (model prog w) A (.builtin "set.update.loop" ⟨[.ref S,.ref I],[]⟩) R s:=by
 have nw:S∉wr:=fun q=>hSf (W.sub _ q)
 have sub:∀ b∈wr,b∈S::wr:=fun b q=>Dg _ q
 intro k
 induction k with
 | zero =>
  intro i s hk hi st hS hR
  obtain rfl:i=n:=by omega
  refine Fy FL ?_
  rw [GB ER _]
  show wpAny _ A.in1 (pyNext (.ref I) >>= _) _ _ s
  refine C5 (W.done s _ _ st fun s' mv=>?_)
  show wpAny _ A.in1 (ret Value.none) _ _ s'
  exact Dm (hR s' (mv.mono sub) (hS.at fun o q=>mv.heap S o nw q))
 | succ k ih =>
  intro i s hk hi st hS hR
  have hlt:i < n:=by omega
  refine Fy FL ?_
  rw [GB ER _]
  show wpAny _ A.in1 (pyNext (.ref I) >>= _) _ _ s
  refine C5 (W.item i s _ _ hlt st fun v s' hP st' mv=>?_)
  obtain ⟨hk,hsc⟩:=hval i v hP
  have hS':m9 knd s'.heap S (dd i):=hS.at fun o q=>mv.heap S o nw q
  show wpAny _ A.in1 (holding [v] (setAdd S v) >>= _) _ _ s'
  refine C5 (FD ?_)
  unfold setAdd
  refine FD (C5 (knd.pyHash (k:=val i) hk ?_))
  have hl:=hl i
  refine Bk (s:={ s' with toks:=s'.toks+1 }) hk hsc hS' (by omega) fun h' b sb hS2=>?_
  refine Dm ⟨plainId_quiet ER _,ih (i+1) _ (by omega) hlt (W.frame _ s' _ _ st' (FP _) fun c hc o q=>?_) (by split at hS2;(rw [d1 i ‹_›];exact hS2);(rw [d2 i ‹_›];exact hS2)) fun s'' mv2 hS3=>?_⟩
  ·rw [sb.2 c (fun e:c=S=>hSf (e ▸ hc))];exact q
  ·refine hR s'' (Moved.trans W.gtrans ((mv.mono sub).then_heap (FP _) fun c o hc q=>?_) mv2) hS3
   rw [sb.2 c (fun e:c=S=>hc (e ▸ Dz))];exact q
end
theorem iH (a:Value){Q₁:Value→Shared→Prop}(q:Q₁ (.ref s.heap.objs.size) { s with heap:=s.heap.push (sob (ldr w)) }) :
  codeAny (model prog w) A (.call (.builtin "set.__new__") ⟨[.type "set",a],[]⟩) (wants Q₁ E) s:=by
 refine HG ?_
 show wpAny _ A.in1 (do checkBuiltinCall "set.__new__" ⟨[.type "set",a],[]⟩;again (.builtin "set.__new__" ⟨[.type "set",a],[]⟩)) _ _ s
 refine C5 (GL (F.newCall_set_1 a) (Dm ⟨plainId_quiet F.plain_set_new _,Fy F.entry_set_new ?_⟩))
 rw [GB F.plain_set_new _]
 unfold Builtin.«set.__new__» Builtin.Frozenset.newClass
 have hsub:=sub_set_self
 obtain ⟨hp,gn,dr,tk,os⟩:=s
 dsimp only
 wp_walk
 refine wpAny_askSetting (Dm ?_)
 dsimp only
 simp only [newObj]
 exact C5 (wpAny_alloc (Dm (Dm q)))
abbrev zc (prog:Program)(w:World)(h:Heap)(a:Addr)(dl:List Str):Prop:=m9 (strKind prog w) h a dl
end
section
variable {prog:Program} {w:World} {A:Around} {E:Value→Shared→Prop} {s:Shared}
end
end PySem
namespace Ts
open PySem PyProof.Rows
section
variable {κ:KeyKind} {prog:Program} {w:World} {A:Around} {E:Value→Shared→Prop} {s:Shared}
end
end Ts
namespace Wd
section
variable {α:Type}
def Adj:List α→α→α→Prop
 | a::b::t,x,y=>(x=a∧y=b) ∨ Adj (b::t) x y
 | _,_,_=>False
theorem dj {a b:α}{t:List α}{x y:α}:Adj (a::b::t) x y ↔ (x=a∧y=b) ∨ Adj (b::t) x y:=Iff.rfl
theorem iI {a x y:α}:Adj [a] x y ↔ False:=Iff.rfl
theorem bO:∀ (l:List α) (c:α) (m:List α) (x y:α),Adj (l++c::m) x y ↔ Adj (l++[c]) x y ∨ Adj (c::m) x y
 | [],c,m,x,y=>by simp [iI]
 | [a],c,m,x,y=>by
  show Adj (a::c::m) x y ↔ Adj [a,c] x y ∨ _
  rw [dj,dj,iI]
  simp
 | a::b::l,c,m,x,y=>by
  have ih:=bO (b::l) c m x y
  show Adj (a::b::(l++c::m)) x y ↔ Adj (a::b::(l++[c])) x y ∨ _
  rw [dj,dj]
  have ih:Adj (b::(l++c::m)) x y ↔ Adj (b::(l++[c])) x y ∨ Adj (c::m) x y:=ih
  rw [ih,or_assoc]
theorem aU:∀ {l:List α} {x y:α},Adj l x y→x∈l∧y∈l
 | [],_,_,h=>h.elim
 | [a],_,_,h=>h.elim
 | a::b::t,x,y,h=>by
  rcases h with ⟨rfl,rfl⟩ | h
  ·simp
  ·have:=aU h
   exact ⟨Dg _ this.1,Dg _ this.2⟩
theorem dH:∀ {l:List α} {x y:α},Adj l x y→∃ s t,l=s++x::y::t
 | [],_,_,h=>h.elim
 | [a],_,_,h=>h.elim
 | a::b::t,x,y,h=>by
  rcases h with ⟨rfl,rfl⟩ | h
  ·exact ⟨[],t,rfl⟩
  ·obtain ⟨s,t',e⟩:=dH h
   exact ⟨a::s,t',by rw [e];rfl⟩
theorem gG {s t:List α}{x y:α}:Adj (s++x::y::t) x y:=by
 rw [bO]
 exact .inr (.inl ⟨rfl,rfl⟩)
theorem p7 {β:Type}(f:α→β):∀ {l:List α} {x y:β},Adj (l.map f) x y→∃ a b,Adj l a b∧x=f a∧y=f b
 | [],_,_,h=>h.elim
 | [a],_,_,h=>h.elim
 | a::b::t,x,y,h=>by
  rcases h with ⟨rfl,rfl⟩ | h
  ·exact ⟨a,b,.inl ⟨rfl,rfl⟩,rfl,rfl⟩
  ·obtain ⟨a',b',h',e1,e2⟩:=p7 f (l:=b::t) h
   exact ⟨a',b',.inr h',e1,e2⟩
theorem vT {β:Type}(f:α→β){l:List α}{a b:α}(h:Adj l a b):Adj (l.map f) (f a) (f b):=by
 obtain ⟨s,t,rfl⟩:=dH h
 rw [DU]
 exact gG
theorem vU {l:List α}{a b:α}(h:Adj l a b):Adj l.reverse b a:=by
 obtain ⟨s,t,rfl⟩:=dH h
 have:(s++a::b::t).reverse=t.reverse++b::a::s.reverse:=by simp
 rw [this]
 exact gG
def Nx:List α→α→α→Prop
 | [],_,_=>False
 | h::t,x,y=>Adj (h::t++[h]) x y
theorem bB:∀ (A B:List α) (x y:α),Nx (A++B) x y ↔ Nx (B++A) x y
 | [],B,x,y=>by simp
 | a::A,[],x,y=>by simp
 | a::A,b::B,x,y=>by
  show Adj (a::(A++b::B)++[a]) x y ↔ Adj (b::(B++a::A)++[b]) x y
  have e1:a::(A++b::B)++[a]=(a::A)++b::(B++[a]):=by simp
  have e2:b::(B++a::A)++[b]=(b::B)++a::(A++[b]):=by simp
  rw [e1,e2,bO (a::A) b,bO (b::B) a,or_comm]
  rfl
theorem gH {w:List α}{x y:α}(h:Nx w x y):x∈w∧y∈w:=by
 cases w with
 | nil=>exact h.elim
 | cons a t =>
  have:=aU h
  simp at this ⊢
  exact ⟨by rcases this.1 with h | h | h <;> simp [h],by rcases this.2 with h | h | h <;> simp [h]⟩
theorem um {β:Type}(f:α→β){w:List α}{x y:β}(h:Nx (w.map f) x y):∃ a b,Nx w a b∧x=f a∧y=f b:=by
 cases w with
 | nil=>exact h.elim
 | cons a t =>
  have h:Adj ((a::t++[a]).map f) x y:=by
   have h:Adj (f a::t.map f++[f a]) x y:=h
   simpa using h
  exact p7 f h
theorem zd {β:Type}(f:α→β){w:List α}{a b:α}(h:Nx w a b):Nx (w.map f) (f a) (f b):=by
 cases w with
 | nil=>exact h.elim
 | cons c t =>
  have:=vT f (show Adj (c::t++[c]) a b from h)
  show Adj (f c::t.map f++[f c]) (f a) (f b)
  simpa using this
theorem bz {w:List α}{x:α}(h:x∈w):∃ A B,w=A++x::B:=by
 obtain ⟨A,B,e⟩:=Eo h
 exact ⟨A,B,e⟩
theorem d7 {x y:α}{t:List α}(nd:(x::t).Nodup):Nx (x::t) x y ↔ (t++[x]).head? = some y:=by
 cases t with
 | nil =>
  show Adj [x,x] x y ↔ _
  rw [dj,iI]
  simp [eq_comm]
 | cons b r =>
  show Adj (x::b::(r++[x])) x y ↔ _
  rw [dj]
  constructor
  ·rintro (⟨_,e⟩ | h)
   ·simp [e]
   ·exfalso
    have hx:x∉b::r:=(DE.mp nd).1
    obtain ⟨s,t,e⟩:=dH h
    have e:(b::r)++[x]=s++x::y::t:=e
    have h2:(s++x::y::t)=(s++[x])++(y::t):=by simp
    rcases List.append_eq_append_iff.mp e with ⟨a',e1,e2⟩ | ⟨c',e1,e2⟩
    ·have:=DH List.length e2
     simp only [C8,Ds,D8] at this
     omega
    ·cases c' with
     | nil=>simp at e2
     | cons c c' =>
      have:c=x:=by
       have:=(E4 e2).1
       exact this.symm
      subst this
      exact hx (by rw [e1];simp)
  ·intro h
   simp at h
   exact .inl ⟨rfl,h.symm⟩
theorem Bm {w:List α}{x:α}(h:x∈w):∃ y,Nx w x y:=by
 obtain ⟨A,B,rfl⟩:=bz h
 cases e:B++A with
 | nil=>exact ⟨x,(bB _ _ _ _).mpr (by show Adj (x::(B++A)++[x]) x x;rw [e];exact .inl ⟨rfl,rfl⟩)⟩
 | cons c r=>exact ⟨c,(bB _ _ _ _).mpr (by show Adj (x::(B++A)++[x]) x c;rw [e];exact .inl ⟨rfl,rfl⟩)⟩
theorem gI {A B:List α}(nd:(A++B).Nodup):(B++A).Nodup:=(D0.nodup_iff).mp nd
theorem ze {w:List α}{x y z:α}(nd:w.Nodup)(h1:Nx w x y)(h2:Nx w x z):y=z:=by
 obtain ⟨A,B,rfl⟩:=bz (gH h1).1
 have h1:=(bB _ _ _ _).mp h1
 have h2:=(bB _ _ _ _).mp h2
 have nd:(x::(B++A)).Nodup:=gI nd
 have h1:=(d7 nd).mp h1
 have h2:=(d7 nd).mp h2
 exact Dp (h1.symm.trans h2)
theorem zf {w:List α}{x y:α}(h:Nx w x y):Nx w.reverse y x:=by
 cases w with
 | nil=>exact h.elim
 | cons a t =>
  have h:=vU (show Adj (a::t++[a]) x y from h)
  have e:(a::t++[a]).reverse=a::t.reverse++[a]:=by simp
  rw [e] at h
  have e2:(a::t).reverse=t.reverse++[a]:=by simp
  rw [e2,bB]
  exact h
theorem zg {w:List α}{x y:α}(h:Nx w.reverse y x):Nx w x y:=by
 have:=zf h
 rwa [List.reverse_reverse] at this
structure Cy (R:α→α→Prop) (w:List α):Prop where
 ne:w≠[]
 nd:w.Nodup
 st:∀ x y,Nx w x y→R x y
def Fnl (R:α→α→Prop):Prop:=∀ x y z,R x y→R x z→y=z
theorem lZ {R:α→α→Prop}(hR:Fnl R):∀ (t t':List α) (x z:α),(∀ a b,Adj (x::t++[z]) a b→R a b)→(∀ a b,Adj (x::t'++[z]) a b→R a b)→z∉t→z∉t'→t=t'
 | [],[],_,_,_,_,_,_=>rfl
 | [],b::r,x,z,h1,h2,_,n2=>by
  have e1:=h1 x z (.inl ⟨rfl,rfl⟩)
  have e2:=h2 x b (.inl ⟨rfl,rfl⟩)
  exact absurd (hR _ _ _ e1 e2) (fun e=>n2 (by rw [e];simp))
 | a::r,[],x,z,h1,h2,n1,_=>by
  have e1:=h1 x a (.inl ⟨rfl,rfl⟩)
  have e2:=h2 x z (.inl ⟨rfl,rfl⟩)
  exact absurd (hR _ _ _ e2 e1) (fun e=>n1 (by rw [e];simp))
 | a::r,b::r',x,z,h1,h2,n1,n2=>by
  have e1:=h1 x a (.inl ⟨rfl,rfl⟩)
  have e2:=h2 x b (.inl ⟨rfl,rfl⟩)
  obtain rfl:=hR _ _ _ e1 e2
  rw [lZ hR r r' a z (fun p q h=>h1 p q (.inr h)) (fun p q h=>h2 p q (.inr h)) (fun h=>n1 (Dg _ h)) (fun h=>n2 (Dg _ h))]
def Rts (w v:List α):Prop:=∃ A B C D,w=A++B∧v=C++D∧B++A=D++C
theorem Cy.rot {R:α→α→Prop}{A B:List α}(h:Cy R (A++B)):Cy R (B++A) :=
 ⟨fun e=>h.ne (by have:=EY.mp e;rw [this.1,this.2];rfl),gI h.nd,fun x y n=>h.st x y ((bB _ _ _ _).mpr n)⟩
theorem Cy.same {R:α→α→Prop}(hR:Fnl R){w v:List α}(hw:Cy R w)(hv:Cy R v){x:α}(h1:x∈w)(h2:x∈v):Rts w v:=by
 obtain ⟨A,B,rfl⟩:=bz h1
 obtain ⟨C,D,rfl⟩:=bz h2
 have hw:=hw.rot
 have hv:=hv.rot
 refine ⟨A,x::B,C,x::D,rfl,rfl,?_⟩
 show x::(B++A)=x::(D++C)
 rw [lZ hR (B++A) (D++C) x x (fun a b h=>hw.st a b h) (fun a b h=>hv.st a b h) (DE.mp (show (x::(B++A)).Nodup from hw.nd)).1 (DE.mp (show (x::(D++C)).Nodup from hv.nd)).1]
structure Dc (R:α→α→Prop) (u:List α) (Ws:List (List α)):Prop where
 cy:∀ w∈Ws,Cy R w
 pm:Ws.flatten.Perm u
theorem Dc.both {R:α→α→Prop}(hR:Fnl R){u:List α}{Ws Vs:List (List α)}(h:Dc R u Ws)(g:Dc R u Vs):∀ w∈Ws,∃ v∈Vs,Rts w v:=by
 intro w hw
 have c:=h.cy w hw
 obtain ⟨x,hx⟩:=Ha w c.ne
 have:x∈Vs.flatten:=g.pm.mem_iff.mpr (h.pm.mem_iff.mp (Ef.mpr ⟨w,hw,hx⟩))
 obtain ⟨v,hv,hxv⟩:=Ef.mp this
 exact ⟨v,hv,c.same hR (g.cy v hv) hx hxv⟩
end
def Rh (u:List L):L→L→Prop:=fun x y=>Nx u (inv x) y
theorem uo {u:List L}(S:Srf u):Fnl (Rh u):=fun _ _ _ h1 h2=>ze S.nd h1 h2
theorem zh {u:List L}{k:Nat}{x y:L}(h1:u[k]? = some x)(h2:u[(k+1) % u.length]? = some y):Nx u x y:=by
 obtain ⟨hk,e1⟩:=Dd.mp h1
 have e:u=u.take k++x::u.drop (k+1):=by
  rw [← e1,List.getElem_cons_drop,DJ]
 by_cases hl:k+1 < u.length
 ·rw [El hl] at h2
  obtain ⟨hk2,e2⟩:=Dd.mp h2
  have e3:u.drop (k+1)=y::u.drop (k+2):=by rw [Er hk2,e2]
  rw [e,e3,bB]
  exact .inl ⟨rfl,rfl⟩
 ·have hl:k+1=u.length:=by omega
  rw [hl,Nat.mod_self] at h2
  have e3:u.drop (k+1)=[]:=HB (by omega)
  rw [e,e3,bB]
  show Adj (x::(u.take k)++[x]) x y
  cases k with
  | zero =>
   rw [h1] at h2
   obtain rfl:=Dp h2
   exact .inl ⟨rfl,rfl⟩
  | succ k =>
   cases u with
   | nil=>simp at hk
   | cons a t =>
    have:a=y:=by simpa using h2
    subst this
    exact .inl ⟨rfl,rfl⟩
theorem vV {u:List L}(S:Srf u)(g:Nat):Rh u (dZ u g) (dZ u (cj u g)):=by
 have h:=dE S g
 refine zh (k:=cj u g) ?_ (cO S _)
 rw [fu h]
 exact DH some (EJ h)
theorem zi {u:List L}(nd:u.Nodup){i j:Nat}{x:L}(h1:u[i]? = some x)(h2:u[j]? = some x):i=j:=by
 obtain ⟨hi,e1⟩:=Dd.mp h1
 obtain ⟨hj,e2⟩:=Dd.mp h2
 have p:=EF.mp nd
 rcases Nat.lt_trichotomy i j with h | h | h
 ·exact absurd (e1.trans e2.symm) (p i j hi hj h)
 ·exact h
 ·exact absurd (e2.trans e1.symm) (p j i hj hi h)
theorem l0 {u:List L}(S:Srf u){g h:Nat}(hg:g < u.length)(hh:h < u.length)(e:dZ u g=dZ u h):g=h:=by
 have:=zi S.nd (cO S g) (e ▸ cO S h)
 have e2:∀ g:Nat,g < u.length→(g+1) % u.length=if g+1=u.length then 0 else g+1:=fun g hg=>by
  split
  ·rename_i h
   rw [h,Nat.mod_self]
  ·exact El (by omega)
 rw [e2 g hg,e2 h hh] at this
 split at this <;> split at this <;> omega
theorem jC {u:List L}(S:Srf u){g h:Nat}(hg:g < u.length)(hh:h < u.length)(e:cj u g=cj u h):g=h:=by
 refine l0 S hg hh ?_
 have a:=EJ (dE S g)
 have b:=EJ (dE S h)
 have:inv (dZ u g)=inv (dZ u h):=by
  rw [← a,← b]
  congr 1
 rw [← aT (dZ u g),this,aT]
def Row (u:List L)(C:List Nat)(g:Nat):Prop:=∀ a b,Adj (C++[g]) a b→b=cj u a
theorem Row.on {u:List L}{C:List Nat}{g:Nat}(h:Row u C g):Row u (C++[g]) (cj u g):=by
 intro a b q
 rw [Dh] at q
 rcases (bO C g [cj u g] a b).mp q with q | q
 ·exact h a b q
 ·rcases q with ⟨rfl,rfl⟩ | q
  ·rfl
  ·exact q.elim
theorem Row.round {u:List L}(S:Srf u){C:List Nat}{g:Nat}(h:Row u C g)(nd:C.Nodup)(lt:∀ c∈C,c < u.length)(hg:g∈C):∃ r,C=g::r:=by
 obtain ⟨A,B,rfl⟩:=bz hg
 rcases E6 A with rfl | ⟨A',p,e0⟩
 ·exact ⟨B,rfl⟩
 ·exfalso
  rw [E7] at e0
  subst e0
  have e1:g=cj u p:=h p g (by
   have:A'++[p]++g::B++[g]=A'++p::g::(B++[g]):=by simp
   rw [this];exact gG)
  obtain ⟨M,z,e⟩:∃ M z,g::B=M++[z]:=by
   rcases E6 (g::B) with h | ⟨M,z,h⟩
   ·cases h
   ·exact ⟨M,z,by rw [h,E7]⟩
  have e2:g=cj u z:=h z g (by
   have:A'++[p]++g::B++[g]=(A'++[p]++M)++z::g::[]:=by rw [e];simp
   rw [this];exact gG)
  have hz:z∈g::B:=by rw [e];simp
  have hpz:p=z:=jC S (lt p (by simp)) (lt z (by
   rw [DB];exact .inr hz)) (e1.symm.trans e2)
  subst hpz
  have:=Eh.mp nd
  exact this.2.2 p (by simp) p hz rfl
def Pre (u:List L)(S:List Nat):Prop:=∀ g∈S,∃ g'∈S,cj u g'=g
theorem zj {u:List L}(U:Srf u){S0:List Nat}(pre:Pre u S0){g0:Nat}(h0:g0∉S0):∀ (k:Nat) (C:List Nat) (g:Nat),k+(S0++C).length=u.length+1→Sn u (S0++C)→g < u.length→Row u C g→((C=[]∧g=g0) ∨ ∃ r,C=g0::r) →
  ∃ C',wk u g (S0++C) (C.map (dZ u))=(S0++C',C'.map (dZ u))∧Sn u (S0++C')∧(∃ r,C'=g0::r)∧Row u C' g0:=by
 intro k
 induction k with
 | zero =>
  intro C g hk hs _ _ _
  have:=hs.le
  omega
 | succ k ih =>
  intro C g hk hs hg hr hh
  by_cases hm:g∈S0++C
  ·rw [yL hm]
   have nd:=Eh.mp hs.nd
   have hC:∃ r,C=g0::r:=by
    rcases hh with ⟨rfl,rfl⟩ | h
    ·exact absurd (by simpa using hm) h0
    ·exact h
   have hgC:g∈C:=by
    rcases DB.mp hm with h | h
    ·exfalso
     obtain ⟨g',h1,h2⟩:=pre g h
     obtain ⟨M,z,e⟩:∃ M z,C=M++[z]:=by
      obtain ⟨r,rfl⟩:=hC
      rcases E6 (g0::r) with h | ⟨M,z,h⟩
      ·cases h
      ·exact ⟨M,z,by rw [h,E7]⟩
     have e2:g=cj u z:=hr z g (by
      have:C++[g]=M++z::g::[]:=by rw [e];simp
      rw [this];exact gG)
     have hz:z∈C:=by rw [e];simp
     have:=jC U (hs.lt g' (DB.mpr (.inl h1))) (hs.lt z (DB.mpr (.inr hz))) (h2.trans e2)
     exact nd.2.2 g' h1 z hz this
    ·exact h
   obtain ⟨r,e⟩:=Row.round U hr nd.2.1 (fun c hc=>hs.lt c (DB.mpr (.inr hc))) hgC
   obtain ⟨r',e'⟩:=hC
   have:g=g0:=by rw [e] at e';exact (E4 e').1
   subst this
   exact ⟨C,rfl,hs,⟨r,e⟩,hr⟩
  ·have hs':=hs.snoc hg hm
   rw [ub hs hg hm]
   have e1:S0++C++[g]=S0++(C++[g]):=Dh ..
   have e2:C.map (dZ u)++[dZ u g]=(C++[g]).map (dZ u):=by simp
   rw [e1] at hs' ⊢
   rw [e2]
   refine ih (C++[g]) (cj u g) ?_ hs' (dE U g) hr.on (.inr ?_)
   ·rw [← e1,C8,DX]
    omega
   ·rcases hh with ⟨rfl,rfl⟩ | ⟨r,rfl⟩
    ·exact ⟨[],rfl⟩
    ·exact ⟨r++[g],rfl⟩
def Gc (u:List L)(C:List Nat):Prop:=∃ g r,C=g::r∧Row u C g
theorem Gc.st {u:List L}{C:List Nat}(h:Gc u C){a b:Nat}(n:Nx C a b):b=cj u a:=by
 obtain ⟨g,r,rfl,h⟩:=h
 exact h a b n
theorem Gc.pre {u:List L}{C:List Nat}(h:Gc u C){g:Nat}(hg:g∈C):∃ g'∈C,cj u g'=g:=by
 obtain ⟨y,hy⟩:=Bm (w:=C.reverse) (x:=g) (by simpa using hg)
 have hy:=zg hy
 exact ⟨y,(gH hy).1,(h.st hy).symm⟩
structure HI (u:List L) (i:Nat) (Cs:List (List Nat)):Prop where
 s:(dk u i).1=Cs.flatten
 w:(dk u i).2=Cs.map (List.map (dZ u))
 sn:Sn u Cs.flatten
 gc:∀ C∈Cs,Gc u C
 al:∀ g,g < i→g∈Cs.flatten
theorem uq {u:List L}(U:Srf u):∀ i,i≤u.length→∃ Cs,HI u i Cs
 | 0,_=>⟨[],rfl,rfl,Sn.nil u,fun _ h=>absurd h (by simp),fun g h=>absurd h (by omega)⟩
 | i+1,hi=>by
  obtain ⟨Cs,h⟩:=uq U i (by omega)
  by_cases hm:i∈(dk u i).1
  ·refine ⟨Cs,by rw [jt hm];exact h.s,by rw [jt hm];exact h.w,h.sn,h.gc,fun g hg=>?_⟩
   by_cases e:g=i
   ·subst e
    rw [← h.s]
    exact hm
   ·exact h.al g (by omega)
  ·rw [h.s] at hm
   have pre:Pre u Cs.flatten:=fun g hg=>by
    obtain ⟨C,hC,hg⟩:=Ef.mp hg
    obtain ⟨g',h1,h2⟩:=(h.gc C hC).pre hg
    exact ⟨g',Ef.mpr ⟨C,hC,h1⟩,h2⟩
   have hle:=h.sn.le
   obtain ⟨C,e,hs,⟨r,hr⟩,hrow⟩:=zj U pre hm (u.length+1 - Cs.flatten.length) [] i (by rw [Ee];omega) (by rw [Ee];exact h.sn) (by omega) (fun a b q=>q.elim) (.inl ⟨rfl,rfl⟩)
   rw [Ee] at e
   have e:wk u i Cs.flatten []=(Cs.flatten++C,C.map (dZ u)):=e
   have ho:dk u (i+1)=((wk u i (dk u i).1 []).1,(dk u i).2++[(wk u i (dk u i).1 []).2]):=iw (by rw [h.s];exact hm)
   rw [h.s,e,h.w] at ho
   have ef:(Cs++[C]).flatten=Cs.flatten++C:=by simp
   refine ⟨Cs++[C],by rw [ho,ef],by rw [ho];simp,by rw [ef];exact hs,fun D hD=>?_,fun g hg=>?_⟩
   ·rcases DB.mp hD with hD | hD
    ·exact h.gc D hD
    ·rw [De] at hD
     subst hD
     exact ⟨i,r,hr,hrow⟩
   ·rw [ef,DB]
    by_cases e:g=i
    ·subst e
     exact .inr (by rw [hr];simp)
    ·exact .inl (h.al g (by omega))
theorem Bn {α:Type}[DecidableEq α]{a b:List α}(na:a.Nodup)(nb:b.Nodup)(h:∀ x,x∈a ↔ x∈b):a.Perm b:=by
 rw [List.perm_iff_count]
 intro x
 by_cases hx:x∈a
 ·rw [na.count,nb.count,if_pos hx,if_pos ((h x).mp hx)]
 ·rw [List.count_eq_zero.mpr hx,List.count_eq_zero.mpr (fun q=>hx ((h x).mpr q))]
theorem fJ {α β:Type}(f:α→β):∀ {l:List α},l.Nodup→(∀ x∈l,∀ y∈l,f x=f y→x=y)→(l.map f).Nodup
 | [],_,_=>Fq
 | a::t,nd,h=>by
  rw [DQ,DE]
  obtain ⟨h1,h2⟩:=DE.mp nd
  refine ⟨fun q=>?_,fJ f h2 fun x hx y hy=>h x (Dg _ hx) y (Dg _ hy)⟩
  obtain ⟨b,hb,e⟩:=DN.mp q
  have:=h b (Dg _ hb) a Dz e
  exact h1 (this ▸ hb)
theorem eI {u:List L}(U:Srf u):Dc (Rh u) u (hol u):=by
 obtain ⟨Cs,h⟩:=uq U u.length (Da _)
 have hw:hol u=Cs.map (List.map (dZ u)):=h.w
 rw [hw]
 have inj:∀ x∈Cs.flatten,∀ y∈Cs.flatten,dZ u x=dZ u y→x=y:=fun x hx y hy e=>l0 U (h.sn.lt x hx) (h.sn.lt y hy) e
 refine ⟨fun w hw=>?_,?_⟩
 ·obtain ⟨C,hC,rfl⟩:=DN.mp hw
  have g:=h.gc C hC
  have sub:∀ x∈C,x∈Cs.flatten:=fun x hx=>Ef.mpr ⟨C,hC,hx⟩
  refine ⟨?_,fJ _ (List.Sublist.nodup (GQ hC) h.sn.nd) fun x hx y hy=>inj x (sub x hx) y (sub y hy),fun x y n=>?_⟩
  ·obtain ⟨g0,r,rfl,_⟩:=g
   simp
  ·obtain ⟨a,b,n',rfl,rfl⟩:=um _ n
   obtain rfl:=g.st n'
   exact vV U a
 ·rw [← List.map_flatten]
  refine Bn (fJ _ h.sn.nd inj) U.nd fun x=>?_
  constructor
  ·intro hx
   obtain ⟨g,_,rfl⟩:=DN.mp hx
   exact iu U g
  ·intro hx
   obtain ⟨k,hk,e⟩:=List.mem_iff_getElem.mp hx
   have hp:=U.pos
   refine DN.mpr ⟨(k+u.length - 1) % u.length,h.al _ (Nat.mod_lt _ hp),?_⟩
   have e2:((k+u.length - 1) % u.length+1) % u.length=k:=by
    rw [Nat.mod_add_mod]
    have:k+u.length - 1+1=k+u.length:=by omega
    rw [this,Nat.add_mod_right]
    exact El hk
   have:=cO U ((k+u.length - 1) % u.length)
   rw [e2,fu hk,e] at this
   exact (Dp this).symm
section
variable {α:Type}
theorem ur {A B:List α}{x a b:α}(nd:(A++x::B).Nodup):Nx (A++B) a b ↔ a≠x∧b≠x∧(Nx (A++x::B) a b ∨ (Nx (A++x::B) a x∧Nx (A++x::B) x b)):=by
 rw [bB A B,bB A (x::B),bB A (x::B),bB A (x::B)]
 have nd:(x::(B++A)).Nodup:=gI nd
 show Nx (B++A) a b ↔ a≠x∧b≠x∧(Nx (x::(B++A)) a b ∨ (Nx (x::(B++A)) a x∧Nx (x::(B++A)) x b))
 generalize B++A=v at nd ⊢
 obtain ⟨hx,ndv⟩:=DE.mp nd
 rw [d7 nd]
 cases v with
 | nil =>
  show False ↔ _
  constructor
  ·exact False.elim
  ·rintro ⟨h1,h2,h | h⟩
   ·have:=(gH h).1
    simp at this
    exact h1 this
   ·simp at h
    exact h2 h.2.symm
 | cons c t =>
  have hc:c≠x:=fun e=>hx (by rw [e];simp)
  have e1:∀ p q,Nx (x::c::t) p q ↔ (p=x∧q=c) ∨ Adj (c::t++[x]) p q:=fun p q=>Iff.rfl
  obtain ⟨M,z,e⟩:∃ M z,c::t=M++[z]:=by
   rcases E6 (c::t) with h | ⟨M,z,h⟩
   ·cases h
   ·exact ⟨M,z,by rw [h,E7]⟩
  have e2:∀ p q r,Adj (c::t++[r]) p q ↔ Adj (c::t) p q ∨ (p=z∧q=r):=fun p q r=>by
   have:c::t++[r]=M++z::[r]:=by rw [e];simp
   rw [this,bO,← e,dj,iI]
   simp
  have nin:∀ {p q},Adj (c::t) p q→p≠x∧q≠x:=fun h=>⟨fun e=>hx (e ▸ (aU h).1),fun e=>hx (e ▸ (aU h).2)⟩
  have hz:z≠x:=fun e'=>hx (by rw [← e',e];simp)
  show Adj (c::t++[c]) a b ↔ _
  rw [e1,e1,e2,e2,e2]
  have hh:((c::t++[x]).head? = some b) ↔ b=c:=by simp [eq_comm]
  rw [hh]
  constructor
  ·rintro (h | ⟨rfl,rfl⟩)
   ·exact ⟨(nin h).1,(nin h).2,.inl (.inr (.inl h))⟩
   ·exact ⟨hz,hc,.inr ⟨.inr (.inr ⟨rfl,rfl⟩),rfl⟩⟩
  ·rintro ⟨h1,h2,(⟨h,_⟩ | h | ⟨_,h⟩) | ⟨⟨h,_⟩ | h | ⟨h,_⟩,h'⟩⟩
   ·exact absurd h h1
   ·exact .inl h
   ·exact absurd h h2
   ·exact absurd h h1
   ·exact absurd rfl (nin h).2
   ·exact .inr ⟨h,h'⟩
theorem Rts.pm {w v:List α}(h:Rts w v):w.Perm v:=by
 obtain ⟨A,B,C,D,rfl,rfl,e⟩:=h
 exact D0.trans (by rw [e];exact D0)
theorem fK:∀ {Ws Vs:List (List α)},Ws.Perm Vs→Ws.flatten.Perm Vs.flatten
 | _,_,.nil=>.refl _
 | _,_,.cons x h=>by simpa using (fK h).append_left x
 | _,_,.swap x y l=>by
  simp only [DW,← Dh]
  exact D_ _ D0
 | _,_,.trans h g=>(fK h).trans (fK g)
theorem Dc.pms {R:α→α→Prop}{u:List α}{Ws Vs:List (List α)}(h:Dc R u Ws)(p:Vs.Perm Ws):Dc R u Vs:=⟨fun w hw=>h.cy w (p.mem_iff.mp hw),(fK p).trans h.pm⟩
theorem uu {R:α→α→Prop}(hR:Fnl R){β:Type}(l:List α→β)(hl:∀ w v,Rts w v→l w=l v):∀ (Ws Vs:List (List α)) (u:List α),Dc R u Ws→Dc R u Vs→(Ws.map l).Perm (Vs.map l)
 | [],Vs,u,h,g=>by
  have hu:u=[]:=by simpa using h.pm
  subst hu
  cases Vs with
  | nil=>exact .refl _
  | cons v T =>
   exfalso
   have c:=g.cy v (by simp)
   have e:(v::T).flatten=[]:=by simpa using g.pm
   have:v=[]:=by
    rw [DW] at e
    exact (EY.mp e).1
   exact c.ne this
 | w::T,Vs,u,h,g=>by
  obtain ⟨v,hv,r⟩:=h.both hR g w (by simp)
  obtain ⟨S,S',e⟩:=Eo hv
  have p:(v::(S++S')).Perm Vs:=by rw [e];exact EM.symm
  have g':=g.pms p
  have q:(w++T.flatten).Perm (w++(S++S').flatten):=by
   have h1:(w++T.flatten).Perm u:=by simpa using h.pm
   have h2:(v++(S++S').flatten).Perm u:=by
    have:=g'.pm
    rwa [DW] at this
   exact h1.trans (h2.symm.trans (D_ _ r.pm.symm))
  have q:=(List.perm_append_left_iff w).mp q
  have ih:=uu hR l hl T (S++S') T.flatten ⟨fun x hx=>h.cy x (by simp [hx]),.refl _⟩ ⟨fun x hx=>g'.cy x (Dg _ hx),q.symm⟩
  have:(Vs.map l).Perm (l v::(S++S').map l):=by simpa using (p.map l).symm
  rw [DQ,hl w v r]
  exact (ih.cons _).trans this.symm
theorem uv {R:α→α→Prop}(hR:Fnl R){Ws Vs:List (List α)}{u:List α}(h:Dc R u Ws)(g:Dc R u Vs):Ws.length=Vs.length:=by
 have:=(uu hR (fun _=>()) (fun _ _ _=>rfl) Ws Vs u h g).length_eq
 simpa using this
theorem vW {u:List α}(nd:u.Nodup){p:α}(h:Nx u p p):∀ q∈u,q=p:=by
 obtain ⟨A,B,rfl⟩:=bz (gH h).1
 have h:=(bB _ _ _ _).mp h
 have nd:(p::(B++A)).Nodup:=gI nd
 have h:=(d7 nd).mp h
 cases e:B++A with
 | nil =>
  obtain ⟨rfl,rfl⟩:=EY.mp e
  intro q hq
  simpa using hq
 | cons c t =>
  rw [e] at h nd
  simp at h
  exact absurd (by rw [h];simp) (DE.mp nd).1
def Pt (R:α→α→Prop)(a:α)(P:List α)(b:α):Prop:=∀ c d,Adj (a::P++[b]) c d→R c d
theorem Pt.nil {R:α→α→Prop}{a b:α}(h:Pt R a [] b):R a b:=h a b (.inl ⟨rfl,rfl⟩)
theorem Pt.ends {R:α→α→Prop}{a b:α}{P:List α}(h:Pt R a P b)(hP:P≠[]):∃ p P' M z,P=p::P'∧P=M++[z]∧R a p∧R z b∧∀ c d,Adj P c d→R c d:=by
 obtain ⟨p,P',e⟩:∃ p P',P=p::P':=by
  cases P with
  | nil=>exact absurd rfl hP
  | cons p P'=>exact ⟨p,P',rfl⟩
 obtain ⟨M,z,e2⟩:∃ M z,P=M++[z]:=by
  rcases E6 P with h | ⟨M,z,h⟩
  ·exact absurd h hP
  ·exact ⟨M,z,by rw [h,E7]⟩
 have e3:a::P++[b]=(a::M)++z::[b]:=by rw [e2];simp
 refine ⟨p,P',M,z,e,e2,h a p ?_,h z b ?_,fun c d q=>h c d ?_⟩
 ·rw [e]
  exact .inl ⟨rfl,rfl⟩
 ·rw [e3]
  exact gG
 ·rw [e3,bO]
  refine .inl ?_
  have:a::M++[z]=a::P:=by rw [e2];rfl
  rw [this,e]
  rw [e] at q
  exact .inr q
theorem p8 {R:α→α→Prop}{V V' M:List α}{v z:α}(e1:V=v::V')(e2:V=M++[z])(nd:V.Nodup)(h1:∀ c d,Adj V c d→R c d)(h2:R z v):Cy R V:=by
 refine ⟨by rw [e1];simp,nd,fun x y n=>?_⟩
 have n:Adj (V++[v]) x y:=by rw [e1] at n ⊢;exact n
 have:V++[v]=M++z::[v]:=by rw [e2];simp
 rw [this,bO,← e2] at n
 rcases n with n | n
 ·exact h1 x y n
 ·rcases n with ⟨rfl,rfl⟩ | n
  ·exact h2
  ·exact n.elim
theorem vX {P Q M Q':List α}{z q:α}(e1:P=M++[z])(e2:Q=q::Q')(c d:α):Adj (P++Q) c d ↔ Adj P c d ∨ (c=z∧d=q) ∨ Adj Q c d:=by
 have:P++Q=M++z::Q:=by rw [e1];simp
 rw [this,bO,← e1,e2]
 rfl
end
structure Out (u:List L) (x y:L) (v:List L):Prop where
 ex:∃ A B C D,u=A++x::B∧A++B=C++y::D∧v=C++D
theorem Out.pm {u v:List L}{x y:L}(o:Out u x y v):u.Perm (x::y::v):=by
 obtain ⟨A,B,C,D,rfl,e,rfl⟩:=o.ex
 refine EM.trans (List.Perm.cons _ ?_)
 rw [e]
 exact EM
theorem Out.nx {u v:List L}{x y:L}(o:Out u x y v)(nd:u.Nodup)(p q:L)(hp:p≠x)(hp':p≠y)(hq:q≠x)(hq':q≠y)
  (h:Nx u p q ∨ (Nx u p x∧Nx u x q) ∨ (Nx u p y∧Nx u y q) ∨ (Nx u p x∧Nx u x y∧Nx u y q) ∨ (Nx u p y∧Nx u y x∧Nx u x q)):Nx v p q:=by
 have hxy:y≠x:=by
  have:=o.pm.nodup_iff.mp nd
  intro e
  rw [e] at this
  simp at this
 obtain ⟨A,B,C,D,rfl,e,rfl⟩:=o.ex
 have nd2:(C++y::D).Nodup:=by
  rw [← e]
  exact (DE.mp (EM.nodup_iff.mp nd)).2
 have s1:∀ a b,a≠x→b≠x→(Nx (A++x::B) a b ∨ (Nx (A++x::B) a x∧Nx (A++x::B) x b))→Nx (C++y::D) a b:=fun a b h1 h2 h=>by
  rw [← e]
  exact (ur nd).mpr ⟨h1,h2,h⟩
 refine (ur nd2).mpr ⟨hp',hq',?_⟩
 rcases h with h | ⟨h1,h2⟩ | ⟨h1,h2⟩ | ⟨h1,h2,h3⟩ | ⟨h1,h2,h3⟩
 ·exact .inl (s1 p q hp hq (.inl h))
 ·exact .inl (s1 p q hp hq (.inr ⟨h1,h2⟩))
 ·exact .inr ⟨s1 p y hp hxy (.inl h1),s1 y q hxy hq (.inl h2)⟩
 ·exact .inr ⟨s1 p y hp hxy (.inr ⟨h1,h2⟩),s1 y q hxy hq (.inl h3)⟩
 ·exact .inr ⟨s1 p y hp hxy (.inl h1),s1 y q hxy hq (.inr ⟨h2,h3⟩)⟩
theorem zk {u:List L}(nd:u.Nodup){x y:L}(hx:x∈u)(hy:y∈u)(hn:y≠x):∃ v,Out u x y v:=by
 obtain ⟨A,B,rfl⟩:=bz hx
 have:y∈A++B:=by
  simp only [DB,Dj] at hy ⊢
  rcases hy with h | h | h
  ·exact .inl h
  ·exact absurd h hn
  ·exact .inr h
 obtain ⟨C,D,e⟩:=bz this
 exact ⟨C++D,⟨A,B,C,D,rfl,e,rfl⟩⟩
theorem vY {a x:L}(h:a≠x):inv a≠inv x:=fun e=>h (by rw [← aT a,e,aT])
theorem sO {a x:L}(h:a≠inv x):inv a≠x:=fun e=>h (by rw [← e,aT])
theorem Out.rh {u v:List L}{x:L}(o:Out u x (inv x) v)(nd:u.Nodup){a b:L}(ha:a≠x)(ha':a≠inv x)(hb:b≠x)(hb':b≠inv x)
  (h:Rh u a b ∨ (Rh u a x∧Rh u (inv x) b) ∨ (Rh u a (inv x)∧Rh u x b) ∨ (Rh u a x∧Rh u (inv x) (inv x)∧Rh u x b) ∨ (Rh u a (inv x)∧Rh u x x∧Rh u (inv x) b)):Rh v a b:=by
 refine o.nx nd (inv a) b (sO ha') (vY ha) hb hb' ?_
 unfold Rh at h
 simp only [aT] at h
 exact h
theorem zl {u:List L}(U:Srf u){x:L}(h1:Rh u x x)(h2:Rh u (inv x) (inv x)):u.length≤2:=by
 unfold Rh at h1 h2
 rw [aT] at h2
 have hx:=(gH h2).1
 obtain ⟨A,B,rfl⟩:=bz hx
 have h1:=(bB _ _ _ _).mp h1
 have h2:=(bB _ _ _ _).mp h2
 have nd:(x::(B++A)).Nodup:=gI U.nd
 have h2:=(d7 nd).mp h2
 cases e:B++A with
 | nil =>
  obtain ⟨rfl,rfl⟩:=EY.mp e
  simp
 | cons c t =>
  rw [e] at h2
  simp at h2
  have h1:Nx (x::(B++A)) (inv x) x:=h1
  rw [e,h2] at h1 nd
  have h1:=(bB [x] (inv x::t) _ _).mp h1
  have nd':(inv x::(t++[x])).Nodup:=gI (A:=[x]) nd
  have h1:=(d7 nd').mp h1
  cases t with
  | nil =>
   have:=DH List.length e
   simp only [C8,Ds,D8] at this ⊢
   omega
  | cons d t =>
   simp at h1
   subst h1
   simp at nd
theorem uw {R:L→L→Prop}{u:List L}{Ws:List (List L)}(h:Dc R u Ws){x y:L}(hx:x∈u)(hy:y∈u)(hn:y≠x) :
  (∃ (P Q:List L) (T:List (List L)),Ws.length=T.length+1∧Pt R x P y∧Pt R y Q x∧(x::y::(P++Q++T.flatten)).Perm u∧(∀ w∈T,Cy R w)∧∃ w∈Ws,x∈w∧y∈w) ∨
  (∃ (P Q:List L) (T:List (List L)),Ws.length=T.length+2∧Pt R x P x∧Pt R y Q y∧(x::y::(P++Q++T.flatten)).Perm u∧(∀ w∈T,Cy R w)∧∃ w∈Ws,x∈w∧y∉w):=by
 obtain ⟨w,hw,hxw⟩:=Ef.mp (h.pm.mem_iff.mpr hx)
 obtain ⟨v,hv,hyv⟩:=Ef.mp (h.pm.mem_iff.mpr hy)
 obtain ⟨S,S',e⟩:=Eo hw
 have pw:(w::(S++S')).Perm Ws:=by rw [e];exact EM.symm
 have g:=h.pms pw
 have cw:=h.cy w hw
 obtain ⟨A,B,eA⟩:=bz hxw
 have cw':Cy R (x::(B++A)):=by rw [eA] at cw;exact cw.rot
 have pAB:(A++x::B).Perm (x::(B++A)):=D0
 have pu:(x::(B++A)++(S++S').flatten).Perm u:=by
  have:=g.pm
  rw [DW,eA] at this
  exact (D_ _ pAB.symm).trans this
 by_cases hyw:y∈w
 ·left
  have hy2:y∈B++A:=by
   have:=(eA ▸ hyw:y∈A++x::B)
   simp only [DB,Dj] at this ⊢
   rcases this with h | h | h
   ·exact .inr h
   ·exact absurd h hn
   ·exact .inl h
  obtain ⟨P,Q,eP⟩:=bz hy2
  rw [eP] at cw' pu
  have cs:∀ c d,Adj (x::(P++y::Q)++[x]) c d→R c d:=cw'.st
  have e2:x::(P++y::Q)++[x]=(x::P)++y::(Q++[x]):=by simp
  rw [e2] at cs
  refine ⟨P,Q,S++S',?_,fun c d q=>cs c d ((bO _ _ _ _ _).mpr (.inl q)),fun c d q=>cs c d ((bO _ _ _ _ _).mpr (.inr q)),?_,fun z hz=>g.cy z (Dg _ hz),w,hw,hxw,hyw⟩
  ·have:=pw.length_eq
   simpa using this.symm
  ·refine List.Perm.trans ?_ pu
   refine List.Perm.cons x ?_
   have:(P++y::Q).Perm (y::(P++Q)):=EM
   exact (D_ _ this.symm)
 ·right
  have hvm:v∈S++S':=by
   have:=pw.mem_iff.mpr hv
   rcases Dj.mp this with h | h
   ·exact absurd (h ▸ hyv) hyw
   ·exact h
  obtain ⟨T,T',eT⟩:=Eo hvm
  have pv:(v::(T++T')).Perm (S++S'):=by rw [eT];exact EM.symm
  have cv:=h.cy v hv
  obtain ⟨C,D,eC⟩:=bz hyv
  have cv':Cy R (y::(D++C)):=by rw [eC] at cv;exact cv.rot
  have pCD:(C++y::D).Perm (y::(D++C)):=D0
  refine ⟨B++A,D++C,T++T',?_,cw'.st,cv'.st,?_,fun z hz=>g.cy z (Dg _ (pv.mem_iff.mp (Dg _ hz))),w,hw,hxw,hyw⟩
  ·have h1:=pw.length_eq
   have h2:=pv.length_eq
   simp only [Ds] at h1 h2
   omega
  ·refine List.Perm.trans ?_ pu
   refine List.Perm.cons x ?_
   have h3:(y::(D++C)++(T++T').flatten).Perm (S++S').flatten:=by
    have:=fK pv
    rw [DW,eC] at this
    exact (D_ _ pCD.symm).trans this
   have h4:(B++A++(y::(D++C)++(T++T').flatten)).Perm (B++A++(S++S').flatten):=Ek _ h3
   refine List.Perm.trans ?_ h4
   have:B++A++(y::(D++C)++(T++T').flatten)=(B++A)++y::((D++C)++(T++T').flatten):=by simp
   rw [this]
   have q:=EM (a:=y) (l₁:=B++A) (l₂:=(D++C)++(T++T').flatten)
   refine List.Perm.trans ?_ q.symm
   simp
theorem iJ {u:List L}(U:Srf u){x:L}(hx:x∈u):¬ Nx u x x:=fun h=>cC x (vW U.nd h (inv x) (U.iv x hx))
theorem l_ {u v:List L}(U:Srf u)(h4:2 < u.length){x:L}(hx:x∈u)(o:Out u x (inv x) v){Ws:List (List L)}(h:Dc (Rh u) u Ws):∃ Vs,Dc (Rh v) v Vs∧((Vs.length=Ws.length+1∧∃ w∈Ws,x∈w∧inv x∈w) ∨ (Vs.length+1=Ws.length∧∃ w∈Ws,x∈w∧inv x∉w)):=by
 have hX:=U.iv x hx
 have key:∀ (P Q:List L) (T:List (List L)),(x::inv x::(P++Q++T.flatten)).Perm u→(∀ w∈T,Cy (Rh u) w) →
   (P++Q++T.flatten).Perm v∧(P++Q++T.flatten).Nodup∧(∀ y∈P++Q++T.flatten,y≠x∧y≠inv x)∧∀ w∈T,Cy (Rh v) w:=by
  intro P Q T pu ct
  have p2:(x::inv x::(P++Q++T.flatten)).Perm (x::inv x::v):=pu.trans o.pm
  have p3:=List.Perm.cons_inv (List.Perm.cons_inv p2)
  have nd:=pu.nodup_iff.mpr U.nd
  obtain ⟨n1,n2⟩:=DE.mp nd
  obtain ⟨n3,n4⟩:=DE.mp n2
  have ne:∀ y∈P++Q++T.flatten,y≠x∧y≠inv x:=fun y hy=>⟨fun e=>n1 (Dg _ (e ▸ hy)),fun e=>n3 (e ▸ hy)⟩
  refine ⟨p3,n4,ne,fun w hw=>⟨(ct w hw).ne,(ct w hw).nd,fun a b q=>?_⟩⟩
  have sub:∀ y∈w,y∈P++Q++T.flatten:=fun y hy=>DB.mpr (.inr (Ef.mpr ⟨w,hw,hy⟩))
  have m:=gH q
  exact o.rh U.nd (ne a (sub a m.1)).1 (ne a (sub a m.1)).2 (ne b (sub b m.2)).1 (ne b (sub b m.2)).2 (.inl ((ct w hw).st a b q))
 have bad1:¬ Rh u x (inv x):=fun q=>iJ U hX q
 have bad2:¬ Rh u (inv x) x:=fun q=>by
  unfold Rh at q
  rw [aT] at q
  exact iJ U hx q
 rcases uw h hx hX (cC x) with ⟨P,Q,T,hl,hP,hQ,pu,ct,m⟩ | ⟨P,Q,T,hl,hP,hQ,pu,ct,m⟩
 ·obtain ⟨pv,nd,ne,ct'⟩:=key P Q T pu ct
  have P0:P≠[]:=fun e=>by subst e;exact bad1 hP.nil
  have Q0:Q≠[]:=fun e=>by subst e;exact bad2 hQ.nil
  obtain ⟨p,P',M,z,e1,e2,r1,r2,r3⟩:=hP.ends P0
  obtain ⟨q,Q',N,y,f1,f2,s1,s2,s3⟩:=hQ.ends Q0
  have mP:∀ a∈P,a≠x∧a≠inv x:=fun a ha=>ne a (by simp [ha])
  have mQ:∀ a∈Q,a≠x∧a≠inv x:=fun a ha=>ne a (by simp [ha])
  have hz:z∈P:=by rw [e2];simp
  have hp:p∈P:=by rw [e1];simp
  have hy:y∈Q:=by rw [f2];simp
  have hq:q∈Q:=by rw [f1];simp
  have nPQ:=(Eh.mp nd).1
  have cP:Cy (Rh v) P:=p8 e1 e2 (Eh.mp nPQ).1 (fun c d k=>o.rh U.nd (mP c (aU k).1).1 (mP c (aU k).1).2 (mP d (aU k).2).1 (mP d (aU k).2).2 (.inl (r3 c d k)))
   (o.rh U.nd (mP z hz).1 (mP z hz).2 (mP p hp).1 (mP p hp).2 (.inr (.inr (.inl ⟨r2,r1⟩))))
  have cQ:Cy (Rh v) Q:=p8 f1 f2 (Eh.mp nPQ).2.1 (fun c d k=>o.rh U.nd (mQ c (aU k).1).1 (mQ c (aU k).1).2 (mQ d (aU k).2).1 (mQ d (aU k).2).2 (.inl (s3 c d k)))
   (o.rh U.nd (mQ y hy).1 (mQ y hy).2 (mQ q hq).1 (mQ q hq).2 (.inr (.inl ⟨s2,s1⟩)))
  refine ⟨P::Q::T,⟨fun w hw=>?_,by simpa using pv⟩,.inl ⟨by rw [hl];simp,m⟩⟩
  rcases Dj.mp hw with rfl | hw
  ·exact cP
  ·rcases Dj.mp hw with rfl | hw
   ·exact cQ
   ·exact ct' w hw
 ·obtain ⟨pv,nd,ne,ct'⟩:=key P Q T pu ct
  have mP:∀ a∈P,a≠x∧a≠inv x:=fun a ha=>ne a (by simp [ha])
  have mQ:∀ a∈Q,a≠x∧a≠inv x:=fun a ha=>ne a (by simp [ha])
  have nPQ:=(Eh.mp nd).1
  have iP:∀ c d,Adj P c d→Rh u c d→Rh v c d:=fun c d k r=>o.rh U.nd (mP c (aU k).1).1 (mP c (aU k).1).2 (mP d (aU k).2).1 (mP d (aU k).2).2 (.inl r)
  have iQ:∀ c d,Adj Q c d→Rh u c d→Rh v c d:=fun c d k r=>o.rh U.nd (mQ c (aU k).1).1 (mQ c (aU k).1).2 (mQ d (aU k).2).1 (mQ d (aU k).2).2 (.inl r)
  have cy:Cy (Rh v) (P++Q):=by
   by_cases P0:P=[]
   ·subst P0
    have Q0:Q≠[]:=fun e=>by
     subst e
     have:=zl U hP.nil hQ.nil
     omega
    obtain ⟨q,Q',N,y,f1,f2,s1,s2,s3⟩:=hQ.ends Q0
    have hy:y∈Q:=by rw [f2];simp
    have hq:q∈Q:=by rw [f1];simp
    exact p8 f1 f2 (Eh.mp nPQ).2.1 (fun c d k=>iQ c d k (s3 c d k)) (o.rh U.nd (mQ y hy).1 (mQ y hy).2 (mQ q hq).1 (mQ q hq).2 (.inr (.inr (.inr (.inr ⟨s2,hP.nil,s1⟩)))))
   ·obtain ⟨p,P',M,z,e1,e2,r1,r2,r3⟩:=hP.ends P0
    have hz:z∈P:=by rw [e2];simp
    have hp:p∈P:=by rw [e1];simp
    by_cases Q0:Q=[]
    ·subst Q0
     rw [Ee]
     exact p8 e1 e2 (Eh.mp nPQ).1 (fun c d k=>iP c d k (r3 c d k)) (o.rh U.nd (mP z hz).1 (mP z hz).2 (mP p hp).1 (mP p hp).2 (.inr (.inr (.inr (.inl ⟨r2,hQ.nil,r1⟩)))))
    ·obtain ⟨q,Q',N,y,f1,f2,s1,s2,s3⟩:=hQ.ends Q0
     have hy:y∈Q:=by rw [f2];simp
     have hq:q∈Q:=by rw [f1];simp
     refine p8 (v:=p) (V':=P'++Q) (M:=P++N) (z:=y) (by rw [e1];rfl) (by rw [f2];simp) nPQ (fun c d k=>?_) (o.rh U.nd (mQ y hy).1 (mQ y hy).2 (mP p hp).1 (mP p hp).2 (.inr (.inr (.inl ⟨s2,r1⟩))))
     rcases (vX e2 f1 c d).mp k with k | ⟨rfl,rfl⟩ | k
     ·exact iP c d k (r3 c d k)
     ·exact o.rh U.nd (mP _ hz).1 (mP _ hz).2 (mQ _ hq).1 (mQ _ hq).2 (.inr (.inl ⟨r2,s1⟩))
     ·exact iQ c d k (s3 c d k)
  refine ⟨(P++Q)::T,⟨fun w hw=>?_,by simpa using pv⟩,.inr ⟨by rw [hl];simp,m⟩⟩
  rcases Dj.mp hw with rfl | hw
  ·exact cy
  ·exact ct' w hw
theorem par:∀ (n:Nat) (u:List L),u.length≤n→Srf u→∀ Ws,Dc (Rh u) u Ws→∃ k,u.length+2=2*Ws.length+4*k:=by
 intro n
 induction n with
 | zero =>
  intro u hl U
  have:=U.pos
  omega
 | succ n ih =>
  intro u hl U Ws h
  obtain ⟨x,hx⟩:=Ha u U.ne
  have hX:=U.iv x hx
  by_cases h2:u.length≤2
  ·have fin:∀ (P Q:List L) (T:List (List L)),(x::inv x::(P++Q++T.flatten)).Perm u→P=[]∧Q=[]∧T.flatten=[]:=fun P Q T p=>by
    have:=p.length_eq
    simp only [Ds,C8] at this
    exact ⟨D3 (by omega),D3 (by omega),D3 (by omega)⟩
   rcases uw h hx hX (cC x) with ⟨P,Q,T,hl,hP,hQ,pu,ct,_⟩ | ⟨P,Q,T,hl,hP,hQ,pu,ct,_⟩
   ·obtain ⟨rfl,_,_⟩:=fin P Q T pu
    exact absurd hP.nil (iJ U hX)
   ·obtain ⟨rfl,rfl,e⟩:=fin P Q T pu
    have:T=[]:=by
     cases T with
     | nil=>rfl
     | cons w T =>
      rw [DW] at e
      exact absurd (EY.mp e).1 (ct w (by simp)).ne
    subst this
    have:=pu.length_eq
    simp at this hl
    exact ⟨0,by omega⟩
  ·obtain ⟨v,o⟩:=zk U.nd hx hX (cC x)
   obtain ⟨Vs,g,c⟩:=l_ U (by omega) hx o h
   have pl:=o.pm.length_eq
   simp only [Ds] at pl
   have nd:=o.pm.nodup_iff.mp U.nd
   obtain ⟨n1,n2⟩:=DE.mp nd
   obtain ⟨n3,n4⟩:=DE.mp n2
   have V:Srf v:=by
    refine ⟨fun e=>by subst e;simp at pl;omega,n4,fun y hy=>?_,by have:=U.le;omega⟩
    have hu:y∈u:=o.pm.mem_iff.mpr (by simp [hy])
    have:=o.pm.mem_iff.mp (U.iv y hu)
    rcases Dj.mp this with e | this
    ·exact absurd hy (by rw [show y=inv x by rw [← e,aT]];exact n3)
    ·rcases Dj.mp this with e | this
     ·have:y=x:=by rw [← aT y,e,aT]
      exact absurd hy (by rw [this];exact fun q=>n1 (Dg _ q))
     ·exact this
   obtain ⟨k,hk⟩:=ih v (by omega) V Vs g
   rcases c with ⟨c,_⟩ | ⟨c,_⟩
   ·exact ⟨k+1,by omega⟩
   ·exact ⟨k,by omega⟩
theorem vZ {u:List L}(U:Srf u):∃ k,u.length+2=2*(hol u).length+4*k:=par u.length u (Da _) U _ (eI U)
structure Ren (u:List L) (f:L→L):Prop where
 iv:∀ x,f (inv x)=inv (f x)
 inj:∀ x∈u,∀ y∈u,f x=f y→x=y
theorem Ren.srf {u:List L}{f:L→L}(R:Ren u f)(U:Srf u):Srf (u.map f):=by
 refine ⟨by simpa using U.ne,fJ f U.nd R.inj,fun x hx=>?_,by rw [C4];exact U.le⟩
 obtain ⟨y,hy,rfl⟩:=DN.mp hx
 exact DN.mpr ⟨inv y,U.iv y hy,R.iv y⟩
theorem ux {u:List L}{f:L→L}(R:Ren u f)(U:Srf u):Dc (Rh (u.map f)) (u.map f) ((hol u).map (List.map f)):=by
 have h:=eI U
 refine ⟨fun w hw=>?_,?_⟩
 ·obtain ⟨v,hv,rfl⟩:=DN.mp hw
  have c:=h.cy v hv
  have sub:∀ x∈v,x∈u:=fun x hx=>h.pm.mem_iff.mp (Ef.mpr ⟨v,hv,hx⟩)
  refine ⟨by simpa using c.ne,fJ f c.nd fun x hx y hy=>R.inj x (sub x hx) y (sub y hy),fun x y n=>?_⟩
  obtain ⟨a,b,n',rfl,rfl⟩:=um f n
  have:=c.st a b n'
  unfold Rh at this ⊢
  rw [← R.iv]
  exact zd f this
 ·rw [← List.map_flatten]
  exact h.pm.map f
def nm (N:List L)(x:L):L:=if x.val < 6 then N.getD x.val 0 else inv (N.getD (x.val - 6) 0)
end Wd
namespace L2
open PySem PySem.Spec PyProof.Rows Wd
theorem fL {α β:Type}(f:α→β){zs ys:List β}(p:ys.Perm zs):∀ W:List α,ys=W.map f→∃ V:List α,V.Perm W∧zs=V.map f:=by
 induction p with
 | nil =>
  intro W e
  exact ⟨W,.refl _,e⟩
 | cons x _ ih =>
  intro W e
  cases W with
  | nil=>cases e
  | cons w W =>
   obtain ⟨e1,e2⟩:=E4 e
   obtain ⟨V,h1,h2⟩:=ih W e2
   exact ⟨w::V,h1.cons w,by rw [h2,e1];rfl⟩
 | swap x y l =>
  intro W e
  match W,e with
  | a::b::W,e =>
   obtain ⟨e1,e2⟩:=E4 e
   obtain ⟨e2,e3⟩:=E4 e2
   exact ⟨b::a::W,List.Perm.swap a b W,by rw [e1,e2,e3];rfl⟩
 | trans _ _ ih1 ih2 =>
  intro W e
  obtain ⟨V,h1,h2⟩:=ih1 W e
  obtain ⟨V2,h3,h4⟩:=ih2 V h2
  exact ⟨V2,h3.trans h1,h4⟩
section
variable {X:Cx}
end
end L2
namespace Kx
open PySem PySem.Spec PyProof.Rows L2 Wd
theorem Bo (w:List L):∃ v,yA (toS v) ((Bh w).map toS):=by
 obtain ⟨m,h⟩:=sf ((Bh w).map toS) (by unfold Bh;simp)
 obtain ⟨v,_,rfl⟩:=DN.mp h.1
 exact ⟨v,h⟩
def lw (w:List L):List L:=Classical.choose (Bo w)
end Kx
namespace L2
open PySem PySem.Spec PyProof.Rows
theorem fM (val:Nat→Str):∀ i,(ddp val i).Nodup
 | 0=>by unfold ddp;exact Fq
 | i+1=>by
  unfold ddp
  split
  ·exact fM val i
  ·rename_i h
   exact Eh.mpr ⟨fM val i,DE.mpr ⟨DS,Fq⟩,fun a ha b hb e=>h (by rw [De] at hb;subst hb;subst e;exact ha)⟩
theorem p9 (val:Nat→Str)(z:Str):∀ i,z∈ddp val i ↔ ∃ j,j < i∧val j=z
 | 0=>by unfold ddp;simp
 | i+1=>by
  have ih:=p9 val z i
  unfold ddp
  split
  ·rename_i h
   rw [ih]
   constructor
   ·rintro ⟨j,hj,e⟩;exact ⟨j,by omega,e⟩
   ·rintro ⟨j,hj,e⟩
    by_cases q:j=i
    ·subst q
     rw [← e]
     rw [e] at h ⊢
     exact ih.mp h
    ·exact ⟨j,by omega,e⟩
  ·rw [DB,ih,De]
   constructor
   ·rintro (⟨j,hj,e⟩ | e)
    ·exact ⟨j,by omega,e⟩
    ·exact ⟨i,by omega,e.symm⟩
   ·rintro ⟨j,hj,e⟩
    by_cases q:j=i
    ·subst q;exact .inr e.symm
    ·exact .inl ⟨j,by omega,e⟩
theorem cH:∀ {dl zs:List Str},dl.Nodup→(∀ k∈dl,k∈zs)→zs.length≤dl.length→zs.Perm dl
 | [],zs,_,_,h=>by rw [F_.mp (Nat.le_zero.mp h)]
 | d::dl,zs,nd,m,h=>by
  have hd:=m d Dz
  have p:=List.perm_cons_erase hd
  refine p.trans (List.Perm.cons _ ?_)
  obtain ⟨n1,n2⟩:=DE.mp nd
  refine cH n2 (fun k hk=>?_) ?_
  ·have:=m k (Dg _ hk)
   exact (List.mem_erase_of_ne (fun e=>n1 (by rw [← e];exact hk))).mpr this
  ·rw [FR hd]
   simp at h
   omega
section
variable {prog:Program} {w:World} {A:Around} {E:Value→Shared→Prop} {s:Shared}
end
section
variable {X:Cx}
def StO (P:Program)(w:World)(a:Addr)(dl:List Str):HO:=.ext fun h=>zc P w h a dl
theorem zc.lay {P:Program}{w:World}{H:Hp}{h:Heap}{a:Addr}{dl:List Str}(x:zc P w h a dl):bw P w H h a (StO P w a dl):=by
 refine ⟨x,?_,fun h1 h2 y k=>y.at k⟩
 obtain ⟨o,_,_,_,e,_⟩:=x
 exact ⟨o,e⟩
end
section
variable {prog:Program} {w:World} {A:Around} {E:Value→Shared→Prop} {s:Shared}
end
section
variable {X:Cx}
end
end L2
namespace Tv
open PySem PyProof.Rows
variable {κ:KeyKind} {kd:SortKind}
theorem Lel.sym_take {l:List Keyed}(h:Srt κ l)(i:Nat):Lel κ (l.take i) (l.drop i):=by
 have:Srt κ (l.take i++l.drop i):=by rw [DJ];exact h
 exact (a9.mp this).2.2
theorem Lel.memL {l l' m:List Keyed}(h:Lel κ l m)(hs:∀ x∈l',x∈l):Lel κ l' m:=fun x hx y hy=>h x (hs x hx) y hy
theorem Lel.memR {l m m':List Keyed}(h:Lel κ l m)(hs:∀ x∈m',x∈m):Lel κ l m':=fun x hx y hy=>h x hx y (hs y hy)
theorem Lel.mid {l m:List Keyed}{x:Keyed}(h:Lel κ l [x])(g:Lel κ [x] m):Lel κ l m:=fun a ha b hb=>dG (h a ha x (De.mpr rfl)) (g x (De.mpr rfl) b hb)
theorem iK {l:List Keyed}{x:Keyed}(h:Srt κ l)(e:l[0]? = some x):Lel κ [x] l:=fun a ha y hy=>by
 rw [De] at ha
 subst ha
 obtain ⟨i,hi⟩:=En hy
 exact h.at (D2 _) e hi
theorem p_ {l:List Keyed}{x:Keyed}(h:Srt κ l)(e:l[l.length - 1]? = some x):Lel κ l [x]:=fun a ha y hy=>by
 rw [De] at hy
 subst hy
 obtain ⟨i,hi⟩:=En ha
 have:=(Dd.mp hi).1
 exact h.at (by omega) hi e
theorem v3 {l m n:List Keyed}:Lel κ (l++m) n ↔ Lel κ l n∧Lel κ m n :=
 ⟨fun h=>⟨h.memL fun x hx=>DM _ hx,h.memL fun x hx=>Di _ hx⟩,fun h x hx=>(DB.mp hx).elim (h.1 x) (h.2 x)⟩
theorem ma {l m n:List Keyed}:Lel κ l (m++n) ↔ Lel κ l m∧Lel κ l n :=
 ⟨fun h=>⟨h.memR fun x hx=>DM _ hx,h.memR fun x hx=>Di _ hx⟩,fun h x hx y hy=>(DB.mp hy).elim (h.1 x hx y) (h.2 x hx y)⟩
theorem zm {A B r:List Keyed}{c m:Nat}{b0 al:Keyed}(sA:Srt κ A)(sB:Srt κ B)(e0:B[0]? = some b0)(el:A[A.length - 1]? = some al)
  (h1:Lel κ (A.take c) [b0]) (h2:Lel κ [al] (B.drop m)) (M:Mg κ (A.drop c) (B.take m) r):Mg κ A B (A.take c++(r++B.drop m)):=by
 have mm:∀ x,x∈r ↔ x∈A.drop c++B.take m:=fun x=>M.1.mem_iff
 refine ⟨?_,a9.mpr ⟨sA.take c,a9.mpr ⟨M.2,sB.drop m,?_⟩,ma.mpr ⟨?_,?_⟩⟩⟩
 ·have:(A.take c++(r++B.drop m)).Perm (A.take c++((A.drop c++B.take m)++B.drop m)):=Ek _ (M.1.append_right _)
  refine this.trans (List.Perm.of_eq ?_)
  rw [Dh,← Dh,DJ,DJ]
 ·refine Lel.memL (l:=A.drop c++B.take m) (v3.mpr ⟨?_,Lel.sym_take sB m⟩) fun x hx=>(mm x).mp hx
  exact Lel.mid ((p_ sA el).memL fun x hx=>FH hx) h2
 ·refine Lel.memR (m:=A.drop c++B.take m) (ma.mpr ⟨Lel.sym_take sA c,?_⟩) fun x hx=>(mm x).mp hx
  exact Lel.mid h1 ((iK sB e0).memR fun x hx=>FI hx)
 ·exact Lel.mid h1 ((iK sB e0).memR fun x hx=>FH hx)
section
variable {prog:Program} {w:World} {A:Around} {E:Value→Shared→Prop} {s:Shared}
theorem v5 {st u:SortSt}{Q:PUnit→SortSt→Prop}(h:Q ⟨⟩ u):wpS (model prog w) A E s (set u:StateT SortSt Sem PUnit) Q st:=by
 unfold wpS
 rw [StateT.run_set]
 exact Dm ⟨rfl,h⟩
theorem me {st:SortSt}{lf:Bool}{key:Keyed}{arr:Array Keyed}{P M S:List Keyed}{z n h:Nat}{Q:Option Nat→SortSt→Prop}(hO:Lt1 κ prog w A s kd)(hB:TB kd st)(hk:Gd κ key)(hg:∀ x∈arr.toList,Gd κ x)(ea:arr.toList=P++(M++S))(lp:P.length=z)(ln:M.length=n)(sa:Srt κ M)(hh:h < n)
  (hq:∀ k,k≤n→(∀ x∈M.take k,bdB κ lf (kof κ key) (kof κ x)=true)→(∀ x∈M.drop k,bdB κ lf (kof κ key) (kof κ x)=false)→Q (some k) st) :
  wpS (model prog w) A E s (gal lf key arr z n h) Q st:=by
 have ga:∀ i,i < n→arr[z+i]? = M[i]?:=fun i hi=>by
  rw [← DY,ea,Dn (by omega),Eg (by omega)]
  congr 1
  omega
 have gm:∀ x∈M,Gd κ x:=fun x hx=>hg x (by rw [ea];exact Di _ (DM _ hx))
 refine ke hO hB hk (fun t=>match M[t]? with | some p=>bdB κ lf (kof κ key) (kof κ p) | none=>false) hh (fun t ht=>?_) (fun t u htu hu hb=>?_) (fun k hk' h1 h2=>hq k hk' (fun x hx=>?_) fun x hx=>?_)
 ·have hlt:t < M.length:=by omega
  have e:=fu hlt
  exact ⟨M[t],by rw [ga t ht,e],gm _ (DZ _),by rw [e]⟩
 ·have e1:=fu (l:=M) (i:=t) (by omega)
  have e2:=fu (l:=M) (i:=u) (by omega)
  rw [e1]
  rw [e2] at hb
  have le:=sa.at htu e1 e2
  dsimp only at hb ⊢
  cases lf with
  | true=>exact KeyOrd.klt_of_kle_of_klt le hb
  | false =>
   have le2:=dG le (eR hb)
   show (!κ.blt _ _)=true
   rw [show κ.blt (kof κ key) (kof κ M[t])=false from le2]
   rfl
 ·obtain ⟨i,hi⟩:=En hx
  have l1:=(Dd.mp hi).1
  rw [Dw] at l1
  rw [Ex (by omega)] at hi
  have:=h1 i (by omega)
  rw [hi] at this
  exact this
 ·obtain ⟨i,hi⟩:=En hx
  rw [Eb] at hi
  have l1:=(Dd.mp hi).1
  have:=h2 (k+i) (by omega) (by omega)
  rw [hi] at this
  exact this
theorem qa {arr:Array Keyed}{P M S:List Keyed}{i j:Nat}(e:arr.toList=P++(M++S))(h1:P.length=i)(h2:j=i+M.length):(arr.extract i j).toList=M:=by
 rw [Em,e,List.extract_eq_drop_take,← h1,List.drop_left,h2,← h1,Fi,HP]
theorem v7 {st:SortSt}{i z na nb pw pw2:Nat}{P Aa B S:List Keyed}{Q:Bool→SortSt→Prop}(hO:Lt1 κ prog w A s kd)(hB:TB kd st)(g:∀ x∈(arrOf st).toList,Gd κ x)(e1:(pendingOf st)[i]? = some (z,na,pw))(e2:(pendingOf st)[i+1]? = some (z+na,nb,pw2))
  (ea:(arrOf st).toList=P++(Aa++(B++S))) (lp:P.length=z) (la:Aa.length=na) (lb:B.length=nb) (h0:0 < na) (h1:0 < nb) (sA:Srt κ Aa) (sB:Srt κ B)
  (h:∀ st' R,TB kd st'→pendingOf st'=((pendingOf st).setIfInBounds i (z,na+nb,pw)).eraseIdxIfInBounds (i+1)→(arrOf st').toList=P++(R++S)→Mg κ Aa B R→Q true st'):wpS (model prog w) A E s (mergeAt' i) Q st:=by
 have eb:(arrOf st).toList=(P++Aa)++(B++S):=by rw [ea,Dh]
 rw [y9]
 unfold mAt
 refine Dk (GO ?_)
 rw [e1,e2]
 dsimp only
 refine Dk (v5 ?_)
 have hB':TB kd (setPending st (((pendingOf st).setIfInBounds i (z,na+nb,pw)).eraseIdxIfInBounds (i+1))):=⟨hB.kind,hB.failed⟩
 generalize hst':setPending st (((pendingOf st).setIfInBounds i (z,na+nb,pw)).eraseIdxIfInBounds (i+1))=st' at hB' ⊢
 have hp':pendingOf st'=((pendingOf st).setIfInBounds i (z,na+nb,pw)).eraseIdxIfInBounds (i+1):=by rw [← hst']
 have har:arrOf st'=arrOf st:=by rw [← hst']
 obtain ⟨b0,eb0⟩:∃ b0,B[0]? = some b0:=⟨_,fu (by omega)⟩
 obtain ⟨al,eal⟩:∃ al,Aa[Aa.length - 1]? = some al:=⟨_,fu (by omega)⟩
 have gA:∀ x∈Aa,Gd κ x:=fun x hx=>g x (by rw [ea];simp [hx])
 have gB:∀ x∈B,Gd κ x:=fun x hx=>g x (by rw [ea];simp [hx])
 have x0:(arrOf st).toList[z+na]? = some b0:=by
  rw [eb,Dn (by simp;omega),Eg (by simp;omega)]
  rw [show z+na - (P++Aa).length=0 by simp;omega]
  exact eb0
 have xl:(arrOf st).toList[z+na - 1]? = some al:=by
  rw [ea,Dn (by omega),Eg (by omega)]
  rw [show z+na - 1 - P.length=Aa.length - 1 by omega]
  exact eal
 refine Dk (aL x0 ?_)
 refine Dk (me hO hB' (gB b0 (DP eb0)) g ea lp la sA h0 fun c hc t1 t2=>?_)
 dsimp only
 have k1:Lel κ (Aa.take c) [b0]:=fun x hx y hy=>by
  rw [De] at hy
  subst hy
  exact eR (t1 x hx)
 have k2:Lel κ [b0] (Aa.drop c):=fun x hx y hy=>by
  rw [De] at hx
  subst hx
  exact fH (t2 y hy)
 by_cases hc0:na - c=0
 ·refine au (by simpa using hc0) ?_
  have:Aa.take c=Aa:=D6 (by omega)
  rw [this] at k1
  exact Dr (h st' (Aa++B) hB' hp' (by rw [har,ea,Dh]) ⟨Fs _,a9.mpr ⟨sA,sB,k1.mid (iK sB eb0)⟩⟩)
 ·refine av (by simpa using hc0) ?_
  rw [show z+c+(na - c) - 1=z+na - 1 by omega]
  refine Dk (aL xl ?_)
  refine Dk (me hO hB' (gA al (DP eal)) g eb (by simp;omega) lb sB (by omega) fun m hm u1 u2=>?_)
  dsimp only
  have k3:Lel κ (B.take m) [al]:=fun x hx y hy=>by
   rw [De] at hy
   subst hy
   exact kf (u1 x hx)
  have k4:Lel κ [al] (B.drop m):=fun x hx y hy=>by
   rw [De] at hx
   subst hx
   exact iE (u2 y hy)
  by_cases hm0:m=0
  ·refine au (by simpa using hm0) ?_
   subst hm0
   exact Dr (h st' (Aa++B) hB' hp' (by rw [har,ea,Dh]) ⟨Fs _,a9.mpr ⟨sA,sB,(p_ sA eal).mid k4⟩⟩)
  ·refine av (by simpa using hm0) ?_
   have ec:(arrOf st).toList=(P++Aa.take c)++(Aa.drop c++(B++S)):=by
    rw [ea]
    conv=>lhs;rw [← DJ c Aa]
    simp only [Dh]
   have ed:(arrOf st).toList=(P++Aa)++(B.take m++(B.drop m++S)):=by
    rw [eb]
    conv=>lhs;rw [← DJ m B]
    simp only [Dh]
   have ex:((arrOf st).extract (z+c) (z+na)).toList=Aa.drop c:=qa ec (by simp;omega) (by simp;omega)
   have ey:((arrOf st).extract (z+na) (z+na+m)).toList=B.take m:=qa ed (by simp;omega) (by simp;omega)
   have sx:((arrOf st).extract (z+c) (z+na)).size=na - c:=by rw [← C9,ex];simp;omega
   have sy:((arrOf st).extract (z+na) (z+na+m)).size=m:=by rw [← C9,ey];simp;omega
   generalize (arrOf st).extract (z+c) (z+na)=x at ex sx ⊢
   generalize (arrOf st).extract (z+na) (z+na+m)=y at ey sy ⊢
   have ga:∀ t∈x.toList,Gd κ t:=fun t ht=>gA t (by rw [ex] at ht;exact FH ht)
   have gb:∀ t∈y.toList,Gd κ t:=fun t ht=>gB t (by rw [ey] at ht;exact FI ht)
   have sx':Srt κ x.toList:=by rw [ex];exact sA.drop c
   have sy':Srt κ y.toList:=by rw [ey];exact sB.take m
   have y0:y.toList[0]? = some b0:=by rw [ey,Ex (by omega)];exact eb0
   have xn:x.toList[x.size - 1]? = some al:=by
    rw [ex,Eb,sx,show c+(na - c - 1)=Aa.length - 1 by omega]
    exact eal
   have fin:∀ (r:Array Keyed) (st2:SortSt),Ok kd st' st2→Mg κ x.toList y.toList r.toList→wpS (model prog w) A E s (do
     modify fun v=>setArr v (r.toList.zipIdx.foldl (fun a (p,j)=>a.setIfInBounds (z+c+j) p) (arrOf v))
     return (failedOf (← get)).isNone:StateT SortSt Sem Bool) Q st2:=fun r st2 ok M=>by
    rw [ex,ey] at M
    have lr:r.toList.length=(Aa.drop c++B.take m).length:=M.1.length_eq
    refine Dk (FS ?_)
    refine Dk (GO ?_)
    refine Dr ?_
    have hf:failedOf (setArr st2 (r.toList.zipIdx.foldl (fun a (p,j)=>a.setIfInBounds (z+c+j) p) (arrOf st2)))=none:=ok.tb.failed
    rw [hf]
    refine h _ (Aa.take c++(r.toList++B.drop m)) ⟨ok.tb.kind,ok.tb.failed⟩ (ok.pd.trans hp') ?_ (zm sA sB eb0 eal k1 k4 M)
    show (r.toList.zipIdx.foldl (fun a (p,j)=>a.setIfInBounds (z+c+j) p) (arrOf st2)).toList=_
    rw [pX r.toList (z+c) 0 (arrOf st2) (P++Aa.take c) (Aa.drop c++B.take m) (B.drop m++S) (by
     rw [ok.ar,har,ea]
     conv=>lhs;rw [← DJ c Aa,← DJ m B]
     simp only [Dh]) (by simp;omega) lr.symm]
    simp only [Dh]
   by_cases hle:na - c≤m
   ·refine au hle ?_
    refine Dk (vP hO hB' ga gb sx' sy' (by omega) (by omega) (fun p q hp hq=>?_) (fun t ht=>?_) fun r st2 ok M=>fin r st2 ok M)
    ·rw [y0] at hq
     cases hq
     rw [ex] at hp
     exact k2 _ (De.mpr rfl) _ (DP hp)
    ·rw [xn] at ht
     cases ht
     rw [ey]
     exact k3
   ·refine av hle ?_
    refine Dk (vR hO hB' ⟨ga,gb,sx',sy',fun t ht=>?_⟩ (by omega) (by omega) (fun t ht=>?_) fun r st2 ok M=>fin r st2 ok M)
    ·rw [y0] at ht
     cases ht
     rw [ex]
     exact k2
    ·rw [xn] at ht
     cases ht
     rw [ey]
     exact k3
end
end Tv
namespace Tv
open PySem PyProof.Rows
variable {κ:KeyKind} {kd:SortKind}
def PdL (κ:KeyKind):Nat→List (Nat × Nat × Nat)→List (List Keyed)→Prop
 | _,[],[]=>True
 | z,p::ps,r::rs=>p.1=z∧p.2.1=r.length∧0 < r.length∧Srt κ r∧PdL κ (z+r.length) ps rs
 | _,_,_=>False
theorem PdL.app:∀ {p q:List (Nat × Nat × Nat)} {z:Nat} {rs:List (List Keyed)},PdL κ z (p++q) rs→∃ r1 r2,rs=r1++r2∧r1.length=p.length∧PdL κ z p r1∧PdL κ (z+r1.flatten.length) q r2
 | [],q,z,rs,h=>⟨[],rs,rfl,rfl,trivial,h⟩
 | _::_,q,z,[],h=>h.elim
 | _::p,q,z,r::rs,h=>by
  obtain ⟨a1,a2,a3,a4,a5⟩:=h
  obtain ⟨r1,r2,e,l,b1,b2⟩:=PdL.app a5
  refine ⟨r::r1,r2,by rw [e];rfl,by simp [l],⟨a1,a2,a3,a4,b1⟩,?_⟩
  rw [DW,C8,← HV]
  exact b2
theorem PdL.join:∀ {p q:List (Nat × Nat × Nat)} {z:Nat} {r1 r2:List (List Keyed)},PdL κ z p r1→PdL κ (z+r1.flatten.length) q r2→PdL κ z (p++q) (r1++r2)
 | [],q,z,[],r2,_,h=>h
 | [],q,z,_::_,r2,h,_=>h.elim
 | _::_,q,z,[],r2,h,_=>h.elim
 | _::p,q,z,r::r1,r2,h,g=>by
  obtain ⟨a1,a2,a3,a4,a5⟩:=h
  rw [DW,C8,← HV] at g
  exact ⟨a1,a2,a3,a4,PdL.join a5 g⟩
theorem PdL.len:∀ {p:List (Nat × Nat × Nat)} {z:Nat} {rs:List (List Keyed)},PdL κ z p rs→p.length≤rs.flatten.length
 | [],z,[],_=>D2 _
 | [],z,_::_,h=>h.elim
 | _::_,z,[],h=>h.elim
 | _::p,z,r::rs,h=>by
  obtain ⟨a1,a2,a3,a4,a5⟩:=h
  have:=PdL.len a5
  rw [DW,C8,Ds]
  omega
theorem PdL.same:∀ {p q:List (Nat × Nat × Nat)} {z:Nat} {rs:List (List Keyed)},PdL κ z p rs→q.map (fun t=>(t.1,t.2.1))=p.map (fun t=>(t.1,t.2.1))→PdL κ z q rs
 | [],[],z,rs,h,_=>h
 | [],_::_,z,rs,_,e=>by simp at e
 | _::_,[],z,rs,_,e=>by simp at e
 | _::_,_::_,z,[],h,_=>h.elim
 | x::p,y::q,z,r::rs,h,e=>by
  obtain ⟨a1,a2,a3,a4,a5⟩:=h
  simp only [DQ,HF,Prod.mk.injEq] at e
  exact ⟨e.1.1.trans a1,e.1.2.trans a2,a3,a4,PdL.same a5 e.2⟩
theorem qb {f:Nat × Nat × Nat→Nat × Nat × Nat}(hf:∀ t,(f t).1=t.1∧(f t).2.1=t.2.1):∀ (l:List (Nat × Nat × Nat)) (i:Nat),(l.modify i f).map (fun t=>(t.1,t.2.1))=l.map (fun t=>(t.1,t.2.1))
 | [],i=>by cases i <;> rfl
 | x::l,0=>by
  show ((f x).1,(f x).2.1)::_=_
  rw [(hf x).1,(hf x).2]
  rfl
 | x::l,i+1=>by
  show (x.1,x.2.1)::(l.modify i f).map _=_
  rw [qb hf l i]
  rfl
theorem qc {xs:Array Keyed}{i:Nat}{x:Keyed}(h:xs.toList[i]? = some x):KK κ xs i=kof κ x:=by
 rw [DY] at h
 unfold KK kof
 rw [h]
structure Iv (kd:SortKind) (κ:KeyKind) (a0:Array Keyed) (st:SortSt) (lo:Nat):Prop where
 tb:TB kd st
 pm:(arrOf st).Perm a0
 ex:∃ rs T,(arrOf st).toList=rs.flatten++T∧rs.flatten.length=lo∧PdL κ 0 (pendingOf st).toList rs
theorem Iv.gd {a0:Array Keyed}{st:SortSt}{lo:Nat}(I:Iv kd κ a0 st lo)(h0:KeysOf κ a0):∀ x∈(arrOf st).toList,Gd κ x:=fun x hx=>h0 x ((E2.mp I.pm).mem_iff.mp hx)
theorem Iv.part {a0:Array Keyed}{st st':SortSt}{lo hi:Nat}(I:Iv kd κ a0 st lo)(R:Rs kd κ lo hi st st'):Iv kd κ a0 st' lo:=by
 obtain ⟨rs,T,e,l,p⟩:=I.ex
 refine ⟨R.tb,R.rp.pm.trans I.pm,rs,(arrOf st').toList.drop lo,?_,l,by rw [R.pd];exact p⟩
 have:(arrOf st').toList.take lo=rs.flatten:=by
  have e2:(arrOf st).toList.take lo=rs.flatten:=by rw [e,← l,HP]
  rw [← e2]
  apply List.ext_getElem?
  intro k
  by_cases hk:k < lo
  ·rw [Ex hk,Ex hk,DY,DY,R.rp.out k (.inl hk)]
  ·rw [List.getElem?_eq_none (by rw [Dw];omega),List.getElem?_eq_none (by rw [Dw];omega)]
 rw [← this,DJ]
theorem Iv.mod {a0:Array Keyed}{st:SortSt}{lo i:Nat}(I:Iv kd κ a0 st lo){f:Nat × Nat × Nat→Nat × Nat × Nat}(hf:∀ t,(f t).1=t.1∧(f t).2.1=t.2.1):Iv kd κ a0 (setPending st ((pendingOf st).modify i f)) lo:=by
 obtain ⟨rs,T,e,l,p⟩:=I.ex
 refine ⟨⟨I.tb.kind,I.tb.failed⟩,I.pm,rs,T,e,l,?_⟩
 show PdL κ 0 ((pendingOf st).modify i f).toList rs
 rw [Array.toList_modify]
 exact p.same (qb hf _ _)
theorem Iv.push {a0:Array Keyed}{st:SortSt}{lo n w:Nat}(I:Iv kd κ a0 st lo)(hn:0 < n)(hz:lo+n≤(arrOf st).size)(hs:SrI κ (arrOf st) lo (lo+n)):Iv kd κ a0 (setPending st ((pendingOf st).push (lo,n,w))) (lo+n):=by
 obtain ⟨rs,T,e,l,p⟩:=I.ex
 have lT:lo+T.length=(arrOf st).size:=by rw [← C9,e,C8,l]
 have ln:(T.take n).length=n:=by rw [Dw];omega
 have at_:∀ i x,T[i]? = some x→KK κ (arrOf st) (lo+i)=kof κ x:=fun i x hx=>qc (by rw [e,Dn (by omega),← l,Fi];exact hx)
 refine ⟨⟨I.tb.kind,I.tb.failed⟩,I.pm,rs++[T.take n],T.drop n,?_,?_,?_⟩
 ·show (arrOf st).toList=_
  rw [e,Fj,Gg,Dh,DJ]
 ·rw [Fj,Gg,C8,l,ln]
 ·show PdL κ 0 ((pendingOf st).push (lo,n,w)).toList _
  rw [Fb]
  refine PdL.join p ⟨by rw [l];omega,ln.symm,by omega,?_,trivial⟩
  refine EF.mpr fun i j hi hj hij=>?_
  rw [Dw] at hi hj
  rw [List.getElem_take,List.getElem_take]
  have:=hs (lo+i) (lo+j) (by omega) (by omega) (by omega)
  rw [at_ i _ (fu (by omega)),at_ j _ (fu (by omega))] at this
  exact this
theorem two_at {l:List (Nat × Nat × Nat)}{i:Nat}(h:i+1 < l.length):∃ p x y q,l=p++x::y::q∧p.length=i:=by
 refine ⟨l.take i,l[i],l[i+1],l.drop (i+2),?_,by rw [Dw];omega⟩
 conv=>lhs;rw [← DJ i l]
 rw [Er (by omega),Er h]
section
variable {prog:Program} {w:World} {A:Around} {E:Value→Shared→Prop} {s:Shared}
theorem fN {a0:Array Keyed}{st:SortSt}{lo i:Nat}{Q:Bool→SortSt→Prop}(hO:Lt1 κ prog w A s kd)(h0:KeysOf κ a0)(I:Iv kd κ a0 st lo)(hi:i+1 < (pendingOf st).size)
  (h:∀ st',Iv kd κ a0 st' lo→(pendingOf st').size+1=(pendingOf st).size→(∀ k,lo≤k→(arrOf st')[k]? = (arrOf st)[k]?)→Q true st'):wpS (model prog w) A E s (mergeAt' i) Q st:=by
 obtain ⟨rs,T,e,l,p⟩:=I.ex
 obtain ⟨p1,x,y,p2,ep,lp⟩:=two_at (l:=(pendingOf st).toList) (i:=i) (by rw [C9];exact hi)
 rw [ep] at p
 obtain ⟨r1,r2,er,_,P1,P2⟩:=p.app
 match r2,P2,er with
 | A1::B1::r2,P2,er =>
  obtain ⟨x1,x2,x3,x4,y1,y2,y3,y4,P3⟩:=P2
  obtain ⟨xa,xb,xc⟩:=x
  obtain ⟨ya,yb,yc⟩:=y
  dsimp only at x1 x2 y1 y2
  subst er
  have ea:(arrOf st).toList=r1.flatten++(A1++(B1++(r2.flatten++T))):=by
   rw [e]
   simp only [Fj,DW,Dh]
  have e1:(pendingOf st)[i]? = some (r1.flatten.length,A1.length,xc):=by
   rw [← DY,ep,Dn (by omega),lp,E5,x1,x2,H_]
   rfl
  have e2:(pendingOf st)[i+1]? = some (r1.flatten.length+A1.length,B1.length,yc):=by
   rw [← DY,ep,Dn (by omega),lp,Fi,y1,y2,H_]
   rfl
  refine v7 hO I.tb (I.gd h0) e1 e2 ea rfl rfl rfl x3 y3 x4 y4 fun st' R t1 t2 t3 M=>?_
  have lR:R.length=A1.length+B1.length:=by rw [M.1.length_eq,C8]
  have ep':(pendingOf st').toList=p1++(r1.flatten.length,A1.length+B1.length,xc)::p2:=by
   rw [t2,Array.toList_eraseIdxIfInBounds,GX,ep,List.set_append_right _ _ (by omega),List.eraseIdx_append_of_length_le (by omega),lp,E5,Fi]
   rfl
  have eT:(arrOf st').toList=(r1++R::r2).flatten++T:=by
   rw [t3]
   simp only [Fj,DW,Dh]
  have lT:(r1++R::r2).flatten.length=lo:=by
   rw [← l]
   simp only [Fj,DW,C8,lR]
   omega
  refine h st' ⟨t1,?_,r1++R::r2,T,eT,lT,?_⟩ ?_ fun k hk=>?_
  ·refine Array.Perm.trans (E2.mpr ?_) I.pm
   rw [t3,ea,← Dh A1]
   exact Ek _ (M.1.append_right _)
  ·rw [ep']
   refine PdL.join P1 ⟨by omega,lR.symm,by omega,M.2,?_⟩
   rw [lR,← HV]
   exact P3
  ·rw [← C9,← C9,ep',ep]
   simp only [C8,Ds]
   omega
  ·rw [← DY,← DY,eT,e,Dn (by omega),Dn (by omega),lT,l]
theorem Iv.done {a0:Array Keyed}{st:SortSt}(I:Iv kd κ a0 st a0.size)(h:(pendingOf st).size≤1):SortedToK κ (arrOf st) a0.size:=by
 obtain ⟨rs,T,e,l,p⟩:=I.ex
 have hz:(arrOf st).toList.length=a0.size:=by rw [C9];exact I.pm.size_eq
 have hT:T=[]:=F_.mp (by rw [e,C8,l] at hz;omega)
 subst hT
 rw [Ee] at e
 rw [← C9] at h
 have sr:Srt κ (arrOf st).toList:=by
  rw [e]
  match (pendingOf st).toList,rs,p,h with
  | [],[],_,_=>exact List.Pairwise.nil
  | [_],[r],p,_=>rw [Gg];exact p.2.2.2.1
  | _::_::_,_,_,h=>simp at h
 intro i j hij hj
 have e1:=fu (l:=(arrOf st).toList) (i:=i) (by omega)
 have e2:=fu (l:=(arrOf st).toList) (i:=j) (by omega)
 rw [qc e1,qc e2]
 exact sr.at hij e1 e2
structure SB (kd:SortKind) (a0:Array Keyed) (st:SortSt):Prop where
 perm:(arrOf st).Perm a0
 kind:kindOf st=kd
 failed:failedOf st=none
 pend:pendingOf st=#[]
theorem sP {a0:Array Keyed}{st:SortSt}{Q:Unit→SortSt→Prop}(hO:Lt1 κ prog w A s kd)(h0:KeysOf κ a0)(hB:SB kd a0 st)
  (h:∀ st',(arrOf st').Perm a0→failedOf st'=none→SortedToK κ (arrOf st') a0.size→Q () st'):wpS (model prog w) A E s sortRuns' Q st:=by
 rw [sortRuns'_eq]
 refine Dk (GO ?_)
 dsimp only
 simp only [hB.perm.size_eq]
 refine Dk (EN (Ec
  (I:=fun x c st'=>∃ lo,c=(none,lo)∧x≤lo∧lo≤a0.size∧Iv kd κ a0 st' lo)
  (Q:=fun c st'=>c=(none,a0.size)∧Iv kd κ a0 st' a0.size) ?step ?fin ⟨0,rfl,Da _,D2 _,⟨hB.kind,hB.failed⟩,hB.perm,[],(arrOf st).toList,rfl,rfl,by rw [hB.pend];exact trivial⟩) ?post)
 case fin =>
  rintro c st' ⟨lo,rfl,h1,h2,I⟩
  have:lo=a0.size:=by omega
  subst this
  exact ⟨rfl,I⟩
 case step =>
  rintro x c st' hx1 hx2 ⟨lo,rfl,h1,h2,I⟩
  have hz:(arrOf st').size=a0.size:=I.pm.size_eq
  dsimp only
  by_cases hge:lo≥a0.size
  ·refine au hge ?_
   have:lo=a0.size:=by omega
   subst this
   exact Dr ⟨rfl,I⟩
  ·refine av hge ?_
   refine Dk (sH hO I.tb (I.gd h0) (by omega) (by omega) fun n st2 n1 n2 R s2=>?_)
   have I2:=I.part R
   have hz2:(arrOf st2).size=a0.size:=I2.pm.size_eq
   dsimp only
   by_cases hm:n < minRun' a0.size a0.size 0
   ·refine au hm ?_
    refine Dk (HK (Fp ⟨rfl,?_⟩))
    refine Dk (sI hO I2.tb (I2.gd h0) (by omega) (by omega) s2 fun st3 R3 s3=>?_)
    simp only [GE,DF,Eu]
    have M1:1≤(min (a0.size - lo) (minRun' a0.size a0.size 0)):=by omega
    have M2:lo+(min (a0.size - lo) (minRun' a0.size a0.size 0))≤a0.size:=by omega
    have IX:=I2.part R3
    have S3:=s3
    refine Dk (GO ?_)
    cases (pendingOf st3).back? with
    | none=>exact Dk (FS (Dr ⟨lo+(min (a0.size - lo) (minRun' a0.size a0.size 0)),rfl,by omega,M2,IX.push M1 (by rw [IX.pm.size_eq];exact M2) S3⟩))
    | some t =>
     obtain ⟨a,b,c⟩:=t
     dsimp only
     refine Dk (EN (Ec (I:=fun _ c st3'=>c=(none,())∧Iv kd κ a0 st3' lo∧∀ k,lo≤k→(arrOf st3')[k]? = (arrOf st3)[k]?)
      (Q:=fun c st3'=>c=(none,())∧Iv kd κ a0 st3' lo∧∀ k,lo≤k→(arrOf st3')[k]? = (arrOf st3)[k]?) ?step1 (fun _ _ h=>h) ⟨rfl,IX,fun _ _=>rfl⟩) ?post1)
     case step1 =>
      rintro y c st3' _ _ ⟨rfl,Iw,kw⟩
      refine Dk (GO ?_)
      by_cases hz:(pendingOf st3').size > 1
      ·rw [if_pos hz]
       cases e:(pendingOf st3')[(pendingOf st3').size - 2]? with
       | none=>exact Dr ⟨rfl,Iw,kw⟩
       | some t =>
        obtain ⟨a',b',c'⟩:=t
        dsimp only
        by_cases hp:c'≤power' a0.size (2*a+b) (2*a+b+b+(min (a0.size - lo) (minRun' a0.size a0.size 0))) a0.size
        ·refine au hp ?_
         exact Dr ⟨rfl,Iw,kw⟩
        ·refine av hp ?_
         refine Dk (fN hO h0 Iw (by omega) fun stq Iq _ k2=>?_)
         simp only [GE,DF,Eu]
         exact Dr ⟨rfl,Iq,fun k hk=>(k2 k hk).trans (kw k hk)⟩
      ·rw [if_neg hz]
       exact Dr ⟨rfl,Iw,kw⟩
     case post1 =>
      rintro c st3' ⟨rfl,Iw,kw⟩
      dsimp only
      refine Dk (FS ?_)
      have J2:=Iw.mod (i:=(pendingOf st3').size - 1) (f:=fun t=>(t.1,t.2.1,power' a0.size (2*a+b) (2*a+b+b+(min (a0.size - lo) (minRun' a0.size a0.size 0))) a0.size)) fun t=>⟨rfl,rfl⟩
      refine Dk (FS (Dr ⟨lo+(min (a0.size - lo) (minRun' a0.size a0.size 0)),rfl,by omega,M2,J2.push M1 (by rw [J2.pm.size_eq];exact M2) fun i j hi hij hj=>?_⟩))
      show κ.kle (KK κ (arrOf st3') i) (KK κ (arrOf st3') j)
      rw [KK_congr (kw i (by omega)),KK_congr (kw j (by omega))]
      exact S3 i j hi hij hj
   ·refine av hm ?_
    have M1:1≤n:=by omega
    have M2:lo+n≤a0.size:=by omega
    have IX:=I2
    have S3:=s2
    refine Dk (GO ?_)
    cases (pendingOf st2).back? with
    | none=>exact Dk (FS (Dr ⟨lo+n,rfl,by omega,M2,IX.push M1 (by rw [IX.pm.size_eq];exact M2) S3⟩))
    | some t =>
     obtain ⟨a,b,c⟩:=t
     dsimp only
     refine Dk (EN (Ec (I:=fun _ c st2'=>c=(none,())∧Iv kd κ a0 st2' lo∧∀ k,lo≤k→(arrOf st2')[k]? = (arrOf st2)[k]?)
      (Q:=fun c st2'=>c=(none,())∧Iv kd κ a0 st2' lo∧∀ k,lo≤k→(arrOf st2')[k]? = (arrOf st2)[k]?) ?step2 (fun _ _ h=>h) ⟨rfl,IX,fun _ _=>rfl⟩) ?post2)
     case step2 =>
      rintro y c st2' _ _ ⟨rfl,Iw,kw⟩
      refine Dk (GO ?_)
      by_cases hz:(pendingOf st2').size > 1
      ·rw [if_pos hz]
       cases e:(pendingOf st2')[(pendingOf st2').size - 2]? with
       | none=>exact Dr ⟨rfl,Iw,kw⟩
       | some t =>
        obtain ⟨a',b',c'⟩:=t
        dsimp only
        by_cases hp:c'≤power' a0.size (2*a+b) (2*a+b+b+n) a0.size
        ·refine au hp ?_
         exact Dr ⟨rfl,Iw,kw⟩
        ·refine av hp ?_
         refine Dk (fN hO h0 Iw (by omega) fun stq Iq _ k2=>?_)
         simp only [GE,DF,Eu]
         exact Dr ⟨rfl,Iq,fun k hk=>(k2 k hk).trans (kw k hk)⟩
      ·rw [if_neg hz]
       exact Dr ⟨rfl,Iw,kw⟩
     case post2 =>
      rintro c st2' ⟨rfl,Iw,kw⟩
      dsimp only
      refine Dk (FS ?_)
      have J2:=Iw.mod (i:=(pendingOf st2').size - 1) (f:=fun t=>(t.1,t.2.1,power' a0.size (2*a+b) (2*a+b+b+n) a0.size)) fun t=>⟨rfl,rfl⟩
      refine Dk (FS (Dr ⟨lo+n,rfl,by omega,M2,J2.push M1 (by rw [J2.pm.size_eq];exact M2) fun i j hi hij hj=>?_⟩))
      show κ.kle (KK κ (arrOf st2') i) (KK κ (arrOf st2') j)
      rw [KK_congr (kw i (by omega)),KK_congr (kw j (by omega))]
      exact S3 i j hi hij hj
 case post =>
  rintro c st' ⟨rfl,I⟩
  dsimp only
  refine Dk (EN (Ec (I:=fun x c st''=>c=(none,())∧Iv kd κ a0 st'' a0.size∧((pendingOf st'').size+x≤a0.size ∨ (pendingOf st'').size≤1))
   (Q:=fun c st''=>c=(none,())∧Iv kd κ a0 st'' a0.size∧(pendingOf st'').size≤1) ?_ ?_ ⟨rfl,I,?_⟩) ?_)
  ·rintro x c st'' _ hx ⟨rfl,I',hp⟩
   refine Dk (GO ?_)
   by_cases h1:(pendingOf st'').size≤1
   ·refine au h1 ?_
    exact Dr ⟨rfl,I',h1⟩
   ·refine av h1 ?_
    refine Dk (fN hO h0 I' (have pick:∀ (b:Bool) (n:Nat),1 < n→(if b=true then n - 2 - 1 else n - 2)+1 < n:=(fun b n hn=>by cases b <;> simp <;> omega);pick _ _ (by omega)) fun st2 I2 z2 _=>?_)
    simp only [GE,DF,Eu]
    exact Dr ⟨rfl,I2,.inl (by omega)⟩
  ·rintro c st'' ⟨rfl,I',hp⟩
   exact ⟨rfl,I',by omega⟩
  ·obtain ⟨rs,T,e,l,p⟩:=I.ex
   have:=p.len
   rw [C9,l] at this
   exact .inl (by omega)
  ·rintro c st'' ⟨rfl,I',hp⟩
   exact Dr (h st'' I'.pm I'.tb.failed (I'.done hp))
end
end Tv
namespace Tv
open PySem PyProof.Rows
variable {κ:KeyKind} {kd:SortKind}
section
variable {prog:Program} {w:World} {A:Around} {E:Value→Shared→Prop} {s:Shared}
theorem sQ {a:Addr}{its:List Value}{m:Nat}{P:Fin→Shared→Prop}(at_:s.heap.get? a=some (seqObj "list" its.toArray m))(g:KeysOf κ (pairsOf its))
  (hO:Lt1 κ prog w A { s with heap:=((s.heap.update a (Obj.mapSeq fun _=>#[])).push (seqObj "tuple" its.toArray 0)).push (seqObj "list" #[] 0) } kd) (one:∀ x y r,its=x::y::r→∀ (Q:SortKind→Shared→Prop),Q kd { s with heap:=((s.heap.update a (Obj.mapSeq fun _=>#[])).push (seqObj "tuple" its.toArray 0)).push (seqObj "list" #[] 0) }→wpAny (model prog w) A (keyKind' (x::y::r).toArray) Q E { s with heap:=((s.heap.update a (Obj.mapSeq fun _=>#[])).push (seqObj "tuple" its.toArray 0)).push (seqObj "list" #[] 0) }) (lim:its.length≤sizeLine)
  (q:∀ st:SortSt,(arrOf st).Perm (pairsOf its)→SortedToK κ (arrOf st) (pairsOf its).size→P (.done (.ret .none)) { s with heap:=sortedHeap s.heap a its ((arrOf st).map (·.2)) }) :
  wpAny (model prog w) A (Builtin.«list.sort» ⟨[.ref a],[]⟩) P E s:=by
 have la:=Do at_
 have lz:its.toArray.size=its.length:=by simp
 rw [list_sort_plain]
 refine C5 (Gv at_ rfl (C5 (Hr at_ rfl ?_ (by rw [lz];exact lim))))
 obtain ⟨n1,at1⟩:∃ n1,(s.heap.update a (Obj.mapSeq fun _=>#[])).get? a=some (seqObj "list" #[] n1):=⟨_,get?_update_seq at_ fun _=>#[]⟩
 refine C5 (seqEpoch_at at1 rfl (C5 (wpAny_newTuple (C5 (GD (FD ?_))))))
 have at2:(((s.heap.update a (Obj.mapSeq fun _=>#[])).push (seqObj "tuple" its.toArray 0)).push (seqObj "list" #[] 0)).get? a=some (seqObj "list" #[] n1) :=
  C6 _ (C6 _ at1)
 show wpAny (model prog w) A _ P E { s with heap:=((s.heap.update a (Obj.mapSeq fun _=>#[])).push (seqObj "tuple" its.toArray 0)).push (seqObj "list" #[] 0) }
 dsimp only
 by_cases two:its.toArray.size < 2
 ·rw [if_pos two,if_pos two]
  refine C5 (Dm ?_)
  rw [StateT.run_pure]
  refine C5 (Dm ?_)
  dsimp only
  have zz:((its.toArray.zip its.toArray).map (·.2)).size≤sizeLine+1:=by
   rw [Array.size_map]
   show (pairsOf its).size≤_
   rw [pairsOf_size]
   omega
  refine C5 (seqEpoch_at at2 rfl (C5 (Hr at2 rfl ?_ (hsz2:=zz))))
  simp only [bne_self_eq_false,DF,Eu]
  refine Dm (q (SortSt.mk' general' (its.toArray.zip its.toArray) #[] 7 none) (HH _) fun i j hij hj=>?_)
  rw [pairsOf_size] at hj
  have:i=j:=by omega
  subst this
  exact Es _
 ·rw [if_neg two,if_neg two]
  obtain ⟨x,y,r,rfl⟩:∃ x y r,its=x::y::r:=by
   match its,lz,two with
   | [],_,t=>exact absurd (by simp) t
   | [_],_,t=>exact absurd (by simp) t
   | x::y::r,_,_=>exact ⟨x,y,r,rfl⟩
  refine C5 (one _ _ _ rfl _ (C5 (Ep (sP (κ:=κ) hO (a0:=pairsOf (x::y::r)) (st:=SortSt.mk' kd ((x::y::r).toArray.zip (x::y::r).toArray) #[] 7 none)
   (Q:=fun _ st=>(arrOf st).Perm (pairsOf (x::y::r))∧failedOf st=none∧SortedToK κ (arrOf st) (pairsOf (x::y::r)).size) g ⟨HH _,rfl,rfl,rfl⟩ fun st c1 c2 c3=>⟨c1,c2,c3⟩) ?_ fun _ _ e=>e)))
  rintro ⟨⟨⟩,st⟩ s2 ⟨rfl,c1,c2,c3⟩
  dsimp only
  have zz:((arrOf st).map (·.2)).size≤sizeLine+1:=by
   rw [Array.size_map,c1.size_eq,pairsOf_size]
   omega
  refine C5 (seqEpoch_at at2 rfl (C5 (Hr at2 rfl ?_ (hsz2:=zz))))
  rw [c2]
  simp only [bne_self_eq_false,DF,Eu]
  exact Dm (q st c1 c3)
end
end Tv
namespace Ts
open PySem PyProof.Rows
section
variable {κ:KeyKind} {prog:Program} {w:World} {A:Around} {E:Value→Shared→Prop} {s:Shared}
end
def iOf:Value→Int
 | .int x _=>x
 | _=>0
theorem mf:∀ (vs:List Value),(∀ v,v∈vs→∃ x t,v = .int x t)→IntsAre vs (vs.map iOf)
 | [],_=>.nil
 | v::vs,h=>by
  obtain ⟨x,t,rfl⟩:=h v (Dz ..)
  exact .cons x t (mf vs fun u hu=>h u (Dg _ hu))
end Ts
namespace L2
open PySem PySem.Spec PyProof.Rows Wd Ts
section
variable {prog:Program} {w:World} {A:Around} {E:Value→Shared→Prop} {s:Shared}
theorem kh {l:Addr}{vs:List Value}{Q:List Value→Shared→Prop}(hl:s.heap.IsTuple l vs.toArray)
  (h:Q vs { s with heap:=(s.heap.push (seqObj "list" #[] 0)).update s.heap.objs.size (Obj.mapSeq (· ++ vs.toArray)) }) (hsz:vs.length≤sizeLine:=by size_fits) :
  wpAny (model prog w) A (collect (.ref l)) Q E s:=by
 obtain ⟨o,ho,hc,n,hd⟩:=id hl
 unfold collect
 refine C5 (wpAny_runValue (Fy entry_proto_collect' ?_))
 show wpAny _ _ (do again (.builtin "list.__iadd__" ⟨[← newList [],.ref l],[]⟩)) _ _ s
 refine C5 (GD (Dm ⟨FX _ (by decide +kernel),Fy entry_list_iadd' ?_⟩))
 show wpAny _ _ (Builtin.List.listExtendWith (.ref s.heap.objs.size) (.ref l) (.ref s.heap.objs.size)) _ _ { s with heap:=s.heap.push (seqObj "list" #[] 0) }
 unfold Builtin.List.listExtendWith
 have ho':(s.heap.push (seqObj "list" #[] 0)).get? l=some o:=C6 _ ho
 refine C5 (wpAny_typeOf (T:="tuple") ⟨o,ho',hc⟩ ?_)
 have ht:(Value.type "tuple" == Value.type "tuple")=true:=by rfl
 rw [if_pos (by rw [ht];simp)]
 refine C5 (Gv ho' hd ?_)
 refine C5 (Gv (xs:=#[]) (n:=0) (Dv _ rfl) rfl ?_)
 rw [if_neg (by simp)]
 refine C5 (Hr (xs:=#[]) (n:=0) (Dv _ rfl) rfl ?_ (D2 _) (by show (#[]++vs.toArray).size≤sizeLine+1;simp only [Array.size_append,DA,D8];omega))
 refine Dm ?_
 show wpAny (model prog w) A (do
   let o ← load s.heap.objs.size
   match o.data with
   | .seq xs _=>pure xs.toList
   | _=>unsupported "internal:collect") Q E { s with heap:=(s.heap.push (seqObj "list" #[] 0)).update s.heap.objs.size (Obj.mapSeq (· ++ vs.toArray)) }
 refine C5 (wpAny_load (get?_update_seq (Dv _ rfl) _) ?_)
 show wpAny _ _ (pure ((#[]:Array Value)++vs.toArray).toList) Q E _
 rw [show ((#[]:Array Value)++vs.toArray).toList=vs by simp]
 exact Dm h
end
section
variable {X:Cx}
end
end L2
namespace Tv
open PySem PyProof.Rows
def Pq (h:Heap)(v:Value)(i j:Int):Prop:=∃ (a:Addr) (o:Obj) (t u:Tok) (n:Nat),v = .ref a∧h.get? a=some o∧o.cls = .type "tuple"∧o.data = .seq #[.int i t,.int j u] n
inductive Kn where
 | i
 | s
 | p
def Kn.R:Kn→Heap→Value→List Int→Prop
 | .i,_,v,a=>∃ i t,v = .int i t∧a=[i]
 | .s,_,v,a=>∃ (x:Str) (t:Tok),v = .str x t∧a=x.cps.toList.map Int.ofNat
 | .p,h,v,a=>∃ i j,Pq h v i j∧a=[i,j]
theorem qe {x y:List Nat}(h:x.map Int.ofNat=y.map Int.ofNat):x=y:=(List.map_inj_right (fun _ _ e=>HW e)).mp h
theorem Kn.one {k:Kn}{h:Heap}{v:Value}{a b:List Int}(x:k.R h v a)(y:k.R h v b):a=b:=by
 cases k with
 | i =>
  obtain ⟨i,t,rfl,rfl⟩:=x
  obtain ⟨j,u,e,rfl⟩:=y
  cases e
  rfl
 | s =>
  obtain ⟨i,t,rfl,rfl⟩:=x
  obtain ⟨j,u,e,rfl⟩:=y
  cases e
  rfl
 | p =>
  obtain ⟨i,j,⟨c,o,t,u,n,rfl,e,_,d⟩,rfl⟩:=x
  obtain ⟨k,l,⟨c',o',t',u',n',e0,e',_,d'⟩,rfl⟩:=y
  cases e0
  rw [e] at e'
  cases e'
  rw [d] at d'
  injection d' with d1 _
  have d1:=DH Array.toList d1
  simp only [HF,Value.int.injEq,and_true] at d1
  rw [d1.1.1,d1.2.1]
structure m_ (prog:Program) (w:World) (A:Around) (k:Kn):Prop where
 eq:∀ {s:Shared} {E:Value→Shared→Prop} {v u:Value} {a b:List Int} {Q:Bool→Shared→Prop},k.R s.heap v a→k.R s.heap u b→Q (decide (a=b)) s→wpAny (model prog w) A (eqBool v u) Q E s
 lt:∀ {s:Shared} {E:Value→Shared→Prop} {c:Bool} {v u:Value} {a b:List Int} {Q:Bool→Shared→Prop},(c=true→k ≠ .p)→k.R s.heap v a→k.R s.heap u b→a≠b→Q (decide (a < b)) s→wpAny (model prog w) A (oneLt' c v u) Q E s
section
variable {prog:Program} {w:World} {A:Around} {E:Value→Shared→Prop} {s:Shared}
theorem CN:m_ prog w A .i:=by
 refine ⟨fun {s E v u a b Q} x y q=>?_,fun {s E c v u a b Q} _ x y ne q=>?_⟩
 ·obtain ⟨i,t,rfl,rfl⟩:=x
  obtain ⟨j,t',rfl,rfl⟩:=y
  refine wpAny_eqBool_int ?_
  have:decide ([i]=[j])=(i == j):=by rw [DT];simp
  rwa [this] at q
 ·obtain ⟨i,t,rfl,rfl⟩:=x
  obtain ⟨j,t',rfl,rfl⟩:=y
  have:decide ([i] < [j])=decide (i < j):=by
   rw [DT,Dl,Dl,EH]
   exact ⟨fun h=>h.elim id fun h=>absurd h.2 (HQ _),.inl⟩
  rw [this] at q
  cases c with
  | true=>exact oneLt_int q
  | false =>
   rw [oneLt'_eq]
   simp only [DF,Eu]
   show wpAny _ _ (compareOp .Lt (.int i t) (.int j t') >>= _) Q E s
   exact C5 (wpAny_lt_int (Ew q))
theorem uy:∀ (x y:List Nat),x.map Int.ofNat < y.map Int.ofNat ↔ x < y
 | [],[]=>by simp
 | [],_::_=>by simp
 | _::_,[]=>by simp
 | a::x,b::y=>by
  rw [DQ,DQ,EH,EH,uy x y]
  constructor
  ·rintro (h | ⟨h,g⟩)
   ·exact .inl (Int.ofNat_lt.mp h)
   ·exact .inr ⟨HW h,g⟩
  ·rintro (h | ⟨h,g⟩)
   ·exact .inl (Int.ofNat_lt.mpr h)
   ·exact .inr ⟨DH _ h,g⟩
theorem CO:m_ prog w A .s:=by
 refine ⟨fun {s E v u a b Q} x y q=>?_,fun {s E c v u a b Q} _ x y ne q=>?_⟩
 ·obtain ⟨x,t,rfl,rfl⟩:=x
  obtain ⟨y,t',rfl,rfl⟩:=y
  refine wpAny_eqBool_str ?_
  have:decide (x.cps.toList.map Int.ofNat=y.cps.toList.map Int.ofNat)=decide (x=y):=by
   rw [DT,Dl,Dl]
   refine ⟨fun h=>?_,fun h=>by rw [h]⟩
   have:=Array.toList_inj.mp (qe h)
   cases x;cases y;simp_all
  rwa [this] at q
 ·obtain ⟨x,t,rfl,rfl⟩:=x
  obtain ⟨y,t',rfl,rfl⟩:=y
  have:decide (x.cps.toList.map Int.ofNat < y.cps.toList.map Int.ofNat)=decide (x.cps.toList < y.cps.toList):=by
   rw [DT,Dl,Dl,uy]
  rw [this] at q
  cases c with
  | true=>exact oneLt_str q
  | false =>
   rw [oneLt'_eq]
   simp only [DF,Eu]
   show wpAny _ _ (compareOp .Lt (.str x t) (.str y t') >>= _) Q E s
   exact C5 (PyProof.Rows.lt_str (Ew q))
end
inductive FlR (h:Heap):List Kn→List Value→List (List Int)→Prop
 | nil:FlR h [] [] []
 | cons {k:Kn} {ks:List Kn} {v:Value} {vs:List Value} {a:List Int} {as:List (List Int)} (x:k.R h v a) (r:FlR h ks vs as):FlR h (k::ks) (v::vs) (a::as)
theorem FlR.one {h:Heap}{ks:List Kn}{vs:List Value}{as:List (List Int)}(x:FlR h ks vs as):∀ {bs:List (List Int)},FlR h ks vs bs→as=bs:=by
 induction x with
 | nil=>intro bs y;cases y;rfl
 | cons x r ih=>intro bs y;cases y with | cons y q=>rw [Kn.one x y,ih q]
theorem FlR.len {h:Heap}{ks:List Kn}{vs us:List Value}{as bs:List (List Int)}(x:FlR h ks vs as):FlR h ks us bs→vs.length=us.length:=by
 induction x generalizing us bs with
 | nil=>intro y;cases y;rfl
 | cons x r ih=>intro y;cases y with | cons y q=>rw [Ds,Ds,ih q]
theorem FlR.stay {h h':Heap}(k:∀ b o,h.get? b=some o→o.cls = .type "tuple"→h'.get? b=some o){ks:List Kn}{vs:List Value}{as:List (List Int)}(x:FlR h ks vs as):FlR h' ks vs as:=by
 induction x with
 | nil=>exact .nil
 | @cons kn ks v vs a as x r ih =>
  refine .cons ?_ ih
  cases kn with
  | i=>exact x
  | s=>exact x
  | p =>
   obtain ⟨i,j,⟨c,o,t,u,n,e0,e,hc,d⟩,ea⟩:=x
   exact ⟨i,j,⟨c,o,t,u,n,e0,k _ _ e hc,hc,d⟩,ea⟩
abbrev c8:=List (List Int)
def Kd (f:Kn)(sh:List Int→List Kn)(h:Heap)(v:Value)(k:c8):Prop:=∃ (a:Addr) (o:Obj) (vs:List Value) (n:Nat),v = .ref a∧h.get? a=some o∧o.cls = .type "tuple"∧o.data = .seq vs.toArray n∧FlR h (f::sh (k.headD [])) vs k
theorem Kd.one {f:Kn}{sh:List Int→List Kn}{h:Heap}{v:Value}{k l:c8}(x:Kd f sh h v k)(y:Kd f sh h v l):k=l:=by
 obtain ⟨a,o,vs,n,rfl,e,_,d,g⟩:=x
 obtain ⟨a',o',vs',n',e0,e',_,d',g'⟩:=y
 cases e0
 rw [e] at e'
 cases e'
 rw [d] at d'
 injection d' with d1 _
 have d1:=DH Array.toList d1
 simp only at d1
 subst d1
 cases g with
 | cons x r =>
  cases g' with
  | cons y q =>
   have e1:=Kn.one x y
   subst e1
   exact DH _ (FlR.one r q)
open Classical in
def xG (f:Kn)(sh:List Int→List Kn)(h:Heap)(v:Value):Option c8:=if hx:∃ p:c8,Kd f sh h v p then some (Classical.choose hx) else none
theorem Kd.of {f:Kn}{sh:List Int→List Kn}{h:Heap}{v:Value}{k:c8}(x:Kd f sh h v k):xG f sh h v=some k:=by
 unfold xG
 rw [dif_pos ⟨k,x⟩]
 exact DH some ((Classical.choose_spec (⟨k,x⟩:∃ p:c8,Kd f sh h v p)).one x)
theorem Kd.is {f:Kn}{sh:List Int→List Kn}{h:Heap}{v:Value}{k:c8}(e:xG f sh h v=some k):Kd f sh h v k:=by
 unfold xG at e
 split at e
 ·rename_i hx
  cases e
  exact Classical.choose_spec hx
 ·cases e
theorem Kd.stay {f:Kn}{sh:List Int→List Kn}{h h':Heap}{v:Value}{k:c8}(kp:∀ b o,h.get? b=some o→o.cls = .type "tuple"→h'.get? b=some o)(x:Kd f sh h v k):Kd f sh h' v k:=by
 obtain ⟨a,o,vs,n,e0,e,c,d,g⟩:=x
 exact ⟨a,o,vs,n,e0,kp _ _ e c,c,d,g.stay kp⟩
@[reducible] noncomputable def kdK (f:Kn) (sh:List Int→List Kn) (h:Heap):KeyKind where
 α:=c8
 blt a b:=decide (a < b)
 irrefl a:=by simpa using HQ a
 trans a b c h1 h2:=by simp only [Hj] at *;exact List.lt_trans h1 h2
 negTrans a b c h:=by
  simp only [Hj] at *
  by_cases hab:a < b
  ·exact .inl hab
  ·exact .inr (List.lt_of_le_of_lt (HR.mp hab) h)
 total a b h1 h2:=by simp only [Hs] at *;exact List.le_antisymm (HR.mp h2) (HR.mp h1)
 keyOf v:=xG f sh h v
 dflt:=[]
def nc (b:Bool)(L:List ((Value × Value) × Nat))(z:Bool):Sem Bool:=do
 for ((p,q),i) in L do
  if !(← eqBool p q) then return ← oneLt' (b && i == 0) p q
 return z
theorem qf (b:Bool)(x y:Value):keyLt' (tuples' b) x y=(do
  let xs ← Builtin.List.listItems x;let ys ← Builtin.List.listItems y
  nc b (xs.toList.zip ys.toList).zipIdx (decide (xs.size < ys.size))):=rfl
theorem qg (b z:Bool)(p q:Value)(i:Nat)(L:List ((Value × Value) × Nat)):nc b (((p,q),i)::L) z=(eqBool p q >>= fun r=>if r then nc b L z else oneLt' (b && i == 0) p q):=by
 unfold nc
 rw [List.forIn_cons]
 simp only [bind_assoc]
 congr 1
 funext r
 cases r <;> simp
theorem qh {a b:List Int}{as bs:c8}:decide (a::as < b::bs)=if a=b then decide (as < bs) else decide (a < b):=by
 rw [DT,Dl,EH]
 by_cases e:a=b
 ·rw [if_pos e,Dl]
  subst e
  exact ⟨fun h=>h.elim (fun h=>absurd h (HQ _)) fun h=>h.2,fun h=>.inr ⟨rfl,h⟩⟩
 ·rw [if_neg e,Dl]
  exact ⟨fun h=>h.elim id fun h=>absurd h.1 e,.inl⟩
section
variable {prog:Program} {w:World} {A:Around} {E:Value→Shared→Prop} {s:Shared}
theorem Bp {b:Bool}{ks:List Kn}{vs:List Value}{as:c8}(ok:∀ k∈ks,m_ prog w A k)(x:FlR s.heap ks vs as):∀ {us:List Value} {bs:c8} {m:Nat} {Q:Bool→Shared→Prop},(m=0→b=true→∀ k r,ks=k::r→k ≠ .p)→FlR s.heap ks us bs→Q (decide (as < bs)) s→wpAny (model prog w) A (nc b ((vs.zip us).zipIdx m) false) Q E s:=by
 induction x with
 | nil =>
  intro us bs m Q _ y q
  cases y
  exact Dm (by simpa using q)
 | @cons k ks v vs a as x r ih =>
  intro us bs m Q hp y q
  cases y with
  | @cons _ _ u us c bs y r2 =>
  rw [EI,Hx,qg]
  have K:=ok k Dz
  rw [qh] at q
  refine C5 (K.eq x y ?_)
  by_cases e:a=c
  ·rw [C_ e,if_pos rfl]
   rw [if_pos e] at q
   exact ih (fun k hk=>ok k (Dg _ hk)) (fun z=>by omega) r2 q
  ·rw [C7 e,if_neg (by decide)]
   rw [if_neg e] at q
   refine K.lt (fun z=>?_) x y e q
   have z:(b && (m == 0))=true:=z
   rw [EK] at z
   exact hp (by simpa using z.2) z.1 _ _ rfl
theorem Bq {f:Kn}{sh:List Int→List Kn}{b:Bool}{x y:Value}{k l:c8}{Q:Bool→Shared→Prop}(hf:f ≠ .p)(okf:m_ prog w A f)(ok:∀ a,∀ k∈sh a,m_ prog w A k)(hx:Kd f sh s.heap x k)(hy:Kd f sh s.heap y l)(h:Q (decide (k < l)) s) :
  wpAny (model prog w) A (keyLt' (tuples' b) x y) Q E s:=by
 obtain ⟨a,o,vs,n,rfl,e,_,d,g⟩:=hx
 obtain ⟨a',o',us,n',rfl,e',_,d',g'⟩:=hy
 rw [qf]
 refine C5 (Gv e d (C5 (Gv e' d' ?_)))
 cases g with
 | @cons _ _ v vs a as x r =>
 cases g' with
 | @cons _ _ u us c bs y r2 =>
 show wpAny _ _ (nc b ((v::vs).zip (u::us)).zipIdx _) Q E s
 rw [EI,Hx,qg]
 rw [qh] at h
 refine C5 (okf.eq x y ?_)
 by_cases e2:a=c
 ·subst e2
  rw [C_ rfl,if_pos rfl]
  rw [if_pos rfl] at h
  have hz:decide ((v::vs).toArray.size < (u::us).toArray.size)=false:=by
   have:=r.len r2
   simp [this]
  rw [hz]
  exact Bp (ok _) r (fun z=>by omega) r2 h
 ·rw [C7 e2,if_neg (by decide)]
  rw [if_neg e2] at h
  exact okf.lt (fun _=>hf) x y e2 h
theorem qi {α β:Type}{g:α→Sem β}{f:α→β}:∀ {vs:List α} {Q:List β→Shared→Prop},(∀ v∈vs,∀ Q:β→Shared→Prop,Q (f v) s→wpAny (model prog w) A (g v) Q E s)→Q (vs.map f) s→wpAny (model prog w) A (vs.mapM g) Q E s
 | [],Q,_,h=>by rw [List.mapM_nil];exact Dm h
 | v::vs,Q,hg,h=>by
  rw [List.mapM_cons]
  refine C5 (hg v Dz _ (C5 (qi (fun u hu=>hg u (Dg _ hu)) (Dm ?_))))
  exact h
def ng (h:Heap):Value→Option Value:=fun v=>match v with
 | .ref a=>match h.get? a with
  | some o=>match o.data with
   | .seq xs _=>xs[0]?
   | _=>none
  | none=>none
 | _=>none
theorem v8 {f:Kn}{sh:List Int→List Kn}{vs:List Value}(hf:f ≠ .p)(hv:∀ v∈vs,∃ k,Kd f sh s.heap v k)(ne:vs≠[]){Q:SortKind→Shared→Prop}(h:Q (tuples' true) s):wpAny (model prog w) A (keyKind' vs.toArray) Q E s:=by
 rw [keyKind'_eq,List.mapM_toArray]
 show wpAny _ _ ((List.toArray <$> vs.mapM firstOfTuple') >>= _) Q E s
 have hq:∀ v∈vs,∃ a o xs n x c,v = .ref a∧s.heap.get? a=some o∧o.cls = .type "tuple"∧o.data = .seq (x::xs:List Value).toArray n∧ng s.heap v=some x∧f.R s.heap x c:=fun v hv'=>by
  obtain ⟨k,a,o,us,n,rfl,e,hc,d,g⟩:=hv v hv'
  cases g with
  | @cons _ _ x xs c as q r =>
   refine ⟨a,o,xs,n,x,c,rfl,e,hc,d,?_,q⟩
   unfold ng
   dsimp only
   rw [e]
   dsimp only
   rw [d]
   rfl
 refine C5 (wpAny_map (qi (f:=ng s.heap) (fun v hv' Q' q=>?_) ?_))
 ·obtain ⟨a,o,xs,n,x,c,rfl,e,hc,d,ef,_⟩:=hq v hv'
  show wpAny _ _ (typeOf (.ref a) >>= fun ty=>if (ty != Value.type "tuple")=true then pure none else (do let xs ← Builtin.List.listItems (.ref a);pure xs[0]?)) Q' E s
  refine C5 (wpAny_typeOf (T:="tuple") ⟨o,e,hc⟩ ?_)
  have ht:(Value.type "tuple" != Value.type "tuple")=false:=by rfl
  rw [ht]
  simp only [DF,Eu]
  refine C5 (Gv e d (Dm ?_))
  rw [ef] at q
  exact q
 ·have h1:((vs.map (ng s.heap)).toArray.all (·.isSome))=true:=by
   simp only [List.all_toArray,List.all_map,EL]
   intro v hv'
   obtain ⟨_,_,_,_,x,_,_,_,_,_,ef,_⟩:=hq v hv'
   show (ng s.heap v).isSome=true
   rw [ef]
   rfl
  rw [if_pos h1]
  refine C5 (Fp ?_)
  obtain ⟨T,hTn,hT⟩:∃ T:Value,(T != Value.type "tuple")=true∧((vs.map (ng s.heap)).filterMap id).mapM typeOf=pure (((vs.map (ng s.heap)).filterMap id).map fun _=>T):=by
   clear h1 ne hv h
   cases f with
   | p=>exact absurd rfl hf
   | i =>
    refine ⟨.type "int",rfl,mapM_typeOf_ints (ns:=((vs.map (ng s.heap)).filterMap id).map Ts.iOf) ?_⟩
    refine Ts.mf _ fun x hx=>?_
    obtain ⟨y,hy,e⟩:=GZ.mp hx
    obtain ⟨v,hv',rfl⟩:=DN.mp hy
    obtain ⟨_,_,_,_,x',_,_,_,_,_,ef,i,t,rfl,_⟩:=hq v hv'
    rw [ef] at e
    cases e
    exact ⟨i,t,rfl⟩
   | s =>
    refine ⟨.type "str",rfl,?_⟩
    obtain ⟨ns,hI⟩:∃ ns,StrsAre ((vs.map (ng s.heap)).filterMap id) ns:=by
     induction vs with
     | nil=>exact ⟨[],.nil⟩
     | cons v r ih =>
      obtain ⟨_,_,_,_,x',_,_,_,_,_,ef,i,t,rfl,_⟩:=hq v Dz
      obtain ⟨ns,q⟩:=ih fun u hu=>hq u (Dg _ hu)
      refine ⟨i::ns,?_⟩
      rw [DQ,ef]
      exact .cons i t q
    exact mapM_typeOf_strs hI
  have e2:(vs.map (ng s.heap)).toArray.filterMap id=((vs.map (ng s.heap)).filterMap id).toArray:=by simp
  rw [e2,oneTypeOnly'_eq,List.mapM_toArray,hT]
  simp only [map_pure,pure_bind]
  have ne2:(vs.map (ng s.heap)).filterMap id≠[]:=by
   cases vs with
   | nil=>exact absurd rfl ne
   | cons v r =>
    obtain ⟨_,_,_,_,x',_,_,_,_,_,ef,_⟩:=hq v Dz
    rw [DQ,ef]
    simp
  generalize (vs.map (ng s.heap)).filterMap id=fs at ne2
  cases fs with
  | nil=>exact absurd rfl ne2
  | cons x r =>
   have h0:(List.map (fun _=>T) (x::r)).toArray[0]? = some T:=by simp
   have hall:((List.map (fun _=>T) (x::r)).toArray.all fun y=>y == T)=true:=by
    simp only [List.all_toArray,List.all_map,EL]
    intro _ _
    exact EA T
   rw [h0]
   simp only [hall,Fe,pure_bind]
   refine Dm ?_
   rw [show Option.any (fun x=>x != Value.type "tuple") (some T)=true from hTn]
   exact h
end
end Tv
namespace Tv
open PySem PyProof.Rows
def qle (k l:c8):Prop:=¬ l < k
theorem fO {α:Type}:∀ (l:List α),l.zip l=l.map fun x=>(x,x)
 | []=>rfl
 | x::r=>by rw [EI,fO r];rfl
section
variable {prog:Program} {w:World} {A:Around} {E:Value→Shared→Prop} {s:Shared}
end
end Tv
namespace L2
open PySem PySem.Spec PyProof.Rows Wd Tv
section
variable {X:Cx}
theorem d8:∀ {as:List Addr} {us:List Value},aV (as.map V.ref) us→us=as.map Value.ref
 | [],_,.nil=>rfl
 | a::as,_,.cons r t=>by cases r;rw [d8 t];rfl
theorem gJ:∀ (as:List Addr),aV (as.map V.ref) (as.map Value.ref)
 | []=>.nil
 | a::as=>.cons rfl (gJ as)
inductive FlQ (H:Hp):List Kn→List V→c8→Prop
 | nil:FlQ H [] [] []
 | i {ks:List Kn} {xs:List V} {as:c8} (i:Int) (r:FlQ H ks xs as):FlQ H (.i::ks) (.int i::xs) ([i]::as)
 | s {ks:List Kn} {xs:List V} {as:c8} (x:Str) (r:FlQ H ks xs as):FlQ H (.s::ks) (.str x::xs) (x.cps.toList.map Int.ofNat::as)
 | p {ks:List Kn} {xs:List V} {as:c8} {b:Addr} {i j:Int} (p:H b=some (.tup [.int i,.int j])) (r:FlQ H ks xs as):FlQ H (.p::ks) (.ref b::xs) ([i,j]::as)
def KdQ (f:Kn)(sh:List Int→List Kn)(H:Hp)(a:Addr)(k:c8):Prop:=∃ xs,H a=some (.tup xs)∧FlQ H (f::sh (k.headD [])) xs k
theorem zo {pins:List (Addr × Obj)}{σ:St}{H:Hp}{s:Shared}(I:Inv X pins σ H s){ks:List Kn}{xs:List V}{as:c8}(f:FlQ H ks xs as):∀ {us:List Value},aV xs us→FlR s.heap ks us as:=by
 induction f with
 | nil=>intro us r;cases r;exact .nil
 | i i f ih =>
  intro us r
  cases r with
  | cons r1 r2 =>
   obtain ⟨t,rfl⟩:=r1
   exact .cons ⟨i,t,rfl,rfl⟩ (ih r2)
 | s x f ih =>
  intro us r
  cases r with
  | cons r1 r2 =>
   obtain ⟨t,rfl⟩:=r1
   exact .cons ⟨x,t,rfl,rfl⟩ (ih r2)
 | @p ks xs as b i j p f ih =>
  intro us r
  cases r with
  | cons r1 r2 =>
   cases r1
   obtain ⟨its,r,pl,_⟩:=I.tuple (SqT.of p)
   obtain ⟨u1,u2,rfl,⟨t,rfl⟩,⟨u,rfl⟩⟩:=x8 r
   obtain ⟨o,e,c,n,d⟩:=pl
   exact .cons ⟨i,j,⟨b,o,t,u,n,rfl,e,c,d⟩,rfl⟩ (ih r2)
theorem zp {pins:List (Addr × Obj)}{σ:St}{H:Hp}{s:Shared}(I:Inv X pins σ H s){f:Kn}{sh:List Int→List Kn}{a:Addr}{k:c8}(h:KdQ f sh H a k):Kd f sh s.heap (.ref a) k:=by
 obtain ⟨xs,h1,h2⟩:=h
 obtain ⟨its,r,pl,_⟩:=I.tuple (SqT.of h1)
 obtain ⟨o,e,c,n,d⟩:=pl
 exact ⟨a,o,its,n,rfl,e,c,d,zo I h2 r⟩
end
end L2
namespace Tv
open PySem PyProof.Rows
section
variable {prog:Program} {w:World} {A:Around} {E:Value→Shared→Prop} {s:Shared}
theorem sR {f:Kn}{sh:List Int→List Kn}{zs0:List (Addr × c8)}{h:Heap}(hp:∀ z∈zs0,Kd f sh h (.ref z.1) z.2){xs:Array Keyed}(pm:xs.Perm (pairsOf (zs0.map fun z=>Value.ref z.1)))(hs:SortedToK (kdK f sh h) xs (pairsOf (zs0.map fun z=>Value.ref z.1)).size) :
  ∃ zs:List (Addr × c8),zs.Perm zs0∧(xs.map (·.2)).toList=zs.map (fun z=>Value.ref z.1)∧(zs.map (·.2)).Pairwise qle:=by
 have hl:xs.toList.Perm (zs0.map fun z=>(Value.ref z.1,Value.ref z.1)):=by
  have:=E2.mp pm
  rw [pairsOf_toList,fO,D9] at this
  exact this
 obtain ⟨zs,h1,h2⟩:=L2.fL (fun z:Addr × c8=>((Value.ref z.1,Value.ref z.1):Keyed)) hl.symm zs0 rfl
 refine ⟨zs,h1,?_,?_⟩
 ·rw [Array.toList_map,h2,D9]
  rfl
 ·have hz:zs.length=xs.size:=by rw [← C9,h2,C4]
  rw [EF]
  intro i j hi hj hij
  rw [C4] at hi hj
  have q:=hs i j (GY hij) (by rw [← pm.size_eq];omega)
  have key:∀ k (hk:k < zs.length),KK (kdK f sh h) xs k=zs[k].2:=fun k hk=>by
   unfold KK
   have e:xs[k]? = some (Value.ref zs[k].1,Value.ref zs[k].1):=by
    rw [← DY,h2,DG,fu hk]
    rfl
   rw [e]
   show ((xG f sh h (.ref zs[k].1)).getD [])=_
   rw [(hp _ (h1.mem_iff.mp (DZ hk))).of]
   rfl
  rw [key i hi,key j hj] at q
  rw [List.getElem_map,List.getElem_map]
  exact of_decide_eq_false q
theorem uA {f:Kn}{sh:List Int→List Kn}(hf:f ≠ .p)(okf:m_ prog w A f)(ok:∀ a,∀ k∈sh a,m_ prog w A k){a:Addr}{zs0:List (Addr × c8)}{m:Nat}{P:Fin→Shared→Prop}(at_:s.heap.get? a=some (seqObj "list" (zs0.map fun z=>Value.ref z.1).toArray m))(hp:∀ z∈zs0,Kd f sh s.heap (.ref z.1) z.2)(lim:zs0.length≤sizeLine)
  (q:∀ (out:Array Value) (zs:List (Addr × c8)),zs.Perm zs0→out.toList=zs.map (fun z=>Value.ref z.1)→(zs.map (·.2)).Pairwise qle→P (.done (.ret .none)) { s with heap:=sortedHeap s.heap a (zs0.map fun z=>Value.ref z.1) out }) :
  wpAny (model prog w) A (Builtin.«list.sort» ⟨[.ref a],[]⟩) P E s:=by
 have la:=Do at_
 -- the pairs stay while the list is empty
 have stay:∀ z∈zs0,Kd f sh (((s.heap.update a (Obj.mapSeq fun _=>#[])).push (seqObj "tuple" (zs0.map fun z=>Value.ref z.1).toArray 0)).push (seqObj "list" #[] 0)) (.ref z.1) z.2:=fun z hz=>by
  refine Kd.stay (fun b o g c=>?_) (hp z hz)
  have hba:b≠a:=fun x=>by
   subst x
   rw [at_] at g
   rw [← Dp g] at c
   simp [seqObj] at c
  exact C6 _ (C6 _ ((DR _ _ (Ne.symm hba)).trans g))
 refine sQ (κ:=kdK f sh (((s.heap.update a (Obj.mapSeq fun _=>#[])).push (seqObj "tuple" (zs0.map fun z=>Value.ref z.1).toArray 0)).push (seqObj "list" #[] 0))) (kd:=tuples' true) at_ ?_ ?_ ?_ (by rw [C4];exact lim) ?_
 ·intro p hp'
  rw [pairsOf_toList,fO,D9] at hp'
  obtain ⟨z,hz,rfl⟩:=DN.mp hp'
  exact ⟨_,(stay z hz).of⟩
 ·intro E' x y ka kb Q' hx hy hq
  exact Bq hf okf ok (Kd.is hx) (Kd.is hy) hq
 ·intro x y r e Q' hq
  refine v8 (f:=f) (sh:=sh) hf (fun v hv=>?_) (by simp) hq
  rw [← e] at hv
  obtain ⟨z,hz,rfl⟩:=DN.mp hv
  exact ⟨_,stay z hz⟩
 ·intro st c1 c2
  obtain ⟨zs,h1,h2,h3⟩:=sR stay c1 c2
  exact q _ zs h1 h2 h3
theorem qj {f:Kn}{sh:List Int→List Kn}(hf:f ≠ .p)(okf:∀ A':Around,A'.units≤A.units+8→m_ prog w A' f)(ok:∀ A':Around,A'.units≤A.units+8→∀ a,∀ k∈sh a,m_ prog w A' k){l:Addr}{zs0:List (Addr × c8)}{Q:Value→Shared→Prop}(hl:s.heap.IsList l (zs0.map fun z=>Value.ref z.1).toArray ∨ s.heap.IsTuple l (zs0.map fun z=>Value.ref z.1).toArray)(hp:∀ z∈zs0,Kd f sh s.heap (.ref z.1) z.2)(lim:zs0.length≤sizeLine)
  (q:∀ (out:Array Value) (zs:List (Addr × c8)),zs.Perm zs0→out.toList=zs.map (fun z=>Value.ref z.1)→(zs.map (·.2)).Pairwise qle→Q (.ref (s.heap.objs.size+1)) { s with heap:=sortedAll s.heap (zs0.map fun z=>Value.ref z.1) out }) :
  wpAny (model prog w) A (call (.builtin "sorted") [.ref l]) Q E s:=by
 have lim':(zs0.map fun z=>Value.ref z.1).length≤sizeLine:=by rw [C4];exact lim
 refine Calls.call_function_entry kind_sorted plain_sorted entry_sorted (args_sorted1 _) ?_
 unfold Builtin.«sorted»
 rcases hl with hl | hl
 ·refine C5 (m:=checkCount "sorted" 1 1 _) (Dm (C5 (collect_list hl (C5 (GD ?_)) (hsz:=lim'))))
  have z1:((s.heap.push (seqObj "list" #[] 0)).update s.heap.objs.size (Obj.mapSeq (· ++ (zs0.map fun z=>Value.ref z.1).toArray))).objs.size=s.heap.objs.size+1:=(Heap.size_update ..).trans (size_push' ..)
  have g:(((s.heap.push (seqObj "list" #[] 0)).update s.heap.objs.size (Obj.mapSeq (· ++ (zs0.map fun z=>Value.ref z.1).toArray))).push (seqObj "list" (zs0.map fun z=>Value.ref z.1).toArray 0)).get? (s.heap.objs.size+1)=some (seqObj "list" (zs0.map fun z=>Value.ref z.1).toArray 0):=z1 ▸ Dv _ rfl
  have old:∀ b o,s.heap.get? b=some o→(((s.heap.push (seqObj "list" #[] 0)).update s.heap.objs.size (Obj.mapSeq (· ++ (zs0.map fun z=>Value.ref z.1).toArray))).push (seqObj "list" (zs0.map fun z=>Value.ref z.1).toArray 0)).get? b=some o:=fun b o e =>
   C6 _ ((DR _ _ (HC (Do e))).trans (C6 _ e))
  show wpAny _ _ _ _ _ { s with heap:=((s.heap.push (seqObj "list" #[] 0)).update s.heap.objs.size (Obj.mapSeq (· ++ (zs0.map fun z=>Value.ref z.1).toArray))).push (seqObj "list" (zs0.map fun z=>Value.ref z.1).toArray 0) }
  rw [z1]
  refine C5 (FD (FN slot_list_sort ⟨_,g,rfl⟩ entry_list_sort (uA (f:=f) (sh:=sh) hf (okf _ (by show A.units+1+1≤_;omega)) (ok _ (by show A.units+1+1≤_;omega)) (zs0:=zs0) g (fun z hz=>(hp z hz).stay fun b o e _=>old b o e) lim fun out zs h1 h2 h3=>⟨_,rfl,?_⟩) (args_list_sort _)))
  exact Dm ⟨_,rfl,q _ zs h1 h2 h3⟩
 ·refine C5 (m:=checkCount "sorted" 1 1 _) (Dm (C5 (L2.kh hl (C5 (GD ?_)) (hsz:=lim'))))
  have z1:((s.heap.push (seqObj "list" #[] 0)).update s.heap.objs.size (Obj.mapSeq (· ++ (zs0.map fun z=>Value.ref z.1).toArray))).objs.size=s.heap.objs.size+1:=(Heap.size_update ..).trans (size_push' ..)
  have g:(((s.heap.push (seqObj "list" #[] 0)).update s.heap.objs.size (Obj.mapSeq (· ++ (zs0.map fun z=>Value.ref z.1).toArray))).push (seqObj "list" (zs0.map fun z=>Value.ref z.1).toArray 0)).get? (s.heap.objs.size+1)=some (seqObj "list" (zs0.map fun z=>Value.ref z.1).toArray 0):=z1 ▸ Dv _ rfl
  have old:∀ b o,s.heap.get? b=some o→(((s.heap.push (seqObj "list" #[] 0)).update s.heap.objs.size (Obj.mapSeq (· ++ (zs0.map fun z=>Value.ref z.1).toArray))).push (seqObj "list" (zs0.map fun z=>Value.ref z.1).toArray 0)).get? b=some o:=fun b o e =>
   C6 _ ((DR _ _ (HC (Do e))).trans (C6 _ e))
  show wpAny _ _ _ _ _ { s with heap:=((s.heap.push (seqObj "list" #[] 0)).update s.heap.objs.size (Obj.mapSeq (· ++ (zs0.map fun z=>Value.ref z.1).toArray))).push (seqObj "list" (zs0.map fun z=>Value.ref z.1).toArray 0) }
  rw [z1]
  refine C5 (FD (FN slot_list_sort ⟨_,g,rfl⟩ entry_list_sort (uA (f:=f) (sh:=sh) hf (okf _ (by show A.units+1+1≤_;omega)) (ok _ (by show A.units+1+1≤_;omega)) (zs0:=zs0) g (fun z hz=>(hp z hz).stay fun b o e _=>old b o e) lim fun out zs h1 h2 h3=>⟨_,rfl,?_⟩) (args_list_sort _)))
  exact Dm ⟨_,rfl,q _ zs h1 h2 h3⟩
end
end Tv
namespace L2
open PySem PySem.Spec PyProof.Rows Wd Tv
section
variable {X:Cx}
inductive bP (f:Kn)(sh:List Int→List Kn)(K:PySem.W.Frag)(xs:List V)(H:Hp)(Q:VK):Prop
 | mk:∀ (l:Addr) (zs0:List (Addr × c8)),(xs=[.ref l])→(SqL K H l ((zs0.map (·.1)).map V.ref) ∨ SqT K H l ((zs0.map (·.1)).map V.ref))→(∀ z∈zs0,KdQ f sh H z.1 z.2) →
   (∀ (p:Addr) (zs:List (Addr × c8)),H p=none→zs.Perm zs0→(zs.map (·.2)).Pairwise qle→Q (.ref p) (upd H p (.lst ((zs.map (·.1)).map V.ref))))→bP f sh K xs H Q
theorem iL {f:Kn}{sh:List Int→List Kn}{K:PySem.W.Frag}(hf:f ≠ .p)(okf:∀ A:Around,A.units≤X.A.units+8→m_ X.prog X.w A f)(ok:∀ A:Around,A.units≤X.A.units+8→∀ a,∀ k∈sh a,m_ X.prog X.w A k)(hK:X.K=K):c_ X (.builtin "sorted") (bP f sh K):=by
 subst hK
 intro pins s σ H xs us Q I r h
 obtain ⟨l,zs0,rfl,hq,hp,q⟩:=h
 obtain ⟨u,rfl,ru⟩:=cT r
 cases ru
 have em:∀ zs:List (Addr × c8),(zs.map (·.1)).map Value.ref=zs.map fun z=>Value.ref z.1:=fun zs=>by rw [D9];rfl
 obtain ⟨pl,hz⟩:(s.heap.IsList l (zs0.map fun z=>Value.ref z.1).toArray ∨ s.heap.IsTuple l (zs0.map fun z=>Value.ref z.1).toArray)∧((zs0.map (·.1)).map V.ref).length≤sizeLine:=by
  rcases hq with hq | hq
  ·obtain ⟨its,rv,pl,hz⟩:=I.list hq
   rw [d8 rv,em] at pl
   exact ⟨.inl pl.isList,hz⟩
  ·obtain ⟨its,rv,pl,hz⟩:=I.tuple hq
   rw [d8 rv,em] at pl
   exact ⟨.inr pl,hz⟩
 rw [C4,C4] at hz
 refine qj hf okf ok pl (fun z hz'=>zp I (hp z hz')) hz fun out zs h1 h2 h3=>?_
 obtain ⟨e,he⟩:=sortedAll_at s.heap (zs0.map fun z=>Value.ref z.1) out
 have I2:InvW X pins σ (upd H (s.heap.objs.size+1) (.lst ((zs.map (·.1)).map V.ref))) { s with heap:=sortedAll s.heap (zs0.map fun z=>Value.ref z.1) out,toks:=s.toks } :=
  I.laid (fun b o e=>sortedAll_old e) (FP _) ⟨by rw [C4,C4,h1.length_eq];exact hz,out.toList,e,by rw [h2,← em];exact gJ _,by simpa [seqObj] using he⟩
 exact ⟨.ref (s.heap.objs.size+1),_,I2,rfl,q _ zs (I.hok.fresh (FP _)) h1 h3⟩
end
end L2
namespace Tv
open PySem PyProof.Rows
theorem CP {prog:Program}{w:World}{A:Around}(hu:A.units+8 < cLine):m_ prog w A .p:=by
 refine ⟨fun {s E v u a b Q} x y q=>?_,fun {s E c v u a b Q} hc x y ne q=>?_⟩
 ·obtain ⟨i,j,⟨a,o,t,t',n,rfl,e,hc,d⟩,rfl⟩:=x
  obtain ⟨k,l,⟨a2,o2,t2,t2',n2,rfl,e2,hc2,d2⟩,rfl⟩:=y
  have rd:∀ {a:Addr} {o:Obj} {t t':Tok} {n:Nat} {i j:Int},s.heap.get? a=some o→o.cls = .type "tuple"→o.data = .seq #[.int i t,.int j t'] n→Reads s.heap (.ref a) (.tuple [.int i,.int j]) []:=fun g1 g2 g3=>.tuple g1 g2 g3 (.cons (as:=[]) (bs:=[]) (.int _ _) (.cons (as:=[]) (bs:=[]) (.int _ _) .nil))
  refine SeqAt.eqAt_reads _ _ A s _ _ _ _ (rd e hc d) (rd e2 hc2 d2) rfl rfl (by show A.units+min 1 1 < cLine;omega) prog w E _ ?_
  have eq:PyData.eqv (.tuple [.int i,.int j]) (.tuple [.int k,.int l])=((i == k) && ((j == l) && true)):=rfl
  rw [eq]
  have:decide ([i,j]=[k,l])=((i == k) && ((j == l) && true)):=by
   rw [DT]
   simp
  rwa [this] at q
 ·obtain ⟨i,j,⟨a,o,t,t',n,rfl,e,hc1,d⟩,rfl⟩:=x
  obtain ⟨k,l,⟨a2,o2,t2,t2',n2,rfl,e2,hc2,d2⟩,rfl⟩:=y
  have hb:c=false:=by
   cases c with
   | true=>exact absurd rfl (hc rfl)
   | false=>rfl
  rw [hb,oneLt'_eq]
  simp only [DF,Eu]
  refine C5 (HT.gh ⟨o,e,hc1,n,d⟩ ⟨o2,e2,hc2,n2,d2⟩ (.cons _ _ (.cons _ _ .nil)) (.cons _ _ (.cons _ _ .nil)) (by omega) (Ew ?_))
  have:HT.bC [i,j] [k,l]=decide ([i,j] < [k,l]):=by
   rw [DT,Dl,EH,EH,HT.bF,HT.bF]
   by_cases c1:i=k
   ·have c2:¬ j=l:=fun z=>ne (by rw [c1,z])
    rw [if_pos c1,if_neg c2,Dl]
    exact ⟨fun h=>.inr ⟨c1,.inl h⟩,fun h=>h.elim (fun h=>by omega) fun h=>h.2.elim id fun h=>absurd h.1 c2⟩
   ·rw [if_neg c1,Dl]
    exact ⟨.inl,fun h=>h.elim id fun h=>absurd h.1 c1⟩
  rw [this]
  exact q
theorem uB {prog:Program}{w:World}{A:Around}(hu:A.units+8 < cLine):∀ k,m_ prog w A k
 | .i=>CN
 | .s=>CO
 | .p=>CP hu
end Tv
namespace L2
open PySem PySem.Spec PyProof.Rows Wd Tv
theorem fX {X:Cx}{f:Kn}{sh:List Int→List Kn}{K:PySem.W.Frag}(hf:f ≠ .p)(hu:X.A.units+64 < cLine)(hK:X.K=K):c_ X (.builtin "sorted") (bP f sh K):=iL hf (fun A h=>uB (by omega) f) (fun A h _ k _=>uB (by omega) k) hK
end L2
namespace L2
open PySem PySem.Spec PyProof.Rows
section
variable {X:Cx}
open Classical in
end
end L2
namespace HT
open PySem PyProof.Rows
theorem sS (A:Around)(s:Shared)(a:Int)(t:Tok)(c:Int)(u:Tok)(prog:Program)(w:World)(E:Value→Shared→Prop)(Q:Value→Shared→Prop)(h:Q (.bool (decide (c < a))) s) :
  wpAny (model prog w) A (richCompare .Gt (.int a t) (.int c u)) Q E s :=
 (PyProof.Rows.gt_int (by exact h):wpAny (model prog w) A (compareOp .Gt (.int a t) (.int c u)) Q E s)
section
open PySem.SeqAt
open PySem.AutoSeq1 (wpAny_loadPart')
open PySem.MeetsSeq PySem.MeetsSeq2 PySem.MeetsSeq3
theorem iM (l b:Addr)(items items2:Array Value)(n n2:Nat)(dd dd2:Option Addr)(sl sl2:Array (Option Value))(ns ms:List Int)(hi:IntsAre items.toList ns)(hj:IntsAre items2.toList ms) :
  Meets (Builtin.«tuple.__gt__» ⟨[.ref l,.ref b],[]⟩)
   (fun _ R s=>s.heap.get? l=some { cls:=.type "tuple",dict:=dd,data:=.seq items n,slots:=sl }∧s.heap.get? b=some { cls:=.type "tuple",dict:=dd2,data:=.seq items2 n2,slots:=sl2 } ∧
    R (.ok (.ret (.bool (bC ms ns)))) s) :=
 .of_wp fun prog w A R s h=>by
  obtain ⟨hp,g,d,tk,os⟩:=s;obtain ⟨hl,hb,h⟩:=h
  have f2:=He
  have z1:items.size=ns.length:=by rw [← hi.length];simp
  have z2:items2.size=ms.length:=by rw [← hj.length];simp
  wp_walk using wpAny_loadPart' hl,wpAny_loadPart' hb,wpAny_forIn_list _ (fun rest b s'=>b.1=none∧s'=⟨hp,g,d,tk,os⟩∧∃ (vs ws:List Value) (ns' ms':List Int),rest=vs.zip ws ∧
   IntsAre vs ns'∧IntsAre ws ms'∧ns'.length+items2.size=ms'.length+items.size∧R (.ok (.ret (.bool (bC ms' ns')))) ⟨hp,g,d,tk,os⟩) _
  case turn =>
   rintro ⟨y,x⟩ rest b s' ⟨hb',rfl,vs,ws,ns',ms',hz,hvi,hwi,hlen,hR⟩
   cases hvi with
   | nil=>rw [List.zip_nil_left] at hz;cases hz
   | cons a t hvi' =>
    cases hwi with
    | nil=>rw [List.zip_nil_right] at hz;cases hz
    | cons c u hwi' =>
     rw [EI] at hz
     injection hz with hyx hrest
     injection hyx with hy hx
     subst hy hx
     rw [bF] at hR
     simp only [Ds] at hlen
     obtain ⟨e,he,hiff⟩:=kQ A.in1 ⟨hp,g,d,tk,os⟩ a t c u
     refine C5 (he prog w _ _ ?_)
     cases e with
     | true =>
      rw [if_pos (hiff.mp rfl).symm] at hR
      wp_walk
      exact ⟨rfl,rfl,_,_,_,_,hrest,hvi',hwi',by omega,hR⟩
     | false =>
      rw [if_neg (fun q=>absurd (hiff.mpr q.symm) Dy)] at hR
      have hri:=sS A.in1 ⟨hp,g,d,tk,os⟩ a t c u prog w
      wp_walk using hri
      exact ⟨_,rfl,by simpa using hR⟩
  case fin =>
   rintro ⟨b1,b2⟩ s' ⟨hb',rfl,vs,ws,ns',ms',hz,hvi,hwi,hlen,hR⟩
   simp only at hb'
   subst hb'
   have hv:bC ms' ns'=decide (items2.size < items.size):=by
    cases hvi with
    | nil =>
     cases hwi with
     | nil =>
      simp only [D8] at hlen
      rw [b_]
      exact (C7 (by omega)).symm
     | cons c u hw =>
      simp only [D8,Ds] at hlen
      rw [cY]
      exact (C7 (by omega)).symm
    | cons a t hv =>
     cases hwi with
     | nil =>
      simp only [D8,Ds] at hlen
      rw [cX]
      exact (C_ (by omega)).symm
     | cons c u hw =>
      rw [EI] at hz
      cases hz
   rw [hv] at hR
   wp_walk
   exact ⟨_,rfl,by simpa [Builtin.Tuple.tupleCompareSizes] using hR⟩
  case h =>
   exact ⟨rfl,rfl,items.toList,items2.toList,ns,ms,rfl,hi,hj,by omega,h⟩
end
section
variable {prog:Program} {w:World} {A:Around} {E:Value→Shared→Prop} {s:Shared}
theorem nh {l b:Addr}{items items2:Array Value}{ns ms:List Int}{Q:Value→Shared→Prop}(hl:IsTup s.heap l items)(hb:IsTup s.heap b items2)(hi:IntsAre items.toList ns)(hj:IntsAre items2.toList ms)
  (hu:A.units < cLine) (h:Q (.bool (bC ms ns)) s):wpAny (model prog w) A (richCompare .Gt (.ref l) (.ref b)) Q E s:=by
 obtain ⟨⟨cls,dd,data,sl⟩,ho,hc,n,hd⟩:=id hl
 obtain ⟨⟨cls2,dd2,data2,sl2⟩,ho2,hc2,n2,hd2⟩:=id hb
 simp only at hc hd hc2 hd2
 subst hc hd hc2 hd2
 exact richCompare_meets_room (op:=.Gt) ⟨_,ho,rfl⟩ ⟨_,ho2,rfl⟩ PySem.F.slot_tuple_gt PySem.F.entry_tuple_gt (PySem.F.args_tuple_gt_2 _ _) (iM l b items items2 n n2 dd dd2 sl sl2 ns ms hi hj)
  ⟨ho,ho2,show Value.bool (bC ms ns)≠Value.notImplemented∧Q (.bool (bC ms ns)) s from ⟨(fun x=>nomatch x),h⟩⟩ hu
end
end HT
namespace L2
open PySem PySem.Spec PyProof.Rows
section
variable {X:Cx}
end
end L2
namespace PySem
open Sem (wp)
section
variable {K:Type} [DecidableEq K] {prog:Program} {w:World} {knd:KeyKind prog w K} {A:Around} {E:Value→Shared→Prop} {s:Shared}
set_option maxHeartbeats 3200000 in
theorem nj (dd:Nat→List K){z:Str}{zt:Tok}{val:Nat→K}{Q:Value→Shared→Prop}(hh:A.handled=none)(hl:z.cps.all (· < 128)=true)(d0:dd 0=[])(d1:∀ i,val i∈dd i→dd (i+1)=dd i)(d2:∀ i,val i∉dd i→dd (i+1)=dd i++[val i])(dl:∀ i,(dd i).length≤i)(hval:∀ (i:Nat) (v:Value),(∃ c u,z.cps[i]? = some c∧v = .str ⟨#[c]⟩ u)→knd.is (val i) v=true∧v.scannable=true)(hb:z.cps.size+1 < scanBound)
  (h:∀ (h':Heap) (tk:Nat),m9 knd h' s.heap.objs.size (dd z.cps.size)→(∀ b o,b < s.heap.objs.size→s.heap.get? b=some o→h'.get? b=some o)→Q (.ref s.heap.objs.size) { s with heap:=h',toks:=tk }) :
  wpAny (model prog w) A (call (.type "set") [.str z zt]) Q E s:=by
 obtain ⟨c,tl,hmro⟩:=F.called_set.mro
 have hmade:=F.called_set.made
 have hsub:=F.called_set.sub
 refine Hd (HG ?_)
 show wpAny _ _ (callAny (.type "set") _) _ _ _
 refine Dm ⟨FX _ (by decide +kernel),Fy F.entry_type_call ?_⟩
 rw [Around.under_plain (weight_type_call_type "set" [.str z zt] []) rfl]
 have x1:=F.called_set.notType
 have x2:=F.called_set.canCreate
 have x3:=F.typeCall_set_1 (.str z zt)
 repeat (any_goals (first | assumption | wp_step))
 refine FQ (iH (.str z zt) (E:=E) (Q₁:=fun ob s1=>ob = .ref s.heap.objs.size∧s1={ s with heap:=s.heap.push (sob (ldr w)) }) ⟨rfl,rfl⟩) fun r s1 hr=>?_
 cases r with
 | error e=>exact hr
 | ok fl =>
  cases fl with
  | ret ob =>
   obtain ⟨rfl,rfl⟩:=hr
   have gS:(s.heap.push (sob (ldr w))).get? s.heap.objs.size=some (sob (ldr w)):=Dv _ rfl
   have hT:Shared.TypeIs { s with heap:=s.heap.push (sob (ldr w)) } (.ref s.heap.objs.size) "set":=⟨_,gS,rfl⟩
   have x4:=F.called_set.init.lookup
   have x5:=F.called_set.init.bind (.ref s.heap.objs.size)
   repeat (any_goals (first | assumption | wp_step))
   refine FQ (GA (R:=wants (fun r s2=>r = .none∧∃ h' tk,s2={ s with heap:=h',toks:=tk }∧m9 knd h' s.heap.objs.size (dd z.cps.size)∧(∀ b o,b < s.heap.objs.size→s.heap.get? b=some o→h'.get? b=some o)) E) F.called_set.init.plain F.entry_set_init (check_set_init_1 hT ?_)) fun r2 s2 hr2=>?_
   ·have y1:=F.sub_str_set
    have y2:=F.sub_str_frozenset
    have y3:(Value.type "str" == Value.type "dict")=false:=by decide
    unfold Builtin.«set.__init__» noKeywords Builtin.Frozenset.updateFrom
    generalize hPI:pyIter=PI
    wp_walk
    subst hPI
    refine G6 hl (C5 (wpAny_runValue ?_))
    have z1:(s.heap.push (sob (ldr w))).objs.size=s.heap.objs.size+1:=FJ ..
    have nf:s.heap.objs.size∉[(s.heap.push (sob (ldr w))).objs.size]:=by
     rw [z1];simp only [De]
     exact D5 (Fm _)
    refine Bl dd ((HM (by simp [hh]) _ z zt).toS) s.heap.objs.size nf val d1 d2 dl hval hb (z.cps.size - 0) 0 _ (by omega) (D2 _) ⟨_,Dv _ rfl,rfl,rfl⟩ ?s0 ?rr
    case s0=>exact ⟨_,#[],0,_,C6 _ gS,⟨rfl,rfl,rfl⟩,rfl,fun e he=>by simp at he,fun k=>by rw [d0];simp,by decide,by rfl,by rw [d0];rfl,⟨rfl,sM⟩,rfl⟩
    case rr =>
     intro s' mv hS'
     obtain ⟨h',g',d',tk',os'⟩:=s'
     obtain rfl:g'=s.gens:=mv.gens
     obtain rfl:d'=s.drawn:=mv.drawn
     obtain rfl:os'=s.os:=mv.os
     show wpAny _ _ _ _ _ _
     refine Dm ?_
     show wpAny _ _ (ret Value.none) _ _ _
     refine Dm ⟨rfl,h',tk',rfl,hS',fun b o hlt e=>mv.heap b o ?_ (C6 _ (C6 _ e))⟩
     simp only [Dj,De,DS,E8,not_or]
     exact ⟨D5 hlt,by rw [z1];exact D5 (Hk hlt)⟩
   ·cases r2 with
    | error e=>exact hr2
    | ok fl2 =>
     cases fl2 with
     | ret r =>
      obtain ⟨rfl,h',tk,rfl,hS',hk'⟩:=hr2
      repeat (any_goals (first | assumption | wp_step))
      exact h _ _ hS' hk'
     | _=>exact hr2.elim
  | _=>exact hr.elim
end
end PySem
namespace L2
open PySem PySem.Spec PyProof.Rows Wd
section
variable {X:Cx}
inductive dI (P:PySem.Program)(w:PySem.World)(xs:List V)(H:Hp)(Q:VK):Prop
 | mk:∀ (a:Addr) (dl:List Str),(xs=[.ref a])→(H a=some (StO P w a dl))→(Q (.int (dl.length:Int)) H)→dI P w xs H Q
theorem ki:c_ X (.builtin "len") (dI X.prog X.w):=by
 intro pins s σ H xs us Q I r h
 obtain ⟨a,dl,rfl,ha,q⟩:=h
 obtain ⟨u,rfl,ru⟩:=cT r
 cases ru
 have hS:zc X.prog X.w s.heap a dl:=(I.hok a _ ha).1
 obtain ⟨o,es,ep,t,ho,hex,hd,hel,hm,hb,hf,hn,hpl,hld⟩:=hS
 have hb:es.size < 4096:=hb
 refine call_len_set ho hex hd hf (by omega) ?_
 rw [hn]
 exact ⟨.int (dl.length:Int),H,(I.tok _).tok _,⟨_,rfl⟩,q⟩
inductive dM (K:PySem.W.Frag)(xs:List V)(H:Hp)(Q:VK):Prop
 | mk:∀ p i j,(xs=[.ref p])→(SqL K H p [.int i,.int j])→(Q (.int (if j < i then j else i)) H)→dM K xs H Q
theorem kj (hc:X.calm=true):c_ X (.builtin "min") (dM X.K):=by
 intro pins s σ H xs us Q I r h
 obtain ⟨p,i,j,rfl,hq,q⟩:=h
 obtain ⟨u,rfl,ru⟩:=cT r
 cases ru
 obtain ⟨its,rv,pl,_⟩:=I.list hq
 have ht:=pl.isList
 obtain ⟨t,u,rfl⟩:=gv rv
 have hlt:p < s.heap.objs.size:=by obtain ⟨_,e,_⟩:=ht;exact Do e
 refine call_min_walk (Hc ht ?_)
 refine ⟨_,_,_,_,_,_,fun a b=>decide (nAt i j a < nAt i j b),rfl,Walks.list (A:=X.A.in1) (I.ok.hd hc) _ p (D5 hlt) _,⟨⟨_,Dv _ rfl,rfl,rfl⟩,ht.push _⟩,fun b hb=>?_,?_,?_,fun v h' tk hP hk=>?_⟩
 ·show b < (s.heap.push _).objs.size
  rw [FJ]
  rcases Dj.mp hb with e | hb
  ·rw [e];exact Fm _
  ·rw [De.mp hb];exact Hk hlt
 ·exact Nat.zero_lt_succ 1
 ·refine CmpOf.ints_lt (nAt i j) fun a v hv=>?_
  match a,hv with
  | 0,hv=>exact ⟨t,(Dp hv).symm⟩
  | 1,hv=>exact ⟨u,(Dp hv).symm⟩
  | (a+2),hv=>simp at hv
 ·have old:∀ b o,s.heap.get? b=some o→h'.get? b=some o:=fun b o e=>hk b o (fun z=>by rw [De.mp z] at e;exact absurd (Do e) (Ed _)) (C6 _ e)
  have hP:[Value.int i t,Value.int j u].toArray[if decide (j < i)=true then 1 else 0]? = some v:=hP
  by_cases h:j < i
  ·rw [if_pos (C_ h)] at hP
   rw [if_pos h] at q
   exact ⟨.int j,H,I.kept old,⟨u,(Dp hP).symm⟩,q⟩
  ·rw [C7 h] at hP
   rw [if_neg h] at q
   exact ⟨.int i,H,I.kept old,⟨t,(Dp hP).symm⟩,q⟩
inductive dN (K:PySem.W.Frag)(xs:List V)(H:Hp)(Q:VK):Prop
 | mk:∀ p i j,(xs=[.ref p])→(SqL K H p [.int i,.int j])→(Q (.int (if j > i then j else i)) H)→dN K xs H Q
theorem kl (hc:X.calm=true):c_ X (.builtin "max") (dN X.K):=by
 intro pins s σ H xs us Q I r h
 obtain ⟨p,i,j,rfl,hq,q⟩:=h
 obtain ⟨u,rfl,ru⟩:=cT r
 cases ru
 obtain ⟨its,rv,pl,_⟩:=I.list hq
 have ht:=pl.isList
 obtain ⟨t,u,rfl⟩:=gv rv
 have hlt:p < s.heap.objs.size:=by obtain ⟨_,e,_⟩:=ht;exact Do e
 refine call_max_walk (Hc ht ?_)
 refine ⟨_,_,_,_,_,_,fun a b=>decide (nAt i j a > nAt i j b),rfl,Walks.list (A:=X.A.in1) (I.ok.hd hc) _ p (D5 hlt) _,⟨⟨_,Dv _ rfl,rfl,rfl⟩,ht.push _⟩,fun b hb=>?_,?_,?_,fun v h' tk hP hk=>?_⟩
 ·show b < (s.heap.push _).objs.size
  rw [FJ]
  rcases Dj.mp hb with e | hb
  ·rw [e];exact Fm _
  ·rw [De.mp hb];exact Hk hlt
 ·exact Nat.zero_lt_succ 1
 ·refine CmpOf.ints_gt (nAt i j) fun a v hv=>?_
  match a,hv with
  | 0,hv=>exact ⟨t,(Dp hv).symm⟩
  | 1,hv=>exact ⟨u,(Dp hv).symm⟩
  | (a+2),hv=>simp at hv
 ·have old:∀ b o,s.heap.get? b=some o→h'.get? b=some o:=fun b o e=>hk b o (fun z=>by rw [De.mp z] at e;exact absurd (Do e) (Ed _)) (C6 _ e)
  have hP:[Value.int i t,Value.int j u].toArray[if decide (j > i)=true then 1 else 0]? = some v:=hP
  by_cases h:j > i
  ·rw [if_pos (C_ h)] at hP
   rw [if_pos h] at q
   exact ⟨.int j,H,I.kept old,⟨u,(Dp hP).symm⟩,q⟩
  ·rw [C7 h] at hP
   rw [if_neg h] at q
   exact ⟨.int i,H,I.kept old,⟨t,(Dp hP).symm⟩,q⟩
inductive Cf (K:PySem.W.Frag)(x:V)(y:V)(H:Hp)(Q:VK):Prop
 | mk:∀ a b ns ms,(x = .ref a)→(y = .ref b)→(SqT K H a (ns.map V.int))→(SqT K H b (ms.map V.int))→(Q (.bl (HT.bC ms ns)) H)→Cf K x y H Q
theorem zq {K:PySem.W.Frag}(hK:X.K=K)(hu:X.A.units+64 < cLine):OpR X (compareOp .Gt) (Cf K):=by
 subst hK
 intro pins s σ H x y v u Q I rx ry h
 obtain ⟨a,b,ns,ms,rfl,rfl,ha,hb,q⟩:=h
 cases rx
 cases ry
 obtain ⟨its,r1,p1,_⟩:=I.tuple ha
 obtain ⟨its2,r2,p2,_⟩:=I.tuple hb
 have i1:IntsAre its.toArray.toList ns:=cM r1
 have i2:IntsAre its2.toArray.toList ms:=cM r2
 exact HT.nh p1 p2 i1 i2 (by omega) ⟨.bl (HT.bC ms ns),H,I,rfl,q⟩
inductive cI (P:PySem.Program)(w:PySem.World)(xs:List V)(H:Hp)(Q:VK):Prop
 | mk:∀ (u:List L),(xs=[tx u])→(u.length≤4000)→(∀ (p:Addr) (dl:List Str),H p=none→dl.Nodup→(∀ z,z∈dl ↔ ∃ x∈u,z=toS [x])→Q (.ref p) (upd H p (StO P w p dl)))→cI P w xs H Q
theorem iN (hc:X.calm=true):c_ X (.type "set") (cI X.prog X.w):=by
 intro pins s σ H xs us Q I r h
 obtain ⟨v,rfl,hz,q⟩:=h
 obtain ⟨u,rfl,ru⟩:=cT r
 obtain ⟨zt,rfl⟩:=ru
 have hsz:(toS v).cps.size=v.length:=aZ v
 have hval:∀ (i:Nat) (x:Value),(∃ c u,(toS v).cps[i]? = some c∧x = .str ⟨#[c]⟩ u)→∃ t,x = .str (toS [v.getD i 0]) t:=fun i x ⟨c,u,hc,e⟩=>by
  obtain ⟨y,hy,ey⟩:=cb hc
  refine ⟨u,?_⟩
  rw [e,ey,Dx,hy]
  rfl
 refine nj (knd:=strKind X.prog X.w) (val:=fun i=>toS [v.getD i 0]) (ddp fun i=>toS [v.getD i 0]) (I.ok.hd hc) (Kx.asc v) (by unfold ddp;rfl) (fun i m=>by rw [ddp,if_pos m]) (fun i m=>by rw [ddp,if_neg m]) (oV _) (fun i x e=>by obtain ⟨t,rfl⟩:=hval i x e;exact ⟨strKind_is _ _ _ _,rfl⟩) (by rw [hsz];show _ < 4096;omega) fun h' tk hS k=>?_
 refine ⟨.ref s.heap.objs.size,_,I.laid (fun b o e=>k b o (Do e) e) (Da _) (zc.lay hS),rfl,q _ _ (I.hok.fresh (Da _)) (fM _ _) fun z=>?_⟩
 rw [p9,hsz]
 constructor
 ·rintro ⟨j,hj,rfl⟩
  refine ⟨v[j],DZ hj,?_⟩
  show toS [v.getD j 0]=_
  rw [Dx,fu hj]
  rfl
 ·rintro ⟨x,hx,rfl⟩
  obtain ⟨j,hj,rfl⟩:=Fh hx
  refine ⟨j,hj,?_⟩
  show toS [v.getD j 0]=_
  rw [Dx,fu hj]
  rfl
end
end L2
namespace L2
open PySem PySem.Spec PyProof.Rows
theorem v9 {X:Cx}{K:PySem.W.Frag}(hK:X.K=K)(hu:X.A.units < cLine):OpR X (compareOp .Lt) (AS K):=by subst hK; exact yh hu
end L2
namespace Kx
open PySem PySem.Spec PyProof.Rows L2 Wd Tv
theorem Br:bootBuiltins "set" = some (.type "set"):=by kernel_rfl
theorem lt0 {n c:Nat}(h:n+64 < c):n < c:=by omega
def atZ (w:List L)(j:Int):L:=w.getD (j % (w.length:Int)).toNat 0
def sgZ (w:List L)(p wy k:Int):L:=if wy=1 then atZ w (p+wy*k) else inv (atZ w (p+wy*k))
theorem km {w:List L}(j:Int):atZ w (j+(w.length:Int))=atZ w j:=by
 unfold atZ
 rw [Int.add_emod_right]
theorem uC {w:List L}{wy:Int}(hw:wy=1 ∨ wy = -1)(p k:Int):sgZ w p wy (k+(w.length:Int))=sgZ w p wy k:=by
 unfold sgZ
 rcases hw with rfl | rfl
 ·rw [if_pos rfl,if_pos rfl,← km (p+1*k)]
  congr 1
  omega
 ·rw [if_neg (by decide),if_neg (by decide),← km (p + -1*(k+(w.length:Int)))]
  congr 2
  omega
theorem sT {f g:Int→L}{a b:Int}(ha:0 < a)(hb:0 < b)(pf:∀ k,f (k+a)=f k)(pg:∀ k,g (k+b)=g k)(h:∀ k,0≤k→k < a+b→f k=g k):f (-1)=g (-1):=by
 have e1:=pf (-1)
 have e2:=h (-1+a) (by omega) (by omega)
 have e3:=pg (-1+a)
 have e4:=h (-1+a+b) (by omega) (by omega)
 have e5:=pf (-1+b)
 have e6:=h (-1+b) (by omega) (by omega)
 have e7:=pg (-1)
 rw [← e1,e2,← e3,← e4,show -1+a+b = -1+b+a by omega,e5,e6,e7]
def frN (f g:Int→L):Nat→Nat→Nat
 | k,0=>k
 | k,b+1=>if f k=g k then frN f g (k+1) b else k
theorem fP (f g:Int→L):∀ (b k:Nat),k≤frN f g k b∧frN f g k b≤k+b∧(∀ j:Nat,k≤j→j < frN f g k b→f j=g j)∧(frN f g k b < k+b→f (frN f g k b)≠g (frN f g k b))
 | 0,k=>⟨Da _,Da _,fun j h1 h2=>absurd h2 (by show ¬ j < k;omega),fun h=>absurd h (by show ¬ k < k+0;omega)⟩
 | b+1,k=>by
  unfold frN
  by_cases e:f k=g k
  ·rw [if_pos e]
   obtain ⟨h1,h2,h3,h4⟩:=fP f g b (k+1)
   refine ⟨by omega,by omega,fun j hj hl=>?_,fun h=>h4 (by omega)⟩
   by_cases hk:j=k
   ·rw [hk];exact e
   ·exact h3 j (by omega) hl
  ·rw [if_neg e]
   exact ⟨Da _,by omega,fun j h1 h2=>by omega,fun _=>e⟩
def ptB (u:List L)(f g:Int→L)(n:Nat):Bool:=decide (0 < n) && (decide (f (-1)≠g (-1)) && (decide (f n≠g n) && (decide (rfI u (inv (f ((n:Int) - 1))) (f n) < rfI u (inv (f ((n:Int) - 1))) (g n)) == decide (rfI u (f 0) (inv (f (-1))) < rfI u (f 0) (inv (g (-1)))))))
theorem iO {u:List L}{f g:Int→L}{n:Nat}(h:f (-1)=g (-1)):ptB u f g n=false:=by
 unfold ptB
 rw [C7 (p:=f (-1)≠g (-1)) (fun z=>z h),Ea,Gq]
theorem uD {w v:List L}(hw:w≠[])(hv:v≠[]){p q wy:Int}(hy:wy=1 ∨ wy = -1)(h:sgZ w p 1 (-1)≠sgZ v q wy (-1)):frN (sgZ w p 1) (sgZ v q wy) 0 (w.length+v.length) < w.length+v.length∧sgZ w p 1 (frN (sgZ w p 1) (sgZ v q wy) 0 (w.length+v.length))≠sgZ v q wy (frN (sgZ w p 1) (sgZ v q wy) 0 (w.length+v.length)):=by
 have l1:=D4.mpr hw
 have l2:=D4.mpr hv
 obtain ⟨_,h2,h3,h4⟩:=fP (sgZ w p 1) (sgZ v q wy) (w.length+v.length) 0
 generalize frN (sgZ w p 1) (sgZ v q wy) 0 (w.length+v.length)=n at h2 h3 h4 ⊢
 by_cases c:n < w.length+v.length
 ·exact ⟨c,h4 (by omega)⟩
 ·refine absurd (sT (f:=sgZ w p 1) (g:=sgZ v q wy) (a:=(w.length:Int)) (b:=(v.length:Int)) (by omega) (by omega) (uC (.inl rfl) p) (uC hy q) fun k hk hl=>?_) h
  obtain ⟨m,rfl⟩:=D1 hk
  exact h3 m (D2 _) (by omega)
theorem v_ {w:List L}(h:Rd w){a:Nat}(ha:a+1 < w.length):w[a+1]≠inv w[a]:=by
 have e:w=w.take (a+1)++w.drop (a+1):=(DJ _ _).symm
 rw [e] at h
 obtain ⟨_,_,j⟩:=(cF _ _).mp h
 refine j _ _ ?_ ?_
 ·rw [FM,Dw,show min (a+1) w.length - 1=a by omega,Ex (by omega),fu (by omega)]
 ·rw [Gh,Eb,fu (by omega)]
theorem rnd_at {w:List L}(R:Rnd w)(j:Int):atZ w (j+1)≠inv (atZ w j):=by
 have l1:=D4.mpr R.ne
 have e0:=EV j (show (w.length:Int)≠0 by omega)
 have e1:=Ez j (show (0:Int) < (w.length:Int) by omega)
 obtain ⟨a,ha⟩:=D1 e0
 have hal:a < w.length:=by omega
 have ea:atZ w j=w[a]:=by
  unfold atZ
  rw [ha,Dx,DK,fu hal]
  rfl
 rw [ea]
 by_cases c:a+1 < w.length
 ·have e2:(j+1) % (w.length:Int)=((a+1:Nat):Int):=by
   rw [G9,ha,show (1:Int) % (w.length:Int)=1 from FE (by omega) (by omega)]
   exact FE (by omega) (by omega)
  have e3:atZ w (j+1)=w[a+1]:=by
   unfold atZ
   rw [e2,Dx,DK,fu c]
   rfl
  rw [e3]
  exact v_ R.rd c
 ·have e2:(j+1) % (w.length:Int)=0:=by
   have:j+1=(w.length:Int)*(j / (w.length:Int))+(w.length:Int):=by
    have:=Int.mul_ediv_add_emod j (w.length:Int)
    omega
   rw [this,Int.add_emod_right,Int.mul_emod_right]
  have e3:atZ w (j+1)=w[0]:=by
   unfold atZ
   rw [e2,Dx,show (0:Int).toNat=0 from rfl,fu l1]
   rfl
  rw [e3]
  have hl:w.getLast? = some w[a]:=by
   rw [FM,show w.length - 1=a by omega,fu hal]
  have hh:w.head? = some w[0]:=by rw [Gh,fu l1]
  exact R.jn _ _ hl hh
theorem wa {w:List L}(R:Rnd w){p q:Int}{n:Nat}(hn:0 < n)(h:∀ j:Nat,j < n→sgZ w p 1 j=sgZ w q (-1) j)(hq:(q - n+1) % (w.length:Int)=p % (w.length:Int)):False:=by
 have at_mod:∀ {i j:Int},i % (w.length:Int)=j % (w.length:Int)→atZ w i=atZ w j:=fun e=>by unfold atZ;rw [e]
 have key:∀ j:Nat,j < n→atZ w (p+j)=inv (atZ w (p+(n:Int) - 1 - j)):=fun j hj=>by
  have:=h j hj
  unfold sgZ at this
  rw [if_pos rfl,if_neg (by decide)] at this
  rw [show p+(j:Int)=p+1*(j:Int) by omega,this]
  congr 1
  refine at_mod ?_
  have e:q + -1*(j:Int)=(q - n+1)+((n:Int) - 1 - j):=by omega
  rw [e,G9,hq,← G9]
  congr 1
  omega
 by_cases c:n % 2=1
 ·obtain ⟨r,hr⟩:∃ r,n=2*r+1:=⟨n / 2,by omega⟩
  have:=key r (by omega)
  rw [show p+(n:Int) - 1 - (r:Int)=p+r by omega] at this
  exact cC _ this.symm
 ·obtain ⟨r,hr⟩:∃ r,n=2*(r+1):=⟨n / 2 - 1,by omega⟩
  have:=key (r+1) (by omega)
  rw [show p+(n:Int) - 1 - ((r+1:Nat):Int)=p+r by omega,show p+((r+1:Nat):Int)=(p+r)+1 by omega] at this
  exact rnd_at R _ this
abbrev P2:=Int × Int
inductive Lnk where
 | b (s t:P2)
 | a (s t:P2) (n:Nat)
 | g (s t:P2) (n:Nat)
def cB:List Int:=("beside":Str).cps.toList.map Int.ofNat
def cA:List Int:=("along":Str).cps.toList.map Int.ofNat
def cG:List Int:=("against":Str).cps.toList.map Int.ofNat
theorem CQ:cB≠cA:=by decide +kernel
theorem CU:cB≠cG:=by decide +kernel
def pZ (s:P2):List Int:=[s.1,s.2]
def Lnk.key:Lnk→c8
 | .b s t=>[cB,pZ s,pZ t]
 | .a s t n=>[cA,pZ s,pZ t,[(n:Int)]]
 | .g s t n=>[cG,pZ s,pZ t,[(n:Int)]]
def shL:List Int→List Kn:=fun x=>if x=cB then [.p,.p] else [.p,.p,.i]
abbrev Sp2 (H:Hp)(a:Addr)(s:P2):Prop:=H a=some (.tup [.int s.1,.int s.2])
def wb (H:Hp)(r:Addr):Lnk→Prop
 | .b s t=>∃ a c,H r=some (.tup [.str "beside",.ref a,.ref c])∧Sp2 H a s∧Sp2 H c t
 | .a s t n=>∃ a c,H r=some (.tup [.str "along",.ref a,.ref c,.int (n:Nat)])∧Sp2 H a s∧Sp2 H c t
 | .g s t n=>∃ a c,H r=some (.tup [.str "against",.ref a,.ref c,.int (n:Nat)])∧Sp2 H a s∧Sp2 H c t
theorem wb.to {H H':Hp}{r:Addr}{k:Lnk}(h:wb H r k)(s:∀ b ys,H b=some (.tup ys)→H' b=some (.tup ys)):wb H' r k:=by
 cases k with
 | b _ _=>obtain ⟨a,c,h1,h2,h3⟩:=h;exact ⟨a,c,s _ _ h1,s _ _ h2,s _ _ h3⟩
 | a _ _ _=>obtain ⟨a,c,h1,h2,h3⟩:=h;exact ⟨a,c,s _ _ h1,s _ _ h2,s _ _ h3⟩
 | g _ _ _=>obtain ⟨a,c,h1,h2,h3⟩:=h;exact ⟨a,c,s _ _ h1,s _ _ h2,s _ _ h3⟩
theorem wb.kd {H:Hp}{r:Addr}{k:Lnk}(h:wb H r k):KdQ .s shL H r k.key:=by
 cases k with
 | b s t =>
  obtain ⟨a,c,h1,h2,h3⟩:=h
  refine ⟨_,h1,?_⟩
  show FlQ H (.s::shL cB) _ [cB,pZ s,pZ t]
  unfold shL
  rw [if_pos rfl]
  exact .s _ (.p h2 (.p h3 .nil))
 | a s t n =>
  obtain ⟨a,c,h1,h2,h3⟩:=h
  refine ⟨_,h1,?_⟩
  show FlQ H (.s::shL cA) _ [cA,pZ s,pZ t,[(n:Int)]]
  unfold shL
  rw [if_neg CQ.symm]
  exact .s _ (.p h2 (.p h3 (.i _ .nil)))
 | g s t n =>
  obtain ⟨a,c,h1,h2,h3⟩:=h
  refine ⟨_,h1,?_⟩
  show FlQ H (.s::shL cG) _ [cG,pZ s,pZ t,[(n:Int)]]
  unfold shL
  rw [if_neg CU.symm]
  exact .s _ (.p h2 (.p h3 (.i _ .nil)))
def LkA (H:Hp)(zs:List (Addr × Lnk)):Prop:=∀ z∈zs,wb H z.1 z.2
theorem LkA.to {H H':Hp}{zs:List (Addr × Lnk)}(h:LkA H zs)(s:∀ b ys,H b=some (.tup ys)→H' b=some (.tup ys)):LkA H' zs:=fun z hz=>(h z hz).to s
theorem LkA.same {H H':Hp}{zs:List (Addr × Lnk)}(h:LkA H zs)(s:aA H H'):LkA H' zs:=h.to fun _ _ e=>s _ _ e
theorem LkA.app {H:Hp}{zs ys:List (Addr × Lnk)}(h:LkA H zs)(g:LkA H ys):LkA H (zs++ys):=fun z hz=>(DB.mp hz).elim (h z) (g z)
def ltP (s t:P2):Bool:=HT.bC [s.1,s.2] [t.1,t.2]
theorem qk {s t:P2}:ltP s t=true ↔ s.1 < t.1 ∨ (s.1=t.1∧s.2 < t.2):=by
 unfold ltP
 rw [HT.bF,HT.bF,HT.b_]
 by_cases e1:s.1=t.1
 ·rw [if_pos e1]
  by_cases e2:s.2=t.2
  ·rw [if_pos e2]
   simp only [DF,false_iff,not_or,not_and]
   omega
  ·rw [if_neg e2,Dl]
   omega
 ·rw [if_neg e1,Dl]
  omega
def dO (u:List L)(a b c d:L):Bool:=decide ([a,b,c,d].Nodup) && (decide (rfI u a c < rfI u a b) != decide (rfI u a d < rfI u a b))
def wyZ (W:List (List L))(i:Int):List L:=W.getD i.toNat []
def fZ (W:List (List L))(s:P2)(wy:Int):Int→L:=sgZ (wyZ W s.1) s.2 wy
def nZ (W:List (List L))(s t:P2)(wy:Int):Nat:=frN (fZ W s 1) (fZ W t wy) 0 ((wyZ W s.1).length+(wyZ W t.1).length)
def AD (u:List L)(W:List (List L))(s t:P2):List Lnk:=if ltP s t && dO u (inv (fZ W s 1 0)) (fZ W s 1 1) (inv (fZ W t 1 0)) (fZ W t 1 1) then [.b s t] else []
def AE (u:List L)(W:List (List L))(s t:P2):List Lnk:=if ltP s t && ptB u (fZ W s 1) (fZ W t 1) (nZ W s t 1) then [.a s t (nZ W s t 1)] else []
def nD (W:List (List L))(s t:P2)(n:Nat):P2:=(t.1,(t.2 - (n:Int)+1) % ((wyZ W t.1).length:Int))
def ql (u:List L)(W:List (List L))(s t:P2):List Lnk:=if ltP s (nD W s t (nZ W s t (-1))) && ptB u (fZ W s 1) (fZ W t (-1)) (nZ W s t (-1)) then [.g s t (nZ W s t (-1))] else []
structure WyR (n:Nat) (W:List (List L)):Prop where
 le:W.length≤4
 lo:1≤W.length
 ws:∀ w∈W,Rnd w∧w.length≤30∧InM n w
structure WyA (n:Nat) (W:List (List L)) (H:Hp) (a:Addr):Prop where
 at_:H a=some (.tup (W.map tx))
 ok:WyR n W
theorem WyA.same {n:Nat}{W:List (List L)}{H H':Hp}{a:Addr}(h:WyA n W H a)(s:aA H H'):WyA n W H' a:=⟨s _ _ h.at_,h.ok⟩
def okP (W:List (List L))(s:P2):Prop:=0≤s.1∧s.1 < (W.length:Int)∧0≤s.2∧s.2 < ((wyZ W s.1).length:Int)
theorem WyR.get {n:Nat}{W:List (List L)}(h:WyR n W){i:Int}(h0:0≤i)(h1:i < (W.length:Int)):wyZ W i∈W∧atI (W.map tx) i=some (tx (wyZ W i))∧Rnd (wyZ W i)∧(wyZ W i).length≤30∧0 < (wyZ W i).length∧InM n (wyZ W i):=by
 obtain ⟨m,rfl⟩:=D1 h0
 have hm:m < W.length:=by omega
 have e:wyZ W (m:Int)=W[m]:=by
  unfold wyZ
  rw [DK,Dx,fu hm]
  rfl
 rw [e]
 have hmem:=DZ hm
 obtain ⟨a,b,c⟩:=h.ws _ hmem
 exact ⟨hmem,bI (j:=m) (by rw [DG,fu hm];rfl),a,b,D4.mpr a.ne,c⟩
theorem ko {w:List L}(h:0 < w.length)(j:Int):atZ w j∈w:=by
 have e0:=EV j (show (w.length:Int)≠0 by omega)
 have e1:=Ez j (show (0:Int) < (w.length:Int) by omega)
 unfold atZ
 rw [Dx,fu (show (j % (w.length:Int)).toNat < w.length by omega)]
 exact DZ _
theorem kr {n:Nat}{w:List L}(h:0 < w.length)(hi:InM n w)(p wy k:Int):(sgZ w p wy k).val % 6 < n:=by
 unfold sgZ
 have:=hi _ (ko h (p+wy*k))
 split
 ·exact this
 ·rw [vG]
  have:=(atZ w (p+wy*k)).isLt
  split <;> omega
theorem sU {n:Nat}{u:List L}{W:List (List L)}(hW:WyR n W){s t:P2}(hs:okP W s)(ht:okP W t)(hb:fZ W s 1 (-1)≠fZ W t (-1) (-1)):(if ltP (nD W s t (nZ W s t (-1))) s then [] else if ptB u (fZ W s 1) (fZ W t (-1)) (nZ W s t (-1)) then [Lnk.g s t (nZ W s t (-1))] else [])=ql u W s t:=by
 unfold ql
 by_cases c1:ltP (nD W s t (nZ W s t (-1))) s=true
 ·rw [if_pos c1]
  have:ltP s (nD W s t (nZ W s t (-1)))=false:=by
   rw [Bool.eq_false_iff]
   intro z
   rw [qk] at c1 z
   omega
  rw [this,Ea,if_neg (by decide)]
 ·rw [if_neg c1]
  by_cases c2:ltP s (nD W s t (nZ W s t (-1)))=true
  ·rw [c2,FG]
  ·have e:s=nD W s t (nZ W s t (-1)):=by
    have c1:¬ (ltP (nD W s t (nZ W s t (-1))) s=true):=c1
    rw [qk] at c1 c2
    exact Prod.ext (by omega) (by omega)
   have:ptB u (fZ W s 1) (fZ W t (-1)) (nZ W s t (-1))=false:=by
    rw [Bool.eq_false_iff]
    intro z
    unfold ptB at z
    rw [EK,Dl] at z
    obtain ⟨hn,_⟩:=z
    have e1:s.1=t.1:=by
     have:=DH Prod.fst e
     exact this
    have e2:s.2=(t.2 - (nZ W s t (-1):Nat)+1) % ((wyZ W t.1).length:Int):=DH Prod.snd e
    obtain ⟨_,_,R,_,lp,_⟩:=hW.get hs.1 hs.2.1
    refine wa (w:=wyZ W s.1) (p:=s.2) (q:=t.2) R hn (fun j hj=>?_) ?_
    ·have:=(fP (fZ W s 1) (fZ W t (-1)) ((wyZ W s.1).length+(wyZ W t.1).length) 0).2.2.1 j (D2 _) hj
     unfold fZ at this
     rw [← e1] at this
     exact this
    ·rw [← e1] at e2
     rw [e2,Int.emod_emod_of_dvd _ (Int.dvd_refl _)]
   rw [this,Gq]
def lkZ (u:List L)(W:List (List L))(s t:P2):List Lnk:=AD u W s t++(AE u W s t++ql u W s t)
def qX (u:List L)(W:List (List L))(i j:Int)(p:Nat)(m:Nat):List Lnk:=(List.range m).flatMap fun q:Nat=>lkZ u W (i,(p:Int)) (j,(q:Int))
def nk (u:List L)(W:List (List L))(i j:Int)(m:Nat):List Lnk:=(List.range m).flatMap fun p:Nat=>qX u W i j p (wyZ W j).length
theorem mh (u:List L)(W:List (List L))(i j:Int)(p m:Nat):qX u W i j p (m+1)=qX u W i j p m++lkZ u W (i,(p:Int)) (j,(m:Int)):=by
 unfold qX
 rw [List.range_succ,List.flatMap_append]
 simp
theorem mj (u:List L)(W:List (List L))(i j:Int)(m:Nat):nk u W i j (m+1)=nk u W i j m++qX u W i j m (wyZ W j).length:=by
 unfold nk
 rw [List.range_succ,List.flatMap_append]
 simp
theorem zr (u:List L)(W:List (List L))(s t:P2):(lkZ u W s t).length≤3:=by
 unfold lkZ AD AE ql
 rw [C8,C8]
 have h:∀ (b:Bool) (x:Lnk),(if b=true then [x] else []).length≤1:=fun b x=>by cases b <;> simp
 have h1:=h (ltP s t && dO u (inv (fZ W s 1 0)) (fZ W s 1 1) (inv (fZ W t 1 0)) (fZ W t 1 1)) (.b s t)
 have h2:=h (ltP s t && ptB u (fZ W s 1) (fZ W t 1) (nZ W s t 1)) (.a s t (nZ W s t 1))
 have h3:=h (ltP s (nD W s t (nZ W s t (-1))) && ptB u (fZ W s 1) (fZ W t (-1)) (nZ W s t (-1))) (.g s t (nZ W s t (-1)))
 omega
theorem ku (u:List L)(W:List (List L))(i j:Int)(p:Nat):∀ m,(qX u W i j p m).length≤3*m
 | 0=>Da _
 | m+1=>by
  have:=ku u W i j p m
  have:=zr u W (i,(p:Int)) (j,(m:Int))
  rw [mh,C8]
  omega
theorem qm (u:List L)(W:List (List L))(i j:Int){b:Nat}(hb:(wyZ W j).length≤b):∀ m,(nk u W i j m).length≤3*b*m
 | 0=>Da _
 | m+1=>by
  have:=qm u W i j hb m
  have:=ku u W i j m (wyZ W j).length
  rw [mj,C8,Nat.mul_add,Nat.mul_one]
  omega
abbrev Wk3 (H:Hp)(x:Addr)(s:P2)(wy:Int):Prop:=H x=some (.tup [.int s.1,.int s.2,.int wy])
inductive Bs (vs:List V)(H:Hp)(Q:VK)(u3_:XK):Prop
 | mk:∀ (u:List L) (k:Nat) (a b:L),(vs=[tx u,tx [a],tx [b]])→SK u k→a∈u→b∈u→Q (.int (rfI u a b)) H→Bs vs H Q u3_
inductive wc (vs:List V)(H:Hp)(Q:VK)(u3_:XK):Prop
 | mk:∀ (u:List L) (k:Nat) (s a b:L),(vs=[tx u,tx [s],tx [a],tx [b]])→SK u k→s∈u→a∈u→b∈u→(∀ H',aA H H'→Q (.bl (decide (rfI u s a < rfI u s b))) H')→wc vs H Q u3_
inductive jD (vs:List V)(H:Hp)(Q:VK)(u3_:XK):Prop
 | mk:∀ (a x:Addr) (n:Nat) (W:List (List L)) (s:P2) (wy k:Int),(vs=[.ref a,.ref x,.int k])→WyA n W H a→Wk3 H x s wy→0≤s.1→s.1 < (W.length:Int)→(wy=1 ∨ wy = -1)→(∀ H',aA H H'→Q (tx [fZ W s wy k]) H')→jD vs H Q u3_
inductive ml (vs:List V)(H:Hp)(Q:VK)(u3_:XK):Prop
 | mk:∀ (a x y:Addr) (n:Nat) (W:List (List L)) (s t:P2) (wy:Int),(vs=[.ref a,.ref x,.ref y])→WyA n W H a→Wk3 H x s 1→Wk3 H y t wy→okP W s→okP W t→(wy=1 ∨ wy = -1)→(∀ H',aA H H'→Q (.int ((if fZ W s 1 (-1)=fZ W t wy (-1) then 0 else nZ W s t wy:Nat):Int)) H')→ml vs H Q u3_
def jE (u:List L)(f g:Int→L)(n:Nat):Bool:=decide (0 < n) && (decide (rfI u (inv (f ((n:Int) - 1))) (f n) < rfI u (inv (f ((n:Int) - 1))) (g n)) == decide (rfI u (f 0) (inv (f (-1))) < rfI u (f 0) (inv (g (-1)))))
inductive mn (vs:List V)(H:Hp)(Q:VK)(u3_:XK):Prop
 | mk:∀ (u:List L) (a x y:Addr) (n m:Nat) (W:List (List L)) (s t:P2) (wy:Int),(vs=[tx u,.ref a,.ref x,.ref y,.int (m:Nat)])→SK u n→WyA n W H a→Wk3 H x s 1→Wk3 H y t wy→okP W s→okP W t→(wy=1 ∨ wy = -1)→(∀ H',aA H H'→Q (.bl (jE u (fZ W s 1) (fZ W t wy) m)) H')→mn vs H Q u3_
inductive Bu (vs:List V)(H:Hp)(Q:VK)(u3_:XK):Prop
 | mk:∀ (a x:Addr) (n:Nat) (W:List (List L)) (s:P2),(vs=[.ref a,.ref x])→WyA n W H a→Sp2 H x s→okP W s→(∀ H',aA H H'→Q (tx [inv (fZ W s 1 0),fZ W s 1 1]) H')→Bu vs H Q u3_
inductive sV (r:List L→List (List L)→P2→P2→List Lnk)(vs:List V)(H:Hp)(Q:VK)(u3_:XK):Prop
 | mk:∀ (u:List L) (a x y:Addr) (n:Nat) (W:List (List L)) (s t:P2),(vs=[tx u,.ref a,.ref x,.ref y])→SK u n→WyA n W H a→Sp2 H x s→Sp2 H y t→okP W s→okP W t →
  (∀ (l:Addr) (zs:List (Addr × Lnk)) (H':Hp),H l=none→aA H H'→H' l=some (.lst ((zs.map (·.1)).map V.ref))→LkA H' zs→zs.map (·.2)=r u W s t→Q (.ref l) H')→sV r vs H Q u3_
def zu (u:List L)(W:List (List L))(s t:P2):List Lnk:=if dO u (inv (fZ W s 1 0)) (fZ W s 1 1) (inv (fZ W t 1 0)) (fZ W t 1 1) then [.b s t] else []
def wd (u:List L)(W:List (List L))(s t:P2):List Lnk:=if ptB u (fZ W s 1) (fZ W t 1) (nZ W s t 1) then [.a s t (nZ W s t 1)] else []
def xH (u:List L)(W:List (List L))(s t:P2):List Lnk:=ql u W s t++(if ltP s t then wd u W s t++zu u W s t else [])
theorem qo (u:List L)(W:List (List L))(s t:P2):(xH u W s t).Perm (lkZ u W s t):=by
 unfold xH lkZ AE AD wd zu
 cases ltP s t with
 | true =>
  rw [if_pos rfl,FG,FG]
  refine D0.trans ?_
  rw [← Dh]
  exact (D0).append_right _
 | false =>
  rw [if_neg (by decide),Ea,Ea,if_neg (by decide),if_neg (by decide)]
  simp
inductive kx (vs:List V)(H:Hp)(Q:VK)(u3_:XK):Prop
 | mk:∀ (u:List L) (a:Addr) (n:Nat) (W:List (List L)) (i j:Int),(vs=[tx u,.ref a,.int i,.int j])→SK u n→WyA n W H a→0≤i→i < (W.length:Int)→0≤j→j < (W.length:Int) →
  (∀ (l:Addr) (zs:List (Addr × Lnk)) (H':Hp),H l=none→aA H H'→H' l=some (.lst ((zs.map (·.1)).map V.ref))→LkA H' zs→(zs.map (·.2)).Perm (nk u W i j (wyZ W i).length)→((zs.map (·.2)).map Lnk.key).Pairwise qle→Q (.ref l) H')→kx vs H Q u3_
theorem fY {n:Nat}{u:List L}(U:SK u n){W:List (List L)}(hW:WyR n W){s:P2}(os:okP W s)(wy k:Int):fZ W s wy k∈u∧inv (fZ W s wy k)∈u:=by
 obtain ⟨_,_,_,_,lp,hi⟩:=hW.get os.1 os.2.1
 have:=kr lp hi s.2 wy k
 exact ⟨(U.mem _).mpr this,(U.mem _).mpr (by rw [d3];exact this)⟩
theorem we {u:List L}{f g:Int→L}{n:Nat}(h:f (-1)≠g (-1))(h':f n≠g n):jE u f g n=ptB u f g n:=by
 unfold jE ptB
 rw [C_ h,C_ h',FG,FG]
theorem uE {u:List L}{f g:Int→L}:jE u f g 0=false:=rfl
theorem mq {n:Nat}{u:List L}{W:List (List L)}(hW:WyR n W){s t:P2}(os:okP W s)(ot:okP W t){wy:Int}(hwy:wy=1 ∨ wy = -1):jE u (fZ W s 1) (fZ W t wy) (if fZ W s 1 (-1)=fZ W t wy (-1) then 0 else nZ W s t wy)=ptB u (fZ W s 1) (fZ W t wy) (nZ W s t wy):=by
 by_cases e:fZ W s 1 (-1)=fZ W t wy (-1)
 ·rw [if_pos e,uE,iO e]
 ·rw [if_neg e]
  obtain ⟨_,_,Rw,_⟩:=hW.get os.1 os.2.1
  obtain ⟨_,_,Rv,_⟩:=hW.get ot.1 ot.2.1
  exact we e (uD Rw.ne Rv.ne hwy e).2
theorem Bv (a b:Bool):(a == b)=decide (V.bl a=V.bl b):=by cases a <;> cases b <;> rfl
theorem jF {H H4:Hp}{Q:VK}{r:List Lnk}{l:Addr}(q:aA H H4)(hl:H4 l=none)(k:∀ (l:Addr) (zs:List (Addr × Lnk)) (H':Hp),H l=none→aA H H'→H' l=some (.lst ((zs.map (·.1)).map V.ref))→LkA H' zs→zs.map (·.2)=r→Q (.ref l) H')(e:r=[]):Q (.ref l) (upd H4 l (.lst [])) :=
 k l [] _ (q.free hl) (q.trans (aA.new hl)) ag (fun _ h=>absurd h (by simp)) e.symm
theorem ky {H H4:Hp}{Q:VK}{r:List Lnk}{m:Lnk}{l c:Addr}{ys:List V}(q:aA H H4)(hc:H4 c=none)(hl:(upd H4 c (.tup ys)) l=none)(hm:wb (upd H4 c (.tup ys)) c m)(k:∀ (l:Addr) (zs:List (Addr × Lnk)) (H':Hp),H l=none→aA H H'→H' l=some (.lst ((zs.map (·.1)).map V.ref))→LkA H' zs→zs.map (·.2)=r→Q (.ref l) H')(e:r=[m]):Q (.ref l) (upd (upd H4 c (.tup ys)) l (.lst [.ref c])):=by
 have q1:=q.trans (aA.new (o:=.tup ys) hc)
 refine k l [(c,m)] _ (q1.free hl) (q1.trans (aA.new hl)) ag (fun z h=>?_) e.symm
 rw [De.mp h]
 exact hm.to fun _ _ e=>aA.new hl _ _ e
theorem fQ {H H2:Hp}{l:Addr}{o:HO}(s:aA H H2)(h:H l=none):aA H (upd H2 l o):=fun b u e=>by rw [ay (aD e h)]; exact s b u e
theorem iR {H:Hp}{l:Addr}{xs:List V}{o:HO}(h:H l=some (.lst xs)):∀ b ys,H b=some (.tup ys)→(upd H l o) b=some (.tup ys):=fun b ys e=>by
 have:b≠l:=fun z=>by rw [z,h] at e;cases e
 rw [ay this]
 exact e
theorem iT (xs ys:List (Addr × Lnk)):((xs.map (·.1)).map V.ref)++((ys.map (·.1)).map V.ref)=((xs++ys).map (·.1)).map V.ref:=by rw [DU,DU]
theorem CV {w:List L}{j:Int}(h:0 < (w.length:Int)):atI (toS w).cps.toList (j % (w.length:Int))=some (cp (atZ w j)):=by
 have e0:=EV j (show (w.length:Int)≠0 by omega)
 have e1:=Ez j h
 refine fj (k:=(j % (w.length:Int)).toNat) (by omega) ?_
 unfold atZ
 rw [Dx,fu (show (j % (w.length:Int)).toNat < w.length by omega)]
 rfl
theorem CW {a b c d:L}{dl:List Str}(nd:dl.Nodup)(hm:∀ z,z∈dl ↔ ∃ x∈[a,b,c,d],z=toS [x]):decide ((dl.length:Int) < 4)=!decide ([a,b,c,d].Nodup):=by
 by_cases h:[a,b,c,d].Nodup
 ·rw [C_ h]
  refine C7 ?_
  have nd2:([a,b,c,d].map fun x=>toS [x]).Nodup:=List.Pairwise.map _ (fun x y n e=>n (E4 (il e)).1) h
  have p:([a,b,c,d].map fun x=>toS [x]).Perm dl:=(List.perm_ext_iff_of_nodup nd2 nd).mpr fun z=>by
   rw [hm,DN]
   exact ⟨fun ⟨x,h1,h2⟩=>⟨x,h1,h2.symm⟩,fun ⟨x,h1,h2⟩=>⟨x,h1,h2.symm⟩⟩
  have:=p.length_eq
  rw [C4] at this
  have:dl.length=4:=this.symm
  omega
 ·rw [C7 h]
  refine C_ ?_
  have key:∀ x y z:L,(∀ v∈[a,b,c,d],v∈[x,y,z])→(dl.length:Int) < 4:=fun x y z hs=>by
   apply Classical.byContradiction
   intro n
   have:=(cH (zs:=[toS [x],toS [y],toS [z]]) nd (fun k hk=>by
    obtain ⟨v,hv,rfl⟩:=(hm k).mp hk
    have:=hs v hv
    simp only [Dj,DS,E8] at this ⊢
    rcases this with rfl | rfl | rfl
    ·exact .inl rfl
    ·exact .inr (.inl rfl)
    ·exact .inr (.inr rfl)) (by show 3≤_;omega)).length_eq
   have:3=dl.length:=this
   omega
  simp only [DE,Dj,DS,E8,not_false_eq_true,Fq,and_true,not_or] at h
  by_cases e1:a=b
  ·exact key b c d (by intro v hv;simp only [Dj,DS,E8] at hv ⊢;rw [e1] at hv;rcases hv with h | h | h | h <;> simp [h])
  by_cases e2:a=c
  ·exact key b c d (by intro v hv;simp only [Dj,DS,E8] at hv ⊢;rw [e2] at hv;rcases hv with h | h | h | h <;> simp [h])
  by_cases e3:a=d
  ·exact key b c d (by intro v hv;simp only [Dj,DS,E8] at hv ⊢;rw [e3] at hv;rcases hv with h | h | h | h <;> simp [h])
  by_cases e4:b=c
  ·exact key a c d (by intro v hv;simp only [Dj,DS,E8] at hv ⊢;rw [e4] at hv;rcases hv with h | h | h | h <;> simp [h])
  by_cases e5:b=d
  ·exact key a c d (by intro v hv;simp only [Dj,DS,E8] at hv ⊢;rw [e5] at hv;rcases hv with h | h | h | h <;> simp [h])
  by_cases e6:c=d
  ·exact key a b d (by intro v hv;simp only [Dj,DS,E8] at hv ⊢;rw [e6] at hv;rcases hv with h | h | h | h <;> simp [h])
  exact absurd ⟨⟨e1,e2,e3⟩,⟨e4,e5⟩,e6⟩ h
def Cyc (w:List L):Prop:=Wd.Rd w∧J w w
theorem Cyc.rnd {w:List L}(h:Cyc w)(n:w≠[]):Rnd w:=⟨n,h.1,h.2⟩
theorem wg:Cyc []:=⟨trivial,fun x y h=>by simp at h⟩
theorem kz (x:L):Rnd [x]:=⟨by simp,trivial,fun a b ha hb=>by
 have ha:x=a:=by simpa using ha
 have hb:x=b:=by simpa using hb
 subst ha hb
 exact fun e=>cC _ e.symm⟩
theorem zw {x y:L}{mid:List L}(h:Wd.Rd (x::(mid++[y]))):Wd.Rd mid:=((cF _ _).mp h.tail).1
theorem wj {x y:L}{mid:List L}(h:Wd.Rd (x::(mid++[y])))(g:x≠inv y):Cyc (x::(mid++[y])):=⟨h,fun a b ha hb=>by
 have e:x::(mid++[y])=(x::mid)++[y]:=rfl
 rw [e,List.getLast?_append,List.getLast?_singleton] at ha
 have ha:y=a:=by simpa using ha
 have hb:x=b:=by simpa using hb
 rw [← ha,← hb]
 exact g⟩
theorem wm {w:List L}(h:¬ 1 < w.length):Cyc w:=by
 match w,h with
 | [],_=>exact wg
 | [x],_=>exact ⟨(kz x).rd,(kz x).jn⟩
 | x::y::r,h=>simp at h
theorem wo {v:List L}{n:Nat}(h:Cyc (rep n v))(hn:rep n v≠[]):Cyc v:=by
 cases n with
 | zero=>exact absurd rfl hn
 | succ n=>exact ⟨(lN (h.rnd hn)).rd,(lN (h.rnd hn)).jn⟩
def GR (n b:Nat)(w:List L):Prop:=Rnd w∧w.length≤b∧InM n w
theorem zx {w:List L}:(∀ a (h:a+1 < w.length),w[a+1]≠inv w[a])→Wd.Rd w:=by
 induction w with
 | nil=>intro _;trivial
 | cons x r ih =>
  intro h
  cases r with
  | nil=>trivial
  | cons y r =>
   refine ⟨h 0 (by simp),ih fun a ha=>?_⟩
   exact h (a+1) (by simp at ha ⊢;omega)
theorem iU {w:List L}{a:Nat}(h:a < w.length):atZ w (a:Int)=w[a]:=by
 unfold atZ
 rw [FE (by omega) (by omega),DK,Dx,fu h]
 rfl
theorem zy {w:List L}(hne:w≠[])(h:∀ k:Nat,k < w.length→atZ w (k:Int)≠inv (atZ w ((k:Int) - 1))):Rnd w:=by
 have l1:=D4.mpr hne
 refine ⟨hne,zx fun a ha=>?_,fun x y hx hy=>?_⟩
 ·have:=h (a+1) ha
  rw [iU ha,show ((a+1:Nat):Int) - 1=(a:Int) by omega,iU (by omega)] at this
  exact this
 ·have:=h 0 l1
  have e:atZ w (((0:Nat):Int) - 1)=w[w.length - 1]:=by
   rw [← km,show ((0:Nat):Int) - 1+(w.length:Int)=((w.length - 1:Nat):Int) by omega]
   exact iU (by omega)
  rw [e,iU l1] at this
  rw [FM,fu (show w.length - 1 < w.length by omega)] at hx
  rw [Gh,fu l1] at hy
  rw [← Dp hx,← Dp hy]
  exact this
structure Tl (u v:List L) (f:L→L) (b:Bool):Prop where
 ren:Ren u f
 od:∀ e∈u,∀ x∈u,∀ y∈u,e≠x→e≠y→x≠y→decide (rfI v (f e) (f x) < rfI v (f e) (f y))=(decide (rfI u e x < rfI u e y) != b)
theorem zA (u:List L):Ren u id:=⟨fun _=>rfl,fun _ _ _ _ e=>e⟩
theorem qp {u:List L}{f:L→L}(R:Ren u f)(nd:u.Nodup){x:L}(h:x∈u):(u.map f).idxOf (f x)=u.idxOf x:=by
 refine b5 (fJ f nd R.inj) ?_
 rw [DG,j8 h]
 rfl
theorem uF {u:List L}{f:L→L}(R:Ren u f)(nd:u.Nodup){x y:L}(hx:x∈u)(hy:y∈u):rfI (u.map f) (f x) (f y)=rfI u x y:=by
 unfold rfI
 rw [qp R nd hx,qp R nd hy,C4]
theorem zB {u:List L}{f:L→L}(R:Ren u f)(nd:u.Nodup):Tl u (u.map f) f false:=⟨R,fun e he x hx y hy _ _ _=>by
 rw [uF R nd he hx,uF R nd he hy,Hb]⟩
theorem wq {x y:L}(n:x≠y):inv x≠inv y:=fun e=>n (by have:=DH inv e; rwa [aT,aT] at this)
theorem CY (a b c:Bool):((a != c) != (b != c))=(a != b):=by cases a <;> cases b <;> cases c <;> rfl
theorem CZ (a b c:Bool):((a != c) == (b != c))=(a == b):=by cases a <;> cases b <;> cases c <;> rfl
theorem wu {u v:List L}{f:L→L}{k:Bool}(T:Tl u v f k){a b c d:L}(ha:a∈u)(hb:b∈u)(hc:c∈u)(hd:d∈u):dO v (f a) (f b) (f c) (f d)=dO u a b c d:=by
 unfold dO
 by_cases h:[a,b,c,d].Nodup
 ·have h':[f a,f b,f c,f d].Nodup:=by
   have:=fJ f h (fun x hx y hy e=>T.ren.inj x (by simp only [Dj,DS,E8] at hx;rcases hx with rfl | rfl | rfl | rfl <;> assumption) y (by simp only [Dj,DS,E8] at hy;rcases hy with rfl | rfl | rfl | rfl <;> assumption) e)
   exact this
  simp only [DE,Dj,DS,E8,not_or] at h
  obtain ⟨⟨n1,n2,n3⟩,⟨n4,n5⟩,n6,_⟩:=h
  rw [C_ h',T.od a ha c hc b hb n2 n1 (fun e=>n4 e.symm),T.od a ha d hd b hb n3 n1 (fun e=>n5 e.symm),CY]
  congr 1
  refine (C_ ?_).symm
  simp only [DE,Dj,DS,E8,not_or]
  exact ⟨⟨n1,n2,n3⟩,⟨n4,n5⟩,n6,not_false,Fq⟩
 ·have h':¬ [f a,f b,f c,f d].Nodup:=fun z=>h (by
   have:([a,b,c,d].map f).Nodup:=z
   exact List.Pairwise.of_map f (fun x y n e=>n (by rw [e])) this)
  rw [C7 h,C7 h',Ea,Ea]
structure Wlk (u:List L) (f:Int→L):Prop where
 m:∀ k,f k∈u
 i:∀ k,inv (f k)∈u
 st:∀ k,f (k+1)≠inv (f k)
theorem Wlk.st' {u:List L}{f:Int→L}(h:Wlk u f)(k:Int):f k≠inv (f (k - 1)):=by
 have:=h.st (k - 1)
 rwa [show k - 1+1=k by omega] at this
theorem Wlk.s0 {u:List L}{f:Int→L}(h:Wlk u f):f 0≠inv (f (-1)):=by
 have:=h.st (-1)
 rwa [show (-1:Int)+1=0 from rfl] at this
theorem uG {n:Nat}{u:List L}(U:SK u n){w:List L}(R:Rnd w)(hi:InM n w){wy:Int}(hw:wy=1 ∨ wy = -1)(p:Int):Wlk u (sgZ w p wy):=by
 have lp:=D4.mpr R.ne
 refine ⟨fun k=>(U.mem _).mpr (kr lp hi p wy k),fun k=>(U.mem _).mpr (by rw [d3];exact kr lp hi p wy k),fun k=>?_⟩
 unfold sgZ
 rcases hw with rfl | rfl
 ·rw [if_pos rfl,if_pos rfl,show p+1*(k+1)=(p+1*k)+1 by omega]
  exact rnd_at R _
 ·rw [if_neg (by decide),if_neg (by decide),aT]
  have:=rnd_at R (p + -1*(k+1))
  rw [show p + -1*(k+1)+1=p + -1*k by omega] at this
  exact this.symm
theorem Bw {u v:List L}{f g:Int→L}{φ:L→L}{k:Bool}(T:Tl u v φ k)(F:Wlk u f)(G:Wlk u g){n:Nat}(h:∀ j:Nat,j < n→f j=g j):ptB v (fun i=>φ (f i)) (fun i=>φ (g i)) n=ptB u f g n:=by
 unfold ptB
 by_cases hn:0 < n
 ·have e0:f 0=g 0:=h 0 hn
  have e1:f ((n:Int) - 1)=g ((n:Int) - 1):=by
   have:=h (n - 1) (by omega)
   rwa [show ((n - 1:Nat):Int)=(n:Int) - 1 by omega] at this
  have q:∀ x y,x∈u→y∈u→decide (φ x ≠ φ y)=decide (x≠y):=fun x y hx hy=>by
   rw [Hy]
   exact ⟨fun z e=>z (by rw [e]),fun z e=>z (T.ren.inj x hx y hy e)⟩
  rw [q _ _ (F.m _) (G.m _),q _ _ (F.m _) (G.m _)]
  by_cases c1:f (-1)=g (-1)
  ·rw [C7 (p:=f (-1)≠g (-1)) (fun z=>z c1),Ea,Ea]
  by_cases c2:f n=g n
  ·rw [C7 (p:=f n≠g n) (fun z=>z c2),Ea,Ea]
  dsimp only
  rw [← T.ren.iv,← T.ren.iv,← T.ren.iv,
   T.od _ (F.i _) _ (F.m _) _ (G.m _) (F.st' n).symm (by rw [e1];exact (G.st' n).symm) c2,
   T.od _ (F.m 0) _ (F.i _) _ (G.i _) F.s0 (by rw [e0];exact G.s0) (wq c1),CZ]
 ·rw [C7 hn,Ea,Ea]
theorem uH {f g:Int→L}{φ:L→L}(h:∀ i j,φ (f i) = φ (g j)→f i=g j):∀ (b k:Nat),frN (fun i=>φ (f i)) (fun i=>φ (g i)) k b=frN f g k b
 | 0,_=>rfl
 | b+1,k=>by
  unfold frN
  by_cases e:f k=g k
  ·rw [if_pos e,if_pos (by rw [e])]
   exact uH h b (k+1)
  ·rw [if_neg e,if_neg (fun z=>e (h _ _ z))]
theorem zC {f g:Int→L}{N:Nat}:∀ j:Nat,j < frN f g 0 N→f j=g j:=fun j hj=>(fP f g N 0).2.2.1 j (D2 _) hj
theorem kA {w:List L}(h:0 < w.length)(f:L→L)(j:Int):atZ (w.map f) j=f (atZ w j):=by
 have e0:=EV j (show (w.length:Int)≠0 by omega)
 have e1:=Ez j (show (0:Int) < (w.length:Int) by omega)
 unfold atZ
 rw [C4,Dx,Dx,DG,fu (show (j % (w.length:Int)).toNat < w.length by omega)]
 rfl
theorem uI {w:List L}(h:0 < w.length){f:L→L}(iv:∀ x,f (inv x)=inv (f x))(p wy:Int):sgZ (w.map f) p wy=fun k=>f (sgZ w p wy k):=by
 funext k
 unfold sgZ
 rw [kA h]
 split
 ·rfl
 ·rw [iv]
theorem fR {W:List (List L)}{f:L→L}{i:Int}:wyZ (W.map (List.map f)) i=(wyZ W i).map f:=by
 unfold wyZ
 rw [Dx,Dx,DG]
 cases W[i.toNat]? <;> rfl
theorem Bx {n:Nat}{u v:List L}{f:L→L}{k:Bool}(U:SK u n)(T:Tl u v f k){W:List (List L)}(hW:WyR n W){s t:P2}(hs:okP W s)(ht:okP W t):lkZ v (W.map (List.map f)) s t=lkZ u W s t:=by
 obtain ⟨_,_,R1,_,l1,i1⟩:=hW.get hs.1 hs.2.1
 obtain ⟨_,_,R2,_,l2,i2⟩:=hW.get ht.1 ht.2.1
 have ef:∀ wy,fZ (W.map (List.map f)) s wy=fun k=>f (fZ W s wy k):=fun wy=>by
  unfold fZ
  rw [fR,uI l1 T.ren.iv]
 have eg:∀ wy,fZ (W.map (List.map f)) t wy=fun k=>f (fZ W t wy k):=fun wy=>by
  unfold fZ
  rw [fR,uI l2 T.ren.iv]
 have F:∀ wy:Int,(wy=1 ∨ wy = -1)→Wlk u (fZ W s wy):=fun wy h=>uG U R1 i1 h _
 have G:∀ wy:Int,(wy=1 ∨ wy = -1)→Wlk u (fZ W t wy):=fun wy h=>uG U R2 i2 h _
 have en:∀ wy:Int,(wy=1 ∨ wy = -1)→nZ (W.map (List.map f)) s t wy=nZ W s t wy:=fun wy h=>by
  unfold nZ
  rw [ef,eg,fR,fR,C4,C4]
  exact uH (fun i j e=>T.ren.inj _ ((F 1 (.inl rfl)).m _) _ ((G wy h).m _) e) _ _
 have ep:∀ wy:Int,(wy=1 ∨ wy = -1)→ptB v (fZ (W.map (List.map f)) s 1) (fZ (W.map (List.map f)) t wy) (nZ W s t wy)=ptB u (fZ W s 1) (fZ W t wy) (nZ W s t wy):=fun wy h=>by
  rw [ef,eg]
  exact Bw T (F 1 (.inl rfl)) (G wy h) zC
 unfold lkZ AD AE ql nD
 rw [en 1 (.inl rfl),en (-1) (.inr rfl),ep 1 (.inl rfl),ep (-1) (.inr rfl),ef,eg,fR,C4]
 have F1:=F 1 (.inl rfl)
 have G1:=G 1 (.inl rfl)
 rw [show dO v (inv (f (fZ W s 1 0))) (f (fZ W s 1 1)) (inv (f (fZ W t 1 0))) (f (fZ W t 1 1))=dO u (inv (fZ W s 1 0)) (fZ W s 1 1) (inv (fZ W t 1 0)) (fZ W t 1 1) by
  rw [← T.ren.iv,← T.ren.iv]
  exact wu T (F1.i _) (F1.m _) (G1.i _) (G1.m _)]
theorem iV {α β:Type}{f g:α→List β}:∀ {l:List α},(∀ x∈l,f x=g x)→l.flatMap f=l.flatMap g
 | [],_=>rfl
 | x::l,h=>by rw [List.flatMap_cons,List.flatMap_cons,h x Dz,iV fun y hy=>h y (Dg _ hy)]
theorem zD {n:Nat}{u v:List L}{f:L→L}{k:Bool}(U:SK u n)(T:Tl u v f k){W:List (List L)}(hW:WyR n W){i j:Int}(i0:0≤i)(i1:i < (W.length:Int))(j0:0≤j)(j1:j < (W.length:Int)):nk v (W.map (List.map f)) i j (wyZ (W.map (List.map f)) i).length=nk u W i j (wyZ W i).length:=by
 rw [fR,C4]
 unfold nk
 refine iV fun p hp=>?_
 unfold qX
 rw [fR,C4]
 rw [HL] at hp
 refine iV fun q hq=>?_
 rw [HL] at hq
 exact Bx U T hW ⟨i0,i1,by show (0:Int)≤(p:Int);omega,by show (p:Int) < ((wyZ W i).length:Int);omega⟩ ⟨j0,j1,by show (0:Int)≤(q:Int);omega,by show (q:Int) < ((wyZ W j).length:Int);omega⟩
def hF (u w v:List L)(s:P2):Bool:=dO u (inv (sgZ w s.1 1 0)) (sgZ w s.1 1 1) (inv (sgZ v s.2 1 0)) (sgZ v s.2 1 1)
def nW (w v:List L)(wy:Int)(s:P2):Nat:=frN (sgZ w s.1 1) (sgZ v s.2 wy) 0 (w.length+v.length)
def hP (u w v:List L)(wy:Int)(s:P2):Bool:=ptB u (sgZ w s.1 1) (sgZ v s.2 wy) (nW w v wy s)
end Kx
namespace L2
open PySem PySem.Spec PyProof.Rows
end L2
namespace Kx
open PySem PySem.Spec PyProof.Rows L2 Wd Tv
@[irreducible] def sml (m:Int):List L:=([0,1,2,3,4,5]:List L).take m.toNat
theorem jG {m:Int}(h:1≤m):Txt.slice ("abcdef":Str) none (some m)=toS (sml m):=by
 rw [← vc,bp,fk _ (by omega)]
 unfold sml
 rfl
theorem nq {m:Int}:(sml m).length≤6:=by
 unfold sml
 rw [Dw]
 exact Nat.min_le_right _ _
theorem gK {α:Type}:∀ {xs:List α} {k:Nat} {x:α},xs[k]? = some x→xs.Perm (x::xs.eraseIdx k)
 | [],k,x,h=>by simp at h
 | y::r,0,x,h=>by simp at h;subst h;exact Fs _
 | y::r,k+1,x,h=>by
  have:=gK (xs:=r) (k:=k) (x:=x) (by simpa using h)
  exact (List.Perm.cons y this).trans (List.Perm.swap _ _ _)
theorem nt (W:List L):L2.iq (toS W)=dz W:=by
 unfold L2.iq dz
 rw [a_,D9]
 rfl
theorem jH {α β:Type}(g:α→β):∀ (xs:List α) (k:Nat),(xs.map g).eraseIdx k=(xs.eraseIdx k).map g
 | [],k=>by simp
 | x::r,0=>by simp
 | x::r,k+1=>by
  rw [DQ,Ht,Ht,DQ,jH g r k]
theorem nu (W:List L)(k:Nat):(dz W).eraseIdx k=dz (W.eraseIdx k):=jH _ W k
end Kx
namespace L2
open PySem PySem.Spec PyProof.Rows Wd
section
variable {X:Cx}
end
end L2
namespace Kx
open PySem PySem.Spec PyProof.Rows L2 Wd Tv
def ins (u:List L)(p:Nat)(z:L):List L:=u.take p++z::u.drop p
structure Od (u v:List L):Prop where
 m:∀ x∈u,x∈v
 o:∀ x∈u,∀ y∈u,v.idxOf x < v.idxOf y ↔ u.idxOf x < u.idxOf y
theorem By {u v:List L}(h:Od u v):Tl u v id false:=⟨zA u,fun e he x hx y hy n1 n2 n3=>by
 show decide (rfI v e x < rfI v e y)=_
 have o1:=h.o e he x hx
 have o2:=h.o x hx e he
 have o3:=h.o e he y hy
 have o4:=h.o y hy e he
 have o5:=h.o x hx y hy
 have o6:=h.o y hy x hx
 have b1:u.idxOf e≠u.idxOf x:=fun z=>n1 (bU he hx z)
 have b2:u.idxOf e≠u.idxOf y:=fun z=>n2 (bU he hy z)
 have b3:u.idxOf x≠u.idxOf y:=fun z=>n3 (bU hx hy z)
 have a1:=bq he
 have a2:=bq hx
 have a3:=bq hy
 have c1:=bq (h.m e he)
 have c2:=bq (h.m x hx)
 have c3:=bq (h.m y hy)
 rw [cg (h.m e he) (h.m x hx),cg (h.m e he) (h.m y hy),cg he hx,cg he hy,Hb,Hy]
 generalize u.idxOf e=a at *
 generalize u.idxOf x=b at *
 generalize u.idxOf y=c at *
 generalize v.idxOf e=a' at *
 generalize v.idxOf x=b' at *
 generalize v.idxOf y=c' at *
 generalize u.length=n at *
 generalize v.length=n' at *
 split <;> split <;> split <;> split <;> omega⟩
def dJ (ns:List Int):List PyData:=ns.map .int
theorem wx {H:Hp}:∀ ns:List Int,Dts H (ns.map V.int) (dJ ns)
 | []=>.nil
 | n::ns=>.cons (.int n) (wx ns)
theorem zE:∀ ns:List Int,PyData.canLayAll0 (dJ ns)=true
 | []=>rfl
 | n::ns=>zE ns
theorem zF:∀ ns:List Int,PyData.depthAll (dJ ns)=0
 | []=>rfl
 | n::ns=>by show max 0 (PyData.depthAll (dJ ns))=0;rw [zF ns];rfl
theorem uJ (r:List Int):(PyData.list (dJ r)).canLay0=true:=by
 unfold PyData.canLay0
 exact zE r
theorem zG (r:List Int):(PyData.list (dJ r)).depth≤10:=by
 show PyData.depthAll (dJ r)+1≤10
 rw [zF]
 decide
def sm {α:Type}(h:α→Int):List α→Int
 | []=>0
 | x::l=>h x+sm h l
def sgn (u:List L)(x y:L):Int:=if u.idxOf x < u.idxOf y then 1 else if u.idxOf y < u.idxOf x then -1 else 0
def ch (u:List L)(a b c d:L):Int:=sgn u a c - sgn u a d - sgn u b c+sgn u b d
theorem at_mod {w:List L}{i j:Int}(h:i % (w.length:Int)=j % (w.length:Int))(c:Int):atZ w (i+c)=atZ w (j+c):=by
 unfold atZ
 rw [G9,h,← G9]
def c2 (u w v:List L)(s:P2):Int:=ch u (inv (atZ w s.1)) (atZ w (s.1+1)) (inv (atZ v s.2)) (atZ v (s.2+1))
def eA (w v:List L)(s:P2):Bool:=decide (atZ w s.1=atZ v s.2∧atZ w (s.1+1)≠atZ v (s.2+1))
theorem mz (ws:List (List L)):(PyData.list (dws ws)).canLay0=true:=by
 unfold PyData.canLay0
 exact jy ws
theorem sW {u:List L}(U:Srf u):(hol u).flatten.length=u.length:=(eI U).pm.length_eq
theorem zH {u:List L}(U:Srf u){w:List L}(hw:w∈hol u):w≠[]∧w.length≤12:=by
 refine ⟨((eI U).cy w hw).ne,?_⟩
 have h1:=List.Sublist.length_le (GQ hw)
 have h2:=sW U
 have:=U.le
 omega
theorem jI:∀ ws:List (List L),PyData.depthAll (dws ws)≤0
 | []=>Da _
 | w::ws=>by
  have:=jI ws
  show max (PyData.depth (.str (toS w))) (PyData.depthAll (dws ws))≤0
  have:PyData.depth (.str (toS w))=0:=rfl
  omega
def qq (x y:L):L:=if y.val % 6 < x.val % 6 then y else y+1
theorem wz:∀ x y:L,qq x (inv y)=inv (qq x y):=by decide
theorem wA:∀ x y z:L,x.val < 6→y.val % 6 < 5→z.val % 6 < 5→qq x y=qq x z→y=z:=by decide
theorem qr:∀ x y:L,x.val < 6→y.val % 6≠x.val→qq x (br x y)=y:=by decide
theorem qt:∀ x y:L,x.val < 6→y.val % 6≠x.val→br x (inv y)=inv (br x y):=by decide
theorem wB:∀ x y z:L,x.val < 6→y.val % 6≠x.val→z.val % 6≠x.val→br x y=br x z→y=z:=by decide
theorem fS:∀ x y:L,x.val < 6→(y.val % 6≠x.val ↔ y≠x∧y≠inv x):=by decide
theorem zI:∀ (n:Fin 7) (x y:L),x.val < n.val→y.val % 6 < n.val→y.val % 6≠x.val→(br x y).val % 6 < n.val - 1:=by decide
theorem wC:∀ (n:Fin 7) (x:Fin 6),x.val < n.val→(((fam n.val).filter fun y=>decide (y.val % 6≠x.val)).map (br ⟨x.val,by omega⟩)).isPerm (fam (n.val - 1))=true:=by decide
def dP (u:List L)(x:L):List L:=u.filter fun y=>decide (y.val % 6≠x.val)
theorem eU {u:List L}{x:L}(hx:x.val < 6):d5 u x=(dP u x).map (br x):=by
 unfold d5 dP
 rw [List.filter_filter]
 refine DH _ (List.filter_congr fun y _=>?_)
 have key:=fS x y hx
 show (decide (y≠inv x) && decide (y≠x))=_
 rw [← Bool.decide_and]
 exact Hy.mpr ⟨fun h=>key.mpr ⟨h.2,h.1⟩,fun h=>⟨(key.mp h).2,(key.mp h).1⟩⟩
theorem fT {u:List L}{n:Nat}{x:L}(U:SK u n)(h2:2≤n)(hx:x.val < n):SK (d5 u x) (n - 1):=by
 have h6:=U.hi
 rw [eU (by omega)]
 refine ⟨?_,by omega,by omega⟩
 have p:=List.isPerm_iff.mp (wC ⟨n,by omega⟩ ⟨x.val,by omega⟩ hx)
 exact ((U.pm.filter _).map _).trans p
theorem cJ {u:List L}{x y:L}:y∈dP u x ↔ y∈u∧y.val % 6≠x.val:=by
 unfold dP
 rw [FV]
 exact and_congr Iff.rfl (Dl)
theorem d9 (p:L→Bool):∀ (l:List L) (a b:L),a∈l→b∈l→p a=true→p b=true→((l.filter p).idxOf a < (l.filter p).idxOf b ↔ l.idxOf a < l.idxOf b)
 | [],a,b,h,_,_,_=>by cases h
 | z::t,a,b,ha,hb,pa,pb=>by
  by_cases hz:p z=true
  ·rw [List.filter_cons_of_pos hz,Fz,Fz,Fz,Fz]
   by_cases ea:z=a
   ·by_cases eb:z=b
    ·subst ea;subst eb;simp
    ·subst ea
     rw [EA,Fc eb]
     show 0 < _+1 ↔ 0 < _+1
     omega
   ·by_cases eb:z=b
    ·subst eb
     rw [EA,Fc ea]
     show _+1 < 0 ↔ _+1 < 0
     omega
    ·have ea':(z == a)=false:=Fc ea
     have eb':(z == b)=false:=Fc eb
     rw [ea',eb']
     have:=d9 p t a b (by rcases Dj.mp ha with h | h;exact absurd h.symm ea;exact h) (by rcases Dj.mp hb with h | h;exact absurd h.symm eb;exact h) pa pb
     show _+1 < _+1 ↔ _+1 < _+1
     omega
  ·have ea:z≠a:=fun e=>hz (by rw [e];exact pa)
   have eb:z≠b:=fun e=>hz (by rw [e];exact pb)
   rw [Fk hz,Fz,Fz,Fc ea,Fc eb]
   have:=d9 p t a b (by rcases Dj.mp ha with h | h;exact absurd h.symm ea;exact h) (by rcases Dj.mp hb with h | h;exact absurd h.symm eb;exact h) pa pb
   show _ ↔ _+1 < _+1
   omega
theorem zJ (u:List L)(x:L):Od (dP u x) u:=⟨fun y hy=>(cJ.mp hy).1,fun a ha b hb=>(d9 _ u a b (cJ.mp ha).1 (cJ.mp hb).1 (C_ (cJ.mp ha).2) (C_ (cJ.mp hb).2)).symm⟩
theorem qu {u:List L}{n:Nat}{x:L}(U:SK u n)(h2:2≤n)(hx:x.val < n):Ren (d5 u x) (qq x):=⟨wz x,fun a ha b hb e=>by
 have S:=fT U h2 hx
 have h6:=U.hi
 have:=(S.mem a).mp ha
 have:=(S.mem b).mp hb
 exact wA x a b (by omega) (by omega) (by omega) e⟩
theorem iX {u:List L}{x:L}(hx:x.val < 6):(d5 u x).map (qq x)=dP u x:=by
 rw [eU hx,D9]
 exact (ED fun y hy=>qr x y hx (cJ.mp hy).2).trans (List.map_id _)
theorem zK {u:List L}{n:Nat}{x:L}(U:SK u n)(h2:2≤n)(hx:x.val < n):Tl (d5 u x) u (qq x) false:=by
 have S:=fT U h2 hx
 have R:=qu U h2 hx
 have h6:=U.hi
 have T1:=zB R S.srf.nd
 rw [iX (by omega)] at T1
 have T2:=By (zJ u x)
 have m:∀ y∈d5 u x,qq x y∈dP u x:=fun y hy=>by
  rw [← iX (u:=u) (x:=x) (by omega)]
  exact DN.mpr ⟨y,hy,rfl⟩
 refine ⟨R,fun e he a ha b hb n1 n2 n3=>?_⟩
 have q:=T2.od _ (m e he) _ (m a ha) _ (m b hb) (fun z=>n1 (R.inj _ he _ ha z)) (fun z=>n2 (R.inj _ he _ hb z)) (fun z=>n3 (R.inj _ ha _ hb z))
 have r:=T1.od e he a ha b hb n1 n2 n3
 rw [Hb] at q r ⊢
 exact q.trans r
structure Gw (n:Nat) (x:L) (w:List L):Prop where
 gr:GR n 8 w
 off:∀ y∈w,y.val % 6≠x.val
theorem Gw.low {u:List L}{n:Nat}{x:L}(U:SK u n)(h2:2≤n)(hx:x.val < n){w:List L}(h:Gw n x w):GR (n - 1) 8 (w.map (br x)):=by
 have h6:=U.hi
 have hI:∀ y∈w,y.val % 6 < n:=h.gr.2.2
 refine ⟨?_,by rw [C4];exact h.gr.2.1,fun z hz=>?_⟩
 ·have lp:=D4.mpr h.gr.1.ne
  refine zy (by simpa using h.gr.1.ne) fun k _=>?_
  rw [kA lp,kA lp]
  have m1:=h.off _ (ko lp (k:Int))
  have m2:=h.off _ (ko lp ((k:Int) - 1))
  rw [← qt x _ (by omega) m2]
  have:=rnd_at h.gr.1 ((k:Int) - 1)
  rw [show (k:Int) - 1+1=k by omega] at this
  exact fun e=>this (wB x _ _ (by omega) m1 (by rw [d3];exact m2) e)
 ·obtain ⟨y,hy,rfl⟩:=DN.mp hz
  exact zI ⟨n,by omega⟩ x y hx (hI y hy) (h.off y hy)
theorem wD {x:L}(hx:x.val < 6):∀ {W:List (List L)},(∀ w∈W,∀ y∈w,y.val % 6≠x.val)→(W.map (List.map (br x))).map (List.map (qq x))=W:=fun {W} h=>by
 rw [D9]
 refine (ED fun w hw=>?_).trans (List.map_id _)
 show (w.map (br x)).map (qq x)=w
 rw [D9]
 exact (ED fun y hy=>qr x y hx (h w hw y hy)).trans (List.map_id _)
theorem qv {u:List L}{n:Nat}{x:L}(U:SK u n)(h2:2≤n)(hx:x.val < n){W:List (List L)}(hW:∀ w∈W,Gw n x w)(lo:1≤W.length)(le:W.length≤4){i j:Int}(i0:0≤i)(i1:i < (W.length:Int))(j0:0≤j)(j1:j < (W.length:Int)) :
  WyR n W∧WyR (n - 1) (W.map (List.map (br x)))∧nk u W i j (wyZ W i).length=nk (d5 u x) (W.map (List.map (br x))) i j (wyZ (W.map (List.map (br x))) i).length:=by
 have h6:=U.hi
 have S:=fT U h2 hx
 have T:=zK U h2 hx
 have A:WyR n W:=⟨le,lo,fun w hw=>⟨(hW w hw).gr.1,DO (hW w hw).gr.2.1 (by decide),(hW w hw).gr.2.2⟩⟩
 have B:WyR (n - 1) (W.map (List.map (br x))):=⟨by rw [C4];exact le,by rw [C4];exact lo,fun z hz=>by
  obtain ⟨w,hw,rfl⟩:=DN.mp hz
  have g:=(hW w hw).low U h2 hx
  exact ⟨g.1,DO g.2.1 (by decide),g.2.2⟩⟩
 refine ⟨A,B,?_⟩
 have:=zD S T B (i:=i) (j:=j) i0 (by rw [C4];exact i1) j0 (by rw [C4];exact j1)
 rwa [wD (by omega) fun w hw=>(hW w hw).off] at this
theorem wF {u:List L}{x:L}(nd:u.Nodup)(hx:x.val < 6)(h1:x∈u)(h2:inv x∈u):Out u x (inv x) (dP u x):=by
 obtain ⟨A,B,rfl⟩:=Eo h1
 have ix:=cC x
 have n1:=EM.nodup_iff.mp nd
 obtain ⟨n2,n3⟩:=DE.mp n1
 have h3:inv x∈A++B:=by
  have:=EM.mem_iff.mp h2
  rcases Dj.mp this with h | h
  ·exact absurd h ix
  ·exact h
 obtain ⟨C,D,e⟩:=Eo h3
 refine ⟨A,B,C,D,rfl,e,?_⟩
 have k1:dP (A++x::B) x=dP (A++B) x:=by
  unfold dP
  rw [Fv,Fv,Fk (by simp [El hx])]
 rw [k1,e]
 unfold dP
 rw [Fv,Fk (by simp [d3,El hx]),← Fv]
 rw [e] at n2 n3
 have n4:=(DE.mp (EM.nodup_iff.mp n3)).1
 refine List.filter_eq_self.mpr fun y hy=>C_ ((fS x y hx).mpr ⟨fun e=>n2 ?_,fun e=>n4 (e ▸ hy)⟩)
 subst e
 rcases DB.mp hy with h | h
 ·exact DM _ h
 ·exact Di _ (Dg _ h)
theorem mB {α:Type}:∀ {Ws:List (List α)},Ws.flatten.Nodup→∀ {i j:Nat} {a b:List α} {x:α},Ws[i]? = some a→Ws[j]? = some b→x∈a→x∈b→i=j
 | [],_,i,j,a,b,x,h,_,_,_=>by simp at h
 | w::T,nd,i,j,a,b,x,h1,h2,ha,hb=>by
  rw [DW] at nd
  obtain ⟨n1,n2,n3⟩:=Eh.mp nd
  cases i with
  | zero =>
   cases j with
   | zero=>rfl
   | succ j =>
    have e:w=a:=by simpa using h1
    subst e
    exact absurd rfl (n3 x ha x (Ef.mpr ⟨b,DP h2,hb⟩))
  | succ i =>
   cases j with
   | zero =>
    have e:w=b:=by simpa using h2
    subst e
    exact absurd rfl (n3 x hb x (Ef.mpr ⟨a,DP h1,ha⟩))
   | succ j=>exact DH (· + 1) (mB n2 (i:=i) (j:=j) h1 h2 ha hb)
theorem zL {u:List L}(U:Srf u):(hol u).flatten.Nodup:=(eI U).pm.nodup_iff.mpr U.nd
theorem qw {u:List L}(U:Srf u){x:L}(hx:x∈u):∃ p,p < (hol u).length∧∀ k w,(hol u)[k]? = some w→(x∈w ↔ k=p):=by
 obtain ⟨w,hw,hxw⟩:=Ef.mp ((eI U).pm.mem_iff.mpr hx)
 obtain ⟨p,hp,e⟩:=Fh hw
 have e':(hol u)[p]? = some w:=by rw [fu hp,e]
 refine ⟨p,hp,fun k v hv=>⟨fun h=>mB (zL U) hv e' h hxw,fun h=>?_⟩⟩
 subst h
 rw [e'] at hv
 cases hv
 exact hxw
theorem wG {u:List L}{n:Nat}{x:L}(U:SK u n)(h2:2≤n)(hx:x.val < n){p q:Nat}(hp:∀ k w,(hol u)[k]? = some w→(x∈w ↔ k=p))(hq:∀ k w,(hol u)[k]? = some w→(inv x∈w ↔ k=q)) :
  ((hol (d5 u x)).length:Int)=((hol u).length:Int)+(if p=q then 1 else -1):=by
 have h6:=U.hi
 have S:=fT U h2 hx
 have R:=qu U h2 hx
 have mx:x∈u:=(U.mem x).mpr (by rw [El (by omega)];exact hx)
 have mi:inv x∈u:=U.srf.iv x mx
 have d1:=ux R S.srf
 rw [iX (by omega)] at d1
 obtain ⟨Vs,d2,c⟩:=l_ U.srf (by rw [U.len];omega) mx (wF U.srf.nd (by omega) mx mi) (eI U.srf)
 have O:=Ren.srf R S.srf
 rw [iX (by omega)] at O
 have l:=uv (uo O) d1 d2
 rw [C4] at l
 rcases c with ⟨c,w,hw,a,b⟩ | ⟨c,w,hw,a,b⟩
 ·obtain ⟨k,hk,e⟩:=Fh hw
  have e':(hol u)[k]? = some w:=by rw [fu hk,e]
  rw [if_pos (((hp k w e').mp a).symm.trans ((hq k w e').mp b))]
  omega
 ·obtain ⟨k,hk,e⟩:=Fh hw
  have e':(hol u)[k]? = some w:=by rw [fu hk,e]
  rw [if_neg fun z=>b ((hq k w e').mpr (((hp k w e').mp a).trans z))]
  omega
theorem wH {u:List L}(U:Srf u):2*((1+(u.length:Int) / 2 - ((hol u).length:Int)) / 2)=(u.length:Int) / 2+1 - ((hol u).length:Int):=by
 obtain ⟨k,hk⟩:=vZ U
 omega
def jN (n:Nat)(x y:L):L:=if y=x then lt6 (n - 1) else if y=inv x then inv (lt6 (n - 1)) else br x y
theorem zM:∀ (n:Fin 7) (x y:L),x.val < n.val→jN n.val x (inv y)=inv (jN n.val x y):=by decide
theorem wI:∀ (n:Fin 7) (x y z:L),x.val < n.val→y.val % 6 < n.val→z.val % 6 < n.val→jN n.val x y=jN n.val x z→y=z:=by decide +kernel
theorem wJ {u:List L}{n:Nat}{x:L}(U:SK u n)(hx:x.val < n):Ren u (jN n x):=by
 have h6:=U.hi
 exact ⟨fun y=>zM ⟨n,by omega⟩ x y hx,fun a ha b hb e=>wI ⟨n,by omega⟩ x a b hx ((U.mem a).mp ha) ((U.mem b).mp hb) e⟩
theorem d_ {n:Nat}{x:L}(hx:x.val < 6){l:List L}(h:∀ y∈l,y≠x∧y≠inv x):l.map (jN n x)=l.map (br x):=ED fun y hy=>by
 unfold jN
 rw [if_neg (h y hy).1,if_neg (h y hy).2]
theorem fU {x:L}(a b:List L):dP (a++b) x=dP a x++dP b x:=Fv _ _
theorem cS {x:L}(hx:x.val < 6){l:List L}(h:∀ y∈l,y≠x∧y≠inv x):dP l x=l:=List.filter_eq_self.mpr fun y hy=>C_ ((fS x y hx).mpr (h y hy))
theorem mD {x y:L}(hy:y.val % 6=x.val)(l:List L):dP (y::l) x=dP l x:=Fk (by simp [hy])
theorem mE (A B:List L)(z:L):(A++B).take A.length++[z]++(A++B).drop A.length=A++z::B:=by
 rw [HP,List.drop_left]
 simp
theorem wK {u:List L}{n:Nat}{x:L}(U:SK u n)(hx:x.val < n) :
  gluW (d5 u x) (u.idxOf x - (if u.idxOf (inv x) < u.idxOf x then 1 else 0)) (u.idxOf (inv x)) (n - 1)=u.map (jN n x):=by
 have h6:=U.hi
 have hx6:x.val < 6:=by omega
 have nd:=U.srf.nd
 have ix:=cC x
 have mx:x∈u:=(U.mem x).mpr (by rw [El (by omega)];exact hx)
 have mi:inv x∈u:=U.srf.iv x mx
 have xm:x.val % 6=x.val:=El hx6
 have im:(inv x).val % 6=x.val:=by rw [d3];exact xm
 rw [eU hx6]
 obtain ⟨A,Z,e⟩:=Eo mx
 have r1:jN n x x=lt6 (n - 1):=by unfold jN;rw [if_pos rfl]
 have r2:jN n x (inv x)=inv (lt6 (n - 1)):=by unfold jN;rw [if_neg ix,if_pos rfl]
 rw [e] at nd mi
 have n1:=EM.nodup_iff.mp nd
 obtain ⟨n2,n3⟩:=DE.mp n1
 have nxA:x∉A:=fun h=>n2 (DM _ h)
 have nxZ:x∉Z:=fun h=>n2 (Di _ h)
 by_cases hZ:inv x∈Z
 ·obtain ⟨B,C,e2⟩:=Eo hZ
  subst e2
  subst e
  have n4:(A++B++inv x::C).Nodup:=by rw [Dh];exact n3
  have n5:=(DE.mp (EM.nodup_iff.mp n4)).1
  have gA:∀ y∈A,y≠x∧y≠inv x:=fun y hy=>⟨fun e=>nxA (e ▸ hy),fun e=>n5 (by rw [← e];simp [hy])⟩
  have gB:∀ y∈B,y≠x∧y≠inv x:=fun y hy=>⟨fun e=>nxZ (by rw [← e];simp [hy]),fun e=>n5 (by rw [← e];simp [hy])⟩
  have gC:∀ y∈C,y≠x∧y≠inv x:=fun y hy=>⟨fun e=>nxZ (by rw [← e];simp [hy]),fun e=>n5 (by rw [← e];simp [hy])⟩
  have i1:(A++x::(B++inv x::C)).idxOf x=A.length:=b5 nd (by rw [Dn (Da _),E5];rfl)
  have i2:(A++x::(B++inv x::C)).idxOf (inv x)=A.length+1+B.length:=b5 nd (by
   rw [Dn (by omega),show A.length+1+B.length - A.length=B.length+1 by omega,Ga,Dn (Da _),E5];rfl)
  rw [i1,i2,if_neg (by omega),HY,fU,mD xm,fU,mD im,cS hx6 gA,cS hx6 gB,cS hx6 gC]
  simp only [DU,DQ,r1,r2]
  rw [d_ hx6 gA,d_ hx6 gB,d_ hx6 gC]
  unfold gluW
  have a1:=mE (A.map (br x)) (B.map (br x)++C.map (br x)) (lt6 (n - 1))
  rw [C4] at a1
  simp only
  rw [a1,show A.map (br x)++lt6 (n - 1)::(B.map (br x)++C.map (br x))=(A.map (br x)++lt6 (n - 1)::B.map (br x))++C.map (br x) by simp,show A.length+1+B.length=(A.map (br x)++lt6 (n - 1)::B.map (br x)).length by simp;omega,mE]
  simp
 ·have hA:inv x∈A:=by
   rcases DB.mp mi with h | h
   ·exact h
   ·rcases Dj.mp h with h | h
    ·exact absurd h ix
    ·exact absurd h hZ
  obtain ⟨B,C,e2⟩:=Eo hA
  subst e2
  subst e
  have n4:(B++inv x::(C++Z)).Nodup:=by
   rw [Dh,List.cons_append] at n3;exact n3
  have n5:=(DE.mp (EM.nodup_iff.mp n4)).1
  have gB:∀ y∈B,y≠x∧y≠inv x:=fun y hy=>⟨fun e=>nxA (by rw [← e];simp [hy]),fun e=>n5 (by rw [← e];simp [hy])⟩
  have gC:∀ y∈C,y≠x∧y≠inv x:=fun y hy=>⟨fun e=>nxA (by rw [← e];simp [hy]),fun e=>n5 (by rw [← e];simp [hy])⟩
  have gZ:∀ y∈Z,y≠x∧y≠inv x:=fun y hy=>⟨fun e=>nxZ (by rw [← e];exact hy),fun e=>n5 (by rw [← e];simp [hy])⟩
  have i1:(B++inv x::C++x::Z).idxOf x=B.length+1+C.length:=b5 nd (by
   have l:(B++inv x::C).length=B.length+1+C.length:=by simp;omega
   rw [Dn (by omega),l,E5];rfl)
  have i2:(B++inv x::C++x::Z).idxOf (inv x)=B.length:=b5 nd (by
   rw [Dh,Dn (Da _),E5];rfl)
  rw [i1,i2,if_pos (by omega),show B.length+1+C.length - 1=B.length+C.length by omega,fU,mD xm,fU,mD im,cS hx6 gZ,cS hx6 gB,cS hx6 gC]
  simp only [DU,DQ,r1,r2]
  rw [d_ hx6 gZ,d_ hx6 gB,d_ hx6 gC]
  unfold gluW
  have a1:=mE (B.map (br x)++C.map (br x)) (Z.map (br x)) (lt6 (n - 1))
  rw [C8,C4,C4] at a1
  simp only
  rw [a1,show B.map (br x)++C.map (br x)++lt6 (n - 1)::Z.map (br x)=B.map (br x)++(C.map (br x)++lt6 (n - 1)::Z.map (br x)) by simp,show B.length=(B.map (br x)).length by simp,mE]
  simp
theorem zN {u:List L}{n:Nat}(n1:1≤n)(h6:n≤6)(nd:u.Nodup)(hl:u.length=2*n)(hi:∀ x∈u,x.val % 6 < n):SK u n:=by
 have p:=m5 (n:=n) ⟨hl,nd,hi⟩ h6
 have q:∀ n:Fin 7,(ends n.val).isPerm (fam n.val)=true:=by decide
 exact ⟨p.trans (List.isPerm_iff.mp (q ⟨n,by omega⟩)),n1,h6⟩
theorem zO:∀ (n:Fin 7) (x z:L),x.val < n.val→z.val % 6 < n.val→(jN n.val x z).val % 6 < n.val:=by decide +kernel
theorem wL {u:List L}{n:Nat}{x:L}(U:SK u n)(hx:x.val < n):SK (u.map (jN n x)) n∧(hol (u.map (jN n x))).length=(hol u).length:=by
 have R:=wJ U hx
 have h6:=U.hi
 have V:=R.srf U.srf
 refine ⟨zN U.lo h6 V.nd (by rw [C4,U.len]) fun y hy=>?_,?_⟩
 ·obtain ⟨z,hz,rfl⟩:=DN.mp hy
  exact zO ⟨n,by omega⟩ x z hx ((U.mem z).mp hz)
 ·have:=uv (uo V) (ux R U.srf) (eI V)
  rw [C4] at this
  exact this.symm
theorem zP {u:List L}{n p q:Nat}(R:Az n u)(h5:n≤5)(h1:1≤n):SK (gluW u p q n) (n+1):=by
 have pm:=sj (u:=u) (p:=p) (q:=q) (m:=n)
 have hn:∀ m:Fin 6,(lt6 m.val).val % 6=m.val∧(inv (lt6 m.val)).val % 6=m.val∧lt6 m.val≠inv (lt6 m.val):=by decide
 obtain ⟨a1,a2,a3⟩:=hn ⟨n,by omega⟩
 simp only at a1 a2 a3
 refine zN (by omega) (by omega) (pm.nodup_iff.mpr ?_) (by rw [pm.length_eq,Ds,Ds,R.len];omega) fun y hy=>?_
 ·refine DE.mpr ⟨fun h=>?_,DE.mpr ⟨fun h=>?_,R.nd⟩⟩
  ·rcases Dj.mp h with h | h
   ·exact a3 h
   ·have:=R.ins _ h;omega
  ·have:=R.ins _ h;omega
 ·rcases Dj.mp (pm.mem_iff.mp hy) with h | h
  ·rw [h];omega
  ·rcases Dj.mp h with h | h
   ·rw [h];omega
   ·have:=R.ins _ h;omega
theorem sX {x:L}(hx:x.val < 6)(y:L):(!decide (V.str (Txt.lower (toS [y]))=V.str (toS [x])))=decide (y.val % 6≠x.val):=by
 rw [yT x y hx]
 by_cases h:y.val % 6≠x.val
 ·have:=(fS x y hx).mp h
  rw [C_ h,C_ this.1,C_ this.2];rfl
 ·rw [C7 h]
  by_cases h1:y=x
  ·rw [C7 (fun e=>e h1),Ea]
  ·have:¬ y≠inv x:=fun e=>h ((fS x y hx).mpr ⟨h1,e⟩)
   rw [C7 this,Gq]
theorem zQ {x:L}(hx:x.val < 6){w:List L}(h:∀ y∈w,y.val % 6≠x.val):bk (w.map (br x))=(bk w).map (br x):=by
 unfold bk
 rw [List.map_reverse,D9,D9]
 exact DH List.reverse (ED fun y hy=>(qt x y hx (h y hy)).symm)
theorem qx {x:L}(hx:x.val < 6){w:List L}(h:∀ y∈w,y.val % 6≠x.val):¬ (x∈w ∨ inv x∈w):=by
 rintro (m | m)
 ·exact ((fS x x hx).mp (h _ m)).1 rfl
 ·exact ((fS x _ hx).mp (h _ m)).2 rfl
theorem wM {u:List L}{n:Nat}{x:L}(U:SK u n)(h2:2≤n)(hx:x.val < n):(dP u x).length=2*(n - 1):=by
 have h6:=U.hi
 have:=(fT U h2 hx).len
 rwa [eU (by omega),C4] at this
end Kx
namespace Kx
open PySem PySem.Spec PyProof.Rows L2 Wd
def top (i:Nat):Stmt:=PySem.Challenge.pw_ringwords_k72_whole_cut_and_glued.main.body.getD i (.Pass ⟨0,0,0,0⟩)
theorem qY {α:Type}{us:List α}(h:us.length=1):∃ a0,us=[a0]:=by
 cases us with
 | nil=>cases h
 | cons a0 us =>
  cases us with
  | nil=>exact ⟨a0,rfl⟩
  | cons b us=>cases h
theorem qZ {α:Type}{us:List α}(h:us.length=2):∃ a0 a1,us=[a0,a1]:=by
 cases us with
 | nil=>cases h
 | cons a0 us =>
  cases us with
  | nil=>cases h
  | cons a1 us =>
   cases us with
   | nil=>exact ⟨a0,a1,rfl⟩
   | cons b us=>cases h
theorem wN {α:Type}{us:List α}(h:us.length=3):∃ a0 a1 a2,us=[a0,a1,a2]:=by
 cases us with
 | nil=>cases h
 | cons a0 us =>
  cases us with
  | nil=>cases h
  | cons a1 us =>
   cases us with
   | nil=>cases h
   | cons a2 us =>
    cases us with
    | nil=>exact ⟨a0,a1,a2,rfl⟩
    | cons b us=>cases h
theorem xI {α:Type}{us:List α}(h:us.length=4):∃ a0 a1 a2 a3,us=[a0,a1,a2,a3]:=by
 cases us with
 | nil=>cases h
 | cons a0 us =>
  cases us with
  | nil=>cases h
  | cons a1 us =>
   cases us with
   | nil=>cases h
   | cons a2 us =>
    cases us with
    | nil=>cases h
    | cons a3 us =>
     cases us with
     | nil=>exact ⟨a0,a1,a2,a3,rfl⟩
     | cons b us=>cases h
theorem C0 {α:Type}{us:List α}(h:us.length=5):∃ a0 a1 a2 a3 a4,us=[a0,a1,a2,a3,a4]:=by
 cases us with
 | nil=>cases h
 | cons a0 us =>
  cases us with
  | nil=>cases h
  | cons a1 us =>
   cases us with
   | nil=>cases h
   | cons a2 us =>
    cases us with
    | nil=>cases h
    | cons a3 us =>
     cases us with
     | nil=>cases h
     | cons a4 us =>
      cases us with
      | nil=>exact ⟨a0,a1,a2,a3,a4,rfl⟩
      | cons b us=>cases h
section
variable {P:Program} {w:World} {K:PySem.W.Frag} {mg:Str→Option Value} {base:Heap} {aB:Addr}
abbrev qy:Stmt:=top 39
theorem wO:ax ["_law_feed_here","_law_many","_law_cell","_law_mixed","_law_found"] ["_law_feed_here","_law_many"] (ai qy):=⟨rfl,rfl,rfl,by decide +kernel,rfl,by decide +kernel,by decide +kernel⟩
theorem zR (D:Df K mg "_law_draw" qy)(T:Bt K w mg aB):Fnc P w K mg base "_law_draw" ["_law_feed_here","_law_many"] 1 jr:=by
 have sc:=wO
 refine D.ok sc (fun _ _ _ _ _ _ us hl=>by obtain ⟨_,_,rfl⟩:=qZ hl;rfl) (fun vs H Q E h=>?_) (fun f cdv A outer s H vs Q E hr h=>?_)
 ·obtain ⟨d,m,rfl,_⟩:=h
  rfl
 ·obtain ⟨d,m,rfl,F,m0,m1,k⟩:=h
  have hu:=rJ hr
  refine ⟨_,(@ah _ _ _ _ _ (@ff _ _ _ _ _ _ _ _ _ hu (pv 0) aK (@aI _ _ _ _ _ _ _ _ bA (@bT _ _ _ _ _ _ hu (pv 0) aK (fun _ _=>rfl)) aj) rfl) (@ah _ _ _ _ _ (@bV _ _ _ _ _ _ _ _ (@aJ _ _ _ _ _ _ _ _ dR (@bT _ _ _ _ _ _ hu (pv 0) aK (fun _ _=>rfl)) aj (aM _)) (@ah _ _ _ _ _ (@aC _ _ (2) _ _ _ _ sc.nd rfl (Or.inl rfl) (@aR _ _ _ _ _ _ _ bJ (@bT _ _ _ _ _ _ hu (pv 0) aK (fun _ _=>rfl)) (@aI _ _ _ _ _ _ _ _ cV (@bT _ _ _ _ _ _ hu (pv 0) aK (fun _ _=>rfl)) (@aq _ _ _ _ _ _ _ _ _ aH (by rfl) T.len Dq (@aa _ _ _ _ _ (@bT _ _ _ _ _ _ hu (pv 0) aK (fun _ _=>rfl)) af (by rfl)) (by decide) (by decide) (by rfl) (by rfl))) (fun _ _=>rfl)) (by rfl) (by first | exact .inl rfl | exact .inr rfl | assumption)) (@ah _ _ _ _ _ (@ff _ _ _ _ _ _ _ _ _ hu (pv 0) aK (@aI _ _ _ _ _ _ _ _ bA (@bT _ _ _ _ _ _ hu (pv 0) aK (fun _ _=>rfl)) aj) rfl) (@ah _ _ _ _ _ (@bV _ _ _ _ _ _ _ _ (@aJ _ _ _ _ _ _ _ _ gO (pv 2) (@aI _ _ _ _ _ _ _ _ xY aj aj) (aM _)) (@ah _ _ _ _ _ (@aC _ _ (3) _ _ _ _ sc.nd rfl (Or.inl rfl) (@aI _ _ _ _ _ _ _ _ cV (@aI _ _ _ _ _ _ _ _ eY (@aI _ _ _ _ _ _ _ _ bA (@aI _ _ _ _ _ _ _ _ cV (pv 2) aj) (@aI _ _ _ _ _ _ _ _ eY aj (@bT _ _ _ _ _ _ hu (pv 0) aK (fun _ _=>rfl)))) aj) aj) (by rfl) (by first | exact .inl rfl | exact .inr rfl | assumption)) (@ah _ _ _ _ _ (@aC _ _ (3) _ _ _ _ sc.nd rfl (Or.inl rfl) (@aI _ _ _ _ _ _ _ _ cV (@aI _ _ _ _ _ _ _ _ eY (@aI _ _ _ _ _ _ _ _ bA (@aI _ _ _ _ _ _ _ _ bR (pv 3) aj) (@aI _ _ _ _ _ _ _ _ eY aj (@bT _ _ _ _ _ _ hu (pv 0) aK (fun _ _=>rfl)))) aj) aj) (by rfl) (by first | exact .inl rfl | exact .inr rfl | assumption)) (@ak _ _ _ (@aG _ _ _ _ (@aI _ _ _ _ _ _ _ _ cV (@aI _ _ _ _ _ _ _ _ bR (pv 3) aj) (pv 1)))))) aX) (@ak _ _ _ (@ff _ _ _ _ _ _ _ _ _ hu (pv 0) aK (pv 2) rfl))))) aX) (@ah _ _ _ _ _ (@aC _ _ (4) _ _ _ _ sc.nd rfl (Or.inl rfl) (@aI _ _ _ _ _ _ _ _ cV (@bT _ _ _ _ _ _ hu (pv 0) aK (fun _ _=>rfl)) (pv 1)) (by rfl) (by first | exact .inl rfl | exact .inr rfl | assumption)) (@ah _ _ _ _ _ (@ff _ _ _ _ _ _ _ _ _ hu (pv 0) aK (@aI _ _ _ _ _ _ _ _ bR (@bT _ _ _ _ _ _ hu (pv 0) aK (fun _ _=>rfl)) (pv 1)) rfl) (@ak _ _ _ (@aG _ _ _ _ (pv 4))))))),?_⟩
  obtain ⟨c,i,l,t,ns,hd,hc,hne,h64⟩:=F.ex
  have dc:c≠d:=q9 hc hd (by intro z;cases z)
  have fin:∀ (r i' l' t':Int),0≤r→r < m→Q (.int r) (upd H d (.dK (fkv c i' l' t'))):=fun r i' l' t' h0 h1 =>
   k r _ h0 h1 ⟨c,i',l',t',ns,ag,by rw [ay dc];exact hc,hne,h64⟩ bL.upd
  have c1:∀ o,(upd H d o) c=some (.lst (ns.map V.int)):=fun o=>by rw [ay dc];exact hc
  have hl0:(0:Int) < ((ns.map V.int).length:Int):=by
   rw [C4]
   have:=D4.mpr hne
   omega
  refine ⟨_,rfl,d,_,rfl,dg hd (oK c i l t),_,_,rfl,rfl,_,rfl,d,_,rfl,dp hd (fo c i l t) (yz c i l t _),?_⟩
  refine ⟨_,rfl,d,_,rfl,dg ag (jq c i l _),rfl,_,rfl,?_⟩
  refine qT (fun _=>?_) (fun _=>?_)
  rotate_left
  ·refine ⟨_,rfl,d,_,rfl,dg ag (jq c _ _ _),_,rfl,_,_,rfl,rfl,m0,?_⟩
   refine ⟨_,rfl,d,_,rfl,dg ag (jq c _ _ _),_,rfl,_,_,rfl,rfl,⟨m0,by omega⟩,_,rfl,d,_,rfl,dp ag (fo c _ _ _) (oM c _ _ _ _),?_⟩
   refine ⟨_,rfl,?_⟩
   rw [eV]
   exact fin _ _ _ _ (EV _ (by omega)) (Ez _ m0)
  obtain ⟨n,hn⟩:=vg hne i
  refine ⟨_,rfl,d,_,rfl,dg ag (oJ c i l _),_,rfl,d,_,rfl,dg ag (Ca c i l _),_,rfl,d,_,rfl,dg ag (oJ c i l _),c,_,rfl,.inl (SqL.of (c1 _)),_,_,rfl,rfl,hl0,c,_,_,_,rfl,rfl,SqL.of (c1 _),hn,?_⟩
  refine ⟨_,rfl,d,_,rfl,dg ag (Ca c i l _),_,_,rfl,rfl,_,rfl,d,_,rfl,dp ag (fo c i l _) (CL c i l _ _),?_⟩
  rw [eV]
  refine ⟨_,rfl,_,_,rfl,rfl,⟨by decide,by decide,by decide⟩,_,_,rfl,rfl,_,rfl,?_⟩
  refine qT (fun _=>?_) (fun _=>?_)
  ·refine ⟨_,rfl,_,_,rfl,rfl,(by show (0:Int) < 2147483629;decide),_,rfl,d,_,rfl,dg ag (oK c _ l _),_,_,rfl,rfl,.inl ⟨by decide,by decide⟩,_,_,rfl,rfl,_,_,rfl,rfl,.inr ⟨by decide,by decide⟩,_,_,rfl,rfl,(by show (0:Int) < 2147483647;decide),?_⟩
   refine ⟨_,rfl,_,_,rfl,rfl,⟨by decide,by decide⟩,_,rfl,d,_,rfl,dg ag (oK c _ l _),_,_,rfl,rfl,.inl ⟨by decide,by decide⟩,_,_,rfl,rfl,_,_,rfl,rfl,.inr ⟨by decide,by decide⟩,_,_,rfl,rfl,(by show (0:Int) < 2147483587;decide),?_⟩
   refine ⟨_,rfl,_,_,rfl,rfl,⟨by decide,by decide⟩,_,rfl,_,_,rfl,rfl,m0,?_⟩
   exact fin _ _ _ _ (EV _ (by omega)) (Ez _ m0)
  ·refine ⟨_,rfl,_,rfl,d,_,rfl,dp ag (fo c _ l _) (oM c _ l _ _),?_⟩
   rw [eV]
   refine ⟨_,rfl,d,_,rfl,dg ag (jq c _ _ _),_,rfl,_,_,rfl,rfl,m0,?_⟩
   refine ⟨_,rfl,d,_,rfl,dg ag (jq c _ _ _),_,rfl,_,_,rfl,rfl,⟨m0,by omega⟩,_,rfl,d,_,rfl,dp ag (fo c _ _ _) (oM c _ _ _ _),?_⟩
   refine ⟨_,rfl,?_⟩
   rw [eV]
   exact fin _ _ _ _ (EV _ (by omega)) (Ez _ m0)
abbrev qz:Stmt:=top 38
theorem wQ:ax ["_law_script"] ["_law_script"] (ai qz):=⟨rfl,rfl,rfl,by decide +kernel,rfl,by decide +kernel,by decide +kernel⟩
theorem zT (D:Df K mg "_law_feed" qz)(T:Bt K w mg aB):Fnc P w K mg base "_law_feed" ["_law_script"] 1 (oO K):=by
 have sc:=wQ
 refine D.ok sc (fun _ _ _ _ _ _ us hl=>by obtain ⟨_,rfl⟩:=qY hl;rfl) (fun vs H Q E h=>?_) (fun f cdv A outer s H vs Q E hr h=>?_)
 ·obtain ⟨a,ns,rfl,_⟩:=h
  rfl
 ·obtain ⟨a,ns,rfl,hS,hlen,k⟩:=h
  have hu:=rJ hr
  refine ⟨_,(@ak _ _ _ (@aG _ _ _ _ (@u6 _ _ _ _ _ (@eN _ _ _ _ _ _ _ _ _ aK (@aI _ _ _ _ _ _ _ _ ym (@bu _ _ _ _ _ _ _ _ _ jf (by rfl) T.list oP (@aa _ _ _ _ _ (@ba _ _ _ _ _ _ _ _ _ _ jU (pv 0) bx (@bh _ _ _ aj)) af (by rfl)) (by decide) (by decide) (by rfl) (by rfl)) (@aI _ _ _ _ _ _ _ _ yn (@bH _ _ _ _ (@aa _ _ _ _ _ aj af (by rfl))) (@bu _ _ _ _ _ _ _ _ _ e9 (by rfl) T.int vh (@aa _ _ _ _ _ (@de _ _ _ _ _ _ _ _ dR (@aq _ _ _ _ _ _ _ _ _ aH (by rfl) T.len Dq (@aa _ _ _ _ _ (pv 0) af (by rfl)) (by decide) (by decide) (by rfl) (by rfl)) aj (aM _)) af (by rfl)) (by decide) (by decide) (by rfl) (by rfl)))) (@eN _ _ _ _ _ _ _ _ _ aK aj (@eN _ _ _ _ _ _ _ _ _ aK aj (@eN _ _ _ _ _ _ _ _ _ aK aj u5)))) rfl rfl (by simp) (by decide)))),?_⟩
  intro p hp
  have s1:aA H (upd H p (.dK [])):=aA.new hp
  have p1:(upd H p (.dK [])) p=some (.dK []):=ag
  generalize upd H p (.dK [])=H1 at s1 p1
  refine ⟨_,rfl,_,rfl,a,_,rfl,s1.seq hS,fun q1 hq1=>?_⟩
  rw [Bb hlen]
  have s2:aA H1 (upd H1 q1 (.lst (ns.map V.int))):=aA.new hq1
  have l2:(upd H1 q1 (.lst (ns.map V.int))) q1=some (.lst (ns.map V.int)):=ag
  generalize upd H1 q1 (.lst (ns.map V.int))=H2 at s2 l2 ⊢
  refine ⟨q1,_,rfl,.inl (SqL.of l2),fun q2 hq2=>?_⟩
  have s3:aA H2 (upd H2 q2 (.lst (ns.map V.int))):=aA.new hq2
  have l3:(upd H2 q2 (.lst (ns.map V.int))) q2=some (.lst (ns.map V.int)):=ag
  generalize upd H2 q2 (.lst (ns.map V.int))=H3 at s3 l3 ⊢
  refine ⟨(by show 1≤sizeLine;decide),fun q4 hq4=>?_⟩
  have s4:aA H3 (upd H3 q4 (.lst [V.int 0])):=aA.new hq4
  have l4:(upd H3 q4 (.lst [V.int 0])) q4=some (.lst [V.int 0]):=ag
  generalize upd H3 q4 (.lst [V.int 0])=H4 at s4 l4 ⊢
  have s14:aA H H4:=((s1.trans s2).trans s3).trans s4
  refine ⟨_,rfl,a,_,rfl,.inl (s14.seq hS),rfl,.inr ⟨_,rfl,q4,_,_,rfl,rfl,l4,?_,?_,?_,fun q5 hq5=>?_⟩⟩
  ·split <;> decide
  ·split <;> decide
  ·split <;> decide
  have s5:aA H4 (upd H4 q5 (.lst (List.replicate ((if decide (V.int ((ns.map V.int).length:Int)=V.int 0)=true then 1 else 0:Int)).toNat [V.int 0]).flatten)):=aA.new hq5
  have l5:(upd H4 q5 (.lst (List.replicate ((if decide (V.int ((ns.map V.int).length:Int)=V.int 0)=true then 1 else 0:Int)).toNat [V.int 0]).flatten)) q5=_:=ag
  generalize upd H4 q5 (.lst (List.replicate ((if decide (V.int ((ns.map V.int).length:Int)=V.int 0)=true then 1 else 0:Int)).toNat [V.int 0]).flatten)=H5 at s5 l5 ⊢
  refine ⟨q2,q5,_,_,rfl,rfl,s5 _ _ (s4 _ _ l3),l5,?_,fun q6 hq6=>?_⟩
  ·have e:(List.replicate ((if decide (V.int ((ns.map V.int).length:Int)=V.int 0)=true then 1 else 0:Int)).toNat [V.int 0]).flatten.length≤1:=by split <;> decide
   have e2:sizeLine=16777216:=E9
   have e3:(ns.map V.int).length=ns.length:=C4 ..
   omega
  have el:ns.map V.int++(List.replicate ((if decide (V.int ((ns.map V.int).length:Int)=V.int 0)=true then 1 else 0:Int)).toNat [V.int 0]).flatten=(if ns=[] then [0] else ns).map V.int:=by
   cases ns with
   | nil=>rfl
   | cons n r =>
    have en:¬ (decide (V.int (((n::r).map V.int).length:Int)=V.int 0)=true):=by
     rw [C4,Ds]
     simp only [V.int.injEq,Hj]
     omega
    rw [if_neg en,if_neg (by simp)]
    simp
  rw [el]
  have s6:aA H5 (upd H5 q6 (.lst ((if ns=[] then [0] else ns).map V.int))):=aA.new hq6
  have l6:(upd H5 q6 (.lst ((if ns=[] then [0] else ns).map V.int))) q6=_:=ag
  generalize upd H5 q6 (.lst ((if ns=[] then [0] else ns).map V.int))=H6 at s6 l6 ⊢
  have p6:H6 p=some (.dK []):=s6 _ _ (s5 _ _ (s4 _ _ (s3 _ _ (s2 _ _ p1))))
  have pq:q6≠p:=q9 l6 p6 (by intro z;cases z)
  refine ⟨p6,fkv q6 0 0 0,rfl,(by show 4≤15;decide),?_⟩
  rw [A9]
  refine k p _ hp ⟨q6,0,0,0,(if ns=[] then [0] else ns),ag,by rw [ay pq];exact l6,?_,?_⟩ fun b o e=>?_
  ·split
   ·simp
   ·assumption
  ·split
   ·decide
   ·omega
  ·rw [ay (aD e hp)]
   exact s6 _ _ (s5 _ _ (s14 _ _ e))
abbrev mF:Stmt:=top 8
theorem qA:ax ["word"] ["word"] (ai mF):=⟨rfl,rfl,rfl,by decide +kernel,rfl,by decide +kernel,by decide +kernel⟩
theorem zU (D:Df K mg "back" mF)(T:Bt K w mg aB):Fnc P w K mg base "back" ["word"] 1 k_:=by
 have sc:=qA
 refine D.ok sc (fun _ _ _ _ _ _ us hl=>by obtain ⟨_,rfl⟩:=qY hl;rfl) (fun vs H Q E h=>?_) (fun f cdv A outer s H vs Q E hr h=>?_)
 ·obtain ⟨u,rfl,_⟩:=h
  rfl
 ·obtain ⟨u,rfl,hu,k⟩:=h
  have l16:=aQ
  refine ⟨_,(@ak _ _ _ (@aG _ _ _ _ (@cU _ _ _ _ _ _ _ _ _ _ _ _ DC FA FB jZ aK (@aa _ _ _ _ _ (@di _ _ _ _ _ _ _ (["letter"]) (["letter"]) ([]) _ _ _ _ (@cf _ _ _ _ _ _ rfl (by kernel_rfl)) rfl (@oy _ _ _ _ _ _ rfl T.reversed gu (@aa _ _ _ _ _ (pv 0) af (by rfl)) (by rfl)) (fun _ _ _ _=>@aP _ _ (0) _ (show (["letter"]:List Str).Nodup from by decide +kernel) rfl (Or.inl rfl) (by first | exact .inl rfl | exact .inr rfl | assumption)) (fun _ _ _ _=>bQ) (fun _ _ _ _=>by (exact (@u_ _ _ _ _ _ _ _ _ _ T.dB rfl rfl rfl T.mgB (pv 0) (fun _ _=>rfl) (by decide)))) (by intro _ ;rfl)) af (by rfl)) (by rfl) (by rfl) (by rfl) (by rfl) (by rfl)))),?_⟩
  refine ⟨rfl,_,rfl,_,rfl,(by rw [ae];omega),?_⟩
  refine bK (own:=["letter"]) (cap:=[]) (J:=Au (toS u)) u.length (fun i ys σ H'=>H'=H∧ys=dz ((bk u).take i)∧∃ v,σ = [v]) ⟨rfl,rfl,none,rfl⟩ (fun i ys σ H' hi ⟨_,e,_⟩=>?_) (by omega) (fun i ys σ H' hi _=>?_) (fun ys σ H' _=>?_) ?_ ?_
  ·rw [e,aO,Dw];omega
  ·show i < (toS u).cps.size;rw [aZ];exact hi
  ·show _=(toS u).cps.size;rw [aZ]
  ·rintro i ys σ H1 x H2 N hi ⟨rfl,rfl,v,rfl⟩ ⟨rfl,c,hc,rfl⟩ hN
   rw [aZ] at hc
   obtain ⟨y,hy,e⟩:=cb hc
   obtain ⟨t,ht⟩:=T.gB y
   refine ⟨_,rfl,toS [y],toS [inv y],t,by rw [e],ht,hN _ _ _ ⟨rfl,?_,_,rfl⟩⟩
   rw [bY (yB u hi hy),← dA]
   rfl
  ·rintro ys σ H1 l ⟨rfl,rfl,v,rfl⟩ hl
   rw [D6 (by rw [cD];exact Da _)]
   refine ⟨_,l,(bk u).map fun x=>toS [x],rfl,rfl,SqL.of (by rw [ag,ip]),ft _ (by rw [cD];omega),?_⟩
   rw [fq]
   exact k _ (aA.new hl)
theorem wR {N:Nat}(D:Df K mg "back" mF)(T:Bt K w mg aB)(G:∀ x:L,∃ t,0 < t∧t < N∧PySem.W.nsIn K aB (toS [x])=some (some (.str (toS [inv x]) t))):Fnc P w K mg base "back" ["word"] 1 (vJ N):=by
 have sc:=qA
 refine D.ok sc (fun _ _ _ _ _ _ us hl=>by obtain ⟨_,rfl⟩:=qY hl;rfl) (fun vs H Q E h=>?_) (fun f cdv A outer s H vs Q E hr h=>?_)
 ·obtain ⟨x,rfl,_⟩:=h
  rfl
 ·obtain ⟨x,rfl,k⟩:=h
  have l16:=aQ
  obtain ⟨t,t0,tN,ht⟩:=G x
  refine ⟨_,(@ak _ _ _ (@aG _ _ _ _ (@cU _ _ _ _ _ _ _ _ _ _ _ _ DC FA FB r9 aK (@aa _ _ _ _ _ (@di _ _ _ _ _ _ _ (["letter"]) (["letter"]) ([]) _ _ _ _ (@cf _ _ _ _ _ _ rfl (by kernel_rfl)) rfl (@oy _ _ _ _ _ _ rfl T.reversed gu (@aa _ _ _ _ _ (pv 0) af (by rfl)) (by rfl)) (fun _ _ _ _=>@aP _ _ (0) _ (show (["letter"]:List Str).Nodup from by decide +kernel) rfl (Or.inl rfl) (by first | exact .inl rfl | exact .inr rfl | assumption)) (fun _ _ _ _=>bQ) (fun _ _ _ _=>by (exact (@r_ _ _ _ _ _ _ _ _ _ T.dB rfl rfl rfl T.mgB (pv 0) (fun _ _=>rfl) (by decide)))) (by intro _ ;rfl)) af (by rfl)) (by rfl) (by rfl) (by rfl) (by rfl) (by rfl)))),?_⟩
  refine ⟨rfl,_,rfl,_,rfl,(by rw [ae];show 1≤_;omega),?_⟩
  refine bK (own:=["letter"]) (cap:=[]) (J:=Au (toS [x])) 1 (fun i ys σ H'=>H'=H∧ys=([V.tks (toS [inv x]) t]).take i∧∃ v,σ = [v]) ⟨rfl,rfl,none,rfl⟩ (fun i ys σ H' hi ⟨_,e,_⟩=>?_) (by omega) (fun i ys σ H' hi _=>?_) (fun ys σ H' _=>?_) ?_ ?_
  ·rw [e,Dw];omega
  ·show i < (toS [x]).cps.size;rw [aZ];exact hi
  ·show _=(toS [x]).cps.size;rw [aZ];rfl
  ·rintro i ys σ H1 z H2 N' hi ⟨rfl,rfl,v,rfl⟩ ⟨rfl,c,hc,rfl⟩ hN
   rw [aZ] at hc
   obtain ⟨y,hy,e⟩:=cb hc
   obtain rfl:i=0:=by omega
   obtain rfl:x=y:=Dp hy
   exact ⟨_,rfl,toS [x],toS [inv x],t,by rw [e],ht,hN _ _ _ ⟨rfl,rfl,_,rfl⟩⟩
  ·rintro ys σ H1 l ⟨rfl,rfl,v,rfl⟩ hl
   refine ⟨_,l,toS [inv x],t,rfl,rfl,SqL.of ag,?_,?_⟩
   ·rw [ae,show (Str.ofString "").length=0 by decide +kernel];show 1+0≤1000;decide
   ·exact k t _ t0 tN (aA.new hl)
abbrev kC:Stmt:=top 40
theorem sY:ax ["_law_word","_law_found","_law_sign"] ["_law_word"] (ai kC):=⟨rfl,rfl,rfl,by decide +kernel,rfl,by decide +kernel,by decide +kernel⟩
theorem wU (D:Df K mg "_law_back" kC):Fnc P w K mg base "_law_back" ["_law_word"] 1 k_:=by
 have sc:=sY
 refine D.ok sc (fun _ _ _ _ _ _ us hl=>by obtain ⟨_,rfl⟩:=qY hl;rfl) (fun vs H Q E h=>?_) (fun f cdv A outer s H vs Q E hr h=>?_)
 ·obtain ⟨u,rfl,_⟩:=h
  rfl
 ·obtain ⟨u,rfl,hu,k⟩:=h
  have l16:=aQ
  refine ⟨_,(@ah _ _ _ _ _ (@aC _ _ (1) _ _ _ _ sc.nd rfl (Or.inl rfl) aK (by rfl) (by first | exact .inl rfl | exact .inr rfl | assumption)) (@ah _ _ _ _ _ (@ei _ _ _ _ _ _ _ _ Et rfl (@jk _ _ _ _ (pv 0)) (@aP _ _ (2) _ sc.nd rfl (Or.inl rfl) (by first | exact .inl rfl | exact .inr rfl | assumption)) (@ak _ _ _ (@aC _ _ (1) _ _ _ _ sc.nd rfl (Or.inl rfl) (@aI _ _ _ _ _ _ _ _ a6 (@b6 _ _ _ _ _ _ _ _ (@aJ _ _ _ _ _ _ _ _ cq (pv 2) aK rfl) (@gi _ _ _ _ _ _ _ _ _ DC Gi Gj ia (pv 2) (by rfl) (by rfl)) (@gi _ _ _ _ _ _ _ _ _ DC Gk Gm ib (pv 2) (by rfl) (by rfl))) (pv 1)) (by rfl) (by first | exact .inl rfl | exact .inr rfl | assumption))) (by intro _ ;rfl)) (@ak _ _ _ (@aG _ _ _ _ (pv 1))))),?_⟩
  refine ⟨_,rfl,_,rfl,ou (z:=toS u) (fun i σ H'=>∃ v,σ = [some (tx u),some (tx (bk (u.take i))),v]∧H'=H) ⟨none,(by rw [List.take_zero];show _=[some (tx u),some (tx []),none];rw [k9];rfl),rfl⟩ ?_ ?_⟩
  ·rintro i c σ H1 hc ⟨v,rfl,rfl⟩
   obtain ⟨x,hx,e⟩:=cb hc
   rw [e]
   have hi:i < u.length:=(Dd.mp hx).1
   have fin:∀ z,z=toS [inv x]→∃ v',[some (tx u),some (V.str (z++toS (bk (u.take i)))),some (V.str (toS [x]))]=[some (tx u),some (tx (bk (u.take (i+1)))),v']∧H1=H1:=fun z ez=>by
    refine ⟨some (V.str (toS [x])),?_,rfl⟩
    rw [ez,eG,bY hx,oz]
    rfl
   have room:∀ z,z=toS [inv x]→z.length+(toS (bk (u.take i))).length≤sizeLine:=fun z ez=>by
    rw [ez,ae,ae,cD,Dw]
    simp only [DX]
    omega
   refine ⟨_,rfl,_,_,rfl,rfl,_,rfl,?_⟩
   rw [rP]
   refine qT (fun h=>?_) (fun h=>?_)
   ·have h:x.val < 6:=by simpa using h
    exact ⟨_,rfl,rfl,_,rfl,rfl,(by rw [ae];show 1≤5592405;decide),_,rfl,_,_,rfl,rfl,room _ (dw h),fin _ (dw h)⟩
   ·have h:¬ x.val < 6:=by simpa using h
    exact ⟨_,rfl,rfl,_,rfl,rfl,(by rw [ae];show 1≤5592405;decide),_,rfl,_,_,rfl,rfl,room _ (jo h),fin _ (jo h)⟩
  ·rintro σ H1 ⟨v,rfl,rfl⟩
   rw [aZ,EB]
   exact ⟨_,rfl,k _ (aA.refl _)⟩
abbrev wV:Stmt:=top 7
theorem zW:ax ["letter"] ["letter"] (ai wV):=⟨rfl,rfl,rfl,by decide +kernel,rfl,by decide +kernel,by decide +kernel⟩
theorem Bz (D:Df K mg "number_of" wV)(T:Bt K w mg aB)(S:∃ t,mg "SMALL" = some (.str "abcdef" t)):Fnc P w K mg base "number_of" ["letter"] 1 vm:=by
 have sc:=zW
 refine D.ok sc (fun _ _ _ _ _ _ us hl=>by obtain ⟨_,rfl⟩:=qY hl;rfl) (fun vs H Q E h=>?_) (fun f cdv A outer s H vs Q E hr h=>?_)
 ·obtain ⟨x,rfl,_⟩:=h
  rfl
 ·obtain ⟨x,rfl,k⟩:=h
  obtain ⟨tS,mgS⟩:=S
  refine ⟨_,(@ak _ _ _ (@aG _ _ _ _ (@cU _ _ _ _ _ _ _ _ _ _ _ _ DC EZ E1 dC (@eW _ _ (.str "abcdef") _ _ rfl mgS ⟨_,rfl⟩ (by decide)) (@aa _ _ _ _ _ (@gi _ _ _ _ _ _ _ _ _ DC Gk Gm ib (pv 0) (by rfl) (by rfl)) af (by rfl)) (by rfl) (by rfl) (by rfl) (by rfl) (by rfl)))),?_⟩
  exact ⟨rfl,_,rfl,rfl,_,rfl,rfl,(by rw [ae];show 1≤5592405;decide),_,_,_,_,rfl,rfl,yD x,k⟩
theorem zX:∀ x y:L,y.val % 6≠x.val % 6→y.val % 6 < x.val % 6→br x y=y:=by decide
theorem qB:∀ x y:L,¬ y.val % 6 < x.val % 6→y.val % 6≠x.val % 6→y.val < 6→lt6 (y.val % 6 - 1)=br x y:=by decide
theorem qC:∀ x y:L,¬ y.val % 6 < x.val % 6→y.val % 6≠x.val % 6→¬ y.val < 6→inv (lt6 (y.val % 6 - 1))=br x y:=by decide
theorem qD:∀ k:Fin 6,("abcdef":Str).cps.toList[k.val]? = some (cp (lt6 k.val)):=by decide +kernel
theorem BA:∀ y:L,Txt.islower (toS [y])=decide (y.val < 6):=by decide +kernel
abbrev wW:Stmt:=top 18
theorem zY:ax ["letter","sign","small"] ["letter","sign"] (ai wW):=⟨rfl,rfl,rfl,by decide +kernel,rfl,by decide +kernel,by decide +kernel⟩
theorem BB (D:Df K mg "lower_letter" wW)(T:Bt K w mg aB)(S:∃ t,mg "SMALL" = some (.str "abcdef" t))(F_num:Fnc P w K mg base "number_of" ["letter"] 1 vm)(F_back:Fnc P w K mg base "back" ["word"] 1 k_):Fnc P w K mg base "lower_letter" ["letter","sign"] 2 pK:=by
 have sc:=zY
 refine D.ok sc (fun _ _ _ _ _ _ us hl=>by obtain ⟨_,_,rfl⟩:=qZ hl;rfl) (fun vs H Q E h=>?_) (fun f cdv A outer s H vs Q E hr h=>?_)
 ·obtain ⟨x,y,rfl,_⟩:=h
  rfl
 ·obtain ⟨x,y,rfl,ne,k⟩:=h
  obtain ⟨tS,mgS⟩:=S
  have l16:=aQ
  refine ⟨_,(@ah _ _ _ _ _ (@bV _ _ _ _ _ _ _ _ (@aJ _ _ _ _ _ _ _ _ gO (@aF _ _ _ _ _ _ _ _ _ _ _ F_num hr (by decide) rfl (@aa _ _ _ _ _ (pv 1) af (by rfl)) (by decide) (by rfl) (by rfl)) (@aF _ _ _ _ _ _ _ _ _ _ _ F_num hr (by decide) rfl (@aa _ _ _ _ _ (pv 0) af (by rfl)) (by decide) (by rfl) (by rfl)) (aM _)) (@ak _ _ _ (@aG _ _ _ _ (pv 1))) aX) (@ah _ _ _ _ _ (@aC _ _ (2) _ _ _ _ sc.nd rfl (Or.inl rfl) (@aR _ _ _ _ _ _ _ fc (@eW _ _ (.str "abcdef") _ _ rfl mgS ⟨_,rfl⟩ (by decide)) (@aI _ _ _ _ _ _ _ _ cn (@aF _ _ _ _ _ _ _ _ _ _ _ F_num hr (by decide) rfl (@aa _ _ _ _ _ (pv 1) af (by rfl)) (by decide) (by rfl) (by rfl)) aj) (fun _ _=>rfl)) (by rfl) (by first | exact .inl rfl | exact .inr rfl | assumption)) (@ak _ _ _ (@aG _ _ _ _ (@b6 _ _ _ _ _ _ _ _ (@cK _ _ _ (@gi _ _ _ _ _ _ _ _ _ DC PySem.F.slot_str_islower PySem.F.type_str_islower mZ (pv 1) (by rfl) (by rfl)) (fun _=>rfl)) (pv 2) (@aF _ _ _ _ _ _ _ _ _ _ _ F_back hr (by decide) rfl (@aa _ _ _ _ _ (pv 2) af (by rfl)) (by decide) (by rfl) (by rfl))))))),?_⟩
  refine ⟨_,rfl,y,rfl,_,rfl,x,rfl,_,_,rfl,rfl,_,rfl,qT (fun h=>?_) (fun h=>?_)⟩
  ·have h:y.val % 6 < x.val % 6:=by have:=ES h;omega
   refine ⟨_,rfl,?_⟩
   rw [← zX x y ne h]
   exact k _ (aA.refl _)
  ·have h:¬ y.val % 6 < x.val % 6:=fun q=>h (C_ (by omega))
   have hy:y.val % 6 < 6:=Nat.mod_lt _ (by decide)
   have at0:atI ("abcdef":Str).cps.toList ((y.val % 6:Nat) - 1:Int)=some (cp (lt6 (y.val % 6 - 1))):=by
    have e:((y.val % 6:Nat) - 1:Int)=((y.val % 6 - 1:Nat):Int):=by omega
    rw [e]
    exact bI (qD ⟨y.val % 6 - 1,by omega⟩)
   refine ⟨_,rfl,y,rfl,_,_,rfl,rfl,_,_,_,rfl,rfl,(by decide +kernel),at0,?_⟩
   refine ⟨_,rfl,rfl,_,rfl,rfl,_,rfl,?_⟩
   show if Txt.islower (toS [y])=true then _ else _
   rw [BA]
   refine qT (fun h6=>?_) (fun h6=>?_)
   ·rw [qB x y h ne (ES h6)]
    exact ⟨_,rfl,k _ (aA.refl _)⟩
   ·refine ⟨_,rfl,[lt6 (y.val % 6 - 1)],rfl,(by show 1≤5000;decide),fun H1 s1=>?_⟩
    rw [c7,qC x y h ne (fun q=>h6 (C_ q))]
    exact k _ s1
abbrev qE:Stmt:=top 17
theorem wX:ax ["letter","word"] ["letter","word"] (ai qE):=⟨rfl,rfl,rfl,by decide +kernel,rfl,by decide +kernel,by decide +kernel⟩
theorem zZ (D:Df K mg "lowered" qE)(T:Bt K w mg aB)(F_low:Fnc P w K mg base "lower_letter" ["letter","sign"] 2 pK):Fnc P w K mg base "lowered" ["letter","word"] 3 dF:=by
 have sc:=wX
 refine D.ok sc (fun _ _ _ _ _ _ us hl=>by obtain ⟨_,_,rfl⟩:=qZ hl;rfl) (fun vs H Q E h=>?_) (fun f cdv A outer s H vs Q E hr h=>?_)
 ·obtain ⟨x,u,rfl,_⟩:=h
  rfl
 ·obtain ⟨x,u,rfl,hu,hne,k⟩:=h
  have l16:=aQ
  refine ⟨_,(@ak _ _ _ (@aG _ _ _ _ (@cU _ _ _ _ _ _ _ _ _ _ _ _ DC FA FB jZ aK (@aa _ _ _ _ _ (@di _ _ _ _ _ _ _ (["sign","letter"]) (["sign"]) ([0]) _ _ _ _ (@cf _ _ _ _ _ _ rfl (by kernel_rfl)) rfl (@jk _ _ _ _ (pv 1)) (fun _ _ _ _=>@aP _ _ (0) _ (show (["sign","letter"]:List Str).Nodup from by decide +kernel) rfl (Or.inl rfl) (by first | exact .inl rfl | exact .inr rfl | assumption)) (fun _ _ _ _=>bQ) (fun _ _ _ _=>by (exact (@aF _ _ _ _ _ _ _ _ _ _ _ F_low hr (by decide) rfl (@aa _ _ _ _ _ (pv 1) (@aa _ _ _ _ _ (pv 0) af (by rfl)) (by rfl)) (by decide) (by rfl) (by rfl)))) (by intro _ ;rfl)) af (by rfl)) (by rfl) (by rfl) (by rfl) (by rfl) (by rfl)))),?_⟩
  refine ⟨rfl,_,rfl,_,rfl,?_⟩
  refine bK (own:=["sign"]) (cap:=[0]) (J:=Its (toS u)) u.length (fun j ys σ H'=>∃ v:Option V,σ = [v,some (tx [x])]∧ys=dz ((u.map (br x)).take j)∧aA H H') ⟨none,rfl,rfl,aA.refl _⟩ (fun j ys σ H' hj ⟨_,_,e,_⟩=>by rw [e,aO,Dw];omega) (by omega) (fun j ys σ H' hj _=>?_) (fun ys σ H' _=>?_) ?_ ?_
  ·show j < (toS u).cps.size;rw [aZ];exact hj
  ·show _=(toS u).cps.size;rw [aZ]
  ·rintro j ys σ H1 z H2 N' hj ⟨v,rfl,rfl,s1⟩ ⟨rfl,c,hc,rfl⟩ hN
   obtain ⟨y,hy,e⟩:=cb hc
   refine ⟨_,rfl,_,rfl,x,y,by rw [e];rfl,hne y (DP hy),fun H3 s3=>hN _ _ _ ⟨_,rfl,?_,s1.trans s3⟩⟩
   have hy2:(u.map (br x))[j]? = some (br x y):=by rw [DG,hy];rfl
   rw [bY hy2,← dA]
  ·rintro ys σ H1 l ⟨v,rfl,rfl,s1⟩ hl
   rw [D6 (by rw [C4];exact Da _)]
   refine ⟨_,l,(u.map (br x)).map fun x=>toS [x],rfl,rfl,SqL.of (by rw [ag,ip]),ft _ (by rw [C4];omega),?_⟩
   rw [fq]
   exact k _ (s1.then hl)
end
def uK:Sp:=fun vs H Q _=>∃ (z:Str) (k:Nat),vs=[.str z]∧z.length / 2=k∧1≤k∧k≤6∧Q (tx (sml (k:Int))) H
section
variable {P:Program} {w:World} {K:PySem.W.Frag} {mg:Str→Option Value} {base:Heap} {aB:Addr}
abbrev wY:Stmt:=top 11
theorem z6:ax ["surface"] ["surface"] (ai wY):=⟨rfl,rfl,rfl,by decide +kernel,rfl,by decide +kernel,by decide +kernel⟩
theorem BC (D:Df K mg "letters_of" wY)(T:Bt K w mg aB)(S:∃ t,mg "SMALL" = some (.str "abcdef" t)):Fnc P w K mg base "letters_of" ["surface"] 1 uK:=by
 have sc:=z6
 refine D.ok sc (fun _ _ _ _ _ _ us hl=>by obtain ⟨_,rfl⟩:=qY hl;rfl) (fun vs H Q E h=>?_) (fun f cdv A outer s H vs Q E hr h=>?_)
 ·obtain ⟨z,k,rfl,_⟩:=h
  rfl
 ·obtain ⟨z,k,rfl,hl,h1,h6,q⟩:=h
  obtain ⟨tS,mgS⟩:=S
  have l16:=aQ
  refine ⟨_,(@ak _ _ _ (@aG _ _ _ _ (@ba _ _ _ _ _ _ _ _ _ _ c6 (@eW _ _ (.str "abcdef") _ _ rfl mgS ⟨_,rfl⟩ (by decide)) bx (@bh _ _ _ (@aI _ _ _ _ _ _ _ _ bR (@aq _ _ _ _ _ _ _ _ _ ao (by rfl) T.len Dq (@aa _ _ _ _ _ (pv 0) af (by rfl)) (by decide) (by decide) (by rfl) (by rfl)) aj))))),?_⟩
  refine ⟨_,rfl,_,rfl,(by omega),_,_,rfl,rfl,⟨by decide,by decide⟩,_,rfl,_,rfl,(by rw [lh];omega),?_⟩
  have e:(z.length:Int) / 2=(k:Int):=by omega
  rw [e,jG (by omega)]
  exact q
end
theorem kD (W:List L):L2.iq (toS W)=(W.map fun x=>[x]).map tx:=by
 unfold L2.iq
 rw [a_,D9,D9]
 rfl
theorem wZ (z:Str)(F:List (List L)):inV (.str z) (F.map tx)=decide (z∈F.map toS):=by
 unfold inV
 by_cases h:z∈F.map toS
 ·rw [C_ h,List.any_eq_true]
  obtain ⟨v,hv,rfl⟩:=DN.mp h
  exact ⟨tx v,DN.mpr ⟨v,hv,rfl⟩,by simp [tx,eqV]⟩
 ·rw [C7 h,List.any_eq_false]
  intro x hx
  obtain ⟨u,hu,rfl⟩:=DN.mp hx
  have:toS u≠z:=fun e=>h (DN.mpr ⟨u,hu,e⟩)
  simp [tx,eqV,this]
theorem BD (F:List (List L)):(F.map tx).all gW=true:=by
 rw [EL]
 intro x hx
 obtain ⟨v,_,rfl⟩:=DN.mp hx
 rfl
theorem mem_sml7:∀ (k:Fin 7) (x:L),x∈sml (k.val:Int) ↔ (x.val < k.val∧x.val < 6):=by
 unfold sml
 decide
section
variable {P:Program} {w:World} {K:PySem.W.Frag} {mg:Str→Option Value} {base:Heap} {aB:Addr}
abbrev sZ:Stmt:=top 15
theorem z7:ax ["surface","letter"] ["surface","letter"] (ai sZ):=⟨rfl,rfl,rfl,by decide +kernel,rfl,by decide +kernel,by decide +kernel⟩
theorem BE {N:Nat}{CB:Addr}(D:Df K mg "cut" sZ)(T:Bt K w mg aB)(M_band:XMk P w K mg base "NoBand" CB ["letter"] 1)(F_let:Fnc P w K mg base "letters_of" ["surface"] 1 uK)(F_backT:Fnc P w K mg base "back" ["word"] 1 (vJ N))(F_lowd:Fnc P w K mg base "lowered" ["letter","word"] 3 dF):qW P w K mg base "cut" ["surface","letter"] 4 (lL CB N):=by
 have sc:=z7
 refine D.okT sc (fun _ _ _ _ _ _ us hl=>by obtain ⟨_,_,rfl⟩:=qZ hl;rfl) (fun n vs H Q E h=>?_) (fun f cdv A outer s H vs Q E hr h=>?_)
 ·obtain ⟨u,z,y,rfl,_⟩:=h
  rfl
 ·obtain ⟨u,z,y,rfl,ey,hN,u2,u14,hz,kY,kN⟩:=h
  have l16:=aQ
  refine ⟨_,(@ah _ _ _ _ _ (@bV _ _ _ _ _ _ _ _ (@PW.pt _ _ _ (@nJ _ _ _ _ _ _ _ (@aJ _ _ _ _ _ _ _ _ dR (@aq _ _ _ _ _ _ _ _ _ ao (by rfl) T.len Dq (@aa _ _ _ _ _ (pv 0) af (by rfl)) (by decide) (by decide) (by rfl) (by rfl)) aj (aM _)) (@i6 _ _ _ _ (@aJ _ _ _ _ _ _ _ _ (@mV _ (K) rfl) (@fB _ _ _ (pv 1)) (@bu _ _ _ _ _ _ _ _ _ (@cE _ rfl) (by rfl) T.list oP (@aa _ _ _ _ _ (@aF _ _ _ _ _ _ _ _ _ _ _ F_let hr (by decide) rfl (@aa _ _ _ _ _ (pv 0) af (by rfl)) (by decide) (by rfl) (by rfl)) af (by rfl)) (by decide) (by decide) (by rfl) (by rfl)) rfl)))) (@ak _ _ _ (@dD _ _ _ _ _ cN rfl (@r6 _ _ _ _ _ _ _ _ _ _ _ M_band hr (by decide) rfl (@aa _ _ _ _ _ (@fB _ _ _ (pv 1)) af (by rfl)) (by decide) (by rfl) (by rfl)))) aX) (@ak _ _ _ (@aG _ _ _ _ (@aF _ _ _ _ _ _ _ _ _ _ _ F_lowd hr (by decide) rfl (@aa _ _ _ _ _ (@fB _ _ _ (pv 1)) (@aa _ _ _ _ _ (@jx _ _ _ _ _ _ _ _ _ (@jx _ _ _ _ _ _ _ _ _ (pv 0) (pv 1) (by rfl) (by rfl) (by rfl) (by rfl)) (@aF _ _ _ _ _ _ _ _ _ _ _ F_backT hr (by decide) rfl (@aa _ _ _ _ _ (@fB _ _ _ (pv 1)) af (by rfl)) (by decide) (by rfl) (by rfl)) (by rfl) (by rfl) (by rfl) (by rfl)) af (by rfl)) (by rfl)) (by decide) (by rfl) (by rfl))))),?_⟩
  have lu:=ae u
  have e2:decide (V.int ((toS u).length:Int)=V.int 2)=decide (u.length=2):=by
   rw [lu]
   by_cases h:u.length=2
   ·rw [C_ h,h];rfl
   ·rw [C7 h];exact C7 fun q=>h (by have:=V.int.inj q;omega)
  refine ⟨_,rfl,toS u,rfl,by omega,rfl,_,rfl,?_⟩
  rw [e2]
  have raise:∀ H1,aA H H1→(u.length=2 ∨ ∀ x:L,x.val < u.length / 2→x.val < 6→z≠toS [x])→oY (gP (CXe P w) P w K mg base ["surface","letter"] (Str.ofString "cut") (ai sZ) f cdv A outer s H E).K (vp CB [Str.ofString "letter"] (rq (tWk (Ar 1)) AQ)) E { nx:=fun _ H'=>Q .non H',rt:=Q } [some (tx u),some y] H1:=fun H1 s1 hc =>
   ⟨_,rfl,rfl,by decide,fun b dx hb hd ne=>⟨b,CB,some dx,true,rfl,by rw [ay ne.symm,ag],M_band.ca.1,kN hc b _ (ey ▸ pL hb hd ne) (s1.trans (fC hb hd))⟩⟩
  by_cases h2:u.length=2
  ·rw [C_ h2]
   refine Ce (lK ?_)
   exact raise H (aA.refl _) (.inl h2)
  rw [C7 h2]
  refine yR ?_
  refine ⟨_,rfl,_,rfl,toS u,u.length / 2,rfl,by rw [lu],by omega,by omega,_,rfl,?_,fun p hp=>?_⟩
  ·rw [ae];have:=nq (m:=((u.length / 2:Nat):Int));omega
  rw [kD]
  refine ⟨p,_,rfl,.inl (SqL.of ag),?_,BD _,?_⟩
  ·rw [ey];rfl
  rw [ey,wZ]
  have hm:z∈(((sml ((u.length / 2:Nat):Int)).map fun x=>[x]).map toS) ↔ ∃ x:L,x.val < u.length / 2∧x.val < 6∧z=toS [x]:=by
   rw [D9,DN]
   constructor
   ·rintro ⟨x,hx,rfl⟩
    obtain ⟨h1,h2⟩:=(mem_sml7 ⟨u.length / 2,by omega⟩ x).mp hx
    exact ⟨x,h1,h2,rfl⟩
   ·rintro ⟨x,h1,h2,rfl⟩
    exact ⟨x,(mem_sml7 ⟨u.length / 2,by omega⟩ x).mpr ⟨h1,h2⟩,rfl⟩
  by_cases hc:∃ x:L,x.val < u.length / 2∧x.val < 6∧z=toS [x]
  ·rw [C_ (hm.mpr hc)]
   refine ⟨_,rfl,j9 ?_⟩
   obtain ⟨x,hx,hx6,rfl⟩:=hc
   obtain ⟨⟨t,rfl,t0,tn⟩,kq⟩:=kY x h2 hx hx6 rfl
   refine ⟨_,rfl,_,rfl,_,rfl,by omega,_,rfl,cp x,t,rfl,t0,tn,?_⟩
   rw [gE]
   have l1:=Gx (fun y=>decide (y≠x)) u
   refine ⟨_,rfl,by rw [ae];omega,_,rfl,x,rfl,fun tb H2 b0 bN s2=>⟨cp (inv x),tb,rfl,b0,Du bN hN,?_⟩⟩
   rw [gE]
   have l2:=Gx (fun y=>decide (y≠inv x)) (u.filter fun y=>decide (y≠x))
   refine ⟨x,_,rfl,by omega,fun y hy=>?_,fun H3 s3=>kq H3 ((aA.new hp).trans (s2.trans s3))⟩
   obtain ⟨hy1,hy2⟩:=FV.mp hy
   obtain ⟨_,hy3⟩:=FV.mp hy1
   have:∀ x y:L,y≠x→y≠inv x→y.val % 6≠x.val % 6:=by decide
   exact this x y (ES hy3) (ES hy2)
  ·rw [C7 fun q=>hc (hm.mp q)]
   refine ⟨_,rfl,lK ?_⟩
   exact raise _ (aA.new hp) (.inr fun x h1 h6 e=>hc ⟨x,h1,h6,e⟩)
end
theorem w4 {H:Hp}{d l:Addr}{z:Str}{o:HO}{xs:List V}(F:Fd H d)(h:H l=some (.lst xs))(n:l≠d)(hx:V.str z∈xs):Fd (L2.upd H l o) d:=by
 obtain ⟨c,i,ll,t,ns,h1,h2,h3,h4⟩:=F.ex
 have hc:c≠l:=fun e=>by
  subst e
  rw [h2] at h
  have h:=HO.lst.inj (Dp h)
  rw [← h] at hx
  obtain ⟨k,_,e⟩:=DN.mp hx
  cases e
 exact ⟨c,i,ll,t,ns,by rw [ay (fun e=>n e.symm)];exact h1,by rw [ay hc];exact h2,h3,h4⟩
section
variable {P:Program} {w:World} {K:PySem.W.Frag} {mg:Str→Option Value} {base:Heap} {aB:Addr}
abbrev qF:Stmt:=top 43
theorem w5:ax ["_law_feed_here","_law_many","_law_left","_law_found","_law_k"] ["_law_feed_here","_law_many"] (ai qF):=⟨rfl,rfl,rfl,by decide +kernel,rfl,by decide +kernel,by decide +kernel⟩
theorem z8 (D:Df K mg "_law_surface" qF)(T:Bt K w mg aB)(F_draw:Fnc P w K mg base "_law_draw" ["_law_feed_here","_law_many"] 1 jr):Fnc P w K mg base "_law_surface" ["_law_feed_here","_law_many"] 2 kc:=by
 have sc:=w5
 refine D.ok sc (fun _ _ _ _ _ _ us hl=>by obtain ⟨_,_,rfl⟩:=qZ hl;rfl) (fun vs H Q E h=>?_) (fun f cdv A outer s H vs Q E hr h=>?_)
 ·obtain ⟨d,n,rfl,_⟩:=h
  rfl
 ·obtain ⟨d,n,rfl,F,h1,h6,k⟩:=h
  have l16:=aQ
  refine ⟨_,(@ah _ _ _ _ _ (@aC _ _ (2) _ _ _ _ sc.nd rfl (Or.inl rfl) (@bu _ _ _ _ _ _ _ _ _ (@cE _ rfl) (by rfl) T.list oP (@aa _ _ _ _ _ (@aI _ _ _ _ _ _ _ _ a6 (@ba _ _ _ _ _ _ _ _ _ _ c6 aK bx (@bh _ _ _ (pv 1))) (@ba _ _ _ _ _ _ _ _ _ _ c6 aK bx (@bh _ _ _ (pv 1)))) af (by rfl)) (by decide) (by decide) (by rfl) (by rfl)) (by rfl) (by first | exact .inl rfl | exact .inr rfl | assumption)) (@ah _ _ _ _ _ (@aC _ _ (3) _ _ _ _ sc.nd rfl (Or.inl rfl) aK (by rfl) (by first | exact .inl rfl | exact .inr rfl | assumption)) (@ah _ _ _ _ _ (@ei _ _ _ _ _ _ _ _ Et rfl (@bt _ _ _ _ _ _ rfl T.range (@aa _ _ _ _ _ (@aI _ _ _ _ _ _ _ _ eY aj (pv 1)) af (by rfl)) (by rfl)) (@aP _ _ (4) _ sc.nd rfl (Or.inl rfl) (by first | exact .inl rfl | exact .inr rfl | assumption)) (@ak _ _ _ (@aC _ _ (3) _ _ _ _ sc.nd rfl (Or.inl rfl) (@aI _ _ _ _ _ _ _ _ a6 (pv 3) (@cU _ _ _ _ _ _ _ _ _ _ _ _ EO PySem.F.slot_list_pop PySem.F.type_list_pop rD (pv 2) (@aa _ _ _ _ _ (@aF _ _ _ _ _ _ _ _ _ _ _ F_draw hr (by decide) rfl (@aa _ _ _ _ _ (pv 0) (@aa _ _ _ _ _ (@aq _ _ _ _ _ _ _ _ _ aH (by rfl) T.len Dq (@aa _ _ _ _ _ (pv 2) af (by rfl)) (by decide) (by decide) (by rfl) (by rfl)) af (by rfl)) (by rfl)) (by decide) (by rfl) (by rfl)) af (by rfl)) (by rfl) (by rfl) (by rfl) (by rfl) (by rfl))) (by rfl) (by first | exact .inl rfl | exact .inr rfl | assumption))) (by intro _ ;rfl)) (@ak _ _ _ (@aG _ _ _ _ (pv 3)))))),?_⟩
  refine ⟨_,rfl,_,rfl,_,rfl,(by rw [lh];omega),_,rfl,_,rfl,_,rfl,(by rw [tU];omega),_,_,rfl,rfl,?_,?_⟩
  ·have q1:=Gu ("abcdef":Str) none (some (n:Int))
   have q2:=Gu ("ABCDEF":Str) none (some (n:Int))
   rw [lh] at q1
   rw [tU] at q2
   omega
  rw [rS (by omega)]
  have hsl:(sg (n:Int)).length=2*n:=by rw [oQ (by omega) (by omega)];omega
  refine ⟨_,rfl,(by rw [ae,hsl];omega),fun l hl=>?_⟩
  rw [nt]
  have nl:=F.ne hl
  refine ⟨_,rfl,_,_,rfl,rfl,(Or.inl ⟨by decide,by decide⟩),?_⟩
  refine ⟨_,rfl,by omega,by omega,?_⟩
  rw [show ((2:Int)*(n:Int)).toNat=2*n by omega]
  refine ck (lo:=0) (n:=2*n) (fun i σ H'=>∃ (v:Option V) (W left:List L),σ = [some (.ref d),some (.int (n:Int)),some (.ref l),some (tx W),v]∧H' l=some (.lst (dz left))∧(W++left).Perm (sg (n:Int))∧W.length=i∧Fd H' d∧bL d H H') ⟨none,[],sg (n:Int),(by rw [k9];rfl),ag,Fs _,rfl,F.new hl,(aA.new hl).b⟩ ?_ ?_
  ·rintro i σ H1 hi ⟨v,W,left,rfl,f1,pW,hW,F1,sb1⟩
   have hll:left.length=2*n - i:=by
    have:=pW.length_eq
    rw [C8,hW,hsl] at this
    omega
   refine ⟨_,rfl,_,rfl,.inl ⟨rfl,_,SqL.of f1⟩,_,rfl,_,rfl,l,_,rfl,.inl (SqL.of f1),d,_,rfl,F1,by rw [aO];omega,by rw [aO];omega,fun r H2 r0 r1 F2 sb2=>?_⟩
   rw [aO] at r1
   have f2:=sb2 _ _ nl f1
   have hrk:r.toNat < left.length:=by omega
   have gy:left[r.toNat]? = some left[r.toNat]:=fu hrk
   generalize left[r.toNat]=y at gy
   refine ⟨l,_,r,r.toNat,tx [y],rfl,rfl,f2,by omega,by omega,(nV (by unfold ixN;rw [if_pos r0,if_pos (by rw [aO];omega)])).1,(by unfold dz;rw [DG,gy];rfl),?_⟩
   rw [nu]
   refine ⟨_,_,rfl,rfl,(by rw [ae,ae];show _+1≤_;omega),?_⟩
   rw [bW]
   have hy:V.str (toS [y])∈dz left:=by
    unfold dz
    exact DN.mpr ⟨y,DP gy,rfl⟩
   refine ⟨_,W++[y],left.eraseIdx r.toNat,rfl,ag,?_,by rw [C8,hW];rfl,w4 F2 f2 nl hy,fun b o n' e=>?_⟩
   ·refine List.Perm.trans ?_ pW
    rw [Dh]
    exact Ek W (gK gy).symm
   ·rw [ay (aD e hl)]
    exact sb2 _ _ n' (sb1 _ _ n' e)
  ·rintro σ H1 ⟨v,W,left,rfl,f1,pW,hW,F1,sb1⟩
   have hll:left.length=0:=by
    have:=pW.length_eq
    rw [C8,hW,hsl] at this
    omega
   have:left=[]:=D3 hll
   subst this
   rw [Ee] at pW
   have pW':W.Perm (([0,1,2,3,4,5]:List L).take n++([6,7,8,9,10,11]:List L).take n):=by
    unfold sg at pW
    rwa [DK] at pW
   refine ⟨_,rfl,k W _ (si h1 h6 pW') (fun x hx=>pW'.mem_iff.mpr (yQ h6 hx)) F1 sb1⟩
abbrev w6:Stmt:=top 20
theorem z9:ax ["row","place","sign"] ["row","place","sign"] (ai w6):=⟨rfl,rfl,rfl,by decide +kernel,rfl,by decide +kernel,by decide +kernel⟩
theorem BF (D:Df K mg "put_in" w6):Fnc P w K mg base "put_in" ["row","place","sign"] 1 j_:=by
 have sc:=z9
 refine D.ok sc (fun _ _ _ _ _ _ us hl=>by obtain ⟨_,_,_,rfl⟩:=wN hl;rfl) (fun vs H Q E h=>?_) (fun f cdv A outer s H vs Q E hr h=>?_)
 ·obtain ⟨u,p,v,rfl,_⟩:=h
  rfl
 ·obtain ⟨u,p,v,rfl,hp,hu,hv,k⟩:=h
  have l16:=aQ
  have e1:Txt.slice (toS u) none (some (p:Int))=toS (u.take p):=by rw [bp,fk _ (by omega),DK]
  have e2:Txt.slice (toS u) (some (p:Int)) none=toS (u.drop p):=by rw [bp,rO _ (by omega),DK]
  have lu:=ae u
  refine ⟨_,(@ak _ _ _ (@aG _ _ _ _ (@aI _ _ _ _ _ _ _ _ a6 (@aI _ _ _ _ _ _ _ _ a6 (@ba _ _ _ _ _ _ _ _ _ _ c6 (pv 0) bx (@bh _ _ _ (pv 1))) (pv 2)) (@ba _ _ _ _ _ _ _ _ _ _ c6 (pv 0) (@bh _ _ _ (pv 1)) bx)))),?_⟩
  refine ⟨_,rfl,_,rfl,_,rfl,_,rfl,by omega,?_⟩
  rw [e1]
  refine ⟨_,rfl,_,_,rfl,rfl,(by rw [ae,ae,Dw];omega),?_⟩
  rw [bW]
  refine ⟨_,rfl,_,rfl,_,rfl,_,rfl,by omega,?_⟩
  rw [e2]
  refine ⟨_,_,rfl,rfl,(by rw [ae,ae,C8,Dw,Gy];omega),?_⟩
  rw [bW]
  exact k _ (aA.refl _)
abbrev iY:Stmt:=top 19
theorem s_:ax ["surface","place","other","letter"] ["surface","place","other"] (ai iY):=⟨rfl,rfl,rfl,by decide +kernel,rfl,by decide +kernel,by decide +kernel⟩
theorem w_ {CB CS:Addr}(D:Df K mg "glued" iY)(T:Bt K w mg aB)(S:∃ t,mg "SMALL" = some (.str "abcdef" t))(ME:∃ t,mg "MOST_ENDS" = some (.int 12 t))(M_band:XMk P w K mg base "NoBand" CB ["letter"] 1)(M_slide:XMk P w K mg base "NoSlide" CS ["place"] 1)(F_put:Fnc P w K mg base "put_in" ["row","place","sign"] 1 j_)(F_back:Fnc P w K mg base "back" ["word"] 1 k_):yK P w K mg base "glued" ["surface","place","other"] 3 (iA CB CS):=by
 have sc:=s_
 refine D.okX sc (fun _ _ _ _ _ _ us hl=>by obtain ⟨_,_,_,rfl⟩:=wN hl;rfl) (fun vs H Q E h=>?_) (fun f cdv A outer s H vs Q E hr h=>?_)
 ·obtain ⟨u,p,q,rfl,_⟩:=h
  rfl
 ·obtain ⟨u,p,q,rfl,u2,u12,kT,kB,kS⟩:=h
  obtain ⟨tS,mgS⟩:=S
  obtain ⟨tE,mgE⟩:=ME
  have l16:=aQ
  have lu:=ae u
  refine ⟨_,(@ah _ _ _ _ _ (@bV _ _ _ _ _ _ _ _ (@aJ _ _ _ _ _ _ _ _ dR (@aq _ _ _ _ _ _ _ _ _ ao (by rfl) T.len Dq (@aa _ _ _ _ _ (pv 0) af (by rfl)) (by decide) (by decide) (by rfl) (by rfl)) (@eW _ _ (.int 12) _ _ rfl mgE ⟨_,rfl⟩ (by decide)) (aM _)) (@ak _ _ _ (@dD _ _ _ _ _ cN rfl (@r6 _ _ _ _ _ _ _ _ _ _ _ M_band hr (by decide) rfl (@aa _ _ _ _ _ aK af (by rfl)) (by decide) (by rfl) (by rfl)))) aX) (@ah _ _ _ _ _ (@bV _ _ _ _ _ _ _ _ (@kJ _ _ _ _ (@kO _ _ _ _ _ _ _ _ _ _ _ _ rl rl aj (pv 1) (@aq _ _ _ _ _ _ _ _ _ ao (by rfl) T.len Dq (@aa _ _ _ _ _ (pv 0) af (by rfl)) (by decide) (by decide) (by rfl) (by rfl)) (by with_unfolding_all rfl))) (@ak _ _ _ (@dD _ _ _ _ _ cN rfl (@r6 _ _ _ _ _ _ _ _ _ _ _ M_slide hr (by decide) rfl (@aa _ _ _ _ _ aj af (by rfl)) (by decide) (by rfl) (by rfl)))) aX) (@ah _ _ _ _ _ (@bV _ _ _ _ _ _ _ _ (@kJ _ _ _ _ (@kO _ _ _ _ _ _ _ _ _ _ _ _ rl rl aj (pv 2) (@aI _ _ _ _ _ _ _ _ bA (@aq _ _ _ _ _ _ _ _ _ ao (by rfl) T.len Dq (@aa _ _ _ _ _ (pv 0) af (by rfl)) (by decide) (by decide) (by rfl) (by rfl)) aj) (by with_unfolding_all rfl))) (@ak _ _ _ (@dD _ _ _ _ _ cN rfl (@r6 _ _ _ _ _ _ _ _ _ _ _ M_slide hr (by decide) rfl (@aa _ _ _ _ _ aj af (by rfl)) (by decide) (by rfl) (by rfl)))) aX) (@ah _ _ _ _ _ (@aC _ _ (3) _ _ _ _ sc.nd rfl (Or.inl rfl) (@aR _ _ _ _ _ _ _ fc (@eW _ _ (.str "abcdef") _ _ rfl mgS ⟨_,rfl⟩ (by decide)) (@aI _ _ _ _ _ _ _ _ bR (@aq _ _ _ _ _ _ _ _ _ ao (by rfl) T.len Dq (@aa _ _ _ _ _ (pv 0) af (by rfl)) (by decide) (by decide) (by rfl) (by rfl)) aj) (fun _ _=>rfl)) (by rfl) (by first | exact .inl rfl | exact .inr rfl | assumption)) (@ak _ _ _ (@aG _ _ _ _ (@aF _ _ _ _ _ _ _ _ _ _ _ F_put hr (by decide) rfl (@aa _ _ _ _ _ (@aF _ _ _ _ _ _ _ _ _ _ _ F_put hr (by decide) rfl (@aa _ _ _ _ _ (pv 0) (@aa _ _ _ _ _ (pv 1) (@aa _ _ _ _ _ (pv 3) af (by rfl)) (by rfl)) (by rfl)) (by decide) (by rfl) (by rfl)) (@aa _ _ _ _ _ (pv 2) (@aa _ _ _ _ _ (@aF _ _ _ _ _ _ _ _ _ _ _ F_back hr (by decide) rfl (@aa _ _ _ _ _ (pv 3) af (by rfl)) (by decide) (by rfl) (by rfl)) af (by rfl)) (by rfl)) (by rfl)) (by decide) (by rfl) (by rfl)))))))),?_⟩
  refine ⟨_,rfl,toS u,rfl,by omega,rfl,_,rfl,?_⟩
  have e2:decide (V.int ((toS u).length:Int)=V.int 12)=decide (u.length=12):=by
   rw [lu]
   by_cases h:u.length=12
   ·rw [C_ h,h];rfl
   ·rw [C7 h];exact C7 fun q=>h (by have:=V.int.inj q;omega)
  rw [e2]
  by_cases h12:u.length=12
  ·rw [C_ h12]
   refine lK ?_
   exact ⟨rfl,by decide,fun b dx hb hd ne=>⟨b,CB,some dx,true,rfl,by rw [ay ne.symm,ag],M_band.ca.1,kB (sv h12) b _ (pL hb hd ne) (fC hb hd)⟩⟩
  rw [C7 h12]
  refine j9 ?_
  have raise:∀ (kk:Nat) (hk:glu u p q = .slide kk),oY (gP (CXe P w) P w K mg base ["surface","place","other","letter"] (Str.ofString "glued") (ai iY) f cdv A outer s H E).K (vp CS [Str.ofString "place"] (rq (tC (V.int (kk:Nat))) AQ)) E { nx:=fun _ H'=>Q .non H',rt:=Q } (start ["surface","place","other","letter"] [tx u,.int p,.int q]) H:=fun kk hk =>
   ⟨rfl,by decide,fun b dx hb hd ne=>⟨b,CS,some dx,true,rfl,by rw [ay ne.symm,ag],M_slide.ca.1,kS kk hk b _ (pL hb hd ne) (fC hb hd)⟩⟩
  refine ⟨_,rfl,_,_,rfl,rfl,_,rfl,?_⟩
  by_cases hp:0≤p∧p≤(u.length:Int)
  rotate_left
  ·have hs:=raise 0 (yW h12 hp)
   by_cases hp0:0≤p
   ·refine nB (C_ hp0) ⟨_,rfl,toS u,rfl,by omega,_,_,rfl,rfl,_,rfl,?_⟩
    rw [C7 (fun z=>hp ⟨hp0,by omega⟩)]
    exact nkF (lK hs)
   ·rw [C7 hp0]
    exact ⟨_,rfl,nkF (lK hs)⟩
  refine nB (C_ hp.1) ⟨_,rfl,toS u,rfl,by omega,_,_,rfl,rfl,_,rfl,?_⟩
  rw [C_ (show p≤((toS u).length:Int) by omega)]
  refine nkT (j9 ?_)
  refine ⟨_,rfl,_,_,rfl,rfl,_,rfl,?_⟩
  by_cases hq:0≤q∧q≤(u.length:Int)+1
  rotate_left
  ·have hs:=raise 1 (yX h12 hp hq)
   by_cases hq0:0≤q
   ·refine nB (C_ hq0) ⟨_,rfl,toS u,rfl,by omega,_,_,rfl,rfl,_,_,rfl,rfl,_,rfl,?_⟩
    rw [C7 (fun z=>hq ⟨hq0,by omega⟩)]
    exact nkF (lK hs)
   ·rw [C7 hq0]
    exact ⟨_,rfl,nkF (lK hs)⟩
  refine nB (C_ hq.1) ⟨_,rfl,toS u,rfl,by omega,_,_,rfl,rfl,_,_,rfl,rfl,_,rfl,?_⟩
  rw [C_ (show q≤((toS u).length:Int)+1 by omega)]
  refine nkT (j9 ?_)
  have kT:=kT _ (fF h12 hp hq)
  obtain ⟨pn,rfl⟩:=D1 hp.1
  obtain ⟨qn,rfl⟩:=D1 hq.1
  rw [DK,DK] at kT
  have hk:u.length / 2 < 6:=by omega
  have e6:((toS u).length:Int) / 2=((u.length / 2:Nat):Int):=by omega
  refine ⟨_,rfl,toS u,rfl,by omega,_,_,rfl,rfl,⟨by decide,by decide⟩,?_⟩
  rw [e6]
  refine ⟨_,_,_,rfl,rfl,(by decide +kernel),bI (vL ⟨u.length / 2,hk⟩),?_⟩
  refine ⟨_,rfl,_,rfl,_,rfl,u,pn,[lt6 (u.length / 2)],rfl,by omega,by omega,(by show 1≤4;decide),fun H1 s1=>?_⟩
  refine ⟨_,rfl,_,rfl,[lt6 (u.length / 2)],rfl,(by show 1≤5000;decide),fun H2 s2=>?_⟩
  rw [c7]
  have hl:(u.take pn++[lt6 (u.length / 2)]++u.drop pn).length=u.length+1:=by
   rw [C8,C8,Dw,Gy,DX]
   omega
  refine ⟨_,qn,[inv (lt6 (u.length / 2))],rfl,by omega,by omega,(by show 1≤4;decide),fun H3 s3=>?_⟩
  exact kT H3 (s1.trans (s2.trans s3))
abbrev qG:Stmt:=top 16
theorem xf:ax ["letter","word"] ["letter","word"] (ai qG):=⟨rfl,rfl,rfl,by decide +kernel,rfl,by decide +kernel,by decide +kernel⟩
theorem z_ (D:Df K mg "cut_word" qG)(T:Bt K w mg aB)(F_back:Fnc P w K mg base "back" ["word"] 1 k_)(F_lowd:Fnc P w K mg base "lowered" ["letter","word"] 3 dF):Fnc P w K mg base "cut_word" ["letter","word"] 4 fD:=by
 have sc:=xf
 refine D.ok sc (fun _ _ _ _ _ _ us hl=>by obtain ⟨_,_,rfl⟩:=qZ hl;rfl) (fun vs H Q E h=>?_) (fun f cdv A outer s H vs Q E hr h=>?_)
 ·obtain ⟨x,u,rfl,_⟩:=h
  rfl
 ·obtain ⟨x,u,rfl,hu,k⟩:=h
  have l16:=aQ
  refine ⟨_,(@ah _ _ _ _ _ (@bV _ _ _ _ _ _ _ _ (@PW.pt _ _ _ (@nJ _ _ _ _ _ _ _ (@aJ _ _ _ _ _ _ _ _ cq (pv 0) (pv 1) rfl) (@i6 _ _ _ _ (@aJ _ _ _ _ _ _ _ _ cq (@aF _ _ _ _ _ _ _ _ _ _ _ F_back hr (by decide) rfl (@aa _ _ _ _ _ (pv 0) af (by rfl)) (by decide) (by rfl) (by rfl)) (pv 1) rfl)))) (@ak _ _ _ (@aG _ _ _ _ xP)) aX) (@ak _ _ _ (@aG _ _ _ _ (@aF _ _ _ _ _ _ _ _ _ _ _ F_lowd hr (by decide) rfl (@aa _ _ _ _ _ (pv 0) (@aa _ _ _ _ _ (pv 1) af (by rfl)) (by rfl)) (by decide) (by rfl) (by rfl))))),?_⟩
  refine ⟨_,rfl,_,rfl,_,_,rfl,rfl,_,rfl,?_⟩
  rw [lM]
  by_cases h1:x∈u
  ·rw [C_ h1]
   refine Ce (lK ?_)
   have:=k H (aA.refl _)
   rw [if_pos (.inl h1)] at this
   exact this
  rw [C7 h1]
  refine yR ⟨_,rfl,[x],rfl,(by show 1≤5000;decide),fun H1 s1=>?_⟩
  rw [c7]
  refine ⟨_,rfl,_,_,rfl,rfl,_,rfl,?_⟩
  rw [lM]
  by_cases h2:inv x∈u
  ·rw [C_ h2]
   refine lK ?_
   have:=k H1 s1
   rw [if_pos (.inr h2)] at this
   exact this
  rw [C7 h2]
  refine j9 ⟨_,rfl,_,rfl,x,u,rfl,hu,fun y hy=>?_,fun H2 s2=>?_⟩
  ·have:∀ x y:L,y≠x→y≠inv x→y.val % 6≠x.val % 6:=by decide
   exact this x y (fun e=>h1 (e ▸ hy)) (fun e=>h2 (e ▸ hy))
  ·have:=k H2 (s1.trans s2)
   rw [if_neg (by simp [h1,h2])] at this
   exact this
abbrev qH:Stmt:=top 23
theorem xg:ax ["surface","start","seen","word","gap","letter"] ["surface","start","seen"] (ai qH):=⟨rfl,rfl,rfl,by decide +kernel,rfl,by decide +kernel,by decide +kernel⟩
theorem Ab (D:Df K mg "hole_from" qH)(T:Bt K w mg aB)(F_back:Fnc P w K mg base "back" ["word"] 1 k_):Fnc P w K mg base "hole_from" ["surface","start","seen"] 2 ph:=by
 have sc:=xg
 refine D.ok sc (fun _ _ _ _ _ _ us hl=>by obtain ⟨_,_,_,rfl⟩:=wN hl;rfl) (fun vs H Q E h=>?_) (fun f cdv A outer s H vs Q E hr h=>?_)
 ·obtain ⟨u,g,a,S,rfl,_⟩:=h
  rfl
 ·obtain ⟨u,g0,a,S0,rfl,U,hg0,hs0,ha0,k⟩:=h
  have hu:=rJ hr
  have l16:=aQ
  have h12:=U.le
  have hpos:=U.pos
  refine ⟨_,(@ah _ _ _ _ _ (@aC _ _ (3) _ _ _ _ sc.nd rfl (Or.inl rfl) aK (by rfl) (by first | exact .inl rfl | exact .inr rfl | assumption)) (@ah _ _ _ _ _ (@aC _ _ (4) _ _ _ _ sc.nd rfl (Or.inl rfl) (pv 1) (by rfl) (by first | exact .inl rfl | exact .inr rfl | assumption)) (@ah _ _ _ _ _ (@gN _ _ _ _ _ _ Et (@o8 _ _ _ _ _ _ hu (pv 4) (pv 2) rfl) (@ah _ _ _ _ _ (@ff _ _ _ _ _ _ _ _ _ hu (pv 2) (pv 4) gM rfl) (@ah _ _ _ _ _ (@aC _ _ (5) _ _ _ _ sc.nd rfl (Or.inl rfl) (@aR _ _ _ _ _ _ _ fc (pv 0) (@aI _ _ _ _ _ _ _ _ cV (@aI _ _ _ _ _ _ _ _ bA (pv 4) aj) (@aq _ _ _ _ _ _ _ _ _ ao (by rfl) T.len Dq (@aa _ _ _ _ _ (pv 0) af (by rfl)) (by decide) (by decide) (by rfl) (by rfl))) (fun _ _=>rfl)) (by rfl) (by first | exact .inl rfl | exact .inr rfl | assumption)) (@ah _ _ _ _ _ (@aC _ _ (3) _ _ _ _ sc.nd rfl (Or.inl rfl) (@aI _ _ _ _ _ _ _ _ a6 (pv 3) (pv 5)) (by rfl) (by first | exact .inl rfl | exact .inr rfl | assumption)) (@ak _ _ _ (@aC _ _ (4) _ _ _ _ sc.nd rfl (Or.inl rfl) (@cU _ _ _ _ _ _ _ _ _ _ _ _ DC EZ E1 dC (pv 0) (@aa _ _ _ _ _ (@aF _ _ _ _ _ _ _ _ _ _ _ F_back hr (by decide) rfl (@aa _ _ _ _ _ (pv 5) af (by rfl)) (by decide) (by rfl) (by rfl)) af (by rfl)) (by rfl) (by rfl) (by rfl) (by rfl) (by rfl)) (by rfl) (by first | exact .inl rfl | exact .inr rfl | assumption))))))) (@ak _ _ _ (@aG _ _ _ _ (pv 3)))))),?_⟩
  refine ⟨_,rfl,?_⟩
  refine ⟨fun m σ H'=>∃ (S:List Nat) (w:List L) (g:Nat) (v:Option V),σ = [some (tx u),some (.int g0),some (.ref a),some (tx w),some (.int g),v]∧Sn u S∧g < u.length∧H' a=some (.dK (sk S))∧bL a H H'∧wk u g S w=wk u g0 S0 []∧w.length≤S.length∧m=u.length+1 - S.length,⟨_,S0,[],g0,none,rfl,hs0,hg0,ha0,bL.refl _ _,rfl,D2 _,rfl⟩,?_⟩
  rintro m σ H1 ⟨S,w,g,v,rfl,hs,hg,ha,sb,e,hw,rfl⟩
  have hle:=hs.le
  refine ⟨_,rfl,_,rfl,a,_,rfl,og.k (k:=Sum.inl (g:Int)) ha,?_⟩
  rw [pe]
  refine ⟨_,rfl,?_⟩
  refine qT (fun h=>?_) (fun h=>?_)
  ·have h:g∉S:=by simpa using h
   have hs':=hs.snoc hg h
   have hle':=hs'.le
   rw [C8,DX] at hle'
   refine ⟨_,fun σ' H' q=>q,?_⟩
   refine ⟨_,rfl,_,rfl,a,_,rfl,uZ.k (k:=Sum.inl (g:Int)) ha (by rw [yO];omega),?_⟩
   rw [yN h]
   have hx:=cO U g
   have em:((g:Int)+1) % (u.length:Int)=(((g+1) % u.length:Nat):Int):=by rw [Int.natCast_emod];rfl
   refine ⟨_,rfl,_,rfl,_,_,rfl,rfl,_,rfl,_,rfl,(by rw [ae];omega),_,_,rfl,rfl,(by rw [ae];omega),_,_,cp (dZ u g),rfl,rfl,(by rw [ae];omega),fj (k:=(g+1) % u.length) (by rw [ae];exact em) hx,?_⟩
   refine ⟨_,rfl,_,rfl,_,_,rfl,rfl,(by rw [ae];show w.length+1≤sizeLine;omega),?_⟩
   obtain ⟨rest,ho⟩:=ju (U.iv _ (iu U g))
   refine ⟨_,rfl,rfl,_,rfl,[dZ u g],rfl,(by show 1≤5000;decide),fun H2 s2=>?_⟩
   rw [c7]
   refine ⟨_,_,_,rest,rfl,rfl,ho,?_⟩
   have e2:=(ub (w:=w) hs hg h).symm.trans e
   refine ⟨u.length+1 - (S++[g]).length,?_,S++[g],w++[dZ u g],cj u g,some (tx [dZ u g]),(by rw [← eG];rfl),hs',dE U g,s2 _ _ ag,(sb.trans bL.upd).trans s2.b,e2,?_,rfl⟩
   ·rw [C8,DX]
    omega
   ·rw [C8,C8]
    simp only [DX]
    omega
  ·have h:g∈S:=by simpa using h
   rw [yL h] at e
   rw [← e] at k
   exact ⟨_,rfl,k _ ha hs sb⟩
abbrev kE:Stmt:=top 22
theorem tf:ax ["surface","told","seen","gap"] ["surface"] (ai kE):=⟨rfl,rfl,rfl,by decide +kernel,rfl,by decide +kernel,by decide +kernel⟩
theorem xh (D:Df K mg "holes" kE)(T:Bt K w mg aB)(F_hole:Fnc P w K mg base "hole_from" ["surface","start","seen"] 2 ph):Fnc P w K mg base "holes" ["surface"] 3 iy:=by
 have sc:=tf
 refine D.ok sc (fun _ _ _ _ _ _ us hl=>by obtain ⟨_,rfl⟩:=qY hl;rfl) (fun vs H Q E h=>?_) (fun f cdv A outer s H vs Q E hr h=>?_)
 ·obtain ⟨u,rfl,_⟩:=h
  rfl
 ·obtain ⟨u,rfl,U,k⟩:=h
  have hu:=rJ hr
  have l16:=aQ
  have h12:=U.le
  refine ⟨_,(@ah _ _ _ _ _ (@aC _ _ (1) _ _ _ _ sc.nd rfl (Or.inl rfl) (@bH _ _ _ _ af) (by rfl) (by first | exact .inl rfl | exact .inr rfl | assumption)) (@ah _ _ _ _ _ (@aC _ _ (2) _ _ _ _ sc.nd rfl (Or.inl rfl) rH (by rfl) (by first | exact .inl rfl | exact .inr rfl | assumption)) (@ah _ _ _ _ _ (@ei _ _ _ _ _ _ _ _ Et rfl (@bt _ _ _ _ _ _ rfl T.range (@aa _ _ _ _ _ (@aq _ _ _ _ _ _ _ _ _ ao (by rfl) T.len Dq (@aa _ _ _ _ _ (pv 0) af (by rfl)) (by decide) (by decide) (by rfl) (by rfl)) af (by rfl)) (by rfl)) (@aP _ _ (3) _ sc.nd rfl (Or.inl rfl) (by first | exact .inl rfl | exact .inr rfl | assumption)) (@ak _ _ _ (@bV _ _ _ _ _ _ _ _ (@o8 _ _ _ _ _ _ hu (pv 3) (pv 2) rfl) (@ak _ _ _ (@dQ _ _ _ _ (@cU _ _ _ _ _ _ _ _ _ _ _ _ EO PySem.F.slot_list_append PySem.F.type_list_append nY (pv 1) (@aa _ _ _ _ _ (@aF _ _ _ _ _ _ _ _ _ _ _ F_hole hr (by decide) rfl (@aa _ _ _ _ _ (pv 0) (@aa _ _ _ _ _ (pv 3) (@aa _ _ _ _ _ (pv 2) af (by rfl)) (by rfl)) (by rfl)) (by decide) (by rfl) (by rfl)) af (by rfl)) (by rfl) (by rfl) (by rfl) (by rfl) (by rfl)) (by rfl))) aX)) (by intro _ ;rfl)) (@ak _ _ _ (@aG _ _ _ _ (pv 1)))))),?_⟩
  refine ⟨(by show 0≤sizeLine;decide),fun l hl=>?_⟩
  have s1:aA H (upd H l (.lst [])):=aA.new hl
  have f1:(upd H l (.lst [])) l=some (.lst []):=ag
  generalize upd H l (.lst [])=H1 at s1 f1 ⊢
  intro a ha
  have la:a≠l:=(aD f1 ha).symm
  have s2:aA H1 (upd H1 a (.dK [])):=aA.new ha
  have f2:(upd H1 a (.dK [])) a=some (.dK []):=ag
  have g1:=s2 _ _ f1
  have s2:=s1.trans s2
  generalize upd H1 a (.dK [])=H2 at s2 f2 g1 ⊢
  have na:H a=none:=by
   cases e:H a with
   | none=>rfl
   | some o=>exact absurd (s1 _ _ e) (by rw [ha];intro z;cases z)
  refine ⟨_,rfl,_,rfl,(by rw [ae];omega),_,rfl,(by rw [ae];omega),(by rw [ae];omega),?_⟩
  rw [ae]
  refine ck (lo:=0) (n:=(u.length:Int).toNat) (fun i σ H'=>∃ v:Option V,σ = [some (tx u),some (.ref l),some (.ref a),v]∧H' l=some (.lst ((dk u i).2.map tx))∧H' a=some (.dK (sk (dk u i).1))∧Sn u (dk u i).1∧aA H H') ⟨none,rfl,g1,f2,Sn.nil u,s2⟩ ?_ ?_
  ·rintro i σ H3 hi ⟨v,rfl,h1,h2,hs,s3⟩
   have hi:i < u.length:=by omega
   rw [G8]
   refine ⟨_,rfl,_,rfl,a,_,rfl,og.k (k:=Sum.inl (i:Int)) h2,?_⟩
   rw [pe]
   refine ⟨_,rfl,?_⟩
   refine qT (fun h=>?_) (fun h=>?_)
   ·have h:i∉(dk u i).1:=by simpa using h
    refine ⟨_,rfl,.inl ⟨rfl,_,SqL.of h1⟩,_,rfl,_,rfl,_,rfl,u,i,a,_,rfl,U,hi,hs,h2,fun H4 q1 q2 q3=>?_⟩
    have h4:=q3 _ _ la.symm h1
    have hlen:=vt u i
    refine ⟨l,_,_,rfl,rfl,h4,by omega,_,rfl,?_,?_,?_,?_⟩
    ·rw [ag,iw h,DU]
     rfl
    ·rw [ay la,iw h]
     exact q1
    ·rw [iw h]
     exact q2
    ·intro b o e
     rw [ay (aD e hl)]
     exact q3 _ _ (aD e na) (s3 _ _ e)
   ·have h:i∈(dk u i).1:=by simpa using h
    exact ⟨_,rfl,by rw [jt h];exact h1,by rw [jt h];exact h2,by rw [jt h];exact hs,s3⟩
  ·rintro σ H3 ⟨v,rfl,h1,h2,hs,s3⟩
   exact ⟨_,rfl,k l _ hl h1 s3⟩
abbrev fV:Stmt:=top 24
theorem nv:ax ["surface"] ["surface"] (ai fV):=⟨rfl,rfl,rfl,by decide +kernel,rfl,by decide +kernel,by decide +kernel⟩
theorem qI (D:Df K mg "handles" fV)(T:Bt K w mg aB)(F_holes:Fnc P w K mg base "holes" ["surface"] 3 iy):Fnc P w K mg base "handles" ["surface"] 4 fz:=by
 have sc:=nv
 refine D.ok sc (fun _ _ _ _ _ _ us hl=>by obtain ⟨_,rfl⟩:=qY hl;rfl) (fun vs H Q E h=>?_) (fun f cdv A outer s H vs Q E hr h=>?_)
 ·obtain ⟨u,rfl,_⟩:=h
  rfl
 ·obtain ⟨u,rfl,U,k⟩:=h
  have l16:=aQ
  have h12:=U.le
  refine ⟨_,(@ak _ _ _ (@aG _ _ _ _ (@aI _ _ _ _ _ _ _ _ bR (@aI _ _ _ _ _ _ _ _ cn (@aI _ _ _ _ _ _ _ _ bA aj (@aI _ _ _ _ _ _ _ _ bR (@aq _ _ _ _ _ _ _ _ _ ao (by rfl) T.len Dq (@aa _ _ _ _ _ (pv 0) af (by rfl)) (by decide) (by decide) (by rfl) (by rfl)) aj)) (@aq _ _ _ _ _ _ _ _ _ aH (by rfl) T.len Dq (@aa _ _ _ _ _ (@aF _ _ _ _ _ _ _ _ _ _ _ F_holes hr (by decide) rfl (@aa _ _ _ _ _ (pv 0) af (by rfl)) (by decide) (by rfl) (by rfl)) af (by rfl)) (by decide) (by decide) (by rfl) (by rfl))) aj))),?_⟩
  refine ⟨_,rfl,_,rfl,(by rw [ae];omega),_,_,rfl,rfl,⟨by decide,by decide⟩,_,_,rfl,rfl,_,rfl,u,rfl,U,fun l H1 _ hl s1=>?_⟩
  refine ⟨l,_,rfl,.inl (SqL.of hl),_,_,rfl,rfl,_,_,rfl,rfl,⟨by decide,by decide⟩,?_⟩
  rw [C4,ae]
  exact k _ s1
abbrev qJ:Stmt:=top 26
theorem xi:ax ["ways","walk","step","way","letter"] ["ways","walk","step"] (ai qJ):=⟨rfl,rfl,rfl,by decide +kernel,rfl,by decide +kernel,by decide +kernel⟩
theorem Ac (D:Df K mg "met" qJ)(T:Bt K w mg aB)(F_back:Fnc P w K mg base "back" ["word"] 1 k_):Fnc P w K mg base "met" ["ways","walk","step"] 2 jD:=by
 have sc:=xi
 refine D.ok sc (fun _ _ _ _ _ _ us hl=>by obtain ⟨_,_,_,rfl⟩:=wN hl;rfl) (fun vs H Q E h=>?_) (fun f cdv A outer s H vs Q E hr h=>?_)
 ·obtain ⟨a,x,n,W,s,wy,kk,rfl,_⟩:=h
  rfl
 ·obtain ⟨a,x,n,W,s,wy,kk,rfl,hW,hp,i0,i1,hwy,k⟩:=h
  have l16:=aQ
  obtain ⟨_,hat,_,l30,lp,_⟩:=hW.ok.get i0 i1
  have k:∀ H',aA H H'→Q (tx [sgZ (wyZ W s.1) s.2 wy kk]) H':=k
  generalize wyZ W s.1=v at hat l30 lp k
  refine ⟨_,(@ah _ _ _ _ _ (@aC _ _ (3) _ _ _ _ sc.nd rfl (Or.inl rfl) (@aR _ _ _ _ _ _ _ bg (pv 0) (@aR _ _ _ _ _ _ _ bg (pv 1) aj (fun _ _=>rfl)) (fun _ _=>rfl)) (by rfl) (by first | exact .inl rfl | exact .inr rfl | assumption)) (@ah _ _ _ _ _ (@aC _ _ (4) _ _ _ _ sc.nd rfl (Or.inl rfl) (@aR _ _ _ _ _ _ _ fc (pv 3) (@aI _ _ _ _ _ _ _ _ cV (@aI _ _ _ _ _ _ _ _ bA (@aR _ _ _ _ _ _ _ bg (pv 1) aj (fun _ _=>rfl)) (@aI _ _ _ _ _ _ _ _ eY (@aR _ _ _ _ _ _ _ bg (pv 1) aj (fun _ _=>rfl)) (pv 2))) (@aq _ _ _ _ _ _ _ _ _ ao (by rfl) T.len Dq (@aa _ _ _ _ _ (pv 3) af (by rfl)) (by decide) (by decide) (by rfl) (by rfl))) (fun _ _=>rfl)) (by rfl) (by first | exact .inl rfl | exact .inr rfl | assumption)) (@ak _ _ _ (@aG _ _ _ _ (@b6 _ _ _ _ _ _ _ _ (@aJ _ _ _ _ _ _ _ _ dR (@aR _ _ _ _ _ _ _ bg (pv 1) aj (fun _ _=>rfl)) aj (aM _)) (pv 4) (@aF _ _ _ _ _ _ _ _ _ _ _ F_back hr (by decide) rfl (@aa _ _ _ _ _ (pv 4) af (by rfl)) (by decide) (by rfl) (by rfl))))))),?_⟩
  refine ⟨_,rfl,_,rfl,x,_,_,_,rfl,rfl,SqT.of hp,rfl,a,_,_,_,rfl,rfl,SqT.of hW.at_,hat,?_⟩
  have cm:As wy kk:=.inl ⟨by rcases hwy with rfl | rfl <;> decide,by rcases hwy with rfl | rfl <;> decide⟩
  refine ⟨_,rfl,_,rfl,x,_,_,_,rfl,rfl,SqT.of hp,rfl,_,rfl,x,_,_,_,rfl,rfl,SqT.of hp,rfl,_,rfl,_,_,rfl,rfl,cm,_,_,rfl,rfl,_,rfl,_,rfl,(by rw [ae];omega),_,_,rfl,rfl,(by rw [ae];omega),?_⟩
  rw [ae]
  refine ⟨_,_,_,rfl,rfl,(by rw [ae];omega),CV (by omega),?_⟩
  refine ⟨_,rfl,x,_,_,_,rfl,rfl,SqT.of hp,rfl,?_⟩
  refine ⟨rfl,_,rfl,?_⟩
  rcases hwy with rfl | rfl
  ·refine nB rfl ⟨_,rfl,?_⟩
   have:=k _ (aA.refl _)
   unfold sgZ at this
   rw [if_pos rfl] at this
   exact this
  ·refine tV rfl ⟨_,rfl,[atZ v (s.2 + -1*kk)],rfl,(by show 1≤_;decide),fun H' s'=>?_⟩
   have:=k _ s'
   unfold sgZ at this
   rw [if_neg (by decide)] at this
   exact this
abbrev BG:Stmt:=top 12
theorem BH:ax ["surface","start","end"] ["surface","start","end"] (ai BG):=⟨rfl,rfl,rfl,by decide +kernel,rfl,by decide +kernel,by decide +kernel⟩
theorem C1 (D:Df K mg "round_from" BG)(T:Bt K w mg aB):Fnc P w K mg base "round_from" ["surface","start","end"] 1 Bs:=by
 have sc:=BH
 refine D.ok sc (fun _ _ _ _ _ _ us hl=>by obtain ⟨_,_,_,rfl⟩:=wN hl;rfl) (fun vs H Q E h=>?_) (fun f cdv A outer s H vs Q E hr h=>?_)
 ·obtain ⟨u,k,a,b,rfl,_⟩:=h
  rfl
 ·obtain ⟨u,k,a,b,rfl,U,ha,hb,q⟩:=h
  have l16:=aQ
  have hl:=U.len
  have h1:=U.lo
  have h6:=U.hi
  obtain ⟨r1,o1⟩:=ju ha
  obtain ⟨r2,o2⟩:=ju hb
  refine ⟨_,(@ak _ _ _ (@aG _ _ _ _ (@aI _ _ _ _ _ _ _ _ cV (@aI _ _ _ _ _ _ _ _ cn (@cU _ _ _ _ _ _ _ _ _ _ _ _ DC EZ E1 dC (pv 0) (@aa _ _ _ _ _ (pv 2) af (by rfl)) (by rfl) (by rfl) (by rfl) (by rfl) (by rfl)) (@cU _ _ _ _ _ _ _ _ _ _ _ _ DC EZ E1 dC (pv 0) (@aa _ _ _ _ _ (pv 1) af (by rfl)) (by rfl) (by rfl) (by rfl) (by rfl) (by rfl))) (@aq _ _ _ _ _ _ _ _ _ ao (by rfl) T.len Dq (@aa _ _ _ _ _ (pv 0) af (by rfl)) (by decide) (by decide) (by rfl) (by rfl))))),?_⟩
  refine ⟨_,rfl,rfl,_,rfl,_,_,_,r2,rfl,rfl,o2,_,rfl,rfl,_,rfl,_,_,_,r1,rfl,rfl,o1,_,_,rfl,rfl,_,rfl,_,rfl,(by rw [ae];omega),_,_,rfl,rfl,(by rw [ae];omega),?_⟩
  rw [ae]
  exact q
abbrev xj:Stmt:=top 36
theorem Ad:ax ["surface","start","end","other"] ["surface","start","end","other"] (ai xj):=⟨rfl,rfl,rfl,by decide +kernel,rfl,by decide +kernel,by decide +kernel⟩
theorem BI (D:Df K mg "is_first" xj)(T:Bt K w mg aB)(F_rf:Fnc P w K mg base "round_from" ["surface","start","end"] 1 Bs):Fnc P w K mg base "is_first" ["surface","start","end","other"] 2 wc:=by
 have sc:=Ad
 refine D.ok sc (fun _ _ _ _ _ _ us hl=>by obtain ⟨_,_,_,_,rfl⟩:=xI hl;rfl) (fun vs H Q E h=>?_) (fun f cdv A outer s H vs Q E hr h=>?_)
 ·obtain ⟨u,k,s,a,b,rfl,_⟩:=h
  rfl
 ·obtain ⟨u,kk,s,a,b,rfl,U,hs,ha,hb,k⟩:=h
  refine ⟨_,(@ak _ _ _ (@aG _ _ _ _ (@de _ _ _ _ _ _ _ _ gO (@aF _ _ _ _ _ _ _ _ _ _ _ F_rf hr (by decide) rfl (@aa _ _ _ _ _ (pv 0) (@aa _ _ _ _ _ (pv 1) (@aa _ _ _ _ _ (pv 2) af (by rfl)) (by rfl)) (by rfl)) (by decide) (by rfl) (by rfl)) (@aF _ _ _ _ _ _ _ _ _ _ _ F_rf hr (by decide) rfl (@aa _ _ _ _ _ (pv 0) (@aa _ _ _ _ _ (pv 1) (@aa _ _ _ _ _ (pv 3) af (by rfl)) (by rfl)) (by rfl)) (by decide) (by rfl) (by rfl)) (aM _)))),?_⟩
  exact ⟨_,rfl,_,rfl,_,rfl,u,kk,s,a,rfl,U,hs,ha,_,rfl,_,rfl,_,rfl,u,kk,s,b,rfl,U,hs,hb,_,_,rfl,rfl,k _ (aA.refl _)⟩
abbrev BJ:Stmt:=top 31
theorem BK:ax ["ways","strand","walk"] ["ways","strand"] (ai BJ):=⟨rfl,rfl,rfl,by decide +kernel,rfl,by decide +kernel,by decide +kernel⟩
theorem C2 (D:Df K mg "chord_ends" BJ)(T:Bt K w mg aB)(F_back:Fnc P w K mg base "back" ["word"] 1 k_)(F_mets:Fnc P w K mg base "met" ["ways","walk","step"] 2 jD):Fnc P w K mg base "chord_ends" ["ways","strand"] 3 Bu:=by
 have sc:=BK
 refine D.ok sc (fun _ _ _ _ _ _ us hl=>by obtain ⟨_,_,rfl⟩:=qZ hl;rfl) (fun vs H Q E h=>?_) (fun f cdv A outer s H vs Q E hr h=>?_)
 ·obtain ⟨a,x,n,W,s,rfl,_⟩:=h
  rfl
 ·obtain ⟨a,x,n,W,s,rfl,hW,hx,ok,k⟩:=h
  have l16:=aQ
  refine ⟨_,(@ah _ _ _ _ _ (@aC _ _ (2) _ _ _ _ sc.nd rfl (Or.inl rfl) (@bG _ _ _ _ _ (@aa _ _ _ _ _ (@aR _ _ _ _ _ _ _ bg (pv 1) aj (fun _ _=>rfl)) (@aa _ _ _ _ _ (@aR _ _ _ _ _ _ _ bg (pv 1) aj (fun _ _=>rfl)) (@aa _ _ _ _ _ aj af (by rfl)) (by rfl)) (by rfl))) (by rfl) (by first | exact .inl rfl | exact .inr rfl | assumption)) (@ak _ _ _ (@aG _ _ _ _ (@aI _ _ _ _ _ _ _ _ a6 (@aF _ _ _ _ _ _ _ _ _ _ _ F_back hr (by decide) rfl (@aa _ _ _ _ _ (@aF _ _ _ _ _ _ _ _ _ _ _ F_mets hr (by decide) rfl (@aa _ _ _ _ _ (pv 0) (@aa _ _ _ _ _ (pv 2) (@aa _ _ _ _ _ aj af (by rfl)) (by rfl)) (by rfl)) (by decide) (by rfl) (by rfl)) af (by rfl)) (by decide) (by rfl) (by rfl)) (@aF _ _ _ _ _ _ _ _ _ _ _ F_mets hr (by decide) rfl (@aa _ _ _ _ _ (pv 0) (@aa _ _ _ _ _ (pv 2) (@aa _ _ _ _ _ aj af (by rfl)) (by rfl)) (by rfl)) (by decide) (by rfl) (by rfl)))))),?_⟩
  refine ⟨_,rfl,x,_,_,_,rfl,rfl,SqT.of hx,rfl,_,rfl,x,_,_,_,rfl,rfl,SqT.of hx,rfl,(by show 3≤sizeLine;omega),fun p hp=>?_⟩
  have s1:aA H (upd H p (.tup [.int s.1,.int s.2,.int 1])):=aA.new hp
  have f1:(upd H p (.tup [.int s.1,.int s.2,.int 1])) p=some (.tup [.int s.1,.int s.2,.int 1]):=ag
  generalize upd H p (.tup [.int s.1,.int s.2,.int 1])=H1 at s1 f1 ⊢
  refine ⟨_,rfl,_,rfl,a,p,n,W,s,1,0,rfl,hW.same s1,f1,ok.1,ok.2.1,.inl rfl,fun H2 s2=>⟨[fZ W s 1 0],rfl,(by show 1≤_;decide),fun H3 s3=>?_⟩⟩
  have s13:=(s1.trans s2).trans s3
  refine ⟨_,rfl,_,rfl,a,p,n,W,s,1,1,rfl,hW.same s13,s3 _ _ (s2 _ _ f1),ok.1,ok.2.1,.inl rfl,fun H4 s4=>⟨_,_,rfl,rfl,(by rw [ae,ae,cD];show 1+1≤_;omega),?_⟩⟩
  rw [eG,c7]
  exact k _ (s13.trans s4)
abbrev xk:Stmt:=top 34
theorem Ae:ax ["ways","one","other","many"] ["ways","one","other"] (ai xk):=⟨rfl,rfl,rfl,by decide +kernel,rfl,by decide +kernel,by decide +kernel⟩
theorem BL (D:Df K mg "stretch" xk)(T:Bt K w mg aB)(F_mets:Fnc P w K mg base "met" ["ways","walk","step"] 2 jD):Fnc P w K mg base "stretch" ["ways","one","other"] 3 ml:=by
 have sc:=Ae
 refine D.ok sc (fun _ _ _ _ _ _ us hl=>by obtain ⟨_,_,_,rfl⟩:=wN hl;rfl) (fun vs H Q E h=>?_) (fun f cdv A outer s H vs Q E hr h=>?_)
 ·obtain ⟨a,x,y,n,W,s,t,wy,rfl,_⟩:=h
  rfl
 ·obtain ⟨a,x,y,n,W,s,t,wy,rfl,hW,hx,hy,os,ot,hwy,k⟩:=h
  have l16:=aQ
  obtain ⟨_,_,Rw,lw30,lwp,_⟩:=hW.ok.get os.1 os.2.1
  obtain ⟨_,_,Rv,lv30,lvp,_⟩:=hW.ok.get ot.1 ot.2.1
  refine ⟨_,(@ah _ _ _ _ _ (@bV _ _ _ _ _ _ _ _ (@aJ _ _ _ _ _ _ _ _ dR (@aF _ _ _ _ _ _ _ _ _ _ _ F_mets hr (by decide) rfl (@aa _ _ _ _ _ (pv 0) (@aa _ _ _ _ _ (pv 1) (@aa _ _ _ _ _ (@mL _ _ _ _ _ _ gf aj) af (by rfl)) (by rfl)) (by rfl)) (by decide) (by rfl) (by rfl)) (@aF _ _ _ _ _ _ _ _ _ _ _ F_mets hr (by decide) rfl (@aa _ _ _ _ _ (pv 0) (@aa _ _ _ _ _ (pv 2) (@aa _ _ _ _ _ (@mL _ _ _ _ _ _ gf aj) af (by rfl)) (by rfl)) (by rfl)) (by decide) (by rfl) (by rfl)) (aM _)) (@ak _ _ _ (@aG _ _ _ _ aj)) aX) (@ah _ _ _ _ _ (@aC _ _ (3) _ _ _ _ sc.nd rfl (Or.inl rfl) aj (by rfl) (by first | exact .inl rfl | exact .inr rfl | assumption)) (@ah _ _ _ _ _ (@gN _ _ _ _ _ _ Et (@aJ _ _ _ _ _ _ _ _ dR (@aF _ _ _ _ _ _ _ _ _ _ _ F_mets hr (by decide) rfl (@aa _ _ _ _ _ (pv 0) (@aa _ _ _ _ _ (pv 1) (@aa _ _ _ _ _ (pv 3) af (by rfl)) (by rfl)) (by rfl)) (by decide) (by rfl) (by rfl)) (@aF _ _ _ _ _ _ _ _ _ _ _ F_mets hr (by decide) rfl (@aa _ _ _ _ _ (pv 0) (@aa _ _ _ _ _ (pv 2) (@aa _ _ _ _ _ (pv 3) af (by rfl)) (by rfl)) (by rfl)) (by decide) (by rfl) (by rfl)) (aM _)) (@ak _ _ _ (@xS _ _ (3) _ _ _ _ _ _ sc.nd rfl (Or.inl rfl) aj xT (by first | exact .inl rfl | exact .inr rfl | assumption)))) (@ak _ _ _ (@aG _ _ _ _ (pv 3)))))),?_⟩
  refine ⟨_,rfl,_,rfl,_,rfl,a,x,n,W,s,1,-1,rfl,hW,hx,os.1,os.2.1,.inl rfl,fun H1 s1=>?_⟩
  refine ⟨_,rfl,_,rfl,_,rfl,a,y,n,W,t,wy,-1,rfl,hW.same s1,s1 _ _ hy,ot.1,ot.2.1,hwy,fun H2 s2=>⟨rfl,_,rfl,?_⟩⟩
  have s12:=s1.trans s2
  rw [oB]
  by_cases e:fZ W s 1 (-1)=fZ W t wy (-1)
  ·rw [C_ (by rw [e])]
   refine lK ?_
   have:=k _ s12
   rw [if_pos e] at this
   exact this
  ·rw [C7 (fun z=>e (E4 z).1)]
   refine j9 ?_
   rw [if_neg e] at k
   obtain ⟨hend,hne⟩:=uD Rw.ne Rv.ne hwy e
   obtain ⟨_,_,hal,_⟩:=fP (fZ W s 1) (fZ W t wy) ((wyZ W s.1).length+(wyZ W t.1).length) 0
   have hne:fZ W s 1 (nZ W s t wy)≠fZ W t wy (nZ W s t wy):=hne
   have hal:∀ j:Nat,0≤j→j < nZ W s t wy→fZ W s 1 j=fZ W t wy j:=hal
   refine ⟨fun m σ H'=>∃ i:Nat,σ = [some (.ref a),some (.ref x),some (.ref y),some (.int (i:Int))]∧i≤nZ W s t wy∧m=nZ W s t wy - i∧aA H H',⟨_,0,rfl,D2 _,rfl,s12⟩,?_⟩
   rintro m σ H3 ⟨i,rfl,hi,rfl,s3⟩
   refine ⟨_,rfl,_,rfl,_,rfl,a,x,n,W,s,1,(i:Int),rfl,hW.same s3,s3 _ _ hx,os.1,os.2.1,.inl rfl,fun H4 s4=>?_⟩
   refine ⟨_,rfl,_,rfl,_,rfl,a,y,n,W,t,wy,(i:Int),rfl,hW.same (s3.trans s4),(s3.trans s4) _ _ hy,ot.1,ot.2.1,hwy,fun H5 s5=>⟨rfl,_,rfl,?_⟩⟩
   have s35:=(s3.trans s4).trans s5
   rw [oB]
   by_cases c:i < nZ W s t wy
   ·refine qT (fun _=>?_) (fun z=>?_)
    ·refine ⟨_,fun σ' H' q=>q,?_⟩
     refine ⟨_,rfl,_,_,rfl,rfl,?_⟩
     exact ⟨_,Nat.sub_lt_sub_left c (Fm i),i+1,(by rw [show (((i+1:Nat):Int))=(i:Int)+1 by omega];rfl),c,rfl,s35⟩
    ·rw [hal i (D2 _) c] at z
     simp at z
   ·obtain rfl:i=nZ W s t wy:=by omega
    refine qT (fun z=>?_) (fun _=>?_)
    ·exact absurd (by simpa using z) hne
    ·exact ⟨_,rfl,k _ s35⟩
abbrev qK:Stmt:=top 35
theorem xo:ax ["surface","ways","one","other","many","end","ahead","begin"] ["surface","ways","one","other","many"] (ai qK):=⟨rfl,rfl,rfl,by decide +kernel,rfl,by decide +kernel,by decide +kernel⟩
theorem Af (D:Df K mg "is_parted" qK)(T:Bt K w mg aB)(F_back:Fnc P w K mg base "back" ["word"] 1 k_)(F_mets:Fnc P w K mg base "met" ["ways","walk","step"] 2 jD)(F_fst:Fnc P w K mg base "is_first" ["surface","start","end","other"] 2 wc):Fnc P w K mg base "is_parted" ["surface","ways","one","other","many"] 3 mn:=by
 have sc:=xo
 refine D.ok sc (fun _ _ _ _ _ _ us hl=>by obtain ⟨_,_,_,_,_,rfl⟩:=C0 hl;rfl) (fun vs H Q E h=>?_) (fun f cdv A outer s H vs Q E hr h=>?_)
 ·obtain ⟨u,a,x,y,n,m,W,s,t,wy,rfl,_⟩:=h
  rfl
 ·obtain ⟨u,a,x,y,n,m,W,s,t,wy,rfl,U,hW,hx,hy,os,ot,hwy,k⟩:=h
  have one:1≤100000:=by decide
  refine ⟨_,(@ah _ _ _ _ _ (@bV _ _ _ _ _ _ _ _ (@aJ _ _ _ _ _ _ _ _ dR (pv 4) aj (aM _)) (@ak _ _ _ (@aG _ _ _ _ gM)) aX) (@ah _ _ _ _ _ (@aC _ _ (5) _ _ _ _ sc.nd rfl (Or.inl rfl) (@aF _ _ _ _ _ _ _ _ _ _ _ F_back hr (by decide) rfl (@aa _ _ _ _ _ (@aF _ _ _ _ _ _ _ _ _ _ _ F_mets hr (by decide) rfl (@aa _ _ _ _ _ (pv 1) (@aa _ _ _ _ _ (pv 2) (@aa _ _ _ _ _ (@aI _ _ _ _ _ _ _ _ cn (pv 4) aj) af (by rfl)) (by rfl)) (by rfl)) (by decide) (by rfl) (by rfl)) af (by rfl)) (by decide) (by rfl) (by rfl)) (by rfl) (by first | exact .inl rfl | exact .inr rfl | assumption)) (@ah _ _ _ _ _ (@aC _ _ (6) _ _ _ _ sc.nd rfl (Or.inl rfl) (@aF _ _ _ _ _ _ _ _ _ _ _ F_fst hr (by decide) rfl (@aa _ _ _ _ _ (pv 0) (@aa _ _ _ _ _ (pv 5) (@aa _ _ _ _ _ (@aF _ _ _ _ _ _ _ _ _ _ _ F_mets hr (by decide) rfl (@aa _ _ _ _ _ (pv 1) (@aa _ _ _ _ _ (pv 2) (@aa _ _ _ _ _ (pv 4) af (by rfl)) (by rfl)) (by rfl)) (by decide) (by rfl) (by rfl)) (@aa _ _ _ _ _ (@aF _ _ _ _ _ _ _ _ _ _ _ F_mets hr (by decide) rfl (@aa _ _ _ _ _ (pv 1) (@aa _ _ _ _ _ (pv 3) (@aa _ _ _ _ _ (pv 4) af (by rfl)) (by rfl)) (by rfl)) (by decide) (by rfl) (by rfl)) af (by rfl)) (by rfl)) (by rfl)) (by rfl)) (by decide) (by rfl) (by rfl)) (by rfl) (by first | exact .inl rfl | exact .inr rfl | assumption)) (@ah _ _ _ _ _ (@aC _ _ (7) _ _ _ _ sc.nd rfl (Or.inl rfl) (@aF _ _ _ _ _ _ _ _ _ _ _ F_mets hr (by decide) rfl (@aa _ _ _ _ _ (pv 1) (@aa _ _ _ _ _ (pv 2) (@aa _ _ _ _ _ aj af (by rfl)) (by rfl)) (by rfl)) (by decide) (by rfl) (by rfl)) (by rfl) (by first | exact .inl rfl | exact .inr rfl | assumption)) (@ak _ _ _ (@aG _ _ _ _ (@de _ _ _ _ _ _ _ _ dR (pv 6) (@aF _ _ _ _ _ _ _ _ _ _ _ F_fst hr (by decide) rfl (@aa _ _ _ _ _ (pv 0) (@aa _ _ _ _ _ (pv 7) (@aa _ _ _ _ _ (@aF _ _ _ _ _ _ _ _ _ _ _ F_back hr (by decide) rfl (@aa _ _ _ _ _ (@aF _ _ _ _ _ _ _ _ _ _ _ F_mets hr (by decide) rfl (@aa _ _ _ _ _ (pv 1) (@aa _ _ _ _ _ (pv 2) (@aa _ _ _ _ _ (@mL _ _ _ _ _ _ gf aj) af (by rfl)) (by rfl)) (by rfl)) (by decide) (by rfl) (by rfl)) af (by rfl)) (by decide) (by rfl) (by rfl)) (@aa _ _ _ _ _ (@aF _ _ _ _ _ _ _ _ _ _ _ F_back hr (by decide) rfl (@aa _ _ _ _ _ (@aF _ _ _ _ _ _ _ _ _ _ _ F_mets hr (by decide) rfl (@aa _ _ _ _ _ (pv 1) (@aa _ _ _ _ _ (pv 3) (@aa _ _ _ _ _ (@mL _ _ _ _ _ _ gf aj) af (by rfl)) (by rfl)) (by rfl)) (by decide) (by rfl) (by rfl)) af (by rfl)) (by decide) (by rfl) (by rfl)) af (by rfl)) (by rfl)) (by rfl)) (by rfl)) (by decide) (by rfl) (by rfl)) (aM _)))))))),?_⟩
  refine ⟨_,rfl,rfl,_,rfl,?_⟩
  by_cases e:m=0
  ·subst e
   exact lK (k _ (aA.refl _))
  ·have ez:decide (V.int (m:Int)=V.int 0)=false:=C7 (fun z=>e (by injection z with z;omega))
   rw [ez]
   refine j9 ?_
   have ws:=fun {H'} (q:aA H H')=>hW.same q
   refine ⟨_,rfl,_,rfl,_,rfl,_,_,rfl,rfl,a,x,n,W,s,1,_,rfl,hW,hx,os.1,os.2.1,.inl rfl,fun H1 s1=>?_⟩
   refine ⟨[fZ W s 1 ((m:Int) - 1)],rfl,(by show 1≤_;decide),fun H2 s2=>?_⟩
   rw [c7]
   have q2:=s1.trans s2
   refine ⟨_,rfl,_,rfl,_,rfl,_,rfl,_,rfl,a,x,n,W,s,1,_,rfl,ws q2,q2 _ _ hx,os.1,os.2.1,.inl rfl,fun H3 s3=>?_⟩
   have q3:=q2.trans s3
   refine ⟨_,rfl,_,rfl,_,rfl,a,y,n,W,t,wy,_,rfl,ws q3,q3 _ _ hy,ot.1,ot.2.1,hwy,fun H4 s4=>?_⟩
   have q4:=q3.trans s4
   refine ⟨u,n,_,_,_,rfl,U,(fY U hW.ok os 1 _).2,(fY U hW.ok os 1 _).1,(fY U hW.ok ot wy _).1,fun H5 s5=>?_⟩
   have q5:=q4.trans s5
   refine ⟨_,rfl,_,rfl,a,x,n,W,s,1,_,rfl,ws q5,q5 _ _ hx,os.1,os.2.1,.inl rfl,fun H6 s6=>?_⟩
   have q6:=q5.trans s6
   refine ⟨_,rfl,_,rfl,_,rfl,_,rfl,_,rfl,_,rfl,a,x,n,W,s,1,_,rfl,ws q6,q6 _ _ hx,os.1,os.2.1,.inl rfl,fun H7 s7=>?_⟩
   refine ⟨[fZ W s 1 (-1)],rfl,(by show 1≤_;decide),fun H8 s8=>?_⟩
   rw [c7]
   have q8:=(q6.trans s7).trans s8
   refine ⟨_,rfl,_,rfl,_,rfl,a,y,n,W,t,wy,_,rfl,ws q8,q8 _ _ hy,ot.1,ot.2.1,hwy,fun H9 s9=>?_⟩
   refine ⟨[fZ W t wy (-1)],rfl,(by show 1≤_;decide),fun H10 s10=>?_⟩
   rw [c7]
   have q10:=(q8.trans s9).trans s10
   refine ⟨u,n,_,_,_,rfl,U,(fY U hW.ok os 1 _).1,(fY U hW.ok os 1 _).2,(fY U hW.ok ot wy _).2,fun H11 s11=>?_⟩
   have:=k _ (q10.trans s11)
   unfold jE at this
   rw [C_ (show 0 < m by omega),FG] at this
   refine ⟨rfl,?_⟩
   refine cast (DH (fun b=>Q (.bl b) H11) ?_) this
   exact Bv _ _
abbrev xp:Stmt:=top 32
theorem Ag:ax ["surface","ways","one","other","mine","theirs","many"] ["surface","ways","one","other"] (ai xp):=⟨rfl,rfl,rfl,by decide +kernel,rfl,by decide +kernel,by decide +kernel⟩
theorem BM (D:Df K mg "along_at" xp)(T:Bt K w mg aB)(F_str:Fnc P w K mg base "stretch" ["ways","one","other"] 3 ml)(F_part:Fnc P w K mg base "is_parted" ["surface","ways","one","other","many"] 3 mn):Fnc P w K mg base "along_at" ["surface","ways","one","other"] 4 (sV wd):=by
 have sc:=Ag
 refine D.ok sc (fun _ _ _ _ _ _ us hl=>by obtain ⟨_,_,_,_,rfl⟩:=xI hl;rfl) (fun vs H Q E h=>?_) (fun f cdv A outer s H vs Q E hr h=>?_)
 ·obtain ⟨u,a,x,y,n,W,s,t,rfl,_⟩:=h
  rfl
 ·obtain ⟨u,a,x,y,n,W,s,t,rfl,U,hW,hx,hy,os,ot,k⟩:=h
  refine ⟨_,(@ah _ _ _ _ _ (@aC _ _ (4) _ _ _ _ sc.nd rfl (Or.inl rfl) (@bG _ _ _ _ _ (@aa _ _ _ _ _ (@aR _ _ _ _ _ _ _ bg (pv 2) aj (fun _ _=>rfl)) (@aa _ _ _ _ _ (@aR _ _ _ _ _ _ _ bg (pv 2) aj (fun _ _=>rfl)) (@aa _ _ _ _ _ aj af (by rfl)) (by rfl)) (by rfl))) (by rfl) (by first | exact .inl rfl | exact .inr rfl | assumption)) (@ah _ _ _ _ _ (@aC _ _ (5) _ _ _ _ sc.nd rfl (Or.inl rfl) (@bG _ _ _ _ _ (@aa _ _ _ _ _ (@aR _ _ _ _ _ _ _ bg (pv 3) aj (fun _ _=>rfl)) (@aa _ _ _ _ _ (@aR _ _ _ _ _ _ _ bg (pv 3) aj (fun _ _=>rfl)) (@aa _ _ _ _ _ aj af (by rfl)) (by rfl)) (by rfl))) (by rfl) (by first | exact .inl rfl | exact .inr rfl | assumption)) (@ah _ _ _ _ _ (@aC _ _ (6) _ _ _ _ sc.nd rfl (Or.inl rfl) (@aF _ _ _ _ _ _ _ _ _ _ _ F_str hr (by decide) rfl (@aa _ _ _ _ _ (pv 1) (@aa _ _ _ _ _ (pv 4) (@aa _ _ _ _ _ (pv 5) af (by rfl)) (by rfl)) (by rfl)) (by decide) (by rfl) (by rfl)) (by rfl) (by first | exact .inl rfl | exact .inr rfl | assumption)) (@ak _ _ _ (@aG _ _ _ _ (@b6 _ _ _ _ _ _ _ _ (@cK _ _ _ (@aF _ _ _ _ _ _ _ _ _ _ _ F_part hr (by decide) rfl (@qU _ _ _ _ _ (pv 0) (@qU _ _ _ _ _ (pv 1) (@qU _ _ _ _ _ (pv 4) (@qU _ _ _ _ _ (pv 5) (@qU _ _ _ _ _ (pv 6) af (by rfl)) (by rfl)) (by rfl)) (by rfl)) (by rfl)) (by decide) (by rfl) (by rfl)) (fun _=>rfl)) (@bH _ _ _ _ (@aa _ _ _ _ _ (@bG _ _ _ _ _ (@aa _ _ _ _ _ aK (@aa _ _ _ _ _ (pv 2) (@aa _ _ _ _ _ (pv 3) (@aa _ _ _ _ _ (pv 6) af (by rfl)) (by rfl)) (by rfl)) (by rfl))) af (by rfl))) (@bH _ _ _ _ af))))))),?_⟩
  refine ⟨_,rfl,x,_,_,_,rfl,rfl,SqT.of hx,rfl,_,rfl,x,_,_,_,rfl,rfl,SqT.of hx,rfl,(by show 3≤_;decide),fun p hp=>?_⟩
  have s1:aA H (upd H p (.tup [.int s.1,.int s.2,.int 1])):=aA.new hp
  have f1:(upd H p (.tup [.int s.1,.int s.2,.int 1])) p=some (.tup [.int s.1,.int s.2,.int 1]):=ag
  generalize upd H p (.tup [.int s.1,.int s.2,.int 1])=H1 at s1 f1 ⊢
  refine ⟨_,rfl,y,_,_,_,rfl,rfl,SqT.of (s1 _ _ hy),rfl,_,rfl,y,_,_,_,rfl,rfl,SqT.of (s1 _ _ hy),rfl,(by show 3≤_;decide),fun q hq=>?_⟩
  have s2:aA H1 (upd H1 q (.tup [.int t.1,.int t.2,.int 1])):=aA.new hq
  have f2:(upd H1 q (.tup [.int t.1,.int t.2,.int 1])) q=some (.tup [.int t.1,.int t.2,.int 1]):=ag
  generalize upd H1 q (.tup [.int t.1,.int t.2,.int 1])=H2 at s2 f2 ⊢
  have q2:=s1.trans s2
  refine ⟨_,rfl,_,rfl,_,rfl,a,p,q,n,W,s,t,1,rfl,hW.same q2,s2 _ _ f1,f2,os,ot,.inl rfl,fun H3 s3=>?_⟩
  have q3:=q2.trans s3
  refine ⟨_,rfl,_,rfl,_,rfl,_,rfl,_,rfl,u,a,p,q,n,_,W,s,t,1,rfl,U,hW.same q3,s3 _ _ (s2 _ _ f1),s3 _ _ f2,os,ot,.inl rfl,fun H4 s4=>⟨_,rfl,?_⟩⟩
  rw [mq hW.ok os ot (.inl rfl)]
  have q4:=q3.trans s4
  by_cases c:ptB u (fZ W s 1) (fZ W t 1) (nZ W s t 1)=true
  ·have hb:¬ fZ W s 1 (-1)=fZ W t 1 (-1):=fun z=>by rw [iO z] at c;cases c
   rw [c,if_neg hb]
   refine AA ⟨_,rfl,_,rfl,_,rfl,(by show 4≤_;decide),fun r hr'=>⟨(by show 1≤_;decide),fun l hl=>?_⟩⟩
   refine ky (m:=.a s t (nZ W s t 1)) q4 hr' hl ⟨x,y,ag,(q4.trans (aA.new hr')) _ _ hx,(q4.trans (aA.new hr')) _ _ hy⟩ k ?_
   unfold wd
   rw [c]
   rfl
  ·rw [FO] at c
   rw [c]
   refine AB ⟨(by show 0≤_;decide),fun l hl=>?_⟩
   refine jF q4 hl k ?_
   unfold wd
   rw [c]
   rfl
abbrev xq:Stmt:=top 33
theorem Ah:ax ["surface","ways","one","other","mine","theirs","many"] ["surface","ways","one","other"] (ai xq):=⟨rfl,rfl,rfl,by decide +kernel,rfl,by decide +kernel,by decide +kernel⟩
theorem BN (D:Df K mg "against_at" xq)(T:Bt K w mg aB)(F_str:Fnc P w K mg base "stretch" ["ways","one","other"] 3 ml)(F_part:Fnc P w K mg base "is_parted" ["surface","ways","one","other","many"] 3 mn):Fnc P w K mg base "against_at" ["surface","ways","one","other"] 4 (sV ql):=by
 have sc:=Ah
 refine D.ok sc (fun _ _ _ _ _ _ us hl=>by obtain ⟨_,_,_,_,rfl⟩:=xI hl;rfl) (fun vs H Q E h=>?_) (fun f cdv A outer s H vs Q E hr h=>?_)
 ·obtain ⟨u,a,x,y,n,W,s,t,rfl,_⟩:=h
  rfl
 ·obtain ⟨u,a,x,y,n,W,s,t,rfl,U,hW,hx,hy,os,ot,k⟩:=h
  have l16:=aQ
  obtain ⟨_,hat,_,l30,lp,_⟩:=hW.ok.get ot.1 ot.2.1
  refine ⟨_,(@ah _ _ _ _ _ (@aC _ _ (4) _ _ _ _ sc.nd rfl (Or.inl rfl) (@bG _ _ _ _ _ (@aa _ _ _ _ _ (@aR _ _ _ _ _ _ _ bg (pv 2) aj (fun _ _=>rfl)) (@aa _ _ _ _ _ (@aR _ _ _ _ _ _ _ bg (pv 2) aj (fun _ _=>rfl)) (@aa _ _ _ _ _ aj af (by rfl)) (by rfl)) (by rfl))) (by rfl) (by first | exact .inl rfl | exact .inr rfl | assumption)) (@ah _ _ _ _ _ (@aC _ _ (5) _ _ _ _ sc.nd rfl (Or.inl rfl) (@bG _ _ _ _ _ (@aa _ _ _ _ _ (@aR _ _ _ _ _ _ _ bg (pv 3) aj (fun _ _=>rfl)) (@aa _ _ _ _ _ (@aR _ _ _ _ _ _ _ bg (pv 3) aj (fun _ _=>rfl)) (@aa _ _ _ _ _ (@mL _ _ _ _ _ _ gf aj) af (by rfl)) (by rfl)) (by rfl))) (by rfl) (by first | exact .inl rfl | exact .inr rfl | assumption)) (@ah _ _ _ _ _ (@aC _ _ (6) _ _ _ _ sc.nd rfl (Or.inl rfl) (@aF _ _ _ _ _ _ _ _ _ _ _ F_str hr (by decide) rfl (@aa _ _ _ _ _ (pv 1) (@aa _ _ _ _ _ (pv 4) (@aa _ _ _ _ _ (pv 5) af (by rfl)) (by rfl)) (by rfl)) (by decide) (by rfl) (by rfl)) (by rfl) (by first | exact .inl rfl | exact .inr rfl | assumption)) (@ah _ _ _ _ _ (@bV _ _ _ _ _ _ _ _ (@aJ _ _ _ _ _ _ _ _ (@zq _ (K) rfl (by exact hr.units)) (pv 2) (@bG _ _ _ _ _ (@aa _ _ _ _ _ (@aR _ _ _ _ _ _ _ bg (pv 3) aj (fun _ _=>rfl)) (@aa _ _ _ _ _ (@aI _ _ _ _ _ _ _ _ cV (@aI _ _ _ _ _ _ _ _ bA (@aI _ _ _ _ _ _ _ _ cn (@aR _ _ _ _ _ _ _ bg (pv 3) aj (fun _ _=>rfl)) (pv 6)) aj) (@aq _ _ _ _ _ _ _ _ _ ao (by rfl) T.len Dq (@aa _ _ _ _ _ (@aR _ _ _ _ _ _ _ bg (pv 1) (@aR _ _ _ _ _ _ _ bg (pv 3) aj (fun _ _=>rfl)) (fun _ _=>rfl)) af (by rfl)) (by decide) (by decide) (by rfl) (by rfl))) af (by rfl)) (by rfl))) (aM _)) (@ak _ _ _ (@aG _ _ _ _ (@bH _ _ _ _ af))) aX) (@ak _ _ _ (@aG _ _ _ _ (@b6 _ _ _ _ _ _ _ _ (@cK _ _ _ (@aF _ _ _ _ _ _ _ _ _ _ _ F_part hr (by decide) rfl (@qU _ _ _ _ _ (pv 0) (@qU _ _ _ _ _ (pv 1) (@qU _ _ _ _ _ (pv 4) (@qU _ _ _ _ _ (pv 5) (@qU _ _ _ _ _ (pv 6) af (by rfl)) (by rfl)) (by rfl)) (by rfl)) (by rfl)) (by decide) (by rfl) (by rfl)) (fun _=>rfl)) (@bH _ _ _ _ (@aa _ _ _ _ _ (@bG _ _ _ _ _ (@aa _ _ _ _ _ aK (@aa _ _ _ _ _ (pv 2) (@aa _ _ _ _ _ (pv 3) (@aa _ _ _ _ _ (pv 6) af (by rfl)) (by rfl)) (by rfl)) (by rfl))) af (by rfl))) (@bH _ _ _ _ af)))))))),?_⟩
  refine ⟨_,rfl,x,_,_,_,rfl,rfl,SqT.of hx,rfl,_,rfl,x,_,_,_,rfl,rfl,SqT.of hx,rfl,(by show 3≤_;decide),fun p hp=>?_⟩
  have s1:aA H (upd H p (.tup [.int s.1,.int s.2,.int 1])):=aA.new hp
  have f1:(upd H p (.tup [.int s.1,.int s.2,.int 1])) p=some (.tup [.int s.1,.int s.2,.int 1]):=ag
  generalize upd H p (.tup [.int s.1,.int s.2,.int 1])=H1 at s1 f1 ⊢
  refine ⟨_,rfl,y,_,_,_,rfl,rfl,SqT.of (s1 _ _ hy),rfl,_,rfl,y,_,_,_,rfl,rfl,SqT.of (s1 _ _ hy),rfl,_,rfl,(by show 3≤_;decide),fun q hq=>?_⟩
  have s2:aA H1 (upd H1 q (.tup [.int t.1,.int t.2,.int (-1)])):=aA.new hq
  have f2:(upd H1 q (.tup [.int t.1,.int t.2,.int (-1)])) q=some (.tup [.int t.1,.int t.2,.int (-1)]):=ag
  generalize upd H1 q (.tup [.int t.1,.int t.2,.int (-1)])=H2 at s2 f2 ⊢
  have q2:=s1.trans s2
  refine ⟨_,rfl,_,rfl,_,rfl,a,p,q,n,W,s,t,-1,rfl,hW.same q2,s2 _ _ f1,f2,os,ot,.inr rfl,fun H3 s3=>?_⟩
  have q3:=q2.trans s3
  have hy3:=q3 _ _ hy
  generalize hm:(if fZ W s 1 (-1)=fZ W t (-1) (-1) then 0 else nZ W s t (-1))=m
  refine ⟨_,rfl,_,rfl,y,_,_,_,rfl,rfl,SqT.of hy3,rfl,_,rfl,y,_,_,_,rfl,rfl,SqT.of hy3,rfl,_,rfl,_,_,rfl,rfl,_,_,rfl,rfl,_,rfl,_,rfl,y,_,_,_,rfl,rfl,SqT.of hy3,rfl,?_⟩
  refine ⟨a,_,_,_,rfl,rfl,SqT.of (q3 _ _ hW.at_),hat,_,rfl,(by rw [ae];omega),_,_,rfl,rfl,(by rw [ae];omega),(by show 2≤_;decide),fun r hr'=>?_⟩
  rw [ae]
  have s4:aA H3 (upd H3 r (.tup [.int t.1,.int ((t.2 - (m:Int)+1) % ((wyZ W t.1).length:Int))])):=aA.new hr'
  have f4:(upd H3 r (.tup [.int t.1,.int ((t.2 - (m:Int)+1) % ((wyZ W t.1).length:Int))])) r=some (.tup [.int t.1,.int ((t.2 - (m:Int)+1) % ((wyZ W t.1).length:Int))]):=ag
  generalize upd H3 r (.tup [.int t.1,.int ((t.2 - (m:Int)+1) % ((wyZ W t.1).length:Int))])=H4 at s4 f4 ⊢
  have q4:=q3.trans s4
  refine ⟨x,r,[s.1,s.2],[t.1,(t.2 - (m:Int)+1) % ((wyZ W t.1).length:Int)],rfl,rfl,SqT.of (q4 _ _ hx),SqT.of f4,_,rfl,?_⟩
  have he:ql u W s t=if ltP (nD W s t m) s then [] else if jE u (fZ W s 1) (fZ W t (-1)) m then [Lnk.g s t m] else []:=by
   rw [← hm]
   by_cases e:fZ W s 1 (-1)=fZ W t (-1) (-1)
   ·rw [if_pos e,uE]
    unfold ql
    rw [iO e,Gq,if_neg (by decide)]
    split <;> rfl
   ·rw [← sU hW.ok os ot e,mq hW.ok os ot (.inr rfl),if_neg e]
  show b9 _ _ _ _ (ltP (nD W s t m) s) _
  by_cases c:ltP (nD W s t m) s=true
  ·rw [c]
   rw [c] at he
   exact lK ⟨(by show 0≤_;decide),fun l hl=>jF q4 hl k he⟩
  ·rw [FO] at c
   rw [c]
   rw [c] at he
   refine j9 ?_
   refine ⟨_,rfl,_,rfl,_,rfl,_,rfl,_,rfl,u,a,p,q,n,_,W,s,t,-1,rfl,U,hW.same q4,s4 _ _ (s3 _ _ (s2 _ _ f1)),s4 _ _ (s3 _ _ f2),os,ot,.inr rfl,fun H5 s5=>⟨_,rfl,?_⟩⟩
   have q5:=q4.trans s5
   by_cases c2:jE u (fZ W s 1) (fZ W t (-1)) m=true
   ·rw [c2]
    rw [c2] at he
    refine AA ⟨_,rfl,_,rfl,_,rfl,(by show 4≤_;decide),fun r hr'=>⟨(by show 1≤_;decide),fun l hl=>?_⟩⟩
    exact ky (m:=.g s t m) q5 hr' hl ⟨x,y,ag,(q5.trans (aA.new hr')) _ _ hx,(q5.trans (aA.new hr')) _ _ hy⟩ k he
   ·rw [FO] at c2
    rw [c2]
    rw [c2] at he
    exact AB ⟨(by show 0≤_;decide),fun l hl=>jF q5 hl k he⟩
theorem uL {u:List L}{a b c:L}(ha:a∈u)(hb:b∈u)(hc:c∈u)(ab:a≠b)(ac:a≠c)(bc:b≠c):decide (rfI u a c < rfI u a b)=(decide (min (u.idxOf a) (u.idxOf b) < u.idxOf c∧u.idxOf c < max (u.idxOf a) (u.idxOf b)) != decide (u.idxOf b < u.idxOf a)):=by
 have inj:∀ {x y:L},x∈u→y∈u→x≠y→u.idxOf x≠u.idxOf y:=fun hx hy n e=>n (by
  have h1:=EJ (bq hx)
  have h2:=EJ (bq hy)
  rw [← h1,← h2]
  simp only [e])
 have n1:=inj ha hb ab
 have n2:=inj ha hc ac
 have n3:=inj hb hc bc
 have l1:=bq ha
 have l2:=bq hb
 have l3:=bq hc
 rw [cg ha hc,cg ha hb]
 by_cases o:u.idxOf b < u.idxOf a
 ·rw [C_ o,if_neg (show ¬ u.idxOf a≤u.idxOf b by omega),DT,Dl]
  rw [show ∀ x:Bool,(x != true)=!x by decide,Bool.not_eq_true',Hs]
  split <;> omega
 ·rw [C7 o,if_pos (show u.idxOf a≤u.idxOf b by omega),Hb,DT,Dl,Dl]
  split <;> omega
theorem tj {u:List L}{a b c d:L}(ha:a∈u)(hb:b∈u)(hc:c∈u)(hd:d∈u)(h:[a,b,c,d].Nodup):dO u a b c d=(decide (min (u.idxOf a) (u.idxOf b) < u.idxOf c∧u.idxOf c < max (u.idxOf a) (u.idxOf b)) != decide (min (u.idxOf a) (u.idxOf b) < u.idxOf d∧u.idxOf d < max (u.idxOf a) (u.idxOf b))):=by
 unfold dO
 rw [C_ h,FG]
 simp only [DE,Dj,DS,E8,not_false_eq_true,Fq,and_true,not_or] at h
 obtain ⟨⟨e1,e2,e3⟩,⟨e4,e5⟩,e6⟩:=h
 rw [uL ha hb hc e1 e2 e4,uL ha hb hd e1 e3 e5]
 generalize decide (u.idxOf b < u.idxOf a)=z
 exact (show ∀ x y z:Bool,((x != z) != (y != z))=(x != y) by decide) _ _ _
inductive xr (vs:List V)(H:Hp)(Q:VK)(u3_:XK):Prop
 | mk:∀ (p q:Addr) (a b c d:Nat),(vs=[.ref p,.ref q])→H p=some (.lst [.int a,.int b])→H q=some (.lst [.int c,.int d])→Q (.bl (decide (min a b < c∧c < max a b) != decide (min a b < d∧d < max a b))) H→xr vs H Q u3_
abbrev xt:Stmt:=top 13
theorem Ai:ax ["one","other","low","high"] ["one","other"] (ai xt):=⟨rfl,rfl,rfl,by decide +kernel,rfl,by decide +kernel,by decide +kernel⟩
theorem BO (D:Df K mg "are_met_by_turns" xt)(T:Bt K w mg aB):Fnc P w K mg base "are_met_by_turns" ["one","other"] 1 xr:=by
 have sc:=Ai
 refine D.ok sc (fun _ _ _ _ _ _ us hl=>by obtain ⟨_,_,rfl⟩:=qZ hl;rfl) (fun vs H Q E h=>?_) (fun f cdv A outer s H vs Q E hr h=>?_)
 ·obtain ⟨p,q,a,b,c,d,rfl,_⟩:=h
  rfl
 ·obtain ⟨p,q,a,b,c,d,rfl,hp,hq,k⟩:=h
  have l16:=aQ
  refine ⟨_,(@ah _ _ _ _ _ (@aC _ _ (2) _ _ _ _ sc.nd rfl (Or.inl rfl) (@aq _ _ _ _ _ _ _ _ _ (@kj _ rfl) (by rfl) T.min Ba (@aa _ _ _ _ _ (pv 0) af (by rfl)) (by decide) (by decide) (by rfl) (by rfl)) (by rfl) (by first | exact .inl rfl | exact .inr rfl | assumption)) (@ah _ _ _ _ _ (@aC _ _ (3) _ _ _ _ sc.nd rfl (Or.inl rfl) (@aq _ _ _ _ _ _ _ _ _ (@kl _ rfl) (by rfl) T.max A_ (@aa _ _ _ _ _ (pv 0) af (by rfl)) (by decide) (by decide) (by rfl) (by rfl)) (by rfl) (by first | exact .inl rfl | exact .inr rfl | assumption)) (@ak _ _ _ (@aG _ _ _ _ (@de _ _ _ _ _ _ _ _ i7 (@kM _ _ _ _ _ _ _ _ _ _ _ _ gO gO (pv 2) (@aR _ _ _ _ _ _ _ bJ (pv 1) aj (fun _ _=>rfl)) (pv 3) (by with_unfolding_all rfl)) (@kM _ _ _ _ _ _ _ _ _ _ _ _ gO gO (pv 2) (@aR _ _ _ _ _ _ _ bJ (pv 1) aj (fun _ _=>rfl)) (pv 3) (by with_unfolding_all rfl)) (aM _)))))),?_⟩
  refine ⟨_,rfl,p,_,_,rfl,SqL.of hp,?_⟩
  refine ⟨_,rfl,p,_,_,rfl,SqL.of hp,?_⟩
  have e1:(if (b:Int) < (a:Int) then (b:Int) else (a:Int))=((min a b:Nat):Int):=by split <;> omega
  have e2:(if (b:Int) > (a:Int) then (b:Int) else (a:Int))=((max a b:Nat):Int):=by split <;> omega
  rw [e1,e2]
  have fin:∀ v1 v2:Bool,v1=decide (min a b < c∧c < max a b)→v2=decide (min a b < d∧d < max a b)→Q (.bl (!decide (V.bl v1=V.bl v2))) H:=fun v1 v2 e1 e2=>by
   subst e1 e2
   have e:∀ x y:Bool,(!decide (V.bl x=V.bl y))=(x != y):=by intro x y;cases x <;> cases y <;> rfl
   rw [e]
   exact k
  refine ⟨_,rfl,_,rfl,q,_,_,_,rfl,rfl,SqL.of hq,rfl,_,_,rfl,rfl,_,rfl,?_⟩
  by_cases h1:min a b < c
  ·refine nB (C_ (by omega)) ⟨_,rfl,_,_,rfl,rfl,?_⟩
   refine ⟨_,rfl,_,rfl,q,_,_,_,rfl,rfl,SqL.of hq,rfl,_,_,rfl,rfl,_,rfl,?_⟩
   by_cases h2:min a b < d
   ·exact nB (C_ (by omega)) ⟨_,rfl,_,_,rfl,rfl,rfl,fin _ _ (by rw [DT,Dl,Dl];omega) (by rw [DT,Dl,Dl];omega)⟩
   ·exact tV (C7 (by omega)) ⟨rfl,fin _ _ (by rw [DT,Dl,Dl];omega) (C7 (by omega)).symm⟩
  ·refine tV (C7 (by omega)) ?_
   refine ⟨_,rfl,_,rfl,q,_,_,_,rfl,rfl,SqL.of hq,rfl,_,_,rfl,rfl,_,rfl,?_⟩
   by_cases h2:min a b < d
   ·exact nB (C_ (by omega)) ⟨_,rfl,_,_,rfl,rfl,rfl,fin _ _ (C7 (by omega)).symm (by rw [DT,Dl,Dl];omega)⟩
   ·exact tV (C7 (by omega)) ⟨rfl,fin _ _ (C7 (by omega)).symm (C7 (by omega)).symm⟩
abbrev xu:Stmt:=top 30
theorem Aj:ax ["surface","ways","one","other","mine","theirs","places"] ["surface","ways","one","other"] (ai xu):=⟨rfl,rfl,rfl,by decide +kernel,rfl,by decide +kernel,by decide +kernel⟩
theorem BP (D:Df K mg "beside_at" xu)(T:Bt K w mg aB)(Tset:mg "set" = none)(F_ce:Fnc P w K mg base "chord_ends" ["ways","strand"] 3 Bu)(F_met:Fnc P w K mg base "are_met_by_turns" ["one","other"] 1 xr):Fnc P w K mg base "beside_at" ["surface","ways","one","other"] 4 (sV zu):=by
 have sc:=Aj
 refine D.ok sc (fun _ _ _ _ _ _ us hl=>by obtain ⟨_,_,_,_,rfl⟩:=xI hl;rfl) (fun vs H Q E h=>?_) (fun f cdv A outer s H vs Q E hr h=>?_)
 ·obtain ⟨u,a,x,y,n,W,s,t,rfl,_⟩:=h
  rfl
 ·obtain ⟨u,a,x,y,n,W,s,t,rfl,U,hW,hx,hy,os,ot,k⟩:=h
  have l16:=aQ
  have m1:=(fY U hW.ok os 1 0).2
  have m2:=(fY U hW.ok os 1 1).1
  have m3:=(fY U hW.ok ot 1 0).2
  have m4:=(fY U hW.ok ot 1 1).1
  have k:∀ (l:Addr) (zs:List (Addr × Lnk)) (H':Hp),H l=none→aA H H'→H' l=some (.lst ((zs.map (·.1)).map V.ref))→LkA H' zs→zs.map (·.2)=(if dO u (inv (fZ W s 1 0)) (fZ W s 1 1) (inv (fZ W t 1 0)) (fZ W t 1 1) then [.b s t] else [])→Q (.ref l) H':=k
  refine ⟨_,(@ah _ _ _ _ _ (@aC _ _ (4) _ _ _ _ sc.nd rfl (Or.inl rfl) (@aF _ _ _ _ _ _ _ _ _ _ _ F_ce hr (by decide) rfl (@aa _ _ _ _ _ (pv 1) (@aa _ _ _ _ _ (pv 2) af (by rfl)) (by rfl)) (by decide) (by rfl) (by rfl)) (by rfl) (by first | exact .inl rfl | exact .inr rfl | assumption)) (@ah _ _ _ _ _ (@aC _ _ (5) _ _ _ _ sc.nd rfl (Or.inl rfl) (@aF _ _ _ _ _ _ _ _ _ _ _ F_ce hr (by decide) rfl (@aa _ _ _ _ _ (pv 1) (@aa _ _ _ _ _ (pv 3) af (by rfl)) (by rfl)) (by decide) (by rfl) (by rfl)) (by rfl) (by first | exact .inl rfl | exact .inr rfl | assumption)) (@ah _ _ _ _ _ (@bV _ _ _ _ _ _ _ _ (@aJ _ _ _ _ _ _ _ _ gO (@aq _ _ _ _ _ _ _ _ _ ki (by rfl) T.len Dq (@aa _ _ _ _ _ (@bu _ _ _ _ _ _ _ _ _ (@iN _ rfl) (by rfl) Tset Br (@aa _ _ _ _ _ (@aI _ _ _ _ _ _ _ _ a6 (pv 4) (pv 5)) af (by rfl)) (by decide) (by decide) (by rfl) (by rfl)) af (by rfl)) (by decide) (by decide) (by rfl) (by rfl)) aj (aM _)) (@ak _ _ _ (@aG _ _ _ _ (@bH _ _ _ _ af))) aX) (@ah _ _ _ _ _ (@fv _ (6) _ _ _ _ _ _ _ _ _ (["end","surface"]) (["end"]) ([0]) _ _ _ _ sc.nd rfl (Or.inl rfl) (@cf _ _ _ _ _ _ rfl (by kernel_rfl)) rfl (@jk _ _ _ _ (@aI _ _ _ _ _ _ _ _ a6 (pv 4) (pv 5))) (fun _ _ _ _=>@aP _ _ (0) _ (show (["end","surface"]:List Str).Nodup from by decide +kernel) rfl (Or.inl rfl) (by first | exact .inl rfl | exact .inr rfl | assumption)) (fun _ _ _ _=>bQ) (fun _ _ _ _=>by (exact (@yC _ _ _ _ _ _ _ _ _ _ _ _ (K) rfl DC EZ E1 dC (pv 1) (@aa _ _ _ _ _ (pv 0) af (by rfl)) (by rfl) (by rfl) (by rfl) (by rfl) (by rfl)))) (by intro _ ;rfl) (by rfl) (by first | exact .inl rfl | exact .inr rfl | assumption)) (@ak _ _ _ (@aG _ _ _ _ (@b6 _ _ _ _ _ _ _ _ (@cK _ _ _ (@aF _ _ _ _ _ _ _ _ _ _ _ F_met hr (by decide) rfl (@aa _ _ _ _ _ (@ba _ _ _ _ _ _ _ _ _ _ jU (pv 6) bx (@bh _ _ _ aj)) (@aa _ _ _ _ _ (@ba _ _ _ _ _ _ _ _ _ _ jU (pv 6) (@bh _ _ _ aj) bx) af (by rfl)) (by rfl)) (by decide) (by rfl) (by rfl)) (fun _=>rfl)) (@bH _ _ _ _ (@aa _ _ _ _ _ (@bG _ _ _ _ _ (@aa _ _ _ _ _ aK (@aa _ _ _ _ _ (pv 2) (@aa _ _ _ _ _ (pv 3) af (by rfl)) (by rfl)) (by rfl))) af (by rfl))) (@bH _ _ _ _ af)))))))),?_⟩
  refine ⟨_,rfl,_,rfl,a,x,n,W,s,rfl,hW,hx,os,fun H1 s1=>?_⟩
  refine ⟨_,rfl,_,rfl,a,y,n,W,t,rfl,hW.same s1,s1 _ _ hy,ot,fun H2 s2=>?_⟩
  have q2:=s1.trans s2
  generalize inv (fZ W s 1 0)=e1 at m1 k ⊢
  generalize fZ W s 1 1=e2 at m2 k ⊢
  generalize inv (fZ W t 1 0)=e3 at m3 k ⊢
  generalize fZ W t 1 1=e4 at m4 k ⊢
  refine ⟨_,rfl,_,rfl,_,_,rfl,rfl,(by rw [ae,ae];show 2+2≤_;omega),?_⟩
  rw [eG]
  refine ⟨[e1,e2,e3,e4],rfl,(by show 4≤4000;decide),fun p dl hp nd hm=>?_⟩
  refine ⟨p,dl,rfl,ag,_,_,rfl,rfl,_,rfl,?_⟩
  rw [CW nd hm]
  generalize hG:upd H2 p (StO _ _ p dl)=H3
  have q3:aA H H3:=hG ▸ q2.trans (aA.new hp)
  by_cases c:[e1,e2,e3,e4].Nodup
  ·rw [C_ c]
   refine j9 ?_
   have hall:∀ x∈[e1,e2,e3,e4],x∈u:=fun x hx=>by
    simp only [Dj,DS,E8] at hx
    rcases hx with rfl | rfl | rfl | rfl <;> assumption
   have k4:=tj m1 m2 m3 m4 c
   refine ⟨_,rfl,_,rfl,_,_,rfl,rfl,(by rw [ae,ae];show 2+2≤_;omega),?_⟩
   rw [eG]
   refine ⟨_,rfl,?_⟩
   refine bK (own:=["end"]) (cap:=[0]) (J:=Its (toS [e1,e2,e3,e4])) 4 (fun i ys σ H'=>∃ v:Option V,σ = [v,some (tx u)]∧ys=(([e1,e2,e3,e4].take i).map fun x=>V.int (u.idxOf x:Nat))∧H'=H3) ⟨none,rfl,rfl,rfl⟩ (fun i ys σ H' hi ⟨v,_,e,_⟩=>?_) (by omega) (fun i ys σ H' hi _=>?_) (fun ys σ H' _=>?_) ?_ ?_
   ·rw [e,C4,Dw];omega
   ·show i < (toS _).cps.size;rw [aZ];exact hi
   ·show _=(toS _).cps.size;rw [aZ];rfl
   ·rintro i ys σ H4 y H5 N hi ⟨v,rfl,rfl,rfl⟩ ⟨rfl,cc,hcc,rfl⟩ hN
    obtain ⟨z,hz,ez⟩:=cb hcc
    rw [ez]
    obtain ⟨r1,o1⟩:=ju (hall z (DP hz))
    refine ⟨_,rfl,rfl,_,rfl,_,_,_,r1,rfl,rfl,o1,hN _ _ _ ⟨_,rfl,?_,rfl⟩⟩
    rw [bY hz,DU]
    rfl
   ·rintro ys σ H4 l ⟨v,rfl,rfl,rfl⟩ hl
    show eX _ _ _ _ (upd H4 l (.lst [.int (u.idxOf e1:Nat),.int (u.idxOf e2:Nat),.int (u.idxOf e3:Nat),.int (u.idxOf e4:Nat)]))
    have s4:aA H4 (upd H4 l (.lst [.int (u.idxOf e1:Nat),.int (u.idxOf e2:Nat),.int (u.idxOf e3:Nat),.int (u.idxOf e4:Nat)])):=aA.new hl
    have f4:(upd H4 l (.lst [.int (u.idxOf e1:Nat),.int (u.idxOf e2:Nat),.int (u.idxOf e3:Nat),.int (u.idxOf e4:Nat)])) l=some (.lst [.int (u.idxOf e1:Nat),.int (u.idxOf e2:Nat),.int (u.idxOf e3:Nat),.int (u.idxOf e4:Nat)]):=ag
    generalize upd H4 l (.lst [.int (u.idxOf e1:Nat),.int (u.idxOf e2:Nat),.int (u.idxOf e3:Nat),.int (u.idxOf e4:Nat)])=H5 at s4 f4 ⊢
    refine ⟨_,rfl,_,rfl,l,_,rfl,SqL.of f4,fun p1 hp1=>?_⟩
    have s5:=aA.new (o:=.lst (nA [.int (u.idxOf e1:Nat),.int (u.idxOf e2:Nat),.int (u.idxOf e3:Nat),.int (u.idxOf e4:Nat)] none (some 2))) hp1
    have f5:(upd H5 p1 (.lst (nA [.int (u.idxOf e1:Nat),.int (u.idxOf e2:Nat),.int (u.idxOf e3:Nat),.int (u.idxOf e4:Nat)] none (some 2)))) p1=some (.lst [.int (u.idxOf e1:Nat),.int (u.idxOf e2:Nat)]):=ag
    generalize upd H5 p1 (.lst (nA [.int (u.idxOf e1:Nat),.int (u.idxOf e2:Nat),.int (u.idxOf e3:Nat),.int (u.idxOf e4:Nat)] none (some 2)))=H6 at s5 f5 ⊢
    refine ⟨_,rfl,_,rfl,l,_,rfl,SqL.of (s5 _ _ f4),fun p2 hp2=>?_⟩
    have s6:=aA.new (o:=.lst (nA [.int (u.idxOf e1:Nat),.int (u.idxOf e2:Nat),.int (u.idxOf e3:Nat),.int (u.idxOf e4:Nat)] (some 2) none)) hp2
    have f6:(upd H6 p2 (.lst (nA [.int (u.idxOf e1:Nat),.int (u.idxOf e2:Nat),.int (u.idxOf e3:Nat),.int (u.idxOf e4:Nat)] (some 2) none))) p2=some (.lst [.int (u.idxOf e3:Nat),.int (u.idxOf e4:Nat)]):=ag
    generalize upd H6 p2 (.lst (nA [.int (u.idxOf e1:Nat),.int (u.idxOf e2:Nat),.int (u.idxOf e3:Nat),.int (u.idxOf e4:Nat)] (some 2) none))=H7 at s6 f6 ⊢
    refine ⟨p1,p2,_,_,_,_,rfl,s6 _ _ f5,f6,_,rfl,?_⟩
    rw [← k4]
    have q7:=((q3.trans s4).trans s5).trans s6
    by_cases c2:dO u e1 e2 e3 e4=true
    ·rw [c2]
     rw [c2] at k
     refine AA ⟨_,rfl,_,rfl,(by show 3≤_;decide),fun r hr'=>⟨(by show 1≤_;decide),fun l hl=>?_⟩⟩
     exact ky (m:=.b s t) q7 hr' hl ⟨x,y,ag,(q7.trans (aA.new hr')) _ _ hx,(q7.trans (aA.new hr')) _ _ hy⟩ k rfl
    ·rw [FO] at c2
     rw [c2]
     rw [c2] at k
     exact AB ⟨(by show 0≤_;decide),fun l hl=>jF q7 hl k rfl⟩
  ·rw [C7 c]
   refine lK ⟨(by show 0≤_;decide),fun l hl=>jF q3 hl k ?_⟩
   unfold dO
   rw [C7 c]
   rfl
abbrev xv:Stmt:=top 29
theorem Ak:ax ["surface","ways","one","other","told"] ["surface","ways","one","other"] (ai xv):=⟨rfl,rfl,rfl,by decide +kernel,rfl,by decide +kernel,by decide +kernel⟩
theorem BQ (D:Df K mg "links_at" xv)(T:Bt K w mg aB)(F_agn:Fnc P w K mg base "against_at" ["surface","ways","one","other"] 4 (sV ql))(F_alg:Fnc P w K mg base "along_at" ["surface","ways","one","other"] 4 (sV wd))(F_bes:Fnc P w K mg base "beside_at" ["surface","ways","one","other"] 4 (sV zu)):Fnc P w K mg base "links_at" ["surface","ways","one","other"] 5 (sV xH):=by
 have sc:=Ak
 refine D.ok sc (fun _ _ _ _ _ _ us hl=>by obtain ⟨_,_,_,_,rfl⟩:=xI hl;rfl) (fun vs H Q E h=>?_) (fun f cdv A outer s H vs Q E hr h=>?_)
 ·obtain ⟨u,a,x,y,n,W,s,t,rfl,_⟩:=h
  rfl
 ·obtain ⟨u,a,x,y,n,W,s,t,rfl,U,hW,hx,hy,os,ot,k⟩:=h
  have l16:=aQ
  refine ⟨_,(@ah _ _ _ _ _ (@aC _ _ (4) _ _ _ _ sc.nd rfl (Or.inl rfl) (@aF _ _ _ _ _ _ _ _ _ _ _ F_agn hr (by decide) rfl (@aa _ _ _ _ _ (pv 0) (@aa _ _ _ _ _ (pv 1) (@aa _ _ _ _ _ (pv 2) (@aa _ _ _ _ _ (pv 3) af (by rfl)) (by rfl)) (by rfl)) (by rfl)) (by decide) (by rfl) (by rfl)) (by rfl) (by first | exact .inl rfl | exact .inr rfl | assumption)) (@ah _ _ _ _ _ (@bV _ _ _ _ _ _ _ _ (@aJ _ _ _ _ _ _ _ _ (v9 (K:=K) rfl (by exact lt0 hr.units)) (pv 2) (pv 3) (aM _)) (@ah _ _ _ _ _ (@dQ _ _ _ _ (@cU _ _ _ _ _ _ _ _ _ _ _ _ EO FT FU fe (pv 4) (@aa _ _ _ _ _ (@aF _ _ _ _ _ _ _ _ _ _ _ F_alg hr (by decide) rfl (@aa _ _ _ _ _ (pv 0) (@aa _ _ _ _ _ (pv 1) (@aa _ _ _ _ _ (pv 2) (@aa _ _ _ _ _ (pv 3) af (by rfl)) (by rfl)) (by rfl)) (by rfl)) (by decide) (by rfl) (by rfl)) af (by rfl)) (by rfl) (by rfl) (by rfl) (by rfl) (by rfl)) (by rfl)) (@ak _ _ _ (@dQ _ _ _ _ (@cU _ _ _ _ _ _ _ _ _ _ _ _ EO FT FU fe (pv 4) (@aa _ _ _ _ _ (@aF _ _ _ _ _ _ _ _ _ _ _ F_bes hr (by decide) rfl (@aa _ _ _ _ _ (pv 0) (@aa _ _ _ _ _ (pv 1) (@aa _ _ _ _ _ (pv 2) (@aa _ _ _ _ _ (pv 3) af (by rfl)) (by rfl)) (by rfl)) (by rfl)) (by decide) (by rfl) (by rfl)) af (by rfl)) (by rfl) (by rfl) (by rfl) (by rfl) (by rfl)) (by rfl)))) aX) (@ak _ _ _ (@aG _ _ _ _ (pv 4))))),?_⟩
  refine ⟨_,rfl,_,rfl,_,rfl,_,rfl,u,a,x,y,n,W,s,t,rfl,U,hW,hx,hy,os,ot,fun l1 z1 H1 n1 s1 f1 k1 e1=>?_⟩
  refine ⟨_,rfl,_,rfl,x,y,[s.1,s.2],[t.1,t.2],rfl,rfl,SqT.of (s1 _ _ hx),SqT.of (s1 _ _ hy),_,rfl,?_⟩
  show b9 _ _ _ _ (ltP s t) _
  by_cases c:ltP s t=true
  ·rw [c]
   refine lK ?_
   have len:∀ {zs:List (Addr × Lnk)} {r:List Lnk} {m:Nat},zs.map (·.2)=r→r.length≤m→zs.length≤m:=fun e h=>by rw [← e,C4] at h;exact h
   have la1:z1.length≤1:=len e1 (by unfold ql;split <;> simp)
   refine ⟨_,rfl,.inl ⟨rfl,_,SqL.of f1⟩,_,rfl,_,rfl,_,rfl,_,rfl,u,a,x,y,n,W,s,t,rfl,U,hW.same s1,s1 _ _ hx,s1 _ _ hy,os,ot,fun l2 z2 H2 n2 s2 f2 k2 e2=>?_⟩
   have la2:z2.length≤1:=len e2 (by unfold wd;split <;> simp)
   have g1:=s2 _ _ f1
   refine ⟨l1,l2,_,_,rfl,rfl,g1,f2,(by simp only [C4];omega),?_⟩
   rw [iT]
   have s3:aA H (upd H2 l1 (.lst (((z1++z2).map (·.1)).map V.ref))):=fQ (s1.trans s2) n1
   have f3:(upd H2 l1 (.lst (((z1++z2).map (·.1)).map V.ref))) l1=some (.lst (((z1++z2).map (·.1)).map V.ref)):=ag
   have k3:LkA (upd H2 l1 (.lst (((z1++z2).map (·.1)).map V.ref))) (z1++z2):=((k1.same s2).app k2).to (iR g1)
   generalize upd H2 l1 (.lst (((z1++z2).map (·.1)).map V.ref))=H3 at s3 f3 k3 ⊢
   refine ⟨_,rfl,.inl ⟨rfl,_,SqL.of f3⟩,_,rfl,_,rfl,_,rfl,_,rfl,u,a,x,y,n,W,s,t,rfl,U,hW.same s3,s3 _ _ hx,s3 _ _ hy,os,ot,fun l4 z4 H4 n4 s4 f4 k4 e4=>?_⟩
   have la4:z4.length≤1:=len e4 (by unfold zu;split <;> simp)
   have g3:=s4 _ _ f3
   refine ⟨l1,l4,_,_,rfl,rfl,g3,f4,(by simp only [C4,C8];omega),?_⟩
   rw [iT]
   refine ⟨_,rfl,k l1 (z1++z2++z4) _ n1 (fQ (s3.trans s4) n1) ag (((k3.same s4).app k4).to (iR g3)) ?_⟩
   unfold xH
   rw [c,if_pos rfl,DU,DU,e1,e2,e4,Dh]
  ·rw [FO] at c
   rw [c]
   refine j9 ⟨_,rfl,k l1 z1 H1 n1 s1 f1 k1 ?_⟩
   unfold xH
   rw [c,e1]
   simp
abbrev kF:Stmt:=top 28
theorem tm:ax ["surface","ways","i","j","told","p","q"] ["surface","ways","i","j"] (ai kF):=⟨rfl,rfl,rfl,by decide +kernel,rfl,by decide +kernel,by decide +kernel⟩
theorem xw (D:Df K mg "links" kF)(T:Bt K w mg aB)(F_lat:Fnc P w K mg base "links_at" ["surface","ways","one","other"] 5 (sV xH)):Fnc P w K mg base "links" ["surface","ways","i","j"] 6 kx:=by
 have sc:=tm
 refine D.ok sc (fun _ _ _ _ _ _ us hl=>by obtain ⟨_,_,_,_,rfl⟩:=xI hl;rfl) (fun vs H Q E h=>?_) (fun f cdv A outer s H vs Q E hr h=>?_)
 ·obtain ⟨u,a,n,W,i,j,rfl,_⟩:=h
  rfl
 ·obtain ⟨u,a,n,W,i,j,rfl,U,hW,i0,i1,j0,j1,k⟩:=h
  have l16:=aQ
  obtain ⟨_,ati,_,li,_,_⟩:=hW.ok.get i0 i1
  obtain ⟨_,atj,_,lj,_,_⟩:=hW.ok.get j0 j1
  refine ⟨_,(@ah _ _ _ _ _ (@aC _ _ (4) _ _ _ _ sc.nd rfl (Or.inl rfl) (@bH _ _ _ _ af) (by rfl) (by first | exact .inl rfl | exact .inr rfl | assumption)) (@ah _ _ _ _ _ (@ei _ _ _ _ _ _ _ _ Et rfl (@bt _ _ _ _ _ _ rfl T.range (@aa _ _ _ _ _ (@aq _ _ _ _ _ _ _ _ _ ao (by rfl) T.len Dq (@aa _ _ _ _ _ (@aR _ _ _ _ _ _ _ bg (pv 1) (pv 2) (fun _ _=>rfl)) af (by rfl)) (by decide) (by decide) (by rfl) (by rfl)) af (by rfl)) (by rfl)) (@aP _ _ (5) _ sc.nd rfl (Or.inl rfl) (by first | exact .inl rfl | exact .inr rfl | assumption)) (@ak _ _ _ (@ei _ _ _ _ _ _ _ _ Et rfl (@bt _ _ _ _ _ _ rfl T.range (@aa _ _ _ _ _ (@aq _ _ _ _ _ _ _ _ _ ao (by rfl) T.len Dq (@aa _ _ _ _ _ (@aR _ _ _ _ _ _ _ bg (pv 1) (pv 3) (fun _ _=>rfl)) af (by rfl)) (by decide) (by decide) (by rfl) (by rfl)) af (by rfl)) (by rfl)) (@aP _ _ (6) _ sc.nd rfl (Or.inl rfl) (by first | exact .inl rfl | exact .inr rfl | assumption)) (@ak _ _ _ (@dQ _ _ _ _ (@cU _ _ _ _ _ _ _ _ _ _ _ _ EO FT FU fe (pv 4) (@aa _ _ _ _ _ (@aF _ _ _ _ _ _ _ _ _ _ _ F_lat hr (by decide) rfl (@aa _ _ _ _ _ (pv 0) (@aa _ _ _ _ _ (pv 1) (@aa _ _ _ _ _ (@bG _ _ _ _ _ (@aa _ _ _ _ _ (pv 2) (@aa _ _ _ _ _ (pv 5) af (by rfl)) (by rfl))) (@aa _ _ _ _ _ (@bG _ _ _ _ _ (@aa _ _ _ _ _ (pv 3) (@aa _ _ _ _ _ (pv 6) af (by rfl)) (by rfl))) af (by rfl)) (by rfl)) (by rfl)) (by rfl)) (by decide) (by rfl) (by rfl)) af (by rfl)) (by rfl) (by rfl) (by rfl) (by rfl) (by rfl)) (by rfl))) (by intro _ ;rfl))) (by intro _ ;rfl)) (@ak _ _ _ (@aG _ _ _ _ (@aq _ _ _ _ _ _ _ _ _ (@fX _ (.s) (shL) _ (fun z=>by cases z) (by exact hr.units) rfl) (by rfl) T.sorted rR (@aa _ _ _ _ _ (pv 4) af (by rfl)) (by decide) (by decide) (by rfl) (by rfl)))))),?_⟩
  refine ⟨(by show 0≤_;decide),fun l hl=>?_⟩
  have s0:aA H (upd H l (.lst [])):=aA.new hl
  have f0:(upd H l (.lst [])) l=some (.lst []):=ag
  generalize upd H l (.lst [])=H0 at s0 f0 ⊢
  refine ⟨_,rfl,_,rfl,a,_,_,_,rfl,rfl,SqT.of (s0 _ _ hW.at_),ati,_,rfl,(by rw [ae];omega),_,rfl,?_⟩
  rw [ae]
  refine ⟨by omega,by omega,?_⟩
  refine ck (lo:=0) (n:=((wyZ W i).length:Int).toNat) (fun m σ H'=>∃ (v1 v2:Option V) (zs:List (Addr × Lnk)),σ = [some (tx u),some (.ref a),some (.int i),some (.int j),some (.ref l),v1,v2]∧aA H H'∧H' l=some (.lst ((zs.map (·.1)).map V.ref))∧LkA H' zs∧(zs.map (·.2)).Perm (nk u W i j m)) ⟨none,none,[],rfl,s0,f0,(fun _ h=>absurd h (by simp)),Fs _⟩ ?_ ?_
  ·rintro p σ H1 hp ⟨v1,v2,zs,rfl,s1,f1,k1,e1⟩
   have hp':p < (wyZ W i).length:=by omega
   refine ⟨_,rfl,_,rfl,a,_,_,_,rfl,rfl,SqT.of (s1 _ _ hW.at_),atj,_,rfl,(by rw [ae];omega),_,rfl,?_⟩
   rw [ae]
   refine ⟨by omega,by omega,?_⟩
   rw [show ((0:Int)+(p:Int))=(p:Int) by omega]
   refine ck (lo:=0) (n:=((wyZ W j).length:Int).toNat) (fun m σ H'=>∃ (v2:Option V) (zs:List (Addr × Lnk)),σ = [some (tx u),some (.ref a),some (.int i),some (.int j),some (.ref l),some (.int (p:Int)),v2]∧aA H H'∧H' l=some (.lst ((zs.map (·.1)).map V.ref))∧LkA H' zs∧(zs.map (·.2)).Perm (nk u W i j p++qX u W i j p m)) ⟨v2,zs,rfl,s1,f1,k1,by rw [show qX u W i j p 0=[] from rfl,Ee];exact e1⟩ ?_ ?_
   ·clear e1 k1 f1 s1 zs
    rintro q σ H2 hq ⟨v2,zs,rfl,s2,f2,k2,e2⟩
    have hq':q < (wyZ W j).length:=by omega
    rw [show ((0:Int)+(q:Int))=(q:Int) by omega]
    refine ⟨_,rfl,.inl ⟨rfl,_,SqL.of f2⟩,_,rfl,_,rfl,_,rfl,_,rfl,(by show 2≤_;decide),fun x hx=>?_⟩
    have s3:aA H2 (upd H2 x (.tup [.int i,.int (p:Int)])):=aA.new hx
    have f3:(upd H2 x (.tup [.int i,.int (p:Int)])) x=some (.tup [.int i,.int (p:Int)]):=ag
    generalize upd H2 x (.tup [.int i,.int (p:Int)])=H3 at s3 f3 ⊢
    refine ⟨_,rfl,_,rfl,(by show 2≤_;decide),fun y hy=>?_⟩
    have s4:aA H3 (upd H3 y (.tup [.int j,.int (q:Int)])):=aA.new hy
    have f4:(upd H3 y (.tup [.int j,.int (q:Int)])) y=some (.tup [.int j,.int (q:Int)]):=ag
    generalize upd H3 y (.tup [.int j,.int (q:Int)])=H4 at s4 f4 ⊢
    have s24:=s3.trans s4
    refine ⟨u,a,x,y,n,W,(i,(p:Int)),(j,(q:Int)),rfl,U,hW.same (s2.trans s24),s4 _ _ f3,f4,⟨i0,i1,by omega,by show (p:Int) < ((wyZ W i).length:Int);omega⟩,⟨j0,j1,by omega,by show (q:Int) < ((wyZ W j).length:Int);omega⟩,fun l5 z5 H5 n5 s5 f5 k5 e5=>?_⟩
    have s25:=s24.trans s5
    have g2:=s25 _ _ f2
    have ez:(z5.map (·.2)).Perm (lkZ u W (i,(p:Int)) (j,(q:Int))):=by rw [e5];exact qo _ _ _ _
    have en:((zs++z5).map (·.2)).Perm (nk u W i j p++qX u W i j p (q+1)):=by
     rw [DU,mh,← Dh]
     exact e2.append ez
    have hlen:zs.length+z5.length≤3*30*p+3*(q+1):=by
     have h1:=en.length_eq
     rw [C4,C8,C8] at h1
     have h2:=qm u W i j lj p
     have h3:=ku u W i j p (q+1)
     omega
    refine ⟨l,l5,_,_,rfl,rfl,g2,f5,(by simp only [C4];omega),?_⟩
    rw [iT]
    exact ⟨_,zs++z5,rfl,fQ (s2.trans s25) hl,ag,((k2.same s25).app k5).to (iR g2),en⟩
   ·clear e1 k1 f1 s1 zs
    rintro σ H2 ⟨v2,zs,rfl,s2,f2,k2,e2⟩
    refine ⟨_,_,zs,rfl,s2,f2,k2,?_⟩
    rw [mj]
    exact e2
  ·rintro σ H1 ⟨v1,v2,zs,rfl,s1,f1,k1,e1⟩
   have em:zs.map (·.1)=(zs.map fun z=>(z.1,z.2.key)).map (·.1):=by rw [D9];rfl
   rw [em] at f1
   refine ⟨_,rfl,l,zs.map fun z=>(z.1,z.2.key),rfl,.inl (SqL.of f1),fun z hz=>?_,fun p ks hp pm pw=>?_⟩
   ·obtain ⟨y,hy,rfl⟩:=DN.mp hz
    exact (k1 y hy).kd
   ·obtain ⟨ys,h1,h2⟩:=fL (fun z:Addr × Lnk=>(z.1,z.2.key)) pm.symm zs rfl
    have e2:ks.map (·.1)=ys.map (·.1):=by rw [h2,D9];rfl
    have e3:ks.map (·.2)=(ys.map (·.2)).map Lnk.key:=by rw [h2,D9,D9];rfl
    rw [e2]
    rw [e3] at pw
    refine k p ys _ (s1.free hp) (s1.trans (aA.new hp)) ag (fun z hz=>?_) ((h1.map _).trans e1) pw
    exact (k1 z (h1.mem_iff.mp hz)).to fun b o e=>aA.new hp _ _ e
abbrev qL:Stmt:=top 41
theorem xx:ax ["_law_word","_law_found","_law_sign"] ["_law_word"] (ai qL):=⟨rfl,rfl,rfl,by decide +kernel,rfl,by decide +kernel,by decide +kernel⟩
theorem Al (D:Df K mg "_law_reduced" qL)(T:Bt K w mg aB)(F_lback:Fnc P w K mg base "_law_back" ["_law_word"] 1 k_):Fnc P w K mg base "_law_reduced" ["_law_word"] 2 vj:=by
 have sc:=xx
 refine D.ok sc (fun _ _ _ _ _ _ us hl=>by obtain ⟨_,rfl⟩:=qY hl;rfl) (fun vs H Q E h=>?_) (fun f cdv A outer s H vs Q E hr h=>?_)
 ·obtain ⟨u,rfl,_⟩:=h
  rfl
 ·obtain ⟨u,rfl,hu,k⟩:=h
  have l16:=aQ
  refine ⟨_,(@ah _ _ _ _ _ (@aC _ _ (1) _ _ _ _ sc.nd rfl (Or.inl rfl) aK (by rfl) (by first | exact .inl rfl | exact .inr rfl | assumption)) (@ah _ _ _ _ _ (@ei _ _ _ _ _ _ _ _ Et rfl (@jk _ _ _ _ (pv 0)) (@aP _ _ (2) _ sc.nd rfl (Or.inl rfl) (by first | exact .inl rfl | exact .inr rfl | assumption)) (@ak _ _ _ (@bV _ _ _ _ _ _ _ _ (@PW.pt _ _ _ (@tF _ _ _ _ _ _ _ (@aJ _ _ _ _ _ _ _ _ i7 (pv 1) aK (aM _)) (@nI _ _ _ _ (@aJ _ _ _ _ _ _ _ _ dR (@aF _ _ _ _ _ _ _ _ _ _ _ F_lback hr (by decide) rfl (@aa _ _ _ _ _ (pv 2) af (by rfl)) (by decide) (by rfl) (by rfl)) (@aR _ _ _ _ _ _ _ fc (pv 1) (@aI _ _ _ _ _ _ _ _ cn (@aq _ _ _ _ _ _ _ _ _ ao (by rfl) T.len Dq (@aa _ _ _ _ _ (pv 1) af (by rfl)) (by decide) (by decide) (by rfl) (by rfl)) aj) (fun _ _=>rfl)) (aM _))))) (@ak _ _ _ (@aC _ _ (1) _ _ _ _ sc.nd rfl (Or.inl rfl) (@ba _ _ _ _ _ _ _ _ _ _ c6 (pv 1) bx (@bh _ _ _ (@aI _ _ _ _ _ _ _ _ cn (@aq _ _ _ _ _ _ _ _ _ ao (by rfl) T.len Dq (@aa _ _ _ _ _ (pv 1) af (by rfl)) (by decide) (by decide) (by rfl) (by rfl)) aj))) (by rfl) (by first | exact .inl rfl | exact .inr rfl | assumption))) (@ak _ _ _ (@aC _ _ (1) _ _ _ _ sc.nd rfl (Or.inl rfl) (@aI _ _ _ _ _ _ _ _ a6 (pv 1) (pv 2)) (by rfl) (by first | exact .inl rfl | exact .inr rfl | assumption))))) (by intro _ ;rfl)) (@ak _ _ _ (@aG _ _ _ _ (pv 1))))),?_⟩
  refine ⟨_,rfl,_,rfl,ou (z:=toS u) (fun i σ H'=>∃ v,σ = [some (tx u),some (tx (act (u.take i) []).reverse),v]∧aA H H') ⟨none,rfl,aA.refl _⟩ ?_ ?_⟩
  ·rintro i c σ H1 hc ⟨v,rfl,s1⟩
   obtain ⟨x,hx,e⟩:=cb hc
   rw [e]
   have hi:i < u.length:=(Dd.mp hx).1
   have step:act (u.take (i+1)) []=push (act (u.take i) []) x:=by rw [bY hx,rM]
   have long:(act (u.take i) []).length≤u.length:=by
    have:=dU (u.take i) []
    rw [D8,Dw] at this
    omega
   rw [step]
   generalize act (u.take i) []=st at long
   have hst:(toS st.reverse).length≤sizeLine:=by rw [ae,EX];omega
   cases st with
   | nil =>
    refine ⟨_,rfl,rfl,_,rfl,tV (by rw [List.reverse_nil,k9];simp) (tP ?_)⟩
    refine ⟨_,rfl,_,rfl,_,_,rfl,rfl,(by rw [ae,ae];simp;omega),?_⟩
    rw [eG]
    exact ⟨_,rfl,s1⟩
   | cons y r =>
    rw [Ds] at long
    have hl:(toS (y::r).reverse).length=r.length+1:=by rw [ae,EX,Ds]
    refine ⟨_,rfl,rfl,_,rfl,nB (by rw [← k9];simpa using fun e=>by have:=DH List.length (k8 e);simp at this) ?_⟩
    refine ⟨_,rfl,[x],rfl,(by show 1≤5000;decide),fun H2 s2=>?_⟩
    refine ⟨_,rfl,_,rfl,_,rfl,hst,_,_,rfl,rfl,_,_,cp y,rfl,rfl,hst,fj (k:=r.length) (by rw [hl];omega) ?_,rfl,_,rfl,?_⟩
    ·rw [Gp,Dn (by rw [EX];exact Da _),EX,E5]
     rfl
    ·show if decide (tx (bk [x])=tx [y])=true then _ else _
     rw [oB,c7]
     have ep:push (y::r) x=if y=inv x then r else x::y::r:=rfl
     rw [ep]
     refine qT (fun h=>?_) (fun h=>?_)
     ·have h:inv x=y:=by simpa using h
      rw [if_pos h.symm]
      refine ⟨_,rfl,_,rfl,_,rfl,hst,_,_,rfl,rfl,_,rfl,_,rfl,hst,?_⟩
      rw [hl,bp,fk _ (by omega),show (((r.length+1:Nat):Int) - 1).toNat=r.length by omega,Gp,List.take_left' (by rw [EX])]
      exact ⟨_,rfl,s1.trans s2⟩
     ·have h:¬ inv x=y:=by simpa using h
      rw [if_neg fun e=>h e.symm]
      refine ⟨_,rfl,_,rfl,_,_,rfl,rfl,(by rw [ae,ae,EX,Ds];show r.length+1+1≤_;omega),?_⟩
      rw [eG,Gp (a:=x)]
      exact ⟨_,rfl,s1.trans s2⟩
  ·rintro σ H1 ⟨v,rfl,s1⟩
   rw [aZ,EB]
   exact ⟨_,rfl,k _ s1⟩
theorem xy {t u:TS}{D:f9}{σ:L2.St}{H:Hp}(R:L2.St→Hp→Prop)(h1:∀ nx:L2.St→Hp→Prop,(∀ σ2 H2,R σ2 H2→nx σ2 H2)→t ⟨nx,D.rt,D.bk,D.ct⟩ σ H)(h2:∀ σ2 H2,R σ2 H2→u D σ2 H2):BW t u D σ H:=h1 _ h2
theorem xA {nx:L2.St→Hp→Prop}{rt:VK}{bk ct:L2.St→Hp→Prop}{i:Nat}{σ:L2.St}{x:V}{H:Hp}(h:nx (σ.set i (some x)) H):eX (mH i) ⟨nx,rt,bk,ct⟩ σ x H:=h
inductive kG (vs:List V)(H:Hp)(Q:VK)(u3_:XK):Prop
 | mk:∀ u:List L,(vs=[tx u])→(u.length≤2000)→(∀ (W:List L) (H':Hp),Cyc W→W.length≤u.length→(∀ x∈W,x∈u)→aA H H'→Q (tx W) H')→kG vs H Q u3_
abbrev xB:Stmt:=top 42
theorem Am:ax ["_law_word","_law_found"] ["_law_word"] (ai xB):=⟨rfl,rfl,rfl,by decide +kernel,rfl,by decide +kernel,by decide +kernel⟩
theorem BR (D:Df K mg "_law_middle" xB)(T:Bt K w mg aB)(F_lback:Fnc P w K mg base "_law_back" ["_law_word"] 1 k_)(F_lred:Fnc P w K mg base "_law_reduced" ["_law_word"] 2 vj):Fnc P w K mg base "_law_middle" ["_law_word"] 3 kG:=by
 have sc:=Am
 refine D.ok sc (fun _ _ _ _ _ _ us hl=>by obtain ⟨_,rfl⟩:=qY hl;rfl) (fun vs H Q E h=>?_) (fun f cdv A outer s H vs Q E hr h=>?_)
 ·obtain ⟨u,rfl,_⟩:=h
  rfl
 ·obtain ⟨u,rfl,hu,k⟩:=h
  have l16:=aQ
  refine ⟨_,(@ah _ _ _ _ _ (@aC _ _ (1) _ _ _ _ sc.nd rfl (Or.inl rfl) (@aF _ _ _ _ _ _ _ _ _ _ _ F_lred hr (by decide) rfl (@aa _ _ _ _ _ (pv 0) af (by rfl)) (by decide) (by rfl) (by rfl)) (by rfl) (by first | exact .inl rfl | exact .inr rfl | assumption)) (@ah _ _ _ _ _ (@gN _ _ _ _ _ _ Et (@PW.pt _ _ _ (@tF _ _ _ _ _ _ _ (@aJ _ _ _ _ _ _ _ _ AO (@aq _ _ _ _ _ _ _ _ _ ao (by rfl) T.len Dq (@aa _ _ _ _ _ (pv 1) af (by rfl)) (by decide) (by decide) (by rfl) (by rfl)) aj (aM _)) (@nI _ _ _ _ (@aJ _ _ _ _ _ _ _ _ dR (@aR _ _ _ _ _ _ _ fc (pv 1) aj (fun _ _=>rfl)) (@aF _ _ _ _ _ _ _ _ _ _ _ F_lback hr (by decide) rfl (@aa _ _ _ _ _ (@aR _ _ _ _ _ _ _ fc (pv 1) (@aI _ _ _ _ _ _ _ _ cn (@aq _ _ _ _ _ _ _ _ _ ao (by rfl) T.len Dq (@aa _ _ _ _ _ (pv 1) af (by rfl)) (by decide) (by decide) (by rfl) (by rfl)) aj) (fun _ _=>rfl)) af (by rfl)) (by decide) (by rfl) (by rfl)) (aM _))))) (@ak _ _ _ (@aC _ _ (1) _ _ _ _ sc.nd rfl (Or.inl rfl) (@ba _ _ _ _ _ _ _ _ _ _ c6 (pv 1) (@bh _ _ _ aj) (@bh _ _ _ (@aI _ _ _ _ _ _ _ _ cn (@aq _ _ _ _ _ _ _ _ _ ao (by rfl) T.len Dq (@aa _ _ _ _ _ (pv 1) af (by rfl)) (by decide) (by decide) (by rfl) (by rfl)) aj))) (by rfl) (by first | exact .inl rfl | exact .inr rfl | assumption)))) (@ak _ _ _ (@aG _ _ _ _ (pv 1))))),?_⟩
  refine ⟨_,rfl,u,rfl,by omega,fun H2 s2=>?_⟩
  have r0:=yV u
  have n0:=mT u
  have j0:∀ x∈red u,x∈u:=fun x hx=>vH hx
  generalize red u=w0 at r0 n0 j0 ⊢
  refine xA (xy (fun σ H'=>∃ W:List L,σ = [some (tx u),some (tx W)]∧Cyc W∧W.length≤u.length∧(∀ x∈W,x∈u)∧aA H2 H') ?_ ?_)
  ·intro nx hn
   refine ⟨fun mm σ H'=>∃ W:List L,σ = [some (tx u),some (tx W)]∧Wd.Rd W∧W.length≤u.length∧(∀ x∈W,x∈u)∧aA H2 H'∧mm=W.length,⟨_,w0,rfl,r0,by omega,j0,aA.refl _,rfl⟩,?_⟩
   rintro mm σ H3 ⟨W,rfl,rW,lW,iW,s3,rfl⟩
   have hll:(toS W).length≤sizeLine:=by rw [ae];omega
   refine ⟨_,rfl,_,rfl,hll,_,_,rfl,rfl,_,rfl,?_⟩
   rw [ae]
   by_cases g1:1 < W.length
   ·refine nB (C_ (by omega)) ?_
    obtain ⟨x,mid,y,rfl⟩:∃ x mid y,W=x::(mid++[y]):=by
     cases W with
     | nil=>simp at g1
     | cons x r =>
      have hr:r≠[]:=by
       intro e
       subst e
       simp at g1
      exact ⟨x,r.dropLast,r.getLast hr,by rw [List.dropLast_concat_getLast]⟩
    have hl2:(x::(mid++[y])).length=mid.length+2:=by simp
    have a0:atI (toS (x::(mid++[y]))).cps.toList 0=some (cp x):=fj (k:=0) rfl rfl
    have al:atI (toS (x::(mid++[y]))).cps.toList (((toS (x::(mid++[y]))).length:Int) - 1)=some (cp y):=by
     rw [ae,hl2]
     refine fj (k:=mid.length+1) (by omega) ?_
     rw [Ga,Dn (Da _),E5]
     rfl
    refine ⟨_,rfl,_,_,_,rfl,rfl,hll,a0,_,rfl,_,rfl,_,rfl,hll,_,_,rfl,rfl,_,_,_,rfl,rfl,hll,al,[y],rfl,(by show 1≤5000;decide),fun H4 s4=>?_⟩
    refine ⟨rfl,_,rfl,?_⟩
    rw [c7]
    by_cases hxy:x=inv y
    ·refine nB (by rw [hxy];exact C_ rfl) ⟨_,fun σ' H' q=>q,?_⟩
     refine ⟨_,rfl,_,rfl,_,rfl,_,rfl,hll,_,_,rfl,rfl,_,rfl,_,rfl,hll,?_⟩
     have cm:Txt.slice (toS (x::(mid++[y]))) (some 1) (some (((toS (x::(mid++[y]))).length:Int) - 1))=toS mid:=by rw [bp,ae,vn]
     rw [cm]
     exact ⟨mid.length,by omega,mid,rfl,zw rW,by omega,fun z hz=>iW z (Dg _ (DM _ hz)),s3.trans s4,rfl⟩
    ·refine tV (C7 fun e=>hxy (E4 (k8 (show tx [x]=tx [inv y] from e))).1) ?_
     exact hn _ _ ⟨_,rfl,wj rW hxy,lW,iW,s3.trans s4⟩
   ·refine tV (C7 (by omega)) (tP ?_)
    exact hn _ _ ⟨_,rfl,wm g1,lW,iW,s3⟩
  ·rintro σ H3 ⟨W,rfl,cW,lW,iW,s3⟩
   exact ⟨_,rfl,k W _ cW lW iW (s2.trans s3)⟩
inductive kH (K:PySem.W.Frag)(vs:List V)(H:Hp)(Q:VK)(u3_:XK):Prop
 | mk:∀ (d l:Addr) (S:List L),(vs=[.ref d,.ref l])→Fd H d→H l=some (.lst (dz S))→1≤S.length→S.length≤12→(∀ (v:List L) (H':Hp),Rnd v→v.length≤8→(∀ x∈v,x∈S)→Fd H' d→bL d H H'→Q (tx v) H')→kH K vs H Q u3_
theorem qM (w:List L):rep 1 w=w:=rfl
abbrev xC:Stmt:=top 44
theorem An:ax ["_law_feed_here","_law_signs","_law_word","_law_sizes"] ["_law_feed_here","_law_signs"] (ai xC):=⟨rfl,rfl,rfl,by decide +kernel,rfl,by decide +kernel,by decide +kernel⟩
theorem BS (D:Df K mg "_law_way" xC)(T:Bt K w mg aB)(F_draw:Fnc P w K mg base "_law_draw" ["_law_feed_here","_law_many"] 1 jr)(F_mid:Fnc P w K mg base "_law_middle" ["_law_word"] 3 kG):Fnc P w K mg base "_law_way" ["_law_feed_here","_law_signs"] 4 (kH K):=by
 have sc:=An
 refine D.ok sc (fun _ _ _ _ _ _ us hl=>by obtain ⟨_,_,rfl⟩:=qZ hl;rfl) (fun vs H Q E h=>?_) (fun f cdv A outer s H vs Q E hr h=>?_)
 ·obtain ⟨d,l,S,rfl,_⟩:=h
  rfl
 ·obtain ⟨d,l,S,rfl,F,hl,s1,s12,k⟩:=h
  have l16:=aQ
  refine ⟨_,(@ah _ _ _ _ _ (@aC _ _ (2) _ _ _ _ sc.nd rfl (Or.inr rfl) (@aF _ _ _ _ _ _ _ _ _ _ _ F_mid hr (by decide) rfl (@aa _ _ _ _ _ (@cU _ _ _ _ _ _ _ _ _ _ _ _ DC FA FB jZ aK (@aa _ _ _ _ _ (@di _ _ _ _ _ _ _ (["_law_k","_law_signs","_law_feed_here"]) (["_law_k"]) ([1,0]) _ _ _ _ (@cf _ _ _ _ _ _ rfl (by kernel_rfl)) rfl (@bt _ _ _ _ _ _ rfl T.range (@aa _ _ _ _ _ (@aI _ _ _ _ _ _ _ _ bA aj (@aF _ _ _ _ _ _ _ _ _ _ _ F_draw hr (by decide) rfl (@aa _ _ _ _ _ (pv 0) (@aa _ _ _ _ _ aj af (by rfl)) (by rfl)) (by decide) (by rfl) (by rfl))) af (by rfl)) (by rfl)) (fun _ _ _ _=>@aP _ _ (0) _ (show (["_law_k","_law_signs","_law_feed_here"]:List Str).Nodup from by decide +kernel) rfl (Or.inl rfl) (by first | exact .inl rfl | exact .inr rfl | assumption)) (fun _ _ _ _=>bQ) (fun _ _ _ _=>by (exact (@aR _ _ _ _ _ _ _ (@iz _ (K) rfl) (pv 1) (@aF _ _ _ _ _ _ _ _ _ _ _ F_draw hr (by decide) rfl (@aa _ _ _ _ _ (pv 2) (@aa _ _ _ _ _ (@aq _ _ _ _ _ _ _ _ _ (@iC _ (K) rfl) (by rfl) T.len Dq (@aa _ _ _ _ _ (pv 1) af (by rfl)) (by decide) (by decide) (by rfl) (by rfl)) af (by rfl)) (by rfl)) (by decide) (by rfl) (by rfl)) (fun _ _=>rfl)))) (by intro _ ;rfl)) af (by rfl)) (by rfl) (by rfl) (by rfl) (by rfl) (by rfl)) af (by rfl)) (by decide) (by rfl) (by rfl)) (by rfl) (by first | exact .inl rfl | exact .inr rfl | assumption)) (@ah _ _ _ _ _ (@fv _ (3) _ _ _ _ _ _ _ _ _ (["_law_k","_law_word"]) (["_law_k"]) ([2]) _ _ _ _ sc.nd rfl (Or.inl rfl) (@cf _ _ _ _ _ _ rfl (by kernel_rfl)) rfl (@nP _ _ _ _ _ _ _ rfl T.range (@aa _ _ _ _ _ aj (@aa _ _ _ _ _ (@aI _ _ _ _ _ _ _ _ bA (@aq _ _ _ _ _ _ _ _ _ ao (by rfl) T.len Dq (@aa _ _ _ _ _ (pv 2) af (by rfl)) (by decide) (by decide) (by rfl) (by rfl)) aj) af (by rfl)) (by rfl)) (by rfl) (by rfl)) (fun _ _ _ _=>@aP _ _ (0) _ (show (["_law_k","_law_word"]:List Str).Nodup from by decide +kernel) rfl (Or.inl rfl) (by first | exact .inl rfl | exact .inr rfl | assumption)) (fun _ _ _ _=>(@eO _ _ _ (by exact (@aJ _ _ _ _ _ _ _ _ dR (@aI _ _ _ _ _ _ _ _ mR (@ba _ _ _ _ _ _ _ _ _ _ c6 (pv 1) bx (@bh _ _ _ (pv 0))) (@aI _ _ _ _ _ _ _ _ bR (@aq _ _ _ _ _ _ _ _ _ ao (by rfl) T.len Dq (@aa _ _ _ _ _ (pv 1) af (by rfl)) (by decide) (by decide) (by rfl) (by rfl)) (pv 0))) (pv 1) (aM _))))) (fun _ _ _ _=>by (exact (pv 0))) (by intro _ ;rfl) (by rfl) (by first | exact .inl rfl | exact .inr rfl | assumption)) (@ak _ _ _ (@aG _ _ _ _ (@b6 _ _ _ _ _ _ _ _ (@aJ _ _ _ _ _ _ _ _ (@oU _ (by exact hr.units)) (pv 3) (@bH _ _ _ _ af) (aM _)) (@ba _ _ _ _ _ _ _ _ _ _ c6 (pv 2) bx (@bh _ _ _ (@aR _ _ _ _ _ _ _ bJ (pv 3) aj (fun _ _=>rfl)))) (@aR _ _ _ _ _ _ _ bJ (pv 1) aj (fun _ _=>rfl))))))),?_⟩
  refine ⟨rfl,_,rfl,d,_,rfl,F,by decide,by decide,fun r H1 r0 r1 F1 sb1=>?_⟩
  refine ⟨_,_,rfl,rfl,_,rfl,by omega,by omega,?_⟩
  refine bK (own:=["_law_k"]) (cap:=[1,0]) (J:=Itr 0 (1+r).toNat) (1+r).toNat (fun i ys σ H'=>∃ (v:Option V) (W:List L),σ = [v,some (.ref l),some (.ref d)]∧ys=dz W∧W.length=i∧(∀ x∈W,x∈S)∧Fd H' d∧bL d H H') ⟨none,[],rfl,rfl,rfl,(fun x hx=>by cases hx),F1,sb1⟩ (fun i ys σ H' hi ⟨v,W,_,e,e2,_⟩=>by rw [e,aO,e2];exact Da _) (by omega) (fun i ys σ H' hi _=>hi) (fun ys σ H' _=>Da _) ?_ ?_
  ·rintro i ys σ H2 x H3 N' hi ⟨v,W,rfl,rfl,hW,hI,F2,sb2⟩ ⟨rfl,rfl⟩ hN
   have h2:=sb2 _ _ (F.nl hl) hl
   refine ⟨_,rfl,_,rfl,_,rfl,l,_,rfl,.inl (SqL.of h2),d,_,rfl,F2,by rw [aO];omega,by rw [aO];omega,fun q H4 q0 q1 F4 sb4=>?_⟩
   rw [aO] at q1
   obtain ⟨qn,rfl⟩:=D1 q0
   have hq:qn < S.length:=by omega
   refine ⟨l,_,_,tx [S[qn]],rfl,rfl,SqL.of (sb4 _ _ (F.nl hl) h2),?_,hN _ _ _ ⟨_,W++[S[qn]],rfl,dA _ _,by rw [C8,hW];rfl,fun x hx=>?_,F4,fun b o n e=>sb4 _ _ n (sb2 _ _ n e)⟩⟩
   ·refine bI ?_
    unfold dz
    rw [DG,fu (by omega)]
    rfl
   ·rcases DB.mp hx with h | h
    ·exact hI x h
    ·rw [De.mp h];exact DZ hq
  rintro ys σ H2 lj ⟨v,W0,rfl,rfl,hW0,hI0,F2,sb2⟩ hlj
  have w8:W0.length≤8:=by omega
  refine ⟨_,lj,W0.map fun x=>toS [x],rfl,rfl,SqL.of (by rw [ag,ip]),ft _ (by omega),?_⟩
  rw [fq]
  refine ⟨W0,rfl,by omega,fun W H3 cW lW iW s3=>?_⟩
  have iS:∀ x∈W,x∈S:=fun x hx=>hI0 x (iW x hx)
  have F4:=(F2.new (o:=.lst (dz W0)) hlj).same s3
  have sb4:bL d H H3:=fun b o n e=>s3 _ _ (aA.new hlj _ _ (sb2 _ _ n e))
  have hll:(toS W).length≤sizeLine:=by rw [ae];omega
  have h3:=sb4 _ _ (F.nl hl) hl
  refine ⟨_,rfl,_,rfl,hll,_,_,rfl,rfl,_,_,rfl,?_,?_⟩
  ·rw [ae]
   omega
  rw [ae,show ((W.length:Int)+1 - 1).toNat=W.length by omega]
  by_cases w0:W=[]
  ·subst w0
   refine bK (own:=["_law_k"]) (cap:=[2]) (J:=Itr 1 0) 0 (fun i ys σ H'=>ys=[]∧H'=H3) ⟨rfl,rfl⟩ (fun i ys σ H' _ ⟨e,_⟩=>by rw [e];exact D2 _) (by omega) (fun i ys σ H' hi _=>hi) (fun ys σ H' _=>Da _) (fun i ys σ H x H' N hi=>absurd hi (by omega)) ?_
   rintro ys σ H5 p ⟨rfl,rfl⟩ hp
   have f6:(upd H5 p (.lst [])) p=some (.lst []):=ag
   have s6:aA H5 (upd H5 p (.lst [])):=aA.new hp
   generalize upd H5 p (.lst [])=H6 at f6 s6 ⊢
   refine ⟨_,rfl,(by show 0≤sizeLine;omega),fun l9 hl9=>⟨p,l9,_,rfl,rfl,aA.new hl9 _ _ f6,ag,_,rfl,AB ?_⟩⟩
   have s7:=s6.then (o:=.lst []) hl9
   have hs0:(dz S)[0]? = some (tx [S[0]]):=by
    unfold dz
    rw [DG,fu (by omega)]
    rfl
   refine ⟨_,rfl,l,_,_,_,rfl,rfl,SqL.of (s7 _ _ h3),bI (j:=0) hs0,?_⟩
   exact k [S[0]] _ (kz _) (by show 1≤8;decide) (fun x hx=>by rw [De.mp hx];exact DZ (by omega)) (F4.same s7) (fun b o n e=>s7 _ _ (sb4 _ _ n e))
  have pW:0 < W.length:=D4.mpr w0
  refine bK (own:=["_law_k"]) (cap:=[2]) (J:=Itr 1 W.length) W.length (fun i ys σ H'=>∃ (v:Option V) (zs:List Nat),σ = [v,some (tx W)]∧ys=zs.map (fun z:Nat=>V.int (z:Int))∧zs.length≤i∧(∀ z∈zs,1≤z∧z≤W.length∧rep (W.length / z) (W.take z)=W)∧(W.length≤i→zs≠[])∧H'=H3)
   ⟨none,[],rfl,rfl,Da _,(fun z hz=>by cases hz),(fun h=>absurd h (by omega)),rfl⟩ (fun i ys σ H' hi ⟨_,zs,_,e,e2,_⟩=>by rw [e,C4];exact e2) (by omega) (fun i ys σ H' hi _=>hi) (fun ys σ H' _=>Da _) ?_ ?_
  ·rintro i ys σ H5 x H6 N hi ⟨v,zs,rfl,rfl,hz,gz,nz,rfl⟩ ⟨rfl,rfl⟩ hN
   have e1:(1:Int)+(i:Int)=((i+1:Nat):Int):=by omega
   rw [e1]
   have c1:Txt.slice (toS W) none (some ((i+1:Nat):Int))=toS (W.take (i+1)):=by rw [bp,fk _ (by omega)];rfl
   have dv:((toS W).length:Int) / ((i+1:Nat):Int)=((W.length / (i+1):Nat):Int):=by rw [ae];rfl
   have db:W.length / (i+1)≤W.length:=Nat.div_le_self _ _
   refine ⟨_,rfl,_,rfl,_,rfl,_,rfl,hll,?_⟩
   rw [c1]
   refine ⟨_,rfl,_,rfl,hll,_,rfl,_,_,rfl,rfl,⟨by omega,by omega⟩,?_⟩
   refine ⟨_,((W.length / (i+1):Nat):Int),rfl,DH V.int dv,oI _ (Int.le_trans (by decide) (Int.natCast_nonneg _)) (Int.ofNat_le.mpr (show W.length / (i+1)≤1000 by omega)) (by rw [Dw];omega),?_⟩
   rw [vf,DK]
   refine ⟨_,rfl,rfl,_,rfl,?_⟩
   by_cases he:rep (W.length / (i+1)) (W.take (i+1))=W
   ·refine nB (by rw [he];exact C_ rfl) ⟨_,rfl,?_⟩
    refine hN _ _ _ ⟨_,zs++[i+1],rfl,by rw [DU];rfl,by rw [C8];show _+1≤_;omega,fun z hz=>?_,fun _=>by simp,rfl⟩
    rcases DB.mp hz with hz | hz
    ·exact gz z hz
    ·rw [De.mp hz];exact ⟨by omega,by omega,he⟩
   ·refine tV (C7 fun e=>he (k8 e)) (hN _ _ _ ⟨_,zs,rfl,rfl,by omega,gz,fun h=>?_,rfl⟩)
    exfalso
    apply he
    have:i+1=W.length:=by omega
    rw [this,Nat.div_self pW,EB]
    exact qM W
  ·rintro ys σ H5 p ⟨v,zs,rfl,rfl,hz,gz,nz,rfl⟩ hp
   obtain ⟨z,r,rfl⟩:∃ z r,zs=z::r:=by
    cases zs with
    | nil=>exact absurd rfl (nz (Da _))
    | cons z r=>exact ⟨z,r,rfl⟩
   obtain ⟨z1,z2,z3⟩:=gz z Dz
   have c1:Txt.slice (toS W) none (some (z:Int))=toS (W.take z):=by rw [bp,fk _ (by omega),DK]
   have f6:(upd H5 p (.lst ((z::r).map (fun z:Nat=>V.int (z:Int))))) p=some (.lst (V.int (z:Int)::r.map (fun z:Nat=>V.int (z:Int)))):=ag
   have s6:aA H5 (upd H5 p (.lst ((z::r).map (fun z:Nat=>V.int (z:Int))))):=aA.new hp
   generalize upd H5 p (.lst ((z::r).map (fun z:Nat=>V.int (z:Int))))=H6 at f6 s6 ⊢
   refine ⟨_,rfl,(by show 0≤sizeLine;omega),fun l9 hl9=>⟨p,l9,_,rfl,rfl,aA.new hl9 _ _ f6,ag,_,rfl,AA ?_⟩⟩
   have s7:=s6.then (o:=.lst []) hl9
   refine ⟨_,rfl,_,rfl,p,_,_,_,rfl,rfl,SqL.of (aA.new hl9 _ _ f6),bI (j:=0) rfl,_,rfl,_,rfl,hll,?_⟩
   rw [c1]
   have cy:Cyc (W.take z):=wo (n:=W.length / z) (by rw [z3];exact cW) (by rw [z3];exact w0)
   exact k _ _ (cy.rnd (D4.mp (by rw [Dw];omega))) (by rw [Dw];omega) (fun x hx=>iS x (FI hx)) (F4.same s7) (fun b o n e=>s7 _ _ (sb4 _ _ n e))
theorem jJ {u:List L}{x:L}(h:x∈u):Txt.find (toS u) (toS [x])=(u.idxOf x:Int):=by
 obtain ⟨rest,e⟩:=ju h
 unfold Txt.find
 rw [e]
inductive qN (N n:Nat)(vs:List V)(H:Hp)(Q:VK)(E:XK):Prop
 | mk:∀ (u:List L) (m:Nat) (x:L) (t:Tok),(vs=[tx u,.tks (toS [x]) t])→(0 < N)→(N≤n)→(0 < t)→(t < n)→(SK u m)→(2≤m)→(x.val < m)→(∀ H',aA H H'→Q (.bl true) H')→qN N n vs H Q E
abbrev iZ:Stmt:=top 45
theorem qO:ax ["_law_row","_law_letter","_law_before","_law_after","_law_place","_law_other","_law_due","_law_ends","_law_first"] ["_law_row","_law_letter"] (ai iZ):=⟨rfl,rfl,rfl,by decide +kernel,rfl,by decide +kernel,by decide +kernel⟩
theorem tp {N:Nat}{CB CS:Addr}(D:Df K mg "_law_holes_right" iZ)(T:Bt K w mg aB)(F_holes:Fnc P w K mg base "holes" ["surface"] 3 iy)(F_handles:Fnc P w K mg base "handles" ["surface"] 4 fz)(F_cut:qW P w K mg base "cut" ["surface","letter"] 4 (lL CB N))(F_glued:yK P w K mg base "glued" ["surface","place","other"] 3 (iA CB CS)):qW P w K mg base "_law_holes_right" ["_law_row","_law_letter"] 5 (qN N):=by
 have sc:=qO
 refine D.okT sc (fun _ _ _ _ _ _ us hl=>by obtain ⟨_,_,rfl⟩:=qZ hl;rfl) (fun n vs H Q E h=>?_) (fun f cdv A outer s H vs Q E hr h=>?_)
 ·obtain ⟨u,m,x,t,rfl,_⟩:=h
  rfl
 ·obtain ⟨u,m,x,t,rfl,hN0,hN,t0,tn,U,m2,hx,k⟩:=h
  have l16:=aQ
  have hlu:=U.len
  have h6:=U.hi
  have lu:=ae u
  refine ⟨_,(@ah _ _ _ _ _ (@aC _ _ (2) _ _ _ _ sc.nd rfl (Or.inr rfl) (@aF _ _ _ _ _ _ _ _ _ _ _ F_holes hr (by decide) rfl (@aa _ _ _ _ _ (pv 0) af (by rfl)) (by decide) (by rfl) (by rfl)) (by rfl) (by first | exact .inl rfl | exact .inr rfl | assumption)) (@ah _ _ _ _ _ (@aC _ _ (3) _ _ _ _ sc.nd rfl (Or.inl rfl) (@pD _ _ _ _ _ _ _ _ _ _ _ _ F_cut hr (by decide) dY rfl (@aa _ _ _ _ _ (pv 0) (@aa _ _ _ _ _ (pv 1) af (by rfl)) (by rfl)) (by decide) (by rfl) (by rfl)) (by rfl) (by first | exact .inl rfl | exact .inr rfl | assumption)) (@ah _ _ _ _ _ (@fv _ (4) _ _ _ _ _ _ _ _ _ (["_law_k","_law_letter","_law_before"]) (["_law_k"]) ([1,2]) _ _ _ _ sc.nd rfl (Or.inl rfl) (@cf _ _ _ _ _ _ rfl (by kernel_rfl)) rfl (@bt _ _ _ _ _ _ rfl T.range (@aa _ _ _ _ _ (@aq _ _ _ _ _ _ _ _ _ aH (by rfl) T.len Dq (@aa _ _ _ _ _ (pv 2) af (by rfl)) (by decide) (by decide) (by rfl) (by rfl)) af (by rfl)) (by rfl)) (fun _ _ _ _=>@aP _ _ (0) _ (show (["_law_k","_law_letter","_law_before"]:List Str).Nodup from by decide +kernel) rfl (Or.inl rfl) (by first | exact .inl rfl | exact .inr rfl | assumption)) (fun _ _ _ _=>(@eO _ _ _ (by exact (@aJ _ _ _ _ _ _ _ _ cq (@fB _ _ _ (pv 1)) (@aR _ _ _ _ _ _ _ (@iz _ (K) rfl) (pv 2) (pv 0) (fun _ _=>rfl)) rfl)))) (fun _ _ _ _=>by (exact (pv 0))) (by intro _ ;rfl) (by rfl) (by first | exact .inl rfl | exact .inr rfl | assumption)) (@ah _ _ _ _ _ (@fv _ (5) _ _ _ _ _ _ _ _ _ (["_law_k","_law_before","_law_letter"]) (["_law_k"]) ([2,1]) _ _ _ _ sc.nd rfl (Or.inl rfl) (@cf _ _ _ _ _ _ rfl (by kernel_rfl)) rfl (@bt _ _ _ _ _ _ rfl T.range (@aa _ _ _ _ _ (@aq _ _ _ _ _ _ _ _ _ aH (by rfl) T.len Dq (@aa _ _ _ _ _ (pv 2) af (by rfl)) (by decide) (by decide) (by rfl) (by rfl)) af (by rfl)) (by rfl)) (fun _ _ _ _=>@aP _ _ (0) _ (show (["_law_k","_law_before","_law_letter"]:List Str).Nodup from by decide +kernel) rfl (Or.inl rfl) (by first | exact .inl rfl | exact .inr rfl | assumption)) (fun _ _ _ _=>(@eO _ _ _ (by exact (@aJ _ _ _ _ _ _ _ _ cq (@oR _ _ _ _ _ _ _ _ _ (K) rfl DC Gi Gj ia (@fB _ _ _ (pv 2)) (by rfl) (by rfl)) (@aR _ _ _ _ _ _ _ (@iz _ (K) rfl) (pv 1) (pv 0) (fun _ _=>rfl)) rfl)))) (fun _ _ _ _=>by (exact (pv 0))) (by intro _ ;rfl) (by rfl) (by first | exact .inl rfl | exact .inr rfl | assumption)) (@ah _ _ _ _ _ (@bV _ _ _ _ _ _ _ _ (@PW.pt _ _ _ (@nJ _ _ _ _ _ _ _ (@aJ _ _ _ _ _ _ _ _ i7 (@aq _ _ _ _ _ _ _ _ _ aH (by rfl) T.len Dq (@aa _ _ _ _ _ (pv 4) af (by rfl)) (by decide) (by decide) (by rfl) (by rfl)) aj (aM _)) (@i6 _ _ _ _ (@aJ _ _ _ _ _ _ _ _ i7 (@aq _ _ _ _ _ _ _ _ _ aH (by rfl) T.len Dq (@aa _ _ _ _ _ (pv 5) af (by rfl)) (by decide) (by decide) (by rfl) (by rfl)) aj (aM _))))) (@ak _ _ _ (@aG _ _ _ _ gM)) aX) (@ah _ _ _ _ _ (@aC _ _ (6) _ _ _ _ sc.nd rfl (Or.inl rfl) (@aI _ _ _ _ _ _ _ _ bA (@aq _ _ _ _ _ _ _ _ _ aH (by rfl) T.len Dq (@aa _ _ _ _ _ (pv 2) af (by rfl)) (by decide) (by decide) (by rfl) (by rfl)) (@aR _ _ _ _ _ _ _ bJ (@bH _ _ _ _ (@aa _ _ _ _ _ (@mL _ _ _ _ _ _ gf aj) (@aa _ _ _ _ _ aj af (by rfl)) (by rfl))) (@bu _ _ _ _ _ _ _ _ _ e9 (by rfl) T.int vh (@aa _ _ _ _ _ (@de _ _ _ _ _ _ _ _ (@pJ _ (by exact hr.units)) (pv 4) (pv 5) (aM _)) af (by rfl)) (by decide) (by decide) (by rfl) (by rfl)) (fun _ _=>rfl))) (by rfl) (by first | exact .inl rfl | exact .inr rfl | assumption)) (@ah _ _ _ _ _ (@bV _ _ _ _ _ _ _ _ (@PW.pt _ _ _ (@nJ _ _ _ _ _ _ _ (@aJ _ _ _ _ _ _ _ _ i7 (@aq _ _ _ _ _ _ _ _ _ aH (by rfl) T.len Dq (@aa _ _ _ _ _ (@aF _ _ _ _ _ _ _ _ _ _ _ F_holes hr (by decide) rfl (@aa _ _ _ _ _ (pv 3) af (by rfl)) (by decide) (by rfl) (by rfl)) af (by rfl)) (by decide) (by decide) (by rfl) (by rfl)) (pv 6) (aM _)) (@i6 _ _ _ _ (@aJ _ _ _ _ _ _ _ _ i7 (@aI _ _ _ _ _ _ _ _ eY aj (@aF _ _ _ _ _ _ _ _ _ _ _ F_handles hr (by decide) rfl (@aa _ _ _ _ _ (pv 3) af (by rfl)) (by decide) (by rfl) (by rfl))) (@aI _ _ _ _ _ _ _ _ cn (@aI _ _ _ _ _ _ _ _ bA (@aI _ _ _ _ _ _ _ _ bR (@aq _ _ _ _ _ _ _ _ _ ao (by rfl) T.len Dq (@aa _ _ _ _ _ (pv 3) af (by rfl)) (by decide) (by decide) (by rfl) (by rfl)) aj) aj) (pv 6)) (aM _))))) (@ak _ _ _ (@aG _ _ _ _ gM)) aX) (@ah _ _ _ _ _ (@aC _ _ (7) _ _ _ _ sc.nd rfl (Or.inl rfl) (@bH _ _ _ _ (@aa _ _ _ _ _ (@cU _ _ _ _ _ _ _ _ _ _ _ _ DC PySem.F.slot_str_find PySem.F.type_str_find lI (pv 0) (@aa _ _ _ _ _ (@fB _ _ _ (pv 1)) af (by rfl)) (by rfl) (by rfl) (by rfl) (by rfl) (by rfl)) (@aa _ _ _ _ _ (@cU _ _ _ _ _ _ _ _ _ _ _ _ DC PySem.F.slot_str_find PySem.F.type_str_find lI (pv 0) (@aa _ _ _ _ _ (@gi _ _ _ _ _ _ _ _ _ DC Gi Gj ia (@fB _ _ _ (pv 1)) (by rfl) (by rfl)) af (by rfl)) (by rfl) (by rfl) (by rfl) (by rfl) (by rfl)) af (by rfl)) (by rfl))) (by rfl) (by first | exact .inl rfl | exact .inr rfl | assumption)) (@ah _ _ _ _ _ (@aC _ _ (8) _ _ _ _ sc.nd rfl (Or.inl rfl) (@aI _ _ _ _ _ _ _ _ cn (@aR _ _ _ _ _ _ _ bJ (pv 7) aj (fun _ _=>rfl)) (@bu _ _ _ _ _ _ _ _ _ e9 (by rfl) T.int vh (@aa _ _ _ _ _ (@de _ _ _ _ _ _ _ _ gO (@aR _ _ _ _ _ _ _ bJ (pv 7) aj (fun _ _=>rfl)) (@aR _ _ _ _ _ _ _ bJ (pv 7) aj (fun _ _=>rfl)) (aM _)) af (by rfl)) (by decide) (by decide) (by rfl) (by rfl))) (by rfl) (by first | exact .inl rfl | exact .inr rfl | assumption)) (@ak _ _ _ (@aG _ _ _ _ (@de _ _ _ _ _ _ _ _ dR (@aq _ _ _ _ _ _ _ _ _ aH (by rfl) T.len Dq (@aa _ _ _ _ _ (@aF _ _ _ _ _ _ _ _ _ _ _ F_holes hr (by decide) rfl (@aa _ _ _ _ _ (@ua _ _ _ _ _ _ _ _ _ _ _ _ F_glued hr (by decide) dY rfl (@aa _ _ _ _ _ (pv 3) (@aa _ _ _ _ _ (pv 8) (@aa _ _ _ _ _ (@aR _ _ _ _ _ _ _ bJ (pv 7) aj (fun _ _=>rfl)) af (by rfl)) (by rfl)) (by rfl)) (by decide) (by rfl) (by rfl)) af (by rfl)) (by decide) (by rfl) (by rfl)) af (by rfl)) (by decide) (by decide) (by rfl) (by rfl)) (@aq _ _ _ _ _ _ _ _ _ aH (by rfl) T.len Dq (@aa _ _ _ _ _ (pv 2) af (by rfl)) (by decide) (by decide) (by rfl) (by rfl)) (aM _))))))))))))),?_⟩
  have hL:=j7 u u.length
  have hL2:(hol u).length≤u.length:=hL
  have hx6:x.val < 6:=by omega
  have mx:x∈u:=(U.mem x).mpr (by rw [El hx6];exact hx)
  obtain ⟨p,hpl,hp⟩:=qw U.srf mx
  obtain ⟨q,hql,hq⟩:=qw U.srf (U.srf.iv x mx)
  refine ⟨_,rfl,u,rfl,U.srf,fun lb H1 nlb f1 s1=>?_⟩
  refine ⟨_,rfl,_,rfl,fun n1 hn1=>⟨u,toS [x],_,rfl,rfl,DO hN hn1,by omega,by omega,(by rw [ae];show 1≤100;decide),fun y h1 h2 h3 h4=>⟨⟨t,rfl,t0,Du tn hn1⟩,fun H2 s2=>?_⟩,fun hc=>?_⟩⟩
  rotate_left
  ·exact (hc.elim (fun z=>by omega) fun z=>z x (by omega) hx6 rfl).elim
  obtain rfl:x=y:=by
   have:=il h4
   simpa using this
  have f2:=s2 _ _ f1
  have s02:=s1.trans s2
  have bits:∀ {i r:Nat},i < (hol u).length→(if r < i then [V.int (r:Int)] else [])++(if i=r then [V.int (i:Int)] else [])=(if r < i+1 then [V.int (r:Int)] else []):=fun {i r} hi=>by
   by_cases h:r < i
   ·rw [if_pos h,if_neg (by omega),if_pos (by omega)];rfl
   ·by_cases e:i=r
    ·subst e;rw [if_neg h,if_pos rfl,if_pos (by omega)];rfl
    ·rw [if_neg h,if_neg e,if_neg (by omega)];rfl
  have hol_at:∀ {i:Nat},i < (hol u).length→∃ w,(hol u)[i]? = some w∧atI ((hol u).map tx) (0+(i:Int))=some (tx w)∧w.length≤12:=fun {i} hi=>⟨(hol u)[i],fu hi,by rw [G8];exact bI (by rw [DG,fu hi];rfl),(zH U.srf (DZ hi)).2⟩
  refine ⟨_,rfl,lb,_,rfl,.inl (SqL.of f2),_,rfl,by rw [C4];omega,by rw [C4];omega,?_⟩
  rw [C4,DK]
  refine bK (own:=["_law_k"]) (cap:=[1,2]) (J:=Itr 0 (hol u).length) (hol u).length (fun i ys σ H'=>∃ v:Option V,σ = [v,some (.tks (toS [x]) t),some (.ref lb)]∧ys=(if p < i then [V.int (p:Int)] else [])∧H'=H2) ⟨none,rfl,(by rw [if_neg (FY _)]),rfl⟩ (fun i ys σ H' _ ⟨_,_,e,_⟩=>by
   rw [e];split
   ·show 1≤i;omega
   ·exact D2 _) (by omega) (fun i ys σ H' hi _=>hi) (fun ys σ H' _=>Da _) ?_ ?_
  ·rintro i ys σ H5 z H6 N' hi ⟨v,rfl,rfl,rfl⟩ ⟨rfl,rfl⟩ hN'
   obtain ⟨w,hw,aw,lw⟩:=hol_at hi
   refine ⟨_,rfl,_,rfl,_,rfl,?_⟩
   refine ⟨lb,_,_,tx w,rfl,rfl,SqL.of f2,aw,_,_,rfl,rfl,?_⟩
   rw [lM]
   by_cases e:i=p
   ·rw [C_ ((hp i w hw).mpr e)]
    refine ⟨true,rfl,yr ⟨_,rfl,hN' _ _ _ ⟨_,rfl,?_,rfl⟩⟩⟩
    rw [← bits hi,if_pos e,G8]
   ·rw [C7 fun c=>e ((hp i w hw).mp c)]
    refine ⟨false,rfl,tP (hN' _ _ _ ⟨_,rfl,?_,rfl⟩)⟩
    rw [← bits hi,if_neg e,Ee]
  rintro ys σ H5 lp ⟨v,rfl,rfl,rfl⟩ nlp
  rw [if_pos hpl]
  have s3:aA H5 (upd H5 lp (.lst [V.int (p:Int)])):=aA.new nlp
  have f3:(upd H5 lp (.lst [V.int (p:Int)])) lp=some (.lst ([(p:Int)].map V.int)):=ag
  generalize upd H5 lp (.lst [V.int (p:Int)])=H3 at s3 f3 ⊢
  have f23:=s3 _ _ f2
  refine ⟨_,rfl,lb,_,rfl,.inl (SqL.of f23),_,rfl,by rw [C4];omega,by rw [C4];omega,?_⟩
  rw [C4,DK]
  refine bK (own:=["_law_k"]) (cap:=[2,1]) (J:=Itr 0 (hol u).length) (hol u).length (fun i ys σ H'=>∃ v:Option V,σ = [v,some (.ref lb),some (.tks (toS [x]) t)]∧ys=(if q < i then [V.int (q:Int)] else [])∧H'=H3) ⟨none,rfl,(by rw [if_neg (FY _)]),rfl⟩ (fun i ys σ H' _ ⟨_,_,e,_⟩=>by
   rw [e];split
   ·show 1≤i;omega
   ·exact D2 _) (by omega) (fun i ys σ H' hi _=>hi) (fun ys σ H' _=>Da _) ?_ ?_
  ·rintro i ys σ H5 z H6 N' hi ⟨v,rfl,rfl,rfl⟩ ⟨rfl,rfl⟩ hN'
   obtain ⟨w,hw,aw,lw⟩:=hol_at hi
   refine ⟨_,rfl,rfl,_,rfl,rfl,(by rw [ae];show 1≤5592405;decide),?_⟩
   rw [dw hx6]
   refine ⟨_,rfl,_,rfl,?_⟩
   refine ⟨lb,_,_,tx w,rfl,rfl,SqL.of f23,aw,_,_,rfl,rfl,?_⟩
   rw [lM]
   by_cases e:i=q
   ·rw [C_ ((hq i w hw).mpr e)]
    refine ⟨true,rfl,yr ⟨_,rfl,hN' _ _ _ ⟨_,rfl,?_,rfl⟩⟩⟩
    rw [← bits hi,if_pos e,G8]
   ·rw [C7 fun c=>e ((hq i w hw).mp c)]
    refine ⟨false,rfl,tP (hN' _ _ _ ⟨_,rfl,?_,rfl⟩)⟩
    rw [← bits hi,if_neg e,Ee]
  rintro ys σ H5 lq ⟨v,rfl,rfl,rfl⟩ nlq
  rw [if_pos hql]
  have s4:aA H5 (upd H5 lq (.lst [V.int (q:Int)])):=aA.new nlq
  have f4:(upd H5 lq (.lst [V.int (q:Int)])) lq=some (.lst ([(q:Int)].map V.int)):=ag
  generalize upd H5 lq (.lst [V.int (q:Int)])=H4 at s4 f4 ⊢
  have f34:=s4 _ _ f3
  have f24:=s4 _ _ f23
  have one:∀ r:Nat,(!decide (V.int ((([(r:Int)].map V.int).length:Nat):Int)=V.int 1))=false:=fun r=>by
   rw [C_ (show V.int ((([(r:Int)].map V.int).length:Nat):Int)=V.int 1 from rfl)];rfl
  refine ⟨_,rfl,lp,_,rfl,.inl (SqL.of f34),rfl,_,rfl,?_⟩
  refine (DH (fun b=>i5 _ _ _ b _) (one p)).mpr (yR ?_)
  refine ⟨_,rfl,lq,_,rfl,.inl (SqL.of f4),rfl,_,rfl,?_⟩
  refine (DH (fun b=>b9 _ _ _ _ b _) (one q)).mpr (j9 ?_)
  refine ⟨_,rfl,lb,_,rfl,.inl (SqL.of f24),?_⟩
  refine ⟨_,rfl,(by show 2≤sizeLine;omega),fun l5 nl5=>?_⟩
  have s5:aA H4 (upd H4 l5 (.lst [V.int (-1),V.int 1])):=aA.new nl5
  have f5:(upd H4 l5 (.lst [V.int (-1),V.int 1])) l5=some (.lst [V.int (-1),V.int 1]):=ag
  have ev:PyData.eqv (.list (dJ [(p:Int)])) (.list (dJ [(q:Int)]))=decide (p=q):=by
   show (((p:Int) == (q:Int)) && true)=decide (p=q)
   rw [Bool.and_true]
   by_cases e:p=q
   ·rw [C_ e,e,EA]
   ·rw [C7 e];exact Fc fun z=>e (HW z)
  obtain ⟨z,hz,az⟩:∃ z:Int,z=(if p=q then 1 else -1)∧atI [V.int (-1),V.int 1] (if decide (p=q)=true then 1 else 0)=some (V.int z):=by
   by_cases e:p=q
   ·exact ⟨1,by rw [if_pos e],by rw [C_ e];rfl⟩
   ·exact ⟨-1,by rw [if_neg e],by rw [C7 e];rfl⟩
  have hcut:=wG U m2 hx hp hq
  rw [← hz] at hcut
  have S:=fT U m2 hx
  have lc:=S.len
  have hnd:=wH S.srf
  obtain ⟨V6,hol6⟩:=wL U hx
  have eglu:=wK U hx
  refine ⟨_,rfl,_,rfl,_,_,.lst (s5 _ _ f34) (wx _),.lst (s5 _ _ f4) (wx _),uJ _,uJ _,zG _,?_⟩
  rw [ev]
  refine .inr ⟨_,rfl,l5,_,_,_,rfl,rfl,SqL.of f5,az,_,_,rfl,rfl,?_⟩
  have f25:=s5 _ _ f24
  generalize upd H4 l5 (.lst [V.int (-1),V.int 1])=H5' at s5 f5 f25 ⊢
  rw [C4]
  refine ⟨_,rfl,d5 u x,rfl,S.srf,fun lc6 H6 nl6 f6 s6=>⟨lc6,_,rfl,.inl (SqL.of f6),_,rfl,rfl,_,rfl,?_⟩⟩
  rw [C4,← hcut]
  refine (DH (fun b=>i5 _ _ _ b _) (show (!decide (V.int ((hol (d5 u x)).length:Int)=V.int ((hol (d5 u x)).length:Int)))=false by rw [C_ rfl];rfl)).mpr (yR ?_)
  have lcs:=ae (d5 u x)
  refine ⟨_,rfl,d5 u x,rfl,S.srf,fun H7 s7=>⟨_,_,rfl,rfl,.inl ⟨by decide,by decide⟩,_,rfl,toS (d5 u x),rfl,by omega,_,_,rfl,rfl,⟨by decide,by decide⟩,_,_,rfl,rfl,_,rfl,_,_,rfl,rfl,rfl,_,rfl,?_⟩⟩
  rw [lcs,hnd]
  refine (DH (fun b=>b9 _ _ _ _ b _) (show (!decide (V.int (((d5 u x).length:Int) / 2+1 - ((hol (d5 u x)).length:Int))=V.int (((d5 u x).length:Int) / 2+1 - ((hol (d5 u x)).length:Int))))=false by rw [C_ rfl];rfl)).mpr (j9 ?_)
  refine ⟨_,rfl,rfl,_,rfl,toS u,toS [x],rfl,rfl,?_⟩
  rw [jJ mx]
  refine ⟨_,rfl,rfl,_,rfl,rfl,_,rfl,rfl,(by rw [ae];show 1≤5592405;decide),?_⟩
  rw [dw hx6]
  refine ⟨toS u,toS [inv x],rfl,rfl,?_⟩
  rw [jJ (U.srf.iv x mx)]
  refine ⟨(by show 2≤sizeLine;omega),fun l8 nl8=>?_⟩
  have i0:=bq mx
  have i1:=bq (U.srf.iv x mx)
  have i01:u.idxOf (inv x)≠u.idxOf x:=fun e=>cC x (bU (U.srf.iv x mx) mx e)
  generalize u.idxOf (inv x)=j at *
  generalize u.idxOf x=i at *
  have f8:(upd H7 l8 (.lst [V.int (i:Int),V.int (j:Int)])) l8=some (.lst [V.int (i:Int),V.int (j:Int)]):=ag
  have s8:aA H7 (upd H7 l8 (.lst [V.int (i:Int),V.int (j:Int)])):=aA.new nl8
  refine ⟨_,rfl,l8,_,_,_,rfl,rfl,SqL.of f8,bI (j:=0) rfl,_,rfl,l8,_,_,_,rfl,rfl,SqL.of f8,bI (j:=1) rfl,_,rfl,l8,_,_,_,rfl,rfl,SqL.of f8,bI (j:=0) rfl,_,_,rfl,rfl,.inr ⟨_,rfl,_,_,rfl,rfl,?_⟩⟩
  have ek:(i:Int) - (if decide ((j:Int) < (i:Int))=true then 1 else 0)=((i - (if j < i then 1 else 0):Nat):Int):=by
   by_cases h:j < i
   ·rw [C_ (by omega),if_pos rfl,if_pos h];omega
   ·rw [C7 (by omega),if_neg (by decide),if_neg h];omega
  rw [ek]
  have bi:i - (if j < i then 1 else 0)≤(d5 u x).length:=by split <;> omega
  have bj:j≤(d5 u x).length+1:=by omega
  generalize i - (if j < i then 1 else 0)=i' at *
  refine ⟨_,rfl,_,rfl,_,rfl,l8,_,_,_,rfl,rfl,SqL.of f8,bI (j:=1) rfl,d5 u x,_,_,rfl,by omega,by omega,fun w hw H9 s9=>?_,fun hb=>?_,fun k hb=>?_⟩
  rotate_left
  ·rw [fF (by omega) ⟨by omega,by omega⟩ ⟨by omega,by omega⟩] at hb;cases hb
  ·rw [fF (by omega) ⟨by omega,by omega⟩ ⟨by omega,by omega⟩] at hb;cases hb
  rw [fF (by omega) ⟨by omega,by omega⟩ ⟨by omega,by omega⟩,DK,DK,show (d5 u x).length / 2=m - 1 by omega,eglu] at hw
  cases hw
  have f29:=s9 _ _ (s8 _ _ (s7 _ _ (s6 _ _ f25)))
  refine ⟨u.map (jN m x),rfl,V6.srf,fun l10 H10 nl10 f10 s10=>⟨l10,_,rfl,.inl (SqL.of f10),_,rfl,lb,_,rfl,.inl (SqL.of (s10 _ _ f29)),rfl,?_⟩⟩
  rw [C4,C4,hol6]
  have sA:aA H H5':=((s02.trans s3).trans s4).trans s5
  exact (DH (fun b=>Q (V.bl b) H10) (C_ (rfl:V.int ((hol u).length:Int)=V.int ((hol u).length:Int)))).mpr (k _ (((((sA.trans s6).trans s7).trans s8).trans s9).trans s10))
inductive qP (N n:Nat)(vs:List V)(H:Hp)(Q:VK)(E:XK):Prop
 | mk:∀ (d:Addr) (u:List L) (m:Nat) (x:L) (t:Tok),(vs=[.ref d,tx u,.tks (toS [x]) t])→(Fd H d)→(0 < N)→(N≤n)→(0 < t)→(t < n)→(SK u m)→(2≤m)→(x.val < m)→(∀ H',Fd H' d→bL d H H'→Q (.bl true) H')→qP N n vs H Q E
theorem jK:∀ ws:List (List L),PyData.eqvAll (dws ws) (dws ws)=true
 | []=>rfl
 | w::ws=>by
  show (((toS w:Str) == toS w) && PyData.eqvAll (dws ws) (dws ws))=true
  rw [jK ws,EA]
  rfl
abbrev i3:Stmt:=top 46
theorem qQ:ax ["_law_feed_here","_law_row","_law_letter","_law_signs","_law_ways","_law_after","_law_gone","_law_i","_law_j"] ["_law_feed_here","_law_row","_law_letter"] (ai i3):=⟨rfl,rfl,rfl,by decide +kernel,rfl,by decide +kernel,by decide +kernel⟩
theorem tq {N:Nat}{CB:Addr}(D:Df K mg "_law_ways_right" i3)(T:Bt K w mg aB)(F_way:Fnc P w K mg base "_law_way" ["_law_feed_here","_law_signs"] 4 (kH K))(F_cut:qW P w K mg base "cut" ["surface","letter"] 4 (lL CB N))(F_cutw:Fnc P w K mg base "cut_word" ["letter","word"] 4 fD)(F_back:Fnc P w K mg base "back" ["word"] 1 k_)(F_lback:Fnc P w K mg base "_law_back" ["_law_word"] 1 k_)(F_links:Fnc P w K mg base "links" ["surface","ways","i","j"] 6 kx):qW P w K mg base "_law_ways_right" ["_law_feed_here","_law_row","_law_letter"] 7 (qP N):=by
 have sc:=qQ
 refine D.okT sc (fun _ _ _ _ _ _ us hl=>by obtain ⟨_,_,_,rfl⟩:=wN hl;rfl) (fun n vs H Q E h=>?_) (fun f cdv A outer s H vs Q E hr h=>?_)
 ·obtain ⟨d,u,m,x,t,rfl,_⟩:=h
  rfl
 ·obtain ⟨d,u,m,x,t,rfl,F,hN0,hN,t0,tn,U,m2,hx,k⟩:=h
  have l16:=aQ
  have hlu:=U.len
  have h6:=U.hi
  have hx6:x.val < 6:=by omega
  have lu:=ae u
  refine ⟨_,(@ah _ _ _ _ _ (@fv _ (3) _ _ _ _ _ _ _ _ _ (["_law_sign","_law_letter"]) (["_law_sign"]) ([2]) _ _ _ _ sc.nd rfl (Or.inl rfl) (@cf _ _ _ _ _ _ rfl (by kernel_rfl)) rfl (@jk _ _ _ _ (pv 1)) (fun _ _ _ _=>@aP _ _ (0) _ (show (["_law_sign","_law_letter"]:List Str).Nodup from by decide +kernel) rfl (Or.inl rfl) (by first | exact .inl rfl | exact .inr rfl | assumption)) (fun _ _ _ _=>(@eO _ _ _ (by exact (@aJ _ _ _ _ _ _ _ _ i7 (@oR _ _ _ _ _ _ _ _ _ (K) rfl DC Gk Gm ib (pv 0) (by rfl) (by rfl)) (@fB _ _ _ (pv 1)) (aM _))))) (fun _ _ _ _=>by (exact (pv 0))) (by intro _ ;rfl) (by rfl) (by first | exact .inl rfl | exact .inr rfl | assumption)) (@ah _ _ _ _ _ (@aC _ _ (4) _ _ _ _ sc.nd rfl (Or.inl rfl) (@bG _ _ _ _ _ (@aa _ _ _ _ _ (@aF _ _ _ _ _ _ _ _ _ _ _ F_way hr (by decide) rfl (@aa _ _ _ _ _ (pv 0) (@aa _ _ _ _ _ (pv 3) af (by rfl)) (by rfl)) (by decide) (by rfl) (by rfl)) (@aa _ _ _ _ _ (@aF _ _ _ _ _ _ _ _ _ _ _ F_way hr (by decide) rfl (@aa _ _ _ _ _ (pv 0) (@aa _ _ _ _ _ (pv 3) af (by rfl)) (by rfl)) (by decide) (by rfl) (by rfl)) af (by rfl)) (by rfl))) (by rfl) (by first | exact .inl rfl | exact .inr rfl | assumption)) (@ah _ _ _ _ _ (@aC _ _ (5) _ _ _ _ sc.nd rfl (Or.inl rfl) (@pD _ _ _ _ _ _ _ _ _ _ _ _ F_cut hr (by decide) dY rfl (@aa _ _ _ _ _ (pv 1) (@aa _ _ _ _ _ (pv 2) af (by rfl)) (by rfl)) (by decide) (by rfl) (by rfl)) (by rfl) (by first | exact .inl rfl | exact .inr rfl | assumption)) (@ah _ _ _ _ _ (@aC _ _ (6) _ _ _ _ sc.nd rfl (Or.inl rfl) (@bu _ _ _ _ _ _ _ _ _ gY (by rfl) T.tuple vi (@aa _ _ _ _ _ (@di _ _ _ _ _ _ _ (["_law_way_here","_law_letter"]) (["_law_way_here"]) ([2]) _ _ _ _ (@cf _ _ _ _ _ _ rfl (by kernel_rfl)) rfl (@nO _ _ _ _ (pv 4)) (fun _ _ _ _=>@aP _ _ (0) _ (show (["_law_way_here","_law_letter"]:List Str).Nodup from by decide +kernel) rfl (Or.inl rfl) (by first | exact .inl rfl | exact .inr rfl | assumption)) (fun _ _ _ _=>bQ) (fun _ _ _ _=>by (exact (@aF _ _ _ _ _ _ _ _ _ _ _ F_cutw hr (by decide) rfl (@aa _ _ _ _ _ (@fB _ _ _ (pv 1)) (@aa _ _ _ _ _ (pv 0) af (by rfl)) (by rfl)) (by decide) (by rfl) (by rfl)))) (by intro _ ;rfl)) af (by rfl)) (by decide) (by decide) (by rfl) (by rfl)) (by rfl) (by first | exact .inl rfl | exact .inr rfl | assumption)) (@ah _ _ _ _ _ (@bV _ _ _ _ _ _ _ _ (@aJ _ _ _ _ _ _ _ _ (@pI _ (by exact hr.units)) (@di _ _ _ _ _ _ _ (["_law_way_here","_law_letter"]) (["_law_way_here"]) ([2]) _ _ _ _ (@cf _ _ _ _ _ _ rfl (by kernel_rfl)) rfl (@nO _ _ _ _ (pv 4)) (fun _ _ _ _=>@aP _ _ (0) _ (show (["_law_way_here","_law_letter"]:List Str).Nodup from by decide +kernel) rfl (Or.inl rfl) (by first | exact .inl rfl | exact .inr rfl | assumption)) (fun _ _ _ _=>bQ) (fun _ _ _ _=>by (exact (@aF _ _ _ _ _ _ _ _ _ _ _ F_cutw hr (by decide) rfl (@aa _ _ _ _ _ (@fB _ _ _ (pv 1)) (@aa _ _ _ _ _ (@aF _ _ _ _ _ _ _ _ _ _ _ F_back hr (by decide) rfl (@aa _ _ _ _ _ (pv 0) af (by rfl)) (by decide) (by rfl) (by rfl)) af (by rfl)) (by rfl)) (by decide) (by rfl) (by rfl)))) (by intro _ ;rfl)) (@di _ _ _ _ _ _ _ (["_law_way_here"]) (["_law_way_here"]) ([]) _ _ _ _ (@cf _ _ _ _ _ _ rfl (by kernel_rfl)) rfl (@nO _ _ _ _ (pv 6)) (fun _ _ _ _=>@aP _ _ (0) _ (show (["_law_way_here"]:List Str).Nodup from by decide +kernel) rfl (Or.inl rfl) (by first | exact .inl rfl | exact .inr rfl | assumption)) (fun _ _ _ _=>bQ) (fun _ _ _ _=>by (exact (@aF _ _ _ _ _ _ _ _ _ _ _ F_lback hr (by decide) rfl (@aa _ _ _ _ _ (pv 0) af (by rfl)) (by decide) (by rfl) (by rfl)))) (by intro _ ;rfl)) (aM _)) (@ak _ _ _ (@aG _ _ _ _ gM)) aX) (@ah _ _ _ _ _ (@ei _ _ _ _ _ _ _ _ PassesOwn.leaving rfl (@uQ _ _ _ _ (@bH _ _ _ _ (@aa _ _ _ _ _ (@bG _ _ _ _ _ (@aa _ _ _ _ _ aj (@aa _ _ _ _ _ aj af (by rfl)) (by rfl))) (@aa _ _ _ _ _ (@bG _ _ _ _ _ (@aa _ _ _ _ _ aj (@aa _ _ _ _ _ aj af (by rfl)) (by rfl))) (@aa _ _ _ _ _ (@bG _ _ _ _ _ (@aa _ _ _ _ _ aj (@aa _ _ _ _ _ aj af (by rfl)) (by rfl))) af (by rfl)) (by rfl)) (by rfl)))) (@xR _ _ _ _ _ _ rfl (@kK _ _ _ _ _ (@aP _ _ (7) _ sc.nd rfl (Or.inl rfl) (by first | exact .inl rfl | exact .inr rfl | assumption)) (@kK _ _ _ _ _ (@aP _ _ (8) _ sc.nd rfl (Or.inl rfl) (by first | exact .inl rfl | exact .inr rfl | assumption)) uP (by rfl)) (by rfl)) (by rfl) (by rfl)) (@ak _ _ _ (@bV _ _ _ _ _ _ _ _ (@aJ _ _ _ _ _ _ _ _ i7 (@aq _ _ _ _ _ _ _ _ _ aH (by rfl) T.len Dq (@aa _ _ _ _ _ (@aF _ _ _ _ _ _ _ _ _ _ _ F_links hr (by decide) rfl (@aa _ _ _ _ _ (pv 1) (@aa _ _ _ _ _ (pv 4) (@aa _ _ _ _ _ (pv 7) (@aa _ _ _ _ _ (pv 8) af (by rfl)) (by rfl)) (by rfl)) (by rfl)) (by decide) (by rfl) (by rfl)) af (by rfl)) (by decide) (by decide) (by rfl) (by rfl)) (@aq _ _ _ _ _ _ _ _ _ aH (by rfl) T.len Dq (@aa _ _ _ _ _ (@aF _ _ _ _ _ _ _ _ _ _ _ F_links hr (by decide) rfl (@aa _ _ _ _ _ (pv 5) (@aa _ _ _ _ _ (pv 6) (@aa _ _ _ _ _ (pv 7) (@aa _ _ _ _ _ (pv 8) af (by rfl)) (by rfl)) (by rfl)) (by rfl)) (by decide) (by rfl) (by rfl)) af (by rfl)) (by decide) (by decide) (by rfl) (by rfl)) (aM _)) (@ak _ _ _ (@aG _ _ _ _ gM)) aX)) (by intro _ ;rfl)) (@ak _ _ _ (@aG _ _ _ _ gM)))))))),?_⟩
  have oL:=wM U m2 hx
  have nld:=fun {l:Addr} {xs:List V} (h:H l=some (.lst xs))=>F.nl h
  refine ⟨_,rfl,_,rfl,?_⟩
  refine bK (own:=["_law_sign"]) (cap:=[2]) (J:=Its (toS u)) u.length (fun j ys σ H'=>∃ v:Option V,σ = [v,some (.tks (toS [x]) t)]∧ys=dz (dP (u.take j) x)∧H'=H) ⟨none,rfl,rfl,rfl⟩ (fun j ys σ H' hj ⟨_,_,e,_⟩=>by
   rw [e,aO]
   have:=Gx (fun y:L=>decide (y.val % 6≠x.val)) (u.take j)
   rw [Dw] at this
   exact DO this (GS _ _)) (by omega) (fun j ys σ H' hj _=>?_) (fun ys σ H' _=>?_) ?_ ?_
  ·show j < (toS u).cps.size;rw [aZ];exact hj
  ·show _=(toS u).cps.size;rw [aZ]
  ·rintro j ys σ H2 zz H3 N' hj ⟨v,rfl,rfl,rfl⟩ ⟨rfl,c,hc,rfl⟩ hN'
   obtain ⟨yy,hy,e⟩:=cb hc
   rw [e]
   refine ⟨_,rfl,rfl,_,rfl,rfl,(by rw [ae];show 1≤5592405;decide),_,rfl,?_⟩
   refine ⟨rfl,_,rfl,?_⟩
   show if (!decide (V.str (Txt.lower (toS [yy]))=V.str (toS [x])))=true then _ else _
   rw [sX hx6 yy]
   have ap:dP (u.take (j+1)) x=dP (u.take j) x++(if decide (yy.val % 6≠x.val)=true then [yy] else []):=by
    rw [bY hy,fU]
    refine DH _ ?_
    unfold dP
    rw [List.filter_cons,List.filter_nil]
   by_cases hb:decide (yy.val % 6≠x.val)=true
   ·rw [if_pos hb] at ap ⊢
    refine ⟨_,rfl,hN' _ _ _ ⟨_,rfl,?_,rfl⟩⟩
    rw [ap,← dA]
    rfl
   ·rw [if_neg hb] at ap ⊢
    refine hN' _ _ _ ⟨_,rfl,?_,rfl⟩
    rw [ap,Ee]
  rintro ys σ H1 l1 ⟨v,rfl,rfl,rfl⟩ nl1
  rw [D6 (Da _)]
  have F1:=F.new (o:=.lst (dz (dP u x))) nl1
  have s1:aA H1 (upd H1 l1 (.lst (dz (dP u x)))):=aA.new nl1
  have f1:(upd H1 l1 (.lst (dz (dP u x)))) l1=some (.lst (dz (dP u x))):=ag
  generalize upd H1 l1 (.lst (dz (dP u x)))=H2 at F1 s1 f1 ⊢
  have oG:∀ w:List L,Rnd w→w.length≤8→(∀ y∈w,y∈dP u x)→Gw m x w:=fun w h1 h2 h3=>⟨⟨h1,h2,fun y hy=>(U.mem y).mp (cJ.mp (h3 y hy)).1⟩,fun y hy=>(cJ.mp (h3 y hy)).2⟩
  refine ⟨_,rfl,_,rfl,d,l1,_,rfl,F1,f1,by omega,by omega,fun w1 H3 r1 c1 i1 F3 sb3=>?_⟩
  refine ⟨_,rfl,_,rfl,d,l1,_,rfl,F3,sb3 _ _ (F1.nl f1) f1,by omega,by omega,fun w2 H4 r2 c2 i2 F4 sb4=>?_⟩
  have G1:=oG w1 r1 c1 i1
  have G2:=oG w2 r2 c2 i2
  have hG:∀ w∈[w1,w2],Gw m x w:=fun w hw=>by
   simp only [Dj,DS,E8] at hw
   rcases hw with rfl | rfl
   ·exact G1
   ·exact G2
  refine ⟨(by show 2≤sizeLine;omega),fun a5 n5=>?_⟩
  have F5:=F4.new (o:=.tup ([w1,w2].map tx)) n5
  have f5:(upd H4 a5 (.tup ([w1,w2].map tx))) a5=some (.tup ([w1,w2].map tx)):=ag
  have sb5:bL d H4 (upd H4 a5 (.tup ([w1,w2].map tx))):=(aA.new n5).b
  change eX (mH 4) _ _ _ (upd H4 a5 (.tup ([w1,w2].map tx)))
  generalize upd H4 a5 (.tup ([w1,w2].map tx))=H5 at F5 f5 sb5 ⊢
  have lW:[w1,w2].length=2:=rfl
  generalize hW:[w1,w2]=W at *
  refine ⟨_,rfl,_,rfl,fun n1 hn1=>⟨u,toS [x],_,rfl,rfl,DO hN hn1,by omega,by omega,(by rw [ae];show 1≤100;decide),fun y h1 h2 h3 h4=>⟨⟨t,rfl,t0,Du tn hn1⟩,fun H6 s6=>?_⟩,fun hc=>?_⟩⟩
  rotate_left
  ·exact (hc.elim (fun z=>by omega) fun z=>z x (by omega) hx6 rfl).elim
  obtain rfl:x=y:=by
   have:=il h4
   simpa using this
  have F6:=F5.same s6
  have f6:=s6 _ _ f5
  have W_at:∀ {i:Nat} {z:V},(W.map tx)[i]? = some z→∃ w,W[i]? = some w∧z=tx w∧w∈W:=fun {i z} hz=>by
   rw [DG] at hz
   cases e:W[i]? with
   | none=>rw [e] at hz;cases hz
   | some w=>rw [e] at hz;exact ⟨w,rfl,(Dp hz).symm,DP e⟩
  refine ⟨_,rfl,a5,rfl,⟨_,SqT.of f6⟩,?_⟩
  refine ir (xs:=W.map tx) (own:=["_law_way_here"]) (cap:=[2]) (fun i ys σ H'=>∃ v:Option V,σ = [v,some (.tks (toS [x]) t)]∧ys=((W.take i).map (List.map (br x))).map tx∧aA H6 H') ⟨none,rfl,rfl,aA.refl _⟩ (fun i ys σ H' _ ⟨_,_,e,_⟩=>by
   rw [e,C4,C4,Dw];exact GS _ _) (by rw [C4];omega) (fun i ys σ H' ⟨_,_,_,s⟩=>SqT.of (s _ _ f6)) ?_ ?_
  ·rintro i ys σ H7 z N' hz ⟨v,rfl,rfl,s7⟩ hN'
   obtain ⟨w,hw,rfl,mw⟩:=W_at hz
   have gw:=hG w mw
   have:=gw.gr.2.1
   refine ⟨_,rfl,_,rfl,x,w,rfl,by omega,fun H8 s8=>?_⟩
   rw [if_neg (qx hx6 gw.off)]
   exact hN' _ _ _ ⟨_,rfl,by rw [FC,hw,DU,DU];rfl,s7.trans s8⟩
  rintro ys σ H7 l7 ⟨v,rfl,rfl,s7⟩ n7
  rw [C4,EB]
  have hx7:x.val < 6:=hx6
  generalize hV:W.map (List.map (br x))=V' at *
  have lV:V'.length=2:=by rw [← hV,C4];exact lW
  refine ⟨l7,_,rfl,.inl ⟨SqL.of ag,fun a8 n8=>?_⟩⟩
  have s8:=((s7.then (o:=.lst (V'.map tx)) n7).then (o:=.tup (V'.map tx)) n8)
  have f8:(upd (upd H7 l7 (.lst (V'.map tx))) a8 (.tup (V'.map tx))) a8=some (.tup (V'.map tx)):=ag
  change eX (mH 6) _ _ _ (upd (upd H7 l7 (.lst (V'.map tx))) a8 (.tup (V'.map tx)))
  generalize upd (upd H7 l7 (.lst (V'.map tx))) a8 (.tup (V'.map tx))=H8 at s8 f8 ⊢
  have f68:=s8 _ _ f6
  refine ⟨_,rfl,a5,rfl,⟨_,SqT.of f68⟩,?_⟩
  refine ir (xs:=W.map tx) (own:=["_law_way_here"]) (cap:=[2]) (fun i ys σ H'=>∃ v:Option V,σ = [v,some (.tks (toS [x]) t)]∧ys=(((W.take i).map bk).map (List.map (br x))).map tx∧aA H8 H') ⟨none,rfl,rfl,aA.refl _⟩ (fun i ys σ H' _ ⟨_,_,e,_⟩=>by
   rw [e,C4,C4,C4,Dw];exact GS _ _) (by rw [C4];omega) (fun i ys σ H' ⟨_,_,_,s⟩=>SqT.of (s _ _ f68)) ?_ ?_
  ·rintro i ys σ H9 z N' hz ⟨v,rfl,rfl,s9⟩ hN'
   obtain ⟨w,hw,rfl,mw⟩:=W_at hz
   have gw:=hG w mw
   have lw:=gw.gr.2.1
   have ob:∀ y∈bk w,y.val % 6≠x.val:=fun y hy=>by
    obtain ⟨z,hz,rfl⟩:=DN.mp (List.mem_reverse.mp hy)
    rw [d3];exact gw.off z hz
   refine ⟨_,rfl,_,rfl,w,rfl,by omega,fun H10 s10=>⟨x,bk w,rfl,by rw [cD];omega,fun H11 s11=>?_⟩⟩
   rw [if_neg (qx hx7 ob)]
   exact hN' _ _ _ ⟨_,rfl,by rw [FC,hw,DU,DU,DU];rfl,(s9.trans s10).trans s11⟩
  rintro ys σ H9 l9 ⟨v,rfl,rfl,s9⟩ n9
  rw [C4,EB]
  have hVb:(W.map bk).map (List.map (br x))=V'.map bk:=by
   rw [← hV,D9,D9]
   exact ED fun w hw=>(zQ hx7 (hG w hw).off).symm
  rw [hVb]
  have s10:=s9.then (o:=.lst ((V'.map bk).map tx)) n9
  have f10:(upd H9 l9 (.lst ((V'.map bk).map tx))) l9=some (.lst ((V'.map bk).map tx)):=ag
  generalize upd H9 l9 (.lst ((V'.map bk).map tx))=H10 at s10 f10 ⊢
  have f810:=s10 _ _ f8
  have V_len:∀ w∈V',w.length≤8:=fun w hw=>by
   rw [← hV] at hw
   obtain ⟨z,hz,rfl⟩:=DN.mp hw
   rw [C4];exact (hG z hz).gr.2.1
  refine ⟨_,rfl,a8,rfl,⟨_,SqT.of f810⟩,?_⟩
  refine ir (xs:=V'.map tx) (own:=["_law_way_here"]) (cap:=[]) (fun i ys σ H'=>∃ v:Option V,σ = [v]∧ys=((V'.take i).map bk).map tx∧aA H10 H') ⟨none,rfl,rfl,aA.refl _⟩ (fun i ys σ H' _ ⟨_,_,e,_⟩=>by
   rw [e,C4,C4,Dw];exact GS _ _) (by rw [C4];omega) (fun i ys σ H' ⟨_,_,_,s⟩=>SqT.of (s _ _ f810)) ?_ ?_
  ·rintro i ys σ H11 z N' hz ⟨v,rfl,rfl,s11⟩ hN'
   rw [DG] at hz
   cases e:V'[i]? with
   | none=>rw [e] at hz;cases hz
   | some w =>
    rw [e] at hz
    cases hz
    have:=V_len w (DP e)
    refine ⟨_,rfl,w,rfl,by omega,fun H12 s12=>hN' _ _ _ ⟨_,rfl,by rw [FC,e,DU,DU];rfl,s11.trans s12⟩⟩
  rintro ys σ H11 l11 ⟨v,rfl,rfl,s11⟩ n11
  rw [C4,EB]
  have s12:=s11.then (o:=.lst ((V'.map bk).map tx)) n11
  have f12:(upd H11 l11 (.lst ((V'.map bk).map tx))) l11=some (.lst ((V'.map bk).map tx)):=ag
  generalize upd H11 l11 (.lst ((V'.map bk).map tx))=H12 at s12 f12 ⊢
  refine ⟨_,_,.lst (s12 _ _ f10) (j3 _),.lst f12 (j3 _),mz _,mz _,(by show PyData.depthAll (dws (V'.map bk))+1≤10;have:=jI (V'.map bk);omega),?_⟩
  refine ⟨_,rfl,(DH (fun b=>b9 _ _ _ _ b _) (show (!PyData.eqvAll (dws (V'.map bk)) (dws (V'.map bk)))=false by rw [jK];rfl)).mpr (j9 ?_)⟩
  refine ⟨(by show 2≤sizeLine;omega),fun p1 np1=>⟨(by show 2≤sizeLine;omega),fun p2 np2=>⟨(by show 2≤sizeLine;omega),fun p3 np3=>⟨(by show 3≤sizeLine;omega),fun l4 nl4=>?_⟩⟩⟩⟩
  obtain ⟨H16,e16⟩:∃ H',H'=upd (upd (upd (upd H12 p1 (.tup [V.int 0,V.int 0])) p2 (.tup [V.int 0,V.int 1])) p3 (.tup [V.int 1,V.int 1])) l4 (.lst [V.ref p1,V.ref p2,V.ref p3]):=⟨_,rfl⟩
  have t1:=(aA.new (o:=.tup [V.int 0,V.int 1]) np2).then (o:=.tup [V.int 1,V.int 1]) np3 |>.then (o:=.lst [V.ref p1,V.ref p2,V.ref p3]) nl4
  have t2:=(aA.new (o:=.tup [V.int 1,V.int 1]) np3).then (o:=.lst [V.ref p1,V.ref p2,V.ref p3]) nl4
  have t3:=aA.new (o:=.lst [V.ref p1,V.ref p2,V.ref p3]) nl4
  have g1:=t1 _ _ (ag (H:=H12) (a:=p1) (o:=.tup [V.int 0,V.int 0]))
  have g2:=t2 _ _ (ag (a:=p2) (o:=.tup [V.int 0,V.int 1]))
  have g3:=t3 _ _ (ag (a:=p3) (o:=.tup [V.int 1,V.int 1]))
  have s16:=(aA.new (o:=.tup [V.int 0,V.int 0]) np1).trans t1
  have g4:H16 l4=some (.lst [V.ref p1,V.ref p2,V.ref p3]):=by rw [e16];exact ag
  rw [← e16] at g1 g2 g3 s16
  rw [← e16]
  have f5a:=s16 _ _ (s12 _ _ (s10 _ _ f68))
  have f8a:=s16 _ _ (s12 _ _ f810)
  have sAll:bL d H1 H16:=fun b o n e=>s16 _ _ (s12 _ _ (s10 _ _ (s8 _ _ (s6 _ _ (sb5 _ _ n (sb4 _ _ n (sb3 _ _ n (s1 _ _ e))))))))
  have F16:=(((F6.same s8).same s10).same s12).same s16
  refine ⟨l4,rfl,⟨_,SqL.of g4⟩,rj (xs:=[V.ref p1,V.ref p2,V.ref p3]) (fun i σ H'=>∃ b7 b8:Option V,σ = [some (.ref d),some (tx u),some (.tks (toS [x]) t),some (.ref l1),some (.ref a5),some (tx (d5 u x)),some (.ref a8),b7,b8]∧aA H16 H') ⟨none,none,rfl,aA.refl _⟩ (fun i σ H' _ ⟨_,_,_,q⟩=>SqL.of (q _ _ g4)) ?_ ?_⟩
  ·rintro i9 z σ H17 hz ⟨b7,b8,rfl,s17⟩
   obtain ⟨pp,i,j,rfl,gp,i0,i1,j0,j1⟩:∃ (pp:Addr) (i j:Int),z = .ref pp∧H16 pp=some (.tup [.int i,.int j])∧0≤i∧i < 2∧0≤j∧j < 2:=by
    have h3:i9 < 3:=(Dd.mp hz).1
    rcases (show i9=0 ∨ i9=1 ∨ i9=2 by omega) with rfl | rfl | rfl
    ·exact ⟨p1,0,0,(Dp hz).symm,g1,by decide,by decide,by decide,by decide⟩
    ·exact ⟨p2,0,1,(Dp hz).symm,g2,by decide,by decide,by decide,by decide⟩
    ·exact ⟨p3,1,1,(Dp hz).symm,g3,by decide,by decide,by decide,by decide⟩
   obtain ⟨hR,hR',eL⟩:=qv U m2 hx hG (by omega) (by omega) (i:=i) (j:=j) i0 (by omega) j0 (by omega)
   rw [hV] at hR' eL
   refine ⟨pp,_,rfl,SqT.of (s17 _ _ gp),rfl,_,_,rfl,_,_,rfl,rfl,?_⟩
   refine ⟨_,rfl,_,rfl,_,rfl,_,rfl,u,a5,m,W,i,j,rfl,U,⟨s17 _ _ f5a,hR⟩,i0,by omega,j0,by omega,fun l18 z18 H18 n18 s18 f18 k18 e18 w18=>⟨l18,_,rfl,.inl (SqL.of f18),?_⟩⟩
   refine ⟨_,rfl,_,rfl,_,rfl,_,rfl,d5 u x,a8,m - 1,V',i,j,rfl,fT U m2 hx,⟨s18 _ _ (s17 _ _ f8a),hR'⟩,i0,by omega,j0,by omega,fun l19 z19 H19 n19 s19 f19 k19 e19 w19=>⟨l19,_,rfl,.inl (SqL.of f19),rfl,_,rfl,?_⟩⟩
   have el:((z18.map (·.1)).map V.ref).length=((z19.map (·.1)).map V.ref).length:=by
    have q1:=e18.length_eq
    have q2:=e19.length_eq
    rw [eL] at q1
    simp only [C4] at q1 q2 ⊢
    omega
   rw [el]
   refine (DH (fun b=>b9 _ _ _ _ b _) (show (!decide (V.int (((z19.map (·.1)).map V.ref).length:Int)=V.int (((z19.map (·.1)).map V.ref).length:Int)))=false by rw [C_ rfl];rfl)).mpr (j9 ?_)
   exact ⟨_,_,rfl,(s17.trans s18).trans s19⟩
  ·rintro σ H17 ⟨b7,b8,rfl,s17⟩
   exact k H17 (F16.same s17) fun b o n e=>s17 _ _ (sAll _ _ n e)
def Cg (st:Stmt)(j:Nat):Stmt:=match st with | .ClassDef (body:=b) ..=>b.getD j (.Pass ⟨0,0,0,0⟩) | _=>.Pass ⟨0,0,0,0⟩
abbrev fW:Stmt:=Cg (top 2) 0
theorem qR:ax ["self","place"] ["self","place"] (ai fW):=⟨rfl,rfl,rfl,by decide +kernel,rfl,by decide +kernel,by decide +kernel⟩
theorem tu {R C f:Addr}{fd:FuncData}(D:Fun K "__init__" "NoSlide.__init__" fW f fd)(B:rX K R)(hR:mg "RingError" = some (.ref R))(x:XAt K C)(n0:PySem.W.findIn K (.ref C) "place" = some none) :
  dS K fd ["self","place"] []∧qS P w K mg base CX0 1 f fd ["self","place"] (lG ["place"] C):=by
 have sc:=qR
 refine ⟨D.binds fun _ _ _ _ _ _ us hl=>match us,hl with | [_,_],_=>rfl,D.ok sc (fun vs H Q E h=>?_) (fun cdv A outer s H vs Q E hr h=>?_)⟩
 ·obtain ⟨a,ys,b,c,rfl,hl,_⟩:=h
  rw [Ds,hl];rfl
 ·obtain ⟨a,ys,b,c,rfl,hl,ea,k⟩:=h
  match ys,hl with
  | [y],_ =>
  refine ⟨_,(@ah _ _ _ _ _ (@dQ _ _ _ _ (@lE _ _ _ _ _ _ _ _ _ _ B rfl hR (@aa _ _ _ _ _ (pv 0) (@aa _ _ _ _ _ aK af (by rfl)) (by rfl)) (by decide) (by rfl) (by rfl) (by rfl)) (by rfl))
   (@ak _ _ _ (@t_ _ _ _ _ _ _ _ _ (pv 0) (pv 1) (by rfl)))),?_⟩
  refine ⟨_,rfl,a,C,none,b,c,[_],rfl,by simp,ea,x,?_⟩
  refine ⟨_,rfl,_,rfl,a,C,b,c,rfl,ea,x,n0,fun dx hdx ne=>?_⟩
  exact k dx hdx ne
abbrev jL:Stmt:=Cg (top 3) 0
theorem tw:ax ["self","letter"] ["self","letter"] (ai jL):=⟨rfl,rfl,rfl,by decide +kernel,rfl,by decide +kernel,by decide +kernel⟩
theorem xD {R C f:Addr}{fd:FuncData}(D:Fun K "__init__" "NoBand.__init__" jL f fd)(B:rX K R)(hR:mg "RingError" = some (.ref R))(x:XAt K C)(n0:PySem.W.findIn K (.ref C) "letter" = some none) :
  dS K fd ["self","letter"] []∧qS P w K mg base CX0 1 f fd ["self","letter"] (lG ["letter"] C):=by
 have sc:=tw
 refine ⟨D.binds fun _ _ _ _ _ _ us hl=>match us,hl with | [_,_],_=>rfl,D.ok sc (fun vs H Q E h=>?_) (fun cdv A outer s H vs Q E hr h=>?_)⟩
 ·obtain ⟨a,ys,b,c,rfl,hl,_⟩:=h
  rw [Ds,hl];rfl
 ·obtain ⟨a,ys,b,c,rfl,hl,ea,k⟩:=h
  match ys,hl with
  | [y],_ =>
  refine ⟨_,(@ah _ _ _ _ _ (@dQ _ _ _ _ (@lE _ _ _ _ _ _ _ _ _ _ B rfl hR (@aa _ _ _ _ _ (pv 0) (@aa _ _ _ _ _ aK af (by rfl)) (by rfl)) (by decide) (by rfl) (by rfl) (by rfl)) (by rfl))
   (@ak _ _ _ (@t_ _ _ _ _ _ _ _ _ (pv 0) (pv 1) (by rfl)))),?_⟩
  refine ⟨_,rfl,a,C,none,b,c,[_],rfl,by simp,ea,x,?_⟩
  refine ⟨_,rfl,_,rfl,a,C,b,c,rfl,ea,x,n0,fun dx hdx ne=>?_⟩
  exact k dx hdx ne
abbrev jM:Stmt:=top 47
theorem Ao:ax ["_law_script","_law_feed_here","_law_k","_law_row","_law_letter"] ["_law_script"] (ai jM):=⟨rfl,rfl,rfl,by decide +kernel,rfl,by decide +kernel,by decide +kernel⟩
theorem BU {f:Addr}{fd:FuncData}{N:Nat}{CB CS:Addr}(D:Fun K "law" "law" jM f fd)(T:Bt K w mg aB)(F_feed:Fnc P w K mg base "_law_feed" ["_law_script"] 1 (oO K))(F_draw:Fnc P w K mg base "_law_draw" ["_law_feed_here","_law_many"] 1 jr)(F_surf:Fnc P w K mg base "_law_surface" ["_law_feed_here","_law_many"] 2 kc)(F_glued:yK P w K mg base "glued" ["surface","place","other"] 3 (iA CB CS))
  (F_hright:qW P w K mg base "_law_holes_right" ["_law_row","_law_letter"] 5 (qN N)) (F_wright:qW P w K mg base "_law_ways_right" ["_law_feed_here","_law_row","_law_letter"] 7 (qP N)):eJ P w K mg base CX0 9 f fd ["_law_script"] (iB K N):=by
 have sc:=Ao
 refine D.okT sc (fun n vs H Q E h=>?_) (fun cdv A outer s H vs Q E hr h=>?_)
 ·obtain ⟨a,ns,rfl,_⟩:=h
  rfl
 ·obtain ⟨a,ns,rfl,hS,hlen,hN0,hN,k⟩:=h
  have l16:=aQ
  refine ⟨_,(@ah _ _ _ _ _ (@aC _ _ (1) _ _ _ _ sc.nd rfl (Or.inl rfl) (@aF _ _ _ _ _ _ _ _ _ _ _ F_feed hr (by decide) rfl (@aa _ _ _ _ _ (pv 0) af (by rfl)) (by decide) (by rfl) (by rfl)) (by rfl) (by first | exact .inl rfl | exact .inr rfl | assumption)) (@ah _ _ _ _ _ (@ei _ _ _ _ _ _ _ _ Et rfl (@bt _ _ _ _ _ _ rfl T.range (@aa _ _ _ _ _ aj af (by rfl)) (by rfl)) (@aP _ _ (2) _ sc.nd rfl (Or.inl rfl) (by first | exact .inl rfl | exact .inr rfl | assumption)) (@ah _ _ _ _ _ (@aC _ _ (3) _ _ _ _ sc.nd rfl (Or.inl rfl) (@aF _ _ _ _ _ _ _ _ _ _ _ F_surf hr (by decide) rfl (@aa _ _ _ _ _ (pv 1) (@aa _ _ _ _ _ (@aI _ _ _ _ _ _ _ _ bA aj (@aF _ _ _ _ _ _ _ _ _ _ _ F_draw hr (by decide) rfl (@aa _ _ _ _ _ (pv 1) (@aa _ _ _ _ _ aj af (by rfl)) (by rfl)) (by decide) (by rfl) (by rfl))) af (by rfl)) (by rfl)) (by decide) (by rfl) (by rfl)) (by rfl) (by first | exact .inl rfl | exact .inr rfl | assumption)) (@ah _ _ _ _ _ (@aC _ _ (3) _ _ _ _ sc.nd rfl (Or.inl rfl) (@ua _ _ _ _ _ _ _ _ _ _ _ _ F_glued hr (by decide) fE rfl (@aa _ _ _ _ _ (pv 3) (@aa _ _ _ _ _ (@aF _ _ _ _ _ _ _ _ _ _ _ F_draw hr (by decide) rfl (@aa _ _ _ _ _ (pv 1) (@aa _ _ _ _ _ (@aI _ _ _ _ _ _ _ _ bA (@aq _ _ _ _ _ _ _ _ _ ao (by rfl) T.len Dq (@aa _ _ _ _ _ (pv 3) af (by rfl)) (by decide) (by decide) (by rfl) (by rfl)) aj) af (by rfl)) (by rfl)) (by decide) (by rfl) (by rfl)) (@aa _ _ _ _ _ (@aF _ _ _ _ _ _ _ _ _ _ _ F_draw hr (by decide) rfl (@aa _ _ _ _ _ (pv 1) (@aa _ _ _ _ _ (@aI _ _ _ _ _ _ _ _ bA (@aq _ _ _ _ _ _ _ _ _ ao (by rfl) T.len Dq (@aa _ _ _ _ _ (pv 3) af (by rfl)) (by decide) (by decide) (by rfl) (by rfl)) aj) af (by rfl)) (by rfl)) (by decide) (by rfl) (by rfl)) af (by rfl)) (by rfl)) (by rfl)) (by decide) (by rfl) (by rfl)) (by rfl) (by first | exact .inl rfl | exact .inr rfl | assumption)) (@ak _ _ _ (vM (k:=4) Et rfl (@ba _ _ _ _ _ _ _ _ _ _ c6 aK bx (@bh _ _ _ (@aI _ _ _ _ _ _ _ _ bR (@aq _ _ _ _ _ _ _ _ _ ao (by rfl) T.len Dq (@aa _ _ _ _ _ (pv 3) af (by rfl)) (by decide) (by decide) (by rfl) (by rfl)) aj))) sc.nd rfl (Or.inl rfl) (by first | exact .inl rfl | exact .inr rfl | assumption))))) (by intro _ ;rfl)) (@ak _ _ _ (@aG _ _ _ _ gM)))),?_⟩
  refine ⟨_,rfl,a,ns,rfl,hS,hlen,fun d H1 _ F1 s1=>?_⟩
  refine ⟨_,rfl,by decide,by decide,ck (lo:=0) (n:=2) (fun i σ H'=>∃ (b2 b3 b4:Option V),σ = [some (.ref a),some (.ref d),b2,b3,b4]∧Fd H' d) ⟨none,none,none,rfl,F1⟩ ?_ ?_⟩
  rotate_left
  ·rintro σ H2 ⟨b2,b3,b4,rfl,F2⟩
   exact k _
  rintro i σ H2 hi ⟨b2,b3,b4,rfl,F2⟩
  refine ⟨_,rfl,_,rfl,d,_,rfl,F2,by decide,by decide,fun r H3 r0 r1 F3 sb3=>⟨_,_,rfl,rfl,?_⟩⟩
  obtain ⟨m,rfl⟩:=D1 r0
  rw [show 1+(m:Int)=((m+1:Nat):Int) by omega]
  refine ⟨d,m+1,rfl,F3,by omega,by omega,fun u H4 R hall F4 sb4=>?_⟩
  have hlu:=R.len
  have lu:=ae u
  refine ⟨_,rfl,_,rfl,_,rfl,toS u,rfl,by omega,_,_,rfl,rfl,d,_,rfl,F4,by omega,by omega,fun q H5 q0 q1 F5 sb5=>?_⟩
  refine ⟨_,rfl,_,rfl,toS u,rfl,by omega,_,_,rfl,rfl,d,_,rfl,F5,by omega,by omega,fun q' H6 q0' q1' F6 sb6=>?_⟩
  refine ⟨u,q,q',rfl,by omega,by omega,fun w9 hw H7 s7=>?_,fun hb=>?_,fun k hb=>?_⟩
  rotate_left
  ·rw [fF (by omega) ⟨by omega,by omega⟩ ⟨by omega,by omega⟩] at hb;cases hb
  ·rw [fF (by omega) ⟨by omega,by omega⟩ ⟨by omega,by omega⟩] at hb;cases hb
  rw [fF (by omega) ⟨by omega,by omega⟩ ⟨by omega,by omega⟩,show u.length / 2=m+1 by omega] at hw
  cases hw
  have UV:=zP (p:=q.toNat) (q:=q'.toNat) R (by omega) (by omega)
  have hlv:=UV.len
  have F7:=F6.same s7
  generalize gluW u q.toNat q'.toNat (m+1)=v at UV hlv ⊢
  have lv:=ae v
  have asc:∀ k:Fin 7,((toS (sml ((k.val:Nat):Int))).cps.all fun x=>decide (x < 128))=true:=by decide +kernel
  refine ⟨⟨_,rfl,toS v,rfl,by omega,_,_,rfl,rfl,⟨by decide,by decide⟩,_,rfl,_,rfl,(by rw [lh];omega),?_⟩⟩
  rw [show ((toS v).length:Int) / 2=((m+2:Nat):Int) by omega,jG (by omega)]
  refine ⟨_,rfl,asc ⟨m+2,by omega⟩,fun j σ H'=>∃ b4:Option V,σ = [some (.ref a),some (.ref d),some (.int (0+(i:Int))),some (tx v),b4]∧Fd H' d,⟨b4,rfl,F7⟩,?_,fun σ H' ⟨b4',e,F'⟩=>⟨_,_,_,e,F'⟩⟩
  rintro j σ H8 c hc ⟨b4',rfl,F8⟩ n9 t9 l1 l2
  obtain ⟨x,hx,e⟩:=cb hc
  rw [e]
  have l1:s.toks≤t9:=l1
  have mem_sml7:∀ (k:Fin 7) (x:L),x∈sml ((k.val:Nat):Int)→x.val < k.val∧x.val < 6:=by decide +kernel
  obtain ⟨hx1,hx6⟩:=mem_sml7 ⟨m+2,by omega⟩ x (DP hx)
  refine ⟨_,(@ak _ _ _ (@bV _ _ _ _ _ _ _ _ (@PW.pt _ _ _ (@nJ _ _ _ _ _ _ _ (@kJ _ _ _ _ (@cK _ _ _ (@pM _ E0 _ _ _ _ (n9) _ _ _ _ _ _ rfl F_hright hr (by decide) fE rfl (@aa _ _ _ _ _ (pv 3) (@aa _ _ _ _ _ (pv 4) af (by rfl)) (by rfl)) (by decide) (by rfl) (by rfl)) (fun _=>rfl))) (@i6 _ _ _ _ (@kJ _ _ _ _ (@cK _ _ _ (@pM _ E0 _ _ _ _ (n9) _ _ _ _ _ _ rfl F_wright hr (by decide) fE rfl (@aa _ _ _ _ _ (pv 1) (@aa _ _ _ _ _ (pv 3) (@aa _ _ _ _ _ (pv 4) af (by rfl)) (by rfl)) (by rfl)) (by decide) (by rfl) (by rfl)) (fun _=>rfl)))))) (@ak _ _ _ (@aG _ _ _ _ gM)) aX)),?_⟩
  have t0:0 < t9:=Du hN0 (DO hN l1)
  have hN9:N≤n9:=DO hN (DO l1 (GY l2))
  refine ⟨_,rfl,_,rfl,fun n10 l10=>⟨v,m+2,x,t9,rfl,hN0,DO hN9 l10,t0,Du l2 l10,UV,by omega,hx1,fun H9 s9=>?_⟩⟩
  have F9:=F8.same s9
  refine ⟨true,rfl,nkT (yR ?_)⟩
  refine ⟨_,rfl,_,rfl,_,rfl,fun n11 l11=>⟨d,v,m+2,x,t9,rfl,F9,hN0,DO hN9 l11,t0,Du l2 l11,UV,by omega,hx1,fun H10 F10 sb10=>?_⟩⟩
  exact ⟨true,rfl,nkT (j9 ⟨_,rfl,F10⟩)⟩
end
theorem BV {K:PySem.W.Frag}{h:Heap}{mg:Str→Option Value}{x:Str}{st:Stmt}{f:Addr}{oc:Value}{od an:Option Addr}{osl:Array (Option Value)}{kV doc pm cdv ct:Value}(X:K.In h)(G:h.Ns mainGlobals mg)(a:PySem.W.nsIn K mainGlobals x=some (some (.ref f)))
  (l:K.lookup f=some ⟨oc,od,.func (PySem.W.fnOf x x (bo st) (aY st) (ai st) .none kV doc pm an cdv ct),osl⟩) (c:PySem.W.codeIn K cdv x=true) (k:PySem.W.keepIn K (.ref f)=true):Df K mg x st:=⟨f,_,E3 X G a,kX l c k⟩
inductive DI (K:PySem.W.Frag)(x:Str)(st:Stmt):Prop
 | mk {f:Addr} {oc:Value} {od an:Option Addr} {osl:Array (Option Value)} {kV doc pm cdv ct:Value} (a:PySem.W.nsIn K mainGlobals x=some (some (.ref f))) (l:K.lookup f=some ⟨oc,od,.func (PySem.W.fnOf x x (bo st) (aY st) (ai st) .none kV doc pm an cdv ct),osl⟩) (c:PySem.W.codeIn K cdv x=true) (k:PySem.W.keepIn K (.ref f)=true):DI K x st
theorem DI.df {K:PySem.W.Frag}{h:Heap}{mg:Str→Option Value}{x:Str}{st:Stmt}(d:DI K x st)(X:K.In h)(G:h.Ns mainGlobals mg):Df K mg x st:=by
 cases d with
 | mk a l c k=>exact BV X G a l c k
inductive DL where
 | n
 | c (x:Str) (st:Stmt) (r:DL)
def DIs (K:PySem.W.Frag):DL→Prop
 | .n=>True
 | .c x st r=>DI K x st∧DIs K r
theorem DIs.on {K:PySem.W.Frag}{x:Str}{st:Stmt}{r:DL}{f:Addr}{oc:Value}{od an:Option Addr}{osl:Array (Option Value)}{kV doc pm cdv ct:Value}(a:PySem.W.nsIn K mainGlobals x=some (some (.ref f)))(l:K.lookup f=some ⟨oc,od,.func (PySem.W.fnOf x x (bo st) (aY st) (ai st) .none kV doc pm an cdv ct),osl⟩)(c:PySem.W.codeIn K cdv x=true)(k:PySem.W.keepIn K (.ref f)=true)(hr:DIs K r):DIs K (.c x st r):=⟨.mk a l c k,hr⟩
theorem Ap {l:PySem.W.OpenLaw}{w:World}{K:PySem.W.Frag}{h:Heap}{mg:Str→Option Value}{fa:Addr}(X:K.In h)(G:h.Ns mainGlobals mg)(hfa:mg "law" = some (.ref fa))
  {f33:Addr} {od33 an33:Option Addr} {sl33:Array (Option Value)} {oc33 kV33 dc33 pm33 cd33 ct33:Value} {N:Nat} {aB:Addr} {es:Array DictEntry} {en:Nat} {tS:Tok} {tE:Tok}   {CR:Addr} {ddCR:Option Addr} {cdCR:ClassData} {sCR0 sCR1 sCR2 sCR3 sCR5:Option Value}         {nsCR:Addr} {onCR:Value} {dnCR:Option Addr} {esCR:Array DictEntry} {nnCR:Nat} {snCR:Array (Option Value)}         {CT:Addr} {ddCT:Option Addr} {cdCT:ClassData} {sCT0 sCT1 sCT2 sCT3 sCT5:Option Value}          {fCT:Addr} {ocCT kVCT dcCT pmCT cvCT ctCT:Value} {odCT anCT:Option Addr} {slCT:Array (Option Value)}    {CB:Addr} {ddCB:Option Addr} {cdCB:ClassData} {sCB0 sCB1 sCB2 sCB3 sCB5:Option Value}          {fCB:Addr} {ocCB kVCB dcCB pmCB cvCB ctCB:Value} {odCB anCB:Option Addr} {slCB:Array (Option Value)}    {t0 t1 t2 t3 t4 t5 t6 t7 t8 t9 t10 t11:Tok}
  (hs:DIs K (.c "number_of" wV <| .c "back" mF <| .c "letters_of" wY <| .c "round_from" BG <| .c "are_met_by_turns" xt <| .c "cut" sZ <| .c "cut_word" qG <| .c "lowered" qE <| .c "lower_letter" wW <| .c "glued" iY <| .c "put_in" w6 <| .c "holes" kE <| .c "hole_from" qH <| .c "handles" fV <| .c "met" qJ <| .c "links" kF <| .c "links_at" xv <| .c "beside_at" xu <| .c "chord_ends" BJ <| .c "along_at" xp <| .c "against_at" xq <| .c "stretch" xk <| .c "is_parted" qK <| .c "is_first" xj <| .c "_law_feed" qz <| .c "_law_draw" qy <| .c "_law_back" kC <| .c "_law_reduced" qL <| .c "_law_middle" xB <| .c "_law_surface" qF <| .c "_law_way" xC <| .c "_law_holes_right" iZ <| .c "_law_ways_right" i3 <| .n))
  (a33:PySem.W.nsIn K mainGlobals "law" = some (some (.ref f33)))
  (l33:K.lookup f33=some ⟨oc33,od33,.func (PySem.W.fnOf "law" "law" (bo jM) (aY jM) (ai jM) .none kV33 dc33 pm33 an33 cd33 ct33),sl33⟩)
  (c33:PySem.W.codeIn K cd33 "law" = true)
  (k33:PySem.W.keepIn K (.ref f33)=true)
  (z_len:PySem.W.nsIn K mainGlobals "len" = some none)
  (z_repr:PySem.W.nsIn K mainGlobals "repr" = some none)
  (z_abs:PySem.W.nsIn K mainGlobals "abs" = some none)
  (z_max:PySem.W.nsIn K mainGlobals "max" = some none)
  (z_int:PySem.W.nsIn K mainGlobals "int" = some none)
  (z_list:PySem.W.nsIn K mainGlobals "list" = some none)
  (z_range:PySem.W.nsIn K mainGlobals "range" = some none)
  (z_reversed:PySem.W.nsIn K mainGlobals "reversed" = some none)
  (z_min:PySem.W.nsIn K mainGlobals "min" = some none)
  (z_sorted:PySem.W.nsIn K mainGlobals "sorted" = some none)
  (z_tuple:PySem.W.nsIn K mainGlobals "tuple" = some none)
  (z_isinstance:PySem.W.nsIn K mainGlobals "isinstance" = some none)
  (z_all:PySem.W.nsIn K mainGlobals "all" = some none)
  (z_str:PySem.W.nsIn K mainGlobals "str" = some none)
  (z_zip:PySem.W.nsIn K mainGlobals "zip" = some none)
  (aBk:PySem.W.nsIn K mainGlobals "BACKS" = some (some (.ref aB)))
  (lB:K.lookup aB=some ⟨.type "dict",none,.dict es en,#[]⟩)
  (kB:PySem.W.KeysLit w.params es.toList)
  (aS:PySem.W.nsIn K mainGlobals "SMALL" = some (some (.str "abcdef" tS)))
  (aE:PySem.W.nsIn K mainGlobals "MOST_ENDS" = some (some (.int 12 tE)))
  (zV:PySem.W.nsIn K mainGlobals "ValueError" = some none)
  (zS:PySem.W.nsIn K mainGlobals "set" = some none)
  (aCR:PySem.W.nsIn K mainGlobals "RingError" = some (some (.ref CR)))
  (lCR:K.lookup CR=some ⟨.type "type",ddCR,.cls cdCR,#[sCR0,sCR1,sCR2,sCR3,some (.builtin "ValueError.__new__"),sCR5]⟩)
  (mCR:cdCR.mro = .ref CR::bmV)
  (eCR:cdCR.hasDel=false)
  (dCR:cdCR.hasDict=true)
  (kCR:PySem.W.keepIn K (.ref CR)=true)
  (saCR:PySem.W.findIn K (.ref CR) "__setattr__" = some (some (.builtin "object.__setattr__")))
  (gaCR:PySem.W.findIn K (.ref CR) "__getattribute__" = some (some (.builtin "BaseException.__getattribute__")))
  (gnCR:PySem.W.findIn K (.ref CR) "__getattr__" = some (none))
  (caCR:PySem.W.findIn K (.ref CR) "__class__" = some (some (.builtin "object.__class__")))
  (nCR:cdCR.ns=nsCR)
  (oCR:K.lookup nsCR=some ⟨onCR,dnCR,.dict esCR nnCR,snCR⟩)
  (pCR:(esCR.toList.all fun e=>match e.key with | .str _ _=>true | _=>false)=true)
  (qCR:PySem.W.nsIn K nsCR "__init__" = some none)
  (rdCR:PySem.W.readsIn K CR (.type "type")=true)
  (atCR:PySem.W.findCls K (.ref CR) (.type "type") "__init__" = some (.val (.builtin "ValueError.__init__")))
  (gtCR:PySem.W.specialIn K (.ref CR) "__getattribute__" = some (some (.builtin "type.__getattribute__")))
  (hdI:PySem.W.handedIn (.builtin "ValueError.__init__")=true)
  (cgt:PySem.W.specialIn K (.builtin "object.__class__") "__get__" = some (some (.builtin "getset_descriptor.__get__")))
  (ctk:PySem.W.takesIn K (.builtin "object.__class__")=some true)
  (aCT:PySem.W.nsIn K mainGlobals "NoSlide" = some (some (.ref CT)))
  (lCT:K.lookup CT=some ⟨.type "type",ddCT,.cls cdCT,#[sCT0,sCT1,sCT2,sCT3,some (.builtin "ValueError.__new__"),sCT5]⟩)
  (mCT:cdCT.mro = .ref CT :: .ref CR::bmV)
  (eCT:cdCT.hasDel=false)
  (dCT:cdCT.hasDict=true)
  (kCT:PySem.W.keepIn K (.ref CT)=true)
  (saCT:PySem.W.findIn K (.ref CT) "__setattr__" = some (some (.builtin "object.__setattr__")))
  (gaCT:PySem.W.findIn K (.ref CT) "__getattribute__" = some (some (.builtin "BaseException.__getattribute__")))
  (gnCT:PySem.W.findIn K (.ref CT) "__getattr__" = some (none))
  (caCT:PySem.W.findIn K (.ref CT) "__class__" = some (some (.builtin "object.__class__")))
  (xCT0:PySem.W.findIn K (.ref CT) "place" = some none)
  (iCT:PySem.W.findIn K (.ref CT) "__init__" = some (some (.ref fCT)))
  (uCT:K.lookup fCT=some ⟨ocCT,odCT,.func (PySem.W.fnOf "__init__" "NoSlide.__init__" (bo fW) (aY fW) (ai fW) .none kVCT dcCT pmCT anCT cvCT ctCT),slCT⟩)
  (vCT:PySem.W.codeIn K cvCT "NoSlide.__init__" = true)
  (wCT:PySem.W.keepIn K (.ref fCT)=true)
  (jCT:PySem.W.isFn K (.ref fCT)=true)
  (aCB:PySem.W.nsIn K mainGlobals "NoBand" = some (some (.ref CB)))
  (lCB:K.lookup CB=some ⟨.type "type",ddCB,.cls cdCB,#[sCB0,sCB1,sCB2,sCB3,some (.builtin "ValueError.__new__"),sCB5]⟩)
  (mCB:cdCB.mro = .ref CB :: .ref CR::bmV)
  (eCB:cdCB.hasDel=false)
  (dCB:cdCB.hasDict=true)
  (kCB:PySem.W.keepIn K (.ref CB)=true)
  (saCB:PySem.W.findIn K (.ref CB) "__setattr__" = some (some (.builtin "object.__setattr__")))
  (gaCB:PySem.W.findIn K (.ref CB) "__getattribute__" = some (some (.builtin "BaseException.__getattribute__")))
  (gnCB:PySem.W.findIn K (.ref CB) "__getattr__" = some (none))
  (caCB:PySem.W.findIn K (.ref CB) "__class__" = some (some (.builtin "object.__class__")))
  (xCB0:PySem.W.findIn K (.ref CB) "letter" = some none)
  (iCB:PySem.W.findIn K (.ref CB) "__init__" = some (some (.ref fCB)))
  (uCB:K.lookup fCB=some ⟨ocCB,odCB,.func (PySem.W.fnOf "__init__" "NoBand.__init__" (bo jL) (aY jL) (ai jL) .none kVCB dcCB pmCB anCB cvCB ctCB),slCB⟩)
  (vCB:PySem.W.codeIn K cvCB "NoBand.__init__" = true)
  (wCB:PySem.W.keepIn K (.ref fCB)=true)
  (jCB:PySem.W.isFn K (.ref fCB)=true)
  (gl0:PySem.W.nsIn K aB "a" = some (some (.str "A" t0)))
  (gl1:PySem.W.nsIn K aB "b" = some (some (.str "B" t1)))
  (gl2:PySem.W.nsIn K aB "c" = some (some (.str "C" t2)))
  (gl3:PySem.W.nsIn K aB "d" = some (some (.str "D" t3)))
  (gl4:PySem.W.nsIn K aB "e" = some (some (.str "E" t4)))
  (gl5:PySem.W.nsIn K aB "f" = some (some (.str "F" t5)))
  (gl6:PySem.W.nsIn K aB "A" = some (some (.str "a" t6)))
  (gl7:PySem.W.nsIn K aB "B" = some (some (.str "b" t7)))
  (gl8:PySem.W.nsIn K aB "C" = some (some (.str "c" t8)))
  (gl9:PySem.W.nsIn K aB "D" = some (some (.str "d" t9)))
  (gl10:PySem.W.nsIn K aB "E" = some (some (.str "e" t10)))
  (gl11:PySem.W.nsIn K aB "F" = some (some (.str "f" t11)))
  (tb0:0 < t0∧t0 < N)
  (tb1:0 < t1∧t1 < N)
  (tb2:0 < t2∧t2 < N)
  (tb3:0 < t3∧t3 < N)
  (tb4:0 < t4∧t4 < N)
  (tb5:0 < t5∧t5 < N)
  (tb6:0 < t6∧t6 < N)
  (tb7:0 < t7∧t7 < N)
  (tb8:0 < t8∧t8 < N)
  (tb9:0 < t9∧t9 < N)
  (tb10:0 < t10∧t10 < N)
  (tb11:0 < t11∧t11 < N) :
  ∃ fd:FuncData,(∀ (s:Shared) (v:Value),BindsTo s fd ⟨[v],[]⟩ [("_law_script",v)])∧∀ base:Heap,K.In base→base.Ns mainGlobals mg→eJ l.prog w K mg base CX0 9 fa fd ["_law_script"] (iB K N):=by
 have e:=hfa.symm.trans (E3 X G a33)
 cases e
 have gB:∀ x:L,∃ t,PySem.W.nsIn K aB (toS [x])=some (some (.str (toS [inv x]) t)):=by
  have q:∀ (x:L) (u v:Str) (t:Tok),PySem.W.nsIn K aB u=some (some (.str v t))→toS [x]=u→toS [inv x]=v→∃ t,PySem.W.nsIn K aB (toS [x])=some (some (.str (toS [inv x]) t)):=fun x u v t g e1 e2=>⟨t,by rw [e1,e2];exact g⟩
  intro x
  match x with
  | ⟨0,_⟩=>exact q 0 "a" "A" _ gl0 (by decide +kernel) (by decide +kernel)
  | ⟨1,_⟩=>exact q 1 "b" "B" _ gl1 (by decide +kernel) (by decide +kernel)
  | ⟨2,_⟩=>exact q 2 "c" "C" _ gl2 (by decide +kernel) (by decide +kernel)
  | ⟨3,_⟩=>exact q 3 "d" "D" _ gl3 (by decide +kernel) (by decide +kernel)
  | ⟨4,_⟩=>exact q 4 "e" "E" _ gl4 (by decide +kernel) (by decide +kernel)
  | ⟨5,_⟩=>exact q 5 "f" "F" _ gl5 (by decide +kernel) (by decide +kernel)
  | ⟨6,_⟩=>exact q 6 "A" "a" _ gl6 (by decide +kernel) (by decide +kernel)
  | ⟨7,_⟩=>exact q 7 "B" "b" _ gl7 (by decide +kernel) (by decide +kernel)
  | ⟨8,_⟩=>exact q 8 "C" "c" _ gl8 (by decide +kernel) (by decide +kernel)
  | ⟨9,_⟩=>exact q 9 "D" "d" _ gl9 (by decide +kernel) (by decide +kernel)
  | ⟨10,_⟩=>exact q 10 "E" "e" _ gl10 (by decide +kernel) (by decide +kernel)
  | ⟨11,_⟩=>exact q 11 "F" "f" _ gl11 (by decide +kernel) (by decide +kernel)
 have T:Bt K w mg aB:=⟨DV X G z_len,DV X G z_repr,DV X G z_abs,DV X G z_max,DV X G z_int,DV X G z_list,DV X G z_range,DV X G z_reversed,DV X G z_min,DV X G z_sorted,DV X G z_tuple,DV X G z_isinstance,DV X G z_all,DV X G z_str,DV X G z_zip,E3 X G aBk,⟨es,en,lB,kB⟩,gB⟩
 have S:∃ t,mg "SMALL" = some (.str "abcdef" t):=⟨_,E3 X G aS⟩
 have ME:∃ t,mg "MOST_ENDS" = some (.int 12 t):=⟨_,E3 X G aE⟩
 have gT:∀ x:L,∃ t,0 < t∧t < N∧PySem.W.nsIn K aB (toS [x])=some (some (.str (toS [inv x]) t)):=by
  have q:∀ (x:L) (u v:Str) (t:Tok),PySem.W.nsIn K aB u=some (some (.str v t))→(0 < t∧t < N)→toS [x]=u→toS [inv x]=v→∃ t,0 < t∧t < N∧PySem.W.nsIn K aB (toS [x])=some (some (.str (toS [inv x]) t)):=fun x u v t g b e1 e2=>⟨t,b.1,b.2,by rw [e1,e2];exact g⟩
  intro x
  match x with
  | ⟨0,_⟩=>exact q 0 "a" "A" _ gl0 tb0 (by decide +kernel) (by decide +kernel)
  | ⟨1,_⟩=>exact q 1 "b" "B" _ gl1 tb1 (by decide +kernel) (by decide +kernel)
  | ⟨2,_⟩=>exact q 2 "c" "C" _ gl2 tb2 (by decide +kernel) (by decide +kernel)
  | ⟨3,_⟩=>exact q 3 "d" "D" _ gl3 tb3 (by decide +kernel) (by decide +kernel)
  | ⟨4,_⟩=>exact q 4 "e" "E" _ gl4 tb4 (by decide +kernel) (by decide +kernel)
  | ⟨5,_⟩=>exact q 5 "f" "F" _ gl5 tb5 (by decide +kernel) (by decide +kernel)
  | ⟨6,_⟩=>exact q 6 "A" "a" _ gl6 tb6 (by decide +kernel) (by decide +kernel)
  | ⟨7,_⟩=>exact q 7 "B" "b" _ gl7 tb7 (by decide +kernel) (by decide +kernel)
  | ⟨8,_⟩=>exact q 8 "C" "c" _ gl8 tb8 (by decide +kernel) (by decide +kernel)
  | ⟨9,_⟩=>exact q 9 "D" "d" _ gl9 tb9 (by decide +kernel) (by decide +kernel)
  | ⟨10,_⟩=>exact q 10 "E" "e" _ gl10 tb10 (by decide +kernel) (by decide +kernel)
  | ⟨11,_⟩=>exact q 11 "F" "f" _ gl11 tb11 (by decide +kernel) (by decide +kernel)
 have XCR:XCl K CR bmV:=o7 lCR mCR eCR dCR fw kCR
 have ACR:XAt K CR:=⟨⟨_,XCR⟩,saCR,gaCR,gnCR⟩
 have GCR:mg "RingError" = some (.ref CR):=E3 X G aCR
 have BCR:rX K CR:=⟨rdCR,atCR,gtCR,hdI⟩
 have XCT:XCl K CT (.ref CR::bmV):=o7 lCT mCT eCT dCT (lF lCR (by rw [nCR];exact oZ oCR pCR) (by rw [nCR];exact qCR) fw) kCT
 have ACT:XAt K CT:=⟨⟨_,XCT⟩,saCT,gaCT,gnCT⟩
 have CCT:XCa K CT:=⟨ACT,caCT,cgt,ctk⟩
 have ICT:=fun base:Heap=>tu (P:=l.prog) (w:=w) (mg:=mg) (base:=base) (kX uCT vCT wCT) BCR GCR ACT xCT0
 have MCT:∀ base:Heap,XMk l.prog w K mg base "NoSlide" CT ["place"] 1:=fun base=>⟨E3 X G aCT,CCT,by intro f hf;simp only [Dj,DS,E8] at hf;rcases hf with rfl <;> assumption,⟨_,_,_,XCT,iCT,jCT,(ICT base).1,(ICT base).2⟩⟩
 have XCB:XCl K CB (.ref CR::bmV):=o7 lCB mCB eCB dCB (lF lCR (by rw [nCR];exact oZ oCR pCR) (by rw [nCR];exact qCR) fw) kCB
 have ACB:XAt K CB:=⟨⟨_,XCB⟩,saCB,gaCB,gnCB⟩
 have CCB:XCa K CB:=⟨ACB,caCB,cgt,ctk⟩
 have ICB:=fun base:Heap=>xD (P:=l.prog) (w:=w) (mg:=mg) (base:=base) (kX uCB vCB wCB) BCR GCR ACB xCB0
 have MCB:∀ base:Heap,XMk l.prog w K mg base "NoBand" CB ["letter"] 1:=fun base=>⟨E3 X G aCB,CCB,by intro f hf;simp only [Dj,DS,E8] at hf;rcases hf with rfl <;> assumption,⟨_,_,_,XCB,iCB,jCB,(ICB base).1,(ICB base).2⟩⟩
 have Tset:mg "set" = none:=DV X G zS
 refine ⟨PySem.W.fnOf "law" "law" (bo jM) (aY jM) (ai jM) .none kV33 dc33 pm33 an33 cd33 ct33,fun s v=>.of_eq rfl,fun base _ _=>?_⟩
 obtain ⟨h0,h1,h2,h3,h4,h5,h6,h7,h8,h9,h10,h11,h12,h13,h14,h15,h16,h17,h18,h19,h20,h21,h22,h23,h24,h25,h26,h27,h28,h29,h30,h31,h32,_⟩:=hs
 have F_num:=Bz (P:=l.prog) (w:=w) (base:=base) (h0.df X G) T S
 have F_back:=zU (P:=l.prog) (w:=w) (base:=base) (h1.df X G) T
 have F_backT:=wR (P:=l.prog) (w:=w) (base:=base) (h1.df X G) T gT
 have F_let:=BC (P:=l.prog) (w:=w) (base:=base) (h2.df X G) T S
 have F_low:=BB (P:=l.prog) (w:=w) (base:=base) (h8.df X G) T S F_num F_back
 have F_lowd:=zZ (P:=l.prog) (w:=w) (base:=base) (h7.df X G) T F_low
 have F_cut:=BE (P:=l.prog) (w:=w) (base:=base) (h5.df X G) T (MCB _) F_let F_backT F_lowd
 have F_cutw:=z_ (P:=l.prog) (w:=w) (base:=base) (h6.df X G) T F_back F_lowd
 have F_put:=BF (P:=l.prog) (w:=w) (base:=base) (h10.df X G)
 have F_glued:=w_ (P:=l.prog) (w:=w) (base:=base) (h9.df X G) T S ME (MCB _) (MCT _) F_put F_back
 have F_hole:=Ab (P:=l.prog) (w:=w) (base:=base) (h12.df X G) T F_back
 have F_holes:=xh (P:=l.prog) (w:=w) (base:=base) (h11.df X G) T F_hole
 have F_handles:=qI (P:=l.prog) (w:=w) (base:=base) (h13.df X G) T F_holes
 have F_mets:=Ac (P:=l.prog) (w:=w) (base:=base) (h14.df X G) T F_back
 have F_rf:=C1 (P:=l.prog) (w:=w) (base:=base) (h3.df X G) T
 have F_fst:=BI (P:=l.prog) (w:=w) (base:=base) (h23.df X G) T F_rf
 have F_ce:=C2 (P:=l.prog) (w:=w) (base:=base) (h18.df X G) T F_back F_mets
 have F_str:=BL (P:=l.prog) (w:=w) (base:=base) (h21.df X G) T F_mets
 have F_part:=Af (P:=l.prog) (w:=w) (base:=base) (h22.df X G) T F_back F_mets F_fst
 have F_alg:=BM (P:=l.prog) (w:=w) (base:=base) (h19.df X G) T F_str F_part
 have F_agn:=BN (P:=l.prog) (w:=w) (base:=base) (h20.df X G) T F_str F_part
 have F_met:=BO (P:=l.prog) (w:=w) (base:=base) (h4.df X G) T
 have F_bes:=BP (P:=l.prog) (w:=w) (base:=base) (h17.df X G) T Tset F_ce F_met
 have F_lat:=BQ (P:=l.prog) (w:=w) (base:=base) (h16.df X G) T F_agn F_alg F_bes
 have F_links:=xw (P:=l.prog) (w:=w) (base:=base) (h15.df X G) T F_lat
 have F_feed:=zT (P:=l.prog) (w:=w) (base:=base) (h24.df X G) T
 have F_draw:=zR (P:=l.prog) (w:=w) (base:=base) (h25.df X G) T
 have F_lback:=wU (P:=l.prog) (w:=w) (base:=base) (h26.df X G)
 have F_lred:=Al (P:=l.prog) (w:=w) (base:=base) (h27.df X G) T F_lback
 have F_mid:=BR (P:=l.prog) (w:=w) (base:=base) (h28.df X G) T F_lback F_lred
 have F_surf:=z8 (P:=l.prog) (w:=w) (base:=base) (h29.df X G) T F_draw
 have F_way:=BS (P:=l.prog) (w:=w) (base:=base) (h30.df X G) T F_draw F_mid
 have F_hright:=tp (P:=l.prog) (w:=w) (base:=base) (h31.df X G) T F_holes F_handles F_cut F_glued
 have F_wright:=tq (P:=l.prog) (w:=w) (base:=base) (h32.df X G) T F_way F_cut F_cutw F_back F_lback F_links
 exact BU (kX l33 c33 k33) T F_feed F_draw F_surf F_glued F_hright F_wright
theorem C3 {l:PySem.W.OpenLaw}{q:Program}{loose:List Str}{XP:(Str→Option Value)→Heap→Prop}{d:DefRec}{K:Params→PySem.W.Frag}{as:List Addr}{n0 t0:Nat}(he:∀ P,as=(K P).map (·.1))(hn:l.most=some 63)(hdf:d.params.defaults=[])(h0:0 < t0)
  (F:∀ (w:World) (mg:Str→Option Value) (fa:Addr) (h:Heap),(K w.params).In h→h.Ns mainGlobals mg→mg d.name=some (.ref fa) →
   ∃ fd:FuncData,(∀ (s:Shared) (u:Value),BindsTo s fd ⟨[u],[]⟩ [("_law_script",u)])∧∀ base:Heap,(K w.params).In base→base.Ns mainGlobals mg→eJ l.prog w (K w.params) mg base CX0 9 fa fd ["_law_script"] (iB (K w.params) t0)) :
  PySem.W.WalkX q loose XP (PySem.W.X.obsZ as) (PySem.W.X.valZ K n0 t0) l.row.toRowW d [] (fun f vs=>PySem.call f vs) :=
 L2.se (n:=63) (k:=9) (x:="_law_script") (CX:=fun _=>CX0) (sp:=fun w=>iB (K w.params) t0) he hn (by decide) hdf ⟨rfl,by decide,by decide,rfl⟩ F (fun w m H a ns hm hl _ hS=>⟨a,ns,rfl,hS,hl,h0,hm,fun _=>rfl⟩) fun _ _ _ _ _ z=>z
end Kx
namespace Kx
open PySem
def Aq (s:String):Str:=⟨⟨PySem.W.R.mapR Char.toNat (PySem.W.S.toListS s)⟩⟩
theorem tD:Str.ofString=Aq:=by
 funext s
 rw [Str.ofString_eq_toList,PySem.W.S.toListS_eq]
 show _=(⟨⟨PySem.W.R.mapR Char.toNat (PySem.W.S.toListS s)⟩⟩:Str)
 rw [← PySem.W.R.mapR_eq]
def apG (G:(String→Str)→Program)(x:String→Str):Program:=G x
def Gs:{ G:(String→Str)→Program // apG G Str.ofString=PySem.Challenge.pw_ringwords_k72_whole_cut_and_glued }:=by
 refine ⟨?G,?h⟩
 case h =>
  delta PySem.Challenge.pw_ringwords_k72_whole_cut_and_glued
  generalize Str.ofString=x
  exact rfl
end Kx
def PySem.W.Fast.tw16642645101188481379:PySem.Program:=Kx.Gs.1 Kx.Aq
theorem PySem.W.Fast.te16642645101188481379:PySem.Challenge.pw_ringwords_k72_whole_cut_and_glued=PySem.W.Fast.tw16642645101188481379:=Kx.Gs.2.symm.trans (DH (Kx.apG Kx.Gs.1) Kx.tD)
theorem PySem.W.Fast.te10896122184810604047:True:=trivial
theorem PySem.W.Fast.tw15128251555314761289:True:=trivial
theorem PySem.W.Fast.tw14711000724453158613:True:=trivial
theorem PySem.W.Fast.tw7550571918624189455:True:=trivial
theorem PySem.W.Fast.tw16778588687342358868:True:=trivial
theorem PySem.W.Fast.tw12758021316977392848:True:=trivial
theorem PySem.W.Fast.tw16014428638640839822:True:=trivial
theorem PySem.W.Fast.tw15767731514068294844:True:=trivial
theorem PySem.W.Fast.tw3341968607114533996:True:=trivial
theorem PySem.W.Fast.tw7530642174586731491:True:=trivial
theorem PySem.W.Fast.tw14225962937804634605:True:=trivial
theorem PySem.W.Fast.tw6562953943744561650:True:=trivial
theorem PySem.W.Fast.tw13826799585018246975:True:=trivial
theorem PySem.W.Fast.tw16655954510310039222:True:=trivial
theorem PySem.W.Fast.tw2102585665543044410:True:=trivial
theorem PySem.W.Fast.tw10441312757833381773:True:=trivial
theorem PySem.W.Fast.tw1151066864842348681:True:=trivial
theorem PySem.W.Fast.tw3941567015019421173:True:=trivial
theorem PySem.W.Fast.tw3780620831553588388:True:=trivial
theorem PySem.W.Fast.tw986586452501966643:True:=trivial
theorem PySem.W.Fast.tw6047904303364798265:True:=trivial
theorem PySem.W.Fast.tw8803112206998220718:True:=trivial
theorem PySem.W.Fast.tw16466246086785648776:True:=trivial
theorem PySem.W.Fast.tw14228303645379053565:True:=trivial
theorem PySem.W.Fast.tw8277150932540479268:True:=trivial
theorem PySem.W.Fast.tw3869881582555337824:True:=trivial
theorem PySem.W.Fast.tw5194148681454990461:True:=trivial
theorem PySem.W.Fast.tw5887188892415943651:True:=trivial
theorem PySem.W.Fast.tw3479488031292214148:True:=trivial
theorem PySem.W.Fast.tw17690348981315792163:True:=trivial
theorem PySem.W.Fast.tw6278777194081877830:True:=trivial
theorem PySem.W.Fast.tw2149665472764641165:True:=trivial
theorem PySem.W.Fast.tw13654550115980072383:True:=trivial
theorem PySem.W.Fast.tw15704346865160143408:True:=trivial
theorem PySem.W.Fast.tw5805287561110041099:True:=trivial
theorem PySem.W.Fast.tw694119873300369034:True:=trivial
theorem PySem.W.Fast.tw2757178271081036009:True:=trivial
theorem PySem.W.Fast.tw11989598376157986185:True:=trivial
theorem PySem.W.Fast.tw17315402267866555580:True:=trivial
theorem PySem.W.Fast.tw8493650395392001554:True:=trivial
theorem PySem.W.Fast.tw7242091211119558320:True:=trivial
theorem PySem.W.Fast.tw3486946743685841615:True:=trivial
theorem PySem.W.Fast.tw17381819107163016486:True:=trivial
theorem PySem.W.Fast.tw13178169880155125338:True:=trivial
theorem PySem.W.Fast.tw5914383328386339721:True:=trivial
theorem PySem.W.Fast.tw9422536961558311290:True:=trivial
theorem PySem.W.Fast.tw10359196483023278698:True:=trivial
theorem PySem.W.Fast.tw3270903048814103435:True:=trivial
theorem PySem.W.Fast.tw4497191567185461242:True:=trivial
theorem PySem.W.Fast.tw1888136962232278765:True:=trivial
theorem PySem.W.Fast.tw7143850242250354088:True:=trivial
theorem PySem.W.Fast.tw11072266370758877786:True:=trivial
theorem PySem.W.Fast.tw11826742927345247251:True:=trivial
theorem PySem.W.Fast.tw5711682243878107610:True:=trivial
theorem PySem.W.Fast.tw15262166821489119023:True:=trivial
theorem PySem.W.Fast.tw10064755733319652063:True:=trivial
theorem PySem.W.Fast.tw10561536349719336861:True:=trivial
theorem PySem.W.Fast.tw1729791195084984104:True:=trivial
theorem PySem.W.Fast.tw13121472642782030182:True:=trivial
theorem PySem.W.Fast.tw7398054570887229836:True:=trivial
theorem PySem.W.Fast.tw12184777742076315821:True:=trivial
theorem PySem.W.Fast.tw4807183278481429884:True:=trivial
theorem PySem.W.Fast.tw6316384648731058757:True:=trivial
theorem PySem.W.Fast.tw3852434779285847462:True:=trivial
theorem PySem.W.Fast.tw17829074860506359888:True:=trivial
theorem PySem.W.Fast.tw6920758452439007768:True:=trivial
theorem PySem.W.Fast.tw9454293490539490113:True:=trivial
theorem PySem.W.Fast.tw10238500078702669201:True:=trivial
theorem PySem.W.Fast.tw16490580823032243115:True:=trivial
theorem PySem.W.Fast.tw2127896584512052434:True:=trivial
theorem PySem.W.Fast.tw7706214692508430747:True:=trivial
theorem PySem.W.Fast.tw17929514859852648557:True:=trivial
theorem PySem.W.Fast.tw12443046483524514554:True:=trivial
theorem PySem.W.Fast.tw12694637219175204342:True:=trivial
theorem PySem.W.Fast.tw16945311568896304045:True:=trivial
theorem PySem.W.Fast.tw15055540057624682279:True:=trivial
theorem PySem.W.Fast.tw11744678086231312863:True:=trivial
theorem PySem.W.Fast.tw17424827326873912026:True:=trivial
theorem PySem.W.Fast.tw15271745715931968868:True:=trivial
theorem PySem.W.Fast.tw8957698390528969101:True:=trivial
theorem PySem.W.Fast.tw7393039557937620540:True:=trivial
theorem PySem.W.Fast.tw643782972409822695:True:=trivial
theorem PySem.W.Fast.tw8794745373196134361:True:=trivial
theorem PySem.W.Fast.tw1535527494609611569:True:=trivial
theorem PySem.W.Fast.tw5782610796295328880:True:=trivial
theorem PySem.W.Fast.tw7442592290679411583:True:=trivial
theorem PySem.W.Fast.tw16571025738983591389:True:=trivial
theorem PySem.W.Fast.tw6662534936301229096:True:=trivial
theorem PySem.W.Fast.tw10122503409780694650:True:=trivial
theorem PySem.W.Fast.tw14532560623936053031:True:=trivial
theorem PySem.W.Fast.tw1261216712975107101:True:=trivial
theorem PySem.W.Fast.tw13815299907798255406:True:=trivial
theorem PySem.W.Fast.tw7245126678259590113:True:=trivial
theorem PySem.W.Fast.tw5137880138699412030:True:=trivial
theorem PySem.W.Fast.tw2768802243328971591:True:=trivial
theorem PySem.W.Fast.tw13583390057948263700:True:=trivial
theorem PySem.W.Fast.tw16410363579180623492:True:=trivial
theorem PySem.W.Fast.tw12284348233559560606:True:=trivial
theorem PySem.W.Fast.tw4195104476303102456:True:=trivial
theorem PySem.W.Fast.tw10033685592343966779:True:=trivial
theorem PySem.W.Fast.tw18110308352910157073:True:=trivial
theorem PySem.W.Fast.tw16042951787609677926:True:=trivial
theorem PySem.W.Fast.tw4442627956261956377:True:=trivial
theorem PySem.W.Fast.tw2901868871416725424:True:=trivial
theorem PySem.W.Fast.tw1423538052328234515:True:=trivial
theorem PySem.W.Fast.tw14587208256325730236:True:=trivial
theorem PySem.W.Fast.tw2101455795582782255:True:=trivial
theorem PySem.W.Fast.tw8336688019314838563:True:=trivial
theorem PySem.W.Fast.tw12323374657993452759:True:=trivial
theorem PySem.W.Fast.tw11675631976668204602:True:=trivial
theorem PySem.W.Fast.tw17902025099870586980:True:=trivial
theorem PySem.W.Fast.tw11455893547459292457:True:=trivial
theorem PySem.W.Fast.tw3538069754196250849:True:=trivial
theorem PySem.W.Fast.tw5550644308786119664:True:=trivial
theorem PySem.W.Fast.tw10261137830311714041:True:=trivial
theorem PySem.W.Fast.tw6513105185569292586:True:=trivial
theorem PySem.W.Fast.tw15874443011607843078:True:=trivial
theorem PySem.W.Fast.tw5957651654481137901:True:=trivial
theorem PySem.W.Fast.tw5410591935342431843:True:=trivial
theorem PySem.W.Fast.tw14655945606720043336:True:=trivial
theorem PySem.W.Fast.tw1737796581472469052:True:=trivial
theorem PySem.W.Fast.tw16346150177111611337:True:=trivial
theorem PySem.W.Fast.tw15866287267659802927:True:=trivial
theorem PySem.W.Fast.tw16464661570273535264:True:=trivial
theorem PySem.W.Fast.tw11395305482167052995:True:=trivial
theorem PySem.W.Fast.tw14005226121029074176:True:=trivial
theorem PySem.W.Fast.tw1132597869222110439:True:=trivial
theorem PySem.W.Fast.tw8713921458793553329:True:=trivial
theorem PySem.W.Fast.tw8832421282023636293:True:=trivial
theorem PySem.W.Fast.tw15300625993778131279:True:=trivial
theorem PySem.W.Fast.tw11914354034989958093:True:=trivial
theorem PySem.W.Fast.tw7512931579020673759:True:=trivial
theorem PySem.W.Fast.tw14000322376340549283:True:=trivial
theorem PySem.W.Fast.tw4286649860829869191:True:=trivial
theorem PySem.W.Fast.tw13276303136631147983:True:=trivial
theorem PySem.W.Fast.tw3407722615386173784:True:=trivial
theorem PySem.W.Fast.tw16142395112691764080:True:=trivial
theorem PySem.W.Fast.tw12040986312727911979:True:=trivial
theorem PySem.W.Fast.tw7888063856250441292:True:=trivial
theorem PySem.W.Fast.tw5887437333248411257:True:=trivial
theorem PySem.W.Fast.tw10922735681006628661:True:=trivial
theorem PySem.W.Fast.tw10084315842934288755:True:=trivial
theorem PySem.W.Fast.tw1372770955380306172:True:=trivial
theorem PySem.W.Fast.tw11446661889504711176:True:=trivial
theorem PySem.W.Fast.tw2200319805102150589:True:=trivial
theorem PySem.W.Fast.tw5431395145472713744:True:=trivial
theorem PySem.W.Fast.tw5690377370247787432:True:=trivial
theorem PySem.W.Fast.tw18235622432282851045:True:=trivial
theorem PySem.W.Fast.tw10086588317222879647:True:=trivial
theorem PySem.W.Fast.tw16200586745498288546:True:=trivial
theorem PySem.W.Fast.tw2414777583200604243:True:=trivial
theorem PySem.W.Fast.tw4165042638207566970:True:=trivial
theorem PySem.W.Fast.tw9756705774057389733:True:=trivial
theorem PySem.W.Fast.tw6097066434044811380:True:=trivial
theorem PySem.W.Fast.tw10883444160127244492:True:=trivial
theorem PySem.W.Fast.tw10707008247327363105:True:=trivial
theorem PySem.W.Fast.tw17802700992768836420:True:=trivial
theorem PySem.W.Fast.tw462617041395704785:True:=trivial
theorem PySem.W.Fast.tw12406690639146080571:True:=trivial
theorem PySem.W.Fast.tw8119172222845205599:True:=trivial
theorem PySem.W.Fast.tw9211023435427801257:True:=trivial
theorem PySem.W.Fast.tw574261193010493083:True:=trivial
theorem PySem.W.Fast.tw15528549235753298010:True:=trivial
theorem PySem.W.Fast.tw15928437155543199550:True:=trivial
theorem PySem.W.Fast.tw17129835585516552896:True:=trivial
theorem PySem.W.Fast.tw5758642675993055344:True:=trivial
theorem PySem.W.Fast.tw8507829289566543017:True:=trivial
theorem PySem.W.Fast.tw6530977434077895741:True:=trivial
theorem PySem.W.Fast.tw11277744064266580968:True:=trivial
theorem PySem.W.Fast.tw14791224228834489825:True:=trivial
theorem PySem.W.Fast.tw15008981735905952169:True:=trivial
theorem PySem.W.Fast.tw3336639632151798246:True:=trivial
theorem PySem.W.Fast.tw16761073140164862572:True:=trivial
theorem PySem.W.Fast.tw6994406056549030789:True:=trivial
theorem PySem.W.Fast.tw11588140622759438479:True:=trivial
theorem PySem.W.Fast.tw8970400832605001376:True:=trivial
theorem PySem.W.Fast.tw1454627190614217170:True:=trivial
theorem PySem.W.Fast.tw1328255173304188348:True:=trivial
theorem PySem.W.Fast.tw8265721699917588020:True:=trivial
theorem PySem.W.Fast.tw8229492544450104133:True:=trivial
theorem PySem.W.Fast.tw10449640882145319934:True:=trivial
theorem PySem.W.Fast.tw11401068025134278093:True:=trivial
theorem PySem.W.Fast.tw12166898588391819178:True:=trivial
theorem PySem.W.Fast.tw11308615558261068710:True:=trivial
theorem PySem.W.Fast.tw7000651931645459283:True:=trivial
theorem PySem.W.Fast.tw4853497013383906419:True:=trivial
theorem PySem.W.Fast.tw12350967021390603765:True:=trivial
theorem PySem.W.Fast.tw4377250791233285004:True:=trivial
theorem PySem.W.Fast.tw10920351247132222540:True:=trivial
theorem PySem.W.Fast.tw2886581068869865941:True:=trivial
theorem PySem.W.Fast.tw7348084073064994699:True:=trivial
theorem PySem.W.Fast.tw9181803406725457816:True:=trivial
theorem PySem.W.Fast.tw5460499567187788998:True:=trivial
theorem PySem.W.Fast.tw14760602262031181437:True:=trivial
theorem PySem.W.Fast.tw12977464092272645346:True:=trivial
theorem PySem.W.Fast.tw6757867418477700518:True:=trivial
open PySem PySem.W PyProof.Rows
set_option maxRecDepth 100000 in
set_option maxHeartbeats 0 in
theorem PySem.Challenge.cw_ringwords_k72_whole_cut_and_glued_holds : PySem.Challenge.rw_ringwords_k72_whole_cut_and_glued.Holds := by
 w_on; o_law; z_head; (case hw=>w_witness2)
 k_fill
 refine Kx.C3 (l:=PySem.Challenge.rw_ringwords_k72_whole_cut_and_glued) (fun _=>rfl) rfl rfl (by decide) ?F
 case F =>
  intro w mg fa h KX G hmg
  refine' Kx.Ap KX G hmg ?hs ?a33 ?l33 ?c33 ?k33 ?z_len ?z_repr ?z_abs ?z_max ?z_int ?z_list ?z_range ?z_reversed ?z_min ?z_sorted ?z_tuple ?z_isinstance ?z_all ?z_str ?z_zip ?aBk ?lB ?kB ?aS ?aE ?zV ?zS ?aCR ?lCR ?mCR ?eCR ?dCR ?kCR ?saCR ?gaCR ?gnCR ?caCR ?nCR ?oCR ?pCR ?qCR ?rdCR ?atCR ?gtCR ?hdI ?cgt ?ctk ?aCT ?lCT ?mCT ?eCT ?dCT ?kCT ?saCT ?gaCT ?gnCT ?caCT ?xCT0 ?iCT ?uCT ?vCT ?wCT ?jCT ?aCB ?lCB ?mCB ?eCB ?dCB ?kCB ?saCB ?gaCB ?gnCB ?caCB ?xCB0 ?iCB ?uCB ?vCB ?wCB ?jCB ?gl0 ?gl1 ?gl2 ?gl3 ?gl4 ?gl5 ?gl6 ?gl7 ?gl8 ?gl9 ?gl10 ?gl11 ?tb0 ?tb1 ?tb2 ?tb3 ?tb4 ?tb5 ?tb6 ?tb7 ?tb8 ?tb9 ?tb10 ?tb11
  (case hs=>(iterate 33 (refine' Kx.DIs.on ?_ ?_ ?_ ?_ ?_; rotate_left 10; k_is; k_is; k_is; k_is)); exact trivial)
  (case a33 | l33 | c33 | k33 | z_len | z_repr | z_abs | z_max | z_int | z_list | z_range | z_reversed | z_min | z_sorted | z_tuple | z_isinstance | z_all | z_str | z_zip | aBk | lB=>k_is)
  (case kB=>exact ⟨⟨_,_,rfl,rfl⟩,⟨_,_,rfl,rfl⟩,⟨_,_,rfl,rfl⟩,⟨_,_,rfl,rfl⟩,⟨_,_,rfl,rfl⟩,⟨_,_,rfl,rfl⟩,⟨_,_,rfl,rfl⟩,⟨_,_,rfl,rfl⟩,⟨_,_,rfl,rfl⟩,⟨_,_,rfl,rfl⟩,⟨_,_,rfl,rfl⟩,⟨_,_,rfl,rfl⟩,trivial⟩)
  (case aS | aE | zV | zS | aCR | lCR=>k_is)
  (case mCR | eCR | dCR=>rfl)
  (case kCR | saCR | gaCR | gnCR | caCR=>k_is)
  (case nCR=>rfl)
  (case oCR=>k_is)
  (case pCR=>rfl)
  (case qCR | rdCR | atCR | gtCR=>k_is)
  (case hdI=>rfl)
  (case cgt | ctk | aCT | lCT=>k_is)
  (case mCT | eCT | dCT=>rfl)
  (case kCT | saCT | gaCT | gnCT | caCT | xCT0 | iCT | uCT | vCT | wCT | jCT | aCB | lCB=>k_is)
  (case mCB | eCB | dCB=>rfl)
  (case kCB | saCB | gaCB | gnCB | caCB | xCB0 | iCB | uCB | vCB | wCB | jCB | gl0 | gl1 | gl2 | gl3 | gl4 | gl5 | gl6 | gl7 | gl8 | gl9 | gl10 | gl11=>k_is)
  (case tb0 | tb1 | tb2 | tb3 | tb4 | tb5 | tb6 | tb7 | tb8 | tb9 | tb10 | tb11=>decide)
end
