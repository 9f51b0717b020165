import PyProof.Rows.All
import Wide.All
import OpenK.AllK
import Wide.FinOn
import Lean
import PyProof.EqAt
import PyProof.EqKinds
import PyProof.TupleCall
import KE.KRevIter
import PyProof.Rows.SortShellK
import PyProof.Rows.SortRunsK
import PyProof.FString5
import PyProof.NeData
import PyProof.TupleOfStr
import PyProof.IsRules
import PySem.Challenge.RW_ringwords_k49_whole_surfaces_told_otherw
set_option Elab.async false
set_option linter.all false
set_option maxRecDepth 100000
set_option maxHeartbeats 0
noncomputable section
def fu:=@List.getElem?_eq_getElem
def AX:=@PySem.wpAny_bind
def AY:=@List.length_map
def AZ:=@decide_eq_false
def A0:=@Array.length_toList
def A2:=@List.mem_singleton
def A3:=@PySem.Heap.get?_push_of_some
def A4:=@PySem.wpAny_pure
def A5:=@List.mem_cons_of_mem
def A6:=@List.getElem?_eq_some_iff
def A7:=@List.length_append
def A8:=@Nat.le_refl
def A9:=@List.getD_eq_getElem?_getD
def A_:=@Option.some.inj
def Ba:=@List.mem_cons_self
def Bb:=@decide_eq_true_iff
def Bc:=@List.append_assoc
def Bd:=@List.length_take
def Be:=@List.size_toArray
def Bf:=@PyProof.Rows.wpS_bind
def Bg:=@decide_eq_true
def Bh:=@PySem.Heap.get?_push_size
def Bi:=@List.getElem?_map
def Bj:=@PyProof.Rows.wpS_pure
def Bk:=@List.mem_append_right
def Bl:=@PySem.Heap.lt_size
def Bm:=@List.mem_cons
def Bn:=@Bool.false_eq_true
def Bo:=@List.mem_append
def Bp:=@List.getElem?_append_right
def Bq:=@PySem.boot_len
def Br:=@congrArg
def Bs:=@PySem.F.plainAttrs_str
def Bu:=@List.take_append_drop
def Bv:=@List.map_cons
def Bw:=@Nat.lt_of_lt_of_le
def Bx:=@Bool.false_ne_true
def By:=@List.take_of_length_le
def Bz:=@Int.emod_lt_of_pos
def BA:=@List.not_mem_nil
def BB:=@List.mem_append_left
def BC:=@Bool.eq_iff_iff
def BD:=@List.mem_map
def BE:=@Array.getElem?_toList
def BF:=@List.getElem_mem
def BG:=@PySem.W.mg_none_of
def BH:=@List.length_cons
def BI:=@Bool.false_and
def BJ:=@Int.emod_nonneg
def BK:=@List.mem_of_getElem?
def BL:=@List.getElem?_append_left
def BM:=@List.nodup_cons
def BN:=@List.length_pos_iff
def BO:=@Nat.zero_le
def BP:=@Nat.ne_of_lt
def BQ:=@Nat.le_trans
def BR:=@Int.toNat_natCast
def BS:=@List.length_drop
def BU:=@List.map_append
def BV:=@List.getElem?_drop
def BW:=@PySem.F.plainAttrs_list
def BX:=@List.drop_eq_getElem_cons
def BY:=@PySem.Heap.get?_update_other
def BZ:=@List.map_map
def B0:=@List.getElem?_take_of_lt
def B2:=@PyProof.Rows.slot_tuple_getitem
def B3:=@PySem.PassesOwn.never
def B4:=@PyProof.Rows.wpS_forRange
def B5:=@List.length_reverse
def B6:=@List.eq_nil_of_length_eq_zero
def B7:=@Int.emod_eq_of_lt
def B8:=@List.perm_append_comm
def B9:=@Bool.and_eq_true
def B_:=@Nat.lt_irrefl
def Ca:=@PySem.wpAny_holding
def Cb:=@Int.eq_ofNat_of_zero_le
def Cc:=@Array.toList_extract
def Cd:=@List.getElem?_of_mem
def Ce:=@List.mem_of_mem_take
def Cf:=@if_false
def Cg:=@PyProof.Rows.KeyOrd.kle_refl
def Ci:=@List.pairwise_iff_getElem
def Cj:=@PySem.wpAny_call_entry
def Ck:=@Bool.true_and
def Cm:=@List.Perm.append_left
def Cn:=@List.mem_range
def Co:=@List.length_nil
def Cp:=@Array.perm_iff_toList_perm
def Cq:=@PySem.mem_of_lookup
def Cr:=@PySem.wpAny_newObj_type
def Cs:=@List.getElem?_reverse
def Ct:=@List.getElem?_eq_none
def Cu:=@List.cons_lt_cons_iff
def Cv:=@PySem.F.slot_str_join
def Cw:=@PySem.F.type_str_join
def Cy:=@List.zip_cons_cons
def Cz:=@List.mem_of_mem_drop
def CA:=@PySem.wpAny_callSpecial?_slot
def CB:=@PySem.wpAny_getItem_str_slice
def CC:=@PyProof.Rows.wpS_mono
def CD:=@or_false
def CF:=@PyProof.Rows.F.plain_set_update_loop
def CG:=@List.nodup_nil
def CH:=@PySem.wpAny_mono
def CI:=@PyProof.Rows.callWith_type1
def CJ:=@PySem.F.slot_str_index
def CK:=@PySem.F.type_str_index
def CL:=@Array.getElem?_eq_some_iff
def CM:=@Nat.lt_succ_self
def CN:=@Nat.mod_eq_of_lt
def CO:=@List.cons.inj
def CP:=@PySem.wpAny_field
def CQ:=@List.Perm.refl
def CS:=@PySem.wpAny_passesOwn
def CT:=@PySem.wpAny_truthy_bool
def CU:=@List.append_nil
def CV:=@if_true
def CW:=@PySem.wpAny_rule
def CY:=@List.take_add_one
def CZ:=@decide_eq_true_eq
def C0:=@Array.toList_push
def C1:=@List.flatten_cons
def C2:=@PySem.F.slot_list_extend
def C3:=@PySem.F.type_list_extend
def C4:=@Nat.add_sub_cancel_left
def C5:=@List.flatten_append
def C6:=@PyProof.Rows.KeyOrd.kle_trans
def C7:=@List.countP_cons
def C8:=@Bool.not_eq_true
def C9:=@List.drop_eq_nil_of_le
def C_:=@List.drop_of_length_le
def Da:=@List.pairwise_cons
def Dc:=@PySem.Heap.get?_update_self
def Dd:=@List.length_singleton
def De:=@List.find?_cons
def Dg:=@PySem.builtinLookup_eq_fast
def Dh:=@List.idxOf_lt_length_of_mem
def Di:=@PySem.codeAny_builtin
def Dj:=@Prod.ext
def Dk:=@PySem.wpAny_newList
def Dl:=@Nat.lt_succ_of_lt
def Dm:=@PyProof.Rows.KeyOrd.kle_of_klt
def Dn:=@PySem.Heap.size_push
def Do:=@List.drop_zero
def Dp:=@PyProof.Rows.F.entry_set_update_loop
def Dq:=@List.getLast?_eq_getElem?
def Dr:=@List.all_eq_true
def Ds:=@List.take_length
def Du:=@List.mem_flatMap
def Dv:=@Nat.le_succ
def Dw:=@List.map_congr_left
def Dx:=@List.flatMap_append
def Dy:=@PySem.F.args_tuple_add_2
def Dz:=@List.map_nil
def DB:=@PyProof.Rows.wpS_modify
def DC:=@List.length_erase_of_mem
def DE:=@PySem.F.entry_tuple_add
def DF:=@List.eraseIdx_cons_succ
def DG:=@PySem.post_val_or_str
def DH:=@PySem.Obj.data_mapFields
def DJ:=@List.cons.injEq
def DK:=@List.range_succ
def DM:=@List.getElem_idxOf
def DN:=@List.getElem?_take
def DO:=@PyProof.Rows.KK_mirror_equal
def DP:=@List.length_eq_zero_iff
def DQ:=@decide_eq_false_iff_not
def DR:=@Int.ofNat.inj
def DS:=@PySem.F.slot_tuple_add
def DT:=@List.Perm.append_right
def DU:=@List.flatten_singleton
def DV:=@List.head?_eq_getElem?
def DW:=@PySem.F.slot_str_upper
def DX:=@PySem.F.type_str_upper
def DY:=@List.eraseIdxIfInBounds_toArray
def DZ:=@List.flatMap_cons
def D0:=@PySem.wpAny_typeOf
def D1:=@PySem.Txt.slice_le
def D2:=@Nat.sub_self
def D3:=@PyProof.Rows.listItems_at
def D4:=@Int.add_emod
def D5:=@List.lookup_cons
def D6:=@Nat.zero_lt_succ
def D9:=@List.mem_reverse
def D_:=@PySem.Heap.size_update
def Ea:=@decide_eq_decide
def Eb:=@PySem.Around.under_plainId
def Ec:=@List.mem_erase_of_ne
def Ed:=@PySem.W.mg_of
def Ee:=@Bool.not_true
def Ef:=@List.countP_eq_length_filter
def Eg:=@List.dropLast_concat_getLast
def Eh:=@PySem.typeIs_str
def Ei:=@List.mem_filter
def Ej:=@List.filterMap_cons
def Ek:=@PySem.wpAny_execs_nil
def El:=@PyProof.Rows.entry_tuple_getitem
def Em:=@Option.map_some
def En:=@PySem.typeLookup_type
def Eo:=@PySem.wpAny_of_eq
def Ep:=@PySem.Heap.SameBut.update
def Er:=@PyProof.Rows.wpS_get
def Es:=@Array.toList_append
def Et:=@PyProof.Rows.entry_list_sort
def Eu:=@PySem.Calls.Name_function_global
def Ew:=@Int.add_mul_emod_self_left
def Ex:=@Array.toList_setIfInBounds
def Ey:=@Nat.le_of_lt
def Ez:=@PySem.wpAny_pyIter_tuple
def EA:=@List.mem_filterMap
def EB:=@PySem.codeAny_mono
def EC:=@PySem.wpAny_Call_Name_kw
def ED:=@PyProof.Rows.args_tuple_getitem
def EE:=@Nat.lt_of_le_of_lt
def EF:=@PyProof.Rows.slicePart_none
def EG:=@Bool.and_false
def EH:=@PySem.isSubtype_type
def EI:=@PyProof.Rows.pairsOf_toList
def EJ:=@PySem.Calls.call_function_entry
def EK:=@PyProof.Rows.slot_list_sort
def EL:=@PyProof.Rows.args_list_sort
def EM:=@PySem.wpAny_pyIter_list
def EN:=@Option.isSome_iff_exists
def EO:=@PySem.AutoSeq1.sub_tuple_tuple
def ER:=@PySem.wpAny_sequenceKey
def ES:=@PyProof.Rows.Subscript_
def ET:=@List.reverse_cons
def EU:=@PySem.call_meets
def EV:=@PySem.F.slot_list_insert
def EW:=@List.ext_getElem?
def EX:=@Bool.eq_false_iff
def EY:=@List.Perm.eq_of_pairwise
def EZ:=@not_false_eq_true
def E1:=@Int.emod_add_emod
def E2:=@PySem.F.slot_list_append
def E3:=@PySem.F.type_list_append
def E4:=@PySem.Paired.length
def E5:=@PySem.sizeLine_eq
def E6:=@PySem.evalPart_none
def E7:=@PySem.wpAny_attempt
def E8:=@List.pairwise_singleton
def E9:=@PyProof.Rows.listUpdate_at
def E_:=@List.getLast?_cons_cons
def Fb:=@List.not_lt
def Fc:=@PySem.noFill_tuple_add
def Fd:=@Option.getD_none
def Fe:=@List.cons_append
def Ff:=@beq_self_eq_true
def Fg:=@List.drop_length
def Fh:=@Array.toList_inj
def Fi:=@List.zipIdx_cons
def Fj:=@List.nodup_range
def Fk:=@List.getElem_map
def Fl:=@List.getElem?_set_self
def Fm:=@PySem.W.cellsFrom_some
def Fn:=@PySem.F.slot_str_count
def Fo:=@PySem.F.type_str_count
def Fp:=@List.of_mem_zip
def Fq:=@PySem.wpAny_specialOf
def Fs:=@List.forIn_cons
def Ft:=@Nat.sub_zero
def Fu:=@Int.add_zero
def Fv:=@Array.Perm.refl
def Fw:=@getElem?_pos
def Fx:=@PyProof.Rows.wpS_lift
def Fy:=@PySem.wpAny_setField
def Fz:=@List.lt_irrefl
def FA:=@Bool.bne_false
def FB:=@Bool.or_false
def FC:=@List.any_cons
def FD:=@Nat.add_assoc
def FE:=@and_true
def FF:=@beq_iff_eq
def FG:=@Nat.ne_of_gt
def FH:=@Nat.lt_trans
def FI:=@Nat.add_comm
def FJ:=@Int.zero_add
def FK:=@Nat.zero_add
namespace L2
open PySem PySem.Spec PyProof.Rows
abbrev Key:=Sum Int Str
def ly:Key→Value→Bool
 | .inl k,v=>Value.isInt k v
 | .inr x,v=>Value.isStrOf x v
def Al (w:World):Key→Int
 | .inl k=>hashInt k
 | .inr x=>hashStr w x
theorem bj:∀ {k:Key} {v:Value},ly k v=true→(∃ i t,k=Sum.inl i∧v=Value.int i t) ∨ (∃ x t,k=Sum.inr x∧v=Value.str x t)
 | .inl i,v,h=>by
  obtain ⟨t,e⟩:=Value.isInt_shape (k:=i) (v:=v) h
  exact .inl ⟨i,t,rfl,e⟩
 | .inr x,v,h=>by
  obtain ⟨t,e⟩:=Value.isStrOf_shape (x:=x) (v:=v) h
  exact .inr ⟨x,t,rfl,e⟩
theorem mq (i:Int)(t:Tok):ly (.inl i) (.int i t)=true:=by simp [ly,Value.isInt]
theorem mw (x:Str)(t:Tok):ly (.inr x) (.str x t)=true:=by simp [ly,Value.isStrOf]
theorem vM (a b:Int):decide ((Sum.inl a:Key)=Sum.inl b)=(a == b):=by
 by_cases e:a=b
 ·subst e;simp
 ·have h:¬ (Sum.inl a:Key)=Sum.inl b:=fun q=>e (Sum.inl.inj q)
  rw [AZ h]
  exact (beq_eq_false_iff_ne.mpr e).symm
theorem vN (a b:Str):decide ((Sum.inr a:Key)=Sum.inr b)=decide (a=b):=by
 by_cases e:a=b
 ·subst e;simp
 ·have h:¬ (Sum.inr a:Key)=Sum.inr b:=fun q=>e (Sum.inr.inj q)
  rw [AZ h,AZ e]
theorem vO (a:Int)(b:Str):decide ((Sum.inl a:Key)=Sum.inr b)=false:=AZ (fun q=>nomatch q)
theorem vP (a:Str)(b:Int):decide ((Sum.inr a:Key)=Sum.inl b)=false:=AZ (fun q=>nomatch q)
def bC (prog:Program)(w:World):PySem.KeyKind prog w Key where
 is:=ly
 hash:=Al w
 inj:=fun v a b ha hb=>by
  rcases bj ha with ⟨i,t,rfl,rfl⟩ | ⟨x,t,rfl,rfl⟩
  ·rcases bj hb with ⟨j,u,rfl,e⟩ | ⟨y,u,rfl,e⟩
   ·injection e with e1 _;rw [e1]
   ·exact nomatch e
  ·rcases bj hb with ⟨j,u,rfl,e⟩ | ⟨y,u,rfl,e⟩
   ·exact nomatch e
   ·injection e with e1 _;rw [e1]
 byValue:=fun k v h=>by
  rcases bj h with ⟨i,t,rfl,rfl⟩ | ⟨x,t,rfl,rfl⟩ <;> rfl
 pyHash:=fun hv h=>by
  rcases bj hv with ⟨i,t,rfl,rfl⟩ | ⟨x,t,rfl,rfl⟩
  ·exact wpAny_pyHash_int h
  ·exact wpAny_pyHash_str h
 eqBool:=fun hu hv h=>by
  rcases bj hu with ⟨i,t,rfl,rfl⟩ | ⟨x,t,rfl,rfl⟩
  ·rcases bj hv with ⟨j,u,rfl,rfl⟩ | ⟨y,u,rfl,rfl⟩
   ·rw [vM] at h;exact wpAny_eqBool_int h
   ·rw [vO] at h;exact SeqAt.EqAt.int_str i t y u _ _ _ _ h
  ·rcases bj hv with ⟨j,u,rfl,rfl⟩ | ⟨y,u,rfl,rfl⟩
   ·rw [vP] at h;exact SeqAt.EqAt.str_int x t j u _ _ _ _ h
   ·rw [vN] at h;exact wpAny_eqBool_str h
 «strs»:=fun k x t v h=>by
  rcases bj h with ⟨i,u,rfl,e⟩ | ⟨y,u,rfl,e⟩
  ·exact nomatch e
  ·injection e with e1 _
   subst e1
   cases v <;> rfl
theorem jd (prog:Program)(w:World)(i:Int)(t:Tok):(bC prog w).is (.inl i) (.int i t)=true:=mq i t
theorem je (prog:Program)(w:World)(x:Str)(t:Tok):(bC prog w).is (.inr x) (.str x t)=true:=mw x t
inductive V where
 | non | bl (b:Bool) | int (i:Int) | str (x:Str) | byt (b:Array UInt8) | flt (b:UInt64) | ref (a:Addr) | ty (n:String)
 deriving DecidableEq
def bH:V→Value→Prop
 | .non,u=>u=Value.none
 | .bl b,u=>u=Value.bool b
 | .int i,u=>∃ t,u=Value.int i t
 | .str x,u=>∃ t,u=Value.str x t
 | .byt b,u=>∃ t,u=Value.bytes b t
 | .flt b,u=>∃ t,u=Value.float b t
 | .ref a,u=>u=Value.ref a
 | .ty n,u=>u=Value.type n
abbrev bh:List V→List Value→Prop:=Paired bH
theorem bh.length {xs:List V}{us:List Value}(r:bh xs us):xs.length=us.length:=E4 r
theorem bh.get:∀ {xs:List V} {us:List Value} {i:Nat} {x:V},bh xs us→xs[i]? = some x→∃ u,us[i]? = some u∧bH x u
 | _,_,_,_,.nil,e=>by simp at e
 | _,_,0,_,.cons r _,e=>by simp at e;subst e;exact ⟨_,rfl,r⟩
 | _,_,i+1,x,.cons _ t,e=>by
  obtain ⟨u,h1,h2⟩:=bh.get (i:=i) (x:=x) t (by simpa using e)
  exact ⟨u,by simpa using h1,h2⟩
theorem bh.set {x:V}{u:Value}(r:bH x u):∀ {xs:List V} {us:List Value} (i:Nat),bh xs us→bh (xs.set i x) (us.set i u)
 | _,_,_,.nil=>.nil
 | _,_,0,.cons _ t=>.cons r t
 | _,_,i+1,.cons q t=>.cons q (bh.set r i t)
theorem bh.append:∀ {xs ys:List V} {us ws:List Value},bh xs us→bh ys ws→bh (xs++ys) (us++ws)
 | _,_,_,_,.nil,s=>s
 | _,_,_,_,.cons r t,s=>.cons r (bh.append t s)
theorem bh.take:∀ {xs:List V} {us:List Value} (n:Nat),bh xs us→bh (xs.take n) (us.take n)
 | _,_,0,_=>.nil
 | _,_,_+1,.nil=>.nil
 | _,_,n+1,.cons r t=>.cons r (bh.take n t)
theorem bh.drop:∀ {xs:List V} {us:List Value} (n:Nat),bh xs us→bh (xs.drop n) (us.drop n)
 | _,_,0,r=>r
 | _,_,_+1,.nil=>.nil
 | _,_,n+1,.cons _ t=>bh.drop n t
def pX:Option V→Option Value→Prop
 | some v,some u=>bH v u
 | none,none=>True
 | _,_=>False
def KV {κ:Type}:List (κ × V)→List (κ × Value)→Prop:=Paired fun (p:κ × V) (q:κ × Value)=>p.1=q.1∧bH p.2 q.2
def kV:Key→V
 | .inl i=>.int i
 | .inr x=>.str x
inductive HO where
 | lst (xs:List V)
 | tup (xs:List V)
 | dK (Gq:List (Key × V)) | dT (Gq:List (List Key × V))
 | set (S:Int→Bool) (n:Nat)
 | ins (C dx:Addr) (fs:List (Str × V))
 | own (x:Addr)
 | xd (fs:List (Str × V))
 | met (f x:Addr)
 | rng (lo hi:Int)
 | frz (o:Obj) (u:HO)
 | tbl (ps:Array Value)
 | ext (φ:Heap→Prop)
abbrev Hp:=Addr→Option HO
def upd (H:Hp)(a:Addr)(o:HO):Hp:=fun b=>if b=a then some o else H b
theorem ag {H:Hp}{a:Addr}{o:HO}:upd H a o a=some o:=by unfold upd; rw [if_pos rfl]
theorem aW {H:Hp}{a b:Addr}{o:HO}(h:b≠a):upd H a o b=H b:=by unfold upd; rw [if_neg h]
theorem d6 {H:Hp}{a:Addr}{o u:HO}:upd (upd H a o) a u=upd H a u:=by
 funext b;unfold upd;split <;> rfl
theorem p6 {H:Hp}{a b:Addr}{o u:HO}(h:H a=some o)(h':H b=some u)(d:o≠u):a≠b:=by
 intro e;subst e;rw [h] at h';exact d (A_ h')
theorem aq {H:Hp}{a b:Addr}{o:HO}(h:H a=some o)(h':H b=none):a≠b:=by
 intro e;subst e;rw [h] at h';cases h'
section
variable (P:Program) (w:World)
def NoD (h:Heap)(a:Addr):Prop:=∃ o,h.get? a=some o∧o.dict=none
theorem NoD.new (h:Heap)(o:Obj)(e:o.dict=none)(hf:o.isFreed=false:=by rfl):NoD (h.push o) h.objs.size:=⟨o,Bh _ hf,e⟩
def bT (H:Hp)(h:Heap)(a:Addr):HO→Prop
 | .lst xs=>xs.length≤sizeLine∧∃ (Gp:List Value) (n:Nat),bh xs Gp∧h.get? a=some { cls:=.type "list",data:=.seq Gp.toArray n }
 | .tup xs=>xs.length≤sizeLine∧∃ Gp:List Value,bh xs Gp∧IsTup h a Gp.toArray∧NoD h a
 | .dK Gq=>Gq.length≤sizeLine∧(a == sysModules)=false∧∃ vs,KV Gq vs∧h.DictOf (bC P w) a vs
 | .dT Gq=>Gq.length≤sizeLine∧(a == sysModules)=false∧∃ xs:List (List Key × Addr × Value),
   Paired (fun (p:List Key × V) (q:List Key × Addr × Value)=>p.1=q.1∧H q.2.1=some (.tup (p.1.map kV))∧bH p.2 q.2.2) Gq xs ∧
   ∃ o es ep,h.get? a=some o∧o.ExactDict∧o.data = .dict es ep∧es.toList=xs.map (entryOfKey (tupleKind (bC P w)))∧(xs.map (·.1)).Nodup
 | .set S n=>h.SetOf (intKind P w) a S n
 | .ins C dx fs=>H dx=some (.own a)∧fs.length≤1000∧dx≠a∧h.get? a=some (PySem.W.instObj C dx) ∧
   ∃ mA,h.Ns1 dx mA∧(∀ f,pX (fs.lookup f) (mA f))∧PySem.Within mA (fs.map (·.1))
 | .own _=>∃ o,h.get? a=some o
 | .xd fs=>∃ mA,h.Ns1 a mA∧∀ f,pX (fs.lookup f) (mA f)
 | .rng lo hi=>∃ t u v,h.get? a=some { cls:=.type "range",data:=.fields #[.int lo t,.int hi u,.int 1 v] }
 | .frz o u=>h.get? a=some o∧bT H h a u
 | .tbl ps=>h.get? a=some { cls:=.none,data:=.fields ps }
 | .met f x=>h.get? a=some (PySem.W.methodObj (.ref f) (.ref x))
 | .ext φ=>φ h∧(∃ o,h.get? a=some o)∧∀ h1 h2:Heap,φ h1→(∀ o,h1.get? a=some o→h2.get? a=some o)→φ h2
def HOk (H:Hp)(h:Heap):Prop:=∀ a o,H a=some o→bT P w H h a o
end
section
variable {P:Program} {w:World} {H H':Hp} {h h':Heap} {a:Addr} {o:HO}
theorem bT.lt (x:bT P w H h a o):a < h.objs.size:=by
 cases o with
 | lst xs=>obtain ⟨_,_,_,_,e⟩:=x;exact Bl e
 | tup xs=>obtain ⟨_,_,_,p,_⟩:=x;exact p.lt
 | dK Gq=>obtain ⟨_,_,_,_,o,_,_,e,_⟩:=x;exact Bl e
 | dT Gq=>obtain ⟨_,_,_,_,o,_,_,e,_⟩:=x;exact Bl e
 | set S n=>obtain ⟨o,_,_,_,e,_⟩:=x;exact Bl e
 | ins C dx fs=>obtain ⟨_,_,_,e,_⟩:=x;exact Bl e
 | own y=>obtain ⟨_,e⟩:=x;exact Bl e
 | xd fs=>obtain ⟨_,⟨_,_,_,e,_⟩,_⟩:=x;exact Bl e
 | rng lo hi=>obtain ⟨_,_,_,e⟩:=x;exact Bl e
 | frz ob u=>obtain ⟨e,_⟩:=x;exact Bl e
 | tbl ps=>exact Bl (show h.get? a=some _ from x)
 | met f y=>exact Bl (show h.get? a=some _ from x)
 | ext φ=>obtain ⟨_,⟨_,e⟩,_⟩:=x;exact Bl e
theorem Paired.mapP {α β:Type}{F G:α→β→Prop}:∀ {l₁:List α} {l₂:List β},Paired F l₁ l₂→(∀ a b,F a b→G a b)→Paired G l₁ l₂
 | _,_,.nil,_=>.nil
 | _,_,.cons r t,f=>.cons (f _ _ r) (Paired.mapP t f)
theorem bT.stay (x:bT P w H h a o)(k:∀ b u,(b=a ∨ H b=some (.own a))→h.get? b=some u→h'.get? b=some u)
  (ho:∀ b,H b=some (.own a)→H' b=some (.own a)) (ht:∀ b xs,H b=some (.tup xs)→H' b=some (.tup xs)):bT P w H' h' a o:=by
 induction o with
 | lst xs=>obtain ⟨z,Gp,n,r,e⟩:=x;exact ⟨z,Gp,n,r,k _ _ (.inl rfl) e⟩
 | tup xs=>obtain ⟨z,Gp,r,⟨ob,e,c⟩,o2,e2,c2⟩:=x;exact ⟨z,Gp,r,⟨ob,k _ _ (.inl rfl) e,c⟩,o2,k _ _ (.inl rfl) e2,c2⟩
 | dK Gq=>obtain ⟨z,y,vs,r,ob,es,ep,e,c⟩:=x;exact ⟨z,y,vs,r,ob,es,ep,k _ _ (.inl rfl) e,c⟩
 | dT Gq =>
  obtain ⟨z,y,xs,r,ob,es,ep,e,c⟩:=x
  exact ⟨z,y,xs,Paired.mapP r fun p q z=>⟨z.1,ht _ _ z.2.1,z.2.2⟩,ob,es,ep,k _ _ (.inl rfl) e,c⟩
 | set S n=>obtain ⟨ob,es,ep,t,e,c⟩:=x;exact ⟨ob,es,ep,t,k _ _ (.inl rfl) e,c⟩
 | ins C dx fs =>
  obtain ⟨d,z,ne,e,mA,⟨od,es,ep,e2,c⟩,r⟩:=x
  exact ⟨ho _ d,z,ne,k _ _ (.inl rfl) e,mA,⟨od,es,ep,k _ _ (.inr d) e2,c⟩,r⟩
 | own y=>obtain ⟨ob,e⟩:=x;exact ⟨ob,k _ _ (.inl rfl) e⟩
 | xd fs=>obtain ⟨mA,⟨od,es,ep,e,c⟩,r⟩:=x;exact ⟨mA,⟨od,es,ep,k _ _ (.inl rfl) e,c⟩,r⟩
 | rng lo hi=>obtain ⟨t,u,v,e⟩:=x;exact ⟨t,u,v,k _ _ (.inl rfl) e⟩
 | frz ob u ih=>obtain ⟨e,q⟩:=x;exact ⟨k _ _ (.inl rfl) e,ih q⟩
 | tbl ps =>
  have e:h.get? a=some { cls:=.none,data:=.fields ps }:=x
  show h'.get? a=some { cls:=.none,data:=.fields ps }
  exact k a _ (.inl rfl) e
 | met f y =>
  have e:h.get? a=some (PySem.W.methodObj (.ref f) (.ref y)):=x
  show h'.get? a=some (PySem.W.methodObj (.ref f) (.ref y))
  exact k a _ (.inl rfl) e
 | ext φ=>obtain ⟨p,⟨o,e⟩,st⟩:=x;exact ⟨st _ _ p fun o q=>k _ _ (.inl rfl) q,⟨o,k _ _ (.inl rfl) e⟩,st⟩
theorem HOk.lt (x:HOk P w H h)(e:H a=some o):a < h.objs.size:=(x a o e).lt
theorem HOk.fresh (x:HOk P w H h)(e:h.objs.size≤a):H a=none:=by
 cases q:H a with
 | none=>rfl
 | some u=>exact absurd (Bw (x.lt q) e) (B_ _)
theorem HOk.kept (x:HOk P w H h)(k:∀ b u,h.get? b=some u→h'.get? b=some u):HOk P w H h':=fun a o e =>
 (x a o e).stay (fun b u _ q=>k b u q) (fun _ q=>q) fun _ _ q=>q
theorem HOk.laid (x:HOk P w H h)(k:∀ b u,h.get? b=some u→h'.get? b=some u)(hp:h.objs.size≤a)(new:bT P w (upd H a o) h' a o):HOk P w (upd H a o) h':=fun b u e=>by
 have hn:=x.fresh hp
 by_cases hb:b=a
 ·subst hb;rw [ag] at e;cases e;exact new
 ·rw [aW hb] at e
  exact (x b u e).stay (fun c v _ q=>k c v q) (fun c q=>by rw [aW (aq q hn)];exact q) fun c xs q=>by rw [aW (aq q hn)];exact q
end
def Rd (H:Hp)(a:Addr)(u:HO):Prop:=H a=some u ∨ ∃ o,H a=some (.frz o u)
theorem Rd.ok {P:Program}{w:World}{H:Hp}{h:Heap}{a:Addr}{u:HO}(r:Rd H a u)(x:HOk P w H h):bT P w H h a u:=by
 rcases r with r | ⟨o,r⟩
 ·exact x a u r
 ·obtain ⟨_,q⟩:=x a _ r
  exact q
def Mut:Option HO→Prop
 | some (.lst _)=>True
 | some (.dK _)=>True
 | some (.dT _)=>True
 | some (.set _ _)=>True
 | some (.ins _ _ _)=>True
 | some (.ext _)=>True
 | _=>False
section
variable {P:Program} {w:World} {H:Hp} {h h':Heap} {x e:Addr} {o':HO}
theorem HOk.write (ok:HOk P w H h)(mu:Mut (H x))(he:e=x ∨ H e=some (.own x))(k:∀ b u,b≠e→h.get? b=some u→h'.get? b=some u)(heo:∃ u,h'.get? e=some u)
  (new:bT P w (upd H x o') h' x o'):HOk P w (upd H x o') h':=fun b u q=>by
 have nown:∀ c y,H c=some (.own y)→c≠x:=fun c y r z=>by subst z;rw [r] at mu;exact mu
 have ntup:∀ c xs,H c=some (.tup xs)→c≠x:=fun c xs r z=>by subst z;rw [r] at mu;exact mu
 by_cases hb:b=x
 ·subst hb;rw [ag] at q;cases q;exact new
 ·rw [aW hb] at q
  by_cases hbe:b=e
  ·have q':H b=some (.own x):=by
    rcases he with z | z
    ·exact absurd (hbe.trans z) hb
    ·rw [hbe];exact z
   rw [q] at q';cases q'
   obtain ⟨v,hv⟩:=heo
   exact ⟨v,by rw [hbe];exact hv⟩
  ·refine (ok b u q).stay (fun c v hc r=>k c v ?_ r) (fun c r=>by rw [aW (nown c b r)];exact r) fun c xs r=>by rw [aW (ntup c xs r)];exact r
   rcases hc with rfl | hc
   ·exact hbe
   ·rintro rfl
    rcases he with z | z
    ·exact nown c b hc z
    ·rw [hc] at z;cases z;exact hb rfl
end
structure Un (fs ex:List Addr) (H H':Hp) (h h':Heap):Prop where
 keep:∀ b o,h.get? b=some o→H b=none→b∉fs→b∉ex→h'.get? b=some o
 slot:∀ b o,h.get? b=some o→H b=none→b∈fs→b∉ex→∃ sl,h'.get? b=some { o with slots:=sl }
 free:∀ b o,h.get? b=some o→H b=none→b∉ex→H' b=none
 there:∀ b o,h.get? b=some o→b∉ex→∃ o',h'.get? b=some o'
 tups:∀ b xs,H b=some (.tup xs)→H' b=some (.tup xs)
 frzs:∀ b o u,H b=some (.frz o u)→H' b=some (.frz o u)
 tbls:∀ b ps,H b=some (.tbl ps)→∃ more,H' b=some (.tbl (ps++more))
section
variable {fs fs' ex ex':List Addr} {H H1 H2:Hp} {h h1 h2 h':Heap} {a x e:Addr} {o:HO}
theorem Un.any (u:Un fs ex H H1 h h1){b:Addr}{ob:Obj}(q:h.get? b=some ob)(n:H b=none)(hx:b∉ex):∃ sl,h1.get? b=some { ob with slots:=sl }:=by
 by_cases hb:b∈fs
 ·exact u.slot b ob q n hb hx
 ·exact ⟨ob.slots,u.keep b ob q n hb hx⟩
theorem Un.kept (k:∀ b u,h.get? b=some u→h'.get? b=some u):Un fs ex H H h h' :=
 ⟨fun b ob q _ _ _=>k b ob q,fun b ob q _ _ _=>⟨ob.slots,k b ob q⟩,fun _ _ _ n _=>n,fun b ob q _=>⟨ob,k b ob q⟩,fun _ _ q=>q,fun _ _ _ q=>q,fun _ ps q=>⟨#[],by rw [q];simp⟩⟩
theorem Un.refl:Un fs ex H H h h:=Un.kept fun _ _ q=>q
theorem Un.laid (k:∀ b u,h.get? b=some u→h'.get? b=some u)(hp:h.objs.size≤a)(hn:H a=none):Un fs ex H (upd H a o) h h' where
 keep:=fun b u q _ _ _=>k b u q
 slot:=fun b u q _ _ _=>⟨u.slots,k b u q⟩
 free:=fun b u q n _=>by rw [aW (BP (Bw (Bl q) hp))];exact n
 there:=fun b u q _=>⟨u,k b u q⟩
 tups:=fun b xs q=>by rw [aW (aq q hn)];exact q
 frzs:=fun b u xs q=>by rw [aW (aq q hn)];exact q
 tbls:=fun b ps q=>⟨#[],by rw [aW (aq q hn),q];simp⟩
theorem Un.write (mu:Mut (H x))(he:e=x ∨ H e=some (.own x))(k:∀ b u,b≠e→h.get? b=some u→h'.get? b=some u)(heo:∃ u,h'.get? e=some u):Un fs ex H (upd H x o) h h':=by
 have hx:∀ b,H b=none→b≠x:=fun b n z=>by subst z;rw [n] at mu;exact mu
 have hb:∀ b,H b=none→b≠e:=fun b n z=>by
  subst z
  rcases he with r | r
  ·exact hx b n r
  ·rw [n] at r;cases r
 have hm:∀ b u,H b=some u→¬ Mut (some u)→b≠x:=fun b u q nm z=>by subst z;rw [q] at mu;exact nm mu
 refine ⟨fun b u q n _ _=>k b u (hb b n) q,fun b u q n _ _=>⟨u.slots,k b u (hb b n) q⟩,fun b u q n _=>by rw [aW (hx b n)];exact n,fun b u q _=>?_,
  fun b xs q=>by rw [aW (hm b _ q fun z=>z)];exact q,fun b u xs q=>by rw [aW (hm b _ q fun z=>z)];exact q,fun b ps q=>⟨#[],by rw [aW (hm b _ q fun z=>z),q];simp⟩⟩
 by_cases hbe:b=e
 ·subst hbe;exact heo
 ·exact ⟨u,k b u hbe q⟩
end
def trk (h:Heap)(H:Hp):List Addr:=(List.range h.objs.size).filter fun a=>(H a).isSome
def p7 (h:Heap)(H:Hp):Heap:=PySem.W.hideAll h (trk h H)
theorem mz (h:Heap)(H:Hp):(p7 h H).objs.size=h.objs.size:=PySem.W.hideAll_size _ _
theorem p9 {h:Heap}{H:Hp}{b:Addr}{o:Obj}(e:h.get? b=some o)(n:H b=none):(p7 h H).get? b=some o :=
 PySem.W.hideAll_get _ e fun hm=>by
  have q:(H b).isSome=true:=(Ei.mp hm).2
  rw [n] at q;simp at q
theorem tE {h:Heap}{H:Hp}{b:Addr}{o:Obj}(e:(p7 h H).get? b=some o):h.get? b=some o∧H b=none:=by
 have e':h.get? b=some o:=PySem.W.of_hideAll (trk h H) e
 refine ⟨e',?_⟩
 cases q:H b with
 | none=>rfl
 | some x =>
  have hm:b∈trk h H:=Ei.mpr ⟨Cn.mpr (Bl e'),by simp [q]⟩
  have z:(p7 h H).get? b=none:=PySem.W.hideAll_none (trk h H) hm
  rw [z] at e;cases e
structure Mod (K:PySem.W.Frag) (mg:Str→Option Value) (base:Heap):Prop where
 kin:K.In base
 glob:base.Ns mainGlobals mg
 blt:∃ mb,base.Ns builtinsNs mb∧∀ x:Str,x ≠ "__name__"→mb x=bootBuiltins x
 nolimit:base.NoLimit
/-- the context: a def's body (or a comprehension's block) running. base: fixed through the whole law;s₀,H₀: the entry;outer: the frames whose slots others may change (a def's callers);stack: all frames that run;
  ex: iterators that were made ahead of the entry and are walked here (a comprehension's);fn: the names whose cells were made at the entry (a def: all;a comprehension's block: Gp own);calm: not within an except suite;pn: Gn that every state bears;xe: what is wanted of an exception that leaves the code -/
structure Cx where
 prog:Program
 w:World
 K:PySem.W.Frag
 mg:Str→Option Value
 base:Heap
 A:Around
 N:List Str
 s₀:Shared
 H₀:Hp
 env:Env
 outer:List Env
 stack:List Env
 ex:List Addr
 fn:Str→Bool
 calm:Bool
 pn:List (Addr × Obj)
 xe:Value→Shared→Prop
def frs (l:List Env):List Addr:=l.filterMap (·.frame)
abbrev Cx.fs (X:Cx):List Addr:=frs X.outer
def Vis (sc:Scope)(x:Str):Prop:=sc.names.lookup x=some .local ∨ sc.names.lookup x=some .cell ∨ sc.names.lookup x=some .free
def Loc (sc:Scope)(x:Str):Prop:=sc.names.lookup x=some .local ∨ sc.names.lookup x=some .cell
def Am (env:Env)(h:Heap)(m:Str→Option Value)(x:Str)(u:Value):Prop :=
 (env.kindOf x=some .local∧m x=some u) ∨ ((env.kindOf x=some .cell ∨ env.kindOf x=some .free)∧∃ c,env.cells.lookup x=some c∧h.IsCell c (some u))
structure Cx.Ok (X:Cx):Prop where
 mod:Mod X.K X.mg X.base
 kind:X.env.scope.kind = .function
 glob:X.env.globals=mainGlobals
 blt:X.env.builtins=builtinsNs
 above:X.s₀.heap.objs.size≤X.env.locals
 inj:∀ x y c,X.env.cells.lookup x=some c→X.env.cells.lookup y=some c→x=y
 has:∀ x,(X.env.kindOf x=some .cell ∨ X.env.kindOf x=some .free)→∃ c,X.env.cells.lookup x=some c
 cab:∀ x c,X.fn x=true→X.env.cells.lookup x=some c→X.s₀.heap.objs.size≤c
 hd:X.calm=true→X.A.handled=none
 frames:X.A.frames=some X.stack
 stk:X.stack=X.outer ∨ (X.stack=X.env::X.outer∧X.env.frame=some X.env.locals)
 exf:∀ b∈X.ex,b≠X.env.locals∧∀ x c,X.env.cells.lookup x=some c→c≠b
 bs:∀ b o,X.base.get? b=some o→X.s₀.heap.get? b=some o∧X.H₀ b=none
 bsz:X.base.objs.size≤X.s₀.heap.objs.size
 noex:∀ b o,X.base.get? b=some o→b∉X.ex
 exfs:∀ b∈X.ex,b∉X.fs
 funs:X.s₀.heap.FunFrames X.base X.outer
 frf:∀ b∈X.fs,X.H₀ b=none
structure Inv (X:Cx) (Gn:List (Addr × Obj)) (σ:List (Option V)) (H:Hp) (s:Shared):Prop where
 ok:X.Ok
 os:s.os=X.s₀.os
 bare:AllBare s.gens
 base:Un X.fs X.ex X.H₀ H X.s₀.heap s.heap
 loc:∃ m,s.heap.Ns X.env.locals m∧∀ (i:Nat) (x:Str) (v:V),X.N[i]? = some x→σ[i]? = some (some v)→Vis X.env.scope x→∃ u,bH v u∧Am X.env s.heap m x u
 cell:∀ x c,X.env.cells.lookup x=some c→∃ v,s.heap.IsCell c v
 free:H X.env.locals=none
 freeC:∀ x c,X.env.cells.lookup x=some c→H c=none
 pin:∀ p∈X.pn++Gn,s.heap.get? p.1=some p.2∧H p.1=none∧p.1≠X.env.locals∧p.1∉X.fs∧∀ v,p.2.data ≠ .cell v
 hok:HOk X.prog X.w H s.heap
 len:σ.length=X.N.length
section
variable {X:Cx} {Gn:List (Addr × Obj)} {σ:List (Option V)} {H H':Hp} {s:Shared} {h':Heap}
theorem Cx.Ok.nofr (ok:X.Ok){b:Addr}{o:Obj}(e:X.base.get? b=some o):b∉X.fs:=fun hb=>by
 have:=(ok.funs.mem hb).1
 rw [e] at this;cases this
theorem Inv.bs (I:Inv X Gn σ H s):∀ b o,X.base.get? b=some o→s.heap.get? b=some o∧H b=none:=fun b o e =>
 ⟨I.base.keep b o (I.ok.bs b o e).1 (I.ok.bs b o e).2 (I.ok.nofr e) (I.ok.noex b o e),I.base.free b o (I.ok.bs b o e).1 (I.ok.bs b o e).2 (I.ok.noex b o e)⟩
theorem Inv.bk (I:Inv X Gn σ H s):∀ b o,X.base.get? b=some o→s.heap.get? b=some o:=fun b o e=>(I.bs b o e).1
theorem Inv.mod (I:Inv X Gn σ H s):Mod X.K X.mg X.base:=I.ok.mod
theorem Inv.kIn (I:Inv X Gn σ H s):X.K.In s.heap:=I.ok.mod.kin.keeps I.bk
theorem Inv.fr (I:Inv X Gn σ H s):∃ m,Fr X.base X.env.locals s.heap m :=
 let ⟨m,hn,_⟩:=I.loc
 ⟨m,hn,I.bk,BQ I.ok.bsz I.ok.above⟩
theorem Inv.lt (I:Inv X Gn σ H s):X.env.locals < s.heap.objs.size:=let ⟨_,hn,_⟩:=I.loc; hn.lt
theorem Inv.sz (I:Inv X Gn σ H s):X.s₀.heap.objs.size≤s.heap.objs.size:=BQ I.ok.above (Ey I.lt)
theorem Inv.nofs (I:Inv X Gn σ H s){a:Addr}(h:s.heap.objs.size≤a):a∉X.fs:=fun hb=>by
 obtain ⟨_,o,ho,_⟩:=I.ok.funs.mem hb
 exact absurd (Bw (Bl ho) (BQ I.sz h)) (B_ _)
theorem Inv.cne (I:Inv X Gn σ H s):∀ x c,X.env.cells.lookup x=some c→c≠X.env.locals:=fun x c e z=>by
 obtain ⟨v,o,ho,hd⟩:=I.cell x c e
 obtain ⟨m,⟨o',es,ep,ho',hd',_⟩,_⟩:=I.loc
 rw [z,ho'] at ho;cases ho;rw [hd'] at hd;cases hd
theorem Inv.funs (I:Inv X Gn σ H s):s.heap.FunFrames X.base X.outer:=by
 have all:∀ (l:List Env),(∀ b∈frs l,b∈X.fs)→X.s₀.heap.FunFrames X.base l→s.heap.FunFrames X.base l:=by
  intro l
  induction l with
  | nil=>intro _ _;trivial
  | cons env r ih =>
   intro hs hl
   obtain ⟨hk,⟨L,o,hf,hn,ho,hd⟩,hr⟩:=hl
   have hL:L∈X.fs:=hs L (by unfold frs;rw [Ej,hf];exact Ba)
   obtain ⟨sl,e⟩:=I.base.slot L o ho (I.ok.frf L hL) hL fun z=>I.ok.exfs L z hL
   exact ⟨hk,⟨L,_,hf,hn,e,hd⟩,ih (fun b hb=>hs b (by unfold frs;rw [Ej,hf];exact A5 _ hb)) hr⟩
 exact all X.outer (fun _ hb=>hb) I.ok.funs
theorem Inv.stack (I:Inv X Gn σ H s):s.heap.FunFrames X.base X.stack:=by
 rcases I.ok.stk with e | ⟨e,hf⟩
 ·rw [e];exact I.funs
 ·rw [e]
  obtain ⟨m,hn,_⟩:=I.loc
  refine .cons (by rw [I.ok.kind];decide) hf hn ?_ I.funs
  exact Heap.get?_none_of_le (BQ I.ok.bsz I.ok.above)
theorem Inv.stkSub (I:Inv X Gn σ H s):∀ b∈frs X.stack,b∈X.env.locals::X.fs:=fun b hb=>by
 rcases I.ok.stk with e | ⟨e,hf⟩
 ·rw [e] at hb;exact A5 _ hb
 ·rw [e] at hb
  unfold frs at hb
  rw [Ej,hf] at hb
  exact hb
theorem Inv.stkFree (I:Inv X Gn σ H s):∀ b∈frs X.stack,H b=none:=fun b hb=>by
 rcases Bm.mp (I.stkSub b hb) with e | hb
 ·rw [e];exact I.free
 ·obtain ⟨_,o,ho,_⟩:=I.ok.funs.mem hb
  exact I.base.free b o ho (I.ok.frf b hb) fun z=>I.ok.exfs b z hb
theorem Inv.step {g':Array GenState}{t':Nat}{d':Drawn}{ch:List Addr}(I:Inv X Gn σ H s)
  (hch:∀ b∈ch,(b∈X.ex ∨ X.s₀.heap.objs.size≤b)∧b≠X.env.locals∧(∀ x c,X.env.cells.lookup x=some c→c≠b)∧∀ p∈X.pn++Gn,p.1≠b)
  (keep:∀ b o,b≠X.env.locals→b∉X.fs→b∉ch→s.heap.get? b=some o→H b=none→h'.get? b=some o)
  (slot:∀ b o,b≠X.env.locals→b∈X.fs→b∉ch→s.heap.get? b=some o→H b=none→∃ sl,h'.get? b=some { o with slots:=sl }) (free:∀ b o,b∉ch→s.heap.get? b=some o→H b=none→H' b=none)
  (there:∀ b o,b∉ch→s.heap.get? b=some o→∃ o',h'.get? b=some o')
  (tups:∀ b xs,H b=some (.tup xs)→H' b=some (.tup xs)) (frzs:∀ b o u,H b=some (.frz o u)→H' b=some (.frz o u)) (tbls:∀ b ps,H b=some (.tbl ps)→∃ more,H' b=some (.tbl (ps++more)))
  (ns:∀ m,s.heap.Ns X.env.locals m→h'.Ns X.env.locals m) (hok:HOk X.prog X.w H' h') (hg:AllBare g') :
  Inv X Gn σ H' { s with heap:=h',gens:=g',drawn:=d',toks:=t' }:=by
 have neL:∀ b o,X.s₀.heap.get? b=some o→b≠X.env.locals:=fun b o e=>BP (Bw (Bl e) I.ok.above)
 have neC:∀ b o,X.s₀.heap.get? b=some o→b∉X.ex→b∉ch:=fun b o e hx hb=>by
  rcases (hch b hb).1 with z | z
  ·exact hx z
  ·exact absurd (Bw (Bl e) z) (B_ _)
 have cellK:∀ x c,X.env.cells.lookup x=some c→∀ v,s.heap.IsCell c v→h'.IsCell c v:=fun x c e v ⟨o,ho,hd⟩=>by
  have nch:c∉ch:=fun z=>(hch c z).2.2.1 x c e rfl
  by_cases hc:c∈X.fs
  ·obtain ⟨sl,q⟩:=slot c o (I.cne x c e) hc nch ho (I.freeC x c e)
   exact ⟨_,q,hd⟩
  ·exact ⟨o,keep c o (I.cne x c e) hc nch ho (I.freeC x c e),hd⟩
 refine ⟨I.ok,I.os,hg,⟨fun b o e n hb hx=>?_,fun b o e n hb hx=>?_,fun b o e n hx=>?_,fun b o e hx=>?_,fun b xs e=>tups b xs (I.base.tups b xs e),fun b o xs e=>frzs b o xs (I.base.frzs b o xs e),fun b ps e=>?_⟩,?_,fun x c e=>?_,?_,fun x c e=>?_,fun p hp=>?_,hok,I.len⟩
 ·exact keep b o (neL b o e) hb (neC b o e hx) (I.base.keep b o e n hb hx) (I.base.free b o e n hx)
 ·obtain ⟨sl,e1⟩:=I.base.slot b o e n hb hx
  obtain ⟨sl',e2⟩:=slot b _ (neL b o e) hb (neC b o e hx) e1 (I.base.free b o e n hx)
  exact ⟨sl',e2⟩
 ·obtain ⟨o',e1⟩:=I.base.there b o e hx
  exact free b o' (neC b o e hx) e1 (I.base.free b o e n hx)
 ·obtain ⟨o',e1⟩:=I.base.there b o e hx
  exact there b o' (neC b o e hx) e1
 ·obtain ⟨m1,e1⟩:=I.base.tbls b ps e
  obtain ⟨m2,e2⟩:=tbls b _ e1
  exact ⟨m1++m2,by rw [e2,Array.append_assoc]⟩
 ·obtain ⟨m,hn,hl⟩:=I.loc
  refine ⟨m,ns m hn,fun i x v e1 e2 e3=>?_⟩
  obtain ⟨u,r,l⟩:=hl i x v e1 e2 e3
  refine ⟨u,r,?_⟩
  rcases l with l | ⟨k,c,e,z⟩
  ·exact .inl l
  ·exact .inr ⟨k,c,e,cellK x c e _ z⟩
 ·obtain ⟨v,z⟩:=I.cell x c e
  exact ⟨v,cellK x c e v z⟩
 ·obtain ⟨m,⟨o,_,_,ho,_⟩,_⟩:=I.loc
  exact free _ o (fun z=>(hch _ z).2.1 rfl) ho I.free
 ·obtain ⟨v,o,ho,hd⟩:=I.cell x c e
  exact free c o (fun z=>(hch c z).2.2.1 x c e rfl) ho (I.freeC x c e)
 ·obtain ⟨e,n,ne,nf,d⟩:=I.pin p hp
  have nch:p.1∉ch:=fun z=>(hch p.1 z).2.2.2 p hp rfl
  exact ⟨keep p.1 p.2 ne nf nch e n,free p.1 p.2 nch e n,ne,nf,d⟩
theorem Inv.un {t':Nat}(I:Inv X Gn σ H s)(u:Un X.fs [] H H' s.heap h')(hok:HOk X.prog X.w H' h'):Inv X Gn σ H' { s with heap:=h',toks:=t' }:=by
 obtain ⟨m,⟨o,es,ep,ho,r⟩,_⟩:=id I.loc
 obtain ⟨sl,hL⟩:=u.any ho I.free (by simp)
 exact I.step (g':=s.gens) (d':=s.drawn) (ch:=[]) (fun _ z=>nomatch z) (fun b o _ hb _ e n=>u.keep b o e n hb (by simp)) (fun b o _ hb _ e n=>u.slot b o e n hb (by simp)) (fun b o _ e n=>u.free b o e n (by simp)) (fun b o _ e=>u.there b o e (by simp)) u.tups u.frzs u.tbls (fun m' hm=>by
  obtain ⟨o',es',ep',ho',r'⟩:=hm
  rw [ho] at ho';cases ho'
  exact ⟨_,es',ep',hL,r'⟩) hok I.bare
theorem Inv.call {g':Array GenState}{t':Nat}{d':Drawn}{ch:List Addr}(I:Inv X Gn σ H s)(u:Un (frs X.stack) ch H H' s.heap h')(hok:HOk X.prog X.w H' h')(hg:AllBare g')
  (hch:∀ b∈ch,(b∈X.ex ∨ X.s₀.heap.objs.size≤b)∧b≠X.env.locals∧(∀ x c,X.env.cells.lookup x=some c→c≠b)∧∀ p∈X.pn++Gn,p.1≠b) :
  Inv X Gn σ H' { s with heap:=h',gens:=g',drawn:=d',toks:=t' }:=by
 obtain ⟨m,⟨o,es,ep,ho,r⟩,_⟩:=id I.loc
 obtain ⟨sl,hL⟩:=u.any ho I.free fun z=>(hch _ z).2.1 rfl
 exact I.step (ch:=ch) hch (fun b o hL hb hc e n=>u.keep b o e n (fun z=>(Bm.mp (I.stkSub b z)).elim hL hb) hc) (fun b o _ _ hc e n=>u.any e n hc) (fun b o hc e n=>u.free b o e n hc) (fun b o hc e=>u.there b o e hc) u.tups u.frzs u.tbls (fun m' hm=>by
  obtain ⟨o',es',ep',ho',r'⟩:=hm
  rw [ho] at ho';cases ho'
  exact ⟨_,es',ep',hL,r'⟩) hok hg
theorem Inv.turned {t':Nat}{it:Addr}(I:Inv X Gn σ H s)(k:∀ b o,b≠it→s.heap.get? b=some o→h'.get? b=some o)(hn:H it=none)(hL:it≠X.env.locals)
  (h1:it∈X.ex ∨ X.s₀.heap.objs.size≤it) (h2:∀ x c,X.env.cells.lookup x=some c→c≠it) (h3:∀ p∈X.pn++Gn,p.1≠it):Inv X Gn σ H { s with heap:=h',toks:=t' }:=by
 have nit:∀ b u,H b=some u→b≠it:=fun b u e z=>by rw [z,hn] at e;cases e
 refine I.step (g':=s.gens) (d':=s.drawn) (ch:=[it]) (fun b hb=>?_) (fun b o _ _ hc e _=>k b o (fun z=>hc (by simp [z])) e) (fun b o _ _ hc e _=>⟨o.slots,k b o (fun z=>hc (by simp [z])) e⟩) (fun _ _ _ _ n=>n)
  (fun b o hc e=>⟨o,k b o (fun z=>hc (by simp [z])) e⟩) (fun _ _ e=>e) (fun _ _ _ e=>e) (fun b ps e=>⟨#[],by rw [e];simp⟩) (fun m hm=>?_) (fun b u e=>?_) I.bare
 ·have e:b=it:=by simpa using hb
  subst e
  exact ⟨h1,hL,h2,h3⟩
 ·obtain ⟨o,es,ep,ho,r⟩:=hm
  exact ⟨o,es,ep,k _ o (Ne.symm hL) ho,r⟩
 ·refine (I.hok b u e).stay (fun c v hc q=>k c v ?_ q) (fun _ q=>q) fun _ _ q=>q
  rcases hc with z | z
  ·rw [z];exact nit b u e
  ·exact nit c _ z
theorem Inv.tok (I:Inv X Gn σ H s)(t:Nat):Inv X Gn σ H { s with toks:=t }:=I.un (h':=s.heap) (t':=t) Un.refl I.hok
theorem Inv.kept {t':Nat}(I:Inv X Gn σ H s)(k:∀ b u,s.heap.get? b=some u→h'.get? b=some u):Inv X Gn σ H { s with heap:=h',toks:=t' }:=I.un (Un.kept k) (I.hok.kept k)
theorem Inv.laid {a:Addr}{o:HO}{t':Nat}(I:Inv X Gn σ H s)(k:∀ b u,s.heap.get? b=some u→h'.get? b=some u)(hp:s.heap.objs.size≤a)(new:bT X.prog X.w (upd H a o) h' a o) :
  Inv X Gn σ (upd H a o) { s with heap:=h',toks:=t' }:=I.un (Un.laid k hp (I.hok.fresh hp)) (I.hok.laid k hp new)
theorem Inv.write {x e:Addr}{o:HO}{t':Nat}(I:Inv X Gn σ H s)(mu:Mut (H x))(he:e=x ∨ H e=some (.own x))(k:∀ b u,b≠e→s.heap.get? b=some u→h'.get? b=some u)(heo:∃ u,h'.get? e=some u)
  (new:bT X.prog X.w (upd H x o) h' x o):Inv X Gn σ (upd H x o) { s with heap:=h',toks:=t' }:=I.un (Un.write mu he k heo) (I.hok.write mu he k heo new)
theorem Inv.pins_of {pins':List (Addr × Obj)}(I:Inv X Gn σ H s)(h:∀ p∈pins',s.heap.get? p.1=some p.2∧H p.1=none∧p.1≠X.env.locals∧p.1∉X.fs∧∀ v,p.2.data ≠ .cell v):Inv X pins' σ H s :=
 ⟨I.ok,I.os,I.bare,I.base,I.loc,I.cell,I.free,I.freeC,fun p hp=>(Bo.mp hp).elim (fun z=>I.pin p (BB _ z)) (h p),I.hok,I.len⟩
theorem j5 {N:List Str}(hN:N.Nodup){i j:Nat}{x:Str}(a:N[i]? = some x)(b:N[j]? = some x):i=j:=by
 obtain ⟨h1,e1⟩:=A6.mp a
 obtain ⟨h2,e2⟩:=A6.mp b
 exact (List.getElem_inj hN).mp (e1.trans e2.symm)
theorem mB {M:Model}{A:Around}{E:Value→Shared→Prop}{i:Nat}{x:Str}{v:V}{u:Value}{Q:Unit→Shared→Prop}(I:Inv X Gn σ H s)(hN:X.N.Nodup)(hi:X.N[i]? = some x)(hx:Loc X.env.scope x)(r:bH v u)
  (h:∀ s',Inv X Gn (σ.set i (some v)) H s'→(∃ a,Heap.SameBut a s.heap s'.heap∧(a=X.env.locals ∨ X.env.cells.lookup x=some a))→Q () s') (hf:X.fn x=true ∨ X.env.scope.names.lookup x=some .local:=by first | exact .inl rfl | exact .inr rfl | assumption):wpAny M A (storeName X.env x u) Q E s:=by
 obtain ⟨m,hn,hl⟩:=id I.loc
 have hcls:(X.env.scope.kind == .class || (X.env.scope.kind == .module && X.env.locals != X.env.globals))=false:=by rw [I.ok.kind];rfl
 have hiσ:i < σ.length:=by rw [I.len];exact (A6.mp hi).1
 have cne:=I.cne
 have tracked:∀ {a:Addr} {h':Heap},(∃ o,s.heap.get? a=some o∧H a=none)→Heap.SameBut a s.heap h'→HOk X.prog X.w H h':=fun {a h'} ha hs b ob e=>by
  obtain ⟨_,_,hfree⟩:=ha
  refine (I.hok b ob e).stay (fun c w' hc q=>(hs.2 c ?_).trans q) (fun _ q=>q) fun _ _ q=>q
  rintro rfl
  rcases hc with rfl | hc
  ·rw [hfree] at e;cases e
  ·rw [hfree] at hc;cases hc
 rcases hx with hk | hk
 ·refine wpAny_storeName_local hk hn (fun h' hn' hs=>?_) hcls
  obtain ⟨oL,_,_,hoL,_⟩:=id hn
  refine h _ ⟨I.ok,I.os,I.bare,⟨fun b o e n hb hx=>?_,fun b o e n hb hx=>?_,I.base.free,fun b o e hx=>?_,I.base.tups,I.base.frzs,I.base.tbls⟩,⟨_,hn',fun j y v' e1 e2 e3=>?_⟩,fun y c e=>?_,I.free,I.freeC,fun p hp=>?_,tracked ⟨oL,hoL,I.free⟩ hs,by simpa using I.len⟩ ⟨_,hs,.inl rfl⟩
  ·exact (hs.2 b (BP (Bw (Bl e) I.ok.above))).trans (I.base.keep b o e n hb hx)
  ·obtain ⟨sl,e1⟩:=I.base.slot b o e n hb hx
   exact ⟨sl,(hs.2 b (BP (Bw (Bl e) I.ok.above))).trans e1⟩
  ·obtain ⟨o',e1⟩:=I.base.there b o e hx
   exact ⟨o',(hs.2 b (BP (Bw (Bl e) I.ok.above))).trans e1⟩
  ·by_cases hj:j=i
   ·subst hj
    rw [hi] at e1;cases e1
    rw [Fl hiσ] at e2
    cases e2
    exact ⟨u,r,.inl ⟨hk,by simp⟩⟩
   ·rw [List.getElem?_set_ne (Ne.symm hj)] at e2
    obtain ⟨u',r',q⟩:=hl j y v' e1 e2 e3
    refine ⟨u',r',?_⟩
    rcases q with ⟨k,e⟩ | ⟨k,c,e,z⟩
    ·refine .inl ⟨k,?_⟩
     have:y≠x:=fun e=>hj (j5 hN e1 (e ▸ hi))
     simp [this,e]
    ·exact .inr ⟨k,c,e,z.sameBut hs (cne y c e)⟩
  ·obtain ⟨w',z⟩:=I.cell y c e
   exact ⟨w',z.sameBut hs (cne y c e)⟩
  ·obtain ⟨e,n,ne,nf,d⟩:=I.pin p hp
   exact ⟨(hs.2 p.1 ne).trans e,n,ne,nf,d⟩
 ·have hfn:X.fn x=true:=by
   rcases hf with z | z
   ·exact z
   ·rw [z] at hk;cases hk
  obtain ⟨c,hc⟩:=I.ok.has x (.inl hk)
  obtain ⟨w',z⟩:=I.cell x c hc
  refine wpAny_storeName_cell I.ok.kind hk hc z (fun h' hc' hs=>?_)
  obtain ⟨oc,hoc,hocd⟩:=id z
  refine h { s with heap:=h' } ⟨I.ok,I.os,I.bare,⟨fun b o e n hb hx=>?_,fun b o e n hb hx=>?_,I.base.free,fun b o e hx=>?_,I.base.tups,I.base.frzs,I.base.tbls⟩,⟨m,hn.sameBut hs (Ne.symm (cne x c hc)),fun j y v' e1 e2 e3=>?_⟩,fun y c' e=>?_,I.free,I.freeC,fun p hp=>?_,tracked ⟨oc,hoc,I.freeC x c hc⟩ hs,by simpa using I.len⟩ ⟨c,hs,.inr hc⟩
  ·exact (hs.2 b (BP (Bw (Bl e) (I.ok.cab x c hfn hc)))).trans (I.base.keep b o e n hb hx)
  ·obtain ⟨sl,e1⟩:=I.base.slot b o e n hb hx
   exact ⟨sl,(hs.2 b (BP (Bw (Bl e) (I.ok.cab x c hfn hc)))).trans e1⟩
  ·obtain ⟨o',e1⟩:=I.base.there b o e hx
   exact ⟨o',(hs.2 b (BP (Bw (Bl e) (I.ok.cab x c hfn hc)))).trans e1⟩
  ·by_cases hj:j=i
   ·subst hj
    rw [hi] at e1;cases e1
    rw [Fl hiσ] at e2
    cases e2
    exact ⟨u,r,.inr ⟨.inl hk,c,hc,hc'⟩⟩
   ·rw [List.getElem?_set_ne (Ne.symm hj)] at e2
    obtain ⟨u',r',q⟩:=hl j y v' e1 e2 e3
    refine ⟨u',r',?_⟩
    rcases q with q | ⟨k,c',e,z'⟩
    ·exact .inl q
    ·refine .inr ⟨k,c',e,z'.sameBut hs ?_⟩
     rintro rfl
     exact hj (j5 hN e1 (I.ok.inj _ _ _ e hc ▸ hi))
  ·by_cases hcc:c'=c
   ·subst hcc;exact ⟨_,hc'⟩
   ·obtain ⟨w2,z2⟩:=I.cell y c' e
    exact ⟨w2,z2.sameBut hs hcc⟩
  ·obtain ⟨e,n,ne,nf,d⟩:=I.pin p hp
   refine ⟨(hs.2 p.1 ?_).trans e,n,ne,nf,d⟩
   intro q
   rw [q,hoc] at e
   have q':oc=p.2:=A_ e
   exact d w' (by rw [← q'];exact hocd)
theorem gq {M:Model}{A:Around}{E:Value→Shared→Prop}{i:Nat}{x:Str}{v:V}{u:Value}{Q:Unit→Shared→Prop}(I:Inv X Gn σ H s)(hN:X.N.Nodup)(hi:X.N[i]? = some x)(hx:Loc X.env.scope x)(r:bH v u)
  (h:∀ s',Inv X Gn (σ.set i (some v)) H s'→Q () s') (hf:X.fn x=true ∨ X.env.scope.names.lookup x=some .local:=by first | exact .inl rfl | exact .inr rfl | assumption):wpAny M A (storeName X.env x u) Q E s :=
 mB I hN hi hx r (fun s' I' _=>h s' I') hf
theorem Inv.call' {s':Shared}{ch:List Addr}(I:Inv X Gn σ H s)(ho:s'.os=s.os)(u:Un (frs X.stack) ch H H' s.heap s'.heap)(hok:HOk X.prog X.w H' s'.heap)(hg:AllBare s'.gens)
  (hch:∀ b∈ch,(b∈X.ex ∨ X.s₀.heap.objs.size≤b)∧b≠X.env.locals∧(∀ x c,X.env.cells.lookup x=some c→c≠b)∧∀ p∈X.pn++Gn,p.1≠b):Inv X Gn σ H' s':=by
 obtain ⟨h',g',d',t',o'⟩:=s'
 have e:o'=s.os:=ho
 subst e
 exact I.call (g':=g') (t':=t') (d':=d') u hok hg hch
end
abbrev XK:=Value→Option Addr→Hp→Prop
abbrev St:=List (Option V)
abbrev VK:=V→Hp→Prop
abbrev TE:=St→Hp→VK→Prop
abbrev TT:=St→Hp→(Bool→Hp→Prop)→Prop
abbrev TA:=St→Hp→(List V→Hp→Prop)→Prop
structure j6 where
 nx:St→Hp→Prop
 rt:VK
 bk:St→Hp→Prop:=fun _ _=>False
 ct:St→Hp→Prop:=fun _ _=>False
abbrev TS:=j6→St→Hp→Prop
def EP (X:Cx)(Gn:List (Addr × Obj))(σ:St)(Q:VK)(u:Value)(s':Shared):Prop:=∃ v H',Inv X Gn σ H' s'∧bH v u∧Q v H'
def TP (X:Cx)(Gn:List (Addr × Obj))(σ:St)(Q:Bool→Hp→Prop)(b:Bool)(s':Shared):Prop:=∃ H',Inv X Gn σ H' s'∧Q b H'
def AP (X:Cx)(Gn:List (Addr × Obj))(σ:St)(Q:List V→Hp→Prop)(us:List Value)(s':Shared):Prop:=∃ vs H',Inv X Gn σ H' s'∧bh vs us∧Q vs H'
def SP (X:Cx)(Gn:List (Addr × Obj))(D:j6)(f:Flow)(s':Shared):Prop :=
 match f with
 | .next=>∃ σ' H',Inv X Gn σ' H' s'∧D.nx σ' H'
 | .brk=>∃ σ' H',Inv X Gn σ' H' s'∧D.bk σ' H'
 | .cont=>∃ σ' H',Inv X Gn σ' H' s'∧D.ct σ' H'
 | .ret u=>∃ v σ' H',Inv X Gn σ' H' s'∧bH v u∧D.rt v H'
def PE (X:Cx)(e:Expr)(t:TE):Prop :=
 ∀ (Gn:List (Addr × Obj)) (s:Shared) (σ:St) (H:Hp) (Q:VK),Inv X Gn σ H s→t σ H Q→wpAny (model X.prog X.w) X.A (eval e X.env) (EP X Gn σ Q) X.xe s
def PT (X:Cx)(e:Expr)(t:TT):Prop :=
 ∀ (Gn:List (Addr × Obj)) (s:Shared) (σ:St) (H:Hp) (Q:Bool→Hp→Prop),Inv X Gn σ H s→t σ H Q→wpAny (model X.prog X.w) X.A (isTrue e X.env (eval e X.env)) (TP X Gn σ Q) X.xe s
def PW (X:Cx)(e:Expr)(t:TT):Prop :=
 ∀ (whole:Sem Value) (Gn:List (Addr × Obj)) (s:Shared) (σ:St) (H:Hp) (Q:Bool→Hp→Prop),Inv X Gn σ H s→t σ H Q→wpAny (model X.prog X.w) X.A (isTrue e X.env whole) (TP X Gn σ Q) X.xe s
theorem PW.pt {X:Cx}{e:Expr}{t:TT}(h:PW X e t):PT X e t:=h _
def PA (X:Cx)(es:List Expr)(t:TA):Prop :=
 ∀ (pos:Pos) (Gn:List (Addr × Obj)) (s:Shared) (σ:St) (H:Hp) (Q:List V→Hp→Prop),Inv X Gn σ H s→t σ H Q→wpAny (model X.prog X.w) X.A (spliced (backTo pos (starEach es X.env))) (AP X Gn σ Q) X.xe s
def PS (X:Cx)(st:Stmt)(t:TS):Prop :=
 ∀ (Gn:List (Addr × Obj)) (s:Shared) (σ:St) (H:Hp) (D:j6),Inv X Gn σ H s→t D σ H→wpAny (model X.prog X.w) X.A (exec st X.env) (SP X Gn D) X.xe s
def PSs (X:Cx)(st:List Stmt)(t:TS):Prop :=
 ∀ (Gn:List (Addr × Obj)) (s:Shared) (σ:St) (H:Hp) (D:j6),Inv X Gn σ H s→t D σ H→wpAny (model X.prog X.w) X.A (execs st X.env) (SP X Gn D) X.xe s
theorem thn {α:Type}{t:Sem α}{Q Q':α→Shared→Prop}{M:Model}{A:Around}{E:Value→Shared→Prop}{s:Shared}(h:wpAny M A t Q E s)(hQ:∀ a s,Q a s→Q' a s):wpAny M A t Q' E s:=CH h hQ fun _ _ x=>x
section
variable {X:Cx}
inductive yg (i:Nat)(σ:St)(H:Hp)(Q:VK):Prop
 | mk:∀ v,(σ[i]? = some (some v))→(Q v H)→yg i σ H Q
def tC (v:V):TE:=fun _ H Q=>Q v H
theorem vQ {i:Nat}{x:Str}{pos:Pos}(hN:X.N[i]? = some x)(hv:Vis X.env.scope x)(hd:(x == ("__debug__":Str))=false:=by decide)(hcd:(x == ("__classdict__":Str))=false:=by decide):PE X (.Name x pos) (yg i):=by
 intro Gn s σ H Q I h
 obtain ⟨v,e,h⟩:=h
 obtain ⟨m,hn,hl⟩:=I.loc
 obtain ⟨u,r,l⟩:=hl i x v hN e hv
 have fin:EP X Gn σ Q u s:=⟨v,H,I,r,h⟩
 rcases l with ⟨hk,hm⟩ | ⟨hk,c,hc,hcell⟩
 ·exact wpAny_Name (wpAny_loadName_local I.ok.kind hk hn hm fin) hd
 ·rcases hk with hk | hk
  ·exact wpAny_Name (wpAny_loadName_cell I.ok.kind hk hc hcell fin) hd
  ·exact wpAny_Name (wpAny_loadName_free I.ok.kind hk hc hcell fin hcd) hd
theorem ai {i j pos}:PE X (.Constant (.int i) j pos) (tC (.int i)):=fun _ _ _ H _ I h=>wpAny_Constant_int ⟨.int i,H,I.tok _,⟨_,rfl⟩,h⟩
theorem ix {b j pos}:PE X (.Constant (.bool b) j pos) (tC (.bl b)):=fun _ _ _ H _ I h=>Constant_bool ⟨.bl b,H,I,rfl,h⟩
theorem bP {x j pos}:PE X (.Constant (.str x) j pos) (tC (.str x)):=fun _ _ _ H _ I h=>Calls.Constant_str ⟨.str x,H,I.tok _,⟨_,rfl⟩,h⟩
def Gl (X:Cx)(x:Str):Prop:=X.env.kindOf x=some .globalImplicit
theorem jf {E:Value→Shared→Prop}{Gn:List (Addr × Obj)}{s:Shared}{σ:St}{H:Hp}{x:Str}{u:Value}{pos:Pos}{Q:Value→Shared→Prop}(I:Inv X Gn σ H s)(hg:Gl X x)(hm:X.mg x=some u)(h:Q u s)
  (hd:(x == ("__debug__":Str))=false:=by decide):wpAny (model X.prog X.w) X.A (eval (.Name x pos) X.env) Q E s :=
 Eu I.ok.kind hg (Calls.loadGlobal_global (by rw [I.ok.glob];exact I.mod.glob.keeps I.bk) hm h) hd
theorem iy {E:Value→Shared→Prop}{Gn:List (Addr × Obj)}{s:Shared}{σ:St}{H:Hp}{x:Str}{u:Value}{pos:Pos}{Q:Value→Shared→Prop}(I:Inv X Gn σ H s)(hg:Gl X x)(hm:X.mg x=none)(hv:bootBuiltins x=some u)(h:Q u s)
  (hn:x ≠ "__name__":=by decide) (hd:(x == ("__debug__":Str))=false:=by decide):wpAny (model X.prog X.w) X.A (eval (.Name x pos) X.env) Q E s:=by
 obtain ⟨mb,h1,h2⟩:=I.mod.blt
 exact Eu I.ok.kind hg (Calls.loadGlobal_builtin (by rw [I.ok.glob];exact I.mod.glob.keeps I.bk) hm (by rw [I.ok.blt];exact h1.keeps I.bk) ((h2 x hn).trans hv) h) hd
theorem mE {x:Str}{v:V}{u:Value}{pos:Pos}(hg:Gl X x)(hm:X.mg x=some u)(r:bH v u)(hd:(x == ("__debug__":Str))=false:=by decide):PE X (.Name x pos) (tC v) :=
 fun _ _ _ H _ I h=>jf I hg hm ⟨v,H,I,r,h⟩ hd
variable {a b:Expr} {ta tb:TE} {pos:Pos}
inductive IsB (x:V)(H:Hp)(Q:Bool→Hp→Prop):Prop
 | mk:∀ c,(x = .bl c)→(Q c H)→IsB x H Q
variable {tA tB':TT} {rest:List Expr}
def tF (u:TT)(σ:St)(Q:(Bool→Hp→Prop)):Bool→Hp→Prop:=fun c H1=>if c=true then u σ H1 Q else Q false H1
def An (t u:TT):TT:=fun σ H Q=>t σ H (tF u σ Q)
def rO (u:TT)(σ:St)(Q:(Bool→Hp→Prop)):Bool→Hp→Prop:=fun c H1=>if c=true then Q true H1 else u σ H1 Q
def tOr (t u:TT):TT:=fun σ H Q=>t σ H (rO u σ Q)
def mF (Q:(Bool→Hp→Prop)):Bool→Hp→Prop:=fun c H1=>Q (!c) H1
def Ao (t:TT):TT:=fun σ H Q=>t σ H (mF Q)
theorem mG (ha:PT X a tA):PW X (.BoolOp .And [a] pos) tA:=by
 intro wh Gn s σ H Q I h
 refine isTrue_and (thn (ha Gn s σ H Q I h) fun c s1 e=>?_)
 cases c with
 | true=>exact isTrue_and_nil e
 | false=>exact e
theorem rP (ha:PT X a tA):PW X (.BoolOp .Or [a] pos) tA:=by
 intro wh Gn s σ H Q I h
 refine isTrue_or (thn (ha Gn s σ H Q I h) fun c s1 e=>?_)
 cases c with
 | false=>exact isTrue_or_nil e
 | true=>exact e
theorem rQ (ha:PT X a tA)(hb:PW X (.BoolOp .And (b::rest) pos) tB'):PW X (.BoolOp .And (a::b::rest) pos) (An tA tB'):=by
 intro wh Gn s σ H Q I h
 refine isTrue_and (thn (ha Gn s σ H _ I h) fun c s1 zq7=>?_)
 obtain ⟨H1,I1,q1⟩:=zq7
 cases c with
 | true=>exact hb wh Gn s1 σ H1 Q I1 q1
 | false=>exact ⟨H1,I1,q1⟩
theorem vR (ha:PT X a tA)(hb:PW X (.BoolOp .Or (b::rest) pos) tB'):PW X (.BoolOp .Or (a::b::rest) pos) (tOr tA tB'):=by
 intro wh Gn s σ H Q I h
 refine isTrue_or (thn (ha Gn s σ H _ I h) fun c s1 zq8=>?_)
 obtain ⟨H1,I1,q1⟩:=zq8
 cases c with
 | true=>exact ⟨H1,I1,q1⟩
 | false=>exact hb wh Gn s1 σ H1 Q I1 q1
theorem mH (ha:PT X a tA):PT X (.UnaryOp .Not a pos) (Ao tA):=by
 intro Gn s σ H Q I h
 exact isTrue_not (ha Gn s σ H (fun c H1=>Q (!c) H1) I h)
theorem vS {op}{t:TE}(h:PE X a t):PE X (.BoolOp op [a] pos) t:=fun Gn s σ H Q I hw=>BoolOp_one (h Gn s σ H Q I hw)
def mI (ta:TE)(tb:TE)(σ:St)(Q:VK):Bool→Hp→Prop:=fun c H1=>if c=true then ta σ H1 Q else tb σ H1 Q
def tIf (t:TT)(ta tb:TE):TE:=fun σ H Q=>t σ H (mI ta tb σ Q)
theorem c7 {c:Expr}(hc:PT X c tA)(ha:PE X a ta)(hb:PE X b tb):PE X (.IfExp c a b pos) (tIf tA ta tb):=by
 intro Gn s σ H Q I h
 refine wpAny_IfExp (thn (hc Gn s σ H _ I h) fun d s1 zq12=>?_)
 obtain ⟨H1,I1,q1⟩:=zq12
 cases d with
 | true=>exact ha Gn s1 σ H1 Q I1 q1
 | false=>exact hb Gn s1 σ H1 Q I1 q1
end
def SqL (K:PySem.W.Frag)(H:Hp)(a:Addr)(xs:List V):Prop :=
 Rd H a (.lst xs) ∨
  ∃ (o:Obj) (Gp:Array Value) (n:Nat),K.lookup a=some o∧o.cls = .type "list"∧o.dict=none∧o.data = .seq Gp n∧Gp.size≤sizeLine∧bh xs Gp.toList
def SqT (K:PySem.W.Frag)(H:Hp)(a:Addr)(xs:List V):Prop :=
 Rd H a (.tup xs) ∨
  ∃ (o:Obj) (Gp:Array Value) (n:Nat),K.lookup a=some o∧o.cls = .type "tuple"∧o.data = .seq Gp n∧Gp.size≤sizeLine∧bh xs Gp.toList
def Ap:Value→Option V
 | .none=>some .non
 | .bool b=>some (.bl b)
 | .int i _=>some (.int i)
 | .str x _=>some (.str x)
 | .bytes b _=>some (.byt b)
 | .float b _=>some (.flt b)
 | .ref a=>some (.ref a)
 | .type n=>some (.ty n)
 | _=>none
theorem bH.abs {x:V}{u:Value}(r:bH x u):Ap u=some x:=by
 cases x with
 | non=>cases r;rfl
 | bl _=>cases r;rfl
 | int _=>obtain ⟨t,rfl⟩:=r;rfl
 | str _=>obtain ⟨t,rfl⟩:=r;rfl
 | byt _=>obtain ⟨t,rfl⟩:=r;rfl
 | flt _=>obtain ⟨t,rfl⟩:=r;rfl
 | ref _=>cases r;rfl
 | ty _=>cases r;rfl
theorem bH.inj {x y:V}{u:Value}(r:bH x u)(q:bH y u):x=y:=A_ (r.abs.symm.trans q.abs)
theorem bh.inj:∀ {xs ys:List V} {us:List Value},bh xs us→bh ys us→xs=ys
 | _,_,_,.nil,.nil=>rfl
 | _,_,_,.cons r t,.cons r' t'=>by rw [r.inj r',bh.inj t t']
section
variable {X:Cx} {Gn:List (Addr × Obj)} {σ:St} {H:Hp} {s:Shared} {a:Addr} {xs ys:List V}
theorem SqL.of {K:PySem.W.Frag}(h:H a=some (.lst xs)):SqL K H a xs:=.inl (.inl h)
theorem SqT.of {K:PySem.W.Frag}(h:H a=some (.tup xs)):SqT K H a xs:=.inl (.inl h)
theorem Inv.list (I:Inv X Gn σ H s)(h:SqL X.K H a xs):∃ Gp:List Value,bh xs Gp∧PlainL s.heap a Gp.toArray∧xs.length≤sizeLine:=by
 rcases h with h | ⟨o,Gp,n,hk,hc,hd,hs,hz,r⟩
 ·obtain ⟨z,Gp,n,r,e⟩:=h.ok I.hok
  exact ⟨Gp,r,⟨_,n,e,rfl,rfl,rfl⟩,z⟩
 ·refine ⟨Gp.toList,r,⟨o,n,I.kIn a o hk,hc,hd,by simpa using hs⟩,?_⟩
  have e:=r.length
  simp only [A0] at e
  omega
theorem Inv.tuple (I:Inv X Gn σ H s)(h:SqT X.K H a xs):∃ Gp:List Value,bh xs Gp∧IsTup s.heap a Gp.toArray∧xs.length≤sizeLine:=by
 rcases h with h | ⟨o,Gp,n,hk,hc,hs,hz,r⟩
 ·obtain ⟨z,Gp,r,p,_⟩:=h.ok I.hok
  exact ⟨Gp,r,p,z⟩
 ·refine ⟨Gp.toList,r,⟨o,I.kIn a o hk,hc,n,by simpa using hs⟩,?_⟩
  have e:=r.length
  simp only [A0] at e
  omega
theorem Inv.list_inj (I:Inv X Gn σ H s)(h:SqL X.K H a xs)(h':SqL X.K H a ys):xs=ys:=by
 obtain ⟨Gp,r,⟨o,n,e,_,_,d⟩,_⟩:=I.list h
 obtain ⟨its',r',⟨o',n',e',_,_,d'⟩,_⟩:=I.list h'
 rw [e] at e';cases e'
 rw [d] at d'
 injection d' with d1 _
 have:Gp=its':=by simpa using Br Array.toList d1
 subst this
 exact r.inj r'
theorem Inv.tuple_inj (I:Inv X Gn σ H s)(h:SqT X.K H a xs)(h':SqT X.K H a ys):xs=ys:=by
 obtain ⟨Gp,r,⟨o,e,_,n,d⟩,_⟩:=I.tuple h
 obtain ⟨its',r',⟨o',e',_,n',d'⟩,_⟩:=I.tuple h'
 rw [e] at e';cases e'
 rw [d] at d'
 injection d' with d1 _
 have:Gp=its':=by simpa using Br Array.toList d1
 subst this
 exact r.inj r'
end
abbrev Cx.wish (X:Cx)(E:Value→Shared→Prop):Cx:={ X with xe:=E }
abbrev Cx.nox (X:Cx):Cx:=X.wish fun _ _=>False
theorem Cx.Ok.wish {X:Cx}(ok:X.Ok)(E:Value→Shared→Prop):(X.wish E).Ok :=
 ⟨ok.mod,ok.kind,ok.glob,ok.blt,ok.above,ok.inj,ok.has,ok.cab,ok.hd,ok.frames,ok.stk,ok.exf,ok.bs,ok.bsz,ok.noex,ok.exfs,ok.funs,ok.frf⟩
theorem Cx.Ok.unwish {X:Cx}{E:Value→Shared→Prop}(ok:(X.wish E).Ok):X.Ok :=
 ⟨ok.mod,ok.kind,ok.glob,ok.blt,ok.above,ok.inj,ok.has,ok.cab,ok.hd,ok.frames,ok.stk,ok.exf,ok.bs,ok.bsz,ok.noex,ok.exfs,ok.funs,ok.frf⟩
section
variable {X:Cx} {Gn:List (Addr × Obj)} {σ:St} {H:Hp} {s:Shared} {E:Value→Shared→Prop}
theorem Inv.wish (I:Inv X Gn σ H s)(E:Value→Shared→Prop):Inv (X.wish E) Gn σ H s:=⟨I.ok.wish E,I.os,I.bare,I.base,I.loc,I.cell,I.free,I.freeC,I.pin,I.hok,I.len⟩
theorem Inv.unwish (I:Inv (X.wish E) Gn σ H s):Inv X Gn σ H s:=⟨I.ok.unwish,I.os,I.bare,I.base,I.loc,I.cell,I.free,I.freeC,I.pin,I.hok,I.len⟩
theorem SP.unwish {D:j6}{f:Flow}{s':Shared}(h:SP (X.wish E) Gn D f s'):SP X Gn D f s':=by
 cases f with
 | next=>obtain ⟨σ',H',I,q⟩:=h;exact ⟨σ',H',I.unwish,q⟩
 | brk=>obtain ⟨σ',H',I,q⟩:=h;exact ⟨σ',H',I.unwish,q⟩
 | cont=>obtain ⟨σ',H',I,q⟩:=h;exact ⟨σ',H',I.unwish,q⟩
 | ret u=>obtain ⟨v,σ',H',I,r,q⟩:=h;exact ⟨v,σ',H',I.unwish,r,q⟩
theorem PSs.nox {st:List Stmt}{t:TS}(h:PSs X.nox st t):PSs X st t:=fun Gn s σ H D I hw =>
 CH (h Gn s σ H D (I.wish _) hw) (fun _ _ q=>q.unwish) fun _ _ z=>False.elim z
end
section
variable {X:Cx} {st:Stmt} {rest:List Stmt} {t u:TS} {e:Expr} {te:TE} {pos:Pos}
def ym:TS:=fun D σ H=>D.nx σ H
def Aq (t u:TS):TS:=fun D σ H=>t { D with nx:=u D } σ H
theorem bo:PSs X [] ym:=fun _ _ σ H _ I h=>Ek ⟨σ,H,I,h⟩
theorem ah (h1:PS X st t)(h2:PSs X rest u):PSs X (st::rest) (Aq t u):=by
 intro Gn s σ H D I h
 refine wpAny_execs_cons (thn (h1 Gn s σ H { D with nx:=u D } I h) fun f s1 q=>?_)
 cases f with
 | next =>
  obtain ⟨σ',H',I',q⟩:=q
  exact h2 Gn s1 σ' H' D I' q
 | ret v=>exact q
 | brk=>exact q
 | cont=>exact q
theorem aj (h1:PS X st t):PSs X [st] t:=by
 intro Gn s σ H D I h
 refine wpAny_execs_cons (thn (h1 Gn s σ H D I h) fun f s1 q=>?_)
 cases f with
 | next=>exact Ek q
 | ret v=>exact q
 | brk=>exact q
 | cont=>exact q
theorem Inv.quiet {Gn:List (Addr × Obj)}{σ:St}{H:Hp}{s:Shared}(I:Inv X Gn σ H s):interactive X.env=false:=by simp [interactive,I.ok.kind]
def p_ (D:j6)(σ:St):V→Hp→Prop:=fun _ H1=>D.nx σ H1
def yn (te:TE):TS:=fun D σ H=>te σ H (p_ D σ)
theorem cN (he:PE X e te)(hs:swapsWith e none pos.line X.env=pure false:=by rfl):PS X (.Expr e pos) (yn te):=by
 intro Gn s σ H D I h
 exact wpAny_Expr_any (thn (he Gn s σ H _ I h) fun v s1 zq15=>(by obtain ⟨x,H1,I1,r1,q1⟩:=zq15;exact ⟨σ,H1,I1,q1⟩)) I.quiet hs
def Ar (te:TE):TS:=fun D σ H=>te σ H D.rt
theorem aF (he:PE X e te):PS X (.Return (some e) pos) (Ar te):=by
 intro Gn s σ H D I h
 exact wpAny_Return_some (thn (he Gn s σ H _ I h) fun v s1 zq16=>(by obtain ⟨x,H1,I1,r1,q1⟩:=zq16;exact ⟨x,σ,H1,I1,r1,q1⟩))
def ck (t:TS)(u:TS)(D:j6)(σ:St):Bool→Hp→Prop:=fun b H1=>if b=true then t D σ H1 else u D σ H1
def As (c:TT)(t u:TS):TS:=fun D σ H=>c σ H (ck t u D σ)
theorem b_ {c:Expr}{a b:List Stmt}{tc:TT}(hc:PT X c tc)(ha:PSs X a t)(hb:PSs X b u):PS X (.If c a b pos) (As tc t u):=by
 intro Gn s σ H D I h
 refine wpAny_If (thn (hc Gn s σ H _ I h) fun d s1 zq17=>?_)
 obtain ⟨H1,I1,q1⟩:=zq17
 cases d with
 | true=>exact ha Gn s1 σ H1 D I1 q1
 | false=>exact hb Gn s1 σ H1 D I1 q1
end
abbrev TG:=V→St→Hp→(St→Hp→Prop)→Prop
def PG (X:Cx)(target:Expr)(t:TG):Prop :=
 ∀ (Gn:List (Addr × Obj)) (s:Shared) (σ:St) (H:Hp) (v:V) (u:Value) (Q:St→Hp→Prop),Inv X Gn σ H s→bH v u→t v σ H Q →
  wpAny (model X.prog X.w) X.A (assign target X.env u) (fun _ s'=>∃ σ' H',Inv X Gn σ' H' s'∧Q σ' H') X.xe s
abbrev yo:=V→V→V→Hp→(Hp→Prop)→Prop
def zT (X:Cx)(t:yo):Prop :=
 ∀ (Gn:List (Addr × Obj)) (s:Shared) (σ:St) (H:Hp) (o i v:V) (ov iv u:Value) (Q:Hp→Prop),Inv X Gn σ H s→bH o ov→bH i iv→bH v u→t o i v H Q →
  wpAny (model X.prog X.w) X.A (setItem ov iv u) (fun _ s'=>∃ H',Inv X Gn σ H' s'∧Q H') X.xe s
abbrev TIp:=V→V→Hp→VK→Prop
def PIp (X:Cx)(op:Operator)(t:TIp):Prop :=
 ∀ (Gn:List (Addr × Obj)) (s:Shared) (σ:St) (H:Hp) (x y:V) (v u:Value) (Q:VK),Inv X Gn σ H s→bH x v→bH y u→t x y H Q →
  wpAny (model X.prog X.w) X.A (inplaceOp op v u) (EP X Gn σ Q) X.xe s
section
variable {X:Cx} {pos:Pos}
def qa (i:Nat):TG:=fun v σ H Q=>Q (σ.set i (some v)) H
theorem aY {i:Nat}{x:Str}(hN:X.N.Nodup)(hi:X.N[i]? = some x)(hx:Loc X.env.scope x)(hf:X.fn x=true ∨ X.env.scope.names.lookup x=some .local:=by first | exact .inl rfl | exact .inr rfl | assumption):PG X (.Name x pos) (qa i):=by
 intro Gn s σ H v u Q I r h
 exact wpAny_assign_Name (gq I hN hi hx r (fun s' I'=>⟨_,H,I',h⟩) hf)
def Au (to ti:TE)(t:yo):TG:=fun v σ H Q=>to σ H fun o H1=>ti σ H1 fun i H2=>t o i v H2 fun H3=>Q σ H3
theorem j7 {o i:Expr}{to ti:TE}{t:yo}(ho:PE X o to)(hi:PE X i ti)(hs:zT X t)
  (ha:∀ v,assign (.Subscript o i pos) X.env v=(do
   let ov ← holding [v] (eval o X.env)
   let iv ← holding [v,ov] (eval i X.env)
   standAt pos
   holding [v,ov,iv] (setItem ov iv v)
   release [v,ov,iv] []):=by intro _;rfl):PG X (.Subscript o i pos) (Au to ti t):=by
 intro Gn s σ H v u Q I r h
 rw [ha]
 refine AX (Ca (thn (ho Gn s σ H _ I h) fun ov s1 zq19=>?_))
 obtain ⟨x,H1,I1,r1,q1⟩:=zq19
 refine AX (Ca (thn (hi Gn s1 σ H1 _ I1 q1) fun iv s2 zq20=>?_))
 obtain ⟨y,H2,I2,r2,q2⟩:=zq20
 refine AX (wpAny_standAt (AX (Ca (thn (hs Gn s2 σ H2 x y v ov iv u _ I2 r1 r2 r q2) fun _ s3 zq21=>?_))))
 obtain ⟨H3,I3,q3⟩:=zq21
 exact wpAny_release ⟨σ,H3,I3,q3⟩
def mJ (g:TG)(D:j6)(σ:St):V→Hp→Prop:=fun x H1=>g x σ H1 D.nx
def yp (te:TE)(g:TG):TS:=fun D σ H=>te σ H (mJ g D σ)
theorem j8 {tg e:Expr}{te:TE}{g:TG}(he:PE X e te)(hg:PG X tg g)(hs:swapsWithSole [tg] e pos.line X.env=pure false:=by rfl)(hw:swappedStores [tg] e X.env=pure none:=by rfl)
  (h1:(assignEach [tg] X.env).map (·.2)=[assign tg X.env]:=by rfl):PS X (.Assign [tg] e pos) (yp te g):=by
 intro Gn s σ H D I h
 refine wpAny_Assign_stores (thn (he Gn s σ H _ I h) fun v s1 zq22=>?_) hs hw
 obtain ⟨x,H1,I1,r1,q1⟩:=zq22
 rw [h1]
 exact thn (hg Gn s1 σ H1 x v _ I1 r1 q1) fun _ s2 q=>q
theorem aA {i:Nat}{x:Str}{e:Expr}{te:TE}{pos':Pos}(hN:X.N.Nodup)(hi:X.N[i]? = some x)(hx:Loc X.env.scope x)(he:PE X e te)(hs:swapsWith e (some (.Name x pos')) pos.line X.env=pure false:=by rfl)(hf:X.fn x=true ∨ X.env.scope.names.lookup x=some .local:=by first | exact .inl rfl | exact .inr rfl | assumption) :
  PS X (.Assign [.Name x pos'] e pos) (yp te (qa i)):=by
 intro Gn s σ H D I h
 refine wpAny_Assign_Name (thn (he Gn s σ H _ I h) fun v s1 zq23=>?_) hs
 obtain ⟨y,H1,I1,r1,q1⟩:=zq23
 exact gq I1 hN hi hx r1 (fun s2 I2=>⟨_,H1,I2,q1⟩) hf
inductive zU (i:Nat)(te:TE)(ti:TIp)(D:j6)(σ:St)(H:Hp):Prop
 | mk:∀ x,(σ[i]? = some (some x))→(te σ H fun y H1=>ti x y H1 fun z H2=>D.nx (σ.set i (some z)) H2)→zU i te ti D σ H
theorem rR {i:Nat}{x:Str}{e:Expr}{te:TE}{op:Operator}{ti:TIp}{pos':Pos}(hN:X.N.Nodup)(hi:X.N[i]? = some x)(hx:Loc X.env.scope x)(he:PE X e te)(ho:PIp X op ti)(hf:X.fn x=true ∨ X.env.scope.names.lookup x=some .local:=by first | exact .inl rfl | exact .inr rfl | assumption) :
  PS X (.AugAssign (.Name x pos') op e pos) (zU i te ti):=by
 intro Gn s σ H D I h
 obtain ⟨v,e1,h⟩:=h
 obtain ⟨m,hn,hl⟩:=I.loc
 have vis:Vis X.env.scope x:=by rcases hx with k | k;exact .inl k;exact .inr (.inl k)
 obtain ⟨u,r,l⟩:=hl i x v hi e1 vis
 refine wpAny_AugAssign_Name ?_
 have go:wpAny (model X.prog X.w) X.A (eval e X.env) (fun w s₂=>wpAny (model X.prog X.w) X.A (inplaceOp op u w) (fun r s₃=>wpAny (model X.prog X.w) X.A (storeName X.env x r) (fun _=>SP X Gn D .next) X.xe s₃) X.xe s₂) X.xe s:=by
  refine thn (he Gn s σ H _ I h) fun w s1 zq25=>?_
  obtain ⟨y,H1,I1,r1,q1⟩:=zq25
  refine thn (ho Gn s1 σ H1 v y u w _ I1 r r1 q1) fun z s2 zq26=>?_
  obtain ⟨zv,H2,I2,r2,q2⟩:=zq26
  exact gq I2 hN hi hx r2 (fun s3 I3=>⟨_,H2,I3,q2⟩) hf
 rcases l with ⟨hk,hm⟩ | ⟨hk,c,hc,hcell⟩
 ·exact wpAny_loadName_local I.ok.kind hk hn hm go
 ·rcases hk with hk | hk
  ·exact wpAny_loadName_cell I.ok.kind hk hc hcell go
  ·rcases hx with k | k
   ·have:X.env.scope.names.lookup x=some .free:=hk
    rw [k] at this;cases this
   ·have:X.env.scope.names.lookup x=some .free:=hk
    rw [k] at this;cases this
def ipI (f:Int→Int→Int):TIp:=fun x y H Q=>∃ i j,x = .int i∧y = .int j∧Q (.int (f i j)) H
theorem rS:PIp X .Add (ipI fun i j=>i+j):=by
 intro Gn s σ H x y v u Q I r1 r2 h
 obtain ⟨i,j,e1,e2,q⟩:=h
 subst e1;subst e2
 obtain ⟨t,rfl⟩:=r1
 obtain ⟨t',rfl⟩:=r2
 exact iadd_int ⟨.int _,H,I.tok _,⟨_,rfl⟩,q⟩
def vT (c:TT)(tb:TS):TS:=fun D σ H=>∃ W:Nat→St→Hp→Prop,(∃ m,W m σ H)∧∀ m σ H,W m σ H →
 c σ H fun b H1=>if b=true then ∃ N:St→Hp→Prop,(∀ σ' H',N σ' H'→∃ m',m' < m∧W m' σ' H')∧tb { D with nx:=N,ct:=N,bk:=D.nx } σ H1 else D.nx σ H1
theorem j9 {c:Expr}{body:List Stmt}{tc:TT}{tb:TS}(hp:PassesOwn (model X.prog X.w) X.A X.env X.xe)(hc:PT X c tc)(hb:PSs X body tb):PS X (.While c body [] pos) (vT tc tb):=by
 intro Gn s σ H D I h
 obtain ⟨W,⟨m0,w0⟩,turn⟩:=h
 refine wpAny_While (codeAny_whileLoop (fun n s'=>∃ σ' H',Inv X Gn σ' H' s'∧W n σ' H') ?_ m0 ⟨σ,H,I,w0⟩)
 rintro n s1 ⟨σ1,H1,I1,w1⟩
 refine CS hp (thn (hc Gn s1 σ1 H1 _ I1 (turn n σ1 H1 w1)) fun b s2 zq33=>?_)
 obtain ⟨H2,I2,q2⟩:=zq33
 cases b with
 | true =>
  obtain ⟨N,hN,q2⟩:=q2
  rw [if_pos rfl]
  refine CS hp (thn (hb Gn s2 σ1 H2 _ I2 q2) fun f s3 q3=>?_)
  cases f with
  | next =>
   obtain ⟨σ3,H3,I3,n3⟩:=q3
   obtain ⟨m',hm,w3⟩:=hN σ3 H3 n3
   exact ⟨m',hm,σ3,H3,I3,w3⟩
  | cont =>
   obtain ⟨σ3,H3,I3,n3⟩:=q3
   obtain ⟨m',hm,w3⟩:=hN σ3 H3 n3
   exact ⟨m',hm,σ3,H3,I3,w3⟩
  | brk=>exact q3
  | ret v=>exact q3
 | false =>
  rw [if_neg Bx]
  exact Ek ⟨σ1,H2,I2,q2⟩
end
structure It where
 go:Nat→Hp→Prop
 yld:Nat→Hp→V→Hp→Prop
 stop:Nat→Hp→Prop
def mK (X:Cx)(Gn:List (Addr × Obj))(H:Hp)(b:Addr):Prop :=
 H b=none∧b≠X.env.locals∧b∉X.fs∧(b∈X.ex ∨ X.s₀.heap.objs.size≤b)∧(∀ x c,X.env.cells.lookup x=some c→c≠b)∧∀ p∈X.pn++Gn,p.1≠b
theorem Inv.fpOk {X:Cx}{Gn:List (Addr × Obj)}{σ:St}{H H':Hp}{s:Shared}{b:Addr}(I:Inv X Gn σ H s)(hb:s.heap.objs.size≤b)(hn:H' b=none):mK X Gn H' b:=by
 refine ⟨hn,FG (Bw I.lt hb),I.nofs hb,.inr (BQ I.sz hb),fun x c e z=>?_,fun p hp z=>?_⟩
 ·obtain ⟨v,q⟩:=I.cell x c e
  exact absurd (Bw q.lt (by rw [z];exact hb)) (B_ _)
 ·exact absurd (Bw (Bl (I.pin p hp).1) (by rw [z];exact hb)) (B_ _)
structure vU (P:Program) (w:World) (K:PySem.W.Frag) (tg:Expr) (J:It) (fp:List Addr) (it:Addr) (tn:Nat→Heap→Prop):Prop where
 mem:it∈fp
 obj:∀ i h,tn i h→∀ b∈fp,∃ o,h.get? b=some o∧∀ v,o.data ≠ .cell v
 keep:∀ i h h',tn i h→(∀ b∈fp,∀ o,h.get? b=some o→h'.get? b=some o)→tn i h'
 item:∀ (X:Cx),X.prog=P→X.w=w→X.K=K→X.calm=true→∀ (i:Nat) (Gn:List (Addr × Obj)) (s:Shared) (σ:St) (H:Hp) (E:Value→Shared→Prop),Inv X Gn σ H s→(∀ b∈fp,mK X Gn H b)→tn i s.heap→J.go i H →
  wpAny (model P w) X.A (pyNext (.ref it)) (fun r s1=>∃ u,r=some u ∧
   wpAny (model P w) X.A (letOwnedTupleGo tg (.ref it) u) (fun _ s2=>∃ x H',Inv X Gn σ H' s2∧bH x u∧J.yld i H x H'∧tn (i+1) s2.heap∧∀ b∈fp,H' b=none) E s1) E s
 done:∀ (X:Cx),X.prog=P→X.w=w→X.K=K→X.calm=true→∀ (i:Nat) (Gn:List (Addr × Obj)) (s:Shared) (σ:St) (H:Hp) (E:Value→Shared→Prop),Inv X Gn σ H s→(∀ b∈fp,mK X Gn H b)→tn i s.heap→J.stop i H →
  wpAny (model P w) X.A (pyNext (.ref it)) (fun r s1=>r=none∧Inv X Gn σ H s1) E s
 self:∀ (A:Around) (i:Nat) (s:Shared) (Q:Value→Shared→Prop) (E:Value→Shared→Prop),tn i s.heap→Q (.ref it) s→wpAny (model P w) A (pyIter (.ref it)) Q E s
abbrev TI:=St→Hp→(It→Hp→Prop)→Prop
def PIE (X:Cx)(Gn:List (Addr × Obj))(σ:St)(tg:Expr)(R:It→Hp→Prop)(itv:Value)(s2:Shared):Prop :=
 ∃ (it:Addr) (fp:List Addr) (tn:Nat→Heap→Prop) (J:It) (H':Hp),itv = .ref it∧Inv X Gn σ H' s2∧vU X.prog X.w X.K tg J fp it tn∧tn 0 s2.heap∧(∀ b∈fp,mK X Gn H' b)∧R J H'
def PI (X:Cx)(tg iter:Expr)(wi:TI):Prop :=
 ∀ (Gn:List (Addr × Obj)) (s:Shared) (σ:St) (H:Hp) (R:It→Hp→Prop),Inv X Gn σ H s→wi σ H R →
  wpAny (model X.prog X.w) X.A (eval iter X.env) (fun v s1=>wpAny (model X.prog X.w) X.A (pyIter v) (PIE X Gn σ tg R) X.xe s1) X.xe s
theorem qb {M:Model}{A:Around}{E:Value→Shared→Prop}{s:Shared}{tg:Expr}{it:Addr}{u:Value}{o:Obj}{n:String}{vs:Array Value}{Q:Unit→Shared→Prop}(ho:s.heap.get? it=some o)(hc:o.cls = .type n)(hd:o.data = .fields vs)
  (hn:["enumerate","zip","dict_itemiterator","dict_reverseitemiterator","odict_iterator","itertools.zip_longest","itertools.pairwise"].contains n=false) (hQ:Q () s):wpAny M A (letOwnedTupleGo tg (.ref it) u) Q E s:=by
 unfold letOwnedTupleGo
 cases tg <;> first
  | exact A4 hQ
  | (cases u <;> first
    | exact A4 hQ
    | (
      refine AX (wpAny_load ho ?_)
      rw [hc,hd]
      show wpAny M A (if (["enumerate","zip","dict_itemiterator","dict_reverseitemiterator","odict_iterator","itertools.zip_longest","itertools.pairwise"].contains n && vs[0]? == some (rawInt _))=true then _ else _) Q E s
      rw [if_neg (by intro h;rw [hn,BI] at h;cases h)]
      exact A4 hQ))
def Itl (K:PySem.W.Frag)(a:Addr):It :=
 ⟨fun i H=>∃ xs x,SqL K H a xs∧xs[i]? = some x,fun i H x H'=>H'=H∧∀ xs,SqL K H a xs→xs[i]? = some x,fun i H=>∃ xs,SqL K H a xs∧xs.length≤i⟩
def Itt (K:PySem.W.Frag)(a:Addr):It :=
 ⟨fun i H=>∃ xs x,SqT K H a xs∧xs[i]? = some x,fun i H x H'=>H'=H∧∀ xs,SqT K H a xs→xs[i]? = some x,fun i H=>∃ xs,SqT K H a xs∧xs.length≤i⟩
def Itr (lo:Int)(n:Nat):It:=⟨fun i _=>i < n,fun i H x H'=>H'=H∧x = .int (lo+i),fun i _=>n≤i⟩
theorem mL {P:Program}{w:World}{K:PySem.W.Frag}{tg:Expr}(a it:Addr):vU P w K tg (Itl K a) [it] it (fun i h=>h.IsListIter it a i) where
 mem:=by simp
 obj:=fun i h st b hb=>by
  have e:b=it:=by simpa using hb
  subst e
  obtain ⟨o,e,c,d⟩:=st
  exact ⟨o,e,fun v z=>by rw [d] at z;cases z⟩
 keep:=fun i h h' st k=>st.at fun o e=>k it (by simp) o e
 item:=by
  intro X hP hw hK hc i Gn s σ H E I hf st hg
  subst hP hw hK
  obtain ⟨xs,x,hq,hx⟩:=hg
  obtain ⟨Gp,rv,p,hz⟩:=I.list hq
  obtain ⟨u,hu,ru⟩:=rv.get hx
  obtain ⟨f0,f1,f2,f3,f4,f5⟩:=hf it (by simp)
  refine wpAny_pyNext_list_item st p.isList (x:=u) (by simpa using hu) fun h' st' sb=>?_
  have I1:Inv X Gn σ H { s with heap:=h' }:=I.turned (t':=s.toks) (fun b o hb e=>(sb.2 b hb).trans e) f0 f1 f3 f4 f5
  obtain ⟨o,e,c,d⟩:=id st'
  exact ⟨u,rfl,qb (s:={ s with heap:=h' }) e c d (by decide) ⟨x,H,I1,ru,⟨rfl,fun ys hy=>by rw [I.list_inj hy hq];exact hx⟩,st',fun b hb=>(hf b hb).1⟩⟩
 done:=by
  intro X hP hw hK hc i Gn s σ H E I hf st hg
  subst hP hw hK
  obtain ⟨xs,hq,hx⟩:=hg
  obtain ⟨Gp,rv,p,hz⟩:=I.list hq
  obtain ⟨f0,f1,f2,f3,f4,f5⟩:=hf it (by simp)
  have hl:=rv.length
  exact wpAny_pyNext_list_end (I.ok.hd hc) st p.isList (by simp;omega) fun h' eb=>⟨rfl,I.turned (t':=s.toks) (fun b o hb e=>eb b o hb e) f0 f1 f3 f4 f5⟩
 self:=fun _ _ _ _ _ st h=>wpAny_pyIter_listiter st h
theorem lC {P:Program}{w:World}{K:PySem.W.Frag}{tg:Expr}(a it:Addr):vU P w K tg (Itt K a) [it] it (fun i h=>h.IsTupleIter it a i) where
 mem:=by simp
 obj:=fun i h st b hb=>by
  have e:b=it:=by simpa using hb
  subst e
  obtain ⟨o,e,c,d⟩:=st
  exact ⟨o,e,fun v z=>by rw [d] at z;cases z⟩
 keep:=fun i h h' st k=>st.at fun o e=>k it (by simp) o e
 item:=by
  intro X hP hw hK hc i Gn s σ H E I hf st hg
  subst hP hw hK
  obtain ⟨xs,x,hq,hx⟩:=hg
  obtain ⟨Gp,rv,p,hz⟩:=I.tuple hq
  obtain ⟨u,hu,ru⟩:=rv.get hx
  obtain ⟨f0,f1,f2,f3,f4,f5⟩:=hf it (by simp)
  refine wpAny_pyNext_tuple_item st (show s.heap.IsTuple a Gp.toArray from p) (x:=u) (by simpa using hu) fun h' st' sb=>?_
  have I1:Inv X Gn σ H { s with heap:=h' }:=I.turned (t':=s.toks) (fun b o hb e=>(sb.2 b hb).trans e) f0 f1 f3 f4 f5
  obtain ⟨o,e,c,d⟩:=id st'
  exact ⟨u,rfl,qb (s:={ s with heap:=h' }) e c d (by decide) ⟨x,H,I1,ru,⟨rfl,fun ys hy=>by rw [I.tuple_inj hy hq];exact hx⟩,st',fun b hb=>(hf b hb).1⟩⟩
 done:=by
  intro X hP hw hK hc i Gn s σ H E I hf st hg
  subst hP hw hK
  obtain ⟨xs,hq,hx⟩:=hg
  obtain ⟨Gp,rv,p,hz⟩:=I.tuple hq
  obtain ⟨f0,f1,f2,f3,f4,f5⟩:=hf it (by simp)
  have hl:=rv.length
  exact wpAny_pyNext_tuple_end (I.ok.hd hc) st (show s.heap.IsTuple a Gp.toArray from p) (by simp;omega) fun h' eb=>⟨rfl,I.turned (t':=s.toks) (fun b o hb e=>eb b o hb e) f0 f1 f3 f4 f5⟩
 self:=fun _ _ _ _ _ st h=>wpAny_pyIter_tupleiter st h
theorem lE {P:Program}{w:World}{K:PySem.W.Frag}{tg:Expr}(it:Addr)(lo:Int)(n:Nat):vU P w K tg (Itr lo n) [it] it (fun i h=>IsRangeIter h it (lo+(i:Nat)*1) ((n:Int) - (i:Nat)) 1) where
 mem:=by simp
 obj:=fun i h st b hb=>by
  have e:b=it:=by simpa using hb
  subst e
  exact ⟨_,st,fun v z=>by
   have z':Data.fields _=Data.cell v:=z
   cases z'⟩
 keep:=fun i h h' st k=>k it (by simp) _ st
 item:=by
  intro X hP hw hK hc i Gn s σ H E I hf st hg
  subst hP hw hK
  obtain ⟨f0,f1,f2,f3,f4,f5⟩:=hf it (by simp)
  have W:=Walks.range (prog:=X.prog) (w:=X.w) (I.ok.hd hc) it lo 1 n
  refine W.item i s _ _ hg st fun v h' tk hv st' kk=>?_
  obtain ⟨t,rfl⟩:=hv
  have I1:Inv X Gn σ H { s with heap:=h',toks:=tk }:=I.turned (fun b o hb e=>kk b o (by simpa using hb) e) f0 f1 f3 f4 f5
  refine ⟨_,rfl,qb (s:={ s with heap:=h',toks:=tk }) (n:="range_iterator") st' rfl rfl (by decide) ⟨.int (lo+i),H,I1,⟨t,?_⟩,⟨rfl,rfl⟩,st',fun b hb=>(hf b hb).1⟩⟩
  rw [Int.mul_one]
 done:=by
  intro X hP hw hK hc i Gn s σ H E I hf st hg
  subst hP hw hK
  obtain ⟨f0,f1,f2,f3,f4,f5⟩:=hf it (by simp)
  exact wpAny_pyNext_range_end (I.ok.hd hc) st (by have:n≤i:=hg;omega) fun h' eb=>⟨rfl,I.turned (t':=s.toks) (fun b o hb e=>eb b o hb e) f0 f1 f3 f4 f5⟩
 self:=fun _ _ _ _ _ st h=>wpAny_pyIter_rangeiter st h
section
variable {X:Cx} {tg:Expr}
def yq (K:PySem.W.Frag)(tl:TE):TI:=fun σ H R=>tl σ H fun x H1=>∃ a,x = .ref a∧(∃ xs,SqL K H1 a xs)∧R (Itl K a) H1
def Av (K:PySem.W.Frag)(tl:TE):TI:=fun σ H R=>tl σ H fun x H1=>∃ a,x = .ref a∧(∃ xs,SqT K H1 a xs)∧R (Itt K a) H1
theorem jg {l:Expr}{tl:TE}(hl:PE X l tl):PI X tg l (yq X.K tl):=by
 intro Gn s σ H R I h
 refine thn (hl Gn s σ H _ I h) fun v s1 zq34=>?_
 obtain ⟨x,H1,I1,r1,q1⟩:=zq34
 obtain ⟨a,e,⟨xs,hq⟩,q⟩:=q1
 subst e
 cases r1
 obtain ⟨Gp,rv,p,hz⟩:=I1.list hq
 refine EM p.isList ?_
 refine ⟨s1.heap.objs.size,[s1.heap.objs.size],_,_,H1,rfl,I1.kept (t':=s1.toks) fun b o e=>A3 _ e,mL a _,⟨_,Bh _ rfl,rfl,rfl⟩,fun b hb=>?_,q⟩
 have e:b=s1.heap.objs.size:=by simpa using hb
 subst e
 exact I1.fpOk (A8 _) (I1.hok.fresh (A8 _))
theorem rT {l:Expr}{tl:TE}(hl:PE X l tl):PI X tg l (Av X.K tl):=by
 intro Gn s σ H R I h
 refine thn (hl Gn s σ H _ I h) fun v s1 zq35=>?_
 obtain ⟨x,H1,I1,r1,q1⟩:=zq35
 obtain ⟨a,e,⟨xs,hq⟩,q⟩:=q1
 subst e
 cases r1
 obtain ⟨Gp,rv,p,hz⟩:=I1.tuple hq
 refine Ez (show s1.heap.IsTuple a Gp.toArray from p) ?_
 refine ⟨s1.heap.objs.size,[s1.heap.objs.size],_,_,H1,rfl,I1.kept (t':=s1.toks) fun b o e=>A3 _ e,lC a _,⟨_,Bh _ rfl,rfl,rfl⟩,fun b hb=>?_,q⟩
 have e:b=s1.heap.objs.size:=by simpa using hb
 subst e
 exact I1.fpOk (A8 _) (I1.hok.fresh (A8 _))
theorem j_ {Gn:List (Addr × Obj)}{σ:St}{H:Hp}{s:Shared}{R:It→Hp→Prop}{E:Value→Shared→Prop}{lo hi:Int}{t u v:Tok}{tk:Nat}(I:Inv X Gn σ H s)(h1:-(2 ^ 62)≤lo)(h2:lo < 2 ^ 62)(h3:-(2 ^ 62)≤hi)(h4:hi < 2 ^ 62)
  (q:R (Itr lo (hi - lo).toNat) H):wpAny (model X.prog X.w) X.A (pyIter (.ref s.heap.objs.size)) (PIE X Gn σ tg R) E { s with heap:=s.heap.push { cls:=.type "range",data:=.fields #[.int lo t,.int hi u,.int 1 v] },toks:=tk }:=by
 refine wpAny_pyIter_range (IsRange.new ..) (small_one h1 h2 h3 h4) ?_
 have I1:Inv X Gn σ H { s with heap:=s.heap.push { cls:=.type "range",data:=.fields #[.int lo t,.int hi u,.int 1 v] },toks:=tk }:=I.kept fun b o e=>A3 _ e
 refine ⟨(s.heap.push { cls:=.type "range",data:=.fields #[.int lo t,.int hi u,.int 1 v] }).objs.size,[(s.heap.push { cls:=.type "range",data:=.fields #[.int lo t,.int hi u,.int 1 v] }).objs.size],_,_,H,rfl,
  I1.kept (t':=tk) fun b o e=>A3 _ e,lE _ lo (hi - lo).toNat,?_,fun b hb=>?_,q⟩
 ·have e1:lo+((0:Nat):Int)*1=lo:=by simp
  have e2:(((hi - lo).toNat:Nat):Int) - ((0:Nat):Int)=Builtin.Range.rangeSize lo hi 1:=by rw [rangeSize_one];split <;> omega
  show IsRangeIter _ _ (lo+((0:Nat):Int)*1) ((((hi - lo).toNat:Nat):Int) - ((0:Nat):Int)) 1
  rw [e1,e2]
  exact Bh _ rfl
 ·have e:b=(s.heap.push { cls:=.type "range",data:=.fields #[.int lo t,.int hi u,.int 1 v] }).objs.size:=by simpa using hb
  subst e
  exact I1.fpOk (A8 _) (I1.hok.fresh (A8 _))
def yr (ta:TA):TI:=fun σ H R=>ta σ H fun vs H1=>∃ j:Int,vs=[.int j]∧-(2 ^ 62)≤j∧j < 2 ^ 62∧R (Itr 0 j.toNat) H1
def yt (ta:TA):TI:=fun σ H R=>ta σ H fun vs H1=>∃ i j:Int,vs=[.int i,.int j]∧(-(2 ^ 62)≤i∧i < 2 ^ 62∧-(2 ^ 62)≤j∧j < 2 ^ 62)∧R (Itr i (j - i).toNat) H1
theorem bK {a:Expr}{ta:TA}{p pos:Pos}(hg:Gl X "range")(hm:X.mg "range" = none)(ha:PA X [a] ta)(hs:starEach [a] X.env=[(false,eval a X.env)]:=by rfl):PI X tg (.Call (.Name "range" p) [a] [] pos) (yr ta):=by
 intro Gn s σ H R I h
 refine Call_ (iy I hg hm boot_range (CI (thn (ha pos Gn s σ H _ I h) fun us s1 zq36=>?_) hs rfl))
 obtain ⟨vs,H1,I1,r1,q1⟩:=zq36
 obtain ⟨j,e,q1,q2,q⟩:=q1
 subst e
 cases r1 with
 | cons r rr =>
  cases rr
  obtain ⟨t,rfl⟩:=r
  exact call_range_1 (j_ I1 (by omega) (by omega) q1 q2 (by simpa using q))
theorem fh {a b:Expr}{ta:TA}{p pos:Pos}(hg:Gl X "range")(hm:X.mg "range" = none)(ha:PA X [a,b] ta)(hs:starEach [a,b] X.env=[(false,eval a X.env),(false,eval b X.env)]:=by rfl)(hs2:starEach [b] X.env=[(false,eval b X.env)]:=by rfl) :
  PI X tg (.Call (.Name "range" p) [a,b] [] pos) (yt ta):=by
 intro Gn s σ H R I h
 refine Call_ (iy I hg hm boot_range (CI (thn (ha pos Gn s σ H _ I h) fun us s1 zq37=>?_) (by rw [hs,hs2]) (by rw [hs2];rfl)))
 obtain ⟨vs,H1,I1,r1,q1⟩:=zq37
 obtain ⟨i,j,e,⟨q1,q2,q3,q4⟩,q⟩:=q1
 subst e
 cases r1 with
 | cons r rr =>
  cases rr with
  | cons r' rr =>
   cases rr
   obtain ⟨t,rfl⟩:=r
   obtain ⟨t',rfl⟩:=r'
   exact call_range_2 (j_ I1 q1 q2 q3 q4 q)
def Aw (wi:TI)(g:TG)(tb:TS):TS:=fun D σ H=>wi σ H fun J H1=>∃ W:Nat→Nat→St→Hp→Prop,(∃ m,W 0 m σ H1)∧∀ i m σ H,W i m σ H →
 (J.stop i H∧D.nx σ H) ∨ (J.go i H∧∃ N:St→Hp→Prop,(∀ σ' H',N σ' H'→∃ m',m' < m∧W (i+1) m' σ' H')∧∀ x H',J.yld i H x H'→g x σ H' fun σ2 H2=>tb { D with nx:=N,ct:=N,bk:=D.nx } σ2 H2)
def iz (fp:List Addr)(h:Heap):List (Addr × Obj):=fp.filterMap fun b=>(h.get? b).map fun o=>(b,o)
theorem c8 {fp:List Addr}{h:Heap}{b:Addr}{o:Obj}(hb:b∈fp)(e:h.get? b=some o):(b,o)∈iz fp h:=EA.mpr ⟨b,hb,by rw [e]; rfl⟩
theorem mM {fp:List Addr}{h:Heap}{p:Addr × Obj}(hp:p∈iz fp h):p.1∈fp∧h.get? p.1=some p.2:=by
 obtain ⟨b,hb,e⟩:=EA.mp hp
 cases q:h.get? b with
 | none=>rw [q] at e;cases e
 | some o =>
  rw [q] at e
  have e':(b,o)=p:=A_ e
  subst e'
  exact ⟨hb,q⟩
theorem Inv.pinned {Gn:List (Addr × Obj)}{σ:St}{H:Hp}{s:Shared}{fp:List Addr}(I:Inv X Gn σ H s)(hf:∀ b∈fp,mK X Gn H b)(ho:∀ b∈fp,∃ o,s.heap.get? b=some o∧∀ v,o.data ≠ .cell v):Inv X (Gn++iz fp s.heap) σ H s :=
 I.pins_of fun p hp=>(Bo.mp hp).elim (fun z=>I.pin p (Bk _ z)) fun z=>by
  obtain ⟨hb,e⟩:=mM z
  obtain ⟨f0,f1,f2,_⟩:=hf p.1 hb
  obtain ⟨o,e',d⟩:=ho p.1 hb
  rw [e] at e';cases e'
  exact ⟨e,f0,f1,f2,d⟩
theorem Inv.unpinned {Gn pl:List (Addr × Obj)}{σ:St}{H:Hp}{s:Shared}(I:Inv X (Gn++pl) σ H s):Inv X Gn σ H s:=I.pins_of fun p hp=>I.pin p (Bk _ (BB _ hp))
theorem cE {iter:Expr}{body:List Stmt}{wi:TI}{g:TG}{tb:TS}{pos:Pos}(hp:PassesOwn (model X.prog X.w) X.A X.env X.xe)(hc:X.calm=true)(hi:PI X tg iter wi)(hg:PG X tg g)(hb:PSs X body tb)
  (hs:∀ x,foldedSetIterable iter X.env x=pure x:=by intro _;rfl):PS X (.For tg iter body [] pos) (Aw wi g tb):=by
 intro Gn s σ H D I h
 refine wpAny_For (thn (hi Gn s σ H _ I h) fun v s1 h1=>thn h1 fun itv s2 h2=>?_) hs
 obtain ⟨it,fp,tn,J,H2,e,I2,T,GQ,f2,W,⟨m0,w0⟩,turn⟩:=h2
 subst e
 -- what stays true of the iterator's objects through the loop
 have stat:∀ {H':Hp},(∀ b∈fp,H' b=none)→∀ b∈fp,mK X Gn H' b:=fun hn b hb=>⟨hn b hb,(f2 b hb).2⟩
 refine codeAny_forLoop_any (fun n s'=>∃ i σ' H',Inv X Gn σ' H' s'∧tn i s'.heap∧(∀ b∈fp,H' b=none)∧W i n σ' H') ?_ m0 ⟨0,σ,H2,I2,GQ,fun b hb=>(f2 b hb).1,w0⟩
 rintro n s3 ⟨i,σ3,H3,I3,st3,fr3,w3⟩
 rcases turn i n σ3 H3 w3 with ⟨stop,qn⟩ | ⟨go,N,hN,step⟩
 ·refine CS hp (thn (T.done X rfl rfl rfl hc i Gn s3 σ3 H3 X.xe I3 (stat fr3) st3 stop) fun r s4 zq38=>?_)
  obtain ⟨hr,I4⟩:=zq38
  subst hr
  exact Ek ⟨σ3,H3,I4,qn⟩
 ·refine CS hp (thn (T.item X rfl rfl rfl hc i Gn s3 σ3 H3 X.xe I3 (stat fr3) st3 go) fun r s4 zq39=>?_)
  obtain ⟨u,hr,h4⟩:=zq39
  subst hr
  refine CS hp (thn h4 fun _ s5 zq40=>?_)
  obtain ⟨x,H5,I5,r5,y5,st5,fr5⟩:=zq40
  have I5':=I5.pinned (stat fr5) (T.obj _ _ st5)
  refine CS hp (thn (hg _ s5 σ3 H5 x u _ I5' r5 (step x H5 y5)) fun _ s6 zq41=>?_)
  obtain ⟨σ6,H6,I6,q6⟩:=zq41
  refine CS hp (thn (hb _ s6 σ6 H6 _ I6 q6) fun f s7 q7=>?_)
  have again:∀ {σ7:St} {H7:Hp},Inv X (Gn++iz fp s5.heap) σ7 H7 s7→N σ7 H7→∃ m,m < n∧∃ i σ' H',Inv X Gn σ' H' s7∧tn i s7.heap∧(∀ b∈fp,H' b=none)∧W i m σ' H':=fun {σ7 H7} I7 n7=>by
   obtain ⟨m',hm,w7⟩:=hN σ7 H7 n7
   refine ⟨m',hm,i+1,σ7,H7,I7.unpinned,T.keep _ _ _ st5 fun b hb o e=>(I7.pin (b,o) (Bk _ (Bk _ (c8 hb e)))).1,fun b hb=>?_,w7⟩
   obtain ⟨o,e,d⟩:=T.obj _ _ st5 b hb
   exact (I7.pin (b,o) (Bk _ (Bk _ (c8 hb e)))).2.1
  cases f with
  | next=>obtain ⟨σ7,H7,I7,n7⟩:=q7;exact again I7 n7
  | cont=>obtain ⟨σ7,H7,I7,n7⟩:=q7;exact again I7 n7
  | brk=>obtain ⟨σ7,H7,I7,q7⟩:=q7;exact ⟨σ7,H7,I7.unpinned,q7⟩
  | ret v=>obtain ⟨x7,σ7,H7,I7,r7,q7⟩:=q7;exact ⟨x7,σ7,H7,I7.unpinned,r7,q7⟩
end
theorem tG {K:PySem.W.Frag}{a:Addr}{xs:List V}{g:TG}{tb:TS}{D:j6}{σ:St}{H:Hp}(Pv:Nat→St→Hp→Prop)(h0:Pv 0 σ H)(hl:∀ i σ H,i≤xs.length→Pv i σ H→SqT K H a xs)
  (hs:∀ i x σ H,xs[i]? = some x→Pv i σ H→g x σ H fun σ2 H2=>tb { D with nx:=Pv (i+1),ct:=Pv (i+1),bk:=D.nx } σ2 H2) (hd:∀ σ H,Pv xs.length σ H→D.nx σ H) :
  ∃ W:Nat→Nat→St→Hp→Prop,(∃ m,W 0 m σ H)∧∀ i m σ H,W i m σ H →
   ((Itt K a).stop i H∧D.nx σ H) ∨ ((Itt K a).go i H∧∃ N:St→Hp→Prop,(∀ σ' H',N σ' H'→∃ m',m' < m∧W (i+1) m' σ' H')∧∀ x H',(Itt K a).yld i H x H'→g x σ H' fun σ2 H2=>tb { D with nx:=N,ct:=N,bk:=D.nx } σ2 H2):=by
 refine ⟨fun i m σ H=>m=xs.length - i∧i≤xs.length∧Pv i σ H,⟨xs.length,by simp,BO _,h0⟩,?_⟩
 rintro i m σ H ⟨rfl,hi,p⟩
 have q:=hl i σ H hi p
 by_cases Gw:i < xs.length
 ·refine .inr ⟨⟨xs,xs[i],q,by simp [Gw]⟩,Pv (i+1),fun σ' H' p'=>⟨xs.length - (i+1),by omega,rfl,Gw,p'⟩,fun x H' y=>?_⟩
  obtain ⟨e,y⟩:=y
  subst e
  exact hs i x σ _ (y xs q) p
 ·have e:i=xs.length:=by omega
  subst e
  exact .inl ⟨⟨xs,q,A8 _⟩,hd σ H p⟩
theorem bD {lo:Int}{n:Nat}{g:TG}{tb:TS}{D:j6}{σ:St}{H:Hp}(Pv:Nat→St→Hp→Prop)(h0:Pv 0 σ H)
  (hs:∀ i σ H,i < n→Pv i σ H→g (.int (lo+i)) σ H fun σ2 H2=>tb { D with nx:=Pv (i+1),ct:=Pv (i+1),bk:=D.nx } σ2 H2) (hd:∀ σ H,Pv n σ H→D.nx σ H) :
  ∃ W:Nat→Nat→St→Hp→Prop,(∃ m,W 0 m σ H)∧∀ i m σ H,W i m σ H →
   ((Itr lo n).stop i H∧D.nx σ H) ∨ ((Itr lo n).go i H∧∃ N:St→Hp→Prop,(∀ σ' H',N σ' H'→∃ m',m' < m∧W (i+1) m' σ' H')∧∀ x H',(Itr lo n).yld i H x H'→g x σ H' fun σ2 H2=>tb { D with nx:=N,ct:=N,bk:=D.nx } σ2 H2):=by
 refine ⟨fun i m σ H=>m=n - i∧i≤n∧Pv i σ H,⟨n,by simp,BO _,h0⟩,?_⟩
 rintro i m σ H ⟨rfl,hi,p⟩
 by_cases Gw:i < n
 ·refine .inr ⟨Gw,Pv (i+1),fun σ' H' p'=>⟨n - (i+1),by omega,rfl,Gw,p'⟩,fun x H' y=>?_⟩
  obtain ⟨e,y⟩:=y
  subst e y
  exact hs i σ _ Gw p
 ·have e:i=n:=by omega
  subst e
  exact .inl ⟨A8 _,hd σ H p⟩
abbrev R2:=V→V→Hp→VK→Prop
def OpR (X:Cx)(f:Value→Value→Sem Value)(r:R2):Prop :=
 ∀ (Gn:List (Addr × Obj)) (s:Shared) (σ:St) (H:Hp) (x y:V) (v u:Value) (Q:VK),Inv X Gn σ H s→bH x v→bH y u→r x y H Q →
  wpAny (model X.prog X.w) X.A (f v u) (EP X Gn σ Q) X.xe s
def UnR (X:Cx)(f:Value→Sem Value)(r:V→Hp→VK→Prop):Prop :=
 ∀ (Gn:List (Addr × Obj)) (s:Shared) (σ:St) (H:Hp) (x:V) (v:Value) (Q:VK),Inv X Gn σ H s→bH x v→r x H Q →
  wpAny (model X.prog X.w) X.A (f v) (EP X Gn σ Q) X.xe s
def cL (X:Cx)(f:Value)(r:List V→Hp→VK→Prop):Prop :=
 ∀ (Gn:List (Addr × Obj)) (s:Shared) (σ:St) (H:Hp) (xs:List V) (us:List Value) (Q:VK),Inv X Gn σ H s→bh xs us→r xs H Q →
  wpAny (model X.prog X.w) X.A (call f us) (EP X Gn σ Q) X.xe s
def Ax (X:Cx)(r:V→Hp→(Bool→Hp→Prop)→Prop):Prop :=
 ∀ (Gn:List (Addr × Obj)) (s:Shared) (σ:St) (H:Hp) (x:V) (v:Value) (Q:Bool→Hp→Prop),Inv X Gn σ H s→bH x v→r x H Q →
  wpAny (model X.prog X.w) X.A (truthy v) (TP X Gn σ Q) X.xe s
def vV (r:R2)(Q:VK)(x:V):V→Hp→Prop:=fun y H2=>r x y H2 Q
def vW (r:R2)(tb:TE)(σ:St)(Q:VK):V→Hp→Prop:=fun x H1=>tb σ H1 (vV r Q x)
def tOp (r:R2)(ta tb:TE):TE:=fun σ H Q=>ta σ H (vW r tb σ Q)
def vX (r:V→Hp→VK→Prop)(Q:VK):V→Hp→Prop:=fun x H1=>r x H1 Q
def tUn (r:V→Hp→VK→Prop)(ta:TE):TE:=fun σ H Q=>ta σ H (vX r Q)
inductive rI (C:Int→Int→Prop)(g:Int→Int→V)(x:V)(y:V)(H:Hp)(Q:VK):Prop
 | mk:∀ i j,(x = .int i)→(y = .int j)→(C i j)→(Q (g i j) H)→rI C g x y H Q
inductive rI0 (g:Int→Int→V)(x:V)(y:V)(H:Hp)(Q:VK):Prop
 | mk:∀ i j,(x = .int i)→(y = .int j)→(Q (g i j) H)→rI0 g x y H Q
inductive rU (g:Int→V)(x:V)(H:Hp)(Q:VK):Prop
 | mk:∀ i,(x = .int i)→(Q (g i) H)→rU g x H Q
section
variable {X:Cx} {a b c:Expr} {ta tb tc:TE} {pos:Pos}
theorem yu (ha:PE X a ta)(hb:PE X b tb){Gn:List (Addr × Obj)}{s:Shared}{σ:St}{H:Hp}{R:V→V→Hp→Prop}(I:Inv X Gn σ H s)
  (h:ta σ H fun x H1=>tb σ H1 fun y H2=>R x y H2) {Q:Value→Shared→Prop} {f:Value→Value→Sem Value}
  (hf:∀ v u s2 x y H2,Inv X Gn σ H2 s2→bH x v→bH y u→R x y H2→wpAny (model X.prog X.w) X.A (f v u) Q X.xe s2) :
  wpAny (model X.prog X.w) X.A (eval a X.env) (fun v s₁=>wpAny (model X.prog X.w) X.A (eval b X.env) (fun u s₂=>wpAny (model X.prog X.w) X.A (f v u) Q X.xe s₂) X.xe s₁) X.xe s:=by
 refine thn (ha Gn s σ H _ I h) fun v s1 zq42=>?_
 obtain ⟨x,H1,I1,r1,q1⟩:=zq42
 refine thn (hb Gn s1 σ H1 _ I1 q1) fun u s2 zq43=>?_
 obtain ⟨y,H2,I2,r2,q2⟩:=zq43
 exact hf v u s2 x y H2 I2 r1 r2 q2
theorem aK {op:Operator}{r:R2}(ho:OpR X (binaryOp op) r)(ha:PE X a ta)(hb:PE X b tb):PE X (.BinOp a op b pos) (tOp r ta tb):=by
 intro Gn s σ H Q I h
 exact wpAny_BinOp (yu ha hb I h fun v u s2 x y H2 I2 rx ry q=>ho Gn s2 σ H2 x y v u Q I2 rx ry q)
theorem di {op:UnaryOp}{r:V→Hp→VK→Prop}(ho:UnR X (unaryOp op) r)(ha:PE X a ta):PE X (.UnaryOp op a pos) (tUn r ta):=by
 intro Gn s σ H Q I h
 exact UnaryOp_ (thn (ha Gn s σ H _ I h) fun v s1 zq44=>(by obtain ⟨x,H1,I1,r1,q1⟩:=zq44;exact ho Gn s1 σ H1 x v Q I1 r1 q1))
theorem opI {f:Value→Value→Sem Value}{C:Int→Int→Prop}{g:Int→Int→Int}
  (rule:∀ (i j:Int) (t u:Tok) (s:Shared) (Q:Value→Shared→Prop) (E:Value→Shared→Prop),C i j→Q (.int (g i j) s.toks) { s with toks:=s.toks+1 }→wpAny (model X.prog X.w) X.A (f (.int i t) (.int j u)) Q E s) :
  OpR X f (rI C fun i j=>.int (g i j)):=by
 intro Gn s σ H x y v u Q I rx ry h
 obtain ⟨i,j,rfl,rfl,hc,q⟩:=h
 obtain ⟨t,rfl⟩:=rx
 obtain ⟨t',rfl⟩:=ry
 exact rule i j t t' s _ _ hc ⟨.int (g i j),H,I.tok _,⟨_,rfl⟩,q⟩
theorem zV {f:Value→Value→Sem Value}{g:Int→Int→Int}
  (rule:∀ (i j:Int) (t u:Tok) (s:Shared) (Q:Value→Shared→Prop) (E:Value→Shared→Prop),Q (.int (g i j) s.toks) { s with toks:=s.toks+1 }→wpAny (model X.prog X.w) X.A (f (.int i t) (.int j u)) Q E s) :
  OpR X f (rI0 fun i j=>.int (g i j)):=by
 intro Gn s σ H x y v u Q I rx ry h
 obtain ⟨i,j,rfl,rfl,q⟩:=h
 obtain ⟨t,rfl⟩:=rx
 obtain ⟨t',rfl⟩:=ry
 exact rule i j t t' s _ _ ⟨.int (g i j),H,I.tok _,⟨_,rfl⟩,q⟩
theorem yw {f:Value→Value→Sem Value}{g:Int→Int→Bool}
  (rule:∀ (i j:Int) (t u:Tok) (s:Shared) (Q:Value→Shared→Prop) (E:Value→Shared→Prop),Q (.bool (g i j)) s→wpAny (model X.prog X.w) X.A (f (.int i t) (.int j u)) Q E s) :
  OpR X f (rI0 fun i j=>.bl (g i j)):=by
 intro Gn s σ H x y v u Q I rx ry h
 obtain ⟨i,j,rfl,rfl,q⟩:=h
 obtain ⟨t,rfl⟩:=rx
 obtain ⟨t',rfl⟩:=ry
 exact rule i j t t' s _ _ ⟨.bl (g i j),H,I,rfl,q⟩
def Ay (i j:Int):Prop:=0 < j∧j < 1073741824
def Az (i j:Int):Prop:=0≤j∧j≤1000000∧i.natAbs < 2 ^ 64
def yh (i j:Int):Prop:=(-(2 ^ 64) < i∧i < 2 ^ 64) ∨ (-(2 ^ 64) < j∧j < 2 ^ 64)
theorem yh.ok {i j:Int}(h:yh i j):IntMulOk i j:=by
 rcases h with ⟨h1,h2⟩ | ⟨h1,h2⟩
 ·exact .of_left (intBits_le_64 h1 h2)
 ·exact .of_right (intBits_le_64 h1 h2)
theorem cF:OpR X (binaryOp .Add) (rI0 fun i j=>.int (i+j)):=zV fun _ _ _ _ _ _ _ q=>add_int q
theorem fQ:OpR X (binaryOp .Sub) (rI0 fun i j=>.int (i - j)):=zV fun _ _ _ _ _ _ _ q=>sub_int q
theorem dI:OpR X (binaryOp .Mult) (rI yh fun i j=>.int (i*j)):=opI fun _ _ _ _ _ _ _ hc q=>mul_int q hc.ok
theorem dy:OpR X (binaryOp .FloorDiv) (rI Ay fun i j=>.int (i / j)):=opI fun i j _ _ _ _ _ hc q=>by
 have h1:(0:Int) < j:=hc.1
 have h2:j < 1073741824:=hc.2
 exact floordiv_int (by omega) (by rw [Int.fdiv_eq_ediv_of_nonneg i (by omega)];exact q) (.inl (PyProof.noPylong_small (by omega)))
theorem dM:OpR X (binaryOp .Mod) (rI (fun _ j=>0 < j) fun i j=>.int (i % j)):=opI fun i j _ _ _ _ _ hc q=>by
 have h1:(0:Int) < j:=hc
 exact mod_int' (by omega) (by rw [Int.fmod_eq_emod_of_nonneg i (by omega)];exact q)
theorem vY:OpR X (binaryOp .Pow) (rI Az fun i j=>.int (i ^ j.toNat)):=opI fun _ _ _ _ _ _ _ hc q=>pow_int_small hc.1 hc.2.1 hc.2.2 q
theorem unI {f:Value→Sem Value}{g:Int→Int}
  (rule:∀ (i:Int) (t:Tok) (s:Shared) (Q:Value→Shared→Prop) (E:Value→Shared→Prop),Q (.int (g i) s.toks) { s with toks:=s.toks+1 }→wpAny (model X.prog X.w) X.A (f (.int i t)) Q E s) :
  UnR X f (rU fun i=>.int (g i)):=by
 intro Gn s σ H x v Q I rx h
 obtain ⟨i,rfl,q⟩:=h
 obtain ⟨t,rfl⟩:=rx
 exact rule i t s _ _ ⟨.int (g i),H,I.tok _,⟨_,rfl⟩,q⟩
theorem bQ:UnR X (unaryOp .USub) (rU fun i=>.int (-i)):=unI fun _ _ _ _ _ q=>neg_int q
end
def zW:V→V→Bool
 | .non,.non=>true | .non,.int _=>true | .int _,.non=>true | .non,.bl _=>true | .bl _,.non=>true | .non,.str _=>true | .str _,.non=>true
 | .int _,.int _=>true | .bl _,.bl _=>true | .str _,.str _=>true | .byt _,.byt _=>true
 | .int _,.str _=>true | .str _,.int _=>true | .bl _,.str _=>true | .str _,.bl _=>true
 | _,_=>false
def rEq:R2:=fun x y H Q=>zW x y=true∧Q (.bl (decide (x=y))) H
def rNe:R2:=fun x y H Q=>zW x y=true∧Q (.bl (!decide (x=y))) H
theorem mN {i j:Int}:decide (V.int i=V.int j)=(i == j):=by
 rw [BC]
 simp
theorem rV {i j:Bool}:decide (V.bl i=V.bl j)=(i == j):=by
 rw [BC]
 simp
theorem mO {i j:Str}:decide (V.str i=V.str j)=(i == j):=by
 rw [BC]
 simp
theorem mP {i j:Array UInt8}:decide (V.byt i=V.byt j)=(i.toList == j.toList):=by
 rw [BC]
 cases i
 cases j
 simp
section
variable {X:Cx} {a b c:Expr} {ta tb tc:TE} {pos:Pos}
theorem aZ {Gn:List (Addr × Obj)}{σ:St}{H:Hp}{s:Shared}{Q:VK}{k k':Bool}(I:Inv X Gn σ H s)(q:Q (.bl k) H)(e:k=k'):EP X Gn σ Q (.bool k') s:=by
 subst e
 exact ⟨.bl k,H,I,rfl,q⟩
theorem d9:OpR X (compareOp .Eq) rEq:=by
 intro Gn s σ H x y v u Q I rx ry h
 obtain ⟨hs,q⟩:=h
 cases x with
 | non =>
  cases rx
  cases y with
  | non=>cases ry;exact PySem.EqNone.eq_none_none (aZ I q (by simp))
  | bl j=>cases ry;exact PySem.EqNone.eq_none_bool (aZ I q (by simp))
  | int j=>obtain ⟨t',rfl⟩:=ry;exact PySem.EqNone.eq_none_int (aZ I q (by simp))
  | str j=>obtain ⟨t',rfl⟩:=ry;exact PySem.EqNone.eq_none_str (aZ I q (by simp))
  | _=>exact absurd (show false=true from hs) Bx
 | bl i =>
  cases rx
  cases y with
  | non=>cases ry;exact PySem.EqNone.eq_bool_none (aZ I q (by simp))
  | bl j=>cases ry;exact eq_bool (aZ I q rV)
  | str j=>obtain ⟨t',rfl⟩:=ry;exact PySem.EqMixed.eq_bool_str (aZ I q (by simp))
  | _=>exact absurd (show false=true from hs) Bx
 | int i =>
  obtain ⟨t,rfl⟩:=rx
  cases y with
  | non=>cases ry;exact PySem.EqNone.eq_int_none (aZ I q (by simp))
  | int j=>obtain ⟨t',rfl⟩:=ry;exact eq_int (aZ I q mN)
  | str j=>obtain ⟨t',rfl⟩:=ry;exact PySem.EqMixed.eq_int_str (aZ I q (by simp))
  | _=>exact absurd (show false=true from hs) Bx
 | str i =>
  obtain ⟨t,rfl⟩:=rx
  cases y with
  | non=>cases ry;exact PySem.EqNone.eq_str_none (aZ I q (by simp))
  | bl j=>cases ry;exact PySem.EqMixed.eq_str_bool (aZ I q (by simp))
  | int j=>obtain ⟨t',rfl⟩:=ry;exact PySem.EqMixed.eq_str_int (aZ I q (by simp))
  | str j=>obtain ⟨t',rfl⟩:=ry;exact eq_str (aZ I q mO)
  | _=>exact absurd (show false=true from hs) Bx
 | byt i =>
  obtain ⟨t,rfl⟩:=rx
  cases y with
  | byt j=>obtain ⟨t',rfl⟩:=ry;exact PySem.W.eq_bytes (aZ I q mP)
  | _=>exact absurd (show false=true from hs) Bx
 | _=>cases y <;> exact absurd (show false=true from hs) Bx
theorem lF:OpR X (compareOp .NotEq) rNe:=by
 intro Gn s σ H x y v u Q I rx ry h
 obtain ⟨hs,q⟩:=h
 cases x with
 | non =>
  cases rx
  cases y with
  | non=>cases ry;exact PySem.EqNone.ne_none_none (aZ I q (by simp))
  | bl j=>cases ry;exact PySem.EqNone.ne_none_bool (aZ I q (by simp))
  | int j=>obtain ⟨t',rfl⟩:=ry;exact PySem.EqNone.ne_none_int (aZ I q (by simp))
  | str j=>obtain ⟨t',rfl⟩:=ry;exact PySem.EqNone.ne_none_str (aZ I q (by simp))
  | _=>exact absurd (show false=true from hs) Bx
 | bl i =>
  cases rx
  cases y with
  | non=>cases ry;exact PySem.EqNone.ne_bool_none (aZ I q (by simp))
  | bl j=>cases ry;exact ne_bool (aZ I q (Br not rV))
  | str j=>obtain ⟨t',rfl⟩:=ry;exact PySem.EqMixed.ne_bool_str (aZ I q (by simp))
  | _=>exact absurd (show false=true from hs) Bx
 | int i =>
  obtain ⟨t,rfl⟩:=rx
  cases y with
  | non=>cases ry;exact PySem.EqNone.ne_int_none (aZ I q (by simp))
  | int j=>obtain ⟨t',rfl⟩:=ry;exact ne_int (aZ I q (Br not mN))
  | str j=>obtain ⟨t',rfl⟩:=ry;exact PySem.EqMixed.ne_int_str (aZ I q (by simp))
  | _=>exact absurd (show false=true from hs) Bx
 | str i =>
  obtain ⟨t,rfl⟩:=rx
  cases y with
  | non=>cases ry;exact PySem.EqNone.ne_str_none (aZ I q (by simp))
  | bl j=>cases ry;exact PySem.EqMixed.ne_str_bool (aZ I q (by simp))
  | int j=>obtain ⟨t',rfl⟩:=ry;exact PySem.EqMixed.ne_str_int (aZ I q (by simp))
  | str j=>obtain ⟨t',rfl⟩:=ry;exact ne_str (aZ I q (Br not mO))
  | _=>exact absurd (show false=true from hs) Bx
 | byt i =>
  obtain ⟨t,rfl⟩:=rx
  cases y with
  | byt j=>obtain ⟨t',rfl⟩:=ry;exact PySem.W.ne_bytes (aZ I q (Br not mP))
  | _=>exact absurd (show false=true from hs) Bx
 | _=>cases y <;> exact absurd (show false=true from hs) Bx
theorem eR:OpR X (compareOp .Lt) (rI0 fun i j=>.bl (decide (i < j))):=yw fun _ _ _ _ _ _ _ q=>lt_int q
theorem tH:OpR X (compareOp .Gt) (rI0 fun i j=>.bl (decide (j < i))):=yw fun _ _ _ _ _ _ _ q=>gt_int q
theorem yy:OpR X (compareOp .GtE) (rI0 fun i j=>.bl (decide (j≤i))):=yw fun _ _ _ _ _ _ _ q=>ge_int q
inductive fi  (x:V)(y:V)(H:Hp)(Q:VK):Prop
 | mk:∀ i j,(x = .str i)→(y = .str j)→(Q (.bl (!(Builtin.Str.occurrences j i 0 j.length 1).isEmpty)) H)→fi x y H Q
theorem mQ:OpR X (compareOp .In) fi:=by
 intro Gn s σ H x y v u Q I rx ry h
 obtain ⟨i,j,rfl,rfl,q⟩:=h
 obtain ⟨t,rfl⟩:=rx
 obtain ⟨t',rfl⟩:=ry
 exact in_str (aZ I q rfl)
theorem a8 (b:Expr){op:CmpOp}(h:op ≠ .In:=by decide)(h2:op ≠ .NotIn:=by decide):behindInMarks op b=false:=by
 have e1:(op == CmpOp.In)=false:=by cases op <;> first | rfl | exact absurd rfl h
 have e2:(op == CmpOp.NotIn)=false:=by cases op <;> first | rfl | exact absurd rfl h2
 cases b <;> simp [behindInMarks,e1,e2]
theorem d_ {op:CmpOp}{r:R2}(ho:OpR X (compareOp op) r)(ha:PE X a ta)(hb:PE X b tb)(hm:behindInMarks op b=false):PE X (.Compare a [op] [b] pos) (tOp r ta tb):=by
 intro Gn s σ H Q I h
 exact wpAny_Compare1 (yu ha hb I h fun v u s2 x y H2 I2 rx ry q=>ho Gn s2 σ H2 x y v u Q I2 rx ry q) hm
def qc (Q:(Bool→Hp→Prop)):V→Hp→Prop:=fun x H'=>IsB x H' Q
def yz (t:TE):TT:=fun σ H Q=>t σ H (qc Q)
theorem aM {op:CmpOp}{r:R2}(ho:OpR X (compareOp op) r)(ha:PE X a ta)(hb:PE X b tb)(hm:behindInMarks op b=false):PT X (.Compare a [op] [b] pos) (yz (tOp r ta tb)):=by
 intro Gn s σ H Q I h
 refine wpAny_isTrue_Compare1 (thn (ha Gn s σ H _ I h) fun v s1 ⟨x,H1,I1,r1,q1⟩=>thn (hb Gn s1 σ H1 _ I1 q1) fun u s2 ⟨y,H2,I2,r2,q2⟩ =>
  thn (ho Gn s2 σ H2 x y v u _ I2 r1 r2 q2) fun c s3 ⟨z,H3,I3,r3,k,e,q3⟩=>?_) hm
 subst e
 cases r3
 exact CT ⟨H3,I3,q3⟩
def vZ (r r':R2)(ta tb tc:TE):TE:=fun σ H Q=>ta σ H fun x H1=>tb σ H1 fun y H2=>r x y H2 fun z H3=>∃ k,z = .bl k ∧
 (if k=true then tc σ H3 fun w' H4=>r' y w' H4 Q else Q (.bl false) H3)
theorem eU {op op':CmpOp}{r r':R2}(ho:OpR X (compareOp op) r)(ho':OpR X (compareOp op') r')(ha:PE X a ta)(hb:PE X b tb)(hc:PE X c tc)
  (hm:lastMarks [op,op'] [b,c]=false:=by with_unfolding_all rfl):PE X (.Compare a [op,op'] [b,c] pos) (vZ r r' ta tb tc):=by
 intro Gn s σ H Q I h
 refine Compare_chain (thn (ha Gn s σ H _ I h) fun v s1 ⟨x,H1,I1,r1,q1⟩=>chain_link (thn (hb Gn s1 σ H1 _ I1 q1) fun u s2 ⟨y,H2,I2,r2,q2⟩ =>
  thn (ho Gn s2 σ H2 x y v u _ I2 r1 r2 q2) fun d s3 ⟨z,H3,I3,r3,k,e,q3⟩=>?_)) hm
 subst e
 cases r3
 refine CT ?_
 cases k with
 | false=>exact ite_ff ⟨.bl false,H3,I3,rfl,q3⟩
 | true=>exact ite_tt (chain_last (thn (hc Gn s3 σ H3 _ I3 q3) fun w' s4 zq45=>(by obtain ⟨z',H4,I4,r4,q4⟩:=zq45;exact ho' Gn s4 σ H4 y z' u w' Q I4 r2 r4 q4)))
def AA (K:PySem.W.Frag)(x:V)(H:Hp)(k:Bool):Prop :=
 match x with
 | .non=>k=false
 | .bl b=>k=b
 | .int i=>k=(i != 0)
 | .str y=>y.length≤sizeLine∧k=((y.length:Int) != 0)
 | .byt y=>y.size≤sizeLine∧k=((y.size:Int) != 0)
 | .ref p=>(∃ xs,SqL K H p xs∧k=!xs.isEmpty) ∨ (∃ xs,SqT K H p xs∧k=!xs.isEmpty) ∨ ∃ Gq,H p=some (.dK Gq)∧k=!Gq.isEmpty
 | _=>False
theorem lG {κ:Type}{Gq:List (κ × V)}{vs:List (κ × Value)}(r:KV Gq vs):(!vs.isEmpty)=!Gq.isEmpty:=by
 cases r <;> rfl
theorem fR {xs:List V}{Gp:List Value}(r:bh xs Gp):(!Gp.toArray.isEmpty)=!xs.isEmpty:=by
 cases r <;> simp
theorem dN:(sizeLine:Nat) < 2 ^ 63:=by rw [E5]; decide
inductive tI (K:PySem.W.Frag)(x:V)(H:Hp)(Q:Bool→Hp→Prop):Prop
 | mk:∀ k,(AA K x H k)→(Q k H)→tI K x H Q
theorem rX:Ax X (tI X.K):=by
 intro Gn s σ H x v Q I rx h
 obtain ⟨k,e,q⟩:=h
 have hl:=dN
 have hs:sizeLine=16777216:=E5
 cases x with
 | non =>
  cases rx
  have e':k=false:=e
  subst e'
  exact truthy_none ⟨H,I,q⟩
 | bl b =>
  cases rx
  have e':k=b:=e
  subst e'
  exact CT ⟨H,I,q⟩
 | int i =>
  obtain ⟨t,rfl⟩:=rx
  have e':k=(i != 0):=e
  subst e'
  exact PySem.P.truthy_int ⟨H,I,q⟩
 | str y =>
  obtain ⟨t,rfl⟩:=rx
  obtain ⟨hy,e'⟩:y.length≤sizeLine∧k=((y.length:Int) != 0):=e
  subst e'
  exact PySem.P.truthy_str (by omega) ⟨H,I.tok _,q⟩
 | byt y =>
  obtain ⟨t,rfl⟩:=rx
  obtain ⟨hy,e'⟩:y.size≤sizeLine∧k=((y.size:Int) != 0):=e
  subst e'
  exact PySem.W.truthy_bytes (by omega) ⟨H,I.tok _,q⟩
 | ref p =>
  cases rx
  have e':(∃ xs,SqL X.K H p xs∧k=!xs.isEmpty) ∨ (∃ xs,SqT X.K H p xs∧k=!xs.isEmpty) ∨ ∃ Gq,H p=some (.dK Gq)∧k=!Gq.isEmpty:=e
  rcases e' with ⟨xs,hx,e'⟩ | ⟨xs,hx,e'⟩ | ⟨Gq,hx,e'⟩
  ·subst e'
   obtain ⟨Gp,r,pl,hz⟩:=I.list hx
   have hlen:=r.length
   exact wpAny_truthy_list pl.isList (by simp only [Be];omega) ⟨H,I.tok _,by rw [fR r];exact q⟩
  ·subst e'
   obtain ⟨Gp,r,pl,hz⟩:=I.tuple hx
   have hlen:=r.length
   exact truthy_tuple pl (by simp only [Be];omega) ⟨H,I.tok _,by rw [fR r];exact q⟩
  ·subst e'
   obtain ⟨hz,hS,vs,r,m⟩:Gq.length≤sizeLine∧(p == sysModules)=false∧∃ vs,KV Gq vs∧s.heap.DictOf (bC X.prog X.w) p vs:=I.hok p _ hx
   have hlen:Gq.length=vs.length:=E4 r
   exact wpAny_truthy_dict hS m (by omega) ⟨H,I.tok _,by rw [lG r];exact q⟩
 | _=>exact (show False from e).elim
def tJ (K:PySem.W.Frag)(Q:(Bool→Hp→Prop)):V→Hp→Prop:=fun x H'=>tI K x H' Q
def AB (K:PySem.W.Frag)(ta:TE):TT:=fun σ H Q=>ta σ H (tJ K Q)
theorem c9 (ha:PE X a ta)(he:∀ whole,isTrue a X.env whole=(do let v ← whole; standAt a.pos; holding [v] (truthy v))) :
  PT X a (AB X.K ta):=by
 intro Gn s σ H Q I h
 exact isTrue_plain (thn (ha Gn s σ H _ I h) fun v s1 zq47=>(by obtain ⟨x,H1,I1,r1,q1⟩:=zq47;exact rX Gn s1 σ H1 x v Q I1 r1 q1)) (he _)
inductive eM  (x:V)(y:V)(H:Hp)(Q:VK):Prop
 | mk:∀ i j,(x = .str i)→(y = .str j)→(i.length+j.length≤sizeLine)→(Q (.str (i++j)) H)→eM x y H Q
theorem bB:OpR X (binaryOp .Add) eM:=by
 intro Gn s σ H x y v u Q I rx ry h
 obtain ⟨i,j,rfl,rfl,hz,q⟩:=h
 obtain ⟨t,rfl⟩:=rx
 obtain ⟨t',rfl⟩:=ry
 exact add_str (fun t' tk=>⟨.str (i++j),H,I.tok _,⟨_,rfl⟩,q⟩) hz
theorem cM {x:V}{us:List Value}(r:bh [x] us):∃ u,us=[u]∧bH x u:=by
 cases r with
 | cons r1 r2=>cases r2;exact ⟨_,rfl,r1⟩
theorem tK {x y:V}{us:List Value}(r:bh [x,y] us):∃ u w',us=[u,w']∧bH x u∧bH y w':=by
 cases r with
 | cons r1 r2 =>
  cases r2 with
  | cons r3 r4=>cases r4;exact ⟨_,_,rfl,r1,r3⟩
end
section
variable {prog:Program} {w:World} {A:Around} {E:Value→Shared→Prop} {s:Shared} {K:PySem.W.Frag} {x dx C f:Addr} {mA:Str→Option Value} {name:Str} {v:Value}
end
theorem pX.some_of {v:V}{o:Option Value}(r:pX (some v) o):∃ u,o=some u∧bH v u:=by
 cases o with
 | none=>exact (show False from r).elim
 | some u=>exact ⟨u,rfl,r⟩
section
variable {P:Program} {w:World} {H H':Hp} {h h':Heap} {a C dx:Addr} {fs fs':List (Str × V)}
end
section
variable {X:Cx} {Gn:List (Addr × Obj)} {σ:St} {H:Hp} {s:Shared} {a C dx:Addr} {fs:List (Str × V)} {f:Str} {v:V} {A:Around} {E:Value→Shared→Prop}
end
section
variable {X:Cx} {o e value:Expr} {f:Str} {pos pos' tpos:Pos} {ta tv:TE}
end
section
variable {X:Cx} {Gn:List (Addr × Obj)} {σ:St} {H:Hp} {s:Shared} {A:Around} {E:Value→Shared→Prop} {Q:Value→Shared→Prop} {c:Value} {b:Bool}
end
structure fS (k:Nat) (A:Around):Prop where
 hd:A.handled=none
 dp:A.depth+3*k+5 < recursionLimit
 un:A.units+16*k+200 < cLine
 gd:A.guards=some []
theorem fS.mono {j k:Nat}{A:Around}(r:fS k A)(h:j≤k):fS j A:=⟨r.hd,by have:=r.dp; omega,by have:=r.un; omega,r.gd⟩
theorem fS.deeper {k:Nat}{A:Around}(r:fS (k+1) A)(env:Env):fS k (A.deeper env) :=
 ⟨r.hd,by have:=r.dp;show A.depth+1+3*k+5 < _;omega,by have:=r.un;show A.units+3+16*k+200 < _;omega,r.gd⟩
theorem fS.depth {k:Nat}{A:Around}(r:fS k A):A.depth < recursionLimit:=by have:=r.dp; omega
theorem fS.units {k:Nat}{A:Around}(r:fS k A):A.units+64 < cLine:=by have:=r.un; omega
def zX:TA:=fun _ H Q=>Q [] H
def qd (Q:(List V→Hp→Prop))(x:V):List V→Hp→Prop:=fun xs H2=>Q (x::xs) H2
def qe (tr:TA)(σ:St)(Q:(List V→Hp→Prop)):V→Hp→Prop:=fun x H1=>tr σ H1 (qd Q x)
def tL (ta:TE)(tr:TA):TA:=fun σ H Q=>ta σ H (qe tr σ Q)
section
variable {X:Cx} {e:Expr} {es:List Expr} {te:TE} {t:TA} {pos:Pos}
theorem ae:PA X [] zX:=fun _ _ _ _ H Q I h=>Calls.spliced_nil ⟨[],H,I,.nil,h⟩
theorem aa (ha:PE X e te)(hr:PA X es t)(hs:starEach (e::es) X.env=(false,eval e X.env)::starEach es X.env:=by rfl):PA X (e::es) (tL te t):=by
 intro pos Gn s σ H Q I h
 rw [hs]
 show wpAny _ _ (spliced ((false,eval e X.env)::backTo pos (starEach es X.env))) _ _ s
 refine Calls.spliced_cons (thn (ha Gn s σ H _ I h) fun u s1 zq54=>?_)
 obtain ⟨x,H1,I1,r1,q1⟩:=zq54
 exact thn (hr pos Gn s1 σ H1 _ I1 q1) fun us s2 zq55=>(by obtain ⟨xs,H2,I2,r2,q2⟩:=zq55;exact ⟨x::xs,H2,I2,.cons r1 r2,q2⟩)
def tM (Q:VK):List V→Hp→Prop:=fun xs H1=>xs.length≤sizeLine∧∀ p,H1 p=none→Q (.ref p) (upd H1 p (.tup xs))
def AC (t:TA):TE:=fun σ H Q=>t σ H (tM Q)
def tN (Q:VK):List V→Hp→Prop:=fun xs H1=>xs.length≤sizeLine∧∀ p,H1 p=none→Q (.ref p) (upd H1 p (.lst xs))
def AD (t:TA):TE:=fun σ H Q=>t σ H (tN Q)
theorem b6 {x1}(h:PA X es t):PE X (.Tuple es x1 pos) (AC t):=by
 intro Gn s σ H Q I hq
 refine wpAny_Tuple_spliced (thn (h pos Gn s σ H _ I hq) fun us s1 ⟨xs,H1,I1,r,z,q⟩=>⟨by rw [← r.length];exact z,?_⟩)
 have hf:H1 s1.heap.objs.size=none:=I1.hok.fresh (A8 _)
 refine ⟨.ref s1.heap.objs.size,upd H1 s1.heap.objs.size (.tup xs),I1.laid (t':=s1.toks) (fun b u e=>A3 _ e) (A8 _) ?_,rfl,q _ hf⟩
 exact ⟨z,us,r,⟨_,Bh _ rfl,rfl,_,rfl⟩,.new _ _ rfl⟩
theorem bL (h:PA X es t):PE X (.List es pos) (AD t):=by
 intro Gn s σ H Q I hq
 refine wpAny_List_spliced (thn (h pos Gn s σ H _ I hq) fun us s1 ⟨xs,H1,I1,r,z,q⟩=>⟨by rw [← r.length];exact z,?_⟩)
 have hf:H1 s1.heap.objs.size=none:=I1.hok.fresh (A8 _)
 refine ⟨.ref s1.heap.objs.size,upd H1 s1.heap.objs.size (.lst xs),I1.laid (t':=s1.toks) (fun b u e=>A3 _ e) (A8 _) ?_,rfl,q _ hf⟩
 exact ⟨z,us,0,r,Bh _ rfl⟩
end
abbrev Sp:=List V→Hp→VK→XK→Prop
abbrev CXT:=List Env→Hp→Shared→XK→Value→Shared→Prop
structure yi (P:Program) (w:World) (K:PySem.W.Frag) (mg:Str→Option Value) (base:Heap) (A:Around) (outer:List Env) (s:Shared) (H:Hp):Prop where
 frames:A.frames=some outer
 mod:Mod K mg base
 bs:∀ b o,base.get? b=some o→s.heap.get? b=some o∧H b=none
 bsz:base.objs.size≤s.heap.objs.size
 funs:s.heap.FunFrames base outer
 frf:∀ b∈frs outer,H b=none
 hok:HOk P w H s.heap
 bare:AllBare s.gens
def CE (outer:List Env)(P:Program)(w:World)(H:Hp)(s:Shared)(Q:VK)(u:Value)(s':Shared):Prop :=
 ∃ v H',s'.os=s.os∧AllBare s'.gens∧Un (frs outer) [] H H' s.heap s'.heap∧HOk P w H' s'.heap∧bH v u∧Q v H'
def CR (CX:CXT)(outer:List Env)(P:Program)(w:World)(H:Hp)(s:Shared)(Q:VK)(E:XK)(r:Result)(s':Shared):Prop :=
 match r with
 | .ok (.ret u)=>CE outer P w H s Q u s'
 | .ok _=>False
 | .error e=>CX outer H s E e s'
structure lH (P:Program) (w:World) (K:PySem.W.Frag) (mg:Str→Option Value) (base:Heap) (CX:CXT) (k:Nat) (f:Addr) (fd:FuncData) (ps:List Str) (sp:Sp):Prop where
 len:∀ vs H Q E,sp vs H Q E→vs.length=ps.length
 run:∀ (A:Around) (outer:List Env) (s:Shared) (H:Hp) (args:Args) (us:List Value) (vs:List V) (Q:VK) (E:XK),fS k A→yi P w K mg base A outer s H→BindsTo s fd args (ps.zip us)→bh vs us→sp vs H Q E →
  codeAny (model P w) A (.call (.ref f) args) (CR CX outer P w H s Q E) s
theorem lH.imp {P:Program}{w:World}{K:PySem.W.Frag}{mg:Str→Option Value}{base:Heap}{CX:CXT}{k:Nat}{f:Addr}{fd:FuncData}{ps:List Str}{sp sp':Sp}(F:lH P w K mg base CX k f fd ps sp)
  (h:∀ vs H Q E,sp' vs H Q E→sp vs H Q E):lH P w K mg base CX k f fd ps sp' :=
 ⟨fun vs H Q E q=>F.len vs H Q E (h _ _ _ _ q),fun A outer s H args us vs Q E hr he hb hv hs=>F.run A outer s H args us vs Q E hr he hb hv (h _ _ _ _ hs)⟩
section
variable {X:Cx} {Gn:List (Addr × Obj)} {σ:St} {H:Hp} {s s':Shared}
theorem Inv.env0 (I:Inv X Gn σ H s):yi X.prog X.w X.K X.mg X.base X.A X.stack s H :=
 ⟨I.ok.frames,I.ok.mod,I.bs,BQ I.ok.bsz I.sz,I.stack,I.stkFree,I.hok,I.bare⟩
theorem Inv.after {Q:VK}{u:Value}(I:Inv X Gn σ H s)(h:CE X.stack X.prog X.w H s Q u s'):EP X Gn σ Q u s':=by
 obtain ⟨v,H',os,bare,un,hok,r,q⟩:=h
 obtain ⟨hh,g,d,t,os'⟩:=s'
 obtain rfl:os'=s.os:=os
 exact ⟨v,H',I.call (h':=hh) (g':=g) (d':=d) (t':=t) (ch:=[]) un hok bare (fun b z=>absurd z (by simp)),r,q⟩
end
def qf (sp:Sp)(dvs:List V)(E:XK)(Q:VK):List V→Hp→Prop:=fun vs H1=>sp (vs++dvs) H1 Q E
def v5 (sp:Sp)(dvs:List V)(E:XK)(t:TA):TE:=fun σ H Q=>t σ H (qf sp dvs E Q)
def lI (K:PySem.W.Frag)(fd:FuncData)(ps:List Str)(ds:List Value):Prop :=
 ∀ (s:Shared) (us:List Value),K.In s.heap→(us++ds).length=ps.length→BindsTo s fd ⟨us,[]⟩ (ps.zip (us++ds))
theorem lI.all {K:PySem.W.Frag}{fd:FuncData}{ps:List Str}(h:∀ us:List Value,us.length=ps.length→bindArgs fd ⟨us,[]⟩=pure (ps.zip us)):lI K fd ps []:=fun s us _ hl=>by
 rw [CU] at hl ⊢
 exact .of_eq (h us hl)
def mR (CX:CXT)(X:Cx)(E:XK):Prop:=∀ (Gn:List (Addr × Obj)) (σ:St) (H:Hp) (s:Shared) (e:Value) (s':Shared),Inv X Gn σ H s→CX X.stack H s E e s'→X.xe e s'
section
variable {X:Cx} {CX:CXT} {k:Nat} {f C:Addr} {fd:FuncData} {ps:List Str} {sp:Sp} {dvs:List V} {ds:List Value} {E:XK} {x m:Str} {p pos apos:Pos} {e o:Expr} {es:List Expr} {ta:TE} {t:TA}
theorem v7 {Gn:List (Addr × Obj)}{σ:St}{H:Hp}{s:Shared}{Q:VK}{us:List Value}{vs:List V}(F:lH X.prog X.w X.K X.mg X.base CX k f fd ps sp)(hr:fS k X.A)(hb:lI X.K fd ps ds)(hd:bh dvs ds)(hx:mR CX X E)
  (I:Inv X Gn σ H s) (r:bh vs us) (h:sp (vs++dvs) H Q E):wpAny (model X.prog X.w) X.A (call (.ref f) us) (EP X Gn σ Q) X.xe s:=by
 have r2:bh (vs++dvs) (us++ds):=r.append hd
 have hl:(us++ds).length=ps.length:=by rw [← r2.length];exact F.len _ _ _ _ h
 refine wpAny_call (EB (F.run X.A X.stack s H ⟨us,[]⟩ (us++ds) (vs++dvs) Q E hr I.env0 (hb s us I.kIn hl) r2 h) fun r s' hq=>?_)
 cases r with
 | error e=>exact hx Gn σ H s e s' I hq
 | ok fl =>
  cases fl with
  | ret u=>exact I.after hq
  | next=>exact False.elim hq
  | brk=>exact False.elim hq
  | cont=>exact False.elim hq
theorem tO (F:lH X.prog X.w X.K X.mg X.base CX k f fd ps sp)(hr:fS k X.A)(hg:Gl X x)(hm:X.mg x=some (.ref f))(hk:PySem.W.keepIn X.K (.ref f)=true)(hb:lI X.K fd ps ds)(hd:bh dvs ds)(hx:mR CX X E)
  (ha:PA X (e::es) t) (hdb:(x == ("__debug__":Str))=false:=by decide) (he:starEach (e::es) X.env=(false,eval e X.env)::starEach es X.env:=by rfl) (hpl:(backTo pos (starEach es X.env)).any (·.1)=false:=by rfl) :
  PE X (.Call (.Name x p) (e::es) [] pos) (v5 sp dvs E t):=by
 intro Gn s σ H Q I h
 refine EC (jf I hg hm ?_ hdb)
 refine PySem.W.callWith_K (h₀:=X.base) I.ok.mod.kin hk (thn (ha pos Gn s σ H _ I h) fun us s1 ⟨vs,H1,I1,r,q⟩=>⟨I1.kIn,?_⟩) he hpl
 exact v7 F hr hb hd hx I1 r q
end
section
variable {X:Cx} {CX:CXT} {k:Nat} {f C:Addr} {fd:FuncData} {ps ks:List Str} {sp:Sp} {E:XK} {x m:Str} {p pos apos kpos:Pos} {e o:Expr} {es:List Expr} {kws:List Keyword} {te ta:TE} {t tk:TA} {nm:Option Str}
variable {g:List Value→List Value→List Value} {gV:List V→List V→List V}
end
structure aE (N P:List Str) (sc:Scope):Prop where
 kind:sc.kind = .function
 co:sc.isCoroutine=false
 gen:sc.isGenerator=false
 nd:N.Nodup
 pre:N.take P.length=P
 par:∀ x∈P,sc.names.lookup x=some .local ∨ sc.names.lookup x=some .cell
 nofree:∀ y∈sc.names,y.2 ≠ .free
theorem iA {kindOf:Str→Option NameKind}{x:Str}:∀ {binds:List (Str × Value)} {m:Str→Option Value},(∀ v,(x,v)∉binds)→bindL kindOf binds m x=m x
 | [],_,_=>rfl
 | (n,v)::r,m,h=>by
  unfold bindL
  rw [iA fun w hw=>h w (A5 _ hw)]
  split
  ·have:x≠n:=by rintro rfl;exact h v Ba
   simp [this]
  ·rfl
theorem iB {kindOf:Str→Option NameKind}{x:Str}:∀ {binds:List (Str × Value)} {m:Str→Option Value},(∀ v,(x,v)∉binds)→bindC kindOf binds m x=m x
 | [],_,_=>rfl
 | (n,v)::r,m,h=>by
  unfold bindC
  rw [iB fun w hw=>h w (A5 _ hw)]
  split
  ·rfl
  ·have:x≠n:=by rintro rfl;exact h v Ba
   simp [this]
theorem iC {kindOf:Str→Option NameKind}{x:Str}{v:Value}:∀ {P:List Str} {vs:List Value} {i:Nat} {m:Str→Option Value},P.Nodup→P[i]? = some x→vs[i]? = some v→kindOf x=some .local →
  bindL kindOf (P.zip vs) m x=some v
 | [],_,_,_,_,h,_,_=>by simp at h
 | _::_,[],_,_,_,_,h,_=>by simp at h
 | p::P,w::vs,0,m,nd,h1,h2,hk=>by
  simp at h1 h2;subst h1;subst h2
  show bindL kindOf ((p,w)::P.zip vs) m p=_
  unfold bindL
  rw [iA fun v hv=>(BM.mp nd).1 (Fp hv).1,if_pos hk]
  simp
 | p::P,w::vs,i+1,m,nd,h1,h2,hk=>by
  show bindL kindOf ((p,w)::P.zip vs) m x=_
  unfold bindL
  exact iC (i:=i) (BM.mp nd).2 (by simpa using h1) (by simpa using h2) hk
theorem iD {kindOf:Str→Option NameKind}{x:Str}{v:Value}:∀ {P:List Str} {vs:List Value} {i:Nat} {m:Str→Option Value},P.Nodup→P[i]? = some x→vs[i]? = some v→kindOf x≠some .local →
  bindC kindOf (P.zip vs) m x=some v
 | [],_,_,_,_,h,_,_=>by simp at h
 | _::_,[],_,_,_,_,h,_=>by simp at h
 | p::P,w::vs,0,m,nd,h1,h2,hk=>by
  simp at h1 h2;subst h1;subst h2
  show bindC kindOf ((p,w)::P.zip vs) m p=_
  unfold bindC
  rw [iB fun v hv=>(BM.mp nd).1 (Fp hv).1,if_neg hk]
  simp
 | p::P,w::vs,i+1,m,nd,h1,h2,hk=>by
  show bindC kindOf ((p,w)::P.zip vs) m x=_
  unfold bindC
  exact iD (i:=i) (BM.mp nd).2 (by simpa using h1) (by simpa using h2) hk
def start (N:List Str)(vs:List V):St:=vs.map some++List.replicate (N.length - vs.length) none
def tP (CX:CXT)(P:Program)(w:World)(K:PySem.W.Frag)(mg:Str→Option Value)(base:Heap)(N:List Str)(qual:Str)(scope:Scope)(f:Addr)(cd:Value)(A:Around)(outer:List Env)(s:Shared)(H:Hp)(E:XK):Cx where
 prog:=P
 w:=w
 K:=K
 mg:=mg
 base:=base
 A:=A.deeper (envOfC qual scope s.heap.objs.size f cd)
 N:=N
 s₀:=s
 H₀:=H
 env:=envOfC qual scope s.heap.objs.size f cd
 outer:=outer
 stack:=envOfC qual scope s.heap.objs.size f cd::outer
 ex:=[]
 calm:=true
 fn:=fun _=>true
 pn:=[]
 xe:=fun e s'=>wpAny (model P w) (A.deeper (envOfC qual scope s.heap.objs.size f cd)) (leaving (envOfC qual scope s.heap.objs.size f cd) e) (fun _ s''=>CX outer H s E e s'') (fun e' s''=>CX outer H s E e' s'') s'
theorem kc {sc:Scope}{n:Nat}{x:Str}(h:sc.names.lookup x=some .cell):∃ c,(cellsFrom n sc.names []).lookup x=some c:=by
 have q:=Fm sc.names n [] (.inl h)
 exact EN.mp q
theorem mS {CX:CXT}{P:Program}{w:World}{K:PySem.W.Frag}{mg:Str→Option Value}{base:Heap}{N ps:List Str}{qual:Str}{scope:Scope}{f:Addr}{cd:Value}{A:Around}{outer:List Env}{s s1:Shared}{H:Hp}{E:XK}{us:List Value}{vs:List V}
  (S:aE N ps scope) (hd:A.handled=none) (e0:yi P w K mg base A outer s H) (hl:vs.length=ps.length) (r:bh vs us)
  (x:InCallC s s.heap.objs.size (bindL (envOfC qual scope s.heap.objs.size f cd).kindOf (ps.zip us) fun _=>none) (cellsFrom (s.heap.objs.size+1) scope.names []) (bindC (envOfC qual scope s.heap.objs.size f cd).kindOf (ps.zip us) fun _=>none) s1) :
  Inv (tP CX P w K mg base N qual scope f cd A outer s H E) [] (start N vs) H s1:=by
 have hpl:ps.length≤N.length:=by have:=Br List.length S.pre;rw [Bd] at this;omega
 obtain ⟨h1,tk,rfl,hk⟩:=x.done
 have noA:∀ b:Addr,b∉(tP CX P w K mg base N qual scope f cd A outer s H E).ex:=fun b z=>absurd (show b∈([]:List Addr) from z) (by simp)
 refine ⟨⟨e0.mod,S.kind,rfl,rfl,A8 _,fun y z c h1 h2=>?_,fun y hy=>?_,fun y c _ h=>?_,fun _=>hd,Around.frames_deeper e0.frames,.inr ⟨rfl,rfl⟩,fun b z=>absurd z (noA b),e0.bs,e0.bsz,fun b _ _=>noA b,fun b z=>absurd z (noA b),e0.funs,e0.frf⟩,
  rfl,e0.bare,Un.kept hk,⟨_,x.toInCall.ns,fun i y v h1 h2 h3=>?_⟩,fun y c h=>⟨_,x.cell y c h⟩,e0.hok.fresh (A8 _),fun y c h=>?_,fun p hp=>absurd (show p∈([]:List (Addr × Obj)) from hp) (by simp),e0.hok.kept hk,?_⟩
 ·exact name_of_addr x.apart (Cq h1) (Cq h2)
 ·have hy:scope.names.lookup y=some .cell ∨ scope.names.lookup y=some .free:=hy
  rcases hy with hy | hy
  ·exact kc hy
  ·exact absurd rfl (S.nofree _ (Cq hy))
 ·exact Ey (x.above y c (Cq h))
 ·have hi:i < vs.length:=by
   unfold start at h2
   by_cases hi:i < vs.length
   ·exact hi
   ·rw [Bp (by simpa using hi)] at h2
    rw [List.getElem?_replicate] at h2
    split at h2 <;> cases h2
  have ha:vs[i]? = some v:=by
   unfold start at h2
   rw [BL (by simpa using hi),Bi] at h2
   cases e:vs[i]? with
   | none=>rw [e] at h2;cases h2
   | some a=>rw [e] at h2;cases h2;rfl
  obtain ⟨u,hu,rv⟩:=r.get ha
  have hp:ps[i]? = some y:=by
   rw [← S.pre,B0 (by omega)];exact h1
  have ndP:ps.Nodup:=by rw [← S.pre];exact S.nd.sublist (List.take_sublist _ _)
  refine ⟨u,rv,?_⟩
  rcases S.par y (BK hp) with k | k
  ·exact .inl ⟨k,iC ndP hp hu k⟩
  ·obtain ⟨c,e⟩:=kc (n:=s.heap.objs.size+1) k
   refine .inr ⟨.inl k,c,e,?_⟩
   have q:=x.cell y c e
   rw [iD ndP hp hu (by show scope.names.lookup y≠_;rw [k];decide)] at q
   exact q
 ·exact e0.hok.fresh (Ey (x.above y c (Cq h)))
 ·unfold start
  show _=N.length
  rw [A7,AY,List.length_replicate]
  omega
theorem yA {CX:CXT}{P:Program}{w:World}{K:PySem.W.Frag}{mg:Str→Option Value}{base:Heap}{k:Nat}{f:Addr}{name qual:Str}{params:Arguments}{body:List Stmt}{scope:Scope}{dV kV doc pm Gz ct oc:Value}{an od:Option Addr}
  {osl:Array (Option Value)} {N ps:List Str} {sp:Sp} (lk:K.lookup f=some ⟨oc,od,.func (PySem.W.fnOf name qual params body scope dV kV doc pm an Gz ct),osl⟩) (hcd:PySem.W.codeIn K Gz qual=true) (S:aE N ps scope)
  (len:∀ vs H Q E,sp vs H Q E→vs.length=ps.length)
  (hbody:∀ (A:Around) (outer:List Env) (s:Shared) (H:Hp) (vs:List V) (Q:VK) (E:XK),fS k (A.deeper (envOfC qual scope s.heap.objs.size f Gz))→sp vs H Q E →
   ∃ t,PSs (tP CX P w K mg base N qual scope f Gz A outer s H E) body t∧t { nx:=fun _ H'=>Q .non H',rt:=Q } (start N vs) H) :
  lH P w K mg base CX (k+1) f (PySem.W.fnOf name qual params body scope dV kV doc pm an Gz ct) ps sp:=by
 refine ⟨len,fun A outer s H args us vs Q E hr e0 hb r hsp=>?_⟩
 have hl:=len _ _ _ _ hsp
 have KX:K.In s.heap:=e0.mod.kin.keeps fun b o e=>(e0.bs b o e).1
 have lim:s.heap.NoLimit:=e0.mod.nolimit.keeps fun b o e=>(e0.bs b o e).1
 have hkind:∀ y∈ps.zip us,scope.names.lookup y.1=some .local ∨ (scope.names.lookup y.1=some .cell∧((cellsFrom (s.heap.objs.size+1) scope.names []).lookup y.1).isSome=true):=fun ⟨n,v⟩ hy=>by
  rcases S.par n (Fp hy).1 with q | q
  ·exact .inl q
  ·exact .inr ⟨q,Fm _ _ _ (.inl q)⟩
 refine codeAny_call_function hr.depth (KX _ _ lk) rfl S.co S.gen rfl (PySem.W.codeRec_of KX hcd) (hb _ _ _ _ ?_)
 refine wpAny_newFunctionEnv_cells S.kind hkind fun env he s1 x=>?_
 subst he
 refine ⟨lim.keeps x.toInCall.keep,codeAny_func ?_⟩
 obtain ⟨t,ht,hq⟩:=hbody A outer s H vs Q E (hr.deeper _) hsp
 have I:Inv (tP CX P w K mg base N qual scope f Gz A outer s H E) [] (start N vs) H s1:=mS S hr.hd e0 hl r x
 refine CH (ht [] s1 (start N vs) H _ I hq) (fun fl s' hs=>?_) fun e s' hs=>hs
 have fin:∀ {σ':St} {H':Hp} {v:V} {u:Value},Inv (tP CX P w K mg base N qual scope f Gz A outer s H E) [] σ' H' s'→bH v u→Q v H'→CE outer P w H s Q u s' :=
  fun {σ' H' v u} J rv q=>⟨v,H',J.os,J.bare,J.base,J.hok,rv,q⟩
 cases fl with
 | ret u =>
  obtain ⟨v,σ',H',J,rv,q⟩:=hs
  exact fin J rv q
 | next =>
  obtain ⟨σ',H',J,q⟩:=hs
  exact fin (v:=V.non) (u:=Value.none) J rfl q
 | brk =>
  obtain ⟨_,_,_,q⟩:=hs
  exact False.elim q
 | cont =>
  obtain ⟨_,_,_,q⟩:=hs
  exact False.elim q
section
variable {X:Cx} {x:Str} {p pos:Pos} {e:Expr} {es:List Expr} {t:TA} {id T:String} {r:List V→Hp→VK→Prop}
def v8 (r:List V→Hp→VK→Prop)(Q:VK):List V→Hp→Prop:=fun vs H1=>r vs H1 Q
def tCB (r:List V→Hp→VK→Prop)(t:TA):TE:=fun σ H Q=>t σ H (v8 r Q)
theorem ao (hc:cL X (.builtin id) r)(hg:Gl X x)(hm:X.mg x=none)(hv:bootBuiltins x=some (.builtin id))(ha:PA X (e::es) t)(hn:x ≠ "__name__":=by decide)(hdb:(x == ("__debug__":Str))=false:=by decide)
  (he:starEach (e::es) X.env=(false,eval e X.env)::starEach es X.env:=by rfl) (hpl:(backTo pos (starEach es X.env)).any (·.1)=false:=by rfl):PE X (.Call (.Name x p) (e::es) [] pos) (tCB r t):=by
 intro Gn s σ H Q I h
 refine EC (iy I hg hm hv ?_ hn hdb)
 exact PyProof.Rows.callWith_builtin1 (thn (ha pos Gn s σ H _ I h) fun us s1 zq60=>(by obtain ⟨vs,H1,I1,r1,q1⟩:=zq60;exact hc Gn s1 σ H1 vs us Q I1 r1 q1)) he hpl
theorem cb (hc:cL X (.type T) r)(hg:Gl X x)(hm:X.mg x=none)(hv:bootBuiltins x=some (.type T))(ha:PA X (e::es) t)(hn:x ≠ "__name__":=by decide)(hdb:(x == ("__debug__":Str))=false:=by decide)
  (he:starEach (e::es) X.env=(false,eval e X.env)::starEach es X.env:=by rfl) (hpl:(backTo pos (starEach es X.env)).any (·.1)=false:=by rfl):PE X (.Call (.Name x p) (e::es) [] pos) (tCB r t):=by
 intro Gn s σ H Q I h
 refine EC (iy I hg hm hv ?_ hn hdb)
 exact CI (thn (ha pos Gn s σ H _ I h) fun us s1 zq61=>(by obtain ⟨vs,H1,I1,r1,q1⟩:=zq61;exact hc Gn s1 σ H1 vs us Q I1 r1 q1)) he hpl
end
end L2
namespace HT
open PySem PyProof.Rows
def bR:List Int→List Int→Bool
 | [],[]=>false
 | [],_::_=>true
 | _::_,[]=>false
 | x::xs,y::ys=>if x=y then bR xs ys else decide (x < y)
theorem bS (x y:Int)(xs ys:List Int):bR (x::xs) (y::ys)=if x=y then bR xs ys else decide (x < y):=rfl
theorem cn:bR [] []=false:=rfl
theorem dk (y:Int)(ys:List Int):bR [] (y::ys)=true:=rfl
theorem dm (x:Int)(xs:List Int):bR (x::xs) []=false:=rfl
theorem ke (A:Around)(s:Shared)(a:Int)(t:Tok)(c:Int)(u:Tok):∃ e,SeqAt.EqAt A s (.int a t) (.int c u) e∧(e=true ↔ a=c) :=
 ⟨(a == c),SeqAt.EqAt.int_int a t c u,by simp⟩
theorem qg (A:Around)(s:Shared)(a:Int)(t:Tok)(c:Int)(u:Tok)(prog:Program)(w:World)(E:Value→Shared→Prop)(Q:Value→Shared→Prop)(h:Q (.bool (decide (a < c))) s) :
  wpAny (model prog w) A (richCompare .Lt (.int a t) (.int c u)) Q E s :=
 (PyProof.Rows.lt_int h:wpAny (model prog w) A (compareOp .Lt (.int a t) (.int c u)) Q E s)
section
open PySem.SeqAt
open PySem.AutoSeq1 (wpAny_loadPart')
open PySem.MeetsSeq PySem.MeetsSeq2 PySem.MeetsSeq3
theorem gr (l b:Addr)(items Gv:Array Value)(n n2:Nat)(dd dd2:Option Addr)(sl sl2:Array (Option Value))(ns ms:List Int)(hi:IntsAre items.toList ns)(hj:IntsAre Gv.toList ms) :
  Meets (Builtin.«tuple.__lt__» ⟨[.ref l,.ref b],[]⟩)
   (fun _ R s=>s.heap.get? l=some { cls:=.type "tuple",dict:=dd,data:=.seq items n,slots:=sl }∧s.heap.get? b=some { cls:=.type "tuple",dict:=dd2,data:=.seq Gv n2,slots:=sl2 } ∧
    R (.ok (.ret (.bool (bR ns ms)))) s) :=
 .of_wp fun prog w A R s h=>by
  obtain ⟨hp,g,d,tk,os⟩:=s;obtain ⟨hl,hb,h⟩:=h
  have f2:=EO
  have z1:items.size=ns.length:=by rw [← hi.length];simp
  have z2:Gv.size=ms.length:=by rw [← hj.length];simp
  wp_walk using wpAny_loadPart' hl,wpAny_loadPart' hb,wpAny_forIn_list _ (fun rest b s'=>b.1=none∧s'=⟨hp,g,d,tk,os⟩∧∃ (vs ws:List Value) (ns' ms':List Int),rest=vs.zip ws ∧
   IntsAre vs ns'∧IntsAre ws ms'∧ns'.length+Gv.size=ms'.length+items.size∧R (.ok (.ret (.bool (bR ns' ms')))) ⟨hp,g,d,tk,os⟩) _
  case turn =>
   rintro ⟨y,x⟩ rest b s' ⟨hb',rfl,vs,ws,ns',ms',hz,hvi,hwi,hlen,hR⟩
   cases hvi with
   | nil=>rw [List.zip_nil_left] at hz;cases hz
   | cons a t hvi' =>
    cases hwi with
    | nil=>rw [List.zip_nil_right] at hz;cases hz
    | cons c u hwi' =>
     rw [Cy] at hz
     injection hz with hyx hrest
     injection hyx with hy hx
     subst hy hx
     rw [bS] at hR
     simp only [BH] at hlen
     obtain ⟨e,he,hiff⟩:=ke A.in1 ⟨hp,g,d,tk,os⟩ a t c u
     refine AX (he prog w _ _ ?_)
     cases e with
     | true =>
      rw [if_pos (hiff.mp rfl)] at hR
      wp_walk
      exact ⟨rfl,rfl,_,_,_,_,hrest,hvi',hwi',by omega,hR⟩
     | false =>
      rw [if_neg (fun q=>absurd (hiff.mpr q) Bx)] at hR
      have hri:=qg A.in1 ⟨hp,g,d,tk,os⟩ a t c u prog w
      wp_walk using hri
      exact ⟨_,rfl,by simpa using hR⟩
  case fin =>
   rintro ⟨b1,b2⟩ s' ⟨hb',rfl,vs,ws,ns',ms',hz,hvi,hwi,hlen,hR⟩
   simp only at hb'
   subst hb'
   have hv:bR ns' ms'=decide (items.size < Gv.size):=by
    cases hvi with
    | nil =>
     cases hwi with
     | nil =>
      simp only [Co] at hlen
      rw [cn]
      exact (AZ (by omega)).symm
     | cons c u hw =>
      simp only [Co,BH] at hlen
      rw [dk]
      exact (Bg (by omega)).symm
    | cons a t hv =>
     cases hwi with
     | nil =>
      simp only [Co,BH] at hlen
      rw [dm]
      exact (AZ (by omega)).symm
     | cons c u hw =>
      rw [Cy] at hz
      cases hz
   rw [hv] at hR
   wp_walk
   exact ⟨_,rfl,by simpa [Builtin.Tuple.tupleCompareSizes] using hR⟩
  case h =>
   exact ⟨rfl,rfl,items.toList,Gv.toList,ns,ms,rfl,hi,hj,by omega,h⟩
end
section
variable {prog:Program} {w:World} {A:Around} {E:Value→Shared→Prop} {s:Shared}
theorem fT {l b:Addr}{items Gv:Array Value}{ns ms:List Int}{Q:Value→Shared→Prop}(hl:IsTup s.heap l items)(hb:IsTup s.heap b Gv)(hi:IntsAre items.toList ns)(hj:IntsAre Gv.toList ms)
  (hu:A.units < cLine) (h:Q (.bool (bR ns ms)) s):wpAny (model prog w) A (compareOp .Lt (.ref l) (.ref b)) Q E s:=by
 obtain ⟨⟨cls,dd,data,sl⟩,ho,hc,n,hd⟩:=id hl
 obtain ⟨⟨cls2,dd2,data2,sl2⟩,ho2,hc2,n2,hd2⟩:=id hb
 simp only at hc hd hc2 hd2
 subst hc hd hc2 hd2
 exact richCompare_meets_room (op:=.Lt) ⟨_,ho,rfl⟩ ⟨_,ho2,rfl⟩ PySem.F.slot_tuple_lt PySem.F.entry_tuple_lt (PySem.F.args_tuple_lt_2 _ _) (gr l b items Gv n n2 dd dd2 sl sl2 ns ms hi hj)
  ⟨ho,ho2,show Value.bool (bR ns ms)≠Value.notImplemented∧Q (.bool (bR ns ms)) s from ⟨(fun x=>nomatch x),h⟩⟩ hu
theorem tQ {t b:Addr}{vs ws:List Value}{Q:Value→Shared→Prop}(ht:IsTup s.heap t vs.toArray)(hb:IsTup s.heap b ws.toArray)(hv:vs≠[])
  (h1:ws=[]→Q (.ref t) s) (h2:ws≠[]→Q (.ref s.heap.objs.size) { s with heap:=s.heap.push { cls:=.type "tuple",data:=.seq (vs++ws).toArray } })
  (hsz:vs.length+ws.length≤sizeLine):wpAny (model prog w) A (binaryOp .Add (.ref t) (.ref b)) Q E s:=by
 obtain ⟨⟨cls,dd,data,sl⟩,ho,hc,n,hd⟩:=id ht
 obtain ⟨⟨cls2,dd2,data2,sl2⟩,ho2,hc2,n2,hd2⟩:=id hb
 simp only at hc hd hc2 hd2
 subst hc hd hc2 hd2
 have e:vs.toArray++ws.toArray=(vs++ws).toArray:=by simp
 by_cases hw:ws=[]
 ·exact concat_meets ⟨_,ho,rfl⟩ ⟨_,ho2,rfl⟩ Fc seq_tuple_add DS DE (Dy _ _)
   (tuple_addW1 t b vs.toArray ws.toArray n n2 dd dd2 sl sl2 (by simpa using hv) (by simp [hw])) ⟨ho,ho2,h1 hw⟩
 ·refine concat_meets ⟨_,ho,rfl⟩ ⟨_,ho2,rfl⟩ Fc seq_tuple_add DS DE (Dy _ _)
   (tuple_addW2 t b vs.toArray ws.toArray n n2 dd dd2 sl sl2 (by simpa using hv) (by simpa using hw) (by rw [Be,Be];exact hsz)) ⟨ho,ho2,?_⟩
  rw [e]
  exact h2 hw
def sIx (n d:Nat):Option Int→Nat
 | none=>d
 | some v=>if v < 0 then (v+(n:Int)).toNat else min v.toNat n
theorem gs (n d:Nat):sIx n d none=d:=rfl
theorem fj (n d k:Nat):sIx n d (some (k:Int))=min k n:=by
 show (if (k:Int) < 0 then ((k:Int)+(n:Int)).toNat else min (k:Int).toNat n)=min k n
 rw [if_neg (by omega),BR]
theorem mT (n d:Nat)(hd:d≤n)(o:Option Int):sIx n d o≤n:=by
 cases o with
 | none=>exact hd
 | some v =>
  show (if v < 0 then (v+(n:Int)).toNat else min v.toNat n)≤n
  by_cases hv:v < 0
  ·rw [if_pos hv];omega
  ·rw [if_neg hv];exact Nat.min_le_right _ _
theorem mU (v:Int)(n d:Nat):(if v < 0 then max (v+(n:Int)) 0 else min v (n:Int))=((sIx n d (some v):Nat):Int):=by
 show (if v < 0 then max (v+(n:Int)) 0 else min v (n:Int))=(((if v < 0 then (v+(n:Int)).toNat else min v.toNat n):Nat):Int)
 by_cases hv:v < 0
 ·simp only [if_pos hv];omega
 ·simp only [if_neg hv];omega
theorem lJ (lo hi:Option Int)(n:Nat):Builtin.Slice.sliceAdjust lo hi 1 (n:Int)=(((sIx n 0 lo:Nat):Int),((sIx n n hi:Nat):Int)):=by
 have h1:¬ ((1:Int) < 0):=by omega
 unfold Builtin.Slice.sliceAdjust
 simp only [h1,Cf]
 refine Dj ?_ ?_
 ·cases lo with
  | none=>rfl
  | some v=>exact mU v n 0
 ·cases hi with
  | none=>rfl
  | some v=>exact mU v n n
theorem lK (i j:Nat):Builtin.Slice.slicePlaces (i:Int) (j:Int) 1=j - i:=by
 unfold Builtin.Slice.slicePlaces
 have h1:(1:Int) > 0:=by omega
 simp only [h1,CV,Int.ediv_one]
 split <;> omega
theorem fU {v:Value}{o:Option Int}{Q:Option Int→Shared→Prop}(p:IsPart v o)(h:Q o s):wpAny (model prog w) A (Builtin.Slice.slicePartIndex v) Q E s:=by
 cases p with
 | none=>exact EF h
 | int i t=>exact slicePart_int h
theorem cH {sl:Addr}{vl vu:Value}{lo hi:Option Int}{n:Nat}{Q:Int × Int × Nat→Shared→Prop}(hs:s.heap.IsSliceOf sl vl vu .none)(pl:IsPart vl lo)(pu:IsPart vu hi)
  (h:Q (((sIx n 0 lo:Nat):Int),1,sIx n n hi - sIx n 0 lo) s):wpAny (model prog w) A (Builtin.Slice.sliceApplied (.ref sl) (pure (n:Int))) Q E s:=by
 obtain ⟨os,hos,hcs,hds⟩:=id hs
 unfold Builtin.Slice.sliceApplied Builtin.Slice.sliceFields
 refine AX (AX (CP hos hds (x:=vl) rfl (AX (CP hos hds (x:=vu) rfl (AX (CP hos hds (x:=.none) rfl (A4 ?_)))))))
 refine AX (EF ?_)
 show wpAny _ _ (if ((1:Int) == 0)=true then _ else _) _ _ s
 rw [if_neg (by decide)]
 refine AX (fU pl (AX (fU pu (AX (A4 ?_)))))
 show wpAny _ _ (match Builtin.Slice.sliceAdjust lo hi 1 (n:Int) with | (lo,hi)=>pure (lo,(1:Int),Builtin.Slice.slicePlaces lo hi 1)) _ _ s
 rw [lJ lo hi n]
 show wpAny _ _ (pure (((sIx n 0 lo:Nat):Int),(1:Int),Builtin.Slice.slicePlaces ((sIx n 0 lo:Nat):Int) ((sIx n n hi:Nat):Int) 1)) _ _ s
 rw [lK]
 exact A4 h
theorem qh (xs:Array Value)(i k:Nat):((List.range k).filterMap fun (m:Nat)=>xs[((i:Int)+(m:Int)*1).toNat]?).toArray=((xs.toList.drop i).take k).toArray:=by
 have e:(fun (m:Nat)=>xs[((i:Int)+(m:Int)*1).toNat]?)=fun m=>xs[i+m]?:=by
  funext m
  have:((i:Int)+(m:Int)*1).toNat=i+m:=by omega
  rw [this]
 rw [e]
 have:=pick_run xs i k
 rw [List.filterMap_map] at this
 have e2:((fun x=>xs[x]?) ∘ fun x=>i+x)=fun m=>xs[i+m]?:=rfl
 rw [e2] at this
 rw [this]
theorem ei {t sl:Addr}{items:Array Value}{vl vu:Value}{lo hi:Option Int}{Q:Value→Shared→Prop}(ht:IsTup s.heap t items)(hs:s.heap.IsSliceOf sl vl vu .none)(pl:IsPart vl lo)(pu:IsPart vu hi)
  (hw:¬ (sIx items.size 0 lo=0∧sIx items.size items.size hi=items.size))
  (h:Q (.ref s.heap.objs.size) { s with heap:=s.heap.push { cls:=.type "tuple",data:=.seq ((items.toList.drop (sIx items.size 0 lo)).take (sIx items.size items.size hi - sIx items.size 0 lo)).toArray } })
  (hsz:items.size≤sizeLine):wpAny (model prog w) A (getItem (.ref t) (.ref sl)) Q E s:=by
 have GG:sizeOk (.seq ((items.toList.drop (sIx items.size 0 lo)).take (sIx items.size items.size hi - sIx items.size 0 lo)).toArray):=by
  show ((items.toList.drop (sIx items.size 0 lo)).take (sIx items.size items.size hi - sIx items.size 0 lo)).toArray.size≤sizeLine
  rw [Be,Bd,BS,A0]
  omega
 have hj:sIx items.size items.size hi≤items.size:=mT _ _ (A8 _) hi
 obtain ⟨os,hos,hcs,hds⟩:=id hs
 have hTs:s.TypeIs (.ref sl) "slice":=⟨os,hos,hcs⟩
 unfold getItem
 try with_reducible refine Ca ?_
 first | refine AX (A4 ?_) | skip
 refine AX (ER ht.typeIs (by decide) ?_)
 refine AX (CA (name:=Str.ofString "__getitem__") ht.typeIs B2
  (Cj B2 ht.typeIs El ?_ (ED _ _)))
 show wpAny _ _ (Builtin.Tuple.tupleItemsOf (.ref t) >>= _) _ _ s
 refine AX (tupleItemsOf_ ht ?_)
 refine AX (D0 hTs ?_)
 rw [if_pos (by decide)]
 refine AX (cH hs pl pu ?_)
 have hno:¬ ((((sIx items.size 0 lo:Nat):Int) == 0 && (1:Int) == 1 && (sIx items.size items.size hi - sIx items.size 0 lo) == items.size)=true):=by
  intro q
  rw [B9,B9] at q
  have q1:((sIx items.size 0 lo:Nat):Int)=0:=eq_of_beq q.1.1
  have q2:sIx items.size items.size hi - sIx items.size 0 lo=items.size:=eq_of_beq q.2
  exact hw ⟨by omega,by omega⟩
 show wpAny _ _ (if (((sIx items.size 0 lo:Nat):Int) == 0 && (1:Int) == 1 && (sIx items.size items.size hi - sIx items.size 0 lo) == items.size)=true then _ else _) _ _ s
 rw [if_neg hno,qh]
 first
  | exact AX (m:=Builtin.Tuple.tupleExact _) (Cr (A4 ⟨_,rfl,A4 h⟩) GG)
  | exact AX (m:=Builtin.Tuple.tupleExact _) (Cr (AX (A4 (A4 ⟨_,rfl,A4 h⟩))) GG)
  | exact AX (AX (m:=Builtin.Tuple.tupleExact _) (Cr (A4 (A4 ⟨_,rfl,A4 h⟩)) GG))
  | exact AX (AX (m:=Builtin.Tuple.tupleExact _) (Cr (A4 ⟨_,rfl,A4 h⟩) GG))
end
end HT
namespace L2
open PySem PySem.Spec PyProof.Rows
abbrev TO:=St→Hp→(Option Int→Hp→Prop)→Prop
def PO (X:Cx)(e:Option Expr)(t:TO):Prop :=
 ∀ (Gn:List (Addr × Obj)) (s:Shared) (σ:St) (H:Hp) (Q:Option Int→Hp→Prop),Inv X Gn σ H s→t σ H Q →
  wpAny (model X.prog X.w) X.A (evalPart e X.env) (fun u s'=>∃ o H',Inv X Gn σ H' s'∧IsPart u o∧Q o H') X.xe s
def tR:TO:=fun _ H Q=>Q none H
inductive IsI (x:V)(H:Hp)(Q:Option Int→Hp→Prop):Prop
 | mk:∀ i,(x = .int i)→(Q (some i) H)→IsI x H Q
def qi (Q:(Option Int→Hp→Prop)):V→Hp→Prop:=fun x H1=>IsI x H1 Q
def yB (t:TE):TO:=fun σ H Q=>t σ H (qi Q)
theorem c_ {ns:List Int}:∀ {us:List Value},bh (ns.map V.int) us→IntsAre us ns:=by
 induction ns with
 | nil=>intro us r;rw [Dz] at r;cases r;exact .nil
 | cons n ns ih =>
  intro us r
  rw [Bv] at r
  cases r with
  | cons r1 r2 =>
   obtain ⟨t,e⟩:=r1
   subst e
   exact .cons n t (ih r2)
section
variable {X:Cx} {e:Expr} {te:TE} {lo hi:Option Expr} {tl th:TO} {pos p2:Pos}
theorem bb:PO X none tR:=by
 intro Gn s σ H Q I h
 rw [E6]
 exact A4 ⟨none,H,I,.none,h⟩
theorem a9 (h:PE X e te):PO X (some e) (yB te):=by
 intro Gn s σ H Q I hw
 rw [evalPart_some]
 refine thn (h Gn s σ H _ I hw) fun u s1 zq62=>?_
 obtain ⟨x,H1,I1,r1,q1⟩:=zq62
 obtain ⟨i,rfl,q⟩:=q1
 obtain ⟨t,rfl⟩:=r1
 exact ⟨some i,H1,I1,.int i t,q⟩
def SlR (X:Cx)(r:V→Option Int→Option Int→Hp→VK→Prop):Prop :=
 ∀ (Gn:List (Addr × Obj)) (s:Shared) (σ:St) (H:Hp) (x:V) (v vl vu:Value) (lo hi:Option Int) (sl:Addr) (Q:VK),Inv X Gn σ H s→bH x v→s.heap.IsSliceOf sl vl vu .none→IsPart vl lo→IsPart vu hi→r x lo hi H Q →
  ∃ T id,typeLookup (.type T) "__getitem__" = pure (some (.builtin id))∧s.TypeIs v T∧wpAny (model X.prog X.w) X.A (getItem v (.ref sl)) (EP X Gn σ Q) X.xe s
def v9 (r:V→Option Int→Option Int→Hp→VK→Prop)(Q:VK)(x:V)(l:Option Int):Option Int→Hp→Prop:=fun u H3=>r x l u H3 Q
def v_ (r:V→Option Int→Option Int→Hp→VK→Prop)(th:TO)(σ:St)(Q:VK)(x:V):Option Int→Hp→Prop:=fun l H2=>th σ H2 (v9 r Q x l)
def wa (r:V→Option Int→Option Int→Hp→VK→Prop)(tl:TO)(th:TO)(σ:St)(Q:VK):V→Hp→Prop:=fun x H1=>tl σ H1 (v_ r th σ Q x)
def tSl (r:V→Option Int→Option Int→Hp→VK→Prop)(te:TE)(tl th:TO):TE:=fun σ H Q=>te σ H (wa r tl th σ Q)
theorem aJ {r:V→Option Int→Option Int→Hp→VK→Prop}(hr:SlR X r)(he:PE X e te)(hl:PO X lo tl)(hu:PO X hi th):PE X (.Subscript e (.Slice lo hi none p2) pos) (tSl r te tl th):=by
 intro Gn s σ H Q I h
 refine ES (thn (he Gn s σ H _ I h) fun v s1 zq63=>?_)
 obtain ⟨x,H1,I1,r1,q1⟩:=zq63
 refine wpAny_Slice (thn (hl Gn s1 σ H1 _ I1 q1) fun vl s2 ⟨l,H2,I2,pl,q2⟩=>thn (hu Gn s2 σ H2 _ I2 q2) fun vu s3 zq64=>?_)
 obtain ⟨u,H3,I3,pu,q3⟩:=zq64
 rw [E6]
 refine A4 ?_
 have I4:Inv X Gn σ H3 { s3 with heap:=s3.heap.push { cls:=.type "slice",data:=.fields #[vl,vu,.none] } }:=I3.kept (t':=s3.toks) fun b ob q=>A3 _ q
 obtain ⟨T,id,hT,ht,hg⟩:=hr Gn { s3 with heap:=s3.heap.push { cls:=.type "slice",data:=.fields #[vl,vu,.none] } } σ H3 x v vl vu l u s3.heap.objs.size Q I4 r1 (Heap.IsSliceOf.new ..) pl pu q3
 show wpAny (model X.prog X.w) X.A (subscriptTail e (.Slice lo hi none p2) v (.ref s3.heap.objs.size)) (EP X Gn σ Q) X.xe { s3 with heap:=s3.heap.push { cls:=.type "slice",data:=.fields #[vl,vu,.none] } }
 exact tail_any (ops:=[.ref s3.heap.objs.size,v]) ht hT hg (by with_unfolding_all rfl)
def fk (xs:List V)(lo hi:Option Int):List V:=(xs.drop (HT.sIx xs.length 0 lo)).take (HT.sIx xs.length xs.length hi - HT.sIx xs.length 0 lo)
theorem fm (xs:List V)(lo hi:Option Int):(fk xs lo hi).length≤xs.length:=by
 unfold fk
 rw [Bd,BS]
 omega
inductive zY (K:PySem.W.Frag)(x:V)(lo:Option Int)(hi:Option Int)(H:Hp)(Q:VK):Prop
 | mk:∀ a xs,(x = .ref a)→(SqT K H a xs)→(¬ (HT.sIx xs.length 0 lo=0∧HT.sIx xs.length xs.length hi=xs.length))→(∀ p,H p=none→Q (.ref p) (upd H p (.tup (fk xs lo hi))))→zY K x lo hi H Q
theorem wb:SlR X (zY X.K):=by
 intro Gn s σ H x v vl vu lo hi sl Q I rx hs pl pu h
 obtain ⟨a,xs,rfl,hx,hw,q⟩:=h
 cases rx
 obtain ⟨Gp,r,ht,hz⟩:=I.tuple hx
 have hlen:Gp.toArray.size=xs.length:=by rw [Be];exact r.length.symm
 refine ⟨"tuple",_,B2.lookup,ht.typeIs,?_⟩
 refine HT.ei ht hs pl pu (by rw [hlen];exact hw) ?_ (by rw [hlen];exact hz)
 rw [hlen]
 refine ⟨.ref s.heap.objs.size,_,I.laid (t':=s.toks) (o:=.tup (fk xs lo hi)) (fun b ob q=>A3 _ q) (A8 _) ?_,rfl,q _ (I.hok.fresh (A8 _))⟩
 exact ⟨BQ (fm xs lo hi) hz,_,(r.drop (HT.sIx xs.length 0 lo)).take (HT.sIx xs.length xs.length hi - HT.sIx xs.length 0 lo),IsTup.new _ _,.new _ _ rfl⟩
inductive yC (K:PySem.W.Frag)(x:V)(y:V)(H:Hp)(Q:VK):Prop
 | mk:∀ a b ns ms,(x = .ref a)→(y = .ref b)→(SqT K H a (ns.map V.int))→(SqT K H b (ms.map V.int))→(Q (.bl (HT.bR ns ms)) H)→yC K x y H Q
theorem wc (hu:X.A.units < cLine):OpR X (compareOp .Lt) (yC X.K):=by
 intro Gn s σ H x y v u Q I rx ry h
 obtain ⟨a,b,ns,ms,rfl,rfl,ha,hb,q⟩:=h
 cases rx
 cases ry
 obtain ⟨Gp,r1,p1,_⟩:=I.tuple ha
 obtain ⟨GY,r2,p2,_⟩:=I.tuple hb
 have i1:IntsAre Gp.toArray.toList ns:=c_ r1
 have i2:IntsAre GY.toArray.toList ms:=c_ r2
 exact HT.fT p1 p2 i1 i2 hu ⟨.bl (HT.bR ns ms),H,I,rfl,q⟩
inductive wd (K:PySem.W.Frag)(x:V)(y:V)(H:Hp)(Q:VK):Prop
 | mk:∀ a b xs ys,(x = .ref a)→(y = .ref b)→(SqT K H a xs)→(SqT K H b ys)→(xs≠[])→(xs.length+ys.length≤sizeLine)→((ys=[]→Q (.ref a) H))→((ys≠[]→∀ p,H p=none→Q (.ref p) (upd H p (.tup (xs++ys)))))→wd K x y H Q
theorem bh.nil_iff {xs:List V}{us:List Value}(r:bh xs us):us=[] ↔ xs=[]:=by
 cases r with
 | nil=>simp
 | cons _ _=>simp
theorem tT:OpR X (binaryOp .Add) (wd X.K):=by
 intro Gn s σ H x y v u Q I rx ry h
 obtain ⟨a,b,xs,ys,rfl,rfl,ha,hb,hx,hz,q1,q2⟩:=h
 cases rx
 cases ry
 obtain ⟨Gp,r1,p1,_⟩:=I.tuple ha
 obtain ⟨GY,r2,p2,_⟩:=I.tuple hb
 refine HT.tQ p1 p2 (fun z=>hx (r1.nil_iff.mp z)) (fun z=>⟨.ref a,H,I,rfl,q1 (r2.nil_iff.mp z)⟩) (fun z=>?_) (by rw [← r1.length,← r2.length];exact hz)
 refine ⟨.ref s.heap.objs.size,_,I.laid (t':=s.toks) (o:=.tup (xs++ys)) (fun b ob q=>A3 _ q) (A8 _) ?_,rfl,q2 (fun w=>z (r2.nil_iff.mpr w)) _ (I.hok.fresh (A8 _))⟩
 exact ⟨by rw [A7];exact hz,_,r1.append r2,IsTup.new _ _,.new _ _ rfl⟩
end
def ixN (n:Nat)(i:Int):Option Nat:=if 0≤i then (if i < n then some i.toNat else none) else if -(n:Int)≤i then some (i+n).toNat else none
def atI {α:Type}(xs:List α)(i:Int):Option α:=(ixN xs.length i).bind fun j=>xs[j]?
theorem jh {n:Nat}{i:Int}{j:Nat}(h:ixN n i=some j):seqIndex? i n=some j∧j < n∧-(n:Int)≤i∧i < n:=by
 unfold ixN at h
 by_cases h0:0≤i
 ·rw [if_pos h0] at h
  by_cases h1:i < n
  ·rw [if_pos h1] at h
   have e:i.toNat=j:=A_ h
   exact ⟨by rw [seqIndex_of h0 h1,e],by omega,by omega,h1⟩
  ·rw [if_neg h1] at h;cases h
 ·rw [if_neg h0] at h
  by_cases h1:-(n:Int)≤i
  ·rw [if_pos h1] at h
   have e:(i+n).toNat=j:=A_ h
   exact ⟨by rw [seqIndex_neg (by omega) h1,e],by omega,h1,by omega⟩
  ·rw [if_neg h1] at h;cases h
theorem ji {α:Type}{xs:List α}{i:Int}{v:α}(h:atI xs i=some v):∃ j,seqIndex? i xs.length=some j∧xs[j]? = some v∧j < xs.length∧-(xs.length:Int)≤i∧i < xs.length:=by
 unfold atI at h
 cases e:ixN xs.length i with
 | none=>rw [e] at h;cases h
 | some j =>
  rw [e] at h
  obtain ⟨h1,h2,h3,h4⟩:=jh e
  exact ⟨j,h1,h,h2,h3,h4⟩
theorem dz {α:Type}{xs:List α}{j:Nat}{v:α}(h:xs[j]? = some v):atI xs (j:Int)=some v:=by
 have hj:j < xs.length:=(A6.mp h).1
 have e:ixN xs.length (j:Int)=some j:=by
  unfold ixN
  rw [if_pos (by omega),if_pos (by omega)];simp
 unfold atI;rw [e];exact h
theorem kf {α:Type}(xs:List α)(v:α):atI (xs++[v]) (-1)=some v:=by
 have hl:(xs++[v]).length=xs.length+1:=by simp
 have e:ixN (xs++[v]).length (-1)=some xs.length:=by
  unfold ixN
  rw [hl,if_neg (by decide),if_pos (by omega)]
  congr 1
  omega
 unfold atI
 rw [e]
 show (xs++[v])[xs.length]? = some v
 simp
def mV (b:Expr):Prop:=∀ o i,subscripted b false o i=operate [o,i] (getItem o i)
def IxR (X:Cx)(r:R2):Prop :=
 ∀ (value slice:Expr) (Gn:List (Addr × Obj)) (s:Shared) (σ:St) (H:Hp) (x y:V) (v u:Value) (Q:VK),Inv X Gn σ H s→bH x v→bH y u→r x y H Q →
  subscripted slice false v u=operate [v,u] (getItem v u)→wpAny (model X.prog X.w) X.A (subscriptTail value slice v u) (EP X Gn σ Q) X.xe s
def MtR (X:Cx)(id:String)(r:V→List V→Hp→VK→Prop):Prop :=
 ∀ (Gn:List (Addr × Obj)) (s:Shared) (σ:St) (H:Hp) (x:V) (xs:List V) (v:Value) (us:List Value) (Q:VK),Inv X Gn σ H s→bH x v→bh xs us→r x xs H Q →
  wpAny (model X.prog X.w) X.A (call (.builtin id) (v::us)) (EP X Gn σ Q) X.xe s
section
variable {X:Cx} {a b:Expr} {ta tb:TE} {pos:Pos}
theorem aG {r:R2}(hr:IxR X r)(ha:PE X a ta)(hb:PE X b tb)(hs:mV b):PE X (.Subscript a b pos) (tOp r ta tb):=by
 intro Gn s σ H Q I h
 exact ES (yu ha hb I h fun v u s2 x y H2 I2 rx ry q=>hr a b Gn s2 σ H2 x y v u Q I2 rx ry q (hs _ _))
inductive zZ (K:PySem.W.Frag)(x:V)(y:V)(H:Hp)(Q:VK):Prop
 | mk:∀ p xs i v,(x = .ref p)→(y = .int i)→(SqL K H p xs)→(atI xs i=some v)→(Q v H)→zZ K x y H Q
inductive z3 (K:PySem.W.Frag)(x:V)(y:V)(H:Hp)(Q:VK):Prop
 | mk:∀ p xs i v,(x = .ref p)→(y = .int i)→(SqT K H p xs)→(atI xs i=some v)→(Q v H)→z3 K x y H Q
inductive z6 (x:V)(y:V)(H:Hp)(Q:VK):Prop
 | mk:∀ z i c,(x = .str z)→(y = .int i)→(z.length≤sizeLine)→(atI z.cps.toList i=some c)→(Q (.str ⟨#[c]⟩) H)→z6 x y H Q
theorem bg:IxR X (zZ X.K):=by
 intro value slice Gn s σ H x y v u Q I rx ry h hs
 obtain ⟨p,xs,i,z,rfl,rfl,hq,he,q⟩:=h
 cases rx
 obtain ⟨t,rfl⟩:=ry
 obtain ⟨Gp,r,pl,hz⟩:=I.list hq
 obtain ⟨j,h1,h2,h3,h4,h5⟩:=ji he
 obtain ⟨w,ew,rw'⟩:=r.get h2
 have hl:=r.length
 have hn:=dN
 have fin:EP X Gn σ Q w s:=⟨z,H,I,rw',q⟩
 by_cases h0:0≤i
 ·have hj:i.toNat=j:=by
   rw [seqIndex_of h0 h5] at h1
   exact A_ h1
  exact item_listR pl.isList h0 (by omega) (by rw [hj];simpa using ew) fin hs
 ·have hj:(i+(Gp.toArray.size:Int)).toNat=j:=by
   rw [seqIndex_neg (by omega) h4] at h1
   rw [Be,← hl]
   exact A_ h1
  exact subscriptTail_builtinR (x:=w) pl.isList.typeIs slot_list_getitem.lookup
   (wpAny_getItem_list_neg (Q:=fun r s'=>r=w∧EP X Gn σ Q r s') pl.isList (by omega) (by rw [Be] <;> omega) (by omega) (by rw [hj];simpa using ew) ⟨rfl,fin⟩) hs
theorem aL:IxR X (z3 X.K):=by
 intro value slice Gn s σ H x y v u Q I rx ry h hs
 obtain ⟨p,xs,i,z,rfl,rfl,hq,he,q⟩:=h
 cases rx
 obtain ⟨t,rfl⟩:=ry
 obtain ⟨Gp,r,pl,hz⟩:=I.tuple hq
 obtain ⟨j,h1,h2,h3,h4,h5⟩:=ji he
 obtain ⟨w,ew,rw'⟩:=r.get h2
 have hl:=r.length
 have hn:=dN
 have fin:EP X Gn σ Q w s:=⟨z,H,I,rw',q⟩
 exact subscriptTail_builtinR (x:=w) pl.typeIs slot_tuple_getitem.lookup
  (getItem_tuple (j:=j) (Q:=fun r s'=>r=w∧EP X Gn σ Q r s') pl (by omega) (by omega) (by rw [Be,← hl];exact h1) (by simpa using ew) ⟨rfl,fin⟩) hs
theorem fo:IxR X z6:=by
 intro value slice Gn s σ H x y v u Q I rx ry h hs
 obtain ⟨z,i,c,rfl,rfl,hz,he,q⟩:=h
 obtain ⟨t,rfl⟩:=rx
 obtain ⟨t',rfl⟩:=ry
 obtain ⟨j,h1,h2,h3,h4,h5⟩:=ji he
 have hl:z.cps.toList.length=z.length:=by simp [Str.length]
 rw [hl] at h1 h4 h5
 have hn:=dN
 exact tail_any (Eh s z t) slot_str_getitem.lookup (getItem_str (c:=c) (by
  have e1:decide (i < -(2 ^ 63:Int))=false:=AZ (by omega)
  have e2:decide (i≥2 ^ 63)=false:=AZ (by omega)
  rw [e1,e2,FB]) (by rw [h1];simpa using h2) ⟨.str ⟨#[c]⟩,H,I.tok _,⟨_,rfl⟩,q⟩) hs
theorem lL (Gp:List Value)(n j:Nat)(u:Value):Obj.mapSeq (·.setIfInBounds j u) { cls:=.type "list",data:=.seq Gp.toArray n }={ cls:=.type "list",data:=.seq (Gp.set j u).toArray n }:=by
 simp [Obj.mapSeq]
theorem Inv.lst {Gn:List (Addr × Obj)}{σ:St}{H:Hp}{s:Shared}{p:Addr}{xs:List V}(I:Inv X Gn σ H s)(h:H p=some (.lst xs)) :
  ∃ (Gp:List Value) (n:Nat),bh xs Gp∧s.heap.get? p=some { cls:=.type "list",data:=.seq Gp.toArray n }∧xs.length≤sizeLine:=by
 obtain ⟨z,Gp,n,r,e⟩:=I.hok p _ h
 exact ⟨Gp,n,r,e,z⟩
theorem Inv.lstUpd {Gn:List (Addr × Obj)}{σ:St}{H:Hp}{s:Shared}{p:Addr}{xs ys:List V}{Gp its':List Value}{n n':Nat}{f:Obj→Obj}(I:Inv X Gn σ H s)(h:H p=some (.lst xs))
  (ho:s.heap.get? p=some { cls:=.type "list",data:=.seq Gp.toArray n }) (hf:f { cls:=.type "list",data:=.seq Gp.toArray n }={ cls:=.type "list",data:=.seq its'.toArray n' }) (r:bh ys its') (hz:ys.length≤sizeLine) (t:Nat) :
  Inv X Gn σ (upd H p (.lst ys)) { s with heap:=s.heap.update p f,toks:=t }:=by
 have e:(s.heap.update p f).get? p=some { cls:=.type "list",data:=.seq its'.toArray n' }:=by
  rw [Dc f ho (by rw [hf] <;> rfl),hf]
 refine I.write (x:=p) (e:=p) (by rw [h];trivial) (.inl rfl) (fun b u hb q=>(BY _ _ (Ne.symm hb)).trans q) ⟨_,e⟩ ?_
 exact ⟨hz,its',n',r,e⟩
inductive we (o:V)(i:V)(v:V)(H:Hp)(Q:(Hp→Prop)):Prop
 | mk:∀ p xs k j,(o = .ref p)→(i = .int k)→(H p=some (.lst xs))→(ixN xs.length k=some j)→(Q (upd H p (.lst (xs.set j v))))→we o i v H Q
theorem eV:zT X we:=by
 intro Gn s σ H o i v ov iv u Q I ro ri rv h
 obtain ⟨p,xs,k,j,rfl,rfl,hp,hj,q⟩:=h
 cases ro
 obtain ⟨t,rfl⟩:=ri
 obtain ⟨Gp,n,r,ho,hz⟩:=I.lst hp
 obtain ⟨h1,h2,h3,h4⟩:=jh hj
 have hl:=r.length
 have hn:=dN
 have I':Inv X Gn σ (upd H p (.lst (xs.set j v))) { s with heap:=s.heap.update p (Obj.mapSeq (·.setIfInBounds j u)) } :=
  I.lstUpd hp ho (lL Gp n j u) (r.set rv j) (by rw [List.length_set];exact hz) s.toks
 by_cases h0:0≤k
 ·have hk:k.toNat=j:=by
   rw [seqIndex_of h0 h4] at h1
   exact A_ h1
  exact PySem.W.ki_setAt ho h0 (by omega) (by rw [Be,← hl];exact h4) (by rw [hk];exact ⟨_,I',q⟩)
 ·have hk:(k+(Gp.toArray.size:Int)).toNat=j:=by
   rw [seqIndex_neg (by omega) h3] at h1
   rw [Be,← hl]
   exact A_ h1
  exact PySem.W.ki_setBack ho (by omega) (by rw [Be,← hl];exact h3) (by omega) (by rw [hk];exact ⟨_,I',q⟩)
theorem iE (lo hi:Option Int)(n:Nat):(sliceBounds lo hi none n).1=((HT.sIx n 0 lo:Nat):Int)∧(sliceBounds lo hi none n).2.1=((HT.sIx n n hi:Nat):Int)∧(sliceBounds lo hi none n).2.2=1:=by
 refine ⟨?_,?_,rfl⟩
 ·cases lo with
  | none=>simp [sliceBounds,HT.sIx]
  | some i =>
   simp only [sliceBounds,HT.sIx,Fd,show (1:Int) > 0 by decide,CV]
   by_cases h:i < 0
   ·simp only [h,CV] <;> omega
   ·simp only [h,Cf] <;> omega
 ·cases hi with
  | none=>simp [sliceBounds,HT.sIx]
  | some i =>
   simp only [sliceBounds,HT.sIx,Fd,show (1:Int) > 0 by decide,CV]
   by_cases h:i < 0
   ·simp only [h,CV] <;> omega
   ·simp only [h,Cf] <;> omega
theorem gu (Gp:List Value)(lo hi:Option Int):slicePick Gp.toArray lo hi none=((Gp.drop (HT.sIx Gp.length 0 lo)).take (HT.sIx Gp.length Gp.length hi - HT.sIx Gp.length 0 lo)).toArray:=by
 obtain ⟨h1,h2,h3⟩:=iE lo hi Gp.toArray.size
 unfold slicePick
 rw [h1,h2,h3]
 simp only [sliceRange_one,pick_run,Be] <;> rfl
inductive z9 (K:PySem.W.Frag)(x:V)(lo:Option Int)(hi:Option Int)(H:Hp)(Q:VK):Prop
 | mk:∀ a xs,(x = .ref a)→(SqL K H a xs)→(∀ p,H p=none→Q (.ref p) (upd H p (.lst (fk xs lo hi))))→z9 K x lo hi H Q
theorem gz:SlR X (z9 X.K):=by
 intro Gn s σ H x v vl vu lo hi sl Q I rx hs pl pu h
 obtain ⟨a,xs,rfl,hx,q⟩:=h
 cases rx
 obtain ⟨Gp,r,ht,hz⟩:=I.list hx
 have hlen:=r.length
 refine ⟨"list",_,slot_list_getitem.lookup,ht.isList.typeIs,?_⟩
 refine wpAny_getItem_list_slice ht.isList hs pl pu .none (by simp) ?_ (by rw [Be] <;> omega)
 rw [gu,← hlen]
 refine ⟨.ref s.heap.objs.size,_,I.laid (t':=s.toks) (o:=.lst (fk xs lo hi)) (fun b ob q=>A3 _ q) (A8 _) ?_,rfl,q _ (I.hok.fresh (A8 _))⟩
 exact ⟨BQ (fm xs lo hi) hz,_,0,(r.drop (HT.sIx xs.length 0 lo)).take (HT.sIx xs.length xs.length hi - HT.sIx xs.length 0 lo),Bh _ rfl⟩
inductive bJ (K:PySem.W.Frag)(xs:List V)(H:Hp)(Q:VK):Prop
 | mk:∀ p ys,(xs=[.ref p])→((SqL K H p ys ∨ SqT K H p ys))→(Q (.int ys.length) H)→bJ K xs H Q
theorem aO:cL X (.builtin "len") (bJ X.K):=by
 intro Gn s σ H xs us Q I r h
 obtain ⟨p,ys,rfl,hq,q⟩:=h
 obtain ⟨u,rfl,rx⟩:=cM r
 cases rx
 have hn:=dN
 rcases hq with hq | hq
 ·obtain ⟨Gp,r',pl,hz⟩:=I.list hq
  have hlen:=r'.length
  exact Calls.call_len_list pl.isList (by simp only [Be] <;> omega) ⟨.int ys.length,H,I.tok _,⟨s.toks+1,by rw [Be,hlen]⟩,q⟩
 ·obtain ⟨Gp,r',pl,hz⟩:=I.tuple hq
  have hlen:=r'.length
  exact len_tuple pl (by simp only [Be] <;> omega) ⟨.int ys.length,H,I.tok _,⟨s.toks+1,by rw [Be,hlen]⟩,q⟩
inductive dq  (xs:List V)(H:Hp)(Q:VK):Prop
 | mk:∀ z,(xs=[.str z])→(z.length≤sizeLine)→(Q (.int z.length) H)→dq xs H Q
theorem aC:cL X (.builtin "len") dq:=by
 intro Gn s σ H xs us Q I r h
 obtain ⟨z,rfl,hz,q⟩:=h
 obtain ⟨u,rfl,t,rfl⟩:=cM r
 have hn:=dN
 exact len_str (by omega) ⟨.int z.length,H,I.tok _,⟨_,rfl⟩,q⟩
inductive du (K:PySem.W.Frag)(xs:List V)(H:Hp)(Q:VK):Prop
 | mk:∀ p ys,(xs=[.ref p])→((SqL K H p ys ∨ SqT K H p ys))→(∀ l,H l=none→Q (.ref l) (upd H l (.lst ys)))→du K xs H Q
theorem iF:cL X (.type "list") (du X.K):=by
 intro Gn s σ H xs us Q I r h
 obtain ⟨p,ys,rfl,hq,q⟩:=h
 obtain ⟨u,rfl,rx⟩:=cM r
 cases rx
 have fin:∀ (Gp:List Value),bh ys Gp→ys.length≤sizeLine→∀ (h':Heap) (c':Nat),(∀ b o',s.heap.get? b=some o'→h'.get? b=some o') →
   h'.get? s.heap.objs.size=some { cls:=.type "list",dict:=none,data:=.seq Gp.toArray c',slots:=#[] }→EP X Gn σ Q (.ref s.heap.objs.size) { s with heap:=h' }:=fun Gp r' hz h' c' kp e =>
  ⟨.ref s.heap.objs.size,_,I.laid (t':=s.toks) kp (A8 _) (show bT X.prog X.w _ h' _ (.lst ys) from ⟨hz,Gp,c',r',e⟩),rfl,q _ (I.hok.fresh (A8 _))⟩
 rcases hq with hq | hq
 ·obtain ⟨Gp,r',pl,hz⟩:=I.list hq
  have hlen:=r'.length
  obtain ⟨o,ho,hc,n,hd⟩:=pl.isList
  exact call_list_seq p (.inl rfl) ho hc hd (fun h' c' kp e=>fin Gp r' hz h' c' kp e) (by simp only [Be] <;> omega)
 ·obtain ⟨Gp,r',pl,hz⟩:=I.tuple hq
  have hlen:=r'.length
  obtain ⟨o,ho,hc,n,hd⟩:=pl
  exact call_list_seq p (.inr rfl) ho hc hd (fun h' c' kp e=>fin Gp r' hz h' c' kp e) (by simp only [Be] <;> omega)
inductive cO (K:PySem.W.Frag)(xs:List V)(H:Hp)(Q:VK):Prop
 | mk:∀ p ys,(xs=[.ref p])→(((SqL K H p ys∧∀ l,H l=none→Q (.ref l) (upd H l (.tup ys))) ∨ (SqT K H p ys∧Q (.ref p) H)))→cO K xs H Q
theorem cq:cL X (.type "tuple") (cO X.K):=by
 intro Gn s σ H xs us Q I r h
 obtain ⟨p,ys,rfl,h⟩:=h
 obtain ⟨u,rfl,rx⟩:=cM r
 cases rx
 rcases h with ⟨hq,q⟩ | ⟨hq,q⟩
 ·obtain ⟨Gp,r',pl,hz⟩:=I.list hq
  have hlen:=r'.length
  refine call_tuple_list pl.isList (fun h' kp=>?_) (by simp only [Be] <;> omega)
  have I1:Inv X Gn σ H { s with heap:=h' }:=I.kept (t':=s.toks) kp
  have I2:Inv X Gn σ (upd H h'.objs.size (.tup ys)) { s with heap:=h'.push { cls:=.type "tuple",data:=.seq Gp.toArray } } :=
   I1.laid (t':=s.toks) (fun b o e=>A3 _ e) (A8 _) (show bT X.prog X.w _ _ _ (.tup ys) from ⟨hz,Gp,r',IsTup.new _ _,.new _ _ rfl⟩)
  exact ⟨.ref h'.objs.size,_,I2,rfl,q _ (I1.hok.fresh (A8 _))⟩
 ·obtain ⟨Gp,r',pl,hz⟩:=I.tuple hq
  exact call_tuple_same pl ⟨.ref p,H,I,rfl,q⟩
def tyV (K:PySem.W.Frag)(T:String)(x:V)(H:Hp):Prop:=match x with
 | .str _=>T = "str"
 | .int _=>T = "int"
 | .ref p=>(T = "list"∧∃ xs,SqL K H p xs) ∨ (T = "tuple"∧((∃ o,K.lookup p=some o∧o.cls = .type "tuple"∧o.dict=none) ∨ ∃ xs,H p=some (.tup xs))) ∨
   (T = "dict"∧((∃ Gq,H p=some (.dK Gq)) ∨ ∃ Gq,H p=some (.dT Gq))) ∨ (T = "set"∧∃ S n,H p=some (.set S n))
 | _=>False
theorem rY {Gn:List (Addr × Obj)}{σ:St}{H:Hp}{s:Shared}{T:String}{x:V}{v:Value}(I:Inv X Gn σ H s)(r:bH x v)(ty:tyV X.K T x H) :
  s.TypeIs v T∧∀ a,v = .ref a→∃ ob,s.heap.get? a=some ob∧ob.dict=none:=by
 cases x with
 | str z =>
  obtain ⟨t,rfl⟩:=r
  cases (show T = "str" from ty)
  exact ⟨Eh s z t,fun _ e=>nomatch e⟩
 | int i =>
  obtain ⟨t,rfl⟩:=r
  cases (show T = "int" from ty)
  exact ⟨typeIs_int s i t,fun _ e=>nomatch e⟩
 | ref p =>
  cases r
  rcases ty with ⟨rfl,xs,hq⟩ | ⟨rfl,⟨o,hk,hc,hd⟩ | ⟨xs,hk⟩⟩ | ⟨rfl,hk⟩ | ⟨rfl,S,n,hk⟩
  ·obtain ⟨Gp,_,pl,_⟩:=I.list hq
   refine ⟨pl.isList.typeIs,fun a e=>?_⟩
   cases e
   obtain ⟨o,n,e,c,hd,_⟩:=pl
   exact ⟨o,e,hd⟩
  ·refine ⟨⟨o,I.kIn p o hk,hc⟩,fun a e=>?_⟩
   cases e
   exact ⟨o,I.kIn _ o hk,hd⟩
  ·obtain ⟨_,_,_,⟨o,e,hc,_⟩,hn⟩:=I.hok p _ hk
   refine ⟨⟨o,e,hc⟩,fun a e=>?_⟩
   cases e
   exact hn
  ·have z:∃ o,s.heap.get? p=some o∧o.ExactDict:=by
    rcases hk with ⟨Gq,hk⟩ | ⟨Gq,hk⟩
    ·obtain ⟨_,_,_,_,o,_,_,e,ex,_⟩:=I.hok p _ hk
     exact ⟨o,e,ex⟩
    ·obtain ⟨_,_,_,_,o,_,_,e,ex,_⟩:=I.hok p _ hk
     exact ⟨o,e,ex⟩
   obtain ⟨o,e,ex⟩:=z
   refine ⟨⟨o,e,ex.1⟩,fun a e2=>?_⟩
   cases e2
   exact ⟨o,e,ex.2.1⟩
  ·obtain ⟨o,_,_,_,e,ex,_⟩:=I.hok p _ hk
   refine ⟨⟨o,e,ex.1⟩,fun a e2=>?_⟩
   cases e2
   exact ⟨o,e,ex.2.1⟩
 | _=>exact False.elim ty
def tU (K:PySem.W.Frag)(T:String)(r:V→List V→Hp→VK→Prop)(Q:VK):V→Hp→Prop:=fun x H1=>tyV K T x H1∧r x [] H1 Q
def z_ (K:PySem.W.Frag)(T:String)(r:V→List V→Hp→VK→Prop)(to:TE):TE:=fun σ H Q=>to σ H (tU K T r Q)
def wg (r:V→List V→Hp→VK→Prop)(Q:VK)(x:V):List V→Hp→Prop:=fun xs H2=>r x xs H2 Q
def wj (K:PySem.W.Frag)(T:String)(r:V→List V→Hp→VK→Prop)(t:TA)(σ:St)(Q:VK):V→Hp→Prop:=fun x H1=>tyV K T x H1∧t σ H1 (wg r Q x)
def tBM (K:PySem.W.Frag)(T:String)(r:V→List V→Hp→VK→Prop)(to:TE)(t:TA):TE:=fun σ H Q=>to σ H (wj K T r t σ Q)
variable {o e:Expr} {es:List Expr} {to:TE} {t:TA} {name:Str} {apos GE:Pos} {T id:String} {r:V→List V→Hp→VK→Prop}
theorem kg (pa:PlainAttrs T)(slot:Slot T name id)(hty:typeOf (.builtin id)=pure (.type "method_descriptor"))(hm:MtR X id r)(ho:PE X o to)
  (GU:attributeBase o name X.env (eval o X.env)=eval o X.env:=by rfl) (GT:(apos.endLine == GE.line)=true:=by rfl):PE X (.Call (.Attribute o name apos) [] [] GE) (z_ X.K T r to):=by
 intro Gn s σ H Q I h
 refine wpAny_Call_method0_late GU GT (thn (ho Gn s σ H _ I h) fun v s1 zq65=>?_)
 obtain ⟨x,H1,I1,r1,ty,q1⟩:=zq65
 obtain ⟨h1,h2⟩:=rY I1 r1 ty
 exact ⟨T,id,pa,slot,hty,h1,h2,Calls.callWith_builtin rfl (PySem.evalArgs_none (hm Gn s1 σ H1 x [] v [] Q I1 r1 .nil q1))⟩
theorem cu (pa:PlainAttrs T)(slot:Slot T name id)(hty:typeOf (.builtin id)=pure (.type "method_descriptor"))(hm:MtR X id r)(ho:PE X o to)(ha:PA X (e::es) t)
  (GU:attributeBase o name X.env (eval o X.env)=eval o X.env:=by rfl)
  (hfew:((backTo GE (starEach (e::es) X.env)).all (fun x=>!x.1) && (backToKw GE (keywordEach [] X.env)).all (fun x=>x.1.isSome)
   && decide ((e::es).length+([]:List Keyword).length+(if ([]:List Keyword).isEmpty then 0 else 1) < 30))=true:=by rfl)
  (GT:(apos.endLine == GE.line)=true:=by rfl) (hs:starEach (e::es) X.env=(false,eval e X.env)::starEach es X.env:=by rfl) (hplain:(backTo GE (starEach es X.env)).any (·.1)=false:=by rfl) :
  PE X (.Call (.Attribute o name apos) (e::es) [] GE) (tBM X.K T r to t):=by
 intro Gn s σ H Q I h
 refine wpAny_Call_method_late GU hfew GT rfl (thn (ho Gn s σ H _ I h) fun v s1 zq66=>?_)
 obtain ⟨x,H1,I1,r1,ty,q1⟩:=zq66
 obtain ⟨h1,h2⟩:=rY I1 r1 ty
 refine ⟨T,id,pa,slot,hty,h1,h2,?_⟩
 have hA:=ha GE Gn s1 σ H1 _ I1 q1
 rw [hs] at hA ⊢
 refine Calls.callWith_builtin (by show (false || (backTo GE (starEach es X.env)).any (·.1))=false;rw [hplain] <;> rfl) (Calls.evalArgs_plain ?_)
 exact thn hA fun us s2 zq67=>(by obtain ⟨vs,H2,I2,r2,q2⟩:=zq67;exact hm Gn s2 σ H2 x vs v us Q I2 r1 r2 q2)
/- xs.append(e),list.index on a module's tuple .. are MtR facts of 06m -/
end
def MtM (X:Cx)(id:String)(r:V→List V→Hp→VK→Prop):Prop :=
 ∀ (Gn:List (Addr × Obj)) (s:Shared) (σ:St) (H:Hp) (x:V) (xs:List V) (v:Value) (us:List Value) (Q:VK),Inv X Gn σ H s→bH x v→bh xs us→r x xs H Q →
  wpAny (model X.prog X.w) X.A (call (.builtin id) (v::us)) (EP X Gn σ Q) X.xe s
theorem bh.one:∀ {x:V} {us:List Value},bh [x] us→∃ u,us=[u]∧bH x u
 | _,_,.cons r .nil=>⟨_,rfl,r⟩
theorem bh.zero:∀ {us:List Value},bh [] us→us=[]
 | _,.nil=>rfl
theorem bh.dropLast {xs:List V}{us:List Value}(h:bh xs us):bh xs.dropLast us.dropLast:=by
 induction h with
 | nil=>exact .nil
 | cons r t ih =>
  cases t with
  | nil=>exact .nil
  | cons q t'=>exact .cons r ih
theorem bh.eraseIdx:∀ {xs:List V} {us:List Value} (i:Nat),bh xs us→bh (xs.eraseIdx i) (us.eraseIdx i)
 | _,_,_,.nil=>.nil
 | _,_,0,.cons _ t=>t
 | _,_,i+1,.cons r t=>.cons r (bh.eraseIdx i t)
theorem bh.reverse {xs:List V}{us:List Value}(h:bh xs us):bh xs.reverse us.reverse:=by
 induction h with
 | nil=>exact .nil
 | cons r t ih=>rw [ET,ET];exact bh.append ih (.cons r .nil)
theorem lM {α:Type}(l:List α):l.eraseIdx (l.length - 1)=l.dropLast:=by
 induction l with
 | nil=>rfl
 | cons a r ih =>
  cases r with
  | nil=>rfl
  | cons b r =>
   have e:(a::b::r).length - 1=((b::r).length - 1)+1:=by
    have h1:(a::b::r).length=r.length+2:=rfl
    have h2:(b::r).length=r.length+1:=rfl
    omega
   rw [e,DF,ih]
   all_goals rfl
theorem iG {α:Type}:∀ (l:List α) (i:Nat),(l.eraseIdx i).length≤l.length
 | [],_=>A8 _
 | _::_,0=>Dv _
 | _::r,i+1=>Nat.succ_le_succ (iG r i)
section
variable {X:Cx} {Gn:List (Addr × Obj)} {σ:St} {H:Hp} {s:Shared} {l b:Addr} {xs ys zs:List V}
theorem Inv.lset {Gp its':List Value}{n:Nat}{f:Array Value→Array Value}{t':Nat}(I:Inv X Gn σ H s)(hH:H l=some (.lst xs))
  (e:s.heap.get? l=some { cls:=.type "list",data:=.seq Gp.toArray n }) (hf:f Gp.toArray=its'.toArray) (hv:bh ys its') (hz:ys.length≤sizeLine) :
  Inv X Gn σ (upd H l (.lst ys)) { s with heap:=s.heap.update l (Obj.mapSeq f),toks:=t' }:=by
 have q:=PySem.IsL.update e f
 rw [hf] at q
 refine I.write (x:=l) (e:=l) (by rw [hH];exact trivial) (.inl rfl) (fun b' u hb hu=>(BY s.heap (Obj.mapSeq f) (Ne.symm hb)).trans hu) ⟨_,q⟩ ?_
 exact ⟨hz,its',_,hv,q⟩
theorem Inv.lstM (I:Inv X Gn σ H s)(hH:H l=some (.lst xs)):xs.length≤sizeLine∧∃ (Gp:List Value) (n:Nat),bh xs Gp∧xs.length=Gp.length∧s.heap.get? l=some { cls:=.type "list",data:=.seq Gp.toArray n }:=by
 obtain ⟨z,Gp,n,r,e⟩:=I.hok l _ hH
 exact ⟨z,Gp,n,r,r.length,e⟩
theorem qj {n:Nat}(h:n≤sizeLine):Builtin.List.listTooLong n=false:=by
 unfold Builtin.List.listTooLong
 exact AZ (by omega)
end
section
variable {X:Cx}
inductive mZ (x:V)(vs:List V)(H:Hp)(Q:VK):Prop
 | mk:∀ l xs y,(x = .ref l)→(vs=[y])→(H l=some (.lst xs))→(xs.length < sizeLine)→(Q .non (upd H l (.lst (xs++[y]))))→mZ x vs H Q
theorem iH:MtM X "list.append" mZ:=by
 intro Gn s σ H x vs v us Q I rx rv h
 obtain ⟨l,xs,y,rfl,rfl,hH,hz,q⟩:=h
 cases rx
 obtain ⟨u,rfl,ru⟩:=rv.one
 obtain ⟨z,Gp,n,r,hl,e⟩:=I.lstM hH
 refine EU F.slot_list_append ⟨_,e,rfl⟩ F.entry_list_append (F.args_list_append_2 _ _) (PySem.list_append l Gp.toArray n u (by rw [Be];omega)) ⟨e,?_⟩
 refine ⟨.non,_,I.lset (its':=Gp++[u]) hH e (by simp) (r.append (.cons ru .nil)) ?_,rfl,q⟩
 rw [A7,Dd]
 omega
inductive m9 (x:V)(vs:List V)(H:Hp)(Q:VK):Prop
 | mk:∀ l b xs zs,(x = .ref l)→(vs=[.ref b])→(H l=some (.lst xs))→(H b=some (.lst zs))→(xs.length+zs.length≤sizeLine)→(Q .non (upd H l (.lst (xs++zs))))→m9 x vs H Q
theorem dO:MtM X "list.extend" m9:=by
 intro Gn s σ H x vs v us Q I rx rv h
 obtain ⟨l,b,xs,zs,rfl,rfl,hH,hB,hz,q⟩:=h
 cases rx
 obtain ⟨u,rfl,ru⟩:=rv.one
 cases ru
 obtain ⟨z,Gp,n,r,hl,e⟩:=I.lstM hH
 obtain ⟨z2,GY,n2,r2,hl2,e2⟩:=I.lstM hB
 have hsz:Gp.toArray.size+GY.toArray.size≤sizeLine:=by rw [Be,Be];omega
 have hlong:¬ (!Gp.toArray.isEmpty && Builtin.List.listTooLong (Gp.toArray.size+GY.toArray.size))=true:=by
  rw [qj hsz,EG]
  exact Bx
 refine EU F.slot_list_extend ⟨_,e,rfl⟩ F.entry_list_extend (F.args_list_extend_2 _ _)
  (AutoSeq1.list_extend_list_list_0 l Gp.toArray n b GY.toArray n2 hlong (by rw [Be];omega) (by omega)) ⟨e,e2,?_⟩
 refine ⟨.non,_,I.lset (its':=Gp++GY) hH e (by simp) (r.append r2) ?_,rfl,q⟩
 rw [A7]
 omega
inductive Ab (x:V)(vs:List V)(H:Hp)(Q:VK):Prop
 | mk:∀ l xs y,(x = .ref l)→(vs=[])→(H l=some (.lst xs))→(xs[xs.length - 1]? = some y)→(Q y (upd H l (.lst xs.dropLast)))→Ab x vs H Q
theorem wk:MtM X "list.pop" Ab:=by
 intro Gn s σ H x vs v us Q I rx rv h
 obtain ⟨l,xs,y,rfl,rfl,hH,hy,q⟩:=h
 cases rx
 have hus:=rv.zero
 subst hus
 obtain ⟨z,Gp,n,r,hl,e⟩:=I.lstM hH
 obtain ⟨u,hu,ru⟩:=r.get hy
 have hy':Gp.toArray[Gp.toArray.size - 1]? = some u:=by
  show Gp.toArray[Gp.length - 1]? = some u
  rw [← BE,← hl]
  exact hu
 refine EU F.slot_list_pop ⟨_,e,rfl⟩ F.entry_list_pop (F.args_list_pop_1 _) (MeetsSeq.list_pop_last l Gp.toArray n u hy' (by rw [Be];omega)) ⟨e,?_⟩
 refine ⟨y,_,I.lset (its':=Gp.dropLast) hH e ?_ r.dropLast ?_,ru,q⟩
 ·show Gp.toArray.eraseIdxIfInBounds (Gp.toArray.size - 1)=Gp.dropLast.toArray
  rw [Be,DY,lM]
 ·rw [List.length_dropLast]
  omega
inductive rZ (x:V)(vs:List V)(H:Hp)(Q:VK):Prop
 | mk:∀ l xs i k y,(x = .ref l)→(vs=[.int i])→(H l=some (.lst xs))→(-(2 ^ 63)≤i)→(i < 2 ^ 63)→(seqIndex? i xs.length=some k)→(xs[k]? = some y)→(Q y (upd H l (.lst (xs.eraseIdx k))))→rZ x vs H Q
theorem qk:MtM X "list.pop" rZ:=by
 intro Gn s σ H x vs v us Q I rx rv h
 obtain ⟨l,xs,i,k,y,rfl,rfl,hH,h1,h2,hk,hy,q⟩:=h
 cases rx
 obtain ⟨u,rfl,ru⟩:=rv.one
 obtain ⟨t,rfl⟩:=ru
 obtain ⟨z,Gp,n,r,hl,e⟩:=I.lstM hH
 obtain ⟨w,hw,rw'⟩:=r.get hy
 refine EU F.slot_list_pop ⟨_,e,rfl⟩ F.entry_list_pop (F.args_list_pop_2 _ _)
  (MeetsSeq.list_pop_at l Gp.toArray n i t k w (fitsIndex_both h1 h2) (by rw [Be,← hl];exact hk) (by rw [← BE];exact hw) (by rw [Be];omega)) ⟨e,?_⟩
 refine ⟨y,_,I.lset (its':=Gp.eraseIdx k) hH e ?_ (r.eraseIdx k) ?_,rw',q⟩
 ·show Gp.toArray.eraseIdxIfInBounds k=(Gp.eraseIdx k).toArray
  rw [DY]
 ·have:=iG xs k
  omega
end
section
variable {prog:Program} {w:World} {A:Around} {E:Value→Shared→Prop} {s:Shared}
end
section
variable {X:Cx}
end
section
variable {κ:Type} [DecidableEq κ]
def fN (Gq:List (κ × V))(k:κ):Option V:=(Gq.find? fun kv=>decide (kv.1=k)).map (·.2)
def eB (Gq:List (κ × V))(k:κ)(v:V):List (κ × V) :=
 if (Gq.any fun kv=>decide (kv.1=k))=true then Gq.map (fun kv=>if kv.1=k then (kv.1,v) else kv) else Gq++[(k,v)]
theorem bE {p:κ × V}{r:List (κ × V)}{k:κ}(e:p.1=k):fN (p::r) k=some p.2:=by simp [fN,De,e]
theorem bF {p:κ × V}{r:List (κ × V)}{k:κ}(e:¬ p.1=k):fN (p::r) k=fN r k:=by simp [fN,De,e]
theorem eW (k:κ):∀ Gq:List (κ × V),(Gq.any fun kv=>decide (kv.1=k))=(fN Gq k).isSome
 | []=>rfl
 | p::r=>by
  rw [FC]
  by_cases e:p.1=k
  ·simp only [bE e,Bg e,Bool.true_or,Option.isSome_some]
  ·rw [bF e,AZ e,Bool.false_or];exact eW k r
theorem kh (k j:κ)(y:V):∀ Gq:List (κ × V),fN (Gq.map fun kv=>if kv.1=k then (kv.1,y) else kv) j=(fN Gq j).map fun x=>if j=k then y else x
 | []=>rfl
 | p::r=>by
  have ih:=kh k j y r
  rw [Bv]
  by_cases h:p.1=k
  ·rw [if_pos h]
   by_cases e:p.1=j
   ·rw [bE (p:=(p.1,y)) e,bE e,Em,if_pos (e.symm.trans h)]
   ·rw [bF (p:=(p.1,y)) e,bF e,ih]
  ·rw [if_neg h]
   by_cases e:p.1=j
   ·rw [bE (p:=p) e,bE e,Em,if_neg (fun z=>h (e.trans z))]
   ·rw [bF (p:=p) e,bF e,ih]
theorem iI (k j:κ)(y:V):∀ Gq:List (κ × V),fN Gq k=none→fN (Gq++[(k,y)]) j=if j=k then some y else fN Gq j
 | [],_=>by
  by_cases e:k=j
  ·rw [if_pos e.symm];exact bE (p:=(k,y)) e
  ·rw [if_neg (fun z=>e z.symm)];exact bF (p:=(k,y)) e
 | p::r,hn=>by
  rw [Fe]
  have hk:¬ p.1=k:=fun z=>by rw [bE z] at hn;cases hn
  rw [bF hk] at hn
  have ih:=iI k j y r hn
  by_cases e:p.1=j
  ·rw [bE e,bE e,if_neg (fun z=>hk (e.trans z))]
  ·rw [bF e,bF e,ih]
theorem ki (Gq:List (κ × V))(k j:κ)(y:V):fN (eB Gq k y) j=if j=k then some y else fN Gq j:=by
 unfold eB
 by_cases a:(Gq.any fun kv=>decide (kv.1=k))=true
 ·rw [if_pos a,kh]
  rw [eW] at a
  by_cases e:j=k
  ·obtain ⟨x,hx⟩:=EN.mp a
   rw [if_pos e,e,hx,Em,if_pos rfl]
  ·rw [if_neg e]
   cases fN Gq j with
   | none=>rfl
   | some x=>rw [Em,if_neg e]
 ·rw [if_neg a]
  refine iI k j y Gq ?_
  rw [eW] at a
  cases q:fN Gq k with
  | none=>rfl
  | some x=>rw [q] at a;exact (a rfl).elim
theorem bI (Gq:List (κ × V))(k:κ)(v:V):(eB Gq k v).length≤Gq.length+1:=by
 unfold eB
 split
 ·rw [AY];omega
 ·rw [A7,BH,Co];omega
theorem pX.isSome_eq {o:Option V}{u:Option Value}(r:pX o u):o.isSome=u.isSome:=by
 cases o with
 | none=>cases u with
  | none=>rfl
  | some _=>exact (show False from r).elim
 | some _=>cases u with
  | none=>exact (show False from r).elim
  | some _=>rfl
theorem KV.val {Gq:List (κ × V)}{vs:List (κ × Value)}(r:KV Gq vs)(k:κ):pX (fN Gq k) (valueAt vs k):=by
 unfold KV at r
 induction r with
 | nil=>exact True.intro
 | @cons p q ps qs h t ih =>
  obtain ⟨h1,h2⟩:=h
  by_cases e:p.1=k
  ·have e':q.1=k:=h1.symm.trans e
   have b:valueAt (q::qs) k=some q.2:=by simp [valueAt,De,e']
   rw [bE e,b];exact h2
  ·have e':¬ q.1=k:=fun z=>e (h1.trans z)
   have b:valueAt (q::qs) k=valueAt qs k:=by simp [valueAt,De,e']
   rw [bF e,b];exact ih
theorem KV.any {Gq:List (κ × V)}{vs:List (κ × Value)}(r:KV Gq vs)(k:κ):(Gq.any fun kv=>decide (kv.1=k))=vs.any fun kv=>decide (kv.1=k):=by
 unfold KV at r
 induction r with
 | nil=>rfl
 | cons h t ih=>rw [FC,FC,ih,h.1]
theorem KV.repl {Gq:List (κ × V)}{vs:List (κ × Value)}(r:KV Gq vs)(k:κ){y:V}{u:Value}(ry:bH y u) :
  KV (Gq.map fun kv=>if kv.1=k then (kv.1,y) else kv) (vs.map fun kv=>if kv.1=k then (kv.1,u) else kv):=by
 unfold KV at r ⊢
 induction r with
 | nil=>exact .nil
 | @cons p q ps qs h t ih =>
  rw [Bv,Bv]
  refine .cons ?_ ih
  obtain ⟨h1,h2⟩:=h
  by_cases e:p.1=k
  ·rw [if_pos e,if_pos (h1.symm.trans e)];exact ⟨h1,ry⟩
  ·rw [if_neg e,if_neg (fun z=>e (h1.trans z))];exact ⟨h1,h2⟩
theorem KV.put {Gq:List (κ × V)}{vs:List (κ × Value)}(r:KV Gq vs)(k:κ){y:V}{u:Value}(ry:bH y u):KV (eB Gq k y) (stored vs k u):=by
 unfold eB stored
 rw [r.any k]
 by_cases e:(vs.any fun kv=>decide (kv.1=k))=true
 ·rw [if_pos e,if_pos e];exact r.repl k ry
 ·rw [if_neg e,if_neg e];exact Paired.snoc r ⟨rfl,ry⟩
theorem KV.length {Gq:List (κ × V)}{vs:List (κ × Value)}(r:KV Gq vs):Gq.length=vs.length:=E4 r
end
theorem tV {P:Program}{w:World}{k:Key}{u:Value}(r:bH (kV k) u):(bC P w).is k u=true:=by
 cases k with
 | inl i=>obtain ⟨t,e⟩:=(show ∃ t,u=Value.int i t from r);subst e;exact jd P w i t
 | inr x=>obtain ⟨t,e⟩:=(show ∃ t,u=Value.str x t from r);subst e;exact je P w x t
theorem iJ {P:Program}{w:World}:∀ {ks:List Key} {us:List Value},bh (ks.map kV) us→ItemsAre (bC P w) ks us
 | [],_,r=>by rw [Dz] at r;cases r;exact .nil
 | k::ks,_,r=>by
  rw [Bv] at r
  cases r with
  | cons h t=>exact .cons (tV h) (iJ t)
abbrev KT (H:Hp):List (List Key × V)→List (List Key × Addr × Value)→Prop:=Paired fun p q=>p.1=q.1∧H q.2.1=some (.tup (p.1.map kV))∧bH p.2 q.2.2
theorem KT.val {H:Hp}{Gq:List (List Key × V)}{xs:List (List Key × Addr × Value)}(r:KT H Gq xs)(k:List Key):pX (fN Gq k) ((atKey xs k).map (·.2)):=by
 induction r with
 | nil=>exact True.intro
 | @cons p q ps qs h t ih =>
  obtain ⟨h1,_,h2⟩:=h
  by_cases e:p.1=k
  ·have e':q.1=k:=h1.symm.trans e
   have b:atKey (q::qs) k=some q.2:=by simp [atKey,De,e']
   rw [bE e,b];exact h2
  ·have e':¬ q.1=k:=fun z=>e (h1.trans z)
   have b:atKey (q::qs) k=atKey qs k:=by simp [atKey,De,e']
   rw [bF e,b];exact ih
theorem KT.repl {H:Hp}{Gq:List (List Key × V)}{xs:List (List Key × Addr × Value)}(r:KT H Gq xs)(k:List Key){y:V}{u:Value}(ry:bH y u) :
  KT H (Gq.map fun kv=>if kv.1=k then (kv.1,y) else kv) (xs.map (putAt k u)):=by
 induction r with
 | nil=>exact .nil
 | @cons p q ps qs h t ih =>
  rw [Bv,Bv]
  refine .cons ?_ ih
  obtain ⟨h1,h2,h3⟩:=h
  unfold putAt
  by_cases e:p.1=k
  ·rw [if_pos e,if_pos (h1.symm.trans e)];exact ⟨h1,h2,ry⟩
  ·rw [if_neg e,if_neg (fun z=>e (h1.trans z))];exact ⟨h1,h2,h3⟩
theorem KT.put {H:Hp}{Gq:List (List Key × V)}{xs:List (List Key × Addr × Value)}(r:KT H Gq xs)(k:List Key){b:Addr}{y:V}{u:Value}(hb:H b=some (.tup (k.map kV)))(ry:bH y u) :
  KT H (eB Gq k y) (storedH xs k b u):=by
 have e:(Gq.any fun kv=>decide (kv.1=k))=(atKey xs k).isSome:=by
  rw [eW,(r.val k).isSome_eq,Option.isSome_map]
 unfold eB storedH
 rw [e]
 by_cases q:(atKey xs k).isSome=true
 ·rw [if_pos q,if_pos q];exact r.repl k ry
 ·rw [if_neg q,if_neg q];exact Paired.snoc r ⟨rfl,hb,ry⟩
theorem KT.keeps {H H':Hp}{Gq:List (List Key × V)}{xs:List (List Key × Addr × Value)}(r:KT H Gq xs)(ht:∀ b ys,H b=some (.tup ys)→H' b=some (.tup ys)):KT H' Gq xs :=
 Paired.mapP r fun _ _ z=>⟨z.1,ht _ _ z.2.1,z.2.2⟩
section
variable {P:Program} {w:World} {H:Hp} {h:Heap} {a:Addr}
theorem wm {u:HO}(ok:HOk P w H h)(e:Rd H a u):bT P w H h a u:=e.ok ok
theorem tW {Gq:List (Key × V)}(ok:HOk P w H h)(e:Rd H a (.dK Gq)):Gq.length≤sizeLine∧(a == sysModules)=false∧∃ vs,KV Gq vs∧h.DictOf (bC P w) a vs :=
 show bT P w H h a (.dK Gq) from wm ok e
theorem yD {Gq:List (Key × V)}(ok:HOk P w H h)(e:H a=some (.dK Gq)):Gq.length≤sizeLine∧(a == sysModules)=false∧∃ vs,KV Gq vs∧h.DictOf (bC P w) a vs:=tW ok (.inl e)
theorem m_ {ks:List Key}(ok:HOk P w H h)(e:H a=some (.tup (ks.map kV))):(tupleKind (bC P w)).is h ks a:=by
 obtain ⟨_,Gp,r,⟨o,h1,h2,n,h3⟩,_⟩:=(show bT P w H h a (.tup (ks.map kV)) from ok a _ e)
 exact ⟨o,Gp.toArray,n,h1,h2,h3,by simpa using iJ r⟩
theorem tX {Gq:List (List Key × V)}(ok:HOk P w H h)(e:Rd H a (.dT Gq)):Gq.length≤sizeLine∧(a == sysModules)=false ∧
  ∃ xs,KT H Gq xs∧h.DictOfH (tupleKind (bC P w)) a xs:=by
 obtain ⟨z,y,xs,r,o,es,ep,h1,h2,h3,h4,h5⟩:=(show bT P w H h a (.dT Gq) from wm ok e)
 refine ⟨z,y,xs,r,o,es,ep,h1,h2,h3,h4,fun x hx=>?_,h5⟩
 have all:∀ {l:List (List Key × V)} {m:List (List Key × Addr × Value)},KT H l m→∀ x∈m,(tupleKind (bC P w)).is h x.1 x.2.1:=by
  intro l m q
  induction q with
  | nil=>intro x hx;exact nomatch hx
  | @cons p q ps qs hq t ih =>
   intro x hx
   rcases Bm.mp hx with e | hx
   ·subst e
    exact m_ ok (by rw [← hq.1];exact hq.2.1)
   ·exact ih x hx
 exact all r x hx
theorem yE {Gq:List (List Key × V)}(ok:HOk P w H h)(e:H a=some (.dT Gq)):Gq.length≤sizeLine∧(a == sysModules)=false ∧
  ∃ xs,KT H Gq xs∧h.DictOfH (tupleKind (bC P w)) a xs:=tX ok (.inl e)
end
def vH (H:Hp)(a:Addr)(y:V)(r:Option V):Prop :=
 (∃ Gq k,Rd H a (.dK Gq)∧y=kV k∧r=fN Gq k) ∨ ∃ Gq k b,Rd H a (.dT Gq)∧y = .ref b∧H b=some (.tup (k.map kV))∧r=fN Gq k
def pY (H:Hp)(a:Addr)(y v:V)(H':Hp):Prop :=
 (∃ Gq k,H a=some (.dK Gq)∧y=kV k∧Gq.length < sizeLine∧H'=upd H a (.dK (eB Gq k v))) ∨
 ∃ Gq k b,H a=some (.dT Gq)∧y = .ref b∧H b=some (.tup (k.map kV))∧Gq.length < sizeLine∧H'=upd H a (.dT (eB Gq k v))
theorem vH.k {H:Hp}{a:Addr}{Gq:List (Key × V)}{k:Key}(e:H a=some (.dK Gq)):vH H a (kV k) (fN Gq k):=.inl ⟨Gq,k,.inl e,rfl,rfl⟩
theorem pY.k {H:Hp}{a:Addr}{Gq:List (Key × V)}{k:Key}{v:V}(e:H a=some (.dK Gq))(hl:Gq.length < sizeLine):pY H a (kV k) v (upd H a (.dK (eB Gq k v))):=.inl ⟨Gq,k,e,rfl,hl,rfl⟩
section
variable {X:Cx} {Gn:List (Addr × Obj)} {σ:St} {H:Hp} {s:Shared} {a:Addr} {y v:V} {u r:Value} {o:Option V} {A:Around} {E:Value→Shared→Prop}
theorem Inv.big (I:Inv X Gn σ H s):sysModules < s.heap.objs.size:=by
 have h:mainGlobals < s.heap.objs.size:=(I.mod.glob.keeps I.bk).lt
 exact FH (by decide) h
theorem nc {Q:Value→Shared→Prop}(hu:A.units+1 < cLine)(I:Inv X Gn σ H s)(g:vH H a y (some v))(ry:bH y u)(h:∀ w' s',Inv X Gn σ H s'→bH v w'→Q w' s') :
  wpAny (model X.prog X.w) A (getItem (.ref a) u) Q E s:=by
 rcases g with ⟨Gq,k,e,ey,l⟩ | ⟨Gq,k,b,e,ey,eb,l⟩
 ·subst ey
  obtain ⟨z,hd,vs,rel,dd⟩:=tW I.hok e
  obtain ⟨w',hw,rw'⟩:=pX.some_of (v:=v) (o:=valueAt vs k) (by rw [l];exact rel.val k)
  exact wpAny_getItem_of (tV ry) dd.mapOf hw (h w' _ (I.tok _) rw')
 ·subst ey
  cases (show u=Value.ref b from ry)
  obtain ⟨z,hd,xs,rel,dd⟩:=tX I.hok e
  obtain ⟨w',hw,rw'⟩:=pX.some_of (v:=v) (o:=(atKey xs k).map (·.2)) (by rw [l];exact rel.val k)
  obtain ⟨p,hp,hp2⟩:=Option.map_eq_some_iff.mp hw
  refine wpAny_getItem_heap (tupleKind_room_in1 hu) (m_ I.hok eb) dd hp ?_
  rw [hp2]
  exact h w' _ (I.tok _) rw'
theorem ng {h':Heap}{t':Nat}{ob:HO}(I:Inv X Gn σ H s)(mu:Mut (H a))(hs:Heap.SameBut a s.heap h')(he:∃ q,h'.get? a=some q)(new:bT X.prog X.w (upd H a ob) h' a ob) :
  Inv X Gn σ (upd H a ob) { s with heap:=h',toks:=t' } :=
 I.write (x:=a) (e:=a) mu (.inl rfl) (fun b q hb z=>(hs.2 b hb).trans z) he new
theorem wq {P:Program}{w:World}{H':Hp}{h':Heap}{Gq:List (Key × V)}{vs:List (Key × Value)}(z:Gq.length≤sizeLine)(hd:(a == sysModules)=false)(rel:KV Gq vs)(dd:h'.DictOf (bC P w) a vs) :
  bT P w H' h' a (.dK Gq):=⟨z,hd,vs,rel,dd⟩
theorem nh {H':Hp}{Q:Unit→Shared→Prop}(hu:A.units+1 < cLine)(I:Inv X Gn σ H s)(g:pY H a y v H')(ry:bH y u)(rv:bH v r)(h:∀ s',Inv X Gn σ H' s'→Q () s') :
  wpAny (model X.prog X.w) A (setItem (.ref a) u r) Q E s:=by
 rcases g with ⟨Gq,k,e,ey,l,eH⟩ | ⟨Gq,k,b,e,ey,eb,l,eH⟩
 ·subst ey eH
  obtain ⟨z,hd,vs,rel,dd⟩:=yD I.hok e
  have hz:vs.length≤sizeLine:=by rw [← rel.length];exact z
  have hl:(eB Gq k v).length≤sizeLine:=by have:=bI Gq k v;omega
  refine wpAny_setItem_pairs (hsz:=hz) (tV ry) dd fun h' dd' hs=>h _ ?_
  have he:∃ q,h'.get? a=some q:=let ⟨q,_,_,hq,_⟩:=dd';⟨q,hq⟩
  exact ng I (by rw [e];exact True.intro) hs he (wq hl hd (rel.put k rv) dd')
 ·subst ey eH
  cases (show u=Value.ref b from ry)
  obtain ⟨z,hd,xs,rel,dd⟩:=yE I.hok e
  have hz:xs.length≤sizeLine:=by rw [← E4 rel];exact z
  have hl:(eB Gq k v).length≤sizeLine:=by have:=bI Gq k v;omega
  refine wpAny_setItem_heap (hsz:=hz) (tupleKind_room_in1 hu) (m_ I.hok eb) dd fun h' dd' hs=>h _ ?_
  obtain ⟨q,es,ep,hq,h2,h3,h4,_,h5⟩:=dd'
  refine ng I (by rw [e];exact True.intro) hs ⟨q,hq⟩ ⟨hl,hd,_,(rel.put k eb rv).keeps fun c ys ec=>?_,q,es,ep,hq,h2,h3,h4,h5⟩
  rw [aW (p6 ec e (fun z=>nomatch z))]
  exact ec
end
section
variable {X:Cx} {Gn:List (Addr × Obj)} {σ:St} {H:Hp} {s:Shared} {a:Addr} {Gq:List (Key × V)} {k:Key} {u:Value} {A:Around} {E:Value→Shared→Prop}
end
def Ac (i:Expr):Prop:=∀ ov iv,subscripted i false ov iv=operate [ov,iv] (getItem ov iv)
theorem tY {prog:Program}{w:World}{A:Around}{E:Value→Shared→Prop}{s:Shared}{env:Env}{value slice:Expr}{pos:Pos}{T id:String}{Q:Value→Shared→Prop}
  (hl:typeLookup (.type T) "__getitem__" = pure (some (.builtin id))) (hs:Ac slice)
  (h:wpAny (model prog w) A (eval value env) (fun o s₁=>wpAny (model prog w) A (eval slice env) (fun i s₂=>s₂.TypeIs o T∧wpAny (model prog w) A (getItem o i) Q E s₂) E s₁) E s) :
  wpAny (model prog w) A (eval (.Subscript value slice pos) env) Q E s:=by
 refine ES (CH h (fun o s₁ h₁=>CH h₁ (fun i s₂ h₂=>?_) fun _ _ x=>x) fun _ _ x=>x)
 obtain ⟨hT,h₂⟩:=h₂
 unfold subscriptTail
 refine AX ?_
 rw [getitemInPython_of_ne hT.not_modules]
 refine AX (Fq hT hl ?_)
 have fin:wpAny (model prog w) A (subscripted slice false o i) (fun r s₃=>wpAny (model prog w) A (letTemporaryGo value o r >>= fun _=>pure r) Q E s₃) E s₂:=by
  rw [hs o i]
  exact wpAny_operating (CH h₂ (fun r s₃ h₃=>AX (wpAny_letTemporaryGo (A4 h₃))) fun _ _ x=>x)
 first
  | exact A4 (AX fin)
  | exact AX (A4 (AX fin))
  | exact AX fin
theorem jj {X:Cx}{Gn:List (Addr × Obj)}{σ:St}{H:Hp}{s:Shared}{a:Addr}{y:V}{o:Option V}(I:Inv X Gn σ H s)(g:vH H a y o):s.TypeIs (.ref a) "dict":=by
 rcases g with ⟨Gq,k,e,_,_⟩ | ⟨Gq,k,b,e,_,_,_⟩
 ·obtain ⟨_,_,vs,_,dd⟩:=tW I.hok e
  exact dd.typeIs
 ·obtain ⟨_,_,xs,_,dd⟩:=tX I.hok e
  exact dd.typeIs
def yF (td ty:TE):TE:=fun σ H Q=>td σ H fun x H1=>ty σ H1 fun y H2=>∃ a v,x = .ref a∧vH H2 a y (some v)∧Q v H2
def yG (td ty tv:TE):TS:=fun D σ H=>tv σ H fun v H1=>td σ H1 fun x H2=>ty σ H2 fun y H3=>∃ a H4,x = .ref a∧pY H3 a y v H4∧D.nx σ H4
section
variable {X:Cx} {o i e value:Expr} {pos pos' tpos:Pos} {td ty tv:TE}
theorem tZ (hu:X.A.units+1 < cLine)(ho:PE X o td)(hi:PE X i ty)(hs:Ac i):PE X (.Subscript o i pos) (yF td ty):=by
 intro Gn s σ H Q I h
 refine tY PySem.F.slot_dict_getitem.lookup hs (thn (ho Gn s σ H _ I h) fun u s1 ⟨x,H1,I1,rx,q1⟩=>thn (hi Gn s1 σ H1 _ I1 q1) fun iv s2 zq68=>?_)
 obtain ⟨y,H2,I2,ry,a,v,ex,g,q2⟩:=zq68
 subst ex
 obtain rfl:u=Value.ref a:=rx
 exact ⟨jj I2 g,nc hu I2 g ry fun w' s3 I3 rw'=>⟨v,H2,I3,rw',q2⟩⟩
theorem ni (hu:X.A.units+1 < cLine)(ho:PE X o td)(hi:PE X i ty)(hv:PE X value tv)(hs:swapsWith value (some (.Subscript o i pos')) pos.line X.env=pure false) :
  PS X (.Assign [.Subscript o i pos'] value pos) (yG td ty tv):=by
 intro Gn s σ H D I h
 refine wpAny_Assign_Subscript (thn (hv Gn s σ H _ I h) fun r s1 ⟨v,H1,I1,rv,q1⟩=>thn (ho Gn s1 σ H1 _ I1 q1) fun u s2 ⟨x,H2,I2,rx,q2⟩=>thn (hi Gn s2 σ H2 _ I2 q2) fun iv s3 zq71=>?_) hs
 obtain ⟨y,H3,I3,ry,a,H4,ex,g,q3⟩:=zq71
 subst ex
 obtain rfl:u=Value.ref a:=rx
 exact nh hu I3 g ry rv fun s4 I4=>⟨σ,H4,I4,q3⟩
end
theorem ql {P:Program}{w:World}{H:Hp}(h:Heap)(hb:sysModules < h.objs.size):bT P w H (h.push { cls:=.type "dict",data:=.dict #[] }) h.objs.size (.dK []) :=
 ⟨BO _,beq_eq_false_iff_ne.mpr (Ne.symm (BP hb)),[],.nil,Heap.DictOf.new h⟩
def wt:TE:=fun _ H Q=>∀ p,H p=none→Q (.ref p) (upd H p (.dK []))
section
variable {X:Cx} {pos:Pos}
theorem qm:PE X (.Dict [] [] pos) wt:=fun Gn s σ H Q I h =>
 wpAny_Dict_empty ⟨.ref s.heap.objs.size,_,I.laid (a:=s.heap.objs.size) (o:=.dK []) (t':=s.toks) (fun _ _ q=>A3 _ q) (A8 _) (ql s.heap I.big),rfl,h _ (I.hok.fresh (A8 _))⟩
end
section
variable {X:Cx} {Gn:List (Addr × Obj)} {σ:St} {H:Hp} {s:Shared} {a:Addr} {y d:V} {u r:Value} {o:Option V} {A:Around} {E:Value→Shared→Prop}
end
section
variable {X:Cx} {o e f:Expr} {apos GE:Pos} {td ty tx:TE}
end
section
variable {X:Cx} {Gn:List (Addr × Obj)} {σ:St} {H:Hp} {s:Shared} {a:Addr} {Gq:List (Key × V)} {A:Around} {E:Value→Shared→Prop}
end
section
variable {X:Cx} {Gn:List (Addr × Obj)} {σ:St} {H:Hp} {s:Shared} {a:Addr} {y:V} {u:Value} {A:Around} {E:Value→Shared→Prop}
end
end L2
namespace Att
open PySem PySem.W PySem.Calls PyProof.Rows
theorem fq {P:Params}{h:Heap}:∀ (ns:List Int) (vs:List Value),WellAll P h vs (ns.map WData.int)→IntsAre vs ns:=by
 intro ns
 induction ns with
 | nil =>
  intro vs w
  rw [Dz] at w
  cases w
  exact .nil
 | cons n ns ih =>
  intro vs w
  rw [Bv] at w
  cases w with
  | cons a b =>
   cases a
   exact .cons _ _ (ih _ b)
theorem nj {l:OpenLaw}{n:Nat}(hn:l.most=some n){P:Params}{h:Heap}{args:List WData}{vals:List Value}
  (hpre:l.row.toRowW.claim.pre args=true) (hwl:WellAll P h vals args) :
  ∃ a vs ns,vals=[Value.ref a]∧args=[WData.list (ns.map WData.int)]∧h.get? a=some { cls:=.type "list",data:=.seq vs.toArray }∧IntsAre vs ns∧ns.length≤n:=by
 have hsh:WShape.hasAll [] args [.list .int]=true:=(pre_splitW hpre).1
 have hc:l.pre.holds [] { args:=args }=true:=(pre_splitW hpre).2
 obtain ⟨d,r,rfl,h1,h2⟩:=hasAllW_cons hsh
 obtain rfl:=hasAllW_nil h2
 obtain ⟨xs,rfl,h3⟩:=hasW_list h1
 obtain ⟨ns,rfl⟩:=items_int h3
 have hlen:ns.length≤n:=by
  unfold OpenLaw.pre at hc
  have h4:(WTm.not (.lt (.lit (.int (n:Int))) (.len (.arg 0)))).holds [] { args:=[.list (ns.map .int)] }=true:=by
   have h4:=(holds_andW hc).1
   rw [hn] at h4
   exact h4
  have h5:=condW_of h4 (w_not (w_lt w_lit (w_len_list (w_arg rfl))))
  rw [AY] at h5
  refine Nat.le_of_not_lt fun q=>?_
  have q':(n:Int) < ((ns.length:Nat):Int):=by omega
  first
   | (rw [Bg q'] at h5;exact absurd h5 (by decide))
   | (simp at h5;omega)
 cases hwl with
 | cons w1 w2 =>
  cases w2
  cases w1 with
  | list ho hall=>exact ⟨_,_,ns,rfl,rfl,ho,fq ns _ hall,hlen⟩
theorem nq (l:OpenLaw)(args:List WData):l.row.toRowW.claim.post args (.bool true) args=true :=
 postW_of (r:=l.row.toRowW) (X:=(true == true))
  (show WShape.has [] (.bool true) .bool=true by first | rfl | decide | simp [WShape.has,WShape.arms,WShape.armsAll])
  (show (WTm.eq .res (.lit (.bool true))).value [] { args:=args,res:=some (.bool true),after:=args }=some (.bool (true == true)) from w_eq_bool (w_res rfl) w_lit) rfl
theorem attach_call {l:OpenLaw}{n:Nat}{q:Program}{loose:List Str}{XP:(Str→Option Value)→Heap→Prop}{YP:World→Heap→Prop}{d:DefRec}
  (hn:l.most=some n) (hdf:d.params.defaults=[])
  (call:∀ (w:World) (s₀ s₁:Shared) (mg mb:Str→Option Value) (fa:Addr) (o:Obj) (pm cd doc:Value) (a:Addr) (vs:List Value) (ns:List Int),
   Ground q loose [] XP w s₀ mg mb s₁.heap→YP w s₁.heap →
   s₁.heap.get? fa=some o→o.data = .func (docDef d.name d.params d.body d.scope pm cd doc)→s₁.heap.CodeRec cd d.name→mg d.name=some (.ref fa) →
   s₁.heap.get? a=some { cls:=.type "list",data:=.seq vs.toArray }→IntsAre vs ns→ns.length≤n→s₁.gens=#[] →
   codeAny (model l.prog w) callerA (.call (.ref fa) ⟨[.ref a],[]⟩) (fun r s'=>r = .ok (.ret (.bool true))∧OldK s₁.heap s'.heap∧s'.os=s₁.os∧AllBare s'.gens) s₁) :
  WalkO q loose XP YP l.row.toRowW d [] (fun f vs=>PySem.call f vs):=by
 intro w s₀ s₁ mg mb G Y fa o pm cd doc dV kV ho hd hcd hD hmg hg args vals as hpre hlay hrd hwl hlo
 obtain rfl:dV = .none:=Dflts.none hD hdf
 obtain rfl:kV = .none:=Dflts.noKw hD
 obtain ⟨a,vs,ns,rfl,rfl,hobj,hints,hlen⟩:=nj hn hpre hwl
 refine enter_call (EB (call w s₀ s₁ mg mb fa o pm cd doc a vs ns G Y ho (fd_plain hd) hcd hmg hobj hints hlen hg) fun r s' hq=>?_)
 obtain ⟨rfl,h2,h3,h4⟩:=hq
 exact ⟨.inl ⟨.bool true,.bool true,[],rfl,fun _=>rfl,.bool true,nq l _,fun _=>⟨List.Pairwise.nil,fun _ hm=>(nomatch hm)⟩⟩,h2,h3,h4⟩
section
variable {prog:Program} {w:World} {A:Around} {E:Value→Shared→Prop} {s:Shared} {K:Frag}
end
end Att
namespace L2
open PySem PySem.Spec PyProof.Rows
theorem iK:∀ {vs:List Value} {ns:List Int},IntsAre vs ns→bh (ns.map V.int) vs
 | _,_,.nil=>.nil
 | _,_,.cons n t h=>.cons ⟨t,rfl⟩ (iK h)
def yH (H:Hp):Prop:=∀ b,H b=none ∨ ∃ o xs,H b=some (.frz o (.lst xs))
theorem qo {P:Program}{w:World}{K:PySem.W.Frag}{mg mb:Str→Option Value}{CX:CXT}{k:Nat}{fa a:Addr}{fd:FuncData}{x:Str}{sp:Sp}{s₁:Shared}{vs:List Value}{ns:List Int}
  (KX:K.In s₁.heap) (hns:s₁.heap.Ns mainGlobals mg) (hb:s₁.heap.Ns builtinsNs mb) (hbb:∀ x:Str,x ≠ "__name__"→mb x=bootBuiltins x) (hlim:s₁.heap.NoLimit) (hg:s₁.gens=#[])
  (ha:s₁.heap.get? a=some { cls:=.type "list",data:=.seq vs.toArray }) (hi:IntsAre vs ns) (hl:ns.length≤sizeLine) (hr:fS k callerA)
  (F:∀ base:Heap,K.In base→base.Ns mainGlobals mg→lH P w K mg base CX k fa fd [x] sp) (hbind:∀ (s:Shared) (u:Value),BindsTo s fd ⟨[u],[]⟩ [(x,u)])
  (hsp:∀ H:Hp,yH H→SqL K H a (ns.map V.int)→sp [.ref a] H (fun v _=>v = .bl true) fun _ _ _=>False)
  (hCX:∀ H e s',CX [] H s₁ (fun _ _ _=>False) e s'→False) :
  codeAny (model P w) callerA (.call (.ref fa) ⟨[.ref a],[]⟩) (fun r s'=>r = .ok (.ret (.bool true))∧OldK s₁.heap s'.heap∧s'.os=s₁.os∧AllBare s'.gens) s₁:=by
 have rv:=iK hi
 have lenV:=hi.length
 -- from an abstract heap in which nothing but the script may be tracked
 have core:∀ H:Hp,yH H→SqL K H a (ns.map V.int)→HOk P w H s₁.heap→(∀ b,H b≠none→b=a)→(H a≠none→K.lookup a=none) →
   codeAny (model P w) callerA (.call (.ref fa) ⟨[.ref a],[]⟩) (fun r s'=>r = .ok (.ret (.bool true))∧OldK s₁.heap s'.heap∧s'.os=s₁.os∧AllBare s'.gens) s₁:=by
  intro H hO hS hok hA hK
  have base_of:∀ {b:Addr} {o:Obj},s₁.heap.get? b=some o→H b=none→(p7 s₁.heap H).get? b=some o:=fun e n=>p9 e n
  have noA:∀ {b:Addr} {o:Obj} {es:Array DictEntry} {ep:Nat},s₁.heap.get? b=some o→o.data = .dict es ep→H b=none:=fun {b o es ep} e d=>by
   cases q:H b with
   | none=>rfl
   | some u =>
    have e':b=a:=hA b (by rw [q];simp)
    subst e'
    rw [ha] at e;cases e
    have d':Data.seq vs.toArray _=Data.dict es ep:=d
    cases d'
  have nsK:∀ {b:Addr} {m:Str→Option Value},s₁.heap.Ns b m→(p7 s₁.heap H).Ns b m:=fun {b m} ⟨o,es,ep,e,d,r⟩=>⟨o,es,ep,base_of e (noA e d),d,r⟩
  have hKb:K.In (p7 s₁.heap H):=fun b o e=>base_of (KX b o e) (by
   cases q:H b with
   | none=>rfl
   | some u =>
    have e':b=a:=hA b (by rw [q];simp)
    subst e'
    rw [hK (by rw [q];simp)] at e;cases e)
  have hM:Mod K mg (p7 s₁.heap H):=⟨hKb,nsK hns,⟨mb,nsK hb,hbb⟩,let ⟨mc,h1,h2⟩:=hlim;⟨mc,nsK h1,h2⟩⟩
  have e0:yi P w K mg (p7 s₁.heap H) callerA [] s₁ H:=⟨rfl,hM,fun b o e=>tE e,Nat.le_of_eq (mz _ _),trivial,fun b hb=>absurd (show b∈([]:List Addr) from hb) (by simp),hok,.of_eq hg⟩
  refine EB ((F _ hKb (nsK hns)).run callerA [] s₁ H ⟨[.ref a],[]⟩ [.ref a] [.ref a] _ _ hr e0 (hbind s₁ (.ref a)) (.cons rfl .nil) (hsp H hO hS)) fun r s' h=>?_
  cases r with
  | error e=>exact (hCX H e s' h).elim
  | ok fl =>
   cases fl with
   | next=>exact False.elim h
   | brk=>exact False.elim h
   | cont=>exact False.elim h
   | ret u =>
    obtain ⟨v,H',os,bare,un,hok',r',q⟩:=h
    have q':v = .bl true:=q
    subst q'
    obtain rfl:u=Value.bool true:=r'
    refine ⟨rfl,OldK.of_keep fun b o e=>?_,os,bare⟩
    cases q:H b with
    | none=>exact un.keep b o e q (by intro z;exact absurd (show b∈([]:List Addr) from z) (by simp)) (by simp)
    | some u =>
     rcases hO b with z | ⟨ob,xs,z⟩
     ·rw [q] at z;cases z
     ·have z2:=un.frzs b ob _ z
      obtain ⟨e1,_⟩:=hok b _ z
      obtain ⟨e2,_⟩:=hok' b _ z2
      rw [e] at e1;cases e1
      exact e2
 cases hk:K.lookup a with
 | some o =>
  -- the script is one of the module's own objects
  have e:=KX a o hk
  rw [ha] at e
  cases e
  refine core (fun _=>none) (fun _=>.inl rfl) (.inr ⟨_,vs.toArray,_,hk,rfl,rfl,rfl,by rw [Be,lenV];exact hl,by simpa using rv⟩) (fun b u z=>by have z':(none:Option HO)=some u:=z;cases z') (fun b z=>absurd rfl z) fun z=>absurd rfl z
 | none =>
  refine core (fun b=>if b=a then some (.frz { cls:=.type "list",data:=.seq vs.toArray } (.lst (ns.map V.int))) else none) (fun b=>?_) (.inl (.inr ⟨{ cls:=.type "list",data:=.seq vs.toArray },if_pos rfl⟩)) (fun b u z=>?_) (fun b z=>?_) fun _=>hk
  ·by_cases hb:b=a
   ·exact .inr ⟨_,_,if_pos hb⟩
   ·exact .inl (if_neg hb)
  ·by_cases hb:b=a
   ·have z':=(if_pos hb).symm.trans z
    cases z'
    subst hb
    exact ⟨ha,by rw [AY];exact hl,vs,_,rv,ha⟩
   ·have z':=(if_neg hb).symm.trans z
    cases z'
  ·by_cases hb:b=a
   ·exact hb
   ·exact absurd (if_neg hb) z
theorem nt {l:PySem.W.OpenLaw}{n k:Nat}{q:Program}{loose:List Str}{XP:(Str→Option Value)→Heap→Prop}{YP:World→Heap→Prop}{d:DefRec}{K:Params→PySem.W.Frag}{CX:World→CXT}{sp:World→Sp}{x:Str}
  (hn:l.most=some n) (hn2:n≤sizeLine) (hdf:d.params.defaults=[]) (hr:fS k callerA)
  (hY:∀ (w:World) (h:Heap),YP w h→(K w.params).In h)
  (F:∀ (w:World) (mg:Str→Option Value) (fa:Addr) (h:Heap),(K w.params).In h→h.Ns mainGlobals mg→mg d.name=some (.ref fa) →
   ∃ fd:FuncData,(∀ (s:Shared) (u:Value),BindsTo s fd ⟨[u],[]⟩ [(x,u)]) ∧
    ∀ base:Heap,(K w.params).In base→base.Ns mainGlobals mg→lH l.prog w (K w.params) mg base (CX w) k fa fd [x] (sp w))
  (hsp:∀ (w:World) (H:Hp) (a:Addr) (ns:List Int),ns.length≤n→yH H→SqL (K w.params) H a (ns.map V.int)→sp w [.ref a] H (fun v _=>v = .bl true) fun _ _ _=>False)
  (hCX:∀ (w:World) (H:Hp) (s:Shared) (e:Value) (s':Shared),CX w [] H s (fun _ _ _=>False) e s'→False) :
  PySem.W.WalkO q loose XP YP l.row.toRowW d [] (fun f vs=>PySem.call f vs):=by
 refine Att.attach_call hn hdf fun w s₀ s₁ mg mb fa o pm cd doc a vs ns G Y ho hd hcd hmg hobj hints hlen hg=>?_
 have KX:=hY w _ Y
 obtain ⟨fd,hb,hF⟩:=F w mg fa _ KX G.T.g hmg
 exact qo KX G.T.g G.T.b G.T.builtins G.T.nolimit hg hobj hints (BQ hlen hn2) hr hF hb (fun H hO hS=>hsp w H a ns hlen hO hS) fun H e s'=>hCX w H s₁ e s'
end L2
/- THE LAST THEOREM (shape;LID,My.* are yours):
  My.Adr: a structure of the addresses that your layer names (classes,functions);My.Txt K t: a structure (Prop) of the equations over K;
  My.txt_mk:{K} {implicit addresses ..} (e1:nsIn K mainGlobals "law" = some (some (.ref f))) (e2:K.lookup f=some ⟨oc,od,.func (fnOf "law" "law" params body scope dV kV doc pm an Gz ct),sl⟩) (e3:codeIn K Gz "law" = true) ..:∃ t,My.Txt K t
set_option maxRecDepth 100000 in
set_option maxHeartbeats 0 in
theorem PySem.Challenge.cw_LID_holds : PySem.Challenge.rw_LID.Holds := by
 w_on;o_law;k_head;(case hw=>w_witness2)
 k_fill
 refine L2.nt (l:=PySem.Challenge.rw_LID) (n:=63) (k:=40) (x:="script") (CX:=fun w=>..) (sp:=fun _=>My.sp_law) rfl (by decide) rfl ⟨rfl,by decide,by decide⟩ (fun w h Y=>PySem.W.kIn_of Y) ?F ?S ?C
 case F =>
  intro w mg fa h KX G hmg
  have T:∃ t,My.Txt (L2.KOf KX) t:=by
   dsimp only [L2.KOf]                          -- K must stand as «<heap const> w.params» for k_is
   refine' My.txt_mk ?e1 ?e2 ?e3 ..
   (case e1=>PySem.W.k_is)                    -- in the order: a name -> Gp address -> Gp object -> Gp parts
   (case e2=>PySem.W.k_is)
   ..
  obtain ⟨t,T⟩:=T
  have e0:=hmg.symm.trans (Ed KX G T.law)
  cases e0                                       -- fa is the law's own address
  exact ⟨_,fun s u=>.of_eq rfl,fun base kb nb=>My.law_fn T kb nb⟩     -- if «.of_eq rfl» comes too early: refine' ⟨_,?b,fun base kb nb=>My.law_fn T kb nb⟩;exact fun s u=>.of_eq rfl
 case S=>exact fun w H a ns hl hO hS=>..
 case C=>exact ..
(the tactic k_is has no namespace: write k_is) -/
namespace L2
open PySem PySem.Spec PyProof.Rows
def b9 (s:Stmt):Arguments:=match s with
 | .FunctionDef _ a _ _ _ _ _ _ _ _=>a
 | _=>{ posonlyargs:=[],args:=[],vararg:=none,kwonlyargs:=[],kw_defaults:=[],kwarg:=none,defaults:=[] }
def bO (s:Stmt):List Stmt:=match s with
 | .FunctionDef _ _ b _ _ _ _ _ _ _=>b
 | _=>[]
def ak (s:Stmt):Scope:=match s with
 | .FunctionDef _ _ _ _ _ _ sc _ _ _=>sc
 | _=>{ kind:=.function,names:=[],isGenerator:=false,isCoroutine:=false }
abbrev CX0:CXT:=fun _ _ _ _ _ _=>False
abbrev E0:XK:=fun _ _ _=>False
theorem yI {X:Cx}:mR CX0 X E0:=fun _ _ _ _ _ _ _ h=>h.elim
structure Fun (K:PySem.W.Frag) (x qual:Str) (st:Stmt) (f:Addr) (fd:FuncData):Prop where
 ex:∃ (oc:Value) (od:Option Addr) (kV doc pm:Value) (an:Option Addr) (Gz ct:Value) (osl:Array (Option Value)),
  fd=PySem.W.fnOf x qual (b9 st) (bO st) (ak st) .none kV doc pm an Gz ct∧K.lookup f=some ⟨oc,od,.func fd,osl⟩∧PySem.W.codeIn K Gz qual=true
 kp:PySem.W.keepIn K (.ref f)=true
section
variable {P:Program} {w:World} {K:PySem.W.Frag} {mg:Str→Option Value} {base:Heap}
theorem Fun.ok {x qual:Str}{st:Stmt}{f:Addr}{fd:FuncData}{N ps:List Str}{k:Nat}{sp:Sp}(F:Fun K x qual st f fd)(S:aE N ps (ak st))(len:∀ vs H Q E,sp vs H Q E→vs.length=ps.length)
  (hbody:∀ (Gz:Value) (A:Around) (outer:List Env) (s:Shared) (H:Hp) (vs:List V) (Q:VK) (E:XK),fS k (A.deeper (envOfC qual (ak st) s.heap.objs.size f Gz))→sp vs H Q E →
   ∃ t,PSs (tP CX0 P w K mg base N qual (ak st) f Gz A outer s H E).nox (bO st) t∧t { nx:=fun _ H'=>Q .non H',rt:=Q } (start N vs) H):lH P w K mg base CX0 (k+1) f fd ps sp:=by
 obtain ⟨oc,od,kV,doc,pm,an,Gz,ct,osl,rfl,lk,hcd⟩:=F.ex
 refine yA lk hcd S len fun A outer s H vs Q E hr hsp=>?_
 obtain ⟨t,h,q⟩:=hbody Gz A outer s H vs Q E hr hsp
 exact ⟨t,h.nox,q⟩
theorem Fun.binds {x qual:Str}{st:Stmt}{f:Addr}{fd:FuncData}{ps:List Str}(F:Fun K x qual st f fd)
  (h:∀ (kV doc pm:Value) (an:Option Addr) (Gz ct:Value) (us:List Value),us.length=ps.length→bindArgs (PySem.W.fnOf x qual (b9 st) (bO st) (ak st) .none kV doc pm an Gz ct) ⟨us,[]⟩=pure (ps.zip us)):lI K fd ps []:=by
 obtain ⟨oc,od,kV,doc,pm,an,Gz,ct,osl,rfl,lk,hcd⟩:=F.ex
 exact .all (h kV doc pm an Gz ct)
theorem r6 {x qual:Str}{st:Stmt}{f:Addr}{oc:Value}{od an:Option Addr}{osl:Array (Option Value)}{kV doc pm Gz ct:Value}(l:K.lookup f=some ⟨oc,od,.func (PySem.W.fnOf x qual (b9 st) (bO st) (ak st) .none kV doc pm an Gz ct),osl⟩)
  (c:PySem.W.codeIn K Gz qual=true) (k:PySem.W.keepIn K (.ref f)=true):Fun K x qual st f (PySem.W.fnOf x qual (b9 st) (bO st) (ak st) .none kV doc pm an Gz ct):=⟨⟨oc,od,kV,doc,pm,an,Gz,ct,osl,rfl,l,c⟩,k⟩
end
theorem t_ {A:Around}{k:Nat}(hr:fS k A):A.units+1 < cLine:=EE (Nat.add_le_add_left (by decide:1≤64) _) hr.units
section
variable {X:Cx}
theorem pv (i:Nat){x:Str}{pos:Pos}(hN:X.N[i]? = some x:=by rfl)(hv:Vis X.env.scope x:=by first | exact Or.inl rfl | exact Or.inr (Or.inl rfl) | exact Or.inr (Or.inr rfl))(hd:(x == ("__debug__":Str))=false:=by decide)
  (hcd:(x == ("__classdict__":Str))=false:=by decide):PE X (.Name x pos) (yg i):=vQ hN hv hd hcd
end
theorem vI {A B:Prop}(h:B):if false=true then A else B:=by
 rw [if_neg Bx]
 exact h
theorem Ad {A B:Prop}(h:A):if true=true then A else B:=by
 rw [if_pos rfl]
 exact h
theorem kj {c A B:Prop}[Decidable c](h1:c→A)(h2:¬ c→B):if c then A else B:=by
 by_cases h:c
 ·rw [if_pos h]
  exact h1 h
 ·rw [if_neg h]
  exact h2 h
def aD (H H':Hp):Prop:=∀ b o,H b=some o→H' b=some o
theorem aD.refl (H:Hp):aD H H:=fun _ _ h=>h
theorem aD.trans {H H1 H2:Hp}(a:aD H H1)(b:aD H1 H2):aD H H2:=fun c o h=>b c o (a c o h)
theorem aD.free {H H':Hp}(e:aD H H'){l:Addr}(h:H' l=Option.none):H l=Option.none:=by
 cases q:H l with
 | none=>rfl
 | some o =>
  rw [e l o q] at h
  cases h
section
variable {κ:Type} [DecidableEq κ]
end
def kl (cells:List (Str × Addr)):List (Str × NameKind)→List (Str × Addr)→List (Str × Addr)
 | [],acc=>acc
 | (x,k)::r,acc=>if k == NameKind.free then kl cells r ((x,(cells.lookup x).getD 0)::acc) else kl cells r acc
theorem gC {cells:List (Str × Addr)}{p:Str × Addr}:∀ {names:List (Str × NameKind)} {acc:List (Str × Addr)},p∈kl cells names acc→p∈acc ∨ ((p.1,NameKind.free)∈names∧p.2=(cells.lookup p.1).getD 0)
 | [],_,h=>.inl h
 | (x,k)::r,acc,h=>by
  unfold kl at h
  by_cases hk:(k == NameKind.free)=true
  ·rw [if_pos hk] at h
   have ek:k=NameKind.free:=by simpa using hk
   subst ek
   rcases gC h with h | ⟨h,e⟩
   ·rcases Bm.mp h with h | h
    ·subst h
     exact .inr ⟨Ba,rfl⟩
    ·exact .inl h
   ·exact .inr ⟨A5 _ h,e⟩
  ·rw [if_neg hk] at h
   rcases gC h with h | ⟨h,e⟩
   ·exact .inl h
   ·exact .inr ⟨A5 _ h,e⟩
theorem gE {cells:List (Str × Addr)}{p:Str × Addr}:∀ {names:List (Str × NameKind)} {acc:List (Str × Addr)},p∈acc→p∈kl cells names acc
 | [],_,h=>h
 | (x,k)::r,acc,h=>by
  unfold kl
  split
  ·exact gE (A5 _ h)
  ·exact gE h
theorem gF {cells:List (Str × Addr)}{x:Str}:∀ {names:List (Str × NameKind)} {acc:List (Str × Addr)},(x,NameKind.free)∈names→(x,(cells.lookup x).getD 0)∈kl cells names acc
 | [],_,h=>by simp at h
 | (y,k)::r,acc,h=>by
  unfold kl
  rcases Bm.mp h with h | h
  ·have e1:x=y:=Br Prod.fst h
   have e2:NameKind.free=k:=Br Prod.snd h
   subst e1 e2
   rw [if_pos (by simp)]
   exact gE Ba
  ·split
   ·exact gF h
   ·exact gF h
theorem dP {x:Str}{c:Addr}:∀ {l:List (Str × Addr)},(x,c)∈l→∃ d,l.lookup x=some d
 | [],h=>by simp at h
 | (y,d)::r,h=>by
  rw [D5]
  by_cases e:(x == y)=true
  ·rw [e];exact ⟨d,rfl⟩
  ·have e':(x == y)=false:=by simpa using e
   rw [e']
   rcases Bm.mp h with h | h
   ·have:x=y:=Br Prod.fst h
    exact absurd (by simpa using this) e
   ·exact dP h
theorem gG {env:Env}{scope:Scope}(h:∀ y∈scope.names,y.2=NameKind.free→∃ c,env.cells.lookup y.1=some c):closureFor scope env=pure (kl env.cells scope.names []):=by
 have all:∀ (names:List (Str × NameKind)) (acc:List (Str × Addr)),(∀ y∈names,y.2=NameKind.free→∃ c,env.cells.lookup y.1=some c) →
   (forIn names acc (fun (p:Str × NameKind) (r:List (Str × Addr))=>(if (p.2 == NameKind.free)=true then (do let a ← cellOf env p.1;pure (ForInStep.yield ((p.1,a)::r))) else pure (ForInStep.yield r):Sem (ForInStep (List (Str × Addr))))))=(pure (kl env.cells names acc):Sem (List (Str × Addr))):=by
  intro names
  induction names with
  | nil=>intro acc _;rfl
  | cons p r ih =>
   intro acc hh
   obtain ⟨x,k⟩:=p
   have hr:∀ y∈r,y.2=NameKind.free→∃ c,env.cells.lookup y.1=some c:=fun y hy=>hh y (A5 _ hy)
   rw [Fs]
   unfold kl
   by_cases hk:(k == NameKind.free)=true
   ·obtain ⟨c,hc⟩:=hh (x,k) Ba (by simpa using hk)
    have hc:env.cells.lookup x=some c:=hc
    have ec:cellOf env x=pure c:=by
     unfold cellOf
     rw [hc]
    simp only [hk,CV,ec,pure_bind,hc,Option.getD_some]
    exact ih _ hr
   ·simp only [hk,Cf,pure_bind]
    exact ih _ hr
 have e:=all scope.names [] h
 unfold closureFor
 simp only [bind_pure]
 exact e
def wu (scope sc:Scope)(NB own:List Str)(cap:List Nat)(N:List Str):Bool :=
 (scope.kind == .function) && (sc.kind == .function) &&
 (scope.names.all fun y=>match y.2 with
  | .cell=>false
  | .free=>sc.names.lookup y.1 == some NameKind.cell
  | .local=>scope.names.lookup y.1 == some NameKind.local
  | _=>true) &&
 (own.all fun x=>scope.names.lookup x == some NameKind.local && scope.names.all fun y=>!(y.1 == x) || y.2 == NameKind.local) &&
 (NB == own++cap.map fun i=>N.getD i "") && (cap.all fun i=>decide (i < N.length) && scope.names.lookup (N.getD i "") == some NameKind.free)
structure Blk (X:Cx) (scope:Scope) (NB own:List Str) (cap:List Nat):Prop where
 kind:scope.kind = .function
 outk:X.env.scope.kind = .function
 nocell:∀ y∈scope.names,y.2 ≠ .cell
 free:∀ y∈scope.names,y.2 = .free→X.env.kindOf y.1=some .cell
 names:∀ y∈scope.names,y.2 = .local→scope.names.lookup y.1=some .local
 owns:∀ x∈own,∀ y∈scope.names,y.1=x→y.2 = .local
 nb:NB=own++cap.map fun i=>X.N.getD i ""
 caps:∀ i∈cap,i < X.N.length∧scope.names.lookup (X.N.getD i "")=some .free
theorem cP {X:Cx}{scope sc:Scope}{NB own:List Str}{cap:List Nat}(hs:X.env.scope=sc)(h:wu scope sc NB own cap X.N=true):Blk X scope NB own cap:=by
 unfold wu at h
 simp only [B9] at h
 obtain ⟨⟨⟨⟨⟨h1,h2⟩,h3⟩,h4⟩,h5⟩,h6⟩:=h
 rw [Dr] at h3 h4 h6
 subst hs
 refine ⟨by simpa using h1,by simpa using h2,fun y hy e=>?_,fun y hy e=>?_,fun y hy e=>?_,fun x hx y hy e=>?_,by simpa using h5,fun i hi=>?_⟩
 ·have:=h3 y hy
  rw [e] at this
  exact absurd this (by simp)
 ·have:=h3 y hy
  rw [e] at this
  show X.env.scope.names.lookup y.1=some .cell
  simpa using this
 ·have:=h3 y hy
  rw [e] at this
  simpa using this
 ·have:=h4 x hx
  simp only [B9,Dr] at this
  have q:=this.2 y hy
  subst e
  simpa using q
 ·have:=h6 i hi
  simp only [B9] at this
  exact ⟨of_decide_eq_true this.1,by simpa using this.2⟩
def cxB (X:Cx)(NB own:List Str)(scope:Scope)(C:Addr)(fp:List Addr)(s₀:Shared)(H₀:Hp):Cx where
 prog:=X.prog
 w:=X.w
 K:=X.K
 mg:=X.mg
 base:=X.base
 A:=X.A
 N:=NB
 s₀:=s₀
 H₀:=H₀
 env:=compEnvC scope (kl X.env.cells scope.names []) C X.env
 outer:=X.stack
 stack:=X.stack
 ex:=fp
 fn:=fun x=>own.contains x
 calm:=X.calm
 pn:=[]
 xe:=fun _ _=>False
theorem cQ {env:Env}{x:Str}{k:NameKind}(hk:k = .cell ∨ k = .free):∀ {names:List (Str × NameKind)},(∀ y∈names,y.2 ≠ .cell) →
  (names.map fun (n,k)=>if (k == NameKind.free && env.scope.kind == .function && env.kindOf n == some .cell) then (n,NameKind.cell) else (n,k)).lookup x=some k→(x,NameKind.free)∈names
 | [],_,h=>by simp at h
 | (n,q)::r,hn,h=>by
  have ih:=@cQ env x k hk r fun y hy=>hn y (A5 _ hy)
  rw [Bv,D5] at h
  have key:(if (q == NameKind.free && env.scope.kind == .function && env.kindOf n == some .cell)=true then (n,NameKind.cell) else (n,q)).1=n:=by split <;> rfl
  by_cases e:(x == n)=true
  ·have en:x=n:=by simpa using e
   subst en
   by_cases hq:q = .free
   ·subst hq;exact Ba
   ·have hqf:(q == NameKind.free)=false:=by simpa using hq
    simp only [hqf,BI,Bn,Cf,Ff] at h
    have h':q=k:=A_ h
    rcases hk with z | z
    ·exact absurd (h'.trans z) (hn (x,q) Ba)
    ·exact absurd (h'.trans z) hq
  ·have e':(x == n)=false:=by simpa using e
   refine A5 _ (ih ?_)
   have e2:(x == (if (q == NameKind.free && env.scope.kind == .function && env.kindOf n == some .cell)=true then (n,NameKind.cell) else (n,q)).1)=false:=by rw [key];exact e'
   rw [e2] at h
   exact h
theorem ft {env:Env}{x:Str}(hk:env.scope.kind = .function)(hc:env.kindOf x=some .cell):∀ {names:List (Str × NameKind)},names.lookup x=some .free →
  (names.map fun (n,k)=>if (k == NameKind.free && env.scope.kind == .function && env.kindOf n == some .cell) then (n,NameKind.cell) else (n,k)).lookup x=some .cell
 | [],h=>by simp at h
 | (n,q)::r,h=>by
  have ih:=@ft env x hk hc r
  rw [D5] at h
  rw [Bv,D5]
  by_cases e:(x == n)=true
  ·have en:x=n:=by simpa using e
   subst en
   rw [e] at h
   have hq:q = .free:=A_ h
   subst hq
   simp [hk,hc]
  ·have e':(x == n)=false:=by simpa using e
   rw [e'] at h
   have key:(if (q == NameKind.free && env.scope.kind == .function && env.kindOf n == some .cell)=true then (n,NameKind.cell) else (n,q)).1=n:=by split <;> rfl
   have e2:(x == (if (q == NameKind.free && env.scope.kind == .function && env.kindOf n == some .cell)=true then (n,NameKind.cell) else (n,q)).1)=false:=by rw [key];exact e'
   rw [e2]
   exact ih h
def stB (own:List Str)(cap:List Nat)(σ:St):St:=(own.map fun _=>none)++cap.map fun i=>(σ[i]?).getD none
section
variable {X:Cx} {Gn:List (Addr × Obj)} {σ:St} {H:Hp} {s:Shared} {scope:Scope} {NB own:List Str} {cap:List Nat} {fp:List Addr} {C:Addr}
theorem Blk.cells (B:Blk X scope NB own cap)(ok:X.Ok){x:Str}{c:Addr}(h:(kl X.env.cells scope.names []).lookup x=some c):X.env.cells.lookup x=some c∧(x,NameKind.free)∈scope.names:=by
 rcases gC (Cq h) with q | ⟨q,e⟩
 ·simp at q
 ·obtain ⟨d,hd⟩:=ok.has x (.inl (B.free (x,.free) q rfl))
  have e:c=(X.env.cells.lookup x).getD 0:=e
  rw [hd] at e
  refine ⟨?_,q⟩
  rw [hd,e];rfl
theorem Blk.cell (B:Blk X scope NB own cap)(ok:X.Ok){x:Str}(h:(x,NameKind.free)∈scope.names):∃ c,(kl X.env.cells scope.names []).lookup x=some c:=dP (gF h)
theorem Blk.start (B:Blk X scope NB own cap)(I:Inv X Gn σ H s)(hf:∀ b∈fp,mK X Gn H b)(hfs:∀ b∈fp,∃ o,s.heap.get? b=some o){h':Heap}{tk:Nat}{m:Str→Option Value}(hC:s.heap.objs.size≤C)
  (k:∀ b o,s.heap.get? b=some o→h'.get? b=some o) (hn:h'.Ns C m) :
  Inv (cxB X NB own scope C fp s H) [] (stB own cap σ) H { s with heap:=h',toks:=tk }:=by
 have hlen:NB.length=own.length+cap.length:=by rw [B.nb];simp
 have okB:(cxB X NB own scope C fp s H).Ok:=by
  refine ⟨I.ok.mod,B.kind,I.ok.glob,I.ok.blt,hC,fun x y c h1 h2=>I.ok.inj x y c (B.cells I.ok h1).1 (B.cells I.ok h2).1,fun x hx=>?_,fun x c h1 h2=>?_,I.ok.hd,I.ok.frames,.inl rfl,fun b hb=>⟨?_,fun x c h=>?_⟩,I.bs,BQ I.ok.bsz I.sz,fun b o e hb=>?_,fun b hb z=>?_,I.stack,I.stkFree⟩
  ·have:(x,NameKind.free)∈scope.names:=by
    rcases hx with z | z
    ·exact cQ (.inl rfl) B.nocell z
    ·exact cQ (.inr rfl) B.nocell z
   exact B.cell I.ok this
  ·have hx:x∈own:=by simpa [cxB] using h1
   have q:=B.owns x hx _ (B.cells I.ok h2).2 rfl
   exact absurd q (by simp)
  ·obtain ⟨o,e⟩:=hfs b hb
   exact BP (Bw (Bl e) hC)
  ·exact (hf b hb).2.2.2.2.1 x c (B.cells I.ok h).1
  ·have hb:b∈fp:=hb
   rcases (hf b hb).2.2.2.1 with z | z
   ·exact I.ok.noex b o e z
   ·exact absurd (Bw (Bl e) (BQ I.ok.bsz z)) (B_ _)
  ·rcases Bm.mp (I.stkSub b z) with z | z
   ·exact (hf b hb).2.1 z
   ·exact (hf b hb).2.2.1 z
 refine ⟨okB,rfl,I.bare,Un.kept k,⟨m,hn,fun i x v e1 e2 e3=>?_⟩,fun x c h=>?_,I.hok.fresh hC,fun x c h=>I.freeC x c (B.cells I.ok h).1,fun p hp=>absurd (show p∈([]:List (Addr × Obj)) from hp) (by simp),I.hok.kept k,?_⟩
 ·have e1:NB[i]? = some x:=e1
  have hi:¬ i < own.length:=fun hi=>by
   unfold stB at e2
   rw [BL (by simpa using hi),Bi] at e2
   cases q:own[i]? <;> rw [q] at e2 <;> cases e2
  unfold stB at e2
  rw [Bp (by simpa using hi),Bi] at e2
  rw [B.nb,Bp (by omega),Bi] at e1
  simp only [AY] at e2
  cases q:cap[i - own.length]? with
  | none=>rw [q] at e1;cases e1
  | some j =>
   rw [q] at e1 e2
   have ex:X.N.getD j "" = x:=A_ e1
   have ev:(σ[j]?).getD none=some v:=A_ e2
   obtain ⟨hj,hjf⟩:=B.caps j (BK q)
   rw [ex] at hjf
   have hN:X.N[j]? = some x:=by rw [← ex,A9,fu hj];rfl
   have hσ:σ[j]? = some (some v):=by
    cases z:σ[j]? with
    | none=>rw [z] at ev;cases ev
    | some u=>rw [z] at ev;exact Br some ev
   have GZ:(x,NameKind.free)∈scope.names:=Cq hjf
   have hkc:=B.free _ GZ rfl
   obtain ⟨m0,hn0,hl⟩:=I.loc
   obtain ⟨u,r,l⟩:=hl j x v hN hσ (.inr (.inl hkc))
   refine ⟨u,r,.inr ⟨.inl (ft B.outk hkc hjf),?_⟩⟩
   obtain ⟨c,hc⟩:=B.cell I.ok GZ
   refine ⟨c,hc,?_⟩
   rcases l with ⟨z,_⟩ | ⟨_,c',hc',⟨oc,hoc,hd⟩⟩
   ·rw [show X.env.kindOf x=some .cell from hkc] at z;cases z
   ·have:=(B.cells I.ok hc).1
    rw [hc'] at this
    have:c'=c:=A_ this
    subst this
    exact ⟨oc,k _ _ hoc,hd⟩
 ·obtain ⟨v,oc,hoc,hd⟩:=I.cell x c (B.cells I.ok h).1
  exact ⟨v,oc,k _ _ hoc,hd⟩
 ·show (stB own cap σ).length=NB.length
  unfold stB
  rw [hlen];simp
theorem Blk.done (B:Blk X scope NB own cap)(I:Inv X Gn σ H s)(hf:∀ b∈fp,mK X Gn H b){σB:St}{H':Hp}{s':Shared}{h'':Heap}{D:Addr}{ys:List V}{Gp:List Value}{n:Nat}(hC:s.heap.objs.size≤C)(hD:s.heap.objs.size≤D)(hDC:D≠C)
  (J:Inv (cxB X NB own scope C fp s H) [] σB H' s') (hn:H' D=none) (e:s'.heap.get? D=some { cls:=.type "list",data:=.seq Gp.toArray n }) (hv:bh ys Gp) (hz:ys.length≤sizeLine)
  (sb:Heap.SameBut C s'.heap h''):Inv X Gn σ (upd H' D (.lst ys)) { s' with heap:=h'' }:=by
 have un:Un (frs X.stack) fp H H' s.heap s'.heap:=J.base
 have neC:∀ {b o},s.heap.get? b=some o→b≠C:=fun q=>BP (Bw (Bl q) hC)
 have neD:∀ {b o},s.heap.get? b=some o→b≠D:=fun q=>BP (Bw (Bl q) hD)
 have hCn:H' C=none:=J.free
 refine I.call' (s':={ s' with heap:=h'' }) (ch:=fp) J.os ⟨fun b o q n hb hx=>?_,fun b o q n hb hx=>?_,fun b o q n hx=>?_,fun b o q hx=>?_,fun b xs q=>?_,fun b o u q=>?_,fun b ps q=>?_⟩ (fun b u q=>?_) J.bare fun b hb=>?_
 ·exact (sb.2 b (neC q)).trans (un.keep b o q n hb hx)
 ·obtain ⟨sl,r⟩:=un.slot b o q n hb hx
  exact ⟨sl,(sb.2 b (neC q)).trans r⟩
 ·rw [aW (neD q)]
  exact un.free b o q n hx
 ·obtain ⟨o',r⟩:=un.there b o q hx
  exact ⟨o',(sb.2 b (neC q)).trans r⟩
 ·have r:=un.tups b xs q
  rw [aW (aq r hn)]
  exact r
 ·have r:=un.frzs b o u q
  rw [aW (aq r hn)]
  exact r
 ·obtain ⟨more,r⟩:=un.tbls b ps q
  exact ⟨more,by rw [aW (aq r hn)];exact r⟩
 ·by_cases hb:b=D
  ·subst hb
   rw [ag] at q
   cases q
   exact ⟨hz,Gp,n,hv,(sb.2 b hDC).trans e⟩
  ·rw [aW hb] at q
   refine (J.hok b u q).stay (fun c v hc r=>(sb.2 c ?_).trans r) (fun c r=>?_) fun c xs r=>?_
   ·rcases hc with z | z
    ·rw [z];exact aq q hCn
    ·exact aq z hCn
   ·rw [aW (aq r hn)];exact r
   ·rw [aW (aq r hn)];exact r
 ·obtain ⟨_,f1,_,f3,f4,f5⟩:=hf b hb
  exact ⟨f3,f1,f4,f5⟩
end
def PIf (X:Cx)(ifs:List Expr)(t:TT):Prop :=
 ∀ (Gn:List (Addr × Obj)) (s:Shared) (σ:St) (H:Hp) (Q:Bool→Hp→Prop),Inv X Gn σ H s→t σ H Q →
  wpAny (model X.prog X.w) X.A (forIn ifs true fun c r=>if r=true then do let ok ← isTrue c X.env (eval c X.env);pure (ForInStep.yield ok) else pure (ForInStep.yield r)) (TP X Gn σ Q) X.xe s
def Ae:TT:=fun _ H Q=>Q true H
theorem bG {X:Cx}:PIf X [] Ae:=fun _ _ _ H _ I h=>wpAny_tests_nil ⟨H,I,h⟩
section
variable {prog:Program} {w:World} {A:Around} {R:Result→Shared→Prop} {s:Shared}
abbrev noE:Value→Shared→Prop:=fun _ _=>False
theorem nu {elt tg iter:Expr}{ifs:List Expr}{scope:Scope}{pos:Pos}{it acc:Value}{env:Env}(I:Nat→Shared→Prop)
  (turn:∀ n s,I n s→wpAny (model prog w) A (pyNext it) (fun r s₁=>match r with
   | none=>R (.ok .next) s₁
   | some v=>wpAny (model prog w) A (letOwnedTupleGo tg it v) (fun _ s₀=>wpAny (model prog w) A (assign tg env v) (fun _ s₂ =>
     wpAny (model prog w) A (forIn ifs true fun c r=>if r=true then do let ok ← isTrue c env (eval c env);pure (ForInStep.yield ok) else pure (ForInStep.yield r)) (fun ok s₃ =>
      if ok=true then wpAny (model prog w) A (eval elt env) (fun x s₄=>wpAny (model prog w) A (call (.builtin "list.append") [acc,x]) (fun _ s₅=>∃ m,m < n∧I m s₅) noE s₄) noE s₃
      else ∃ m,m < n∧I m s₃) noE s₂) noE s₀) noE s₁) noE s)
  (n:Nat) (h:I n s):codeAny (model prog w) A (.compLoop (.ListComp elt [⟨tg,iter,ifs,0⟩] scope pos) 0 it acc env) R s:=by
 refine codeAny_loop rfl I (fun n s hI=>?_) n h
 show wpAny _ A ((compTurn (.ListComp elt [⟨tg,iter,ifs,0⟩] scope pos) 0 it acc env).onRaise (fun x=>do noteFrame x env;theTreesLotGoes x)) _ _ s
 refine wpAny_noted ?_
 rw [compTurn_list]
 refine AX (wpAny_standAt (AX (CH (turn n s hI) (fun r s₁ h₁=>?_) fun _ _ z=>False.elim z)))
 cases r with
 | none=>exact A4 h₁
 | some v =>
  refine AX (CH h₁ (fun _ s₀ h₀=>AX (CH h₀ (fun _ s₂ h₂=>AX (CH h₂ (fun ok s₃ h₃=>?_) fun _ _ z=>False.elim z)) fun _ _ z=>False.elim z)) fun _ _ z=>False.elim z)
  cases ok with
  | false=>exact A4 ⟨rfl,h₃⟩
  | true=>exact AX (AX (CH h₃ (fun x s₄ h₄=>AX (CH h₄ (fun _ s₅ h₅=>A4 (A4 ⟨rfl,h₅⟩)) fun _ _ z=>False.elim z)) fun _ _ z=>False.elim z))
end
def nv (own:List Str)(cap:List Nat)(g:TG)(ti:TT)(te:TE)(Q:VK)(σ:St)(J:It)(H1:Hp):Prop:=∃ W:Nat→Nat→List V→St→Hp→Prop,(∃ m,W 0 m [] (stB own cap σ) H1)∧∀ i m ys σ H,W i m ys σ H →
 (J.stop i H∧ys.length≤sizeLine∧∀ D,H D=none→Q (.ref D) (upd H D (.lst ys))) ∨
 (J.go i H∧ys.length < sizeLine∧∀ x H',J.yld i H x H'→g x σ H' fun σ2 H2=>ti σ2 H2 fun b H3=>if b=true then te σ2 H3 fun y H4=>∃ m',m' < m∧W (i+1) m' (ys++[y]) σ2 H4 else ∃ m',m' < m∧W (i+1) m' ys σ2 H3)
def ua (own:List Str)(cap:List Nat)(wi:TI)(g:TG)(ti:TT)(te:TE):TE:=fun σ H Q=>wi σ H fun J H1=>nv own cap g ti te Q σ J H1
theorem km {X:Cx}{pos2:Pos}{use:Option (Value→Sem Unit)}{QQ:Value→Shared→Prop}{Gn:List (Addr × Obj)}{s:Shared}{σ:St}{H:Hp}{Q:VK}{elt iter tg:Expr}{ifs:List Expr}{scope:Scope}{pos:Pos}{NB own:List Str}{cap:List Nat}{wi:TI}{g:TG}{ti:TT}{te:TE}(B:Blk X scope NB own cap)(hc:X.calm=true)(hi:PI X tg iter wi)
  (hg:∀ C fp s₀ H₀,PG (cxB X NB own scope C fp s₀ H₀) tg g) (ht:∀ C fp s₀ H₀,PIf (cxB X NB own scope C fp s₀ H₀) ifs ti) (he:∀ C fp s₀ H₀,PE (cxB X NB own scope C fp s₀ H₀) elt te)
  (hs:∀ x,foldedSetIterable iter X.env x=pure x) (I0:Inv X Gn σ H s) (h:ua own cap wi g ti te σ H Q)
  (fin:∀ (fp:List Addr) (C:Addr) (s2 s4:Shared) (H2 H3:Hp) (σ3:St) (Gp:List Value) (ys:List V) (k:Nat),Inv X Gn σ H2 s2→(∀ b∈fp,mK X Gn H2 b)→s2.heap.objs.size≤C→s2.heap.objs.size≠C→Inv (cxB X NB own scope C fp s2 H2) [] σ3 H3 s4→H3 s2.heap.objs.size=none→s4.heap.get? s2.heap.objs.size=some { cls:=.type "list",data:=.seq Gp.toArray k }→bh ys Gp→ys.length≤sizeLine→Q (.ref s2.heap.objs.size) (upd H3 s2.heap.objs.size (.lst ys)) →
   compPost (model X.prog X.w) X.A X.xe use QQ (.ref s2.heap.objs.size) C (.ok .next) s4):wpAny (model X.prog X.w) X.A (comprehension (.ListComp elt [⟨tg,iter,ifs,0⟩] scope pos) scope X.env pos2 (newList []) false (eval iter X.env) use) QQ X.xe s:=by
 have hclos:=gG (env:=X.env) (scope:=scope) fun y hy e=>I0.ok.has y.1 (.inl (B.free y hy e))
 refine wpAny_comprehension_free (use:=use) rfl hs hclos B.kind B.names (thn (hi Gn s σ H _ I0 h) fun v s1 h1=>thn h1 fun itv s2 h2=>?_)
 obtain ⟨it,fp,tn,J,H2,rfl,I,T,GQ,f2,W,⟨m0,w0⟩,turn⟩:=h2
 refine Dk ?_
 refine wpAny_newFunctionEnv B.nocell (by intro y hy;simp at hy) (fun h₁ hns₁ hsb₁=>?_) B.kind
 dsimp only at hns₁ hsb₁ ⊢
 generalize hP:s2.heap.push { cls:=.type "list",dict:=none,data:=.seq ([]:List Value).toArray }=P at hns₁ hsb₁ ⊢
 have hC:P.objs.size=s2.heap.objs.size+1:=by rw [← hP,Dn]
 have hDC:s2.heap.objs.size≠P.objs.size:=by rw [hC];exact BP (CM _)
 have GP:s2.heap.objs.size≤P.objs.size:=by rw [hC];exact Dv _
 have old:∀ b o,s2.heap.get? b=some o→h₁.get? b=some o:=fun b o e=>by
  refine (hsb₁.2 b ?_).trans (A3 _ (hP ▸ A3 _ e))
  exact BP (Bw (Bl e) GP)
 have hD:h₁.get? s2.heap.objs.size=some { cls:=.type "list",data:=.seq ([]:List Value).toArray 0 }:=by
  refine (hsb₁.2 _ hDC).trans (A3 _ ?_)
  rw [← hP]
  exact Bh _ rfl
 have hfs:∀ b∈fp,∃ o,s2.heap.get? b=some o:=fun b hb=>let ⟨o,e,_⟩:=T.obj _ _ GQ b hb;⟨o,e⟩
 have st4:tn 0 h₁:=T.keep _ _ _ GQ fun b _ o e=>old b o e
 generalize htk:s2.toks+([]:List (Str × Value)).length=tk4
 have I4:=B.start (C:=P.objs.size) (tk:=tk4) I f2 hfs GP old hns₁
 have fOk:∀ {H':Hp} {b:Addr} {ob:Obj},b∈fp→H' b=none→mK (cxB X NB own scope P.objs.size fp s2 H2) [(s2.heap.objs.size,ob)] H' b:=fun {H' b ob} hb hn=>by
  obtain ⟨o,e⟩:=hfs b hb
  refine ⟨hn,(I4.ok.exf b hb).1,I4.ok.exfs b hb,.inl hb,(I4.ok.exf b hb).2,fun p hp=>?_⟩
  have ep:p=(s2.heap.objs.size,ob):=A2.mp (show p∈[(s2.heap.objs.size,ob)] from hp)
  rw [ep]
  exact fun z=>absurd (Bl e) (by rw [← z];exact B_ _)
 have dnf:s2.heap.objs.size∉frs X.stack:=fun z=>by
  rcases Bm.mp (I.stkSub _ z) with z | z
  ·exact absurd I.lt (by rw [← z];exact B_ _)
  ·exact I.nofs (A8 _) z
 have I3D:∀ {σ3:St} {H3:Hp} {s3:Shared} {Gp:List Value} {k:Nat},Inv (cxB X NB own scope P.objs.size fp s2 H2) [] σ3 H3 s3→s3.heap.get? s2.heap.objs.size=some { cls:=.type "list",data:=.seq Gp.toArray k }→H3 s2.heap.objs.size=none →
   Inv (cxB X NB own scope P.objs.size fp s2 H2) [(s2.heap.objs.size,{ cls:=.type "list",data:=.seq Gp.toArray k })] σ3 H3 s3:=fun I3 e n=>I3.pins_of fun p hp=>by
  have ep:=A2.mp hp
  subst ep
  exact ⟨e,n,hDC,dnf,fun v z=>by cases z⟩
 have ndf:s2.heap.objs.size∉fp:=fun z=>by
  obtain ⟨o,e⟩:=hfs _ z
  exact absurd (Bl e) (B_ _)
 have nCD:∀ x c,(cxB X NB own scope P.objs.size fp s2 H2).env.cells.lookup x=some c→c≠s2.heap.objs.size:=fun x c e z=>by
  obtain ⟨v,o,ho,_⟩:=I.cell x c (B.cells I.ok e).1
  rw [z] at ho
  exact absurd (Bl ho) (B_ _)
 have loop:∀ s₃:Shared,s₃ = { s2 with heap:=h₁,toks:=tk4 }→codeAny (model X.prog X.w) X.A (.compLoop (.ListComp elt [⟨tg,iter,ifs,0⟩] scope pos) 0 (.ref it) (.ref s2.heap.objs.size) (cxB X NB own scope P.objs.size fp s2 H2).env)
   (compPost (model X.prog X.w) X.A X.xe use QQ (.ref s2.heap.objs.size) P.objs.size) s₃:=by
  rintro s₃ rfl
  refine nu (fun n s'=>∃ i σB H' ys Gp k,Inv (cxB X NB own scope P.objs.size fp s2 H2) [] σB H' s'∧tn i s'.heap∧(∀ b∈fp,H' b=none)∧s'.heap.get? s2.heap.objs.size=some { cls:=.type "list",data:=.seq (Gp:List Value).toArray k }∧bh ys Gp∧H' s2.heap.objs.size=none∧W i n ys σB H') ?_ m0
   ⟨0,stB own cap σ,H2,[],[],0,I4,st4,fun b hb=>(f2 b hb).1,hD,.nil,I.hok.fresh (A8 _),w0⟩
  rintro n s3 ⟨i,σ3,H3,ys,Gp,k,I3,st3,fr3,hD3,rv,hn3,w3⟩
  rcases turn i n ys σ3 H3 w3 with ⟨stop,hz,q⟩ | ⟨go,hz,step⟩
  ·refine thn (T.done (cxB X NB own scope P.objs.size fp s2 H2) rfl rfl rfl hc i _ s3 σ3 H3 noE (I3D I3 hD3 hn3) (fun b hb=>fOk hb (fr3 b hb)) st3 stop) fun r s4 zq1=>?_
   obtain ⟨hr,I4'⟩:=zq1
   subst hr
   have hD4:s4.heap.get? s2.heap.objs.size=some { cls:=.type "list",data:=.seq (Gp:List Value).toArray k }:=(I4'.pin (s2.heap.objs.size,_) (Bk _ (A2.mpr rfl))).1
   have I5:Inv (cxB X NB own scope P.objs.size fp s2 H2) [] σ3 H3 s4:=I4'.pins_of fun p hp=>absurd (show p∈([]:List (Addr × Obj)) from hp) (by simp)
   exact fin fp _ s2 s4 H2 H3 σ3 Gp ys k I f2 GP hDC I5 hn3 hD4 rv hz (q _ hn3)
  ·refine thn (T.item (cxB X NB own scope P.objs.size fp s2 H2) rfl rfl rfl hc i _ s3 σ3 H3 noE (I3D I3 hD3 hn3) (fun b hb=>fOk hb (fr3 b hb)) st3 go) fun r s4 zq2=>?_
   obtain ⟨u,hr,h4⟩:=zq2
   subst hr
   refine thn h4 fun _ s5 zq3=>?_
   obtain ⟨x,H5,I5,r5,y5,st5,fr5⟩:=zq3
   have I5':=I5.pinned (fun b hb=>fOk hb (fr5 b hb)) (T.obj _ _ st5)
   refine thn (hg _ fp s2 H2 _ s5 σ3 H5 x u _ I5' r5 (step x H5 y5)) fun _ s6 zq4=>?_
   obtain ⟨σ6,H6,I6,q6⟩:=zq4
   refine thn (ht _ fp s2 H2 _ s6 σ6 H6 _ I6 q6) fun b s7 zq5=>?_
   obtain ⟨H7,I7,q7⟩:=zq5
   have pinned:∀ {σ8:St} {H8:Hp} {s8:Shared},Inv (cxB X NB own scope P.objs.size fp s2 H2) ([(s2.heap.objs.size,{ cls:=.type "list",data:=.seq (Gp:List Value).toArray k })]++iz fp s5.heap) σ8 H8 s8 →
     tn (i+1) s8.heap∧(∀ b∈fp,H8 b=none)∧s8.heap.get? s2.heap.objs.size=some { cls:=.type "list",data:=.seq (Gp:List Value).toArray k }∧H8 s2.heap.objs.size=none:=fun {σ8 H8 s8} I8=>by
    refine ⟨T.keep _ _ _ st5 fun b hb o e=>(I8.pin (b,o) (Bk _ (Bk _ (c8 hb e)))).1,fun b hb=>?_,?_,?_⟩
    ·obtain ⟨o,e,d⟩:=T.obj _ _ st5 b hb
     exact (I8.pin (b,o) (Bk _ (Bk _ (c8 hb e)))).2.1
    ·exact (I8.pin (s2.heap.objs.size,_) (Bk _ (BB _ (A2.mpr rfl)))).1
    ·exact (I8.pin (s2.heap.objs.size,_) (Bk _ (BB _ (A2.mpr rfl)))).2.1
   have nopin:∀ {pp:List (Addr × Obj)} {σ8:St} {H8:Hp} {s8:Shared},Inv (cxB X NB own scope P.objs.size fp s2 H2) pp σ8 H8 s8→Inv (cxB X NB own scope P.objs.size fp s2 H2) [] σ8 H8 s8:=fun I8=>I8.pins_of fun p hp=>absurd (show p∈([]:List (Addr × Obj)) from hp) (by simp)
   cases b with
   | false =>
    rw [if_neg Bx] at q7 ⊢
    obtain ⟨m',hm,w7⟩:=q7
    obtain ⟨p1,p2,p3,p4⟩:=pinned I7
    exact ⟨m',hm,i+1,σ6,H7,ys,Gp,k,nopin I7,p1,p2,p3,rv,p4,w7⟩
   | true =>
    rw [if_pos rfl] at q7 ⊢
    refine thn (he _ fp s2 H2 _ s7 σ6 H7 _ I7 q7) fun yv s8 zq6=>?_
    obtain ⟨y,H8,I8,r8,m',hm,w8⟩:=zq6
    obtain ⟨p1,p2,p3,p4⟩:=pinned I8
    refine EU F.slot_list_append ⟨_,p3,rfl⟩ F.entry_list_append (F.args_list_append_2 _ _) (PySem.list_append s2.heap.objs.size Gp.toArray k yv (by rw [Be,← rv.length];omega)) ⟨p3,?_⟩
    have q:=PySem.IsL.update p3 fun a=>a.push yv
    have ea:Gp.toArray.push yv=(Gp++[yv]).toArray:=by simp
    rw [ea] at q
    have I9:Inv (cxB X NB own scope P.objs.size fp s2 H2) [] σ6 H8 { s8 with heap:=s8.heap.update s2.heap.objs.size (Obj.mapSeq fun a=>a.push yv),toks:=s8.toks } :=
     (nopin I8).turned (it:=s2.heap.objs.size) (fun b o hb e=>(BY s8.heap _ (Ne.symm hb)).trans e) p4 hDC (.inr (A8 _)) (fun x c e=>nCD x c e) fun p hp=>absurd (show p∈([]:List (Addr × Obj)) from hp) (by simp)
    refine ⟨m',hm,i+1,σ6,H8,ys++[y],Gp++[yv],_,I9,?_,p2,q,rv.append (.cons r8 .nil),p4,w8⟩
    refine T.keep _ _ _ p1 fun b hb o e=>(BY s8.heap _ ?_).trans e
    intro z
    rw [z] at ndf
    exact ndf hb
 exact codeAny_compStart_list (loop _ rfl) (T.self X.A 0 _ _ _ st4 (loop _ rfl))
theorem cv {X:Cx}{elt iter tg:Expr}{ifs:List Expr}{scope:Scope}{pos:Pos}{NB own:List Str}{cap:List Nat}{wi:TI}{g:TG}{ti:TT}{te:TE}(B:Blk X scope NB own cap)(hc:X.calm=true)(hi:PI X tg iter wi)
  (hg:∀ C fp s₀ H₀,PG (cxB X NB own scope C fp s₀ H₀) tg g) (ht:∀ C fp s₀ H₀,PIf (cxB X NB own scope C fp s₀ H₀) ifs ti) (he:∀ C fp s₀ H₀,PE (cxB X NB own scope C fp s₀ H₀) elt te)
  (hs:∀ x,foldedSetIterable iter X.env x=pure x:=by intro _;rfl):PE X (.ListComp elt [⟨tg,iter,ifs,0⟩] scope pos) (ua own cap wi g ti te):=by
 intro Gn s σ H Q I0 h
 rw [eval_ListComp]
 refine km (use:=none) (QQ:=EP X Gn σ Q) B hc hi hg ht he hs I0 h fun fp C s2 s4 H2 H3 σ3 Gp ys k I f2 GP hDC I5 hn3 hD4 rv hz q=>?_
 obtain ⟨mC,hnC,_⟩:=I5.loc
 exact ⟨mC,hnC,fun h'' sb=>⟨.ref s2.heap.objs.size,_,B.done I f2 GP (A8 _) hDC I5 hn3 hD4 rv hz sb,rfl,q⟩⟩
theorem cw {own:List Str}{cap:List Nat}{J:It}{g:TG}{ti:TT}{te:TE}{σ:St}{H:Hp}{Q:VK}(n:Nat)(Pv:Nat→List V→St→Hp→Prop)(h0:Pv 0 [] (stB own cap σ) H)(hz:∀ i ys σ H,i≤n→Pv i ys σ H→ys.length≤i)(hn:n≤sizeLine)
  (hgo:∀ i ys σ H,i < n→Pv i ys σ H→J.go i H) (hst:∀ ys σ H,Pv n ys σ H→J.stop n H)
  (hs:∀ i ys σ H x H' (N:List V→St→Hp→Prop),i < n→Pv i ys σ H→J.yld i H x H'→(∀ ys' σ' H'',Pv (i+1) ys' σ' H''→N ys' σ' H'')→g x σ H' fun σ2 H2=>ti σ2 H2 fun b H3=>if b=true then te σ2 H3 fun y H4=>N (ys++[y]) σ2 H4 else N ys σ2 H3)
  (hd:∀ ys σ H D,Pv n ys σ H→H D=none→Q (.ref D) (upd H D (.lst ys))) :
  nv own cap g ti te Q σ J H:=by
 refine ⟨fun i m ys σ H=>m=n - i∧i≤n∧Pv i ys σ H,⟨n,by simp,BO _,h0⟩,?_⟩
 rintro i m ys σ H ⟨rfl,hi,p⟩
 have hl:=hz i ys σ H hi p
 by_cases Gw:i < n
 ·refine .inr ⟨hgo i ys σ H Gw p,by omega,fun x H' y=>?_⟩
  exact hs i ys σ H x H' (fun ys' σ' H''=>∃ m',m' < n - i∧m'=n - (i+1)∧i+1≤n∧Pv (i+1) ys' σ' H'') Gw p y fun ys' σ' H'' q=>⟨n - (i+1),by omega,rfl,Gw,q⟩
 ·have e:i=n:=by omega
  subst e
  exact .inl ⟨hst ys σ H p,by omega,fun D hD=>hd ys σ H D p hD⟩
def Its (z:Str):It:=⟨fun i _=>i < z.cps.size,fun i H x H'=>H'=H∧∃ c,z.cps[i]? = some c∧x = .str ⟨#[c]⟩,fun i _=>i=z.cps.size⟩
theorem cx {P:Program}{w:World}{K:PySem.W.Frag}{tg:Expr}{it n:Nat}{Pv:Nat→Value→Prop}{st:Nat→Heap→Prop}{J:It}{T:String}{fl:Nat→Array Value}
  (W:∀ A:Around,A.handled=none→Walks P w A it [it] [it] n Pv st) (hst:∀ i h,st i h→∃ o,h.get? it=some o∧o.cls = .type T∧o.data = .fields (fl i))
  (hT:["enumerate","zip","dict_itemiterator","dict_reverseitemiterator","odict_iterator","itertools.zip_longest","itertools.pairwise"].contains T=false)
  (hgo:∀ i H,J.go i H→i < n) (hstop:∀ i H,J.stop i H→i=n) (hy:∀ i H u,J.go i H→Pv i u→∃ x,bH x u∧J.yld i H x H)
  (hself:∀ (A:Around) (i:Nat) (s:Shared) (Q:Value→Shared→Prop) (E:Value→Shared→Prop),st i s.heap→Q (.ref it) s→wpAny (model P w) A (pyIter (.ref it)) Q E s):vU P w K tg J [it] it st where
 mem:=by simp
 obj:=fun i h s b hb=>by
  have e:b=it:=by simpa using hb
  subst e
  obtain ⟨o,e,c,d⟩:=hst i h s
  exact ⟨o,e,fun v z=>by rw [d] at z;cases z⟩
 keep:=fun i h h' s k=>(W {} rfl).frame i h h' s k
 item:=by
  intro X hP hw hK hc i Gn s σ H E I hf s0 hg
  subst hP hw hK
  obtain ⟨f0,f1,f2,f3,f4,f5⟩:=hf it (by simp)
  refine (W X.A (I.ok.hd hc)).item i s _ _ (hgo i H hg) s0 fun v h' tk hv st' kk=>?_
  have I1:Inv X Gn σ H { s with heap:=h',toks:=tk }:=I.turned (fun b o hb e=>kk b o (by simpa using hb) e) f0 f1 f3 f4 f5
  obtain ⟨o,e,c,d⟩:=hst _ _ st'
  obtain ⟨x,rx,yx⟩:=hy i H v hg hv
  exact ⟨v,rfl,qb (s:={ s with heap:=h',toks:=tk }) e c d hT ⟨x,H,I1,rx,yx,st',fun b hb=>(hf b hb).1⟩⟩
 done:=by
  intro X hP hw hK hc i Gn s σ H E I hf s0 hg
  subst hP hw hK
  obtain ⟨f0,f1,f2,f3,f4,f5⟩:=hf it (by simp)
  have e:=hstop i H hg
  subst e
  exact (W X.A (I.ok.hd hc)).done s _ _ s0 fun h' tk kk=>⟨rfl,I.turned (fun b o hb e=>kk b o (by simpa using hb) e) f0 f1 f3 f4 f5⟩
 self:=hself
section
variable {X:Cx} {tg:Expr}
def AE (tl:TE):TI:=fun σ H R=>tl σ H fun x H1=>∃ z,x = .str z∧R (Its z) H1
theorem ny {z:Str}{i:Nat}{H:Hp}{u:Value}(h:SignAt z i u):∃ x,bH x u∧(Its z).yld i H x H:=by
 obtain ⟨c,t,e,rfl⟩:=h
 exact ⟨.str ⟨#[c]⟩,⟨t,rfl⟩,rfl,c,e,rfl⟩
theorem fV {l:Expr}{tl:TE}(hl:PE X l tl):PI X tg l (AE tl):=by
 intro Gn s σ H R I h
 refine thn (hl Gn s σ H _ I h) fun v s1 zq1=>?_
 obtain ⟨x,H1,I1,r1,q1⟩:=zq1
 obtain ⟨z,rfl,q⟩:=q1
 obtain ⟨t,rfl⟩:=r1
 have fp:∀ b∈[s1.heap.objs.size],mK X Gn H1 b:=fun b hb=>by
  have e:b=s1.heap.objs.size:=by simpa using hb
  subst e
  exact I1.fpOk (A8 _) (I1.hok.fresh (A8 _))
 cases ha:z.cps.all (· < 128)
 ·refine wpAny_pyIter_wide ha ⟨s1.heap.objs.size,[s1.heap.objs.size],_,Its z,H1,rfl,I1.kept (t':=s1.toks) fun b o e=>A3 _ e,
   cx (T:="str_iterator") (fl:=fun i=>#[.str z t,.int i 0]) (fun A hh=>Walks.strWide hh _ z t) (fun i h st=>st) (by decide) (fun i H g=>g) (fun i H g=>g) (fun i H u _ hu=>ny hu) (fun A i s Q E st h=>wpAny_pyIter_striter_wide st h),⟨_,Bh _ rfl,rfl,rfl⟩,fp,q⟩
 ·refine wpAny_pyIter_ascii ha ⟨s1.heap.objs.size,[s1.heap.objs.size],_,Its z,H1,rfl,I1.kept (t':=s1.toks) fun b o e=>A3 _ e,
   cx (T:="str_ascii_iterator") (fl:=fun i=>#[.str z t,.int i 0]) (fun A hh=>Walks.strAscii hh _ z t) (fun i h st=>st) (by decide) (fun i H g=>g) (fun i H g=>g) (fun i H u _ hu=>ny hu) (fun A i s Q E st h=>wpAny_pyIter_striter_ascii st h),⟨_,Bh _ rfl,rfl,rfl⟩,fp,q⟩
inductive Af (x:V)(lo:Option Int)(hi:Option Int)(H:Hp)(Q:VK):Prop
 | mk:∀ z,(x = .str z)→(z.length≤sizeLine)→(Q (.str (Txt.slice z lo hi)) H)→Af x lo hi H Q
theorem bM:SlR X Af:=by
 intro Gn s σ H x v vl vu lo hi sl Q I rx hs pl pu h
 obtain ⟨z,rfl,hz,q⟩:=h
 obtain ⟨t,rfl⟩:=rx
 have fin:∀ (lo hi:Option Int),Q (.str (Txt.slice z lo hi)) H→∀ t' k,EP X Gn σ Q (.str (Txt.slice z lo hi) t') { s with toks:=k }:=fun lo hi q t' k=>⟨.str _,H,I.tok _,⟨_,rfl⟩,q⟩
 refine ⟨"str",_,F.slot_str_getitem.lookup,Eh _ _ _,?_⟩
 cases pl with
 | none =>
  cases pu with
  | none=>exact CB (l:=none) (u:=none) (st:=none) hs rfl (DG ⟨BQ (D1 z _ _) hz,fun t' k=>fin _ _ q t' k⟩)
  | int j uj=>exact CB (l:=none) (u:=some (j,uj)) (st:=none) hs rfl (DG ⟨BQ (D1 z _ _) hz,fun t' k=>fin _ _ q t' k⟩)
 | int i ui =>
  cases pu with
  | none=>exact CB (l:=some (i,ui)) (u:=none) (st:=none) hs rfl (DG ⟨BQ (D1 z _ _) hz,fun t' k=>fin _ _ q t' k⟩)
  | int j uj=>exact CB (l:=some (i,ui)) (u:=some (j,uj)) (st:=none) hs rfl (DG ⟨BQ (D1 z _ _) hz,fun t' k=>fin _ _ q t' k⟩)
inductive r9 (x:V)(vs:List V)(H:Hp)(Q:VK):Prop
 | mk:∀ z,(x = .str z)→(vs=[])→(z.length≤5592405)→(Q (.str (Txt.upper z)) H)→r9 x vs H Q
inductive r_ (x:V)(vs:List V)(H:Hp)(Q:VK):Prop
 | mk:∀ z,(x = .str z)→(vs=[])→(z.length≤5592405)→(Q (.str (Txt.lower z)) H)→r_ x vs H Q
theorem gH:MtR X "str.upper" r9:=by
 intro Gn s σ H x vs v us Q I rx rv h
 obtain ⟨z,rfl,rfl,hz,q⟩:=h
 obtain ⟨t,rfl⟩:=rx
 cases rv
 exact SCL.upper hz fun _=>⟨.str _,H,I.tok _,⟨_,rfl⟩,q⟩
theorem qp:MtR X "str.lower" r_:=by
 intro Gn s σ H x vs v us Q I rx rv h
 obtain ⟨z,rfl,rfl,hz,q⟩:=h
 obtain ⟨t,rfl⟩:=rx
 cases rv
 exact SCL.lower hz fun _=>⟨.str _,H,I.tok _,⟨_,rfl⟩,q⟩
theorem fW:∀ {ys:List Str} {us:List Value},bh (ys.map V.str) us→StrsAre us ys
 | [],_,r=>by
  rw [Dz] at r
  cases r
  exact .nil
 | y::ys,us,r=>by
  rw [Bv] at r
  cases r with
  | cons r1 r2 =>
   obtain ⟨t,e⟩:=r1
   subst e
   exact .cons y t (fW r2)
inductive wx (K:PySem.W.Frag)(x:V)(vs:List V)(H:Hp)(Q:VK):Prop
 | mk:∀ z p ys,(x = .str z)→(vs=[.ref p])→(SqL K H p (ys.map V.str))→((ys.map (·.length)).sum+ys.length*z.length≤16777216)→(Q (.str (Txt.join z ys)) H)→wx K x vs H Q
theorem eC:MtR X "str.join" (wx X.K):=by
 intro Gn s σ H x vs v us Q I rx rv h
 obtain ⟨z,p,ys,rfl,rfl,hq,hz,q⟩:=h
 obtain ⟨t,rfl⟩:=rx
 obtain ⟨u,rfl,ru⟩:=cM rv
 cases ru
 obtain ⟨Gp,r,pl,_⟩:=I.list hq
 exact join_list pl.isList (by simpa using fW r) hz fun t' k=>⟨.str _,H,I.tok _,⟨_,rfl⟩,q⟩
inductive eN  (x:V)(y:V)(H:Hp)(Q:VK):Prop
 | mk:∀ z n,(x = .str z)→(y = .int n)→(MulOk z n)→(Q (.str (Txt.mul z n)) H)→eN x y H Q
theorem fX:OpR X (binaryOp .Mult) eN:=by
 intro Gn s σ H x y v u Q I rx ry h
 obtain ⟨z,n,rfl,rfl,hz,q⟩:=h
 obtain ⟨t,rfl⟩:=rx
 obtain ⟨t',rfl⟩:=ry
 exact SB.mul hz fun t' k=>⟨.str _,H,I.tok _,⟨_,rfl⟩,q⟩
end
theorem nz {z:Str}{g:TG}{tb:TS}{D:j6}{σ:St}{H:Hp}(Pv:Nat→St→Hp→Prop)(h0:Pv 0 σ H)
  (hs:∀ i c σ H,z.cps[i]? = some c→Pv i σ H→g (.str ⟨#[c]⟩) σ H fun σ2 H2=>tb { D with nx:=Pv (i+1),ct:=Pv (i+1),bk:=D.nx } σ2 H2) (hd:∀ σ H,Pv z.cps.size σ H→D.nx σ H) :
  ∃ W:Nat→Nat→St→Hp→Prop,(∃ m,W 0 m σ H)∧∀ i m σ H,W i m σ H →
   ((Its z).stop i H∧D.nx σ H) ∨ ((Its z).go i H∧∃ N:St→Hp→Prop,(∀ σ' H',N σ' H'→∃ m',m' < m∧W (i+1) m' σ' H')∧∀ x H',(Its z).yld i H x H'→g x σ H' fun σ2 H2=>tb { D with nx:=N,ct:=N,bk:=D.nx } σ2 H2):=by
 refine ⟨fun i m σ H=>m=z.cps.size - i∧i≤z.cps.size∧Pv i σ H,⟨z.cps.size,by simp,BO _,h0⟩,?_⟩
 rintro i m σ H ⟨rfl,hi,p⟩
 by_cases Gw:i < z.cps.size
 ·refine .inr ⟨Gw,Pv (i+1),fun σ' H' p'=>⟨z.cps.size - (i+1),by omega,rfl,Gw,p'⟩,fun x H' y=>?_⟩
  obtain ⟨e,c,hc,ex⟩:=y
  subst e ex
  exact hs i c σ _ hc p
 ·have e:i=z.cps.size:=by omega
  subst e
  exact .inl ⟨rfl,hd σ H p⟩
end L2
namespace PySem
open Sem (wp)
open Builtin Builtin.SmallTypes
namespace F
theorem lookup_str_reversed:typeLookup (.type "str") "__reversed__" = pure none:=by rw [En,Dg]; kernel_rfl
theorem gI:Slot "reversed" "__init__" "object.__init__" :=
 .of (owner:="object") (n:="__init__") (by rw [En,Dg];kernel_rfl) (by decide +kernel) (by decide +kernel) (by decide +kernel)
  (by first | exact .inl (by decide +kernel) | exact .inr (by decide +kernel)) (by rw [EH];kernel_rfl)
theorem called_rvs:TypeCalled "reversed" "reversed.__new__" "object.__init__" :=
 ⟨by decide +kernel,create_reversed,⟨_,_,mro_reversed⟩,made_reversed,plain_reversed_new,sub_reversed_self,gI⟩
end F
set_option maxHeartbeats 1000000 in
theorem nB (x:Str)(t:Tok):Meets (Builtin.«reversed.__new__» ⟨[.type "reversed",.str x t],[]⟩) (fun _ R s=>¬ (x.length:Int)≥2 ^ 63 ∧
   ∀ tk,R (.ok (.ret (.ref s.heap.objs.size))) { s with heap:=s.heap.push { cls:=.type "reversed",data:=.fields #[.str x t,rawInt ((x.length:Int) - 1)] },toks:=tk }) :=
 .of_wp fun prog w A R s h=>by
  obtain ⟨hx,h⟩:=h
  unfold Builtin.«reversed.__new__»
  refine AX (Eo (newClass_reversed _) ?_)
  try dsimp only
  refine AX (Eo (a:=()) (by first | rfl | kernel_rfl) ?_)
  refine AX (Eo (a:=()) (by first | rfl | kernel_rfl) ?_)
  try dsimp only
  refine AX (Fq (Eh s x t) F.lookup_str_reversed ?_)
  try dsimp only
  refine AX ?_
  have hl:=F.slot_str_getitem.lookup
  have hT:=Eh s x t
  have hD:isSubtype (.type "str") (.type "dict")=pure false:=by rw [EH];kernel_rfl
  repeat (any_goals (first | assumption | refine PySem.P.len_str hx ?_ | wp_step))
  exact ⟨_,rfl,h _⟩
def Heap.IsRvs (h:Heap)(a:Addr)(x:Str)(t:Tok)(i:Int):Prop:=∃ o,h.get? a=some o∧o.cls = .type "reversed"∧o.data = .fields #[.str x t,rawInt i]
theorem Heap.IsRvs.typeIs {s:Shared}{a:Addr}{x:Str}{t:Tok}{i:Int}(y:s.heap.IsRvs a x t i):s.TypeIs (.ref a) "reversed":=let ⟨o,ho,hc,_⟩:=y; ⟨o,ho,hc⟩
namespace F
theorem slot_rvs_next:Slot "reversed" "__next__" "reversed.__next__" :=
 .of (owner:="reversed") (n:="__next__") (by rw [En,Dg];kernel_rfl) (by decide +kernel) (by decide +kernel) (by decide +kernel)
  (by first | exact .inl (by decide +kernel) | exact .inr (by decide +kernel)) (by rw [EH];kernel_rfl)
theorem entry_rvs_next:entryFor table "reversed.__next__" = some Builtin.«reversed.__next__»:=entryFor_of_tree (by kernel_rfl)
theorem args_rvs_next (a:Value):argsOk "reversed.__next__" ⟨[a],[]⟩:=by unfold argsOk; kernel_rfl
theorem slot_rvs_iter:Slot "reversed" "__iter__" "reversed.__iter__" :=
 .of (owner:="reversed") (n:="__iter__") (by rw [En,Dg];kernel_rfl) (by decide +kernel) (by decide +kernel) (by decide +kernel)
  (by first | exact .inl (by decide +kernel) | exact .inr (by decide +kernel)) (by rw [EH];kernel_rfl)
theorem args_rvs_iter (a:Value):argsOk "reversed.__iter__" ⟨[a],[]⟩:=by unfold argsOk; kernel_rfl
theorem entry_rvs_iter:entryFor table "reversed.__iter__" = some Builtin.«dict_keyiterator.__iter__» :=
 entryFor_alias (id':="dict_keyiterator.__iter__") (by kernel_rfl) rfl (by decide +kernel) (by kernel_rfl)
end F
section
variable {prog:Program} {w:World} {A:Around} {E:Value→Shared→Prop} {s:Shared} {x:Str} {t:Tok}
theorem iL {Q:Value→Shared→Prop}(hx:¬ (x.length:Int)≥2 ^ 63)
  (h:∀ tk,Q (.ref s.heap.objs.size) { s with heap:=s.heap.push { cls:=.type "reversed",data:=.fields #[.str x t,rawInt ((x.length:Int) - 1)] },toks:=tk }):wpAny (model prog w) A (call (.type "reversed") [.str x t]) Q E s :=
 callType_new F.called_rvs (by decide) (F.typeCall_reversed_1 _) (F.newCall_reversed_1 _) (fun obj=>F.args_object_init_2 obj _) F.entry_reversed_new (nB x t) ⟨hx,fun tk=>⟨⟨_,Bh _ rfl,rfl⟩,h tk⟩⟩
theorem gJ {it:Addr}{i:Int}{Q:Value→Shared→Prop}(hit:s.heap.IsRvs it x t i)(h:Q (.ref it) s):wpAny (model prog w) A (pyIter (.ref it)) Q E s:=by
 refine wpAny_pyIter_slot hit.typeIs F.slot_rvs_iter (Cj F.slot_rvs_iter hit.typeIs F.entry_rvs_iter ?_ (F.args_rvs_iter _))
 show wpAny _ _ (ret (.ref it)) _ _ s
 exact A4 ⟨_,rfl,"reversed",_,hit.typeIs,F.slot_rvs_next.lookup,h⟩
theorem gK {it:Addr}{i:Nat}{c:Nat}{Q:Option Value→Shared→Prop}(hit:s.heap.IsRvs it x t (i:Int))(hx:x.cps[i]? = some c)(h63:(i:Int) < 2 ^ 63)
  (hQ:∀ h' tk u,h'.IsRvs it x t ((i:Int) - 1)→Heap.SameBut it s.heap h'→Q (some (.str ⟨#[c]⟩ u)) { s with heap:=h',toks:=tk }):wpAny (model prog w) A (pyNext (.ref it)) Q E s:=by
 obtain ⟨o,ho,hc,hd⟩:=id hit
 unfold pyNext
 refine AX (E7 (CA (name:=Str.ofString "__next__") hit.typeIs F.slot_rvs_next
  (Cj F.slot_rvs_next hit.typeIs F.entry_rvs_next ?_ (F.args_rvs_next _))))
 unfold Builtin.«reversed.__next__»
 refine AX (Eo (a:=(Value.ref it,[])) rfl ?_)
 try dsimp only
 refine AX (CP ho hd (x:=.str x t) rfl ?_)
 refine AX (CP ho hd (x:=rawInt (i:Int)) rfl ?_)
 show wpAny _ _ (if (i:Int) < 0 then _ else _) _ _ s
 rw [if_neg (by omega)]
 refine AX (Fq (Eh s x t) F.slot_str_getitem.lookup ?_)
 show wpAny _ _ (if (some (Value.builtin "str.__getitem__")).isNone=true then _ else _) _ _ s
 rw [if_neg (by decide)]
 refine AX (wpAny_mkInt ?_)
 have Gw:i < x.length:=by
  have:=CL.mp hx
  exact this.1
 refine AX (E7 (PySem.P.getItem_str (c:=c) ?_ ?_ ?_))
 ·have e1:decide ((i:Int) < -(2 ^ 63:Int))=false:=AZ (by omega)
  have e2:decide ((i:Int)≥2 ^ 63)=false:=AZ (by omega)
  rw [e1,e2,FB]
 ·rw [PySem.StrLaws.seqIndex_nonneg (by omega) (by omega)]
  simpa using hx
 try dsimp only
 refine AX (CP ho hd (x:=rawInt (i:Int)) rfl ?_)
 show wpAny _ _ (setField (.ref it) 1 (rawInt ((i:Int) - 1)) >>= _) _ _ _
 refine AX (Fy ho hd (by simp) ?_)
 refine A4 ⟨_,rfl,A4 (hQ _ _ _ ?_ (Ep ..))⟩
 exact ⟨_,Dc _ ho (Obj.isFreed_of_fields (DH hd _)),(Obj.cls_mapFields ..).trans hc,by
  rw [DH hd];simp⟩
theorem iM {it:Addr}{Q:Option Value→Shared→Prop}(hh:A.handled=none)(hit:s.heap.IsRvs it x t (-1))
  (hQ:∀ h',(∀ b o,b≠it→s.heap.get? b=some o→h'.get? b=some o)→Q none { s with heap:=h' }):wpAny (model prog w) A (pyNext (.ref it)) Q E s:=by
 obtain ⟨o,ho,hc,hd⟩:=id hit
 unfold pyNext
 refine AX (E7 (CA (name:=Str.ofString "__next__") hit.typeIs F.slot_rvs_next
  (Cj F.slot_rvs_next hit.typeIs F.entry_rvs_next ?_ (F.args_rvs_next _))))
 unfold Builtin.«reversed.__next__»
 refine AX (Eo (a:=(Value.ref it,[])) rfl ?_)
 try dsimp only
 refine AX (CP ho hd (x:=.str x t) rfl ?_)
 refine AX (CP ho hd (x:=rawInt (-1)) rfl ?_)
 show wpAny _ _ (if (-1:Int) < 0 then _ else _) _ _ s
 rw [if_pos (by decide)]
 refine AX (CW ?_)
 refine AX ?_
 show wpAny _ _ (setField (.ref it) 1 (rawInt (-1)) >>= fun _=>setField (.ref it) 0 .none) _ _ s
 refine AX (Fy ho hd (by simp) ?_)
 have ho2:=Dc (Obj.mapFields fun a=>a.setIfInBounds 1 (rawInt (-1))) ho (Obj.isFreed_of_fields (DH hd _))
 have hd2:=DH hd fun a=>a.setIfInBounds 1 (rawInt (-1))
 refine Fy ho2 hd2 (by simp) ?_
 generalize hh2:(s.heap.update it _).update it _=h2
 have kk:∀ b o,b≠it→s.heap.get? b=some o→h2.get? b=some o:=fun b o hb e=>by
  rw [← hh2]
  exact (BY _ _ (Ne.symm hb)).trans ((BY _ _ (Ne.symm hb)).trans e)
 have hz:A.in1.handled=none:=hh
 have sub:=isSubtype_stop
 repeat (any_goals (first | assumption | wp_step))
 unfold raiseNew
 refine AX (wpAny_handled ?_)
 rw [hz]
 refine AX (A4 (wpAny_throw ?_))
 refine AX (wpAny_isInstance (T:="StopIteration") (b:=true) ?_ sub (A4 (hQ _ fun b o hb e=>?_)))
 ·exact ⟨_,Bh _ rfl,rfl⟩
 exact A3 _ (A3 _ (kk b o hb e))
theorem nC (hh:A.handled=none)(it:Addr)(x:Str)(t:Tok)(h63:(x.cps.size:Int) < 2 ^ 63) :
  Walks prog w A it [it] [it] x.cps.size (fun i v=>∃ c u,x.cps[x.cps.size - 1 - i]? = some c∧v = .str ⟨#[c]⟩ u) (fun i h=>i≤x.cps.size∧h.IsRvs it x t ((x.cps.size:Int) - 1 - (i:Int))) where
 sub:=fun _ hb=>hb
 frame:=fun _ _ _ st hk=>let ⟨l,o,ho,r⟩:=st;⟨l,o,hk it (by simp) o ho,r⟩
 item:=fun i s Q E hi y hQ=>by
  have e:(x.cps.size:Int) - 1 - (i:Int)=((x.cps.size - 1 - i:Nat):Int):=by omega
  have hit:=y.2
  rw [e] at hit
  have hx:x.cps[x.cps.size - 1 - i]? = some (x.cps[x.cps.size - 1 - i]'(by omega)):=Array.getElem?_eq_getElem (by omega)
  refine gK hit hx (by omega) fun h' tk u hit' hs'=>?_
  have e2:((x.cps.size - 1 - i:Nat):Int) - 1=(x.cps.size:Int) - 1 - ((i+1:Nat):Int):=by omega
  rw [e2] at hit'
  exact hQ _ h' tk ⟨_,u,hx,rfl⟩ ⟨hi,hit'⟩ fun b o hb eo=>hs'.extBut b o (fun h=>hb (by simp [h])) eo
 done:=fun s Q E y hQ=>by
  have e:(x.cps.size:Int) - 1 - (x.cps.size:Int) = -1:=by omega
  have hit:=y.2
  rw [e] at hit
  exact iM hh hit fun h' he'=>hQ h' s.toks fun b o hb eo=>he' b o (fun h=>hb (by simp [h])) eo
 self:=fun _ _ _ _ y hQ=>gJ y.2 hQ
end
end PySem
namespace L2
open PySem PySem.Spec PyProof.Rows
def yJ (z:Str):It:=⟨fun i _=>i < z.cps.size,fun i H x H'=>H'=H∧∃ c,z.cps[z.cps.size - 1 - i]? = some c∧x = .str ⟨#[c]⟩,fun i _=>i=z.cps.size⟩
section
variable {X:Cx} {tg:Expr}
def yK (ta:TA):TI:=fun σ H R=>ta σ H fun vs H1=>∃ z,vs=[.str z]∧z.length≤sizeLine∧R (yJ z) H1
theorem ub {a:Expr}{ta:TA}{p pos:Pos}(hg:Gl X "reversed")(hm:X.mg "reversed" = none)(hb:bootBuiltins "reversed" = some (.type "reversed"))(ha:PA X [a] ta)(hs:starEach [a] X.env=[(false,eval a X.env)]:=by rfl) :
  PI X tg (.Call (.Name "reversed" p) [a] [] pos) (yK ta):=by
 intro Gn s σ H R I h
 refine Call_ (iy I hg hm hb (CI (thn (ha pos Gn s σ H _ I h) fun us s1 zq1=>?_) hs rfl))
 obtain ⟨vs,H1,I1,r1,q1⟩:=zq1
 obtain ⟨z,rfl,hz,q⟩:=q1
 obtain ⟨u,rfl,t,rfl⟩:=cM r1
 have hn:=dN
 have hsz:z.cps.size=z.length:=rfl
 refine iL (by omega) fun tk=>?_
 have hit:Heap.IsRvs (s1.heap.push { cls:=.type "reversed",data:=.fields #[.str z t,rawInt ((z.length:Int) - 1)] }) s1.heap.objs.size z t ((z.length:Int) - 1):=⟨_,Bh _ rfl,rfl,rfl⟩
 refine gJ (s:={ s1 with heap:=s1.heap.push { cls:=.type "reversed",data:=.fields #[.str z t,rawInt ((z.length:Int) - 1)] },toks:=tk }) hit ?_
 refine ⟨s1.heap.objs.size,[s1.heap.objs.size],_,yJ z,H1,rfl,I1.kept (t':=tk) fun b o e=>A3 _ e,
  cx (T:="reversed") (fl:=fun i=>#[.str z t,rawInt ((z.cps.size:Int) - 1 - (i:Int))]) (fun A hh=>nC hh _ z t (by omega)) (fun i h st=>st.2) (by decide) (fun i H g=>g) (fun i H g=>g)
   (fun i H u _ ⟨c,t',e,eu⟩=>⟨.str ⟨#[c]⟩,⟨t',eu⟩,rfl,c,e,rfl⟩) (fun A i s Q E st h=>gJ st.2 h),⟨BO _,by simpa [hsz] using hit⟩,fun b hb=>?_,q⟩
 have e:b=s1.heap.objs.size:=by simpa using hb
 subst e
 exact I1.fpOk (A8 _) (I1.hok.fresh (A8 _))
structure DTx (K:PySem.W.Frag) (w:World) (a:Addr):Prop where
 ob:∃ (es:Array DictEntry) (n:Nat),K.lookup a=some ⟨.type "dict",none,.dict es n,#[]⟩∧PySem.W.KeysLit w.params es.toList
theorem qq {a:Addr}(D:DTx X.K X.w a):IxR X (fun x y H Q=>∃ z z' t,x = .ref a∧y = .str z∧PySem.W.nsIn X.K a z=some (some (.str z' t))∧Q (.str z') H):=by
 intro value slice Gn s σ H x y v u Q I rx ry h hs
 obtain ⟨z,z',t',rfl,rfl,e,q⟩:=h
 cases rx
 obtain ⟨t,rfl⟩:=ry
 obtain ⟨es,n,hl,hk⟩:=D.ob
 obtain ⟨m,F⟩:=I.fr
 exact PySem.W.topItem_K F I.ok.mod.kin hl hk e ⟨.str z',H,I.tok _,⟨_,rfl⟩,q⟩ hs
def qr (K:PySem.W.Frag)(a:Addr)(Q:VK):V→Hp→Prop:=fun y H1=>∃ z z' t,y = .str z∧PySem.W.nsIn K a z=some (some (.str z' t))∧Q (.str z') H1
def yL (K:PySem.W.Frag)(a:Addr)(ti:TE):TE:=fun σ H Q=>ti σ H (qr K a Q)
theorem uc {K:PySem.W.Frag}{w:World}{a:Addr}{x:Str}{i:Expr}{ti:TE}{p pos:Pos}(D:DTx K w a)(hK:X.K=K)(hw:X.w=w)(hg:Gl X x)(hm:X.mg x=some (.ref a))(hi:PE X i ti)(hs:mV i)
  (hd:(x == ("__debug__":Str))=false:=by decide):PE X (.Subscript (.Name x p) i pos) (yL K a ti):=by
 subst hK hw
 intro Gn s σ H Q I h
 refine ES (jf I hg hm (thn (hi Gn s σ H _ I h) fun u s2 zq2=>?_) hd)
 obtain ⟨y,H2,I2,ry,z,z',t',e1,e2,q⟩:=zq2
 exact qq D _ _ Gn s2 σ H2 (.ref a) y (.ref a) u Q I2 rfl ry ⟨z,z',t',rfl,e1,e2,q⟩ (hs _ _)
end
end L2
namespace Wd
abbrev L:=Fin 12
def inv (x:L):L:=if h:x.val < 6 then ⟨x.val+6,by omega⟩ else ⟨x.val - 6,by omega⟩
theorem aP:∀ x:L,inv (inv x)=x:=by decide
theorem fY:∀ x:L,inv x≠x:=by decide
def bk (w:List L):List L:=(w.map inv).reverse
theorem wz (w:List L):bk (bk w)=w:=by
 unfold bk
 rw [List.map_reverse,List.reverse_reverse,BZ]
 have:(inv ∘ inv)=id:=funext fun x=>aP x
 rw [this,List.map_id]
theorem bu (w:List L):(bk w).length=w.length:=by simp [bk]
theorem cR (x:L):bk [x]=[inv x]:=rfl
def push (st:List L)(x:L):List L:=match st with
 | []=>[x]
 | y::r=>if y=inv x then r else x::y::r
def Rd:List L→Prop
 | []=>True
 | [_]=>True
 | x::y::r=>y≠inv x∧Rd (y::r)
theorem Rd.tail:∀ {x:L} {r:List L},Rd (x::r)→Rd r
 | _,[],_=>trivial
 | _,_::_,h=>h.2
def rep:Nat→List L→List L
 | 0,_=>[]
 | n+1,w=>rep n w++w
theorem gL (w:List L):∀ n,rep n w++w=w++rep n w
 | 0=>by simp [rep]
 | n+1=>by
  show (rep n w++w)++w=w++(rep n w++w)
  rw [← Bc,← gL w n]
theorem eE (w:List L):∀ n,(rep n w).length=n*w.length
 | 0=>by simp [rep]
 | n+1=>by
  show (rep n w++w).length=_
  rw [A7,eE w n,Nat.succ_mul]
def pw (w:List L)(n:Int):List L:=rep n.natAbs (if n < 0 then bk w else w)
end Wd
namespace L2
open PySem PySem.Spec PyProof.Rows Wd
def cp (x:L):Nat:=if x.val < 6 then 97+x.val else 59+x.val
theorem ud:∀ x:L,cp x < 128:=by decide
theorem se:∀ x y:L,cp x=cp y→x=y:=by decide
def toS (w:List L):Str:=⟨(w.map cp).toArray⟩
def tx (w:List L):V:=.str (toS w)
theorem bU (w:List L):(toS w).cps.toList=w.map cp:=by simp [toS]
theorem af (w:List L):(toS w).length=w.length:=by simp [toS,Str.length]
theorem bt (w:List L):(toS w).cps.size=w.length:=by simp [toS]
theorem f_ (u v:List L):toS u++toS v=toS (u++v):=by
 apply Str.ext'
 rw [Str.cps_append]
 simp [toS]
theorem eF:∀ {u v:List L},u.map cp=v.map cp→u=v
 | [],[],_=>rfl
 | [],_::_,h=>by simp at h
 | _::_,[],h=>by simp at h
 | x::u,y::v,h=>by
  simp only [Bv,DJ] at h
  rw [se x y h.1,eF h.2]
theorem jk {u v:List L}(h:toS u=toS v):u=v:=by
 have:(toS u).cps.toList=(toS v).cps.toList:=by rw [h]
 rw [bU,bU] at this
 exact eF this
theorem ko {u v:List L}(h:tx u=tx v):u=v:=jk (V.str.inj h)
theorem sf (u v:List L):decide (tx u=tx v)=decide (u=v):=by
 by_cases h:u=v
 ·subst h;simp
 ·rw [AZ h,AZ fun e=>h (ko e)]
theorem qt:toS [0,1,2,3,4,5]=("abcdef":Str):=by decide +kernel
theorem big:toS [6,7,8,9,10,11]=("ABCDEF":Str):=by decide +kernel
theorem cS {w:List L}{i c:Nat}(h:(toS w).cps[i]? = some c):∃ x,w[i]? = some x∧(⟨#[c]⟩:Str)=toS [x]:=by
 have h:((w.map cp).toArray)[i]? = some c:=h
 rw [List.getElem?_toArray,Bi] at h
 cases e:w[i]? with
 | none=>rw [e] at h;cases h
 | some x =>
  rw [e] at h
  have:cp x=c:=A_ h
  exact ⟨x,rfl,by rw [← this];rfl⟩
theorem cT {w:List L}{k:Nat}{x:L}{i:Int}(hk:i=(k:Int))(h:w[k]? = some x):atI (toS w).cps.toList i=some (cp x):=by
 subst hk
 rw [bU]
 obtain ⟨hl,e⟩:=A6.mp h
 unfold atI ixN
 rw [if_pos (by omega),if_pos (by rw [AY];omega)]
 show (w.map cp)[((k:Nat):Int).toNat]? = _
 rw [BR,Bi,h]
 rfl
def qu (w:List L)(lo hi:Option Int):List L:=(w.drop (HT.sIx w.length 0 lo)).take (HT.sIx w.length w.length hi - HT.sIx w.length 0 lo)
theorem ue (lo hi:Option Int)(n:Nat):Builtin.Str.strSliceIndices lo hi 1 n=(List.range (HT.sIx n n hi - HT.sIx n 0 lo)).map (fun k=>HT.sIx n 0 lo+k):=by
 have cl:∀ v:Int,max (0:Int) (min (if v < 0 then v+(n:Int) else v) (n:Int))=(((if v < 0 then (v+(n:Int)).toNat else min v.toNat n):Nat):Int):=fun v=>by
  by_cases hv:v < 0
  ·simp only [if_pos hv];omega
  ·simp only [if_neg hv];omega
 have fin:∀ a b:Nat,sliceRange (a:Int) (b:Int) 1=(List.range (b - a)).map (fun k=>a+k):=fun a b=>by
  unfold sliceRange
  simp only [show ((1:Int) > 0)=True from by simp,CV]
  by_cases Gw:(a:Int) < b
  ·have e3:(((b:Int) - a+1 - 1) / 1).toNat=b - a:=by first | omega | (simp;done) | (simp;omega)
   simp only [Gw,CV,e3]
   exact Dw fun k _=>by omega
  ·have:b - a=0:=by omega
   simp [Gw,this]
 unfold Builtin.Str.strSliceIndices
 simp only [show ((1:Int) > 0)=True from by simp,CV]
 cases lo with
 | none =>
  cases hi with
  | none=>exact fin 0 n
  | some j=>simp only [cl];exact fin 0 _
 | some i =>
  cases hi with
  | none=>simp only [cl];exact fin _ n
  | some j=>simp only [cl];exact fin _ _
theorem a_ (w:List L)(lo hi:Option Int):Txt.slice (toS w) lo hi=toS (qu w lo hi):=by
 have h1:=HT.mT w.length 0 (BO _) lo
 have h2:=HT.mT w.length w.length (A8 _) hi
 unfold Txt.slice
 rw [ue,af]
 split
 ·rename_i h
  have hl:HT.sIx w.length w.length hi - HT.sIx w.length 0 lo=w.length:=by simpa using h
  have e:qu w lo hi=w:=by
   unfold qu
   rw [hl]
   have ha:HT.sIx w.length 0 lo=0 ∨ w.length=0:=by omega
   rcases ha with ha | ha
   ·rw [ha,Do,Ds]
   ·have:w=[]:=B6 ha
    subst this
    simp
  rw [e]
 ·apply Str.ext'
  show (List.filterMap _ _).toArray=_
  have e:=StrLaws.picks (w.map cp) (HT.sIx w.length w.length hi - HT.sIx w.length 0 lo) (HT.sIx w.length 0 lo)
  by_cases hle:HT.sIx w.length 0 lo≤HT.sIx w.length w.length hi
  ·have e:=e (by rw [AY];omega)
   have e2:(fun k:Nat=>(toS w).cps[k]?)=fun k:Nat=>(w.map cp)[k]?:=funext fun k=>by simp [toS]
   rw [e2,e]
   simp [toS,qu,List.map_take,List.map_drop]
  ·have z:HT.sIx w.length w.length hi - HT.sIx w.length 0 lo=0:=by omega
   rw [z]
   simp [toS,qu,z]
theorem cU (w:List L){n:Int}(h:0≤n):qu w none (some n)=w.take n.toNat:=by
 obtain ⟨k,rfl⟩:=Cb h
 unfold qu
 rw [HT.gs,HT.fj,Do,Ft,BR]
 by_cases hk:k≤w.length
 ·rw [Nat.min_eq_left hk]
 ·rw [Nat.min_eq_right (by omega),Ds,By (by omega)]
theorem eX (w:List L){n:Int}(h:0≤n):qu w (some n) none=w.drop n.toNat:=by
 obtain ⟨k,rfl⟩:=Cb h
 unfold qu
 rw [HT.gs,HT.fj,BR]
 by_cases hk:k≤w.length
 ·rw [Nat.min_eq_left hk,By (by rw [BS];omega)]
 ·rw [Nat.min_eq_right (by omega),Fg,C9 (by omega)]
  simp
theorem nE (w:List L):Txt.upper (toS w)=⟨((w.map cp).map up1).toArray⟩:=by
 rw [upper_ascii fun c hc=>by rw [bU] at hc;obtain ⟨x,_,rfl⟩:=BD.mp hc;exact ud x]
 simp [toS]
theorem nF (w:List L):Txt.lower (toS w)=⟨((w.map cp).map lo1).toArray⟩:=by
 rw [lower_ascii fun c hc=>by rw [bU] at hc;obtain ⟨x,_,rfl⟩:=BD.mp hc;exact ud x]
 simp [toS]
theorem yM:∀ x:L,x.val < 6→up1 (cp x)=cp (inv x):=by decide
theorem yN:∀ x:L,¬ x.val < 6→lo1 (cp x)=cp (inv x):=by decide
theorem dQ {x:L}(h:x.val < 6):Txt.upper (toS [x])=toS [inv x]:=by
 rw [nE]
 show (⟨#[up1 (cp x)]⟩:Str)=⟨#[cp (inv x)]⟩
 rw [yM x h]
theorem nG {x:L}(h:¬ x.val < 6):Txt.lower (toS [x])=toS [inv x]:=by
 rw [nF]
 show (⟨#[lo1 (cp x)]⟩:Str)=⟨#[cp (inv x)]⟩
 rw [yN x h]
theorem qv:∀ w:List L,Txt.join ("":Str) (w.map fun x=>toS [x])=toS w:=by
 intro w
 have e0:("":Str)=Str.empty:=by decide +kernel
 unfold Txt.join
 rw [StrLaws.glued_eq_join,e0]
 induction w with
 | nil=>rfl
 | cons x r ih =>
  cases r with
  | nil=>rfl
  | cons y r =>
   show toS [x]++Str.empty++Str.join Str.empty ((y::r).map fun x=>toS [x])=_
   rw [ih,Str.append_empty,f_]
   rfl
theorem uf (w:List L):((w.map fun x=>toS [x]).map (·.length)).sum=w.length:=by
 induction w with
 | nil=>rfl
 | cons x r ih =>
  simp only [Bv,List.sum_cons,BH]
  rw [ih,af]
  simp only [Dd]
  omega
theorem eO (w:List L):∀ (n:Nat) (acc:Array Nat),(List.replicate n (toS w).cps).foldl (· ++ ·) acc=acc++((rep n w).map cp).toArray
 | 0,acc=>by simp [rep]
 | n+1,acc=>by
  rw [List.replicate_succ,List.foldl_cons,eO w n]
  show _=acc++((rep n w++w).map cp).toArray
  rw [gL]
  simp [toS]
theorem nH:∀ n,rep n ([]:List L)=[]
 | 0=>rfl
 | n+1=>by show rep n []++[]=[];rw [nH n];rfl
theorem nI (w:List L)(n:Int):Txt.mul (toS w) n=toS (rep n.toNat w):=by
 unfold Txt.mul
 by_cases h1:n < 1
 ·rw [if_pos h1]
  have:n.toNat=0:=by omega
  rw [this]
  rfl
 ·rw [if_neg h1]
  split
  ·rename_i h
   rw [af] at h
   simp only [Bool.or_eq_true,FF] at h
   rcases h with h | h
   ·subst h
    show toS w=toS (rep 1 w)
    show toS w=toS ([]++w)
    rfl
   ·have:w=[]:=B6 h
    subst this
    rw [nH]
  ·apply Str.ext'
   show (List.replicate n.toNat (toS w).cps).foldl (· ++ ·) #[]=_
   rw [eO]
   simp [toS]
theorem iN (w:List L){n:Int}(h1:-1000000≤n)(h2:n≤1000)(hw:w.length≤10000):MulOk (toS w) n:=by
 refine ⟨?_,fun hn _=>?_,fun hn _=>?_⟩
 ·have e1:decide (n < -(2 ^ 63:Int))=false:=AZ (by omega)
  have e2:decide (n≥2 ^ 63)=false:=AZ (by omega)
  rw [e1,e2,FB]
 ·rw [af]
  have hn1:1≤n:=by omega
  have q:(9223372036854775:Int)≤(2 ^ 63 - 1) / n:=by
   rw [Int.le_ediv_iff_mul_le (by omega)]
   omega
  omega
 ·rw [af]
  unfold Builtin.Str.tooLong
  have e:sizeLine=16777216:=E5
  obtain ⟨k,rfl⟩:=Cb (show 0≤n by omega)
  have hk:k≤1000:=by omega
  rw [BR]
  have q:w.length*k≤10000*1000:=Nat.mul_le_mul hw hk
  exact AZ (by omega)
structure Fnc (P:Program) (w:World) (K:PySem.W.Frag) (mg:Str→Option Value) (base:Heap) (x:Str) (ps:List Str) (k:Nat) (sp:Sp):Prop where
 ex:∃ (f:Addr) (fd:FuncData),mg x=some (.ref f)∧PySem.W.keepIn K (.ref f)=true∧lI K fd ps []∧lH P w K mg base CX0 k f fd ps sp
theorem az {X:Cx}{x:Str}{ps:List Str}{k j:Nat}{sp:Sp}{e:Expr}{es:List Expr}{t:TA}{p pos:Pos}(F:Fnc X.prog X.w X.K X.mg X.base x ps j sp)(hr:fS k X.A)(hj:j≤k)(hg:Gl X x)(ha:PA X (e::es) t)
  (hdb:(x == ("__debug__":Str))=false:=by decide) (he:starEach (e::es) X.env=(false,eval e X.env)::starEach es X.env:=by rfl) (hpl:(backTo pos (starEach es X.env)).any (·.1)=false:=by rfl) :
  PE X (.Call (.Name x p) (e::es) [] pos) (v5 sp [] E0 t):=by
 obtain ⟨f,fd,hm,hk,hb,F⟩:=F.ex
 exact tO F (hr.mono hj) hg hm hk hb .nil yI ha hdb he hpl
structure Df (K:PySem.W.Frag) (mg:Str→Option Value) (x:Str) (st:Stmt):Prop where
 ex:∃ (f:Addr) (fd:FuncData),mg x=some (.ref f)∧Fun K x x st f fd
theorem Df.ok {P:Program}{w:World}{K:PySem.W.Frag}{mg:Str→Option Value}{base:Heap}{x:Str}{st:Stmt}{N ps:List Str}{k:Nat}{sp:Sp}(D:Df K mg x st)(S:aE N ps (ak st))
  (hb:∀ (kV doc pm:Value) (an:Option Addr) (Gz ct:Value) (us:List Value),us.length=ps.length→bindArgs (PySem.W.fnOf x x (b9 st) (bO st) (ak st) .none kV doc pm an Gz ct) ⟨us,[]⟩=pure (ps.zip us))
  (len:∀ vs H Q E,sp vs H Q E→vs.length=ps.length)
  (hbody:∀ (f:Addr) (Gz:Value) (A:Around) (outer:List Env) (s:Shared) (H:Hp) (vs:List V) (Q:VK) (E:XK),fS k (A.deeper (envOfC x (ak st) s.heap.objs.size f Gz))→sp vs H Q E →
   ∃ t,PSs (tP CX0 P w K mg base N x (ak st) f Gz A outer s H E).nox (bO st) t∧t { nx:=fun _ H'=>Q .non H',rt:=Q } (start N vs) H):Fnc P w K mg base x ps (k+1) sp:=by
 obtain ⟨f,fd,hm,F⟩:=D.ex
 exact ⟨f,fd,hm,F.kp,F.binds hb,F.ok S len fun Gz A outer s H vs Q E hr h=>hbody f Gz A outer s H vs Q E hr h⟩
def bp (d:Addr)(H H':Hp):Prop:=∀ b o,b≠d→H b=some o→H' b=some o
theorem bp.trans {d:Addr}{H H1 H2:Hp}(a:bp d H H1)(b:bp d H1 H2):bp d H H2:=fun c o n h=>b c o n (a c o n h)
theorem aD.b {d:Addr}{H H':Hp}(a:aD H H'):bp d H H':=fun b o _ h=>a b o h
theorem aD.new {H:Hp}{a:Addr}{o:HO}(h:H a=none):aD H (upd H a o):=fun b u e=>by rw [aW (aq e h)]; exact e
theorem bp.upd {d:Addr}{H:Hp}{o:HO}:bp d H (upd H d o):=fun b u n e=>by rw [aW n]; exact e
theorem aD.then {H H1:Hp}{a:Addr}{o:HO}(s:aD H H1)(h:H1 a=none):aD H (L2.upd H1 a o):=s.trans (aD.new h)
def kS (x:Str):Key:=.inr x
theorem ug {ns:List Int}(h:ns≠[])(i:Int):∃ n:Int,atI (ns.map V.int) (i % ((ns.map V.int).length:Int))=some (.int n):=by
 have hl:0 < ns.length:=BN.mpr h
 rw [AY]
 have h0:=BJ i (show (ns.length:Int)≠0 by omega)
 have h1:=Bz i (show (0:Int) < ns.length by omega)
 obtain ⟨k,hk⟩:=Cb h0
 rw [hk] at h1 ⊢
 have hk':k < ns.length:=by omega
 refine ⟨ns[k],?_⟩
 unfold atI ixN
 rw [if_pos (by omega),if_pos (by rw [AY];omega)]
 show (ns.map V.int)[((k:Nat):Int).toNat]? = _
 rw [BR,Bi,fu hk']
 rfl
mutual
inductive Dt (H:Hp):V→PyData→Prop where
 | non:Dt H .non .none
 | bl (b:Bool):Dt H (.bl b) (.bool b)
 | int (i:Int):Dt H (.int i) (.int i)
 | str (x:Str):Dt H (.str x) (.str x)
 | lst {a:Addr} {xs:List V} {ds:List PyData}:H a=some (.lst xs)→Dts H xs ds→Dt H (.ref a) (.list ds)
 | tup {a:Addr} {xs:List V} {ds:List PyData}:H a=some (.tup xs)→Dts H xs ds→Dt H (.ref a) (.tuple ds)
inductive Dts (H:Hp):List V→List PyData→Prop where
 | nil:Dts H [] []
 | cons {v:V} {d:PyData} {vs:List V} {ds:List PyData}:Dt H v d→Dts H vs ds→Dts H (v::vs) (d::ds)
end
section
variable {P:Program} {w:World} {H:Hp} {h:Heap}
mutual
theorem Dt.reads (ok:HOk P w H h):∀ {v:V} {d:PyData},Dt H v d→∀ {u:Value},bH v u→∃ as,Reads h u d as
 | _,_,.non,u,r=>by cases r;exact ⟨_,.none⟩
 | _,_,.bl b,u,r=>by cases r;exact ⟨_,.bool b⟩
 | _,_,.int i,u,r=>by obtain ⟨t,rfl⟩:=r;exact ⟨_,.int i t⟩
 | _,_,.str x,u,r=>by obtain ⟨t,rfl⟩:=r;exact ⟨_,.str x t⟩
 | _,_,.lst e q,u,r=>by
  cases r
  obtain ⟨_,Gp,n,rv,g⟩:=ok _ _ e
  obtain ⟨as,ra⟩:=Dts.reads ok q rv
  exact ⟨_,.list g rfl rfl (by simpa using ra)⟩
 | _,_,.tup e q,u,r=>by
  cases r
  obtain ⟨_,Gp,rv,⟨ob,g,c,n,d⟩,_⟩:=ok _ _ e
  obtain ⟨as,ra⟩:=Dts.reads ok q rv
  exact ⟨_,.tuple g c d (by simpa using ra)⟩
theorem Dts.reads (ok:HOk P w H h):∀ {vs:List V} {ds:List PyData},Dts H vs ds→∀ {us:List Value},bh vs us→∃ as,ReadsAll h us ds as
 | _,_,.nil,_,r=>by cases r;exact ⟨_,.nil⟩
 | _,_,.cons q qs,_,r=>by
  cases r with
  | cons r rs =>
   obtain ⟨as,a1⟩:=Dt.reads ok q r
   obtain ⟨bs,a2⟩:=Dts.reads ok qs rs
   exact ⟨_,.cons a1 a2⟩
end
end
structure Sh (d:PyData):Prop where
 sh:d.showable=true
 nd:d.hasDict=false
 dp:d.depth≤10
 sz:d.shown.length≤sizeLine
section
variable {X:Cx}
inductive cV  (xs:List V)(H:Hp)(Q:VK):Prop
 | mk:∀ a d,(xs=[.ref a])→(Dt H (.ref a) d)→(Sh d)→(Q (.str d.shown) H)→cV xs H Q
theorem bw (hg:X.A.guards=some [])(hu:X.A.units+64 < cLine):cL X (.builtin "repr") cV:=by
 intro Gn s σ H xs us Q I r h
 obtain ⟨a,d,rfl,q,S,hQ⟩:=h
 obtain ⟨u,rfl,ru⟩:=cM r
 cases ru
 obtain ⟨as,rd⟩:=q.reads I.hok (u:=.ref a) rfl
 refine repr_of_reads' rd S.sh (PyData.noDict_hsm S.nd) hg (by have:=S.dp;omega) (fun _ _ e=>e) (fun h' u tk hk=>?_) S.sz
 exact ⟨.str _,H,I.kept hk,⟨_,rfl⟩,hQ⟩
end
end L2
namespace Kx
open PySem PySem.Spec PyProof.Rows L2 Wd
theorem si:bootBuiltins "list" = some (.type "list"):=by kernel_rfl
theorem wA:bootBuiltins "max" = some (.builtin "max"):=by kernel_rfl
theorem gc:bootBuiltins "repr" = some (.builtin "repr"):=by kernel_rfl
theorem wB:bootBuiltins "min" = some (.builtin "min"):=by kernel_rfl
theorem gM:bootBuiltins "sorted" = some (.builtin "sorted"):=by kernel_rfl
theorem jl:bootBuiltins "tuple" = some (.type "tuple"):=by kernel_rfl
theorem lN:bootBuiltins "reversed" = some (.type "reversed"):=by kernel_rfl
structure Bt (K:PySem.W.Frag) (w:World) (mg:Str→Option Value) (aB:Addr):Prop where
 len:mg "len" = none
 repr:mg "repr" = none
 abs:mg "abs" = none
 max:mg "max" = none
 int:mg "int" = none
 list:mg "list" = none
 range:mg "range" = none
 reversed:mg "reversed" = none
 min:mg "min" = none
 sorted:mg "sorted" = none
 tuple:mg "tuple" = none
 isinstance:mg "isinstance" = none
 all:mg "all" = none
 str:mg "str" = none
 zip:mg "zip" = none
 mgB:mg "BACKS" = some (.ref aB)
 dB:DTx K w aB
 gB:∀ x:L,∃ t,PySem.W.nsIn K aB (toS [x])=some (some (.str (toS [inv x]) t))
theorem dp {H:Hp}{d:Addr}{Gq kvs':List (Key × V)}{k:Str}{v:V}(h:H d=some (.dK Gq))(hl:Gq.length < sizeLine)(e:eB Gq (kS k) v=kvs'):pY H d (.str k) v (upd H d (.dK kvs')):=by
 have q:=pY.k (k:=kS k) (v:=v) h hl
 rw [e] at q
 exact q
theorem yO {ns:List Int}(h:ns.length≤63):fk (ns.map V.int) none (some 63)=ns.map V.int:=by
 unfold fk
 have e:HT.sIx (ns.map V.int).length (ns.map V.int).length (some 63)=(ns.map V.int).length:=by
  have:=HT.fj (ns.map V.int).length (ns.map V.int).length 63
  rw [show ((63:Nat):Int)=63 from rfl] at this
  rw [this,AY]
  omega
 rw [e,HT.gs,Do,Ft,Ds]
def bx (w:List L):List V:=w.map fun x=>tx [x]
theorem cy (w:List L):bx w=(w.map fun x=>toS [x]).map V.str:=by unfold bx; rw [BZ]; rfl
theorem bV (w:List L)(x:L):bx w++[tx [x]]=bx (w++[x]):=by unfold bx; rw [BU]; rfl
theorem aH (w:List L):(bx w).length=w.length:=by unfold bx; rw [AY]
theorem bW (w:List L):V.str (Txt.join ("":Str) (w.map fun x=>toS [x]))=tx w:=Br V.str (qv w)
theorem bX (w:List L)(h:w.length≤1000000):((w.map fun x=>toS [x]).map (·.length)).sum+(w.map fun x=>toS [x]).length*("":Str).length≤16777216:=by
 have e:("":Str).length=0:=by decide +kernel
 rw [e,uf]
 omega
theorem ba:sizeLine=16777216:=E5
inductive lO (vs:List V)(H:Hp)(Q:VK)(GD:XK):Prop
 | mk:∀ w,(vs=[tx w])→(w.length≤5000)→(∀ H',aD H H'→Q (tx (bk w)) H')→lO vs H Q GD
theorem eP (u v:List L):V.str (toS u++toS v)=tx (u++v):=Br V.str (f_ u v)
def sg (m:Int):List L:=([0,1,2,3,4,5]:List L).take m.toNat++([6,7,8,9,10,11]:List L).take m.toNat
theorem nJ {m:Int}(h1:1≤m)(h2:m≤6):(sg m).length=2*m.toNat:=by
 unfold sg
 rw [A7,Bd,Bd]
 simp only [BH,Co]
 omega
theorem qw {m:Int}(h1:1≤m):V.str (Txt.slice ("abcdef":Str) none (some m)++Txt.slice ("ABCDEF":Str) none (some m))=tx (sg m):=by
 rw [← qt,← big,a_,a_,cU _ (by omega),cU _ (by omega),eP]
 rfl
theorem iO:("abcdef":Str).length=6:=by decide +kernel
theorem nK:("ABCDEF":Str).length=6:=by decide +kernel
theorem nM (u:List L){i:Nat}{y:L}(hi:i < u.length)(h:u[u.length - 1 - i]? = some y):(bk u)[i]? = some (inv y):=by
 unfold bk
 rw [Cs (by rw [AY];exact hi),AY,Bi,h]
 rfl
theorem cf {u:List L}{i:Nat}{x:L}(h:u[i]? = some x):u.take (i+1)=u.take i++[x]:=by
 obtain ⟨hl,e⟩:=A6.mp h
 rw [CY,h]
 rfl
theorem kq {c:Bool}{A B:Prop}(hc:c=true)(h:A):if c=true then A else B:=by rw [if_pos hc]; exact h
theorem kr {c:Bool}{A B:Prop}(hc:c=false)(h:B):if c=true then A else B:=by rw [hc]; exact vI h
theorem sm6:∀ j:Fin 6,([0,1,2,3,4,5]:List L)[j.val]? = some ⟨j.val,FH j.isLt (by decide)⟩:=by decide
end Kx
namespace L2
open PySem PySem.Spec PyProof.Rows Wd
section
variable {X:Cx} {tg:Expr}
inductive sj (x:V)(vs:List V)(H:Hp)(Q:VK):Prop
 | mk:∀ z y,(x = .str z)→(vs=[.str y])→(Q (.int (Txt.count z y)) H)→sj x vs H Q
theorem ku:MtR X "str.count" sj:=by
 intro Gn s σ H x vs v us Q I rx rv h
 obtain ⟨z,y,rfl,rfl,q⟩:=h
 obtain ⟨t,rfl⟩:=rx
 obtain ⟨u1,rfl,⟨t1,rfl⟩⟩:=cM rv
 exact SC.count ⟨.int _,H,I.tok _,⟨_,rfl⟩,q⟩
end
section
variable {X:Cx} {o e:Expr} {es:List Expr} {to:TE} {t:TA} {name:Str} {apos GE:Pos} {T id:String} {r:V→List V→Hp→VK→Prop} {K:PySem.W.Frag}
theorem nN (hK:X.K=K)(pa:PlainAttrs T)(slot:Slot T name id)(hty:typeOf (.builtin id)=pure (.type "method_descriptor"))(hm:MtR X id r)(ho:PE X o to)
  (GU:attributeBase o name X.env (eval o X.env)=eval o X.env:=by rfl) (GT:(apos.endLine == GE.line)=true:=by rfl):PE X (.Call (.Attribute o name apos) [] [] GE) (z_ K T r to):=by
 subst hK
 exact kg pa slot hty hm ho GU GT
theorem nO (hK:X.K=K)(pa:PlainAttrs T)(slot:Slot T name id)(hty:typeOf (.builtin id)=pure (.type "method_descriptor"))(hm:MtR X id r)(ho:PE X o to)(ha:PA X (e::es) t)
  (GU:attributeBase o name X.env (eval o X.env)=eval o X.env:=by rfl)
  (hfew:((backTo GE (starEach (e::es) X.env)).all (fun x=>!x.1) && (backToKw GE (keywordEach [] X.env)).all (fun x=>x.1.isSome)
   && decide ((e::es).length+([]:List Keyword).length+(if ([]:List Keyword).isEmpty then 0 else 1) < 30))=true:=by rfl)
  (GT:(apos.endLine == GE.line)=true:=by rfl) (hs:starEach (e::es) X.env=(false,eval e X.env)::starEach es X.env:=by rfl) (hplain:(backTo GE (starEach es X.env)).any (·.1)=false:=by rfl) :
  PE X (.Call (.Attribute o name apos) (e::es) [] GE) (tBM K T r to t):=by
 subst hK
 exact cu pa slot hty hm ho ha GU hfew GT hs hplain
end
theorem cW (s:Str)(c limit:Nat):∀ (n lo:Nat) (st:Array Nat × Nat),st.2≤lo→st.1.size+n≤limit→lo+n=s.length+1 →
  (forIn (List.range' lo n) st (StrLaws.occBody s ⟨#[c]⟩ s.length limit)).run.fst.size=st.1.size+(s.cps.toList.drop lo).count c
 | 0,lo,st,_,_,hl=>by
  have:s.cps.toList.drop lo=[]:=C9 (by simp [Str.length] at hl ⊢;omega)
  rw [this]
  rfl
 | n+1,lo,st,h1,h2,hl=>by
  rw [List.range'_succ,Fs]
  unfold StrLaws.occBody
  have key:=StrLaws.subAt_one s c lo
  by_cases hc:s.cps.toList[lo]? = some c
  ·obtain ⟨k1,k2⟩:=key.mpr hc
   rw [if_pos ⟨⟨⟨by omega,h1⟩,k1⟩,k2⟩]
   have ih:=cW s c limit n (lo+1) (st.1.push lo,lo+(⟨#[c]⟩:Str).length) (A8 _) (by rw [Array.size_push];omega) (by omega)
   obtain ⟨Gw,ev⟩:=A6.mp hc
   have ed:(s.cps.toList.drop lo).count c=(s.cps.toList.drop (lo+1)).count c+1:=by rw [BX Gw,ev,List.count_cons_self]
   rw [ed]
   refine Eq.trans ih ?_
   rw [Array.size_push]
   omega
  ·have hn:¬ ((((st.1.size < limit∧st.2≤lo)∧lo+(⟨#[c]⟩:Str).length≤s.length)∧Builtin.Str.subAt s ⟨#[c]⟩ lo=true)):=fun z=>hc (key.mp ⟨z.1.2,z.2⟩)
   rw [if_neg hn]
   have ih:=cW s c limit n (lo+1) (st.1,st.2) (by show st.2≤lo+1;omega) (by show st.1.size+n≤limit;omega) (by omega)
   have ed:(s.cps.toList.drop lo).count c=(s.cps.toList.drop (lo+1)).count c:=by
    by_cases Gw:lo < s.cps.toList.length
    ·have ne:¬ s.cps.toList[lo]=c:=fun e=>hc (by rw [fu Gw,e])
     rw [BX Gw,List.count_cons_of_ne ne]
    ·rw [C9 (by omega),C9 (by omega)]
   rw [ed]
   exact ih
theorem iP (w:List L)(x:L):Txt.count (toS w) (toS [x])=((w.count x:Nat):Int):=by
 unfold Txt.count
 have q:=cW (toS w) (cp x) ((toS w).length+1) ((toS w).length+1) 0 (#[],0) (A8 _) (by simp) (by omega)
 rw [show toS [x]=(⟨#[cp x]⟩:Str) from rfl,StrLaws.occ_eq]
 rw [A0,Ft,q,Do,bU]
 have:(w.map cp).count (cp x)=w.count x:=by
  clear q
  induction w with
  | nil=>rfl
  | cons y r ih =>
   rw [Bv,List.count_cons,List.count_cons,ih]
   by_cases e:y=x
   ·subst e;simp
   ·have e2:¬ cp y=cp x:=fun z=>e (se y x z)
    simp [e,e2]
 rw [this]
 simp
section
variable {X:Cx}
inductive sk (x:V)(vs:List V)(H:Hp)(Q:VK):Prop
 | mk:∀ z y i rest,(x = .str z)→(vs=[.str y])→(Builtin.Str.occurrences z y 0 z.length 1=i::rest)→(Q (.int (i:Nat)) H)→sk x vs H Q
theorem dR:MtR X "str.index" sk:=by
 intro Gn s σ H x vs v us Q I rx rv h
 obtain ⟨z,y,i,rest,rfl,rfl,ho,q⟩:=h
 obtain ⟨t,rfl⟩:=rx
 obtain ⟨u1,rfl,⟨t1,rfl⟩⟩:=cM rv
 exact SC.index ho ⟨.int _,H,I.tok _,⟨_,rfl⟩,q⟩
def jm (z:Str):List V:=z.cps.toList.map fun c=>.str ⟨#[c]⟩
theorem lP {z:Str}{acc:Array Value}(h:ItemsOf (SignAt z) acc z.cps.size):bh (jm z) acc.toList:=by
 have all:∀ (cs:List Nat) (us:List Value),cs.length=us.length→(∀ (j:Nat) (v:Value),us[j]? = some v→∃ c u,cs[j]? = some c∧v = .str ⟨#[c]⟩ u)→bh (cs.map fun c=>V.str ⟨#[c]⟩) us:=by
  intro cs
  induction cs with
  | nil =>
   intro us hl _
   cases us with
   | nil=>exact .nil
   | cons _ _=>simp at hl
  | cons c cs ih =>
   intro us hl hh
   cases us with
   | nil=>simp at hl
   | cons u us =>
    obtain ⟨c',t,e1,e2⟩:=hh 0 u rfl
    have:c=c':=A_ e1
    subst this
    exact .cons ⟨t,e2⟩ (ih us (by simpa using hl) fun j v hj=>hh (j+1) v (by simpa using hj))
 refine all _ _ (by rw [A0,A0];exact h.1.symm) fun j v hj=>?_
 obtain ⟨c,u,e1,e2⟩:=h.2 j v (by simpa using hj)
 exact ⟨c,u,by simpa using e1,e2⟩
inductive cg  (xs:List V)(H:Hp)(Q:VK):Prop
 | mk:∀ z,(xs=[.str z])→(z.length≤sizeLine)→(∀ p,H p=none→Q (.ref p) (upd H p (.lst (jm z))))→cg xs H Q
theorem fv (hc:X.calm=true):cL X (.type "list") cg:=by
 intro Gn s σ H xs us Q I r h
 obtain ⟨z,rfl,hz,q⟩:=h
 obtain ⟨u,rfl,t,rfl⟩:=cM r
 refine call_list_str (I.ok.hd hc) z t (fun h' tk acc' c' kp e hI=>?_) hz
 have hl:(jm z).length≤sizeLine:=by unfold jm;rw [AY,A0];exact hz
 exact ⟨.ref s.heap.objs.size,_,I.laid kp (A8 _) (show bT X.prog X.w _ h' _ (.lst (jm z)) from ⟨hl,acc'.toList,c',lP hI,by simpa using e⟩),rfl,q _ (I.hok.fresh (A8 _))⟩
end
end L2
namespace PySem
open Sem (wp)
section
variable {prog:Program} {w:World} {A:Around} {E:Value→Shared→Prop} {s:Shared} {z TI TO i1 i2:Addr} {x y:Str} {t u:Tok} {k c d:Nat} {a b:Value}
end
end PySem
namespace PySem
end PySem
namespace L2
open PySem PySem.Spec PyProof.Rows
section
variable {X:Cx}
end
end L2
namespace L2
open PySem PySem.Spec PyProof.Rows Wd
def nP:Expr→Bool
 | .Starred _ _=>false
 | _=>true
theorem uh {e:Expr}(h:nP e=true)(es:List Expr)(env:Env):starEach (e::es) env=(false,eval e env)::starEach es env:=by
 cases e <;> first | rfl | cases h
theorem p5 {X:Cx}{e:Expr}{es:List Expr}{te:TE}{t:TA}(ha:PE X e te)(hr:PA X es t)(h:nP e=true:=by rfl):PA X (e::es) (tL te t):=aa ha hr (uh h _ _)
def yP:List Str:=([0,1,2,3,4,5,6,7,8,9,10,11]:List L).map fun x=>toS [x]
end L2
namespace Kx
open PySem PySem.Spec PyProof.Rows L2 Wd
theorem asc (u:List L):(toS u).cps.all (· < 128)=true:=by
 rw [← Array.all_toList,bU,Dr]
 intro c hc
 obtain ⟨x,_,rfl⟩:=BD.mp hc
 exact Bg (ud x)
end Kx
namespace L2
open PySem PySem.Spec PyProof.Rows Wd
section
variable {X:Cx}
end
end L2
namespace Kx
open PySem PySem.Spec PyProof.Rows L2 Wd
theorem s12:toS [0,1,2,3,4,5,6,7,8,9,10,11]=("abcdefABCDEF":Str):=by decide +kernel
end Kx
namespace L2
open PySem PySem.Spec PyProof.Rows Wd
theorem qx {K:PySem.W.Frag}{a:Addr}{xs:List V}{own:List Str}{cap:List Nat}{g:TG}{ti:TT}{te:TE}{σ:St}{H:Hp}{Q:VK}(Pv:Nat→List V→St→Hp→Prop)(h0:Pv 0 [] (stB own cap σ) H)(hz:∀ i ys σ H,i≤xs.length→Pv i ys σ H→ys.length≤i)(hn:xs.length≤sizeLine)
  (hl:∀ i ys σ H,Pv i ys σ H→SqT K H a xs)
  (hs:∀ i ys σ H x (N:List V→St→Hp→Prop),xs[i]? = some x→Pv i ys σ H→(∀ ys' σ' H'',Pv (i+1) ys' σ' H''→N ys' σ' H'')→g x σ H fun σ2 H2=>ti σ2 H2 fun b H3=>if b=true then te σ2 H3 fun y H4=>N (ys++[y]) σ2 H4 else N ys σ2 H3)
  (hd:∀ ys σ H D,Pv xs.length ys σ H→H D=none→Q (.ref D) (upd H D (.lst ys))) :
  nv own cap g ti te Q σ (Itt K a) H:=by
 refine cw (J:=Itt K a) xs.length Pv h0 hz hn (fun i ys σ H hi p=>⟨xs,xs[i],hl i ys σ H p,fu hi⟩) (fun ys σ H p=>⟨xs,hl _ ys σ H p,A8 _⟩) ?_ hd
 rintro i ys σ H x H' N hi p ⟨rfl,hx⟩ hN
 exact hs i ys σ _ x N (hx xs (hl i ys σ _ p)) p hN
theorem nQ {K:PySem.W.Frag}{a:Addr}{xs:List V}{own:List Str}{cap:List Nat}{g:TG}{ti:TT}{te:TE}{σ:St}{H:Hp}{Q:VK}(Pv:Nat→List V→St→Hp→Prop)(h0:Pv 0 [] (stB own cap σ) H)(hz:∀ i ys σ H,i≤xs.length→Pv i ys σ H→ys.length≤i)(hn:xs.length≤sizeLine)
  (hl:∀ i ys σ H,Pv i ys σ H→SqL K H a xs)
  (hs:∀ i ys σ H x (N:List V→St→Hp→Prop),xs[i]? = some x→Pv i ys σ H→(∀ ys' σ' H'',Pv (i+1) ys' σ' H''→N ys' σ' H'')→g x σ H fun σ2 H2=>ti σ2 H2 fun b H3=>if b=true then te σ2 H3 fun y H4=>N (ys++[y]) σ2 H4 else N ys σ2 H3)
  (hd:∀ ys σ H D,Pv xs.length ys σ H→H D=none→Q (.ref D) (upd H D (.lst ys))) :
  nv own cap g ti te Q σ (Itl K a) H:=by
 refine cw (J:=Itl K a) xs.length Pv h0 hz hn (fun i ys σ H hi p=>⟨xs,xs[i],hl i ys σ H p,fu hi⟩) (fun ys σ H p=>⟨xs,hl _ ys σ H p,A8 _⟩) ?_ hd
 rintro i ys σ H x H' N hi p ⟨rfl,hx⟩ hN
 exact hs i ys σ _ x N (hx xs (hl i ys σ _ p)) p hN
theorem none_of {H H1:Hp}{a:Addr}(s:aD H H1)(h:H1 a=none):H a=none:=by
 cases e:H a with
 | none=>rfl
 | some o=>rw [s _ _ e] at h;cases h
end L2
namespace L2
open PySem PySem.Spec PyProof.Rows
theorem nR {X:Cx}{i:Nat}{y:Str}{py spos:Pos}{elt iter tg:Expr}{ifs:List Expr}{scope:Scope}{pos:Pos}{NB own:List Str}{cap:List Nat}{wi:TI}{g:TG}{ti:TT}{te:TE}(hN:X.N.Nodup)(hi0:X.N[i]? = some y)(hx:Loc X.env.scope y)(B:Blk X scope NB own cap)(hc:X.calm=true)(hi:PI X tg iter wi)
  (hg:∀ C fp s₀ H₀,PG (cxB X NB own scope C fp s₀ H₀) tg g) (ht:∀ C fp s₀ H₀,PIf (cxB X NB own scope C fp s₀ H₀) ifs ti) (he:∀ C fp s₀ H₀,PE (cxB X NB own scope C fp s₀ H₀) elt te)
  (hs:∀ x,foldedSetIterable iter X.env x=pure x:=by intro _;rfl) (hsw:swapsWith (.ListComp elt [⟨tg,iter,ifs,0⟩] scope pos) (some (.Name y py)) spos.line X.env=pure true:=by rfl) (hf:X.fn y=true ∨ X.env.scope.names.lookup y=some .local:=by first | exact .inl rfl | exact .inr rfl | assumption):PS X (.Assign [.Name y py] (.ListComp elt [⟨tg,iter,ifs,0⟩] scope pos) spos) (yp (ua own cap wi g ti te) (qa i)):=by
 intro Gn s σ H DD I0 h
 rw [exec_Assign_Name_used _ _ _ _ hsw]
 refine AX (wpAny_standAt (AX ?_))
 show wpAny _ X.A (do let _ ← comprehension (.ListComp elt [⟨tg,iter,ifs,0⟩] scope pos) scope X.env _ (newList []) false (eval iter X.env) (some (assign (.Name y py) X.env))) _ _ s
 refine AX (CH (km (use:=some (assign (.Name y py) X.env)) (QQ:=fun _ s'=>SP X Gn DD .next s') (pos:=pos) B hc hi hg ht he hs I0 h fun fp C s2 s4 H2 H3 σ3 Gp ys k I f2 GP hDC I5 hn3 hD4 rv hz q=>?_) (fun _ s' hq=>A4 (A4 hq)) fun _ _ e=>e)
 obtain ⟨mC,hnC,_⟩:=I5.loc
 have I6:Inv X Gn σ (upd H3 s2.heap.objs.size (.lst ys)) s4:=B.done (h'':=s4.heap) I f2 GP (A8 _) hDC I5 hn3 hD4 rv hz ⟨rfl,fun _ _=>rfl⟩
 obtain ⟨oC,es,ep,hoC,hdC,rC⟩:=hnC
 have hCn:(upd H3 s2.heap.objs.size (.lst ys)) C=none:=by rw [aW hDC.symm];exact I5.free
 have nL:C≠X.env.locals:=fun z=>absurd I.lt (by rw [← z];exact Nat.not_lt.mpr GP)
 have I7:Inv X (Gn++[(C,oC)]) σ (upd H3 s2.heap.objs.size (.lst ys)) s4:=I6.pins_of fun p hp=>by
  rcases Bo.mp hp with z | z
  ·exact I6.pin p (Bk _ z)
  ·have ep:=A2.mp z
   subst ep
   exact ⟨hoC,hCn,nL,I.nofs GP,fun v z=>by rw [hdC] at z;cases z⟩
 refine thn (aY (pos:=py) hN hi0 hx hf (Gn++[(C,oC)]) s4 σ _ (.ref s2.heap.objs.size) (.ref s2.heap.objs.size) (fun σ' H'=>DD.nx σ' H'∧H'=upd H3 s2.heap.objs.size (.lst ys)) I7 rfl ⟨q,rfl⟩) fun _ s5 zq2=>?_
 obtain ⟨σ5,H5,I8,q5,e5⟩:=zq2
 subst e5
 have pC:=(I8.pin (C,oC) (Bk _ (Bk _ (A2.mpr rfl)))).1
 refine ⟨mC,⟨oC,es,ep,pC,hdC,rC⟩,fun h'' sb=>⟨σ5,_,?_,q5⟩⟩
 have I9:Inv X Gn σ5 (upd H3 s2.heap.objs.size (.lst ys)) s5:=I8.pins_of fun p hp=>I8.pin p (Bk _ (BB _ hp))
 refine I9.turned (t':=s5.toks) (it:=C) (fun b o hb e=>(sb.2 b hb).trans e) hCn nL (.inr (BQ I.sz GP)) (fun x c e z=>?_) fun p hp z=>?_
 ·obtain ⟨v,o,ho,_⟩:=I.cell x c e
  exact absurd (Bl ho) (by rw [z];exact Nat.not_lt.mpr GP)
 ·exact absurd (Bl (I.pin p hp).1) (by rw [z];exact Nat.not_lt.mpr GP)
end L2
namespace L2
open PySem PySem.Spec PyProof.Rows Wd
section
variable {X:Cx}
inductive nS (x:V)(vs:List V)(H:Hp)(Q:VK):Prop
 | mk:∀ l xs i y,(x = .ref l)→(vs=[.int i,y])→(H l=some (.lst xs))→(0≤i)→(i≤xs.length)→(xs.length < sizeLine)→(Q .non (upd H l (.lst (xs.take i.toNat++y::xs.drop i.toNat))))→nS x vs H Q
theorem nT:MtM X "list.insert" nS:=by
 intro Gn s σ H x vs v us Q I rx rv h
 obtain ⟨l,xs,i,y,rfl,rfl,hH,h0,h1,hz,q⟩:=h
 cases rx
 obtain ⟨u1,u2,rfl,⟨t1,rfl⟩,r2⟩:=tK rv
 obtain ⟨z,Gp,n,r,hl,e⟩:=I.lstM hH
 have hn:=dN
 have hfit:Builtin.List.listFitsIndex i=true:=by
  unfold Builtin.List.listFitsIndex
  rw [B9,CZ,CZ]
  constructor <;> omega
 refine EU EV ⟨_,e,rfl⟩ PySem.F.entry_list_insert (PySem.F.args_list_insert_3 _ _ _) (PySem.AutoSeq1.list_insert_list_int_val_1 l Gp.toArray n i t1 u2 (by simp [hfit]) (by rw [Be];omega)) ⟨e,?_⟩
 refine ⟨.non,_,I.lset (its':=Gp.take i.toNat++u2::Gp.drop i.toNat) hH e ?_ ((r.take _).append (.cons r2 (r.drop _))) ?_,rfl,q⟩
 ·have hm:min i.toNat Gp.length=i.toNat:=by omega
  simp only [Be,if_neg (show ¬ i < 0 by omega),hm]
  apply Fh.mp
  simp
  exact By (by rw [BS];exact A8 _)
 ·rw [A7,BH,Bd,BS]
  omega
def wC (z:Str):Str:=Txt.sliceBy z none none (-1,0)
def yQ (te ts:TE):TE:=fun σ H Q=>te σ H fun x H1=>ts σ H1 fun k H2=>∃ z,x = .str z∧k = .int (-1)∧z.length≤sizeLine∧Q (.str (wC z)) H2
theorem jo {e st:Expr}{te ts:TE}{pos p2:Pos}(he:PE X e te)(hs:PE X st ts):PE X (.Subscript e (.Slice none none (some st) p2) pos) (yQ te ts):=by
 intro Gn s σ H Q I h
 refine ES (thn (he Gn s σ H _ I h) fun v s1 zq1=>?_)
 obtain ⟨x,H1,I1,r1,q1⟩:=zq1
 refine wpAny_Slice ?_
 rw [E6]
 refine A4 ?_
 refine A4 ?_
 rw [evalPart_some]
 refine thn (hs Gn s1 σ H1 _ I1 q1) fun vs s3 zq2=>?_
 obtain ⟨k,H3,I3,r3,z,ez,ek,hz,q3⟩:=zq2
 subst ez ek
 obtain ⟨t,rfl⟩:=r1
 obtain ⟨tk,rfl⟩:=r3
 have I4:Inv X Gn σ H3 { s3 with heap:=s3.heap.push { cls:=.type "slice",data:=.fields #[.none,.none,.int (-1) tk] } }:=I3.kept (t':=s3.toks) fun b ob q=>A3 _ q
 show wpAny (model X.prog X.w) X.A (subscriptTail e (.Slice none none (some st) p2) (.str z t) (.ref s3.heap.objs.size)) (EP X Gn σ Q) X.xe { s3 with heap:=s3.heap.push { cls:=.type "slice",data:=.fields #[.none,.none,.int (-1) tk] } }
 refine tail_any (ops:=[.ref s3.heap.objs.size,.str z t]) (Eh _ _ _) F.slot_str_getitem.lookup ?_ (by with_unfolding_all rfl)
 exact CB (l:=none) (u:=none) (st:=some (-1,tk)) ⟨_,Bh _ rfl,rfl,rfl⟩ rfl (DG ⟨BQ (Txt.sliceBy_le z none none (-1,tk) (by show (-1:Int)≠0;decide)) hz,fun t' k=>⟨.str _,H3,I4.tok _,⟨_,rfl⟩,q3⟩⟩)
theorem gN (u:List L):wC (toS u)=toS u.reverse:=by
 have h:(wC (toS u)).cps.toList=(toS u.reverse).cps.toList:=by
  unfold wC
  rw [step_rev_list,bU,af]
  apply EW
  intro i
  rw [Bi]
  by_cases hi:i < u.length
  ·rw [List.getElem?_range hi,Bi,Cs hi]
   have e:(toS u).cps.getD (u.length - 1 - i) 0=cp u[u.length - 1 - i]:=by
    simp [toS,Array.getD,show u.length - 1 - i < u.length by omega]
   rw [fu (show u.length - 1 - i < u.length by omega)]
   exact Br some e
  ·rw [Ct (by simpa using hi),Ct (by simp;omega)]
   rfl
 cases hr:wC (toS u) with
 | mk c=>
  rw [hr] at h
  have:c=(toS u.reverse).cps:=Fh.mp h
  rw [this]
end
end L2
namespace L2
open PySem PySem.Spec PyProof.Rows
section
variable {X:Cx}
theorem de {i j:Int}{Gp:List Value}(r:bh [.int i,.int j] Gp):∃ t u,Gp=[.int i t,.int j u]:=by
 obtain ⟨u1,u2,rfl,⟨t1,rfl⟩,⟨t2,rfl⟩⟩:=tK r
 exact ⟨t1,t2,rfl⟩
def nAt (i j:Int)(k:Nat):Int:=if k=0 then i else j
inductive dS (K:PySem.W.Frag)(xs:List V)(H:Hp)(Q:VK):Prop
 | mk:∀ p i j,(xs=[.ref p])→(SqT K H p [.int i,.int j])→(Q (.int (if j < i then j else i)) H)→dS K xs H Q
theorem jq (hc:X.calm=true):cL X (.builtin "min") (dS X.K):=by
 intro Gn s σ H xs us Q I r h
 obtain ⟨p,i,j,rfl,hq,q⟩:=h
 obtain ⟨u,rfl,ru⟩:=cM r
 cases ru
 obtain ⟨Gp,rv,ht,_⟩:=I.tuple hq
 obtain ⟨t,u,rfl⟩:=de rv
 have Gw:p < s.heap.objs.size:=by obtain ⟨_,e,_⟩:=ht;exact Bl e
 refine call_min_walk (Ez ht ?_)
 refine ⟨_,_,_,_,_,_,fun a b=>decide (nAt i j a < nAt i j b),rfl,Walks.tuple (A:=X.A.in1) (I.ok.hd hc) _ p (BP Gw) _,⟨⟨_,Bh _ rfl,rfl,rfl⟩,ht.push _⟩,fun b hb=>?_,?_,?_,fun v h' tk hP hk=>?_⟩
 ·show b < (s.heap.push _).objs.size
  rw [Dn]
  rcases Bm.mp hb with e | hb
  ·rw [e];exact CM _
  ·rw [A2.mp hb];exact Dl Gw
 ·exact D6 1
 ·refine CmpOf.ints_lt (nAt i j) fun a v hv=>?_
  match a,hv with
  | 0,hv=>exact ⟨t,(A_ hv).symm⟩
  | 1,hv=>exact ⟨u,(A_ hv).symm⟩
  | (a+2),hv=>simp at hv
 ·have old:∀ b o,s.heap.get? b=some o→h'.get? b=some o:=fun b o e=>hk b o (fun z=>by rw [A2.mp z] at e;exact absurd (Bl e) (B_ _)) (A3 _ e)
  have hP:[Value.int i t,Value.int j u].toArray[if decide (j < i)=true then 1 else 0]? = some v:=hP
  by_cases h:j < i
  ·rw [if_pos (Bg h)] at hP
   rw [if_pos h] at q
   exact ⟨.int j,H,I.kept old,⟨u,(A_ hP).symm⟩,q⟩
  ·rw [AZ h] at hP
   rw [if_neg h] at q
   exact ⟨.int i,H,I.kept old,⟨t,(A_ hP).symm⟩,q⟩
inductive dU (K:PySem.W.Frag)(xs:List V)(H:Hp)(Q:VK):Prop
 | mk:∀ p i j,(xs=[.ref p])→(SqT K H p [.int i,.int j])→(Q (.int (if j > i then j else i)) H)→dU K xs H Q
theorem jr (hc:X.calm=true):cL X (.builtin "max") (dU X.K):=by
 intro Gn s σ H xs us Q I r h
 obtain ⟨p,i,j,rfl,hq,q⟩:=h
 obtain ⟨u,rfl,ru⟩:=cM r
 cases ru
 obtain ⟨Gp,rv,ht,_⟩:=I.tuple hq
 obtain ⟨t,u,rfl⟩:=de rv
 have Gw:p < s.heap.objs.size:=by obtain ⟨_,e,_⟩:=ht;exact Bl e
 refine call_max_walk (Ez ht ?_)
 refine ⟨_,_,_,_,_,_,fun a b=>decide (nAt i j a > nAt i j b),rfl,Walks.tuple (A:=X.A.in1) (I.ok.hd hc) _ p (BP Gw) _,⟨⟨_,Bh _ rfl,rfl,rfl⟩,ht.push _⟩,fun b hb=>?_,?_,?_,fun v h' tk hP hk=>?_⟩
 ·show b < (s.heap.push _).objs.size
  rw [Dn]
  rcases Bm.mp hb with e | hb
  ·rw [e];exact CM _
  ·rw [A2.mp hb];exact Dl Gw
 ·exact D6 1
 ·refine CmpOf.ints_gt (nAt i j) fun a v hv=>?_
  match a,hv with
  | 0,hv=>exact ⟨t,(A_ hv).symm⟩
  | 1,hv=>exact ⟨u,(A_ hv).symm⟩
  | (a+2),hv=>simp at hv
 ·have old:∀ b o,s.heap.get? b=some o→h'.get? b=some o:=fun b o e=>hk b o (fun z=>by rw [A2.mp z] at e;exact absurd (Bl e) (B_ _)) (A3 _ e)
  have hP:[Value.int i t,Value.int j u].toArray[if decide (j > i)=true then 1 else 0]? = some v:=hP
  by_cases h:j > i
  ·rw [if_pos (Bg h)] at hP
   rw [if_pos h] at q
   exact ⟨.int j,H,I.kept old,⟨u,(A_ hP).symm⟩,q⟩
  ·rw [AZ h] at hP
   rw [if_neg h] at q
   exact ⟨.int i,H,I.kept old,⟨t,(A_ hP).symm⟩,q⟩
end
end L2
namespace Wd
structure Srf (u:List L):Prop where
 ne:u≠[]
 nd:u.Nodup
 iv:∀ x∈u,inv x∈u
 le:u.length≤12
def fam (k:Nat):List L:=(List.range k).flatMap fun j=>if h:j < 6 then [⟨j,by omega⟩,⟨j+6,by omega⟩] else []
theorem iQ:∀ k:Fin 7,(fam k.val).Nodup∧(∀ x∈fam k.val,inv x∈fam k.val)∧(fam k.val).length=2*k.val:=by decide
theorem qy {k:Nat}(h:k < 6):fam (k+1)=fam k++[⟨k,by omega⟩,⟨k+6,by omega⟩]:=by
 unfold fam
 rw [DK,Dx]
 simp [h]
theorem wD {k:Nat}{u:List L}(h1:1≤k)(h6:k≤6)(p:u.Perm (fam k)):Srf u:=by
 obtain ⟨a,b,c⟩:=iQ ⟨k,by omega⟩
 have hl:=p.length_eq
 have c:(fam k).length=2*k:=c
 refine ⟨fun e=>?_,(p.nodup_iff).mpr a,fun x hx=>p.mem_iff.mpr (b x (p.mem_iff.mp hx)),by omega⟩
 subst e
 rw [c] at hl
 simp at hl
 omega
theorem qz {u v:List L}(x:L)(i:Nat)(p:u.Perm v):(u.take i++x::u.drop i).Perm (v++[x]):=by
 refine List.perm_middle.trans ?_
 rw [Bu]
 exact ((List.Perm.cons x p).trans (List.perm_append_singleton x v).symm)
end Wd
namespace Kx
open PySem PySem.Spec PyProof.Rows L2 Wd
theorem nU (u:List L)(x:L)(i:Nat):StrLaws.At (toS u) (toS [x]) (toS u).length i ↔ u[i]? = some x:=by
 unfold StrLaws.At
 rw [af,af,StrLaws.subAt_eq,af,bU,bU,FF,← List.map_drop,← List.map_take]
 simp only [Dd]
 constructor
 ·rintro ⟨h1,h2⟩
  have h2:=eF h2
  have:(u.drop i).take 1=[u[i]]:=by rw [BX (by omega)];rfl
  rw [this] at h2
  rw [fu (by omega)]
  exact Br some (CO h2).1
 ·intro h
  obtain ⟨hl,e⟩:=A6.mp h
  refine ⟨by omega,?_⟩
  rw [BX hl,e]
  rfl
theorem iR {u:List L}{x:L}(h:x∈u):∃ rest,Builtin.Str.occurrences (toS u) (toS [x]) 0 (toS u).length 1=u.idxOf x::rest:=by
 have Gw:=Dh h
 have hx:u[u.idxOf x]? = some x:=by rw [fu Gw];exact Br some (DM Gw)
 rcases StrLaws.occ_head (toS u) (toS [x]) 1 (A8 1) with ⟨h0,hn⟩ | ⟨i,r,h0,hi,hn⟩
 ·exact absurd ((nU u x _).mpr hx) (hn _)
 ·refine ⟨r,?_⟩
  rw [h0]
  have hi:=(nU u x i).mp hi
  have:i=u.idxOf x:=by
   rcases Nat.lt_trichotomy i (u.idxOf x) with h1 | h1 | h1
   ·have q:=List.not_of_lt_findIdx (p:=(· == x)) h1
    obtain ⟨hl,e⟩:=A6.mp hi
    exact absurd (FF.mpr e) (by simpa using q)
   ·exact h1
   ·exact absurd ((nU u x _).mpr hx) (hn _ h1)
  rw [this]
theorem wF (x:L):(!(Builtin.Str.occurrences ("ABCDEF":Str) (toS [x]) 0 ("ABCDEF":Str).length 1).isEmpty)=decide (¬ x.val < 6):=by
 have q:∀ x:L,decide (cp x∈("ABCDEF":Str).cps.toList)=decide (¬ x.val < 6):=by decide +kernel
 have h:=StrLaws.found_one ("ABCDEF":Str) (cp x)
 rw [q] at h
 exact h
structure Tp (H:Hp) (d c:Addr):Prop where
 ex:∃ (i l t:Int) (ns:List Int),H d=some (.lst [.ref c,.int i,.int l,.int t])∧H c=some (.lst (ns.map V.int))∧c≠d∧ns.length≤63
theorem Tp.same {H H':Hp}{d c:Addr}(F:Tp H d c)(s:aD H H'):Tp H' d c:=by
 obtain ⟨i,l,t,ns,h1,h2,h3,h4⟩:=F.ex
 exact ⟨i,l,t,ns,s _ _ h1,s _ _ h2,h3,h4⟩
theorem Tp.new {H:Hp}{d c a:Addr}{o:HO}(F:Tp H d c)(h:H a=none):Tp (upd H a o) d c:=F.same (aD.new h)
theorem Tp.ne {H:Hp}{d c a:Addr}(F:Tp H d c)(h:H a=none):a≠d:=by
 obtain ⟨i,l,t,ns,h1,h2,h3,h4⟩:=F.ex
 exact (aq h1 h).symm
theorem Tp.nec {H:Hp}{d c a:Addr}(F:Tp H d c)(h:H a=none):a≠c:=by
 obtain ⟨i,l,t,ns,h1,h2,h3,h4⟩:=F.ex
 exact (aq h2 h).symm
theorem Tp.but {H H':Hp}{d c a:Addr}(F:Tp H d c)(h1:a≠d)(h2:a≠c)(s:bp a H H'):Tp H' d c:=by
 obtain ⟨i,l,t,ns,g1,g2,g3,g4⟩:=F.ex
 exact ⟨i,l,t,ns,s _ _ h1.symm g1,s _ _ h2.symm g2,g3,g4⟩
theorem none_of {H H':Hp}{a:Addr}(s:aD H H')(h:H' a=none):H a=none:=by
 cases e:H a with
 | none=>rfl
 | some o=>exact absurd (s _ _ e) (by rw [h];intro z;cases z)
inductive cC (vs:List V)(H:Hp)(Q:VK)(GD:XK):Prop
 | mk:∀ (d c:Addr) (m:Int),(vs=[.ref d,.int m])→(Tp H d c)→(0 < m)→(m < 1000000)→(∀ (r:Int) (H':Hp),0≤r→r < m→Tp H' d c→bp d H H'→Q (.int r) H')→cC vs H Q GD
inductive nV (K:PySem.W.Frag)(vs:List V)(H:Hp)(Q:VK)(GD:XK):Prop
 | mk:∀ (a:Addr) (ns:List Int),(vs=[.ref a])→(SqL K H a (ns.map V.int))→(ns.length≤63)→(∀ (d c:Addr) (H':Hp),H d=none→H c=none→Tp H' d c→aD H H'→Q (.ref d) H')→nV K vs H Q GD
theorem bg6:∀ j:Fin 6,([6,7,8,9,10,11]:List L)[j.val]? = some ⟨j.val+6,by omega⟩:=by decide
theorem sm_at {i:Nat}(h:i < 6):atI ("abcdef":Str).cps.toList (i:Int)=some (cp ⟨i,by omega⟩):=by
 rw [← qt]
 exact cT (k:=i) rfl (sm6 ⟨i,h⟩)
theorem yR {i:Nat}(h:i < 6):atI ("ABCDEF":Str).cps.toList (i:Int)=some (cp ⟨i+6,by omega⟩):=by
 rw [← big]
 exact cT (k:=i) rfl (bg6 ⟨i,h⟩)
theorem qB (W:List L)(x:L)(n:Nat):(bx W).take n++tx [x]::(bx W).drop n=bx (W.take n++x::W.drop n):=by
 unfold bx
 simp
end Kx
namespace Wd
def rot (w:List L)(p:Nat):List L:=w.drop p++w.take p
theorem nX {w:List L}{p i:Nat}(hp:p≤w.length)(hi:i < w.length):(rot w p)[i]? = w[(i+p) % w.length]?:=by
 unfold rot
 by_cases h:i < w.length - p
 ·rw [BL (by rw [BS];exact h),BV,CN (by omega),FI]
 ·rw [Bp (by rw [BS];omega),BS,B0 (by omega)]
  have:(i+p) % w.length=i - (w.length - p):=by
   rw [Nat.mod_eq_sub_mod (by omega),CN (by omega)]
   omega
  rw [this]
structure SK (u:List L) (k:Nat):Prop where
 pm:u.Perm (fam k)
 lo:1≤k
 hi:k≤6
theorem SK.srf {u:List L}{k:Nat}(h:SK u k):Srf u:=wD h.lo h.hi h.pm
theorem nY {k:Nat}(h:k≤6):(fam k).length=2*k:=(iQ ⟨k,by omega⟩).2.2
theorem SK.len {u:List L}{k:Nat}(h:SK u k):u.length=2*k:=by rw [h.pm.length_eq,nY h.hi]
theorem n9:∀ (k:Fin 7) (x:L),x∈fam k.val ↔ x.val % 6 < k.val:=by decide
theorem SK.mem {u:List L}{k:Nat}(h:SK u k)(x:L):x∈u ↔ x.val % 6 < k:=by
 rw [h.pm.mem_iff]
 exact n9 ⟨k,by have:=h.hi;omega⟩ x
theorem gO:∀ x:L,(inv x).val % 6=x.val % 6:=by decide
theorem SK.rev {u:List L}{k:Nat}(h:SK u k):SK u.reverse k:=⟨(List.reverse_perm u).trans h.pm,h.lo,h.hi⟩
theorem dg (u:List L)(p:Nat):(rot u p).Perm u:=by
 unfold rot
 refine B8.trans ?_
 rw [Bu]
theorem SK.rot {u:List L}{k:Nat}(h:SK u k)(p:Nat):SK (rot u p) k:=⟨(dg u p).trans h.pm,h.lo,h.hi⟩
theorem eG {u:List L}(nd:u.Nodup){i:Nat}{x:L}(h:u[i]? = some x):u.idxOf x=i:=by
 obtain ⟨hi,e⟩:=A6.mp h
 subst e
 exact List.Nodup.idxOf_getElem nd i hi
theorem fw {u:List L}{x:L}(h:x∈u):u[u.idxOf x]? = some x:=by
 have Gw:=Dh h
 rw [fu Gw]
 exact Br some (DM Gw)
theorem aX {u:List L}{x:L}(h:x∈u):u.idxOf x < u.length:=Dh h
theorem bY {u:List L}{x y:L}(hx:x∈u)(hy:y∈u)(h:u.idxOf x=u.idxOf y):x=y:=by
 have h1:=fw hx
 have h2:=fw hy
 rw [h,h2] at h1
 exact (A_ h1).symm
def rfI (u:List L)(a b:L):Int:=((u.idxOf b:Int) - (u.idxOf a:Int)) % (u.length:Int)
theorem gP {n a b:Nat}(ha:a < n)(hb:b < n):((b:Int) - (a:Int)) % (n:Int)=if a≤b then (b:Int) - a else (b:Int) - a+n:=by
 split
 ·exact B7 (by omega) (by omega)
 ·have:(b:Int) - a=((b:Int) - a+n)+(n:Int)*(-1):=by omega
  rw [this,Ew,B7 (by omega) (by omega)]
  omega
theorem aQ {u:List L}{a b:L}(ha:a∈u)(hb:b∈u):rfI u a b=if u.idxOf a≤u.idxOf b then (u.idxOf b:Int) - (u.idxOf a:Int) else (u.idxOf b:Int) - (u.idxOf a:Int)+(u.length:Int):=gP (aX ha) (aX hb)
def ic (u:List L)(x z:L):Int:=if rfI u x z < rfI u x (inv x) then 1 else 0
def sd (u:List L)(x y:L):Int:=ic u x y - ic u x (inv y)
structure qC (u:List L) (x y:L):Prop where
 mx:x∈u
 mX:inv x∈u
 my:y∈u
 mY:inv y∈u
 n1:u.idxOf x≠u.idxOf (inv x)
 n2:u.idxOf x≠u.idxOf y
 n3:u.idxOf x≠u.idxOf (inv y)
 n4:u.idxOf (inv x)≠u.idxOf y
 n5:u.idxOf (inv x)≠u.idxOf (inv y)
 n6:u.idxOf y≠u.idxOf (inv y)
theorem js {u:List L}(U:Srf u){x y:L}(hx:x∈u)(hy:y∈u)(h1:x≠y)(h2:x≠inv y):qC u x y:=by
 have hX:=U.iv x hx
 have hY:=U.iv y hy
 refine ⟨hx,hX,hy,hY,fun e=>fY x (bY hx hX e).symm,fun e=>h1 (bY hx hy e),fun e=>h2 (bY hx hY e),fun e=>h2 ?_,fun e=>h1 ?_,fun e=>fY y (bY hy hY e).symm⟩
 ·rw [← bY hX hy e,aP]
 ·have:=Br inv (bY hX hY e)
  rw [aP,aP] at this
  exact this
theorem qC.swap {u:List L}{x y:L}(F:qC u x y):qC u y x:=⟨F.my,F.mY,F.mx,F.mX,F.n6,F.n2.symm,F.n4.symm,F.n3.symm,F.n5.symm,F.n1⟩
theorem gQ {u:List L}{x y:L}(F:qC u x y):sd u y x = - sd u x y:=by
 have a1:=aX F.mx
 have a2:=aX F.mX
 have a3:=aX F.my
 have a4:=aX F.mY
 have n1:=F.n1;have n2:=F.n2;have n3:=F.n3;have n4:=F.n4;have n5:=F.n5;have n6:=F.n6
 unfold sd ic
 rw [aQ F.mx F.my,aQ F.mx F.mX,aQ F.mx F.mY,aQ F.my F.mx,aQ F.my F.mY,aQ F.my F.mX]
 generalize u.idxOf x=a at *
 generalize u.idxOf (inv x)=b at *
 generalize u.idxOf y=c at *
 generalize u.idxOf (inv y)=d at *
 generalize u.length=n at *
 grind
theorem dD {u:List L}(nd:u.Nodup){x:L}(h:x∈u):u.reverse.idxOf x=u.length - 1 - u.idxOf x:=by
 have Gw:=aX h
 refine eG ((List.reverse_perm u).nodup_iff.mpr nd) ?_
 rw [Cs (by omega)]
 have e:u.length - 1 - (u.length - 1 - u.idxOf x)=u.idxOf x:=by omega
 rw [e]
 exact fw h
theorem wG {u:List L}(U:Srf u){x y:L}(F:qC u x y):sd u.reverse x y = - sd u x y:=by
 have a1:=aX F.mx
 have a2:=aX F.mX
 have a3:=aX F.my
 have a4:=aX F.mY
 have n1:=F.n1;have n2:=F.n2;have n3:=F.n3;have n4:=F.n4;have n5:=F.n5;have n6:=F.n6
 have m:∀ z,z∈u→z∈u.reverse:=fun z h=>D9.mpr h
 unfold sd ic
 rw [aQ F.mx F.my,aQ F.mx F.mX,aQ F.mx F.mY,aQ (m _ F.mx) (m _ F.my),aQ (m _ F.mx) (m _ F.mX),aQ (m _ F.mx) (m _ F.mY)]
 rw [dD U.nd F.mx,dD U.nd F.mX,dD U.nd F.my,dD U.nd F.mY,B5]
 generalize u.idxOf x=a at *
 generalize u.idxOf (inv x)=b at *
 generalize u.idxOf y=c at *
 generalize u.idxOf (inv y)=d at *
 generalize u.length=n at *
 grind
theorem n_ {u:List L}(nd:u.Nodup){p:Nat}(hp:p < u.length){x:L}(h:x∈u):((rot u p).idxOf x:Int)=((u.idxOf x:Int) - (p:Int)) % (u.length:Int):=by
 have Gw:=aX h
 have hlen:(rot u p).length=u.length:=(dg u p).length_eq
 rw [gP hp Gw]
 have key:∀ j:Nat,j < u.length→(j+p) % u.length=u.idxOf x→(rot u p).idxOf x=j:=fun j hj e=>by
  refine eG ((dg u p).nodup_iff.mpr nd) ?_
  rw [nX (by omega) hj,e]
  exact fw h
 split
 ·rename_i hle
  have:=key (u.idxOf x - p) (by omega) (by rw [Nat.sub_add_cancel hle];exact CN Gw)
  omega
 ·rename_i hle
  have:=key (u.idxOf x+u.length - p) (by omega) (by
   have e:u.idxOf x+u.length - p+p=u.idxOf x+u.length:=by omega
   rw [e,Nat.add_mod_right]
   exact CN Gw)
  omega
theorem sq {u:List L}(nd:u.Nodup){p:Nat}(hp:p < u.length){x y:L}(hx:x∈u)(hy:y∈u):rfI (rot u p) x y=rfI u x y:=by
 have hlen:(rot u p).length=u.length:=(dg u p).length_eq
 have m:∀ z,z∈u→z∈rot u p:=fun z h=>(dg u p).mem_iff.mpr h
 have b1:=aX hx
 have b2:=aX hy
 have e1:=n_ nd hp hx
 have e2:=n_ nd hp hy
 rw [gP hp b1] at e1
 rw [gP hp b2] at e2
 rw [aQ hx hy,aQ (m _ hx) (m _ hy),hlen]
 generalize (rot u p).idxOf x=a at *
 generalize (rot u p).idxOf y=b at *
 generalize u.idxOf x=c at *
 generalize u.idxOf y=d at *
 generalize u.length=n at *
 grind
def psd (u:List L)(x y:L):Int :=
 if (decide (min (u.idxOf x) (u.idxOf (inv x)) < u.idxOf y∧u.idxOf y < max (u.idxOf x) (u.idxOf (inv x))) != decide (min (u.idxOf x) (u.idxOf (inv x)) < u.idxOf (inv y)∧u.idxOf (inv y) < max (u.idxOf x) (u.idxOf (inv x))))=true
 then (if rfI u x (inv y) < rfI u x y then -1 else 1) else 0
theorem wH {u:List L}{x y:L}(F:qC u x y):psd u x y=sd u x y:=by
 have a1:=aX F.mx
 have a2:=aX F.mX
 have a3:=aX F.my
 have a4:=aX F.mY
 have n1:=F.n1;have n2:=F.n2;have n3:=F.n3;have n4:=F.n4;have n5:=F.n5;have n6:=F.n6
 unfold psd sd ic
 rw [aQ F.mx F.my,aQ F.mx F.mX,aQ F.mx F.mY]
 generalize u.idxOf x=a at *
 generalize u.idxOf (inv x)=b at *
 generalize u.idxOf y=c at *
 generalize u.idxOf (inv y)=d at *
 generalize u.length=n at *
 grind
def bz:Nat→(Nat→Int)→Int
 | 0,_=>0
 | n+1,f=>bz n f+f n
theorem aI {f g:Nat→Int}:∀ (n:Nat),(∀ i,i < n→f i=g i)→bz n f=bz n g
 | 0,_=>rfl
 | n+1,h=>by
  show bz n f+f n=bz n g+g n
  rw [aI n fun i hi=>h i (by omega),h n (by omega)]
theorem cX {f:Nat→Int}(n:Nat)(h:∀ i,i < n→f i=0):bz n f=0:=by
 rw [aI n h]
 clear h
 induction n with
 | zero=>rfl
 | succ n ih =>
  show bz n (fun _=>0)+0=0
  rw [ih]
  rfl
theorem b7 (f g:Nat→Int):∀ n,bz n (fun i=>f i+g i)=bz n f+bz n g
 | 0=>rfl
 | n+1=>by
  show bz n (fun i=>f i+g i)+(f n+g n)=(bz n f+f n)+(bz n g+g n)
  rw [b7 f g n]
  omega
theorem dW (f:Nat→Int):∀ n,bz n (fun i=>- f i) = - bz n f
 | 0=>rfl
 | n+1=>by
  show bz n (fun i=>- f i) + - f n = - (bz n f+f n)
  rw [dW f n]
  omega
theorem kx (c:Int)(f:Nat→Int):∀ n,bz n (fun i=>c*f i)=c*bz n f
 | 0=>by
  show (0:Int)=c*0
  rw [Int.mul_zero]
 | n+1=>by
  show bz n (fun i=>c*f i)+c*f n=c*(bz n f+f n)
  rw [kx c f n,Int.mul_add]
theorem iS (f:Nat→Nat→Int)(m:Nat):∀ n,bz n (fun x=>bz m fun y=>f x y)=bz m (fun y=>bz n fun x=>f x y)
 | 0=>(cX m fun _ _=>rfl).symm
 | n+1=>by
  show bz n (fun x=>bz m fun y=>f x y)+bz m (fun y=>f n y)=bz m (fun y=>bz n (fun x=>f x y)+f n y)
  rw [iS f m n,b7]
theorem dE {f:Nat→Int}{j:Nat}:∀ (n:Nat),j < n→(∀ i,i < n→i≠j→f i=0)→bz n f=f j
 | 0,h,_=>absurd h (Nat.not_lt_zero _)
 | n+1,h,hz=>by
  show bz n f+f n=f j
  by_cases e:j=n
  ·subst e
   rw [cX j fun i hi=>hz i (by omega) (by omega),FJ]
  ·rw [dE n (by omega) fun i hi=>hz i (by omega),hz n (by omega) (fun e'=>e e'.symm),Fu]
theorem iT (g:Nat→Nat→Int):∀ k,bz k (fun x=>bz (k - (x+1)) fun j=>g x (x+1+j)+g (x+1+j) x)=bz k (fun x=>bz k fun y=>if x=y then 0 else g x y)
 | 0=>rfl
 | k+1=>by
  have e1:bz (k+1) (fun x=>bz (k+1 - (x+1)) fun j=>g x (x+1+j)+g (x+1+j) x)=bz k (fun x=>bz (k - (x+1)) fun j=>g x (x+1+j)+g (x+1+j) x)+bz k (fun x=>g x k+g k x):=by
   show bz k (fun x=>bz (k+1 - (x+1)) fun j=>g x (x+1+j)+g (x+1+j) x)+bz (k+1 - (k+1)) _=_
   rw [D2]
   show _+0=_
   rw [Fu,← b7]
   refine aI k fun x hx=>?_
   have e:k+1 - (x+1)=(k - (x+1))+1:=by omega
   rw [e]
   show _+(g x (x+1+(k - (x+1)))+g (x+1+(k - (x+1))) x)=_
   rw [show x+1+(k - (x+1))=k by omega]
  have e2:bz (k+1) (fun x=>bz (k+1) fun y=>if x=y then 0 else g x y)=bz k (fun x=>bz k fun y=>if x=y then 0 else g x y)+bz k (fun x=>g x k+g k x):=by
   show bz k (fun x=>bz k (fun y=>if x=y then 0 else g x y)+(if x=k then 0 else g x k))+(bz k (fun y=>if k=y then 0 else g k y)+(if k=k then 0 else g k k))=_
   rw [b7,if_pos rfl,Fu,b7]
   rw [aI (f:=fun x=>if x=k then 0 else g x k) (g:=fun x=>g x k) k fun x hx=>if_neg (by omega)]
   rw [aI (f:=fun y=>if k=y then 0 else g k y) (g:=fun y=>g k y) k fun y hy=>if_neg (by omega)]
   exact Int.add_assoc _ _ _
  rw [e1,e2,iT g k]
def lt6 (j:Nat):L:=if h:j < 12 then ⟨j,h⟩ else 0
def dfi (w:List L)(x:L):Int:=((w.count x:Nat):Int) - ((w.count (inv x):Nat):Int)
def trm (u w1 w2:List L)(x y:Nat):Int:=sd u (lt6 x) (lt6 y)*(dfi w1 (lt6 x)*dfi w2 (lt6 y) - dfi w1 (lt6 y)*dfi w2 (lt6 x))
def bal (u:List L)(k:Nat)(w1 w2:List L):Int:=bz k fun x=>bz (k - (x+1)) fun j=>trm u w1 w2 x (x+1+j)
def wgt (u:List L)(k:Nat)(w1 w2:List L):Int:=bz k fun x=>bz k fun y=>if x=y then 0 else dfi w1 (lt6 x)*dfi w2 (lt6 y)*sd u (lt6 x) (lt6 y)
theorem jt {j:Nat}(h:j < 6):(lt6 j).val=j:=by
 unfold lt6
 rw [dif_pos (by omega)]
theorem oa:∀ x:L,x.val < 6→(inv x).val=x.val+6:=by decide
theorem SK.four {u:List L}{k:Nat}(h:SK u k){x y:Nat}(hx:x < k)(hy:y < k)(hn:x≠y):qC u (lt6 x) (lt6 y):=by
 have h6:=h.hi
 have vx:=jt (show x < 6 by omega)
 have vy:=jt (show y < 6 by omega)
 refine js h.srf ((h.mem _).mpr (by rw [vx];omega)) ((h.mem _).mpr (by rw [vy];omega)) (fun e=>hn ?_) (fun e=>?_)
 ·rw [← vx,← vy,e]
 ·have:=oa (lt6 y) (by omega)
  rw [← e] at this
  omega
theorem uk {u:List L}{k:Nat}(h:SK u k)(w1 w2:List L):bal u k w1 w2=wgt u k w1 w2:=by
 unfold bal wgt
 rw [← iT (fun x y=>dfi w1 (lt6 x)*dfi w2 (lt6 y)*sd u (lt6 x) (lt6 y)) k]
 refine aI k fun x hx=>aI _ fun j hj=>?_
 have:=gQ (h.four hx (show x+1+j < k by omega) (by omega))
 unfold trm
 rw [this]
 generalize sd u (lt6 x) (lt6 (x+1+j))=s
 grind
theorem ky (u:List L)(k:Nat)(w1 w2:List L):bal u k w2 w1 = - bal u k w1 w2:=by
 unfold bal
 rw [← dW]
 refine aI k fun x hx=>?_
 rw [← dW]
 refine aI _ fun j hj=>?_
 unfold trm
 grind
theorem ju (v w:List L)(x:L):dfi (v++w) x=dfi v x+dfi w x:=by
 unfold dfi
 rw [List.count_append,List.count_append]
 omega
theorem jv (x:L):dfi [] x=0:=rfl
theorem um {u:List L}{k:Nat}(h:SK u k)(w1 w2:List L):bal u.reverse k w1 w2 = - bal u k w1 w2:=by
 unfold bal
 rw [← dW]
 refine aI k fun x hx=>?_
 rw [← dW]
 refine aI _ fun j hj=>?_
 unfold trm
 rw [wG h.srf (h.four hx (show x+1+j < k by omega) (by omega))]
 grind
theorem oe (u:List L)(k:Nat)(w:List L):bal u k [] w=0:=by
 unfold bal
 refine cX k fun x hx=>cX _ fun j hj=>?_
 unfold trm
 rw [jv,jv]
 grind
theorem og (u:List L)(k:Nat)(w1 w2 w3:List L):bal u k w1 (w2++w3)=bal u k w1 w2+bal u k w1 w3:=by
 unfold bal
 rw [← b7]
 refine aI k fun x hx=>?_
 rw [← b7]
 refine aI _ fun j hj=>?_
 unfold trm
 rw [ju,ju]
 grind
def tau (u:List L)(y l:L):Int:=if l=y ∨ l=inv y then 0 else ic u y (inv l) - ic u y l
def lQ (u:List L)(y:L):List L→Int
 | []=>0
 | l::w=>tau u y l+lQ u y w
theorem qD {u:List L}{g:Nat}(h:g < u.length):u[g]? = some (u.getD g 0):=by
 rw [A9,fu h]
 rfl
theorem gR (l x:L):dfi [l] x=(if l=x then 1 else 0) - (if l=inv x then 1 else 0):=by
 have c:∀ a b:L,(([a].count b:Nat):Int)=if a=b then 1 else 0:=fun a b=>by
  rw [List.count_singleton]
  by_cases h:a=b
  ·rw [if_pos h,h]
   simp
  ·rw [if_neg h]
   simp [h]
 unfold dfi
 rw [c,c]
theorem jw:∀ l:L,l=lt6 (l.val % 6) ∨ l=inv (lt6 (l.val % 6)):=by decide
theorem jx:∀ (l:L) (x:Fin 6),x.val≠l.val % 6→l≠lt6 x.val∧l≠inv (lt6 x.val):=by decide
theorem kz:∀ l:L,¬ (l=lt6 (l.val % 6)∧l=inv (lt6 (l.val % 6))):=by decide
theorem yS {u:List L}{k:Nat}(h:SK u k){y:Nat}(hy:y < k){l:L}(hl:l∈u):bz k (fun x=>if x=y then 0 else dfi [l] (lt6 x)*sd u (lt6 x) (lt6 y))=tau u (lt6 y) l:=by
 have h6:=h.hi
 have hj:=(h.mem l).mp hl
 rw [dE k hj]
 ·unfold tau
  by_cases e:l.val % 6=y
  ·subst e
   rw [if_pos rfl,if_pos (jw l)]
  ·rw [if_neg e]
   have q:=jx l ⟨y,by omega⟩ (fun z=>e z.symm)
   rw [if_neg (fun z=>z.elim q.1 q.2),gR]
   have F:=h.four hj hy e
   have an:=gQ F.swap
   rcases jw l with e1 | e1
   ·have e2:¬ l=inv (lt6 (l.val % 6)):=fun z=>kz l ⟨e1,z⟩
    rw [if_pos e1,if_neg e2,an,← e1]
    unfold sd
    omega
   ·have e2:¬ l=lt6 (l.val % 6):=fun z=>kz l ⟨z,e1⟩
    have e3:lt6 (l.val % 6)=inv l:=by rw [e1,aP,← e1]
    rw [if_neg e2,if_pos e1,an,e3]
    unfold sd
    rw [aP]
    omega
 ·intro i hi hn
  by_cases e:i=y
  ·rw [if_pos e]
  ·rw [if_neg e,gR]
   have q:=jx l ⟨i,by omega⟩ hn
   rw [if_neg q.1,if_neg q.2]
   omega
theorem z_all {u:List L}{k:Nat}(h:SK u k){y:Nat}(hy:y < k):∀ w:List L,(∀ l∈w,l∈u)→bz k (fun x=>if x=y then 0 else dfi w (lt6 x)*sd u (lt6 x) (lt6 y))=lQ u (lt6 y) w
 | [],_=>cX k fun x _=>by
  split
  ·rfl
  ·rw [jv,Int.zero_mul]
 | l::w,hw=>by
  have ih:=z_all h hy w fun z hz=>hw z (A5 _ hz)
  show _=tau u (lt6 y) l+lQ u (lt6 y) w
  rw [← ih,← yS h hy (hw l Ba),← b7]
  refine aI k fun x _=>?_
  have e:dfi (l::w) (lt6 x)=dfi [l] (lt6 x)+dfi w (lt6 x):=ju [l] w (lt6 x)
  rw [e]
  split
  ·rfl
  ·rw [Int.add_mul]
end Wd
namespace L2
open PySem PySem.Spec PyProof.Rows
section
variable {prog:Program} {w:World} {A:Around} {E:Value→Shared→Prop} {s:Shared}
end
section
variable {X:Cx}
def AF (ta tb:TE):TE:=fun σ H Q=>ta σ H fun x H1=>∃ z,x = .str z∧z.length≤sizeLine∧(if ((z.length:Int) != 0)=true then Q (.str z) H1 else tb σ H1 Q)
theorem wI {a b:Expr}{rest:List Expr}{ta tb:TE}{pos:Pos}(ha:PE X a ta)(hb:PE X (.BoolOp .Or (b::rest) pos) tb):PE X (.BoolOp .Or (a::b::rest) pos) (AF ta tb):=by
 intro Gn s σ H Q I h
 refine BoolOp_or (thn (ha Gn s σ H _ I h) fun v s1 zq1=>?_)
 obtain ⟨x,H1,I1,r1,z,ez,hz,q1⟩:=zq1
 subst ez
 refine thn (rX Gn s1 σ H1 (.str z) v (fun c H'=>if c=true then Q (.str z) H' else tb σ H' Q) I1 r1 ⟨_,⟨hz,rfl⟩,q1⟩) fun c s2 zq2=>?_
 obtain ⟨H2,I2,q2⟩:=zq2
 cases c with
 | false=>exact hb Gn s2 σ H2 Q I2 (by simpa using q2)
 | true=>exact ⟨.str z,H2,I2,r1,by simpa using q2⟩
end
end L2
namespace PySem
open Sem (wp)
open AutoSeq1 (wpAny_loadPart')
section
variable {prog:Program} {w:World} {A:Around} {E:Value→Shared→Prop} {s:Shared}
end
end PySem
namespace L2
open PySem PySem.Spec PyProof.Rows Wd
section
variable {X:Cx}
end
end L2
namespace PySem
open Sem (wp)
section
variable {prog:Program} {w:World} {A:Around} {E:Value→Shared→Prop} {s:Shared} {z TI TO i1 i2:Addr} {k n1 n2:Nat} {a b:Value} {fp1 fp2:List Addr} {P1 P2:Nat→Value→Prop} {S1 S2:Nat→Heap→Prop}
end
end PySem
namespace PySem
end PySem
namespace L2
open PySem PySem.Spec PyProof.Rows Wd
section
variable {X:Cx}
end
end L2
namespace Kx
open PySem PySem.Spec PyProof.Rows L2 Wd
def jn (yl:List Nat):List (List Nat)→List Nat
 | []=>[]
 | [p]=>p
 | p::q::r=>p++yl++jn yl (q::r)
def Gd (c:Nat):Prop:=(48≤c∧c≤57) ∨ 65≤c
end Kx
namespace L2
open PySem PySem.Spec PyProof.Rows Wd
section
variable {X:Cx} {tg:Expr}
end
end L2
namespace Kx
open PySem PySem.Spec PyProof.Rows L2 Wd
def dV:V→PyData
 | .int i=>.int i
 | .str z=>.str z
 | _=>.none
end Kx
namespace L2
open PySem PySem.Spec PyProof.Rows
section
variable {X:Cx}
end
end L2
namespace Kx
open PySem PySem.Spec PyProof.Rows L2 Wd
def AW (k:Nat):List L:=(List.range k).map lt6++bk ((List.range k).map lt6)
end Kx
namespace Tv
open PySem PyProof.Rows
theorem au {σ:Type}{M:Model}{A:Around}{E:Value→Shared→Prop}{s:Shared}{α:Type}{c:Prop}[Decidable c]{x y:StateT σ Sem α}{Q:α→σ→Prop}{st:σ}(h:c)(p:wpS M A E s x Q st):wpS M A E s (if c then x else y) Q st:=by
 rw [if_pos h];exact p
theorem ay {σ:Type}{M:Model}{A:Around}{E:Value→Shared→Prop}{s:Shared}{α:Type}{c:Prop}[Decidable c]{x y:StateT σ Sem α}{Q:α→σ→Prop}{st:σ}(h:¬ c)(p:wpS M A E s y Q st):wpS M A E s (if c then x else y) Q st:=by
 rw [if_neg h];exact p
def kof (κ:KeyKind)(p:Keyed):κ.α:=(κ.keyOf p.1).getD κ.dflt
def Gd (κ:KeyKind)(p:Keyed):Prop:=∃ a,κ.keyOf p.1=some a
theorem Gd.eq {κ:KeyKind}{p:Keyed}(h:Gd κ p):κ.keyOf p.1=some (kof κ p):=by
 obtain ⟨a,e⟩:=h
 unfold kof
 rw [e]
 rfl
structure TB (kd:SortKind) (st:SortSt):Prop where
 kind:kindOf st=kd
 failed:failedOf st=none
def Lt1 (κ:KeyKind)(prog:Program)(w:World)(A:Around)(s:Shared)(kd:SortKind):Prop:=∀ (E:Value→Shared→Prop) (x y:Value) (a b:κ.α) (Q:Bool→Shared→Prop),κ.keyOf x=some a→κ.keyOf y=some b→Q (κ.blt a b) s→wpAny (model prog w) A (keyLt' kd x y) Q E s
def gal:Bool→Keyed→Array Keyed→Nat→Nat→Nat→StateT SortSt Sem (Option Nat):=sortPriv% PySem.Builtin.gallop
def gbd (lf:Bool)(key:Keyed)(arr:Array Keyed)(b i:Nat):StateT SortSt Sem (Option Bool):=do
 let it ← elem' arr (b+i)
 if lf then lt' it key else return (← lt' key it).map (!·)
def yj (lf:Bool)(key:Keyed)(arr:Array Keyed)(b n d0 u0:Nat):StateT SortSt Sem (Option Nat):=do
 let mut dn:=d0
 let mut up:=u0
 for _ in [0:n] do
  if dn≥up then break
  let md:=dn+(up - dn) / 2
  let some mr ← gbd lf key arr b md | return none
  if mr then dn:=md+1 else up:=md
 return some up
theorem wJ (lf:Bool)(key:Keyed)(arr:Array Keyed)(b n h:Nat):gal lf key arr b n h=(do
 let mut la:=0
 let mut of:=1
 let some rt ← gbd lf key arr b h | return none
 if rt then
  for _ in [0:n] do
   if of≥n - h then break
   let some mr ← gbd lf key arr b (h+of) | return none
   if !mr then break
   la:=of
   of:=2*of+1
  yj lf key arr b n (h+la+1) (h+min of (n - h))
 else
  for _ in [0:n] do
   if of≥h+1 then break
   let some fd ← gbd lf key arr b (h - of) | return none
   if fd then break
   la:=of
   of:=2*of+1
  yj lf key arr b n (h+1 - min of (h+1)) (h - la)):=rfl
section
variable {prog:Program} {w:World} {A:Around} {E:Value→Shared→Prop} {s:Shared} {κ:KeyKind} {kd:SortKind}
theorem iU {st:SortSt}{x y:Keyed}{Q:Option Bool→SortSt→Prop}(hO:Lt1 κ prog w A s kd)(hB:TB kd st)(hx:Gd κ x)(hy:Gd κ y)(h:Q (some (κ.blt (kof κ x) (kof κ y))) st):wpS (model prog w) A E s (lt' x y) Q st:=by
 rw [lt'_eq]
 refine Bf (Er ?_)
 rw [hB.kind]
 refine Bf (Fx (E7 (hO _ x.1 y.1 _ _ _ hx.eq hy.eq ⟨rfl,?_⟩)))
 exact Bj h
def bdB (κ:KeyKind)(lf:Bool)(key:κ.α)(x:κ.α):Bool:=if lf then κ.blt x key else !κ.blt key x
theorem uo {st:SortSt}{lf:Bool}{key p:Keyed}{arr:Array Keyed}{b i:Nat}{Q:Option Bool→SortSt→Prop}(hO:Lt1 κ prog w A s kd)(hB:TB kd st)(hk:Gd κ key)(e:arr[b+i]? = some p)(hp:Gd κ p)
  (h:Q (some (bdB κ lf (kof κ key) (kof κ p))) st):wpS (model prog w) A E s (gbd lf key arr b i) Q st:=by
 unfold gbd
 rw [elem'_eq,e]
 refine Bf (Bj ?_)
 unfold bdB at h
 cases lf with
 | true=>exact iU hO hB hp hk h
 | false=>exact Bf (iU hO hB hk hp (Bj h))
theorem jy {st:SortSt}{lf:Bool}{key:Keyed}{arr:Array Keyed}{b n h:Nat}{Q:Option Nat→SortSt→Prop}(hO:Lt1 κ prog w A s kd)(hB:TB kd st)(hk:Gd κ key)(B:Nat→Bool)(hh:h < n)
  (at_:∀ i,i < n→∃ p,arr[b+i]? = some p∧Gd κ p∧bdB κ lf (kof κ key) (kof κ p)=B i) (mono:∀ i j,i≤j→j < n→B j=true→B i=true)
  (hq:∀ k,k≤n→(∀ i,i < k→B i=true)→(∀ i,k≤i→i < n→B i=false)→Q (some k) st):wpS (model prog w) A E s (gal lf key arr b n h) Q st:=by
 have ask:∀ {i:Nat} {R:Option Bool→SortSt→Prop},i < n→R (some (B i)) st→wpS (model prog w) A E s (gbd lf key arr b i) R st:=fun {i R} hi r=>by
  obtain ⟨p,e,g,eb⟩:=at_ i hi
  exact uo hO hB hk e g (by rw [eb];exact r)
 have no:∀ i j,i≤j→j < n→B i=false→B j=false:=fun i j GB hj e=>by
  cases ej:B j with
  | false=>rfl
  | true=>rw [mono i j GB hj ej] at e;cases e
 -- the last part
 have fin:∀ dn up,dn≤up→up≤n→(∀ i,i < dn→B i=true)→(∀ i,up≤i→i < n→B i=false)→wpS (model prog w) A E s (yj lf key arr b n dn up) Q st:=by
  intro dn up h1 h2 h3 h4
  unfold yj
  refine Bf (CC (B4 (I:=fun x c st'=>st'=st∧∃ dn up,c=(none,dn,up)∧dn≤up∧up≤n∧up - dn≤n - x∧(∀ i,i < dn→B i=true)∧(∀ i,up≤i→i < n→B i=false))
   (Q:=fun c st'=>st'=st∧∃ k,c=(none,k,k)∧k≤n∧(∀ i,i < k→B i=true)∧(∀ i,k≤i→i < n→B i=false)) ?step ?fin ⟨rfl,dn,up,rfl,h1,h2,by omega,h3,h4⟩) ?post)
  case post =>
   rintro c st' ⟨rfl,k,rfl,a1,a2,a3⟩
   exact Bj (hq k a1 a2 a3)
  case fin =>
   rintro c st' ⟨rfl,dn,up,rfl,a1,a2,a3,a4,a5⟩
   have:dn=up:=by omega
   subst this
   exact ⟨rfl,dn,rfl,a2,a4,a5⟩
  case step =>
   rintro x c st' _ hx ⟨rfl,dn,up,rfl,a1,a2,a3,a4,a5⟩
   dsimp only
   by_cases hd:dn≥up
   ·refine au hd ?_
    have:dn=up:=by omega
    subst this
    exact Bj ⟨rfl,dn,rfl,a2,a4,a5⟩
   ·refine ay hd ?_
    refine Bf (ask (by omega) ?_)
    cases eb:B (dn+(up - dn) / 2) with
    | true =>
     simp only [CV]
     exact Bj ⟨rfl,dn+(up - dn) / 2+1,up,rfl,by omega,a2,by omega,fun i hi=>mono i _ (by omega) (by omega) eb,a5⟩
    | false =>
     simp only [Bn,Cf]
     exact Bj ⟨rfl,dn,dn+(up - dn) / 2,rfl,by omega,by omega,by omega,a4,fun i hi1 hi2=>no _ i (by omega) hi2 eb⟩
 rw [wJ]
 refine Bf (ask hh ?_)
 cases eh:B h with
 | true =>
  dsimp only
  refine au rfl ?_
  refine Bf (CC (B4 (I:=fun x c st'=>st'=st∧∃ la of,c=(none,la,of)∧la < of∧x+1≤of∧h+la < n∧B (h+la)=true)
   (Q:=fun c st'=>st'=st∧∃ la of,c=(none,la,of)∧la < of∧h+la < n∧B (h+la)=true∧(of≥n - h ∨ (h+of < n∧B (h+of)=false))) ?step ?fin ⟨rfl,0,1,rfl,by omega,by omega,by omega,eh⟩) ?post)
  case post =>
   rintro c st' ⟨rfl,la,of,rfl,a1,a2,a3,a4⟩
   dsimp only
   refine fin (h+la+1) (h+min of (n - h)) (by omega) (by omega) (fun i hi=>mono i _ (by omega) a2 a3) fun i hi1 hi2=>?_
   rcases a4 with a4 | ⟨a4,a5⟩
   ·omega
   ·exact no _ i (by omega) hi2 a5
  case fin =>
   rintro c st' ⟨rfl,la,of,rfl,a1,a2,a3,a4⟩
   exact ⟨rfl,la,of,rfl,a1,a3,a4,.inl (by omega)⟩
  case step =>
   rintro x c st' _ hx ⟨rfl,la,of,rfl,a1,a2,a3,a4⟩
   dsimp only
   by_cases ho:of≥n - h
   ·refine au ho ?_
    exact Bj ⟨rfl,la,of,rfl,a1,a3,a4,.inl ho⟩
   ·refine ay ho ?_
    refine Bf (ask (by omega) ?_)
    cases eb:B (h+of) with
    | true =>
     simp only [Ee,Bn,Cf]
     exact Bj ⟨rfl,of,2*of+1,rfl,by omega,by omega,by omega,eb⟩
    | false =>
     simp only [Bool.not_false,CV]
     exact Bj ⟨rfl,la,of,rfl,a1,a3,a4,.inr ⟨by omega,eb⟩⟩
 | false =>
  dsimp only
  refine ay Bx ?_
  refine Bf (CC (B4 (I:=fun x c st'=>st'=st∧∃ la of,c=(none,la,of)∧la < of∧x+1≤of∧la≤h∧B (h - la)=false)
   (Q:=fun c st'=>st'=st∧∃ la of,c=(none,la,of)∧la < of∧la≤h∧B (h - la)=false∧(of≥h+1 ∨ (of≤h∧B (h - of)=true))) ?step ?fin ⟨rfl,0,1,rfl,by omega,by omega,by omega,eh⟩) ?post)
  case post =>
   rintro c st' ⟨rfl,la,of,rfl,a1,a2,a3,a4⟩
   dsimp only
   refine fin (h+1 - min of (h+1)) (h - la) (by omega) (by omega) (fun i hi=>?_) fun i hi1 hi2=>no _ i hi1 hi2 a3
   rcases a4 with a4 | ⟨a4,a5⟩
   ·omega
   ·exact mono i _ (by omega) (by omega) a5
  case fin =>
   rintro c st' ⟨rfl,la,of,rfl,a1,a2,a3,a4⟩
   exact ⟨rfl,la,of,rfl,a1,a3,a4,.inl (by omega)⟩
  case step =>
   rintro x c st' _ hx ⟨rfl,la,of,rfl,a1,a2,a3,a4⟩
   dsimp only
   by_cases ho:of≥h+1
   ·refine au ho ?_
    exact Bj ⟨rfl,la,of,rfl,a1,a3,a4,.inl ho⟩
   ·refine ay ho ?_
    refine Bf (ask (by omega) ?_)
    cases eb:B (h - of) with
    | false =>
     simp only [Bn,Cf]
     exact Bj ⟨rfl,of,2*of+1,rfl,by omega,by omega,by omega,eb⟩
    | true =>
     simp only [CV]
     exact Bj ⟨rfl,la,of,rfl,a1,a3,a4,.inr ⟨by omega,eb⟩⟩
end
def mlo:Array Keyed→Array Keyed→StateT SortSt Sem (Array Keyed):=sortPriv% PySem.Builtin.mergeLo
def smg:Nat→StateT SortSt Sem Unit:=sortPriv% PySem.Builtin.setMinGallop
abbrev mDn (a b o:Array Keyed)(i j:Nat):Array Keyed:=o++a.extract i a.size++b.extract j b.size
abbrev mLa (a b o:Array Keyed)(i j:Nat):Array Keyed:=o++b.extract j b.size++a.extract i a.size
theorem wK (a b:Array Keyed):mlo a b=(do
 rule "list.sort.merge-lo"
 let mut o:Array Keyed:=#[← elem' b 0]
 let mut i:=0
 let mut j:=1
 if j == b.size then return mDn a b o i j
 if i+1 == a.size then return mLa a b o i j
 let mut g:=gallopOf (← get)
 for _ in [0:a.size+b.size] do
  let mut p:=0
  let mut q:=0
  for _ in [0:a.size+b.size] do
   let some w ← lt' (← elem' b j) (← elem' a i) | return mDn a b o i j
   if w then
    o:=o.push (← elem' b j)
    j:=j+1
    q:=q+1
    p:=0
    if j == b.size then return mDn a b o i j
    if q≥g then break
   else
    o:=o.push (← elem' a i)
    i:=i+1
    p:=p+1
    q:=0
    if i+1 == a.size then return mLa a b o i j
    if p≥g then break
  rule "list.sort.gallop"
  g:=g+1
  for _ in [0:a.size+b.size] do
   if g > 1 then g:=g - 1
   smg g
   let some k ← gal false (← elem' b j) a i (a.size - i) 0 | return mDn a b o i j
   p:=k
   if k > 0 then
    o:=o++a.extract i (i+k)
    i:=i+k
    if i+1 == a.size then return mLa a b o i j
    if i == a.size then return mDn a b o i j
   o:=o.push (← elem' b j)
   j:=j+1
   if j == b.size then return mDn a b o i j
   let some k ← gal true (← elem' a i) b j (b.size - j) 0 | return mDn a b o i j
   q:=k
   if k > 0 then
    o:=o++b.extract j (j+k)
    j:=j+k
    if j == b.size then return mDn a b o i j
   o:=o.push (← elem' a i)
   i:=i+1
   if i+1 == a.size then return mLa a b o i j
   if p < 7 && q < 7 then break
  g:=g+1
  smg g
 unsupported "internal:list.sort.merge-bound"):=rfl
end Tv
namespace Tv
open PySem PyProof.Rows
variable {κ:KeyKind} {kd:SortKind}
def lek (κ:KeyKind)(x y:Keyed):Prop:=κ.kle (kof κ x) (kof κ y)
theorem dX {x y z:Keyed}(h:lek κ x y)(g:lek κ y z):lek κ x z:=C6 h g
theorem qE (x:Keyed):lek κ x x:=Cg _
def Srt (κ:KeyKind)(l:List Keyed):Prop:=l.Pairwise (lek κ)
theorem Srt.drop {l:List Keyed}(h:Srt κ l)(i:Nat):Srt κ (l.drop i):=List.Pairwise.sublist (List.drop_sublist i l) h
theorem Srt.take {l:List Keyed}(h:Srt κ l)(i:Nat):Srt κ (l.take i):=List.Pairwise.sublist (List.take_sublist i l) h
def Lel (κ:KeyKind)(l m:List Keyed):Prop:=∀ x∈l,∀ y∈m,lek κ x y
theorem br {l m:List Keyed}:Srt κ (l++m) ↔ Srt κ l∧Srt κ m∧Lel κ l m:=List.pairwise_append
theorem Srt.at {l:List Keyed}(h:Srt κ l){i j:Nat}{x y:Keyed}(GB:i≤j)(hx:l[i]? = some x)(hy:l[j]? = some y):lek κ x y:=by
 by_cases e:i=j
 ·subst e
  rw [hx] at hy
  cases hy
  exact qE _
 ·obtain ⟨h1,e1⟩:=A6.mp hx
  obtain ⟨h2,e2⟩:=A6.mp hy
  have:=Ci.mp h i j h1 h2 (by omega)
  rw [e1,e2] at this
  exact this
theorem bZ {l:List Keyed}{i:Nat}{x:Keyed}(h:l[i]? = some x):l.drop i=x::l.drop (i+1):=by
 obtain ⟨h1,e1⟩:=A6.mp h
 rw [BX h1,e1]
theorem bq {l:List Keyed}{i:Nat}{x:Keyed}(h:l[i]? = some x):l.take (i+1)=l.take i++[x]:=by
 rw [CY,h]
 rfl
structure Mc (κ:KeyKind) (A B O:List Keyed) (i j:Nat):Prop where
 pm:O.Perm (A.take i++B.take j)
 so:Srt κ O
 la:Lel κ O (A.drop i)
 lb:Lel κ O (B.drop j)
 hi:i≤A.length
 hj:j≤B.length
theorem Mc.pushA {A B O:List Keyed}{i j:Nat}(M:Mc κ A B O i j)(sA:Srt κ A){x:Keyed}(h:A[i]? = some x)(hx:Lel κ [x] (B.drop j)):Mc κ A B (O++[x]) (i+1) j:=by
 have ed:=bZ h
 have sd:=sA.drop i
 rw [ed] at sd
 have sd':=Da.mp sd
 refine ⟨?_,br.mpr ⟨M.so,E8 _ _,fun o ho y hy=>?_⟩,fun o ho y hy=>?_,fun o ho y hy=>?_,(A6.mp h).1,M.hj⟩
 ·rw [bq h]
  refine (M.pm.append_right [x]).trans ?_
  rw [Bc,Bc]
  exact Cm _ B8
 ·rw [A2] at hy
  subst hy
  exact M.la o ho _ (by rw [ed];exact Ba)
 ·rcases Bo.mp ho with ho | ho
  ·exact M.la o ho y (by rw [ed];exact A5 _ hy)
  ·rw [A2] at ho
   subst ho
   exact sd'.1 y hy
 ·rcases Bo.mp ho with ho | ho
  ·exact M.lb o ho y hy
  ·exact hx o ho y hy
theorem Mc.pushB {A B O:List Keyed}{i j:Nat}(M:Mc κ A B O i j)(sB:Srt κ B){x:Keyed}(h:B[j]? = some x)(hx:Lel κ [x] (A.drop i)):Mc κ A B (O++[x]) i (j+1):=by
 have ed:=bZ h
 have sd:=sB.drop j
 rw [ed] at sd
 have sd':=Da.mp sd
 refine ⟨?_,br.mpr ⟨M.so,E8 _ _,fun o ho y hy=>?_⟩,fun o ho y hy=>?_,fun o ho y hy=>?_,M.hi,(A6.mp h).1⟩
 ·rw [bq h]
  refine (M.pm.append_right [x]).trans ?_
  rw [Bc]
 ·rw [A2] at hy
  subst hy
  exact M.lb o ho _ (by rw [ed];exact Ba)
 ·rcases Bo.mp ho with ho | ho
  ·exact M.la o ho y hy
  ·exact hx o ho y hy
 ·rcases Bo.mp ho with ho | ho
  ·exact M.lb o ho y (by rw [ed];exact A5 _ hy)
  ·rw [A2] at ho
   subst ho
   exact sd'.1 y hy
theorem Mc.pushAs {A B O:List Keyed}{i j:Nat}(M:Mc κ A B O i j)(sA:Srt κ A):∀ k,i+k≤A.length→Lel κ ((A.drop i).take k) (B.drop j)→Mc κ A B (O++(A.drop i).take k) (i+k) j
 | 0,_,_=>by simpa using M
 | k+1,hk,hl=>by
  have Gw:i+k < A.length:=by omega
  have e:(A.drop i)[k]? = some A[i+k]:=by rw [BV,fu Gw]
  have et:(A.drop i).take (k+1)=(A.drop i).take k++[A[i+k]]:=bq e
  rw [et] at hl ⊢
  have ih:=Mc.pushAs M sA k (by omega) fun x hx=>hl x (BB _ hx)
  have:=ih.pushA sA (fu Gw) fun x hx=>hl x (Bk _ hx)
  rw [Bc] at this
  exact this
theorem Mc.pushBs {A B O:List Keyed}{i j:Nat}(M:Mc κ A B O i j)(sB:Srt κ B):∀ k,j+k≤B.length→Lel κ ((B.drop j).take k) (A.drop i)→Mc κ A B (O++(B.drop j).take k) i (j+k)
 | 0,_,_=>by simpa using M
 | k+1,hk,hl=>by
  have Gw:j+k < B.length:=by omega
  have e:(B.drop j)[k]? = some B[j+k]:=by rw [BV,fu Gw]
  have et:(B.drop j).take (k+1)=(B.drop j).take k++[B[j+k]]:=bq e
  rw [et] at hl ⊢
  have ih:=Mc.pushBs M sB k (by omega) fun x hx=>hl x (BB _ hx)
  have:=ih.pushB sB (fu Gw) fun x hx=>hl x (Bk _ hx)
  rw [Bc] at this
  exact this
def Mg (κ:KeyKind)(A B R:List Keyed):Prop:=R.Perm (A++B)∧Srt κ R
theorem Mc.perm {A B O:List Keyed}{i j:Nat}(M:Mc κ A B O i j):(O++(A.drop i++B.drop j)).Perm (A++B):=by
 have h1:(O++(A.drop i++B.drop j)).Perm ((A.take i++B.take j)++(A.drop i++B.drop j)):=M.pm.append_right _
 refine h1.trans ?_
 have h2:((A.take i++B.take j)++(A.drop i++B.drop j)).Perm ((A.take i++A.drop i)++(B.take j++B.drop j)):=by
  rw [Bc,Bc]
  refine Cm _ ?_
  rw [← Bc,← Bc]
  exact DT _ B8
 rw [Bu,Bu] at h2
 exact h2
theorem Mc.done {A B O:List Keyed}{i j:Nat}(M:Mc κ A B O i j)(sA:Srt κ A)(sB:Srt κ B)(h:i=A.length ∨ j=B.length):Mg κ A B (O++A.drop i++B.drop j):=by
 refine ⟨by rw [Bc];exact M.perm,?_⟩
 rw [Bc]
 refine br.mpr ⟨M.so,br.mpr ⟨sA.drop i,sB.drop j,fun x hx y hy=>?_⟩,fun o ho y hy=>?_⟩
 ·rcases h with h | h
  ·subst h;rw [Fg] at hx;cases hx
  ·subst h;rw [Fg] at hy;cases hy
 ·rcases Bo.mp hy with hy | hy
  ·exact M.la o ho y hy
  ·exact M.lb o ho y hy
theorem Mc.last {A B O:List Keyed}{i j:Nat}(M:Mc κ A B O i j)(sA:Srt κ A)(sB:Srt κ B)(h:i+1=A.length)(hl:∀ z,A[A.length - 1]? = some z→Lel κ B [z]):Mg κ A B (O++B.drop j++A.drop i):=by
 have Gw:i < A.length:=by omega
 have ed:A.drop i=[A[i]]:=by rw [bZ (fu Gw),C_ (by omega)]
 refine ⟨?_,?_⟩
 ·refine List.Perm.trans ?_ M.perm
  rw [Bc]
  exact Cm _ B8
 ·rw [Bc]
  refine br.mpr ⟨M.so,br.mpr ⟨sB.drop j,sA.drop i,fun x hx y hy=>?_⟩,fun o ho y hy=>?_⟩
  ·rw [ed] at hy
   exact hl A[i] (by rw [show A.length - 1=i by omega];exact fu Gw) x (Cz hx) y hy
  ·rcases Bo.mp hy with hy | hy
   ·exact M.lb o ho y hy
   ·exact M.la o ho y hy
theorem kC (a b o:Array Keyed)(i j:Nat):(mDn a b o i j).toList=o.toList++a.toList.drop i++b.toList.drop j:=by
 simp [mDn,Cc,By]
theorem kE (a b o:Array Keyed)(i j:Nat):(mLa a b o i j).toList=o.toList++b.toList.drop j++a.toList.drop i:=by
 simp [mLa,Cc,By]
theorem kF (a:Array Keyed)(i k:Nat):(a.extract i (i+k)).toList=(a.toList.drop i).take k:=by
 simp [Cc,List.take_drop]
theorem kG {lf:Bool}{key x y:κ.α}(h:κ.kle x y)(hb:bdB κ lf key y=true):bdB κ lf key x=true:=by
 unfold bdB at hb ⊢
 cases lf with
 | true=>exact KeyOrd.klt_of_kle_of_klt h hb
 | false =>
  have hb:(!κ.blt key y)=true:=hb
  have hy:κ.kle y key:=by show κ.blt key y=false;simpa using hb
  have:=C6 h hy
  show (!κ.blt key x)=true
  have this:κ.blt key x=false:=this
  rw [this]
  rfl
end Tv
namespace Tv
open PySem PyProof.Rows
section
variable {prog:Program} {w:World} {A:Around} {E:Value→Shared→Prop} {s:Shared} {κ:KeyKind} {kd:SortKind}
structure Ok (kd:SortKind) (st st':SortSt):Prop where
 tb:TB kd st'
 ar:arrOf st'=arrOf st
 pd:pendingOf st'=pendingOf st
theorem Ok.refl {st:SortSt}(h:TB kd st):Ok kd st st:=⟨h,rfl,rfl⟩
theorem gT {st st':SortSt}{g:Nat}{Q:Unit→SortSt→Prop}(h:Ok kd st st')(q:∀ Gu,Ok kd st Gu→Q () Gu):wpS (model prog w) A E s (smg g) Q st':=by
 refine DB (q _ ⟨⟨h.tb.kind,h.tb.failed⟩,h.ar,h.pd⟩)
theorem aU {st:SortSt}{arr:Array Keyed}{i:Nat}{x:Keyed}{Q:Keyed→SortSt→Prop}(e:arr.toList[i]? = some x)(h:Q x st):wpS (model prog w) A E s (elem' arr i) Q st:=by
 have e':arr[i]? = some x:=by simpa using e
 rw [elem'_eq,e']
 exact Bj h
theorem kH {st:SortSt}{lf:Bool}{key:Keyed}{arr:Array Keyed}{i:Nat}{Q:Option Nat→SortSt→Prop}(hO:Lt1 κ prog w A s kd)(hB:TB kd st)(hk:Gd κ key)(hg:∀ x∈arr.toList,Gd κ x)(sa:Srt κ arr.toList)(hi:i < arr.size)
  (hq:∀ k,i+k≤arr.size→(∀ x∈(arr.toList.drop i).take k,bdB κ lf (kof κ key) (kof κ x)=true)→(∀ x∈arr.toList.drop (i+k),bdB κ lf (kof κ key) (kof κ x)=false)→Q (some k) st) :
  wpS (model prog w) A E s (gal lf key arr i (arr.size - i) 0) Q st:=by
 have hl:arr.toList.length=arr.size:=A0
 refine jy hO hB hk (fun t=>match arr.toList[i+t]? with | some p=>bdB κ lf (kof κ key) (kof κ p) | none=>false) (by omega) (fun t ht=>?_) (fun t u htu hu hb=>?_) (fun k hk' h1 h2=>hq k (by omega) (fun x hx=>?_) fun x hx=>?_)
 ·have Gw:i+t < arr.toList.length:=by omega
  have e:=fu Gw
  refine ⟨arr.toList[i+t],by simpa using e,hg _ (BF Gw),?_⟩
  rw [e]
 ·have h1:i+t < arr.toList.length:=by omega
  have h2:i+u < arr.toList.length:=by omega
  have e1:=fu h1
  have e2:=fu h2
  rw [e2] at hb
  rw [e1]
  exact kG (sa.at (by omega) e1 e2) hb
 ·obtain ⟨t,e⟩:=Cd hx
  have ht:t < k:=by
   have:=(A6.mp e).1
   rw [Bd] at this
   omega
  rw [DN,if_pos ht,BV] at e
  have:=h1 t ht
  rw [e] at this
  exact this
 ·obtain ⟨t,e⟩:=Cd hx
  rw [BV] at e
  have Gw:=(A6.mp e).1
  have:=h2 (k+t) (by omega) (by omega)
  rw [show i+(k+t)=i+k+t by omega,e] at this
  exact this
theorem not_lt {x y:Keyed}(h:κ.blt (kof κ x) (kof κ y)=false):lek κ y x:=h
theorem qF {x y:Keyed}(h:κ.blt (kof κ x) (kof κ y)=true):lek κ x y:=Dm h
theorem fx {l:List Keyed}(sl:Srt κ l){i:Nat}{x y:Keyed}(e:l[i]? = some y)(h:lek κ x y):Lel κ [x] (l.drop i):=fun z hz t ht=>by
 rw [A2] at hz
 subst hz
 rw [bZ e] at ht
 rcases Bm.mp ht with rfl | ht
 ·exact h
 ·have sd:=sl.drop i
  rw [bZ e] at sd
  exact dX h ((Da.mp sd).1 t ht)
abbrev MSt:=Option (Array Keyed) × Array Keyed × Nat × Nat × Nat × Nat × Nat
def jp3 (a b:Array Keyed)(i g p q:Nat)(o:Array Keyed)(j:Nat):StateT SortSt Sem (ForInStep MSt):=do
 let e ← elem' a i
 if (i+1+1 == a.size)=true then pure (.done (some (mLa a b (o.push e) (i+1) j),o.push e,i+1,j,g,p,q))
 else if (decide (p < 7) && decide (q < 7))=true then pure (.done (none,o.push e,i+1,j,g,p,q)) else pure (.yield (none,o.push e,i+1,j,g,p,q))
def jp2 (a b:Array Keyed)(j g p q:Nat)(o:Array Keyed)(i:Nat):StateT SortSt Sem (ForInStep MSt):=do
 let e ← elem' b j
 if (j+1 == b.size)=true then pure (.done (some (mDn a b (o.push e) i (j+1)),o.push e,i,j+1,g,p,q))
 else do
  let f ← elem' a i
  let y ← gal true f b (j+1) (b.size - (j+1)) 0
  match y with
  | some k=>if k > 0 then (if (j+1+k == b.size)=true then pure (.done (some (mDn a b (o.push e++b.extract (j+1) (j+1+k)) i (j+1+k)),o.push e++b.extract (j+1) (j+1+k),i,j+1+k,g,p,k)) else jp3 a b i g p k (o.push e++b.extract (j+1) (j+1+k)) (j+1+k)) else jp3 a b i g p k (o.push e) (j+1)
  | _=>pure (.done (some (mDn a b (o.push e) i (j+1)),o.push e,i,j+1,g,p,q))
def jp1 (a b:Array Keyed)(o:Array Keyed)(i j p q g:Nat):StateT SortSt Sem (ForInStep MSt):=do
 smg g
 let e ← elem' b j
 let y ← gal false e a i (a.size - i) 0
 match y with
 | some k=>if k > 0 then (if (i+k+1 == a.size)=true then pure (.done (some (mLa a b (o++a.extract i (i+k)) (i+k) j),o++a.extract i (i+k),i+k,j,g,k,q)) else if (i+k == a.size)=true then pure (.done (some (mDn a b (o++a.extract i (i+k)) (i+k) j),o++a.extract i (i+k),i+k,j,g,k,q)) else jp2 a b j g k q (o++a.extract i (i+k)) (i+k)) else jp2 a b j g k q o i
 | _=>pure (.done (some (mDn a b o i j),o,i,j,g,p,q))
def Pst (κ:KeyKind)(a b:Array Keyed)(x:Nat)(st:SortSt)(r:ForInStep MSt)(st':SortSt):Prop:=match r with
 | .done c=>((∃ r z,c=(some r,z)∧Mg κ a.toList b.toList r.toList) ∨ ∃ o i j g p q,c=(none,o,i,j,g,p,q)∧Mc κ a.toList b.toList o.toList i j∧i+1 < a.size∧j < b.size∧x+2≤i+j)∧Ok kd st st'
 | .yield c=>∃ o i j g p q,c=(none,o,i,j,g,p,q)∧Mc κ a.toList b.toList o.toList i j∧i+1 < a.size∧j < b.size∧x+2≤i+j∧Ok kd st st'
structure Two (κ:KeyKind) (a b:Array Keyed):Prop where
 ga:∀ x∈a.toList,Gd κ x
 gb:∀ x∈b.toList,Gd κ x
 sa:Srt κ a.toList
 sb:Srt κ b.toList
 hl:∀ z,a.toList[a.size - 1]? = some z→Lel κ b.toList [z]
theorem Two.atA {a b:Array Keyed}(T:Two κ a b){i:Nat}(hi:i < a.size):∃ x,a.toList[i]? = some x∧Gd κ x:=⟨a.toList[i]'(by rw [A0]; exact hi),fu (by rw [A0]; exact hi),T.ga _ (BF _)⟩
theorem Two.atB {a b:Array Keyed}(T:Two κ a b){i:Nat}(hi:i < b.size):∃ x,b.toList[i]? = some x∧Gd κ x:=⟨b.toList[i]'(by rw [A0]; exact hi),fu (by rw [A0]; exact hi),T.gb _ (BF _)⟩
theorem Two.dn {a b:Array Keyed}(T:Two κ a b){o:Array Keyed}{i j:Nat}(M:Mc κ a.toList b.toList o.toList i j)(h:i=a.size ∨ j=b.size):Mg κ a.toList b.toList (mDn a b o i j).toList:=by
 rw [kC]
 exact M.done T.sa T.sb (by rw [A0,A0];exact h)
theorem Two.ls {a b:Array Keyed}(T:Two κ a b){o:Array Keyed}{i j:Nat}(M:Mc κ a.toList b.toList o.toList i j)(h:i+1=a.size):Mg κ a.toList b.toList (mLa a b o i j).toList:=by
 rw [kE]
 exact M.last T.sa T.sb (by rw [A0];exact h) (by rw [A0];exact T.hl)
theorem oh {st st':SortSt}{a b o:Array Keyed}{i j g p q x:Nat}{xa:Keyed}(T:Two κ a b)(M:Mc κ a.toList b.toList o.toList i j)(hi:i+1 < a.size)(hj:j < b.size)(hx:x+2≤i+j)(ok:Ok kd st st')(GO:a.toList[i]? = some xa)(hle:Lel κ [xa] (b.toList.drop j)) :
  wpS (model prog w) A E s (jp3 a b i g p q o j) (Pst (kd:=kd) κ a b x st) st':=by
 unfold jp3
 refine Bf (aU GO ?_)
 have M':Mc κ a.toList b.toList (o.push xa).toList (i+1) j:=by rw [C0];exact M.pushA T.sa GO hle
 by_cases hia:i+1+1=a.size
 ·refine au (by simpa using hia) ?_
  exact Bj ⟨.inl ⟨_,_,rfl,T.ls M' hia⟩,ok⟩
 ·refine ay (by simpa using hia) ?_
  by_cases hpq:(decide (p < 7) && decide (q < 7))=true
  ·refine au hpq ?_
   exact Bj ⟨.inr ⟨_,_,_,_,_,_,rfl,M',by omega,hj,by omega⟩,ok⟩
  ·refine ay hpq ?_
   exact Bj ⟨_,_,_,_,_,_,rfl,M',by omega,hj,by omega,ok⟩
theorem eY {x y:Keyed}:bdB κ false (kof κ x) (kof κ y)=true→lek κ y x:=fun h=>by
 unfold bdB at h
 have h:(!κ.blt (kof κ x) (kof κ y))=true:=h
 show κ.blt (kof κ x) (kof κ y)=false
 simpa using h
theorem fy {x y:Keyed}:bdB κ false (kof κ x) (kof κ y)=false→lek κ x y:=fun h=>by
 unfold bdB at h
 have h:(!κ.blt (kof κ x) (kof κ y))=false:=h
 exact qF (by simpa using h)
theorem jz {x y:Keyed}:bdB κ true (kof κ x) (kof κ y)=true→lek κ y x:=fun h=>qF h
theorem gU {x y:Keyed}:bdB κ true (kof κ x) (kof κ y)=false→lek κ x y:=fun h=>h
theorem oi {st st':SortSt}{a b o:Array Keyed}{i j g p q x:Nat}{xb:Keyed}(hO:Lt1 κ prog w A s kd)(T:Two κ a b)(M:Mc κ a.toList b.toList o.toList i j)(hi:i+1 < a.size)(hj:j < b.size)(hx:x+2≤i+j)(ok:Ok kd st st')(GN:b.toList[j]? = some xb)(hle:Lel κ [xb] (a.toList.drop i)) :
  wpS (model prog w) A E s (jp2 a b j g p q o i) (Pst (kd:=kd) κ a b x st) st':=by
 have la:a.toList.length=a.size:=A0
 have lb:b.toList.length=b.size:=A0
 unfold jp2
 refine Bf (aU GN ?_)
 have M':Mc κ a.toList b.toList (o.push xb).toList i (j+1):=by rw [C0];exact M.pushB T.sb GN hle
 by_cases hjb:j+1=b.size
 ·refine au (by simpa using hjb) ?_
  exact Bj ⟨.inl ⟨_,_,rfl,T.dn M' (.inr hjb)⟩,ok⟩
 refine ay (by simpa using hjb) ?_
 obtain ⟨xa,GO,gxa⟩:=T.atA (i:=i) (by omega)
 refine Bf (aU GO (Bf (kH hO ok.tb gxa T.gb T.sb (by omega) fun k hk t1 t2=>?_)))
 dsimp only
 have MB:Mc κ a.toList b.toList ((o.push xb).toList++(b.toList.drop (j+1)).take k) i (j+1+k):=M'.pushBs T.sb k (by omega) fun z hz=>fx T.sa GO (jz (t1 z hz)) z (A2.mpr rfl)
 have rest:Lel κ [xa] (b.toList.drop (j+1+k)):=fun z hz y hy=>by
  rw [A2] at hz
  subst hz
  exact gU (t2 y hy)
 by_cases hk0:k > 0
 ·refine au hk0 ?_
  have MB':Mc κ a.toList b.toList (o.push xb++b.extract (j+1) (j+1+k)).toList i (j+1+k):=by rw [Es,kF];exact MB
  by_cases hje:j+1+k=b.size
  ·refine au (by simpa using hje) ?_
   exact Bj ⟨.inl ⟨_,_,rfl,T.dn MB' (.inr hje)⟩,ok⟩
  ·refine ay (by simpa using hje) ?_
   exact oh T MB' hi (by omega) (by omega) ok GO rest
 ·refine ay hk0 ?_
  have:k=0:=by omega
  subst this
  exact oh T M' hi (by omega) (by omega) ok GO rest
theorem oj {st st':SortSt}{a b o:Array Keyed}{i j g p q x:Nat}(hO:Lt1 κ prog w A s kd)(T:Two κ a b)(M:Mc κ a.toList b.toList o.toList i j)(hi:i+1 < a.size)(hj:j < b.size)(hx:x+2≤i+j)(ok:Ok kd st st') :
  wpS (model prog w) A E s (jp1 a b o i j p q g) (Pst (kd:=kd) κ a b x st) st':=by
 have la:a.toList.length=a.size:=A0
 have lb:b.toList.length=b.size:=A0
 unfold jp1
 refine Bf (gT ok fun st3 ok3=>?_)
 obtain ⟨xb,GN,gxb⟩:=T.atB hj
 refine Bf (aU GN (Bf (kH hO ok3.tb gxb T.ga T.sa (by omega) fun k hk t1 t2=>?_)))
 dsimp only
 have MA:Mc κ a.toList b.toList (o.toList++(a.toList.drop i).take k) (i+k) j:=M.pushAs T.sa k (by omega) fun z hz=>fx T.sb GN (eY (t1 z hz)) z (A2.mpr rfl)
 have rest:Lel κ [xb] (a.toList.drop (i+k)):=fun z hz y hy=>by
  rw [A2] at hz
  subst hz
  exact fy (t2 y hy)
 by_cases hk0:k > 0
 ·refine au hk0 ?_
  have MA':Mc κ a.toList b.toList (o++a.extract i (i+k)).toList (i+k) j:=by rw [Es,kF];exact MA
  by_cases h1:i+k+1=a.size
  ·refine au (by simpa using h1) ?_
   exact Bj ⟨.inl ⟨_,_,rfl,T.ls MA' h1⟩,ok3⟩
  ·refine ay (by simpa using h1) ?_
   by_cases h2:i+k=a.size
   ·refine au (by simpa using h2) ?_
    exact Bj ⟨.inl ⟨_,_,rfl,T.dn MA' (.inl h2)⟩,ok3⟩
   ·refine ay (by simpa using h2) ?_
    exact oi hO T MA' (by omega) hj (by omega) ok3 GN rest
 ·refine ay hk0 ?_
  have:k=0:=by omega
  subst this
  exact oi hO T M hi hj hx ok3 GN rest
abbrev TS (α:Type):=StateT SortSt Sem α
abbrev T6:=Option (Array Keyed) × Array Keyed × Nat × Nat × Nat × Nat
abbrev T5:=Option (Array Keyed) × Array Keyed × Nat × Nat × Nat
def mBe {α:Type}(c:Option (Array Keyed) × α):TS (Array Keyed):=match c.1 with
 | some r=>pure r
 | none=>unsupported "internal:list.sort.merge-bound"
def mB1 (a b:Array Keyed)(g:Nat):T6→TS (ForInStep T6):=fun (_,o,i,j,p,q)=>do
 let y ← elem' b j
 let x ← elem' a i
 let w ← lt' y x
 match w with
 | some w =>
  if w=true then do
   let e ← elem' b j
   if (j+1 == b.size)=true then pure (.done (some (mDn a b (o.push e) i (j+1)),o.push e,i,j+1,0,q+1))
   else if q+1≥g then pure (.done (none,o.push e,i,j+1,0,q+1)) else pure (.yield (none,o.push e,i,j+1,0,q+1))
  else do
   let e ← elem' a i
   if (i+1+1 == a.size)=true then pure (.done (some (mLa a b (o.push e) (i+1) j),o.push e,i+1,j,p+1,0))
   else if p+1≥g then pure (.done (none,o.push e,i+1,j,p+1,0)) else pure (.yield (none,o.push e,i+1,j,p+1,0))
 | _=>pure (.done (some (mDn a b o i j),o,i,j,p,q))
def mB3 (a b:Array Keyed):MSt→TS (ForInStep MSt):=fun (_,o,i,j,g,p,q)=>if g > 1 then jp1 a b o i j p q (g - 1) else jp1 a b o i j p q g
def mB2 (a b:Array Keyed)(g:Nat):T6→TS (ForInStep T5)
 | (some r,o,i,j,_)=>pure (.done (some r,o,i,j,g))
 | (none,o,i,j,p,q)=>do
  rule "list.sort.gallop"
  match ← forIn [0:a.size+b.size] ((none,o,i,j,g+1,p,q):MSt) fun _ d=>mB3 a b d with
  | (some r,o,i,j,g,_)=>pure (.done (some r,o,i,j,g))
  | (none,o,i,j,g,_)=>do
   smg (g+1)
   pure (.yield (none,o,i,j,g+1))
def mB0 (a b:Array Keyed):T5→TS (ForInStep T5):=fun (_,o,i,j,g)=>do
 let d ← forIn [0:a.size+b.size] ((none,o,i,j,0,0):T6) fun _ d=>mB1 a b g d
 mB2 a b g d
theorem uq (a b:Array Keyed):mlo a b=(do
 rule "list.sort.merge-lo"
 let e ← elem' b 0
 if (1 == b.size)=true then pure (mDn a b #[e] 0 1)
 else if (0+1 == a.size)=true then pure (mLa a b #[e] 0 1)
 else do
  let st ← get
  let c ← forIn [0:a.size+b.size] ((none,#[e],0,1,gallopOf st):T5) fun _ c=>mB0 a b c
  mBe c):=by
 rw [wK]
 refine Br (bind _) (funext fun u=>Br (bind _) (funext fun e=>Br (ite _ _) (Br (ite _ _) (Br (bind _) (funext fun st=>?_)))))
 refine congr (Br bind (Br (forIn _ _) (funext fun x=>funext fun c=>?_))) (funext fun c=>?_)
 ·refine congr (Br bind (Br (forIn _ _) (funext fun y=>funext fun d=>rfl))) (funext fun d=>?_)
  rcases d with ⟨_ | r,d⟩
  ·refine Br (bind _) (funext fun u=>?_)
   refine congr (Br bind (Br (forIn _ _) (funext fun y=>funext fun d=>rfl))) (funext fun d=>?_)
   rcases d with ⟨_ | r,d⟩ <;> rfl
  ·rfl
 ·rcases c with ⟨_ | r,c⟩ <;> rfl
theorem ur {st:SortSt}{a b:Array Keyed}{Q:Array Keyed→SortSt→Prop}(hO:Lt1 κ prog w A s kd)(hB:TB kd st)(ga:∀ x∈a.toList,Gd κ x)(gb:∀ x∈b.toList,Gd κ x)(sa:Srt κ a.toList)(sb:Srt κ b.toList)(h0:0 < a.size)(h1:0 < b.size)
  (hf:∀ x y,a.toList[0]? = some x→b.toList[0]? = some y→lek κ y x) (hl:∀ z,a.toList[a.size - 1]? = some z→Lel κ b.toList [z])
  (hq:∀ r st',Ok kd st st'→Mg κ a.toList b.toList r.toList→Q r st'):wpS (model prog w) A E s (mlo a b) Q st:=by
 have la:a.toList.length=a.size:=A0
 have lb:b.toList.length=b.size:=A0
 have hl:∀ z,a.toList[a.toList.length - 1]? = some z→Lel κ b.toList [z]:=by rw [la];exact hl
 have atA:∀ {i:Nat},i < a.size→∃ x,a.toList[i]? = some x∧Gd κ x:=fun {i} hi=>⟨a.toList[i]'(by omega),fu (by omega),ga _ (BF _)⟩
 have atB:∀ {i:Nat},i < b.size→∃ x,b.toList[i]? = some x∧Gd κ x:=fun {i} hi=>⟨b.toList[i]'(by omega),fu (by omega),gb _ (BF _)⟩
 rw [uq]
 refine Bf (Fx (CW ⟨rfl,?_⟩))
 obtain ⟨y0,ey0,gy0⟩:=atB h1
 obtain ⟨x0,ex0,gx0⟩:=atA h0
 refine Bf (aU ey0 ?_)
 have M0:Mc κ a.toList b.toList [y0] 0 1:=by
  have:Mc κ a.toList b.toList ([]++[y0]) 0 (0+1):=Mc.pushB (O:=[]) (i:=0) (j:=0) ⟨CQ _,.nil,(fun x hx=>by cases hx),(fun x hx=>by cases hx),BO _,BO _⟩ sb ey0 (fx sa ex0 (hf _ _ ex0 ey0))
  exact this
 have dn:∀ {o:Array Keyed} {i j:Nat},Mc κ a.toList b.toList o.toList i j→(i=a.size ∨ j=b.size)→Mg κ a.toList b.toList (mDn a b o i j).toList:=fun M h=>by rw [kC];exact M.done sa sb (by rw [la,lb];exact h)
 have ls:∀ {o:Array Keyed} {i j:Nat},Mc κ a.toList b.toList o.toList i j→i+1=a.size→Mg κ a.toList b.toList (mLa a b o i j).toList:=fun M h=>by rw [kE];exact M.last sa sb (by rw [la];exact h) hl
 by_cases hb1:1=b.size
 ·refine au (by simpa using hb1) ?_
  exact Bj (hq _ _ (.refl hB) (dn (o:=#[y0]) M0 (.inr hb1)))
 refine ay (by simpa using hb1) ?_
 by_cases ha1:0+1=a.size
 ·refine au (by simpa using ha1) ?_
  exact Bj (hq _ _ (.refl hB) (ls (o:=#[y0]) M0 ha1))
 refine ay (by simpa using ha1) ?_
 refine Bf (Er ?_)
 refine Bf (CC (B4 (I:=fun x c st'=>∃ o i j g,c=(none,o,i,j,g)∧Mc κ a.toList b.toList o.toList i j∧i+1 < a.size∧j < b.size∧x+1≤i+j∧Ok kd st st')
  (Q:=fun c st'=>∃ r z,c=(some r,z)∧Mg κ a.toList b.toList r.toList∧Ok kd st st') ?step ?fin ⟨#[y0],0,1,_,rfl,M0,by omega,by omega,by omega,.refl hB⟩) ?post)
 case post =>
  rintro c st' ⟨r,z,rfl,m,ok⟩
  unfold mBe
  exact Bj (hq _ _ ok m)
 case fin =>
  rintro c st' ⟨o,i,j,g,rfl,M,hi,hj,hx,ok⟩
  omega
 case step =>
  rintro x c st1 _ hx ⟨o,i,j,g,rfl,M,hi,hj,GB,ok1⟩
  unfold mB0
  dsimp only
  refine Bf (CC (B4 (I:=fun y c st'=>st'=st1∧∃ o i j p q,c=(none,o,i,j,p,q)∧Mc κ a.toList b.toList o.toList i j∧i+1 < a.size∧j < b.size∧x+1+y≤i+j)
   (Q:=fun c st'=>st'=st1∧((∃ r z,c=(some r,z)∧Mg κ a.toList b.toList r.toList) ∨ ∃ o i j p q,c=(none,o,i,j,p,q)∧Mc κ a.toList b.toList o.toList i j∧i+1 < a.size∧j < b.size∧x+2≤i+j)) ?step1 ?fin1 ⟨rfl,o,i,j,0,0,rfl,M,hi,hj,by omega⟩) ?post1)
  case fin1 =>
   rintro c st' ⟨rfl,o,i,j,p,q,rfl,M,hi,hj,hy⟩
   exact ⟨rfl,.inr ⟨o,i,j,p,q,rfl,M,hi,hj,by omega⟩⟩
  case step1 =>
   rintro y c st' _ hy ⟨rfl,o,i,j,p,q,rfl,M,hi,hj,GB⟩
   unfold mB1
   dsimp only
   obtain ⟨xb,GN,gxb⟩:=atB hj
   obtain ⟨xa,GO,gxa⟩:=atA (i:=i) (by omega)
   refine Bf (aU GN (Bf (aU GO (Bf (iU hO ok1.tb gxb gxa ?_)))))
   cases eb:κ.blt (kof κ xb) (kof κ xa) with
   | true =>
    simp only [CV]
    refine Bf (aU GN ?_)
    have M':Mc κ a.toList b.toList (o.push xb).toList i (j+1):=by rw [C0];exact M.pushB sb GN (fx sa GO (qF eb))
    by_cases hjb:j+1=b.size
    ·refine au (by simpa using hjb) ?_
     exact Bj ⟨rfl,.inl ⟨_,_,rfl,dn M' (.inr hjb)⟩⟩
    ·refine ay (by simpa using hjb) ?_
     by_cases hqg:q+1≥g
     ·refine au hqg ?_
      exact Bj ⟨rfl,.inr ⟨_,_,_,_,_,rfl,M',hi,by omega,by omega⟩⟩
     ·refine ay hqg ?_
      exact Bj ⟨rfl,_,_,_,_,_,rfl,M',hi,by omega,by omega⟩
   | false =>
    simp only [Bn,Cf]
    refine Bf (aU GO ?_)
    have M':Mc κ a.toList b.toList (o.push xa).toList (i+1) j:=by rw [C0];exact M.pushA sa GO (fx sb GN (not_lt eb))
    by_cases hia:i+1+1=a.size
    ·refine au (by simpa using hia) ?_
     exact Bj ⟨rfl,.inl ⟨_,_,rfl,ls M' hia⟩⟩
    ·refine ay (by simpa using hia) ?_
     by_cases hpg:p+1≥g
     ·refine au hpg ?_
      exact Bj ⟨rfl,.inr ⟨_,_,_,_,_,rfl,M',by omega,hj,by omega⟩⟩
     ·refine ay hpg ?_
      exact Bj ⟨rfl,_,_,_,_,_,rfl,M',by omega,hj,by omega⟩
  case post1 =>
   rintro c st' ⟨rfl,⟨r,z,rfl,m⟩ | ⟨o,i,j,p,q,rfl,M,hi,hj,GB⟩⟩
   ·exact Bj ⟨r,_,rfl,m,ok1⟩
   unfold mB2
   dsimp only
   refine Bf (Fx (CW ⟨rfl,?_⟩))
   refine Bf (CC (B4 (I:=fun y c st'=>∃ o i j g p q,c=(none,o,i,j,g,p,q)∧Mc κ a.toList b.toList o.toList i j∧i+1 < a.size∧j < b.size∧x+2≤i+j∧Ok kd st st')
    (Q:=fun c st'=>((∃ r z,c=(some r,z)∧Mg κ a.toList b.toList r.toList) ∨ ∃ o i j g p q,c=(none,o,i,j,g,p,q)∧Mc κ a.toList b.toList o.toList i j∧i+1 < a.size∧j < b.size∧x+2≤i+j)∧Ok kd st st') ?step2 ?fin2 ⟨o,i,j,_,p,q,rfl,M,hi,hj,GB,ok1⟩) ?post2)
   case fin2 =>
    rintro c st' ⟨o,i,j,g,p,q,rfl,M,hi,hj,GB,ok⟩
    exact ⟨.inr ⟨o,i,j,g,p,q,rfl,M,hi,hj,GB⟩,ok⟩
   case post2 =>
    rintro c st' ⟨⟨r,z,rfl,m⟩ | ⟨o,i,j,g,p,q,rfl,M,hi,hj,GB⟩,ok⟩
    ·exact Bj ⟨r,_,rfl,m,ok⟩
    ·dsimp only
     exact Bf (gT ok fun Gu ok'=>Bj ⟨o,i,j,_,rfl,M,hi,hj,by omega,ok'⟩)
   case step2 =>
    rintro y c GQ _ hy ⟨o,i,j,g,p,q,rfl,M,hi,hj,GB,ok2⟩
    change wpS _ _ _ _ (if g > 1 then jp1 a b o i j p q (g - 1) else jp1 a b o i j p q g) _ _
    refine CC (Q:=Pst (kd:=kd) κ a b x st) ?_ fun r st' h=>?_
    rotate_left
    ·cases r with
     | done c=>exact h
     | yield c=>exact h
    by_cases hg:g > 1
    ·refine au hg ?_
     exact oj hO ⟨ga,gb,sa,sb,by rw [← la];exact hl⟩ M hi hj GB ok2
    ·refine ay hg ?_
     exact oj hO ⟨ga,gb,sa,sb,by rw [← la];exact hl⟩ M hi hj GB ok2
end
end Tv
namespace Tv
open PySem PyProof.Rows
def mhi:Array Keyed→Array Keyed→StateT SortSt Sem (Array Keyed):=sortPriv% PySem.Builtin.mergeHi
abbrev hDn (a b o:Array Keyed)(i j:Nat):Array Keyed:=a.extract 0 i++b.extract 0 j++o.reverse
abbrev hFb (a b o:Array Keyed)(i j:Nat):Array Keyed:=b.extract 0 j++a.extract 0 i++o.reverse
theorem wL (a b:Array Keyed):mhi a b=(do
 rule "list.sort.merge-hi"
 let mut i:=a.size - 1
 let mut j:=b.size
 let mut o:Array Keyed:=#[← elem' a i]
 if i == 0 then return hDn a b o i j
 if j == 1 then return hFb a b o i j
 let mut g:=gallopOf (← get)
 for _ in [0:a.size+b.size] do
  let mut p:=0
  let mut q:=0
  for _ in [0:a.size+b.size] do
   let some w ← lt' (← elem' b (j - 1)) (← elem' a (i - 1)) | return hDn a b o i j
   if w then
    i:=i - 1
    o:=o.push (← elem' a i)
    p:=p+1
    q:=0
    if i == 0 then return hDn a b o i j
    if p≥g then break
   else
    j:=j - 1
    o:=o.push (← elem' b j)
    q:=q+1
    p:=0
    if j == 1 then return hFb a b o i j
    if q≥g then break
  rule "list.sort.gallop"
  g:=g+1
  for _ in [0:a.size+b.size] do
   if g > 1 then g:=g - 1
   smg g
   let some t ← gal false (← elem' b (j - 1)) a 0 i (i - 1) | return hDn a b o i j
   let k:=i - t
   p:=k
   if k > 0 then
    o:=o++(a.extract t i).reverse
    i:=t
    if i == 0 then return hDn a b o i j
   j:=j - 1
   o:=o.push (← elem' b j)
   if j == 1 then return hFb a b o i j
   let some t ← gal true (← elem' a (i - 1)) b 0 j (j - 1) | return hDn a b o i j
   let k:=j - t
   q:=k
   if k > 0 then
    o:=o++(b.extract t j).reverse
    j:=t
    if j == 1 then return hFb a b o i j
    if j == 0 then return hDn a b o i j
   i:=i - 1
   o:=o.push (← elem' a i)
   if i == 0 then return hDn a b o i j
   if p < 7 && q < 7 then break
  g:=g+1
  smg g
 unsupported "internal:list.sort.merge-bound"):=rfl
variable {κ:KeyKind} {kd:SortKind}
structure Mh (κ:KeyKind) (A B R:List Keyed) (i j:Nat):Prop where
 pm:R.Perm (A.drop i++B.drop j)
 so:Srt κ R
 la:Lel κ (A.take i) R
 lb:Lel κ (B.take j) R
 hi:i≤A.length
 hj:j≤B.length
theorem Mh.pushA {A B R:List Keyed}{i j:Nat}(M:Mh κ A B R (i+1) j)(sA:Srt κ A){x:Keyed}(h:A[i]? = some x)(hx:Lel κ (B.take j) [x]):Mh κ A B (x::R) i j:=by
 have et:=bq h
 have st:=sA.take (i+1)
 rw [et] at st
 have st':=br.mp st
 refine ⟨?_,Da.mpr ⟨fun y hy=>M.la x (by rw [et];simp) y hy,M.so⟩,fun y hy z hz=>?_,fun y hy z hz=>?_,by have:=M.hi;omega,M.hj⟩
 ·rw [bZ h,Fe]
  exact M.pm.cons x
 ·rcases Bm.mp hz with rfl | hz
  ·exact st'.2.2 y hy _ (by simp)
  ·exact M.la y (by rw [et];exact BB _ hy) z hz
 ·rcases Bm.mp hz with rfl | hz
  ·exact hx y hy _ (by simp)
  ·exact M.lb y hy z hz
theorem Mh.pushB {A B R:List Keyed}{i j:Nat}(M:Mh κ A B R i (j+1))(sB:Srt κ B){x:Keyed}(h:B[j]? = some x)(hx:Lel κ (A.take i) [x]):Mh κ A B (x::R) i j:=by
 have et:=bq h
 have st:=sB.take (j+1)
 rw [et] at st
 have st':=br.mp st
 refine ⟨?_,Da.mpr ⟨fun y hy=>M.lb x (by rw [et];simp) y hy,M.so⟩,fun y hy z hz=>?_,fun y hy z hz=>?_,M.hi,by have:=M.hj;omega⟩
 ·rw [bZ h]
  exact (M.pm.cons x).trans List.perm_middle.symm
 ·rcases Bm.mp hz with rfl | hz
  ·exact hx y hy _ (by simp)
  ·exact M.la y hy z hz
 ·rcases Bm.mp hz with rfl | hz
  ·exact st'.2.2 y hy _ (by simp)
  ·exact M.lb y (by rw [et];exact BB _ hy) z hz
theorem Mh.pushAs {A B R:List Keyed}{t j:Nat}(sA:Srt κ A):∀ k,Mh κ A B R (t+k) j→Lel κ (B.take j) ((A.drop t).take k)→Mh κ A B ((A.drop t).take k++R) t j
 | 0,M,_=>by simpa using M
 | k+1,M,hl=>by
  have Gw:t+k < A.length:=by have:=M.hi;omega
  have e:(A.drop t)[k]? = some A[t+k]:=by rw [BV,fu Gw]
  have et:(A.drop t).take (k+1)=(A.drop t).take k++[A[t+k]]:=bq e
  rw [et] at hl ⊢
  have M1:Mh κ A B (A[t+k]::R) (t+k) j:=Mh.pushA M sA (fu Gw) fun y hy z hz=>hl y hy z (Bk _ hz)
  have:=Mh.pushAs sA k M1 fun y hy z hz=>hl y hy z (BB _ hz)
  rw [Bc]
  exact this
theorem Mh.pushBs {A B R:List Keyed}{t i:Nat}(sB:Srt κ B):∀ k,Mh κ A B R i (t+k)→Lel κ (A.take i) ((B.drop t).take k)→Mh κ A B ((B.drop t).take k++R) i t
 | 0,M,_=>by simpa using M
 | k+1,M,hl=>by
  have Gw:t+k < B.length:=by have:=M.hj;omega
  have e:(B.drop t)[k]? = some B[t+k]:=by rw [BV,fu Gw]
  have et:(B.drop t).take (k+1)=(B.drop t).take k++[B[t+k]]:=bq e
  rw [et] at hl ⊢
  have M1:Mh κ A B (B[t+k]::R) i (t+k):=Mh.pushB M sB (fu Gw) fun y hy z hz=>hl y hy z (Bk _ hz)
  have:=Mh.pushBs sB k M1 fun y hy z hz=>hl y hy z (BB _ hz)
  rw [Bc]
  exact this
theorem Mh.perm {A B R:List Keyed}{i j:Nat}(M:Mh κ A B R i j):(A.take i++B.take j++R).Perm (A++B):=by
 have h1:(A.take i++B.take j++R).Perm (A.take i++B.take j++(A.drop i++B.drop j)):=M.pm.append_left _
 refine h1.trans ?_
 have h2:((A.take i++B.take j)++(A.drop i++B.drop j)).Perm ((A.take i++A.drop i)++(B.take j++B.drop j)):=by
  rw [Bc,Bc]
  refine Cm _ ?_
  rw [← Bc,← Bc]
  exact DT _ B8
 rw [Bu,Bu] at h2
 exact h2
theorem Mh.done {A B R:List Keyed}{i j:Nat}(M:Mh κ A B R i j)(sA:Srt κ A)(sB:Srt κ B)(h:i=0 ∨ j=0):Mg κ A B (A.take i++B.take j++R):=by
 refine ⟨M.perm,br.mpr ⟨br.mpr ⟨sA.take i,sB.take j,fun x hx y hy=>?_⟩,M.so,fun o ho y hy=>?_⟩⟩
 ·rcases h with h | h
  ·subst h;simp at hx
  ·subst h;simp at hy
 ·rcases Bo.mp ho with ho | ho
  ·exact M.la o ho y hy
  ·exact M.lb o ho y hy
theorem Mh.first {A B R:List Keyed}{i j:Nat}(M:Mh κ A B R i j)(sA:Srt κ A)(sB:Srt κ B)(h:j=1)(hf:∀ z,B[0]? = some z→Lel κ [z] A):Mg κ A B (B.take j++A.take i++R):=by
 refine ⟨List.Perm.trans (DT _ B8) M.perm,br.mpr ⟨br.mpr ⟨sB.take j,sA.take i,fun x hx y hy=>?_⟩,M.so,fun o ho y hy=>?_⟩⟩
 ·subst h
  cases B with
  | nil=>simp at hx
  | cons z B =>
   have hx:x=z:=by simpa using hx
   subst hx
   exact hf x rfl x (by simp) y (Ce hy)
 ·rcases Bo.mp ho with ho | ho
  ·exact M.lb o ho y hy
  ·exact M.la o ho y hy
theorem qG (a b o:Array Keyed)(i j:Nat):(hDn a b o i j).toList=a.toList.take i++b.toList.take j++o.toList.reverse:=by
 simp [hDn,Cc]
theorem qH (a b o:Array Keyed)(i j:Nat):(hFb a b o i j).toList=b.toList.take j++a.toList.take i++o.toList.reverse:=by
 simp [hFb,Cc]
theorem om (a:Array Keyed)(t i:Nat):((a.extract t i).reverse).toList.reverse=(a.toList.drop t).take (i - t):=by
 simp [Cc]
section
variable {prog:Program} {w:World} {A:Around} {E:Value→Shared→Prop} {s:Shared}
theorem kI {st:SortSt}{lf:Bool}{key:Keyed}{arr:Array Keyed}{n:Nat}{Q:Option Nat→SortSt→Prop}(hO:Lt1 κ prog w A s kd)(hB:TB kd st)(hk:Gd κ key)(hg:∀ x∈arr.toList,Gd κ x)(sa:Srt κ arr.toList)(hn:0 < n)(hna:n≤arr.size)
  (hq:∀ k,k≤n→(∀ x∈arr.toList.take k,bdB κ lf (kof κ key) (kof κ x)=true)→(∀ x∈(arr.toList.drop k).take (n - k),bdB κ lf (kof κ key) (kof κ x)=false)→Q (some k) st) :
  wpS (model prog w) A E s (gal lf key arr 0 n (n - 1)) Q st:=by
 have hl:arr.toList.length=arr.size:=A0
 refine jy hO hB hk (fun t=>match arr.toList[t]? with | some p=>bdB κ lf (kof κ key) (kof κ p) | none=>false) (by omega) (fun t ht=>?_) (fun t u htu hu hb=>?_) (fun k hk' h1 h2=>hq k (by omega) (fun x hx=>?_) fun x hx=>?_)
 ·have Gw:t < arr.toList.length:=by omega
  have e:=fu Gw
  refine ⟨arr.toList[t],by rw [FK];simpa using e,hg _ (BF Gw),?_⟩
  rw [e]
 ·have h1:t < arr.toList.length:=by omega
  have h2:u < arr.toList.length:=by omega
  have e1:=fu h1
  have e2:=fu h2
  rw [e2] at hb
  rw [e1]
  exact kG (sa.at (by omega) e1 e2) hb
 ·obtain ⟨t,e⟩:=Cd hx
  have ht:t < k:=by
   have:=(A6.mp e).1
   rw [Bd] at this
   omega
  rw [DN,if_pos ht] at e
  have:=h1 t ht
  rw [e] at this
  exact this
 ·obtain ⟨t,e⟩:=Cd hx
  have ht:t < n - k:=by
   have:=(A6.mp e).1
   rw [Bd] at this
   omega
  rw [DN,if_pos ht,BV] at e
  have:=h2 (k+t) (by omega) (by omega)
  rw [e] at this
  exact this
theorem gX {l:List Keyed}(sl:Srt κ l){i:Nat}{x y:Keyed}(e:l[i]? = some y)(h:lek κ y x):Lel κ (l.take (i+1)) [x]:=fun z hz t ht=>by
 rw [A2] at ht
 subst ht
 rw [bq e] at hz
 rcases Bo.mp hz with hz | hz
 ·have st:=sl.take (i+1)
  rw [bq e] at st
  exact dX ((br.mp st).2.2 z hz y (by simp)) h
 ·rw [A2] at hz
  subst hz
  exact h
structure mj (κ:KeyKind) (a b:Array Keyed):Prop where
 ga:∀ x∈a.toList,Gd κ x
 gb:∀ x∈b.toList,Gd κ x
 sa:Srt κ a.toList
 sb:Srt κ b.toList
 hf:∀ z,b.toList[0]? = some z→Lel κ [z] a.toList
theorem mj.atA {a b:Array Keyed}(T:mj κ a b){i:Nat}(hi:i < a.size):∃ x,a.toList[i]? = some x∧Gd κ x:=⟨a.toList[i]'(by rw [A0]; exact hi),fu (by rw [A0]; exact hi),T.ga _ (BF _)⟩
theorem mj.atB {a b:Array Keyed}(T:mj κ a b){i:Nat}(hi:i < b.size):∃ x,b.toList[i]? = some x∧Gd κ x:=⟨b.toList[i]'(by rw [A0]; exact hi),fu (by rw [A0]; exact hi),T.gb _ (BF _)⟩
theorem mj.dn {a b:Array Keyed}(T:mj κ a b){o:Array Keyed}{i j:Nat}(M:Mh κ a.toList b.toList o.toList.reverse i j)(h:i=0 ∨ j=0):Mg κ a.toList b.toList (hDn a b o i j).toList:=by
 rw [qG]
 exact M.done T.sa T.sb h
theorem mj.fb {a b:Array Keyed}(T:mj κ a b){o:Array Keyed}{i j:Nat}(M:Mh κ a.toList b.toList o.toList.reverse i j)(h:j=1):Mg κ a.toList b.toList (hFb a b o i j).toList:=by
 rw [qH]
 exact M.first T.sa T.sb h T.hf
theorem eZ (o:Array Keyed)(x:Keyed):(o.push x).toList.reverse=x::o.toList.reverse:=by simp
theorem oo (o:Array Keyed)(a:Array Keyed)(t i:Nat):(o++(a.extract t i).reverse).toList.reverse=(a.toList.drop t).take (i - t)++o.toList.reverse:=by
 rw [Es,List.reverse_append,om]
abbrev HSt:=Option (Array Keyed) × Nat × Nat × Array Keyed × Nat × Nat × Nat
def hq3 (a b:Array Keyed)(i g p q j:Nat)(o:Array Keyed):StateT SortSt Sem (ForInStep HSt):=do
 let e ← elem' a (i - 1)
 if (i - 1 == 0)=true then pure (.done (some (hDn a b (o.push e) (i - 1) j),i - 1,j,o.push e,g,p,q))
 else if (decide (p < 7) && decide (q < 7))=true then pure (.done (none,i - 1,j,o.push e,g,p,q)) else pure (.yield (none,i - 1,j,o.push e,g,p,q))
def hq2 (a b:Array Keyed)(j g p q i:Nat)(o:Array Keyed):StateT SortSt Sem (ForInStep HSt):=do
 let e ← elem' b (j - 1)
 if (j - 1 == 1)=true then pure (.done (some (hFb a b (o.push e) i (j - 1)),i,j - 1,o.push e,g,p,q))
 else do
  let f ← elem' a (i - 1)
  let y ← gal true f b 0 (j - 1) (j - 1 - 1)
  match y with
  | some t=>if j - 1 - t > 0 then (if (t == 1)=true then pure (.done (some (hFb a b (o.push e++(b.extract t (j - 1)).reverse) i t),i,t,o.push e++(b.extract t (j - 1)).reverse,g,p,j - 1 - t)) else if (t == 0)=true then pure (.done (some (hDn a b (o.push e++(b.extract t (j - 1)).reverse) i t),i,t,o.push e++(b.extract t (j - 1)).reverse,g,p,j - 1 - t)) else hq3 a b i g p (j - 1 - t) t (o.push e++(b.extract t (j - 1)).reverse)) else hq3 a b i g p (j - 1 - t) (j - 1) (o.push e)
  | _=>pure (.done (some (hDn a b (o.push e) i (j - 1)),i,j - 1,o.push e,g,p,q))
def hq1 (a b:Array Keyed)(i j:Nat)(o:Array Keyed)(p q g:Nat):StateT SortSt Sem (ForInStep HSt):=do
 smg g
 let e ← elem' b (j - 1)
 let y ← gal false e a 0 i (i - 1)
 match y with
 | some t=>if i - t > 0 then (if (t == 0)=true then pure (.done (some (hDn a b (o++(a.extract t i).reverse) t j),t,j,o++(a.extract t i).reverse,g,i - t,q)) else hq2 a b j g (i - t) q t (o++(a.extract t i).reverse)) else hq2 a b j g (i - t) q i o
 | _=>pure (.done (some (hDn a b o i j),i,j,o,g,p,q))
def Hst (κ:KeyKind)(a b:Array Keyed)(x:Nat)(st:SortSt)(r:ForInStep HSt)(st':SortSt):Prop:=match r with
 | .done c=>((∃ r z,c=(some r,z)∧Mg κ a.toList b.toList r.toList) ∨ ∃ i j o g p q,c=(none,i,j,o,g,p,q)∧Mh κ a.toList b.toList o.toList.reverse i j∧0 < i∧1 < j∧x+2+i+j≤a.size+b.size)∧Ok kd st st'
 | .yield c=>∃ i j o g p q,c=(none,i,j,o,g,p,q)∧Mh κ a.toList b.toList o.toList.reverse i j∧0 < i∧1 < j∧x+2+i+j≤a.size+b.size∧Ok kd st st'
theorem oq {st st':SortSt}{a b o:Array Keyed}{i j g p q x:Nat}{xa:Keyed}(T:mj κ a b)(M:Mh κ a.toList b.toList o.toList.reverse i j)(hi:0 < i)(hj:1 < j)(hx:x+2+i+j≤a.size+b.size)(ok:Ok kd st st')(GO:a.toList[i - 1]? = some xa)(hle:Lel κ (b.toList.take j) [xa]) :
  wpS (model prog w) A E s (hq3 a b i g p q j o) (Hst (kd:=kd) κ a b x st) st':=by
 unfold hq3
 refine Bf (aU GO ?_)
 have M':Mh κ a.toList b.toList (o.push xa).toList.reverse (i - 1) j:=by
  rw [eZ]
  exact Mh.pushA (by rw [show i - 1+1=i by omega];exact M) T.sa GO hle
 by_cases h0:i - 1=0
 ·refine au (by simpa using h0) ?_
  exact Bj ⟨.inl ⟨_,_,rfl,T.dn M' (.inl h0)⟩,ok⟩
 ·refine ay (by simpa using h0) ?_
  by_cases hpq:(decide (p < 7) && decide (q < 7))=true
  ·refine au hpq ?_
   exact Bj ⟨.inr ⟨_,_,_,_,_,_,rfl,M',by omega,hj,by omega⟩,ok⟩
  ·refine ay hpq ?_
   exact Bj ⟨_,_,_,_,_,_,rfl,M',by omega,hj,by omega,ok⟩
theorem ou {st st':SortSt}{a b o:Array Keyed}{i j g p q x:Nat}{xb:Keyed}(hO:Lt1 κ prog w A s kd)(T:mj κ a b)(M:Mh κ a.toList b.toList o.toList.reverse i j)(hi:0 < i)(hj:1 < j)(hx:x+2+i+j≤a.size+b.size)(ok:Ok kd st st')(GN:b.toList[j - 1]? = some xb)(hle:Lel κ (a.toList.take i) [xb]) :
  wpS (model prog w) A E s (hq2 a b j g p q i o) (Hst (kd:=kd) κ a b x st) st':=by
 have la:a.toList.length=a.size:=A0
 have lb:b.toList.length=b.size:=A0
 have hia:=M.hi
 have hjb:=M.hj
 unfold hq2
 refine Bf (aU GN ?_)
 have M':Mh κ a.toList b.toList (o.push xb).toList.reverse i (j - 1):=by
  rw [eZ]
  exact Mh.pushB (by rw [show j - 1+1=j by omega];exact M) T.sb GN hle
 by_cases h1:j - 1=1
 ·refine au (by simpa using h1) ?_
  exact Bj ⟨.inl ⟨_,_,rfl,T.fb M' h1⟩,ok⟩
 refine ay (by simpa using h1) ?_
 obtain ⟨xa,GO,gxa⟩:=T.atA (i:=i - 1) (by omega)
 refine Bf (aU GO (Bf (kI hO ok.tb gxa T.gb T.sb (by omega) (by omega) fun t ht t1 t2=>?_)))
 dsimp only
 have up:Lel κ (b.toList.take t) [xa]:=fun z hz y hy=>by
  rw [A2] at hy
  subst hy
  exact jz (t1 z hz)
 have MB:Mh κ a.toList b.toList ((b.toList.drop t).take (j - 1 - t)++(o.push xb).toList.reverse) i t:=Mh.pushBs T.sb (j - 1 - t) (by rw [show t+(j - 1 - t)=j - 1 by omega];exact M') fun y hy z hz=>by
  have:=gX T.sa GO (gU (t2 z hz))
  rw [show i - 1+1=i by omega] at this
  exact this y hy z (by simp)
 by_cases hk0:j - 1 - t > 0
 ·refine au hk0 ?_
  have MB':Mh κ a.toList b.toList (o.push xb++(b.extract t (j - 1)).reverse).toList.reverse i t:=by rw [oo];exact MB
  by_cases ht1:t=1
  ·refine au (by simpa using ht1) ?_
   exact Bj ⟨.inl ⟨_,_,rfl,T.fb MB' ht1⟩,ok⟩
  ·refine ay (by simpa using ht1) ?_
   by_cases ht0:t=0
   ·refine au (by simpa using ht0) ?_
    exact Bj ⟨.inl ⟨_,_,rfl,T.dn MB' (.inr ht0)⟩,ok⟩
   ·refine ay (by simpa using ht0) ?_
    exact oq T MB' hi (by omega) (by omega) ok GO up
 ·refine ay hk0 ?_
  have:t=j - 1:=by omega
  subst this
  exact oq T M' hi (by omega) (by omega) ok GO up
theorem ox {st st':SortSt}{a b o:Array Keyed}{i j g p q x:Nat}(hO:Lt1 κ prog w A s kd)(T:mj κ a b)(M:Mh κ a.toList b.toList o.toList.reverse i j)(hi:0 < i)(hj:1 < j)(hx:x+2+i+j≤a.size+b.size)(ok:Ok kd st st') :
  wpS (model prog w) A E s (hq1 a b i j o p q g) (Hst (kd:=kd) κ a b x st) st':=by
 have la:a.toList.length=a.size:=A0
 have lb:b.toList.length=b.size:=A0
 have hia:=M.hi
 have hjb:=M.hj
 unfold hq1
 refine Bf (gT ok fun st3 ok3=>?_)
 obtain ⟨xb,GN,gxb⟩:=T.atB (i:=j - 1) (by omega)
 refine Bf (aU GN (Bf (kI hO ok3.tb gxb T.ga T.sa hi (by omega) fun t ht t1 t2=>?_)))
 dsimp only
 have up:Lel κ (a.toList.take t) [xb]:=fun z hz y hy=>by
  rw [A2] at hy
  subst hy
  exact eY (t1 z hz)
 have MA:Mh κ a.toList b.toList ((a.toList.drop t).take (i - t)++o.toList.reverse) t j:=Mh.pushAs T.sa (i - t) (by rw [show t+(i - t)=i by omega];exact M) fun y hy z hz=>by
  have:=gX T.sb GN (fy (t2 z hz))
  rw [show j - 1+1=j by omega] at this
  exact this y hy z (by simp)
 by_cases hk0:i - t > 0
 ·refine au hk0 ?_
  have MA':Mh κ a.toList b.toList (o++(a.extract t i).reverse).toList.reverse t j:=by rw [oo];exact MA
  by_cases ht0:t=0
  ·refine au (by simpa using ht0) ?_
   exact Bj ⟨.inl ⟨_,_,rfl,T.dn MA' (.inl ht0)⟩,ok3⟩
  ·refine ay (by simpa using ht0) ?_
   exact ou hO T MA' (by omega) hj (by omega) ok3 GN up
 ·refine ay hk0 ?_
  have:t=i:=by omega
  subst this
  exact ou hO T M hi hj hx ok3 GN up
abbrev H6:=Option (Array Keyed) × Nat × Nat × Array Keyed × Nat × Nat
abbrev H5:=Option (Array Keyed) × Nat × Nat × Array Keyed × Nat
def hB1 (a b:Array Keyed)(g:Nat):H6→TS (ForInStep H6):=fun (_,i,j,o,p,q)=>do
 let y ← elem' b (j - 1)
 let x ← elem' a (i - 1)
 let w ← lt' y x
 match w with
 | some w =>
  if w=true then do
   let e ← elem' a (i - 1)
   if (i - 1 == 0)=true then pure (.done (some (hDn a b (o.push e) (i - 1) j),i - 1,j,o.push e,p+1,0))
   else if p+1≥g then pure (.done (none,i - 1,j,o.push e,p+1,0)) else pure (.yield (none,i - 1,j,o.push e,p+1,0))
  else do
   let e ← elem' b (j - 1)
   if (j - 1 == 1)=true then pure (.done (some (hFb a b (o.push e) i (j - 1)),i,j - 1,o.push e,0,q+1))
   else if q+1≥g then pure (.done (none,i,j - 1,o.push e,0,q+1)) else pure (.yield (none,i,j - 1,o.push e,0,q+1))
 | _=>pure (.done (some (hDn a b o i j),i,j,o,p,q))
def hB3 (a b:Array Keyed):HSt→TS (ForInStep HSt):=fun (_,i,j,o,g,p,q)=>if g > 1 then hq1 a b i j o p q (g - 1) else hq1 a b i j o p q g
def hB2 (a b:Array Keyed)(g:Nat):H6→TS (ForInStep H5)
 | (some r,i,j,o,_)=>pure (.done (some r,i,j,o,g))
 | (none,i,j,o,p,q)=>do
  rule "list.sort.gallop"
  match ← forIn [0:a.size+b.size] ((none,i,j,o,g+1,p,q):HSt) fun _ d=>hB3 a b d with
  | (some r,i,j,o,g,_)=>pure (.done (some r,i,j,o,g))
  | (none,i,j,o,g,_)=>do
   smg (g+1)
   pure (.yield (none,i,j,o,g+1))
def hB0 (a b:Array Keyed):H5→TS (ForInStep H5):=fun (_,i,j,o,g)=>do
 let d ← forIn [0:a.size+b.size] ((none,i,j,o,0,0):H6) fun _ d=>hB1 a b g d
 hB2 a b g d
theorem uu (a b:Array Keyed):mhi a b=(do
 rule "list.sort.merge-hi"
 let e ← elem' a (a.size - 1)
 if (a.size - 1 == 0)=true then pure (hDn a b #[e] (a.size - 1) b.size)
 else if (b.size == 1)=true then pure (hFb a b #[e] (a.size - 1) b.size)
 else do
  let st ← get
  let c ← forIn [0:a.size+b.size] ((none,a.size - 1,b.size,#[e],gallopOf st):H5) fun _ c=>hB0 a b c
  mBe c):=by
 rw [wL]
 refine Br (bind _) (funext fun u=>Br (bind _) (funext fun e=>Br (ite _ _) (Br (ite _ _) (Br (bind _) (funext fun st=>?_)))))
 refine congr (Br bind (Br (forIn _ _) (funext fun x=>funext fun c=>?_))) (funext fun c=>?_)
 ·refine congr (Br bind (Br (forIn _ _) (funext fun y=>funext fun d=>rfl))) (funext fun d=>?_)
  rcases d with ⟨_ | r,d⟩
  ·refine Br (bind _) (funext fun u=>?_)
   refine congr (Br bind (Br (forIn _ _) (funext fun y=>funext fun d=>rfl))) (funext fun d=>?_)
   rcases d with ⟨_ | r,d⟩ <;> rfl
  ·rfl
 ·rcases c with ⟨_ | r,c⟩ <;> rfl
theorem uv {st:SortSt}{a b:Array Keyed}{Q:Array Keyed→SortSt→Prop}(hO:Lt1 κ prog w A s kd)(hB:TB kd st)(T:mj κ a b)(h0:0 < a.size)(h1:0 < b.size)
  (hl:∀ z,a.toList[a.size - 1]? = some z→Lel κ b.toList [z])
  (hq:∀ r st',Ok kd st st'→Mg κ a.toList b.toList r.toList→Q r st'):wpS (model prog w) A E s (mhi a b) Q st:=by
 have la:a.toList.length=a.size:=A0
 have lb:b.toList.length=b.size:=A0
 rw [uu]
 refine Bf (Fx (CW ⟨rfl,?_⟩))
 obtain ⟨z0,ez0,gz0⟩:=T.atA (i:=a.size - 1) (by omega)
 refine Bf (aU ez0 ?_)
 have M0:Mh κ a.toList b.toList (#[z0]:Array Keyed).toList.reverse (a.size - 1) b.size:=by
  have:Mh κ a.toList b.toList [z0] (a.size - 1) b.size:=Mh.pushA (R:=[]) (by
   rw [show a.size - 1+1=a.size by omega]
   refine ⟨?_,.nil,(fun x hx y hy=>by cases hy),(fun x hx y hy=>by cases hy),by omega,by omega⟩
   rw [C_ (by omega),C_ (by omega)]
   exact CQ _) T.sa ez0 (by rw [By (by omega)];exact hl _ ez0)
  exact this
 by_cases ha1:a.size - 1=0
 ·refine au (by simpa using ha1) ?_
  exact Bj (hq _ _ (.refl hB) (T.dn M0 (.inl ha1)))
 refine ay (by simpa using ha1) ?_
 by_cases hb1:b.size=1
 ·refine au (by simpa using hb1) ?_
  exact Bj (hq _ _ (.refl hB) (T.fb M0 hb1))
 refine ay (by simpa using hb1) ?_
 refine Bf (Er ?_)
 refine Bf (CC (B4 (I:=fun x c st'=>∃ i j o g,c=(none,i,j,o,g)∧Mh κ a.toList b.toList o.toList.reverse i j∧0 < i∧1 < j∧x+1+i+j≤a.size+b.size∧Ok kd st st')
  (Q:=fun c st'=>∃ r z,c=(some r,z)∧Mg κ a.toList b.toList r.toList∧Ok kd st st') ?step ?fin ⟨_,_,_,_,rfl,M0,by omega,by omega,by omega,.refl hB⟩) ?post)
 case post =>
  rintro c st' ⟨r,z,rfl,m,ok⟩
  unfold mBe
  exact Bj (hq _ _ ok m)
 case fin =>
  rintro c st' ⟨i,j,o,g,rfl,M,hi,hj,hx,ok⟩
  omega
 case step =>
  rintro x c st1 _ hx ⟨i,j,o,g,rfl,M,hi,hj,GB,ok1⟩
  unfold hB0
  dsimp only
  refine Bf (CC (B4 (I:=fun y c st'=>st'=st1∧∃ i j o p q,c=(none,i,j,o,p,q)∧Mh κ a.toList b.toList o.toList.reverse i j∧0 < i∧1 < j∧x+1+y+i+j≤a.size+b.size)
   (Q:=fun c st'=>st'=st1∧((∃ r z,c=(some r,z)∧Mg κ a.toList b.toList r.toList) ∨ ∃ i j o p q,c=(none,i,j,o,p,q)∧Mh κ a.toList b.toList o.toList.reverse i j∧0 < i∧1 < j∧x+2+i+j≤a.size+b.size)) ?step1 ?fin1 ⟨rfl,i,j,o,0,0,rfl,M,hi,hj,by omega⟩) ?post1)
  case fin1 =>
   rintro c st' ⟨rfl,i,j,o,p,q,rfl,M,hi,hj,hy⟩
   exact ⟨rfl,.inr ⟨i,j,o,p,q,rfl,M,hi,hj,by omega⟩⟩
  case step1 =>
   rintro y c st' _ hy ⟨rfl,i,j,o,p,q,rfl,M,hi,hj,GB⟩
   unfold hB1
   dsimp only
   have hia:=M.hi
   have hjb:=M.hj
   obtain ⟨xb,GN,gxb⟩:=T.atB (i:=j - 1) (by omega)
   obtain ⟨xa,GO,gxa⟩:=T.atA (i:=i - 1) (by omega)
   refine Bf (aU GN (Bf (aU GO (Bf (iU hO ok1.tb gxb gxa ?_)))))
   cases eb:κ.blt (kof κ xb) (kof κ xa) with
   | true =>
    simp only [CV]
    refine Bf (aU GO ?_)
    have M':Mh κ a.toList b.toList (o.push xa).toList.reverse (i - 1) j:=by
     rw [eZ]
     refine Mh.pushA (by rw [show i - 1+1=i by omega];exact M) T.sa GO ?_
     have:=gX T.sb GN (qF eb)
     rwa [show j - 1+1=j by omega] at this
    by_cases hi0:i - 1=0
    ·refine au (by simpa using hi0) ?_
     exact Bj ⟨rfl,.inl ⟨_,_,rfl,T.dn M' (.inl hi0)⟩⟩
    ·refine ay (by simpa using hi0) ?_
     by_cases hpg:p+1≥g
     ·refine au hpg ?_
      exact Bj ⟨rfl,.inr ⟨_,_,_,_,_,rfl,M',by omega,hj,by omega⟩⟩
     ·refine ay hpg ?_
      exact Bj ⟨rfl,_,_,_,_,_,rfl,M',by omega,hj,by omega⟩
   | false =>
    simp only [Bn,Cf]
    refine Bf (aU GN ?_)
    have M':Mh κ a.toList b.toList (o.push xb).toList.reverse i (j - 1):=by
     rw [eZ]
     refine Mh.pushB (by rw [show j - 1+1=j by omega];exact M) T.sb GN ?_
     have:=gX T.sa GO (not_lt eb)
     rwa [show i - 1+1=i by omega] at this
    by_cases hj1:j - 1=1
    ·refine au (by simpa using hj1) ?_
     exact Bj ⟨rfl,.inl ⟨_,_,rfl,T.fb M' hj1⟩⟩
    ·refine ay (by simpa using hj1) ?_
     by_cases hqg:q+1≥g
     ·refine au hqg ?_
      exact Bj ⟨rfl,.inr ⟨_,_,_,_,_,rfl,M',hi,by omega,by omega⟩⟩
     ·refine ay hqg ?_
      exact Bj ⟨rfl,_,_,_,_,_,rfl,M',hi,by omega,by omega⟩
  case post1 =>
   rintro c st' ⟨rfl,⟨r,z,rfl,m⟩ | ⟨i,j,o,p,q,rfl,M,hi,hj,GB⟩⟩
   ·exact Bj ⟨r,_,rfl,m,ok1⟩
   unfold hB2
   dsimp only
   refine Bf (Fx (CW ⟨rfl,?_⟩))
   refine Bf (CC (B4 (I:=fun y c st'=>∃ i j o g p q,c=(none,i,j,o,g,p,q)∧Mh κ a.toList b.toList o.toList.reverse i j∧0 < i∧1 < j∧x+2+i+j≤a.size+b.size∧Ok kd st st')
    (Q:=fun c st'=>((∃ r z,c=(some r,z)∧Mg κ a.toList b.toList r.toList) ∨ ∃ i j o g p q,c=(none,i,j,o,g,p,q)∧Mh κ a.toList b.toList o.toList.reverse i j∧0 < i∧1 < j∧x+2+i+j≤a.size+b.size)∧Ok kd st st') ?step2 ?fin2 ⟨i,j,o,_,p,q,rfl,M,hi,hj,GB,ok1⟩) ?post2)
   case fin2 =>
    rintro c st' ⟨i,j,o,g,p,q,rfl,M,hi,hj,GB,ok⟩
    exact ⟨.inr ⟨i,j,o,g,p,q,rfl,M,hi,hj,GB⟩,ok⟩
   case post2 =>
    rintro c st' ⟨⟨r,z,rfl,m⟩ | ⟨i,j,o,g,p,q,rfl,M,hi,hj,GB⟩,ok⟩
    ·exact Bj ⟨r,_,rfl,m,ok⟩
    ·dsimp only
     exact Bf (gT ok fun Gu ok'=>Bj ⟨i,j,o,_,rfl,M,hi,hj,by omega,ok'⟩)
   case step2 =>
    rintro y c GQ _ hy ⟨i,j,o,g,p,q,rfl,M,hi,hj,GB,ok2⟩
    change wpS _ _ _ _ (if g > 1 then hq1 a b i j o p q (g - 1) else hq1 a b i j o p q g) _ _
    refine CC (Q:=Hst (kd:=kd) κ a b x st) ?_ fun r st' h=>?_
    rotate_left
    ·cases r with
     | done c=>exact h
     | yield c=>exact h
    by_cases hg:g > 1
    ·refine au hg ?_
     exact ox hO T M hi hj GB ok2
    ·refine ay hg ?_
     exact ox hO T M hi hj GB ok2
end
end Tv
namespace Tv
open PySem PyProof.Rows
variable {κ:KeyKind} {kd:SortKind}
def SrI (κ:KeyKind)(xs:Array Keyed)(lo hi:Nat):Prop:=∀ i j,lo≤i→i≤j→j < hi→κ.kle (KK κ xs i) (KK κ xs j)
def NiI (κ:KeyKind)(xs:Array Keyed)(lo hi:Nat):Prop:=∀ i j,lo≤i→i≤j→j < hi→κ.kle (KK κ xs j) (KK κ xs i)
structure Rp (lo hi:Nat) (xs ys:Array Keyed):Prop where
 pm:ys.Perm xs
 out:∀ k,(k < lo ∨ hi≤k)→ys[k]? = xs[k]?
theorem Rp.refl (lo hi:Nat)(xs:Array Keyed):Rp lo hi xs xs:=⟨Fv _,fun _ _=>rfl⟩
theorem Rp.trans {lo hi:Nat}{xs ys zs:Array Keyed}(h:Rp lo hi xs ys)(g:Rp lo hi ys zs):Rp lo hi xs zs:=⟨g.pm.trans h.pm,fun k hk=>(g.out k hk).trans (h.out k hk)⟩
theorem Rp.size {lo hi:Nat}{xs ys:Array Keyed}(h:Rp lo hi xs ys):ys.size=xs.size:=h.pm.size_eq
theorem Rp.mirror {lo hi i j:Nat}{xs:Array Keyed}(h1:lo≤i)(h2:j≤hi)(hj:j≤xs.size):Rp lo hi xs (mirror xs i j ((j - i) / 2)):=by
 refine ⟨mirror_perm _ _ _ _,fun k hk=>?_⟩
 rw [getElem?_mirror_all hj,if_neg (by omega)]
theorem Rp.bubble {lo hi src d:Nat}{xs:Array Keyed}(h1:lo+d≤src)(h2:src < hi)(hs:src < xs.size):Rp lo hi xs (bubble xs src d):=by
 refine ⟨bubble_perm _ _ _,fun k hk=>?_⟩
 rw [getElem?_bubble hs d (by omega),if_neg (by omega),if_neg (by omega)]
structure Rs (kd:SortKind) (κ:KeyKind) (lo hi:Nat) (st st':SortSt):Prop where
 tb:TB kd st'
 pd:pendingOf st'=pendingOf st
 gd:∀ x∈(arrOf st').toList,Gd κ x
 rp:Rp lo hi (arrOf st) (arrOf st')
theorem Rs.refl {lo hi:Nat}{st:SortSt}(h:TB kd st)(g:∀ x∈(arrOf st).toList,Gd κ x):Rs kd κ lo hi st st:=⟨h,rfl,g,.refl _ _ _⟩
theorem Rs.arr {lo hi:Nat}{st st':SortSt}(h:Rs kd κ lo hi st st'){ys:Array Keyed}(r:Rp lo hi (arrOf st') ys):Rs kd κ lo hi st (setArr st' ys) :=
 ⟨⟨h.tb.kind,h.tb.failed⟩,h.pd,fun x hx=>h.gd x ((Cp.mp r.pm).mem_iff.mp hx),h.rp.trans r⟩
theorem wM {xs:Array Keyed}(g:∀ x∈xs.toList,Gd κ x){i:Nat}(hi:i < xs.size):∃ x p,xs[i]? = some (x,p)∧κ.keyOf x=some (KK κ xs i):=by
 have e:xs[i]? = some xs[i]:=Fw xs i hi
 refine ⟨xs[i].1,xs[i].2,e,?_⟩
 have:=(g xs[i] (by simp)).eq
 rw [this]
 unfold KK kof
 rw [e]
section
variable {prog:Program} {w:World} {A:Around} {E:Value→Shared→Prop} {s:Shared}
theorem eI {st:SortSt}{i j:Nat}{Q:Option Bool→SortSt→Prop}(hO:Lt1 κ prog w A s kd)(hB:TB kd st)(g:∀ x∈(arrOf st).toList,Gd κ x)(hi:i < (arrOf st).size)(hj:j < (arrOf st).size)
  (h:Q (some (κ.blt (KK κ (arrOf st) i) (KK κ (arrOf st) j))) st):wpS (model prog w) A E s (ltAt' i j) Q st:=by
 obtain ⟨x,p,e1,k1⟩:=wM g hi
 obtain ⟨y,q,e2,k2⟩:=wM g hj
 have hx:Gd κ (x,p):=⟨_,k1⟩
 have hy:Gd κ (y,q):=⟨_,k2⟩
 rw [ltAt'_eq]
 refine Bf (Er ?_)
 show wpS _ _ _ _ (do let x ← elem' (arrOf st) i;let y ← elem' (arrOf st) j;lt' x y) Q st
 rw [elem'_eq,elem'_eq,e1,e2]
 refine Bf (Bj (Bf (Bj (iU hO hB hx hy ?_))))
 have a1:kof κ (x,p)=_:=A_ (hx.eq.symm.trans k1)
 have a2:kof κ (y,q)=_:=A_ (hy.eq.symm.trans k2)
 rw [a1,a2]
 exact h
def yT (lo a nr:Nat):StateT SortSt Sem (Option Nat):=do
 let mut n:=a
 for _ in [a:nr] do
  let some sm ← ltAt' (lo+n) (lo+n - 1) | return none
  if sm then break
  n:=n+1
 return some n
def uw (lo a nr:Nat):StateT SortSt Sem (Option Nat):=do
 reverseSlice' lo (lo+a)
 yT lo a nr
def yU (lo a nr:Nat):StateT SortSt Sem (Option Nat):=do
 rule "list.sort.descending-run"
 let mut n:=a+1
 let mut e:=0
 for _ in [a+1:nr] do
  let some sm ← ltAt' (lo+n) (lo+n - 1) | return none
  if sm then
   if e > 0 then reverseSlice' (lo+n - (e+1)) (lo+n)
   e:=0
  else
   let some lg ← ltAt' (lo+n - 1) (lo+n) | return none
   if lg then break
   e:=e+1
  n:=n+1
 if e > 0 then reverseSlice' (lo+n - (e+1)) (lo+n)
 uw lo n nr
theorem oy {xs:Array Keyed}{lo x:Nat}(a1:SrI κ xs lo (lo+x))(h1:1≤x)(e:κ.blt (KK κ xs (lo+x)) (KK κ xs (lo+x - 1))=false):SrI κ xs lo (lo+(x+1)):=fun i j hi GB hj=>by
 by_cases q:j < lo+x
 ·exact a1 i j hi GB q
 ·have:j=lo+x:=by omega
  subst this
  by_cases q2:i=lo+x
  ·subst q2;exact Cg _
  ·exact C6 (a1 i (lo+x - 1) hi (by omega) (by omega)) e
theorem qI {st:SortSt}{lo a nr:Nat}{Q:Option Nat→SortSt→Prop}(hO:Lt1 κ prog w A s kd)(hB:TB kd st)(g:∀ x∈(arrOf st).toList,Gd κ x)(h1:1≤a)(h2:a≤nr)(h3:lo+nr≤(arrOf st).size)(hs:SrI κ (arrOf st) lo (lo+a))
  (h:∀ n,a≤n→n≤nr→SrI κ (arrOf st) lo (lo+n)→Q (some n) st):wpS (model prog w) A E s (yT lo a nr) Q st:=by
 unfold yT
 refine Bf (CC (B4 (I:=fun x c st'=>st'=st∧c=(none,x)∧SrI κ (arrOf st) lo (lo+x))
  (Q:=fun c st'=>st'=st∧∃ n,c=(none,n)∧a≤n∧n≤nr∧SrI κ (arrOf st) lo (lo+n)∧(n=nr ∨ κ.klt (KK κ (arrOf st) (lo+n)) (KK κ (arrOf st) (lo+n - 1)))) ?step ?fin ⟨rfl,rfl,hs⟩) ?post)
 case fin =>
  rintro c st' ⟨rfl,rfl,a1⟩
  have e:max a nr=nr:=by omega
  rw [e] at a1 ⊢
  exact ⟨rfl,nr,rfl,by omega,A8 _,a1,.inl rfl⟩
 case step =>
  rintro x c st' hx1 hx2 ⟨rfl,rfl,a1⟩
  dsimp only
  refine Bf (eI hO hB g (by omega) (by omega) ?_)
  cases e:κ.blt (KK κ (arrOf st') (lo+x)) (KK κ (arrOf st') (lo+x - 1)) with
  | true =>
   simp only [CV]
   exact Bj ⟨rfl,x,rfl,hx1,by omega,a1,.inr e⟩
  | false =>
   simp only [Bn,Cf]
   exact Bj ⟨rfl,rfl,oy a1 (by omega) e⟩
 case post =>
  rintro c st' ⟨rfl,n,rfl,a1,a2,a3,a4⟩
  exact Bj (h n a1 a2 a3)
theorem iV {st st':SortSt}{lo a nr:Nat}{Q:Option Nat→SortSt→Prop}(hO:Lt1 κ prog w A s kd)(R:Rs kd κ lo (lo+nr) st st')(h1:1≤a)(h2:a≤nr)(h3:lo+nr≤(arrOf st).size)(hs:NiI κ (arrOf st') lo (lo+a))
  (h:∀ n Gu,1≤n→n≤nr→Rs kd κ lo (lo+nr) st Gu→SrI κ (arrOf Gu) lo (lo+n)→Q (some n) Gu):wpS (model prog w) A E s (uw lo a nr) Q st':=by
 have hz:=R.rp.size
 unfold uw
 refine Bf (wpS_reverse ?_)
 have R':Rs kd κ lo (lo+nr) st (setArr st' (mirror (arrOf st') lo (lo+a) ((lo+a - lo) / 2))):=R.arr (Rp.mirror (A8 _) (by omega) (by omega))
 refine qI hO R'.tb R'.gd h1 h2 (by rw [R'.rp.size];exact h3) (fun i j hi GB hj=>?_) fun n a1 a2 a3=>h n _ (by omega) a2 R' a3
 show κ.kle (KK κ (mirror (arrOf st') lo (lo+a) ((lo+a - lo) / 2)) i) (KK κ (mirror (arrOf st') lo (lo+a) ((lo+a - lo) / 2)) j)
 rw [KK_mirror (by omega),KK_mirror (by omega),if_pos (by omega),if_pos (by omega)]
 exact hs _ _ (by omega) (by omega) (by omega)
theorem kJ {st st':SortSt}{lo a nr:Nat}{Q:Option Nat→SortSt→Prop}(hO:Lt1 κ prog w A s kd)(R:Rs kd κ lo (lo+nr) st st')(h2:a+1≤nr)(h3:lo+nr≤(arrOf st).size)(hs:NiI κ (arrOf st') lo (lo+(a+1)))
  (h:∀ n Gu,1≤n→n≤nr→Rs kd κ lo (lo+nr) st Gu→SrI κ (arrOf Gu) lo (lo+n)→Q (some n) Gu):wpS (model prog w) A E s (yU lo a nr) Q st':=by
 unfold yU
 refine Bf (Fx (CW ⟨rfl,?_⟩))
 dsimp only
 refine Bf (CC (B4 (I:=fun x c Gu=>∃ e,c=(none,x,e)∧Rs kd κ lo (lo+nr) st Gu∧NiI κ (arrOf Gu) lo (lo+x)∧e+1≤x∧∀ i,lo+x - (e+1)≤i→i < lo+x→KK κ (arrOf Gu) i=KK κ (arrOf Gu) (lo+x - 1))
  (Q:=fun c Gu=>∃ x e,c=(none,x,e)∧a+1≤x∧x≤nr∧Rs kd κ lo (lo+nr) st Gu∧NiI κ (arrOf Gu) lo (lo+x)∧e+1≤x∧∀ i,lo+x - (e+1)≤i→i < lo+x→KK κ (arrOf Gu) i=KK κ (arrOf Gu) (lo+x - 1)) ?step ?fin ⟨0,rfl,R,hs,by omega,fun i h1 h2=>by congr 1;omega⟩) ?post)
 case fin =>
  rintro c Gu ⟨e,rfl,R,hs,he,hk⟩
  have ex:max (a+1) nr=nr:=by omega
  rw [ex] at hs he hk ⊢
  exact ⟨nr,e,rfl,h2,A8 _,R,hs,he,hk⟩
 case post =>
  rintro c Gu ⟨x,e,rfl,hx1,hx2,R,hs,he,hk⟩
  have hz:=R.rp.size
  dsimp only
  by_cases h0:e > 0
  ·refine au h0 ?_
   refine Bf (wpS_reverse ?_)
   refine iV hO (R.arr (Rp.mirror (by omega) (by omega) (by omega))) (by omega) hx2 h3 (fun i j hi GB hj=>?_) h
   show κ.kle (KK κ (mirror (arrOf Gu) _ _ _) j) (KK κ (mirror (arrOf Gu) _ _ _) i)
   rw [DO (by omega) hk,DO (by omega) hk]
   exact hs i j hi GB hj
  ·refine ay h0 ?_
   exact iV hO R (by omega) hx2 h3 hs h
 case step =>
  rintro x c Gu hx1 hx2 ⟨e,rfl,R,hs,he,hk⟩
  have hz:=R.rp.size
  dsimp only
  refine Bf (eI hO R.tb R.gd (by omega) (by omega) ?_)
  cases e1:κ.blt (KK κ (arrOf Gu) (lo+x)) (KK κ (arrOf Gu) (lo+x - 1)) with
  | true =>
   simp only [CV]
   have nx:∀ xs:Array Keyed,(∀ k,KK κ xs k=KK κ (arrOf Gu) k)→NiI κ xs lo (lo+(x+1)):=fun xs ek i j hi GB hj=>by
    rw [ek,ek]
    by_cases q:j < lo+x
    ·exact hs i j hi GB q
    ·have:j=lo+x:=by omega
     subst this
     by_cases q2:i=lo+x
     ·subst q2;exact Cg _
     ·exact C6 (Dm e1) (hs i (lo+x - 1) hi (by omega) (by omega))
   by_cases h0:e > 0
   ·refine au h0 ?_
    exact Bf (wpS_reverse (Bj ⟨0,rfl,R.arr (Rp.mirror (by omega) (by omega) (by omega)),nx _ (DO (by omega) hk),by omega,fun i h1 h2=>by congr 1;omega⟩))
   ·refine ay h0 ?_
    exact Bj ⟨0,rfl,R,nx _ fun _=>rfl,by omega,fun i h1 h2=>by congr 1;omega⟩
  | false =>
   simp only [Bn,Cf]
   refine Bf (eI hO R.tb R.gd (by omega) (by omega) ?_)
   cases e2:κ.blt (KK κ (arrOf Gu) (lo+x - 1)) (KK κ (arrOf Gu) (lo+x)) with
   | true =>
    simp only [CV]
    exact Bj ⟨x,e,rfl,hx1,by omega,R,hs,he,hk⟩
   | false =>
    simp only [Bn,Cf]
    have ee:KK κ (arrOf Gu) (lo+x)=KK κ (arrOf Gu) (lo+x - 1):=KeyOrd.kle_antisymm e2 e1
    refine Bj ⟨e+1,rfl,R,fun i j hi GB hj=>?_,by omega,fun i h1 h2=>?_⟩
    ·by_cases q:j < lo+x
     ·exact hs i j hi GB q
     ·have:j=lo+x:=by omega
      subst this
      by_cases q2:i=lo+x
      ·subst q2;exact Cg _
      ·rw [ee];exact hs i (lo+x - 1) hi (by omega) (by omega)
    ·rw [show lo+(x+1) - 1=lo+x by omega]
     by_cases q:i=lo+x
     ·subst q;rfl
     ·rw [ee];exact hk i (by omega) (by omega)
theorem qJ {st:SortSt}{lo nr:Nat}{Q:Option Nat→SortSt→Prop}(hO:Lt1 κ prog w A s kd)(hB:TB kd st)(g:∀ x∈(arrOf st).toList,Gd κ x)(h1:1≤nr)(h3:lo+nr≤(arrOf st).size)
  (h:∀ n st',1≤n→n≤nr→Rs kd κ lo (lo+nr) st st'→SrI κ (arrOf st') lo (lo+n)→Q (some n) st'):wpS (model prog w) A E s (countRun' lo nr) Q st:=by
 have R:Rs kd κ lo (lo+nr) st st:=.refl hB g
 rw [countRun'_eq]
 change wpS _ _ _ _ (do
  let mut n:=1
  for _ in [1:nr] do
   let some sm ← ltAt' (lo+n) (lo+n - 1) | return none
   if sm then break
   n:=n+1
  if n == nr then return some n
  if n > 1 then
   let some rs ← ltAt' lo (lo+n - 1) | return none
   if rs then return some n
   reverseSlice' lo (lo+n)
  yU lo n nr) _ _
 refine Bf (CC (B4 (I:=fun x c st'=>st'=st∧c=(none,x)∧SrI κ (arrOf st) lo (lo+x))
  (Q:=fun c st'=>st'=st∧∃ n,c=(none,n)∧1≤n∧n≤nr∧SrI κ (arrOf st) lo (lo+n)∧(n=nr ∨ κ.klt (KK κ (arrOf st) (lo+n)) (KK κ (arrOf st) (lo+n - 1)))) ?step ?fin ⟨rfl,rfl,fun i j hi GB hj=>by have:i=j:=(by omega);subst this;exact Cg _⟩) ?post)
 case fin =>
  rintro c st' ⟨rfl,rfl,a1⟩
  have e:max 1 nr=nr:=by omega
  rw [e] at a1 ⊢
  exact ⟨rfl,nr,rfl,by omega,A8 _,a1,.inl rfl⟩
 case step =>
  rintro x c st' hx1 hx2 ⟨rfl,rfl,a1⟩
  dsimp only
  refine Bf (eI hO hB g (by omega) (by omega) ?_)
  cases e:κ.blt (KK κ (arrOf st') (lo+x)) (KK κ (arrOf st') (lo+x - 1)) with
  | true =>
   simp only [CV]
   exact Bj ⟨rfl,x,rfl,hx1,by omega,a1,.inr e⟩
  | false =>
   simp only [Bn,Cf]
   exact Bj ⟨rfl,rfl,oy a1 (by omega) e⟩
 rintro c st' ⟨rfl,n,rfl,a1,a2,a3,a4⟩
 dsimp only
 by_cases hn:n=nr
 ·refine au (by simpa using hn) ?_
  exact Bj (h n st' a1 a2 R a3)
 ·refine ay (by simpa using hn) ?_
  have lt:κ.klt (KK κ (arrOf st') (lo+n)) (KK κ (arrOf st') (lo+n - 1)):=a4.resolve_left hn
  by_cases hg:n > 1
  ·refine au hg ?_
   refine Bf (eI hO hB g (by omega) (by omega) ?_)
   cases e:κ.blt (KK κ (arrOf st') lo) (KK κ (arrOf st') (lo+n - 1)) with
   | true =>
    simp only [CV]
    exact Bj (h n st' a1 a2 R a3)
   | false =>
    simp only [Bn,Cf]
    refine Bf (wpS_reverse ?_)
    have same:∀ i,lo≤i→i < lo+n→KK κ (arrOf st') i=KK κ (arrOf st') (lo+n - 1):=fun i hi1 hi2=>by
     have b1:=a3 i (lo+n - 1) hi1 (by omega) (by omega)
     have b2:=a3 lo i (A8 _) hi1 hi2
     exact KeyOrd.kle_antisymm b1 (C6 e b2)
    refine kJ hO (R.arr (Rp.mirror (A8 _) (by omega) (by omega))) (by omega) h3 (fun i j hi GB hj=>?_) h
    show κ.kle (KK κ (mirror (arrOf st') _ _ _) j) (KK κ (mirror (arrOf st') _ _ _) i)
    rw [DO (by omega) same,DO (by omega) same]
    by_cases q:j < lo+n
    ·rw [same i hi (by omega),same j (by omega) q]
     exact Cg _
    ·have:j=lo+n:=by omega
     subst this
     by_cases q2:i=lo+n
     ·subst q2;exact Cg _
     ·rw [same i hi (by omega)]
      exact Dm lt
  ·refine ay hg ?_
   have:n=1:=by omega
   subst this
   refine kJ hO R (by omega) h3 (fun i j hi GB hj=>?_) h
   by_cases q2:i=j
   ·subst q2;exact Cg _
   ·have e1:i=lo:=by omega
    have e2:j=lo+1:=by omega
    subst e1 e2
    exact Dm lt
end
end Tv
namespace Tv
open PySem PyProof.Rows
variable {κ:KeyKind} {kd:SortKind}
section
variable {prog:Program} {w:World} {A:Around} {E:Value→Shared→Prop} {s:Shared}
theorem qK {st:SortSt}{lo n ok:Nat}{Q:Bool→SortSt→Prop}(hO:Lt1 κ prog w A s kd)(hB:TB kd st)(g:∀ x∈(arrOf st).toList,Gd κ x)(hn:lo+n≤(arrOf st).size)(hok:ok≤n)(hs:SrI κ (arrOf st) lo (lo+ok))
  (h:∀ st',Rs kd κ lo (lo+n) st st'→SrI κ (arrOf st') lo (lo+n)→Q true st'):wpS (model prog w) A E s (binarySort' lo n ok) Q st:=by
 rw [binarySort'_eq]
 refine Bf (CC (B4 (I:=fun y c st'=>c=(none,())∧Rs kd κ lo (lo+n) st st'∧SrI κ (arrOf st') lo (lo+min y n))
  (Q:=fun c st'=>c=(none,())∧Rs kd κ lo (lo+n) st st'∧SrI κ (arrOf st') lo (lo+n)) ?step ?fin ?init) ?post)
 case post =>
  rintro c st' ⟨rfl,R,hs'⟩
  exact Bj (h st' R hs')
 case init =>
  refine ⟨rfl,.refl hB g,fun i j hi GB hj=>?_⟩
  by_cases e:i=j
  ·subst e;exact Cg _
  ·exact hs i j hi GB (by omega)
 case fin =>
  rintro c st' ⟨hc,R,hs'⟩
  rw [show min (max (max ok 1) n) n=n by omega] at hs'
  exact ⟨hc,R,hs'⟩
 case step =>
  rintro y c st' hy1 hy2 ⟨rfl,R,hs'⟩
  have hz:=R.rp.size
  rw [show min y n=y by omega] at hs'
  refine Bf (CC (B4 (I:=fun x c Gu=>Gu=st'∧∃ l r,c=(none,l,r)∧l≤r∧r≤y∧r - l≤y - x ∧
    (∀ i,lo≤i→i < lo+l→κ.kle (KK κ (arrOf st') i) (KK κ (arrOf st') (lo+y)))∧(∀ i,lo+r≤i→i < lo+y→κ.klt (KK κ (arrOf st') (lo+y)) (KK κ (arrOf st') i)))
   (Q:=fun c Gu=>Gu=st'∧∃ l r,c=(none,l,r)∧l≤y ∧
    (∀ i,lo≤i→i < lo+l→κ.kle (KK κ (arrOf st') i) (KK κ (arrOf st') (lo+y)))∧(∀ i,lo+l≤i→i < lo+y→κ.klt (KK κ (arrOf st') (lo+y)) (KK κ (arrOf st') i))) ?istep ?ifin ?iinit) ?ipost)
  case iinit=>exact ⟨rfl,0,y,rfl,by omega,by omega,by omega,fun i h1 h2=>by omega,fun i h1 h2=>by omega⟩
  case ifin =>
   rintro c Gu ⟨rfl,l,r,rfl,q1,q2,q3,q4,q5⟩
   have:l=r:=by omega
   subst this
   exact ⟨rfl,l,l,rfl,q2,q4,q5⟩
  case istep =>
   rintro x c Gu _ hx ⟨rfl,l,r,rfl,q1,q2,q3,q4,q5⟩
   dsimp only
   by_cases hge:l≥r
   ·refine au hge ?_
    have:l=r:=by omega
    subst this
    exact Bj ⟨rfl,l,l,rfl,q2,q4,q5⟩
   ·refine ay hge ?_
    refine Bf (eI hO R.tb R.gd (by omega) (by omega) ?_)
    cases e:κ.blt (KK κ (arrOf Gu) (lo+y)) (KK κ (arrOf Gu) (lo+(l+r) / 2)) with
    | true =>
     simp only [CV]
     refine Bj ⟨rfl,l,(l+r) / 2,rfl,by omega,by omega,by omega,q4,fun i h1 h2=>?_⟩
     exact KeyOrd.klt_of_klt_of_kle e (hs' _ _ (by omega) h1 h2)
    | false =>
     simp only [Bn,Cf]
     refine Bj ⟨rfl,(l+r) / 2+1,r,rfl,by omega,by omega,by omega,fun i h1 h2=>?_,q5⟩
     exact C6 (hs' i (lo+(l+r) / 2) h1 (by omega) (by omega)) (show κ.kle _ _ from e)
  case ipost =>
   rintro c Gu ⟨rfl,l,r,rfl,hl,q4,q5⟩
   show wpS _ _ _ _ (do moveDown' (lo+y) (lo+l);pure (ForInStep.yield (none,()))) _ _
   rw [moveDown'_eq]
   have hk:lo+y < (arrOf Gu).size:=by omega
   refine Bf (DB (Bj ⟨rfl,R.arr (Rp.bubble (by omega) (by omega) hk),?_⟩))
   rw [show min (y+1) n=y+1 by omega]
   intro i j hi GB hj
   show κ.kle (KK κ (bubble (arrOf Gu) (lo+y) (lo+y - (lo+l))) i) (KK κ (bubble (arrOf Gu) (lo+y) (lo+y - (lo+l))) j)
   rw [KK_bubble hk (by omega),KK_bubble hk (by omega),show lo+y - (lo+y - (lo+l))=lo+l by omega]
   repeat' split
   all_goals first
    | (exfalso;omega)
    | exact Cg _
    | exact q4 _ (by omega) (by omega)
    | exact Dm (q5 _ (by omega) (by omega))
    | exact hs' _ _ (by omega) (by omega) (by omega)
end
theorem oz:∀ (r:List Keyed) (z b:Nat) (arr:Array Keyed) (X Y Z:List Keyed),arr.toList=X++(Y++Z)→X.length=z+b→Y.length=r.length →
  ((r.zipIdx b).foldl (fun a (p,j)=>a.setIfInBounds (z+j) p) arr).toList=X++(r++Z)
 | [],z,b,arr,X,Y,Z,e,h1,h2=>by
  rw [DP.mp h2] at e
  exact e
 | p::r,z,b,arr,X,Y,Z,e,h1,h2=>by
  cases Y with
  | nil=>simp at h2
  | cons y Y =>
   rw [Fi,List.foldl_cons]
   have:=oz r z (b+1) (arr.setIfInBounds (z+b) p) (X++[p]) Y Z (by
    rw [Ex,e,← h1,List.set_append_right _ _ (A8 _),D2]
    simp) (by simp [h1];omega) (by simpa using h2)
   rw [this]
   simp
def mAt (i:Nat):StateT SortSt Sem Bool:=do
 let u ← get
 let (some (za,la,pw),some (zb,lb,_)):=((pendingOf u)[i]?,(pendingOf u)[i+1]?) | unsupported "internal:list.sort.pending"
 set (setPending u (((pendingOf u).setIfInBounds i (za,la+lb,pw)).eraseIdxIfInBounds (i+1)))
 let some c ← gal false (← elem' (arrOf u) zb) (arrOf u) za la 0 | return false
 let (za,la):=(za+c,la - c)
 if la == 0 then return true
 let some lb ← gal true (← elem' (arrOf u) (za+la - 1)) (arrOf u) zb lb (lb - 1) | return false
 if lb == 0 then return true
 let x:=(arrOf u).extract za zb
 let y:=(arrOf u).extract zb (zb+lb)
 let out ← if la≤lb then mlo x y else mhi x y
 modify fun v=>setArr v (out.toList.zipIdx.foldl (fun a (p,j)=>a.setIfInBounds (za+j) p) (arrOf v))
 return (failedOf (← get)).isNone
theorem wN (i:Nat):mergeAt' i=mAt i:=rfl
end Tv
namespace Tv
open PySem PyProof.Rows
variable {κ:KeyKind} {kd:SortKind}
section
variable {prog:Program} {w:World} {A:Around} {E:Value→Shared→Prop} {s:Shared}
end
end Tv
namespace HT
open PySem PySem.Spec PyProof.Rows
section
variable {prog:Program} {w:World} {A:Around} {E:Value→Shared→Prop} {s:Shared}
theorem oA {t sl:Addr}{Gp:Array Value}{vl vu:Value}{lo hi:Option Int}{Q:Value→Shared→Prop}(ht:IsTup s.heap t Gp)(hs:s.heap.IsSliceOf sl vl vu .none)(pl:IsPart vl lo)(pu:IsPart vu hi)
  (hw:sIx Gp.size 0 lo=0∧sIx Gp.size Gp.size hi=Gp.size) (h:Q (.ref t) s):wpAny (model prog w) A (getItem (.ref t) (.ref sl)) Q E s:=by
 obtain ⟨os,hos,hcs,hds⟩:=id hs
 have hTs:s.TypeIs (.ref sl) "slice":=⟨os,hos,hcs⟩
 unfold getItem
 try with_reducible refine Ca ?_
 first | refine AX (A4 ?_) | skip
 refine AX (ER ht.typeIs (by decide) ?_)
 refine AX (CA (name:=Str.ofString "__getitem__") ht.typeIs B2 (Cj B2 ht.typeIs El ?_ (ED _ _)))
 show wpAny _ _ (Builtin.Tuple.tupleItemsOf (.ref t) >>= _) _ _ s
 refine AX (tupleItemsOf_ ht (AX (D0 hTs ?_)))
 rw [if_pos (by decide)]
 refine AX (cH hs pl pu ?_)
 show wpAny _ _ (if (((sIx Gp.size 0 lo:Nat):Int) == 0 && (1:Int) == 1 && (sIx Gp.size Gp.size hi - sIx Gp.size 0 lo) == Gp.size)=true then _ else _) _ _ s
 rw [if_pos (by rw [hw.1,hw.2];simp)]
 refine AX ?_
 unfold Builtin.Tuple.tupleIsExact
 refine AX (D0 ht.typeIs (A4 ?_))
 rw [if_pos (by decide)]
 refine AX (CW ?_)
 first
  | exact A4 ⟨_,rfl,A4 h⟩
  | exact AX (A4 (A4 ⟨_,rfl,A4 h⟩))
end
end HT
namespace L2
open PySem PySem.Spec PyProof.Rows Wd
inductive wO (K:PySem.W.Frag)(x:V)(lo:Option Int)(hi:Option Int)(H:Hp)(Q:VK):Prop
 | mk:∀ a xs,(x = .ref a)→(SqT K H a xs)→((fk xs lo hi=xs→Q (.ref a) H))→(∀ p,H p=none→Q (.ref p) (upd H p (.tup (fk xs lo hi))))→wO K x lo hi H Q
theorem ux {X:Cx}:SlR X (wO X.K):=by
 intro Gn s σ H x v vl vu lo hi sl Q I rx hs pl pu h
 obtain ⟨a,xs,rfl,hx,hw,q⟩:=h
 by_cases hh:HT.sIx xs.length 0 lo=0∧HT.sIx xs.length xs.length hi=xs.length
 ·cases rx
  obtain ⟨Gp,r,ht,hz⟩:=I.tuple hx
  have hlen:Gp.toArray.size=xs.length:=by rw [Be];exact r.length.symm
  have e:fk xs lo hi=xs:=by unfold fk;rw [hh.1,hh.2,Do,Ft,Ds]
  exact ⟨"tuple",_,B2.lookup,ht.typeIs,HT.oA ht hs pl pu (by rw [hlen];exact hh) ⟨.ref a,H,I,rfl,hw e⟩⟩
 ·exact wb Gn s σ H (.ref a) v vl vu lo hi sl Q I rx hs pl pu ⟨a,xs,rfl,hx,hh,q⟩
end L2
namespace PySem
open Sem (wp)
section
variable {prog:Program} {w:World} {A:Around} {E:Value→Shared→Prop} {s:Shared}
def ddp (val:Nat→Str):Nat→List Str
 | 0=>[]
 | i+1=>if val i∈ddp val i then ddp val i else ddp val i++[val i]
theorem oB (val:Nat→Str):∀ i,(ddp val i).length≤i
 | 0=>A8 _
 | i+1=>by
  have ih:=oB val i
  unfold ddp
  split
  ·omega
  ·rw [A7,Dd];omega
section
variable {R:Result→Shared→Prop} {I:Addr} {fp wr:List Addr} {G:Array GenState→Array GenState→Prop} {n:Nat} {P:Nat→Value→Prop} {St:Nat→Shared→Prop}
end
abbrev sob (led:Bool):Obj:={ cls:=.type "set",dict:=none,data:=.set #[] 0 (.fresh 0 0 led) }
end
def qL (xs:Array Nat):Prop:=∀ (i j a b:Nat),i < j→xs[i]? = some a→xs[j]? = some b→a < b
theorem gY {xs:Array Nat}{j:Nat}(hr:qL xs):∀ (f lo hi:Nat),hi - lo≤f→lo≤hi→hi≤xs.size→(∀ i a,i < lo→xs[i]? = some a→a < j)→(∀ i a,hi≤i→xs[i]? = some a→j≤a) →
  SetTable.below.go xs j f lo hi≤xs.size∧(∀ i a,i < SetTable.below.go xs j f lo hi→xs[i]? = some a→a < j)∧∀ i a,SetTable.below.go xs j f lo hi≤i→xs[i]? = some a→j≤a
 | 0,lo,hi,h,h1,h2,l,u=>by
  have e:lo=hi:=by omega
  unfold SetTable.below.go
  exact ⟨by omega,l,by rw [e];exact u⟩
 | f+1,lo,hi,h,h1,h2,l,u=>by
  unfold SetTable.below.go
  by_cases Gw:lo < hi
  ·rw [if_pos Gw]
   have hm:(lo+hi) / 2 < xs.size:=by omega
   have em:xs[(lo+hi) / 2]? = some xs[(lo+hi) / 2]:=Fw xs _ hm
   have eg:xs.getD ((lo+hi) / 2) j=xs[(lo+hi) / 2]:=by simp [Array.getD,hm]
   dsimp only
   rw [eg]
   split
   ·rename_i hx
    refine gY hr f _ _ (by omega) (by omega) h2 (fun i a hi' e=>?_) u
    by_cases q:i=(lo+hi) / 2
    ·subst q;rw [em] at e;cases e;exact hx
    ·exact FH (hr i _ _ _ (by omega) e em) hx
   ·rename_i hx
    refine gY hr f _ _ (by omega) (by omega) (by omega) l (fun i a hi' e=>?_)
    by_cases q:i=(lo+hi) / 2
    ·subst q;rw [em] at e;cases e;omega
    ·have:=hr _ i _ _ (show (lo+hi) / 2 < i by omega) em e
     omega
  ·rw [if_neg Gw]
   have e:lo=hi:=by omega
   exact ⟨by omega,l,by rw [e];exact u⟩
theorem qM {xs:Array Nat}(hr:qL xs)(j:Nat):SetTable.below xs j≤xs.size∧(∀ i a,i < SetTable.below xs j→xs[i]? = some a→a < j)∧∀ i a,SetTable.below xs j≤i→xs[i]? = some a→j≤a :=
 gY hr xs.size 0 xs.size (by omega) (BO _) (A8 _) (fun i a h=>absurd h (Nat.not_lt_zero _)) fun i a h e=>by
  have:=(CL.mp e).1
  omega
theorem qL.put {xs:Array Nat}(hr:qL xs){j:Nat}(hn:xs[SetTable.below xs j]? ≠ some j):qL (SetTable.insertAt xs (SetTable.below xs j) j):=by
 obtain ⟨h1,h2,h3⟩:=qM hr j
 have hl:(SetTable.insertAt xs (SetTable.below xs j) j).toList=xs.toList.take (SetTable.below xs j)++j::xs.toList.drop (SetTable.below xs j):=by
  unfold SetTable.insertAt
  simp [Cc,By]
 have at_:∀ k,(SetTable.insertAt xs (SetTable.below xs j) j)[k]? = if k < SetTable.below xs j then xs[k]? else if k=SetTable.below xs j then some j else xs[k - 1]?:=fun k=>by
  rw [← BE,hl]
  have z:(xs.toList.take (SetTable.below xs j)).length=SetTable.below xs j:=by rw [Bd,A0];omega
  by_cases q1:k < SetTable.below xs j
  ·rw [if_pos q1,BL (by omega),DN,if_pos q1,BE]
  ·rw [if_neg q1,Bp (by omega),z]
   by_cases q2:k=SetTable.below xs j
   ·rw [if_pos q2,q2,D2]
    rfl
   ·rw [if_neg q2]
    obtain ⟨m,hm⟩:∃ m,k - SetTable.below xs j=m+1:=⟨k - SetTable.below xs j - 1,by omega⟩
    rw [hm,List.getElem?_cons_succ,BV,BE]
    congr 1
    omega
 intro i k a b hik ea eb
 rw [at_] at ea eb
 have ne:∀ m c,SetTable.below xs j≤m→xs[m]? = some c→j < c:=fun m c hm e=>by
  have l:=h3 m c hm e
  by_cases q:m=SetTable.below xs j
  ·subst q
   have:c≠j:=fun z=>hn (by rw [e,z])
   omega
  ·have hb:SetTable.below xs j < xs.size:=by have:=(CL.mp e).1;omega
   have e0:xs[SetTable.below xs j]? = some xs[SetTable.below xs j]:=Fw xs _ hb
   have:=h3 _ _ (A8 _) e0
   have:=hr _ m _ _ (by omega) e0 e
   omega
 split at ea
 ·rename_i c1
  split at eb
  ·exact hr i k a b hik ea eb
  ·split at eb
   ·cases eb;exact h2 i a c1 ea
   ·have:=h2 i a c1 ea
    have:=ne (k - 1) b (by omega) eb
    omega
 ·split at ea
  ·cases ea
   rw [if_neg (by omega),if_neg (by omega)] at eb
   exact ne (k - 1) b (by omega) eb
  ·rw [if_neg (by omega),if_neg (by omega)] at eb
   exact hr (i - 1) (k - 1) a b (by omega) ea eb
theorem lS (n:Nat):qL (Array.range n):=fun i j a b h ea eb=>by
 rw [Array.getElem?_range] at ea eb
 split at ea <;> split at eb <;> simp_all
theorem qN:qL #[]:=fun i j a b h ea=>by simp at ea
theorem gf {t:SetTable}(hd:t.dummies=#[])(g:Nat→Int)(h:Int):∀ (f:Nat) (p:SetTable.Probe) (j:Nat) (d:Option Nat),p.dummy=none→SetTable.probe.go t g h f p=some (.empty j d)→d=none∧t.slot j = .empty
 | 0,p,j,d,_,e=>by unfold SetTable.probe.go at e;cases e
 | f+1,p,j,d,hp,e=>by
  unfold SetTable.probe.go at e
  have hh:∀ x,SetTable.has t.dummies x=false:=fun x=>by rw [hd];unfold SetTable.has;simp
  have hs:∀ x,t.slot x ≠ .dummy:=fun x=>by
   unfold SetTable.slot
   dsimp only
   rw [hh]
   simp only [Bn,Cf]
   split
   ·exact fun z=>by cases z
   ·exact fun z=>by cases z
  cases hq:t.slot p.j with
  | empty =>
   rw [hq] at e
   cases e
   exact ⟨hp,hq⟩
  | dummy=>exact absurd hq (hs _)
  | live i =>
   rw [hq] at e
   have ad:(t.advance p).dummy=none:=by
    unfold SetTable.advance
    split
    ·exact hp
    ·exact hp
   dsimp only at e
   split at e
   ·cases e
   ·exact gf hd g h f _ j d ad e
theorem qO {t:SetTable}(hd:t.dummies=#[]){h:Int}{j:Nat}{b:Bool}(e:t.freeSlot h=some (j,b)):t.place[SetTable.below t.place j]? ≠ some j:=by
 unfold SetTable.freeSlot SetTable.probe at e
 split at e
 ·rename_i k d hq
  obtain ⟨rfl,hs⟩:=gf hd _ _ _ _ k d rfl hq
  cases e
  intro z
  unfold SetTable.slot at hs
  simp only [Fd] at z
  dsimp only at hs
  rw [z] at hs
  simp at hs
 ·cases e
abbrev ldr (w:World):Bool:=!w.params.followText "set-order"
theorem lU {t:SetTable}{es:Array (Int × Value)}{h:Int}{x:Value}:(layNew t es h x).2.1.led=t.led:=by
 unfold layNew
 split
 ·dsimp only
  unfold SetTable.orStandIn
  split
  ·rfl
  ·rfl
 ·rfl
theorem lV {t t':SetTable}{hs:Array Int}{w:Nat}{order:Array Nat}(h:t.relaid hs w=some (t',order)):t'.led=t.led:=by
 unfold SetTable.relaid SetTable.laid at h
 cases hq:SetTable.layClean (SetTable.sizeAbove w - 1) hs with
 | none=>rw [hq] at h;cases h
 | some o=>rw [hq] at h;cases h;rfl
theorem iW {t:SetTable}{es:Array (Int × Value)}{w:Nat}:(relayAll t es w).2.1.led=t.led:=by
 unfold relayAll
 split
 ·rename_i t' order he
  dsimp only
  split
  ·exact lV he
  ·rfl
 ·rfl
def Tk (t:SetTable):Prop:=t.dummies=#[]∧qL t.place
theorem dh {t:SetTable}{n:Nat}:Tk (t.standIn n):=⟨rfl,lS n⟩
theorem oD {t:SetTable}{es:Array (Int × Value)}{h:Int}{x:Value}(k:Tk t):Tk (layNew t es h x).2.1:=by
 unfold layNew
 split
 ·rename_i j d hq
  dsimp only
  unfold SetTable.orStandIn
  split
  ·refine ⟨?_,k.2.put (qO k.1 hq)⟩
   have:SetTable.has t.dummies j=false:=by rw [k.1];unfold SetTable.has;simp
   show (if SetTable.has t.dummies j=true then _ else t.dummies)=#[]
   rw [this]
   simpa using k.1
  ·exact dh
 ·exact dh
theorem oE (n:Nat)(f:Nat→Option Nat):qL ((((List.range n).filterMap fun j=>(f j).map (j,·)).map (·.1)).toArray):=by
 have key:((((List.range n).filterMap fun j=>(f j).map (j,·)).map (·.1))).Pairwise (· < ·):=by
  rw [List.pairwise_map]
  refine List.Pairwise.filterMap _ (fun a a' Gw b hb b' hb'=>?_) List.pairwise_lt_range
  cases h1:f a with
  | none=>rw [h1] at hb;simp at hb
  | some x =>
   rw [h1] at hb
   cases h2:f a' with
   | none=>rw [h2] at hb';simp at hb'
   | some x' =>
    rw [h2] at hb'
    simp at hb hb'
    rw [← hb,← hb']
    exact Gw
 intro i j a b GB ea eb
 rw [List.getElem?_toArray] at ea eb
 obtain ⟨h1,e1⟩:=A6.mp ea
 obtain ⟨h2,e2⟩:=A6.mp eb
 rw [← e1,← e2]
 exact Ci.mp key i j h1 h2 GB
theorem jA {t:SetTable}{es:Array (Int × Value)}{w:Nat}:Tk (relayAll t es w).2.1:=by
 unfold relayAll
 split
 ·rename_i t' order he
  dsimp only
  split
  ·unfold SetTable.relaid SetTable.laid at he
   cases hq:SetTable.layClean (SetTable.sizeAbove w - 1) (es.map (·.1)) with
   | none=>rw [hq] at he;cases he
   | some o=>rw [hq] at he;cases he;exact ⟨rfl,oE _ _⟩
  ·exact dh
 ·exact dh
section
variable {K:Type} [DecidableEq K] {prog:Program} {w:World} {knd:KeyKind prog w K} {A:Around} {E:Value→Shared→Prop} {s:Shared}
def lX {K:Type}[DecidableEq K]{prog:Program}{w:World}(knd:KeyKind prog w K)(h:Heap)(a:Addr)(dl:List K):Prop :=
 ∃ o es ep t,h.get? a=some o∧o.ExactSet∧o.data = .set es ep t∧ElemsOf knd es.toList∧(∀ k,k∈dl ↔ ∃ e∈es.toList,knd.is k e.2=true)∧es.size < scanBound∧t.fits es.size=true∧es.size=dl.length∧Tk t∧t.led=ldr w
theorem wQ {a:Addr}{o:Obj}{es GC:Array (Int × Value)}{ep:Nat}{t t2:SetTable}{dl:List K}(ho:s.heap.get? a=some o)(hex:o.ExactSet)(hd:o.data = .set es ep t)(hel:ElemsOf knd GC.toList)
  (hm:∀ k,k∈dl ↔ ∃ e∈GC.toList,knd.is k e.2=true) (hb:GC.size < scanBound) (hf:t2.fits GC.size=true) (hn:GC.size=dl.length) (hp:Tk t2) (hld:t2.led=ldr w) :
  (s.heap.update a (Obj.putSet GC t2)).get? a=some { o with data:=.set GC (ep+1) t2 }∧lX knd (s.heap.update a (Obj.putSet GC t2)) a dl:=by
 have hg:(s.heap.update a (Obj.putSet GC t2)).get? a=some { o with data:=.set GC (ep+1) t2 }:=by
  have q:=Dc (Obj.putSet GC t2) ho (by rw [putSet_of GC t2 hd];rfl)
  rwa [putSet_of GC t2 hd] at q
 exact ⟨hg,_,GC,ep+1,t2,hg,hex,rfl,hel,hm,hb,hf,hn,hp,hld⟩
theorem yV {a:Addr}{dl:List K}{z:K}{v:Value}{Q:Bool→Shared→Prop}(hkey:knd.is z v=true)(hsc:v.scannable=true)(hS:lX knd s.heap a dl)(hroom:dl.length+1 < scanBound)
  (h:∀ h' b,Heap.SameBut a s.heap h'→lX knd h' a (if z∈dl then dl else dl++[z])→Q b { s with heap:=h' }) :
  wpAny (model prog w) A (setAddHashed a v (knd.hash z)) Q E s:=by
 obtain ⟨o,es,ep,t,ho,hex,hd,hel,hm,hb,hf,hn,hpl,hld⟩:=hS
 unfold setAddHashed setAddHashedIn
 refine Ca (AX (wpAny_setState_of ho hd hf ?_))
 dsimp only
 rw [byScan_of (knd:=knd) hsc hb hel]
 simp only [↓reduceIte]
 unfold setAddByScan
 refine AX (AX (CW (AX (wpAny_setScan_of (knd:=knd) hkey ho hd hf hel ?_))))
 cases hr:List.findIdx? (fun e=>knd.is z e.2) es.toList with
 | some j =>
  dsimp only
  obtain ⟨hj,hpj,_⟩:=List.findIdx?_eq_some_iff_getElem.mp hr
  have hz:z∈dl:=(hm z).mpr ⟨es.toList[j],BF hj,hpj⟩
  refine A4 (A4 ?_)
  have q:=h s.heap false (Heap.SameBut.refl a s.heap) (by rw [if_pos hz];exact ⟨o,es,ep,t,ho,hex,hd,hel,hm,hb,hf,hn,hpl,hld⟩)
  have e:s={ s with heap:=s.heap }:=by cases s;rfl
  rw [e];exact q
 | none =>
  dsimp only
  have hz:z∉dl:=fun hz=>by
   obtain ⟨e,he,hp⟩:=(hm z).mp hz
   have q:=List.findIdx?_eq_none_iff.mp hr e he
   rw [hp] at q
   cases q
  have hq:∀ h',Heap.SameBut a s.heap h'→lX knd h' a (dl++[z])→Q true { s with heap:=h' }:=fun h' sb hs=>h h' true sb (by rw [if_neg hz];exact hs)
  have G0:=layNew_perm t es (knd.hash z) v
  have hfits:=layNew_fits t es (knd.hash z) v
  have hoff:=oD (es:=es) (h:=knd.hash z) (x:=v) hpl
  have hl1:(layNew t es (knd.hash z) v).2.1.led=ldr w:=lU.trans hld
  generalize hL:layNew t es (knd.hash z) v=L at G0 hfits hoff hl1 ⊢
  obtain ⟨GC,t1,wasDummy,gave⟩:=L
  dsimp only at G0 hfits hoff hl1 ⊢
  rw [C0] at G0
  have hel1:ElemsOf knd GC.toList:=(hel.push hkey hsc).perm G0
  have hm1:∀ k,k∈dl++[z] ↔ ∃ e∈GC.toList,knd.is k e.2=true:=fun k=>by
   rw [← mem_push_iff (knd:=knd) (S:=fun k=>decide (k∈dl)) hkey (fun k=>by rw [Bb];exact hm k) G0 k]
   simp
  have hsz1:GC.size=(dl++[z]).length:=by rw [← A0,G0.length_eq,A7,A0,hn,A7];rfl
  have hb1:GC.size < scanBound:=by rw [hsz1,A7];exact hroom
  have tail:∀ t2:SetTable,Tk t2→t2.led=ldr w→t2.fits GC.size=true→wpAny (model prog w) A (do
    storeSet a GC t2
    if (!wasDummy && t2.tooFull)=true then do
      (match (relayAll t2 GC (SetTable.grown GC.size)).2.2 with | true=>rule "set.scan.the-table-gave-way" | false=>pure ())
      storeSet a (relayAll t2 GC (SetTable.grown GC.size)).1 (relayAll t2 GC (SetTable.grown GC.size)).2.1
      pure (some true)
     else pure (some true)) (fun r s'=>wpAny (model prog w) A (match r with | some added=>pure added | none=>setAddHashedIn a v (knd.hash z) 99999) Q E s') E s:=fun t2 hp2 hd2 hf2=>by
   refine AX (wpAny_storeSet_of ho hd ?_ (fits_of_scanBound hb1))
   obtain ⟨ho1,hS1⟩:=wQ ho hex hd hel1 hm1 hb1 hf2 hsz1 hp2 hd2
   have hsb1:=Ep s.heap a (Obj.putSet GC t2)
   split
   ·have hp:=relayAll_perm t2 GC (SetTable.grown GC.size)
    have hfr:=relayAll_fits t2 GC (SetTable.grown GC.size)
    have hof:=jA (t:=t2) (es:=GC) (w:=SetTable.grown GC.size)
    have hof2:=(iW (t:=t2) (es:=GC) (w:=SetTable.grown GC.size)).trans hd2
    generalize relayAll t2 GC (SetTable.grown GC.size)=Rl at hp hfr hof hof2 ⊢
    obtain ⟨es2,t3,gave2⟩:=Rl
    dsimp only at hp hfr hof hof2 ⊢
    have hsz:es2.size=GC.size:=by rw [← A0,hp.length_eq,A0]
    have go:wpAny (model prog w) A (storeSet a es2 t3 >>= fun _=>pure (some true)) (fun r s'=>wpAny (model prog w) A (match r with | some added=>pure added | none=>setAddHashedIn a v (knd.hash z) 99999) Q E s') E { s with heap:=s.heap.update a (Obj.putSet GC t2) }:=by
     refine AX (wpAny_storeSet_of ho1 rfl ?_ (fits_of_scanBound (by rw [hsz];exact hb1)))
     obtain ⟨_,hS2⟩:=wQ (s:={ s with heap:=s.heap.update a (Obj.putSet GC t2) }) ho1 hex rfl (hel1.perm hp) (fun k=>(hm1 k).trans ⟨fun zq2=>(by obtain ⟨e,he,q⟩:=zq2;exact ⟨e,hp.mem_iff.mpr he,q⟩),fun zq1=>(by obtain ⟨e,he,q⟩:=zq1;exact ⟨e,hp.mem_iff.mp he,q⟩)⟩) (by rw [hsz];exact hb1) hfr (hsz.trans hsz1) hof hof2
     exact A4 (A4 (hq _ (hsb1.trans (Ep _ a _)) hS2))
    cases gave2
    ·exact AX (A4 go)
    ·exact AX (CW go)
   ·exact A4 (A4 (hq _ hsb1 hS1))
  have rest:wpAny (model prog w) A (do
    let byValue ← if t1.plain=true then hashByValue 8 v else pure true
    storeSet a GC (if byValue=true then t1 else { t1 with plain:=false })
    if (!wasDummy && (if byValue=true then t1 else { t1 with plain:=false }:SetTable).tooFull)=true then do
      (match (relayAll (if byValue=true then t1 else { t1 with plain:=false }) GC (SetTable.grown GC.size)).2.2 with | true=>rule "set.scan.the-table-gave-way" | false=>pure ())
      storeSet a (relayAll (if byValue=true then t1 else { t1 with plain:=false }) GC (SetTable.grown GC.size)).1 (relayAll (if byValue=true then t1 else { t1 with plain:=false }) GC (SetTable.grown GC.size)).2.1
      pure (some true)
     else pure (some true)) (fun r s'=>wpAny (model prog w) A (match r with | some added=>pure added | none=>setAddHashedIn a v (knd.hash z) 99999) Q E s') E s:=by
   by_cases hp1:t1.plain=true
   ·rw [if_pos hp1]
    refine AX ?_
    rw [hashByValue_scannable 8 hsc]
    refine A4 ?_
    cases plainKind v
    ·exact tail { t1 with plain:=false } hoff hl1 (SetTable.fits_plain_off hfits)
    ·exact tail t1 hoff hl1 hfits
   ·rw [if_neg hp1]
    refine AX (A4 ?_)
    exact tail t1 hoff hl1 hfits
  cases gave
  ·exact AX (A4 rest)
  ·exact AX (CW rest)
theorem lX.at {h h':Heap}{a:Addr}{dl:List K}(hS:lX knd h a dl)(k:∀ o,h.get? a=some o→h'.get? a=some o):lX knd h' a dl:=by
 obtain ⟨o,es,ep,t,ho,r⟩:=hS
 exact ⟨o,es,ep,t,k o ho,r⟩
section
variable {R:Result→Shared→Prop} {I:Addr} {fp wr:List Addr} {G:Array GenState→Array GenState→Prop} {n:Nat} {P:Nat→Value→Prop} {St:Nat→Shared→Prop}
theorem yW (dd:Nat→List K)(W:WalksS prog w A.in1 I fp wr G n P St)(S:Addr)(hSf:S∉fp)(val:Nat→K)(d1:∀ i,val i∈dd i→dd (i+1)=dd i)(d2:∀ i,val i∉dd i→dd (i+1)=dd i++[val i])(hl:∀ i,(dd i).length≤i)(hval:∀ i v,P i v→knd.is (val i) v=true∧v.scannable=true)(hb:n+1 < scanBound) :
  ∀ (k i:Nat) (s:Shared),n - i=k→i≤n→St i s→lX knd s.heap S (dd i)→(∀ s',Moved (S::wr) G s s'→lX knd s'.heap S (dd n)→R (.ok (.ret .none)) s') →
   codeAny (model prog w) A (.builtin "set.update.loop" ⟨[.ref S,.ref I],[]⟩) R s:=by
 have nw:S∉wr:=fun q=>hSf (W.sub _ q)
 have sub:∀ b∈wr,b∈S::wr:=fun b q=>A5 _ q
 intro k
 induction k with
 | zero =>
  intro i s hk hi st hS hR
  obtain rfl:i=n:=by omega
  refine Di Dp ?_
  rw [Eb CF _]
  show wpAny _ A.in1 (pyNext (.ref I) >>= _) _ _ s
  refine AX (W.done s _ _ st fun s' mv=>?_)
  show wpAny _ A.in1 (ret Value.none) _ _ s'
  exact A4 (hR s' (mv.mono sub) (hS.at fun o q=>mv.heap S o nw q))
 | succ k ih =>
  intro i s hk hi st hS hR
  have Gw:i < n:=by omega
  refine Di Dp ?_
  rw [Eb CF _]
  show wpAny _ A.in1 (pyNext (.ref I) >>= _) _ _ s
  refine AX (W.item i s _ _ Gw st fun v s' hP st' mv=>?_)
  obtain ⟨hk,hsc⟩:=hval i v hP
  have hS':lX knd s'.heap S (dd i):=hS.at fun o q=>mv.heap S o nw q
  show wpAny _ A.in1 (holding [v] (setAdd S v) >>= _) _ _ s'
  refine AX (Ca ?_)
  unfold setAdd
  refine Ca (AX (knd.pyHash (k:=val i) hk ?_))
  have hl:=hl i
  refine yV (s:={ s' with toks:=s'.toks+1 }) hk hsc hS' (by omega) fun h' b sb hS2=>?_
  refine A4 ⟨plainId_quiet CF _,ih (i+1) _ (by omega) Gw (W.frame _ s' _ _ st' (Dv _) fun c hc o q=>?_) (by split at hS2;(rw [d1 i ‹_›];exact hS2);(rw [d2 i ‹_›];exact hS2)) fun s'' mv2 hS3=>?_⟩
  ·rw [sb.2 c (fun e:c=S=>hSf (e ▸ hc))];exact q
  ·refine hR s'' (Moved.trans W.gtrans ((mv.mono sub).then_heap (Dv _) fun c o hc q=>?_) mv2) hS3
   rw [sb.2 c (fun e:c=S=>hc (e ▸ Ba))];exact q
end
theorem gZ (a:Value){Q₁:Value→Shared→Prop}(q:Q₁ (.ref s.heap.objs.size) { s with heap:=s.heap.push (sob (ldr w)) }) :
  codeAny (model prog w) A (.call (.builtin "set.__new__") ⟨[.type "set",a],[]⟩) (wants Q₁ E) s:=by
 refine codeAny_of_tree ?_
 show wpAny _ A.in1 (do checkBuiltinCall "set.__new__" ⟨[.type "set",a],[]⟩;again (.builtin "set.__new__" ⟨[.type "set",a],[]⟩)) _ _ s
 refine AX (Eo (F.newCall_set_1 a) (A4 ⟨plainId_quiet F.plain_set_new _,Di F.entry_set_new ?_⟩))
 rw [Eb F.plain_set_new _]
 unfold Builtin.«set.__new__» Builtin.Frozenset.newClass
 have hsub:=sub_set_self
 obtain ⟨hp,gn,dr,tk,os⟩:=s
 dsimp only
 wp_walk
 refine wpAny_askSetting (A4 ?_)
 dsimp only
 simp only [newObj]
 exact AX (wpAny_alloc (A4 (A4 q)))
abbrev wR (prog:Program)(w:World)(h:Heap)(a:Addr)(dl:List Str):Prop:=lX (strKind prog w) h a dl
end
section
variable {prog:Program} {w:World} {A:Around} {E:Value→Shared→Prop} {s:Shared}
end
end PySem
namespace Tv
open PySem PyProof.Rows
variable {κ:KeyKind} {kd:SortKind}
theorem Lel.sym_take {l:List Keyed}(h:Srt κ l)(i:Nat):Lel κ (l.take i) (l.drop i):=by
 have:Srt κ (l.take i++l.drop i):=by rw [Bu];exact h
 exact (br.mp this).2.2
theorem Lel.memL {l l' m:List Keyed}(h:Lel κ l m)(hs:∀ x∈l',x∈l):Lel κ l' m:=fun x hx y hy=>h x (hs x hx) y hy
theorem Lel.memR {l m m':List Keyed}(h:Lel κ l m)(hs:∀ x∈m',x∈m):Lel κ l m':=fun x hx y hy=>h x hx y (hs y hy)
theorem Lel.mid {l m:List Keyed}{x:Keyed}(h:Lel κ l [x])(g:Lel κ [x] m):Lel κ l m:=fun a ha b hb=>dX (h a ha x (A2.mpr rfl)) (g x (A2.mpr rfl) b hb)
theorem g9 {l:List Keyed}{x:Keyed}(h:Srt κ l)(e:l[0]? = some x):Lel κ [x] l:=fun a ha y hy=>by
 rw [A2] at ha
 subst ha
 obtain ⟨i,hi⟩:=Cd hy
 exact h.at (BO _) e hi
theorem oF {l:List Keyed}{x:Keyed}(h:Srt κ l)(e:l[l.length - 1]? = some x):Lel κ l [x]:=fun a ha y hy=>by
 rw [A2] at hy
 subst hy
 obtain ⟨i,hi⟩:=Cd ha
 have:=(A6.mp hi).1
 exact h.at (by omega) hi e
theorem uy {l m n:List Keyed}:Lel κ (l++m) n ↔ Lel κ l n∧Lel κ m n :=
 ⟨fun h=>⟨h.memL fun x hx=>BB _ hx,h.memL fun x hx=>Bk _ hx⟩,fun h x hx=>(Bo.mp hx).elim (h.1 x) (h.2 x)⟩
theorem kK {l m n:List Keyed}:Lel κ l (m++n) ↔ Lel κ l m∧Lel κ l n :=
 ⟨fun h=>⟨h.memR fun x hx=>BB _ hx,h.memR fun x hx=>Bk _ hx⟩,fun h x hx y hy=>(Bo.mp hy).elim (h.1 x hx y) (h.2 x hx y)⟩
theorem wU {A B r:List Keyed}{c m:Nat}{b0 al:Keyed}(sA:Srt κ A)(sB:Srt κ B)(e0:B[0]? = some b0)(el:A[A.length - 1]? = some al)
  (h1:Lel κ (A.take c) [b0]) (h2:Lel κ [al] (B.drop m)) (M:Mg κ (A.drop c) (B.take m) r):Mg κ A B (A.take c++(r++B.drop m)):=by
 have mm:∀ x,x∈r ↔ x∈A.drop c++B.take m:=fun x=>M.1.mem_iff
 refine ⟨?_,br.mpr ⟨sA.take c,br.mpr ⟨M.2,sB.drop m,?_⟩,kK.mpr ⟨?_,?_⟩⟩⟩
 ·have:(A.take c++(r++B.drop m)).Perm (A.take c++((A.drop c++B.take m)++B.drop m)):=Cm _ (M.1.append_right _)
  refine this.trans (List.Perm.of_eq ?_)
  rw [Bc,← Bc,Bu,Bu]
 ·refine Lel.memL (l:=A.drop c++B.take m) (uy.mpr ⟨?_,Lel.sym_take sB m⟩) fun x hx=>(mm x).mp hx
  exact Lel.mid ((oF sA el).memL fun x hx=>Cz hx) h2
 ·refine Lel.memR (m:=A.drop c++B.take m) (kK.mpr ⟨Lel.sym_take sA c,?_⟩) fun x hx=>(mm x).mp hx
  exact Lel.mid h1 ((g9 sB e0).memR fun x hx=>Ce hx)
 ·exact Lel.mid h1 ((g9 sB e0).memR fun x hx=>Cz hx)
section
variable {prog:Program} {w:World} {A:Around} {E:Value→Shared→Prop} {s:Shared}
theorem uz {st u:SortSt}{Q:PUnit→SortSt→Prop}(h:Q ⟨⟩ u):wpS (model prog w) A E s (set u:StateT SortSt Sem PUnit) Q st:=by
 unfold wpS
 rw [StateT.run_set]
 exact A4 ⟨rfl,h⟩
theorem kL {st:SortSt}{lf:Bool}{key:Keyed}{arr:Array Keyed}{P M S:List Keyed}{z n h:Nat}{Q:Option Nat→SortSt→Prop}(hO:Lt1 κ prog w A s kd)(hB:TB kd st)(hk:Gd κ key)(hg:∀ x∈arr.toList,Gd κ x)(ea:arr.toList=P++(M++S))(lp:P.length=z)(ln:M.length=n)(sa:Srt κ M)(hh:h < n)
  (hq:∀ k,k≤n→(∀ x∈M.take k,bdB κ lf (kof κ key) (kof κ x)=true)→(∀ x∈M.drop k,bdB κ lf (kof κ key) (kof κ x)=false)→Q (some k) st) :
  wpS (model prog w) A E s (gal lf key arr z n h) Q st:=by
 have ga:∀ i,i < n→arr[z+i]? = M[i]?:=fun i hi=>by
  rw [← BE,ea,Bp (by omega),BL (by omega)]
  congr 1
  omega
 have gm:∀ x∈M,Gd κ x:=fun x hx=>hg x (by rw [ea];exact Bk _ (BB _ hx))
 refine jy hO hB hk (fun t=>match M[t]? with | some p=>bdB κ lf (kof κ key) (kof κ p) | none=>false) hh (fun t ht=>?_) (fun t u htu hu hb=>?_) (fun k hk' h1 h2=>hq k hk' (fun x hx=>?_) fun x hx=>?_)
 ·have Gw:t < M.length:=by omega
  have e:=fu Gw
  exact ⟨M[t],by rw [ga t ht,e],gm _ (BF _),by rw [e]⟩
 ·have e1:=fu (l:=M) (i:=t) (by omega)
  have e2:=fu (l:=M) (i:=u) (by omega)
  rw [e1]
  rw [e2] at hb
  have le:=sa.at htu e1 e2
  dsimp only at hb ⊢
  cases lf with
  | true=>exact KeyOrd.klt_of_kle_of_klt le hb
  | false =>
   have le2:=dX le (eY hb)
   show (!κ.blt _ _)=true
   rw [show κ.blt (kof κ key) (kof κ M[t])=false from le2]
   rfl
 ·obtain ⟨i,hi⟩:=Cd hx
  have l1:=(A6.mp hi).1
  rw [Bd] at l1
  rw [B0 (by omega)] at hi
  have:=h1 i (by omega)
  rw [hi] at this
  exact this
 ·obtain ⟨i,hi⟩:=Cd hx
  rw [BV] at hi
  have l1:=(A6.mp hi).1
  have:=h2 (k+i) (by omega) (by omega)
  rw [hi] at this
  exact this
theorem oG {arr:Array Keyed}{P M S:List Keyed}{i j:Nat}(e:arr.toList=P++(M++S))(h1:P.length=i)(h2:j=i+M.length):(arr.extract i j).toList=M:=by
 rw [Cc,e,List.extract_eq_drop_take,← h1,List.drop_left,h2,← h1,C4,List.take_left]
theorem uA {st:SortSt}{i z na nb pw pw2:Nat}{P Aa B S:List Keyed}{Q:Bool→SortSt→Prop}(hO:Lt1 κ prog w A s kd)(hB:TB kd st)(g:∀ x∈(arrOf st).toList,Gd κ x)(e1:(pendingOf st)[i]? = some (z,na,pw))(e2:(pendingOf st)[i+1]? = some (z+na,nb,pw2))
  (ea:(arrOf st).toList=P++(Aa++(B++S))) (lp:P.length=z) (la:Aa.length=na) (lb:B.length=nb) (h0:0 < na) (h1:0 < nb) (sA:Srt κ Aa) (sB:Srt κ B)
  (h:∀ st' R,TB kd st'→pendingOf st'=((pendingOf st).setIfInBounds i (z,na+nb,pw)).eraseIdxIfInBounds (i+1)→(arrOf st').toList=P++(R++S)→Mg κ Aa B R→Q true st'):wpS (model prog w) A E s (mergeAt' i) Q st:=by
 have eb:(arrOf st).toList=(P++Aa)++(B++S):=by rw [ea,Bc]
 rw [wN]
 unfold mAt
 refine Bf (Er ?_)
 rw [e1,e2]
 dsimp only
 refine Bf (uz ?_)
 have hB':TB kd (setPending st (((pendingOf st).setIfInBounds i (z,na+nb,pw)).eraseIdxIfInBounds (i+1))):=⟨hB.kind,hB.failed⟩
 generalize hst':setPending st (((pendingOf st).setIfInBounds i (z,na+nb,pw)).eraseIdxIfInBounds (i+1))=st' at hB' ⊢
 have hp':pendingOf st'=((pendingOf st).setIfInBounds i (z,na+nb,pw)).eraseIdxIfInBounds (i+1):=by rw [← hst']
 have har:arrOf st'=arrOf st:=by rw [← hst']
 obtain ⟨b0,eb0⟩:∃ b0,B[0]? = some b0:=⟨_,fu (by omega)⟩
 obtain ⟨al,eal⟩:∃ al,Aa[Aa.length - 1]? = some al:=⟨_,fu (by omega)⟩
 have gA:∀ x∈Aa,Gd κ x:=fun x hx=>g x (by rw [ea];simp [hx])
 have gB:∀ x∈B,Gd κ x:=fun x hx=>g x (by rw [ea];simp [hx])
 have x0:(arrOf st).toList[z+na]? = some b0:=by
  rw [eb,Bp (by simp;omega),BL (by simp;omega)]
  rw [show z+na - (P++Aa).length=0 by simp;omega]
  exact eb0
 have xl:(arrOf st).toList[z+na - 1]? = some al:=by
  rw [ea,Bp (by omega),BL (by omega)]
  rw [show z+na - 1 - P.length=Aa.length - 1 by omega]
  exact eal
 refine Bf (aU x0 ?_)
 refine Bf (kL hO hB' (gB b0 (BK eb0)) g ea lp la sA h0 fun c hc t1 t2=>?_)
 dsimp only
 have k1:Lel κ (Aa.take c) [b0]:=fun x hx y hy=>by
  rw [A2] at hy
  subst hy
  exact eY (t1 x hx)
 have k2:Lel κ [b0] (Aa.drop c):=fun x hx y hy=>by
  rw [A2] at hx
  subst hx
  exact fy (t2 y hy)
 by_cases hc0:na - c=0
 ·refine au (by simpa using hc0) ?_
  have:Aa.take c=Aa:=By (by omega)
  rw [this] at k1
  exact Bj (h st' (Aa++B) hB' hp' (by rw [har,ea,Bc]) ⟨CQ _,br.mpr ⟨sA,sB,k1.mid (g9 sB eb0)⟩⟩)
 ·refine ay (by simpa using hc0) ?_
  rw [show z+c+(na - c) - 1=z+na - 1 by omega]
  refine Bf (aU xl ?_)
  refine Bf (kL hO hB' (gA al (BK eal)) g eb (by simp;omega) lb sB (by omega) fun m hm u1 u2=>?_)
  dsimp only
  have k3:Lel κ (B.take m) [al]:=fun x hx y hy=>by
   rw [A2] at hy
   subst hy
   exact jz (u1 x hx)
  have k4:Lel κ [al] (B.drop m):=fun x hx y hy=>by
   rw [A2] at hx
   subst hx
   exact gU (u2 y hy)
  by_cases hm0:m=0
  ·refine au (by simpa using hm0) ?_
   subst hm0
   exact Bj (h st' (Aa++B) hB' hp' (by rw [har,ea,Bc]) ⟨CQ _,br.mpr ⟨sA,sB,(oF sA eal).mid k4⟩⟩)
  ·refine ay (by simpa using hm0) ?_
   have ec:(arrOf st).toList=(P++Aa.take c)++(Aa.drop c++(B++S)):=by
    rw [ea]
    conv=>lhs;rw [← Bu c Aa]
    simp only [Bc]
   have ed:(arrOf st).toList=(P++Aa)++(B.take m++(B.drop m++S)):=by
    rw [eb]
    conv=>lhs;rw [← Bu m B]
    simp only [Bc]
   have ex:((arrOf st).extract (z+c) (z+na)).toList=Aa.drop c:=oG ec (by simp;omega) (by simp;omega)
   have ey:((arrOf st).extract (z+na) (z+na+m)).toList=B.take m:=oG ed (by simp;omega) (by simp;omega)
   have sx:((arrOf st).extract (z+c) (z+na)).size=na - c:=by rw [← A0,ex];simp;omega
   have sy:((arrOf st).extract (z+na) (z+na+m)).size=m:=by rw [← A0,ey];simp;omega
   generalize (arrOf st).extract (z+c) (z+na)=x at ex sx ⊢
   generalize (arrOf st).extract (z+na) (z+na+m)=y at ey sy ⊢
   have ga:∀ t∈x.toList,Gd κ t:=fun t ht=>gA t (by rw [ex] at ht;exact Cz ht)
   have gb:∀ t∈y.toList,Gd κ t:=fun t ht=>gB t (by rw [ey] at ht;exact Ce ht)
   have sx':Srt κ x.toList:=by rw [ex];exact sA.drop c
   have sy':Srt κ y.toList:=by rw [ey];exact sB.take m
   have y0:y.toList[0]? = some b0:=by rw [ey,B0 (by omega)];exact eb0
   have xn:x.toList[x.size - 1]? = some al:=by
    rw [ex,BV,sx,show c+(na - c - 1)=Aa.length - 1 by omega]
    exact eal
   have fin:∀ (r:Array Keyed) (GQ:SortSt),Ok kd st' GQ→Mg κ x.toList y.toList r.toList→wpS (model prog w) A E s (do
     modify fun v=>setArr v (r.toList.zipIdx.foldl (fun a (p,j)=>a.setIfInBounds (z+c+j) p) (arrOf v))
     return (failedOf (← get)).isNone:StateT SortSt Sem Bool) Q GQ:=fun r GQ ok M=>by
    rw [ex,ey] at M
    have lr:r.toList.length=(Aa.drop c++B.take m).length:=M.1.length_eq
    refine Bf (DB ?_)
    refine Bf (Er ?_)
    refine Bj ?_
    have hf:failedOf (setArr GQ (r.toList.zipIdx.foldl (fun a (p,j)=>a.setIfInBounds (z+c+j) p) (arrOf GQ)))=none:=ok.tb.failed
    rw [hf]
    refine h _ (Aa.take c++(r.toList++B.drop m)) ⟨ok.tb.kind,ok.tb.failed⟩ (ok.pd.trans hp') ?_ (wU sA sB eb0 eal k1 k4 M)
    show (r.toList.zipIdx.foldl (fun a (p,j)=>a.setIfInBounds (z+c+j) p) (arrOf GQ)).toList=_
    rw [oz r.toList (z+c) 0 (arrOf GQ) (P++Aa.take c) (Aa.drop c++B.take m) (B.drop m++S) (by
     rw [ok.ar,har,ea]
     conv=>lhs;rw [← Bu c Aa,← Bu m B]
     simp only [Bc]) (by simp;omega) lr.symm]
    simp only [Bc]
   by_cases hle:na - c≤m
   ·refine au hle ?_
    refine Bf (ur hO hB' ga gb sx' sy' (by omega) (by omega) (fun p q hp hq=>?_) (fun t ht=>?_) fun r GQ ok M=>fin r GQ ok M)
    ·rw [y0] at hq
     cases hq
     rw [ex] at hp
     exact k2 _ (A2.mpr rfl) _ (BK hp)
    ·rw [xn] at ht
     cases ht
     rw [ey]
     exact k3
   ·refine ay hle ?_
    refine Bf (uv hO hB' ⟨ga,gb,sx',sy',fun t ht=>?_⟩ (by omega) (by omega) (fun t ht=>?_) fun r GQ ok M=>fin r GQ ok M)
    ·rw [y0] at ht
     cases ht
     rw [ex]
     exact k2
    ·rw [xn] at ht
     cases ht
     rw [ey]
     exact k3
end
end Tv
namespace Tv
open PySem PyProof.Rows
variable {κ:KeyKind} {kd:SortKind}
def PdL (κ:KeyKind):Nat→List (Nat × Nat × Nat)→List (List Keyed)→Prop
 | _,[],[]=>True
 | z,p::ps,r::rs=>p.1=z∧p.2.1=r.length∧0 < r.length∧Srt κ r∧PdL κ (z+r.length) ps rs
 | _,_,_=>False
theorem PdL.app:∀ {p q:List (Nat × Nat × Nat)} {z:Nat} {rs:List (List Keyed)},PdL κ z (p++q) rs→∃ r1 r2,rs=r1++r2∧r1.length=p.length∧PdL κ z p r1∧PdL κ (z+r1.flatten.length) q r2
 | [],q,z,rs,h=>⟨[],rs,rfl,rfl,trivial,h⟩
 | _::_,q,z,[],h=>h.elim
 | _::p,q,z,r::rs,h=>by
  obtain ⟨a1,a2,a3,a4,a5⟩:=h
  obtain ⟨r1,r2,e,l,b1,b2⟩:=PdL.app a5
  refine ⟨r::r1,r2,by rw [e];rfl,by simp [l],⟨a1,a2,a3,a4,b1⟩,?_⟩
  rw [C1,A7,← FD]
  exact b2
theorem PdL.join:∀ {p q:List (Nat × Nat × Nat)} {z:Nat} {r1 r2:List (List Keyed)},PdL κ z p r1→PdL κ (z+r1.flatten.length) q r2→PdL κ z (p++q) (r1++r2)
 | [],q,z,[],r2,_,h=>h
 | [],q,z,_::_,r2,h,_=>h.elim
 | _::_,q,z,[],r2,h,_=>h.elim
 | _::p,q,z,r::r1,r2,h,g=>by
  obtain ⟨a1,a2,a3,a4,a5⟩:=h
  rw [C1,A7,← FD] at g
  exact ⟨a1,a2,a3,a4,PdL.join a5 g⟩
theorem PdL.len:∀ {p:List (Nat × Nat × Nat)} {z:Nat} {rs:List (List Keyed)},PdL κ z p rs→p.length≤rs.flatten.length
 | [],z,[],_=>BO _
 | [],z,_::_,h=>h.elim
 | _::_,z,[],h=>h.elim
 | _::p,z,r::rs,h=>by
  obtain ⟨a1,a2,a3,a4,a5⟩:=h
  have:=PdL.len a5
  rw [C1,A7,BH]
  omega
theorem PdL.same:∀ {p q:List (Nat × Nat × Nat)} {z:Nat} {rs:List (List Keyed)},PdL κ z p rs→q.map (fun t=>(t.1,t.2.1))=p.map (fun t=>(t.1,t.2.1))→PdL κ z q rs
 | [],[],z,rs,h,_=>h
 | [],_::_,z,rs,_,e=>by simp at e
 | _::_,[],z,rs,_,e=>by simp at e
 | _::_,_::_,z,[],h,_=>h.elim
 | x::p,y::q,z,r::rs,h,e=>by
  obtain ⟨a1,a2,a3,a4,a5⟩:=h
  simp only [Bv,DJ,Prod.mk.injEq] at e
  exact ⟨e.1.1.trans a1,e.1.2.trans a2,a3,a4,PdL.same a5 e.2⟩
theorem oH {f:Nat × Nat × Nat→Nat × Nat × Nat}(hf:∀ t,(f t).1=t.1∧(f t).2.1=t.2.1):∀ (l:List (Nat × Nat × Nat)) (i:Nat),(l.modify i f).map (fun t=>(t.1,t.2.1))=l.map (fun t=>(t.1,t.2.1))
 | [],i=>by cases i <;> rfl
 | x::l,0=>by
  show ((f x).1,(f x).2.1)::_=_
  rw [(hf x).1,(hf x).2]
  rfl
 | x::l,i+1=>by
  show (x.1,x.2.1)::(l.modify i f).map _=_
  rw [oH hf l i]
  rfl
theorem oI {xs:Array Keyed}{i:Nat}{x:Keyed}(h:xs.toList[i]? = some x):KK κ xs i=kof κ x:=by
 rw [BE] at h
 unfold KK kof
 rw [h]
structure Iv (kd:SortKind) (κ:KeyKind) (a0:Array Keyed) (st:SortSt) (lo:Nat):Prop where
 tb:TB kd st
 pm:(arrOf st).Perm a0
 ex:∃ rs T,(arrOf st).toList=rs.flatten++T∧rs.flatten.length=lo∧PdL κ 0 (pendingOf st).toList rs
theorem Iv.gd {a0:Array Keyed}{st:SortSt}{lo:Nat}(I:Iv kd κ a0 st lo)(h0:KeysOf κ a0):∀ x∈(arrOf st).toList,Gd κ x:=fun x hx=>h0 x ((Cp.mp I.pm).mem_iff.mp hx)
theorem Iv.part {a0:Array Keyed}{st st':SortSt}{lo hi:Nat}(I:Iv kd κ a0 st lo)(R:Rs kd κ lo hi st st'):Iv kd κ a0 st' lo:=by
 obtain ⟨rs,T,e,l,p⟩:=I.ex
 refine ⟨R.tb,R.rp.pm.trans I.pm,rs,(arrOf st').toList.drop lo,?_,l,by rw [R.pd];exact p⟩
 have:(arrOf st').toList.take lo=rs.flatten:=by
  have e2:(arrOf st).toList.take lo=rs.flatten:=by rw [e,← l,List.take_left]
  rw [← e2]
  apply EW
  intro k
  by_cases hk:k < lo
  ·rw [B0 hk,B0 hk,BE,BE,R.rp.out k (.inl hk)]
  ·rw [Ct (by rw [Bd];omega),Ct (by rw [Bd];omega)]
 rw [← this,Bu]
theorem Iv.mod {a0:Array Keyed}{st:SortSt}{lo i:Nat}(I:Iv kd κ a0 st lo){f:Nat × Nat × Nat→Nat × Nat × Nat}(hf:∀ t,(f t).1=t.1∧(f t).2.1=t.2.1):Iv kd κ a0 (setPending st ((pendingOf st).modify i f)) lo:=by
 obtain ⟨rs,T,e,l,p⟩:=I.ex
 refine ⟨⟨I.tb.kind,I.tb.failed⟩,I.pm,rs,T,e,l,?_⟩
 show PdL κ 0 ((pendingOf st).modify i f).toList rs
 rw [Array.toList_modify]
 exact p.same (oH hf _ _)
theorem Iv.push {a0:Array Keyed}{st:SortSt}{lo n w:Nat}(I:Iv kd κ a0 st lo)(hn:0 < n)(hz:lo+n≤(arrOf st).size)(hs:SrI κ (arrOf st) lo (lo+n)):Iv kd κ a0 (setPending st ((pendingOf st).push (lo,n,w))) (lo+n):=by
 obtain ⟨rs,T,e,l,p⟩:=I.ex
 have lT:lo+T.length=(arrOf st).size:=by rw [← A0,e,A7,l]
 have ln:(T.take n).length=n:=by rw [Bd];omega
 have at_:∀ i x,T[i]? = some x→KK κ (arrOf st) (lo+i)=kof κ x:=fun i x hx=>oI (by rw [e,Bp (by omega),← l,C4];exact hx)
 refine ⟨⟨I.tb.kind,I.tb.failed⟩,I.pm,rs++[T.take n],T.drop n,?_,?_,?_⟩
 ·show (arrOf st).toList=_
  rw [e,C5,DU,Bc,Bu]
 ·rw [C5,DU,A7,l,ln]
 ·show PdL κ 0 ((pendingOf st).push (lo,n,w)).toList _
  rw [C0]
  refine PdL.join p ⟨by rw [l];omega,ln.symm,by omega,?_,trivial⟩
  refine Ci.mpr fun i j hi hj GB=>?_
  rw [Bd] at hi hj
  rw [List.getElem_take,List.getElem_take]
  have:=hs (lo+i) (lo+j) (by omega) (by omega) (by omega)
  rw [at_ i _ (fu (by omega)),at_ j _ (fu (by omega))] at this
  exact this
theorem wV {l:List (Nat × Nat × Nat)}{i:Nat}(h:i+1 < l.length):∃ p x y q,l=p++x::y::q∧p.length=i:=by
 refine ⟨l.take i,l[i],l[i+1],l.drop (i+2),?_,by rw [Bd];omega⟩
 conv=>lhs;rw [← Bu i l]
 rw [BX (by omega),BX h]
section
variable {prog:Program} {w:World} {A:Around} {E:Value→Shared→Prop} {s:Shared}
theorem fz {a0:Array Keyed}{st:SortSt}{lo i:Nat}{Q:Bool→SortSt→Prop}(hO:Lt1 κ prog w A s kd)(h0:KeysOf κ a0)(I:Iv kd κ a0 st lo)(hi:i+1 < (pendingOf st).size)
  (h:∀ st',Iv kd κ a0 st' lo→(pendingOf st').size+1=(pendingOf st).size→(∀ k,lo≤k→(arrOf st')[k]? = (arrOf st)[k]?)→Q true st'):wpS (model prog w) A E s (mergeAt' i) Q st:=by
 obtain ⟨rs,T,e,l,p⟩:=I.ex
 obtain ⟨p1,x,y,p2,ep,lp⟩:=wV (l:=(pendingOf st).toList) (i:=i) (by rw [A0];exact hi)
 rw [ep] at p
 obtain ⟨r1,r2,er,_,P1,P2⟩:=p.app
 match r2,P2,er with
 | A1::B1::r2,P2,er =>
  obtain ⟨x1,x2,x3,x4,y1,y2,y3,y4,P3⟩:=P2
  obtain ⟨xa,xb,xc⟩:=x
  obtain ⟨ya,yb,yc⟩:=y
  dsimp only at x1 x2 y1 y2
  subst er
  have ea:(arrOf st).toList=r1.flatten++(A1++(B1++(r2.flatten++T))):=by
   rw [e]
   simp only [C5,C1,Bc]
  have e1:(pendingOf st)[i]? = some (r1.flatten.length,A1.length,xc):=by
   rw [← BE,ep,Bp (by omega),lp,D2,x1,x2,FK]
   rfl
  have e2:(pendingOf st)[i+1]? = some (r1.flatten.length+A1.length,B1.length,yc):=by
   rw [← BE,ep,Bp (by omega),lp,C4,y1,y2,FK]
   rfl
  refine uA hO I.tb (I.gd h0) e1 e2 ea rfl rfl rfl x3 y3 x4 y4 fun st' R t1 t2 t3 M=>?_
  have lR:R.length=A1.length+B1.length:=by rw [M.1.length_eq,A7]
  have ep':(pendingOf st').toList=p1++(r1.flatten.length,A1.length+B1.length,xc)::p2:=by
   rw [t2,Array.toList_eraseIdxIfInBounds,Ex,ep,List.set_append_right _ _ (by omega),List.eraseIdx_append_of_length_le (by omega),lp,D2,C4]
   rfl
  have eT:(arrOf st').toList=(r1++R::r2).flatten++T:=by
   rw [t3]
   simp only [C5,C1,Bc]
  have lT:(r1++R::r2).flatten.length=lo:=by
   rw [← l]
   simp only [C5,C1,A7,lR]
   omega
  refine h st' ⟨t1,?_,r1++R::r2,T,eT,lT,?_⟩ ?_ fun k hk=>?_
  ·refine Array.Perm.trans (Cp.mpr ?_) I.pm
   rw [t3,ea,← Bc A1]
   exact Cm _ (M.1.append_right _)
  ·rw [ep']
   refine PdL.join P1 ⟨by omega,lR.symm,by omega,M.2,?_⟩
   rw [lR,← FD]
   exact P3
  ·rw [← A0,← A0,ep',ep]
   simp only [A7,BH]
   omega
  ·rw [← BE,← BE,eT,e,Bp (by omega),Bp (by omega),lT,l]
theorem Iv.done {a0:Array Keyed}{st:SortSt}(I:Iv kd κ a0 st a0.size)(h:(pendingOf st).size≤1):SortedToK κ (arrOf st) a0.size:=by
 obtain ⟨rs,T,e,l,p⟩:=I.ex
 have hz:(arrOf st).toList.length=a0.size:=by rw [A0];exact I.pm.size_eq
 have hT:T=[]:=DP.mp (by rw [e,A7,l] at hz;omega)
 subst hT
 rw [CU] at e
 rw [← A0] at h
 have sr:Srt κ (arrOf st).toList:=by
  rw [e]
  match (pendingOf st).toList,rs,p,h with
  | [],[],_,_=>exact List.Pairwise.nil
  | [_],[r],p,_=>rw [DU];exact p.2.2.2.1
  | _::_::_,_,_,h=>simp at h
 intro i j GB hj
 have e1:=fu (l:=(arrOf st).toList) (i:=i) (by omega)
 have e2:=fu (l:=(arrOf st).toList) (i:=j) (by omega)
 rw [oI e1,oI e2]
 exact sr.at GB e1 e2
structure SB (kd:SortKind) (a0:Array Keyed) (st:SortSt):Prop where
 perm:(arrOf st).Perm a0
 kind:kindOf st=kd
 failed:failedOf st=none
 pend:pendingOf st=#[]
theorem qP {a0:Array Keyed}{st:SortSt}{Q:Unit→SortSt→Prop}(hO:Lt1 κ prog w A s kd)(h0:KeysOf κ a0)(hB:SB kd a0 st)
  (h:∀ st',(arrOf st').Perm a0→failedOf st'=none→SortedToK κ (arrOf st') a0.size→Q () st'):wpS (model prog w) A E s sortRuns' Q st:=by
 rw [sortRuns'_eq]
 refine Bf (Er ?_)
 dsimp only
 simp only [hB.perm.size_eq]
 refine Bf (CC (B4
  (I:=fun x c st'=>∃ lo,c=(none,lo)∧x≤lo∧lo≤a0.size∧Iv kd κ a0 st' lo)
  (Q:=fun c st'=>c=(none,a0.size)∧Iv kd κ a0 st' a0.size) ?step ?fin ⟨0,rfl,A8 _,BO _,⟨hB.kind,hB.failed⟩,hB.perm,[],(arrOf st).toList,rfl,rfl,by rw [hB.pend];exact trivial⟩) ?post)
 case fin =>
  rintro c st' ⟨lo,rfl,h1,h2,I⟩
  have:lo=a0.size:=by omega
  subst this
  exact ⟨rfl,I⟩
 case step =>
  rintro x c st' hx1 hx2 ⟨lo,rfl,h1,h2,I⟩
  have hz:(arrOf st').size=a0.size:=I.pm.size_eq
  dsimp only
  by_cases hge:lo≥a0.size
  ·refine au hge ?_
   have:lo=a0.size:=by omega
   subst this
   exact Bj ⟨rfl,I⟩
  ·refine ay hge ?_
   refine Bf (qJ hO I.tb (I.gd h0) (by omega) (by omega) fun n GQ n1 n2 R s2=>?_)
   have I2:=I.part R
   have hz2:(arrOf GQ).size=a0.size:=I2.pm.size_eq
   dsimp only
   by_cases hm:n < minRun' a0.size a0.size 0
   ·refine au hm ?_
    refine Bf (Fx (CW ⟨rfl,?_⟩))
    refine Bf (qK hO I2.tb (I2.gd h0) (by omega) (by omega) s2 fun st3 R3 s3=>?_)
    simp only [Ee,Bn,Cf]
    have M1:1≤(min (a0.size - lo) (minRun' a0.size a0.size 0)):=by omega
    have M2:lo+(min (a0.size - lo) (minRun' a0.size a0.size 0))≤a0.size:=by omega
    have IX:=I2.part R3
    have S3:=s3
    refine Bf (Er ?_)
    cases (pendingOf st3).back? with
    | none=>exact Bf (DB (Bj ⟨lo+(min (a0.size - lo) (minRun' a0.size a0.size 0)),rfl,by omega,M2,IX.push M1 (by rw [IX.pm.size_eq];exact M2) S3⟩))
    | some t =>
     obtain ⟨a,b,c⟩:=t
     dsimp only
     refine Bf (CC (B4 (I:=fun _ c GJ=>c=(none,())∧Iv kd κ a0 GJ lo∧∀ k,lo≤k→(arrOf GJ)[k]? = (arrOf st3)[k]?)
      (Q:=fun c GJ=>c=(none,())∧Iv kd κ a0 GJ lo∧∀ k,lo≤k→(arrOf GJ)[k]? = (arrOf st3)[k]?) ?step1 (fun _ _ h=>h) ⟨rfl,IX,fun _ _=>rfl⟩) ?post1)
     case step1 =>
      rintro y c GJ _ _ ⟨rfl,Iw,kw⟩
      refine Bf (Er ?_)
      by_cases hz:(pendingOf GJ).size > 1
      ·rw [if_pos hz]
       cases e:(pendingOf GJ)[(pendingOf GJ).size - 2]? with
       | none=>exact Bj ⟨rfl,Iw,kw⟩
       | some t =>
        obtain ⟨a',b',c'⟩:=t
        dsimp only
        by_cases hp:c'≤power' a0.size (2*a+b) (2*a+b+b+(min (a0.size - lo) (minRun' a0.size a0.size 0))) a0.size
        ·refine au hp ?_
         exact Bj ⟨rfl,Iw,kw⟩
        ·refine ay hp ?_
         refine Bf (fz hO h0 Iw (by omega) fun stq Iq _ k2=>?_)
         simp only [Ee,Bn,Cf]
         exact Bj ⟨rfl,Iq,fun k hk=>(k2 k hk).trans (kw k hk)⟩
      ·rw [if_neg hz]
       exact Bj ⟨rfl,Iw,kw⟩
     case post1 =>
      rintro c GJ ⟨rfl,Iw,kw⟩
      dsimp only
      refine Bf (DB ?_)
      have J2:=Iw.mod (i:=(pendingOf GJ).size - 1) (f:=fun t=>(t.1,t.2.1,power' a0.size (2*a+b) (2*a+b+b+(min (a0.size - lo) (minRun' a0.size a0.size 0))) a0.size)) fun t=>⟨rfl,rfl⟩
      refine Bf (DB (Bj ⟨lo+(min (a0.size - lo) (minRun' a0.size a0.size 0)),rfl,by omega,M2,J2.push M1 (by rw [J2.pm.size_eq];exact M2) fun i j hi GB hj=>?_⟩))
      show κ.kle (KK κ (arrOf GJ) i) (KK κ (arrOf GJ) j)
      rw [KK_congr (kw i (by omega)),KK_congr (kw j (by omega))]
      exact S3 i j hi GB hj
   ·refine ay hm ?_
    have M1:1≤n:=by omega
    have M2:lo+n≤a0.size:=by omega
    have IX:=I2
    have S3:=s2
    refine Bf (Er ?_)
    cases (pendingOf GQ).back? with
    | none=>exact Bf (DB (Bj ⟨lo+n,rfl,by omega,M2,IX.push M1 (by rw [IX.pm.size_eq];exact M2) S3⟩))
    | some t =>
     obtain ⟨a,b,c⟩:=t
     dsimp only
     refine Bf (CC (B4 (I:=fun _ c GK=>c=(none,())∧Iv kd κ a0 GK lo∧∀ k,lo≤k→(arrOf GK)[k]? = (arrOf GQ)[k]?)
      (Q:=fun c GK=>c=(none,())∧Iv kd κ a0 GK lo∧∀ k,lo≤k→(arrOf GK)[k]? = (arrOf GQ)[k]?) ?step2 (fun _ _ h=>h) ⟨rfl,IX,fun _ _=>rfl⟩) ?post2)
     case step2 =>
      rintro y c GK _ _ ⟨rfl,Iw,kw⟩
      refine Bf (Er ?_)
      by_cases hz:(pendingOf GK).size > 1
      ·rw [if_pos hz]
       cases e:(pendingOf GK)[(pendingOf GK).size - 2]? with
       | none=>exact Bj ⟨rfl,Iw,kw⟩
       | some t =>
        obtain ⟨a',b',c'⟩:=t
        dsimp only
        by_cases hp:c'≤power' a0.size (2*a+b) (2*a+b+b+n) a0.size
        ·refine au hp ?_
         exact Bj ⟨rfl,Iw,kw⟩
        ·refine ay hp ?_
         refine Bf (fz hO h0 Iw (by omega) fun stq Iq _ k2=>?_)
         simp only [Ee,Bn,Cf]
         exact Bj ⟨rfl,Iq,fun k hk=>(k2 k hk).trans (kw k hk)⟩
      ·rw [if_neg hz]
       exact Bj ⟨rfl,Iw,kw⟩
     case post2 =>
      rintro c GK ⟨rfl,Iw,kw⟩
      dsimp only
      refine Bf (DB ?_)
      have J2:=Iw.mod (i:=(pendingOf GK).size - 1) (f:=fun t=>(t.1,t.2.1,power' a0.size (2*a+b) (2*a+b+b+n) a0.size)) fun t=>⟨rfl,rfl⟩
      refine Bf (DB (Bj ⟨lo+n,rfl,by omega,M2,J2.push M1 (by rw [J2.pm.size_eq];exact M2) fun i j hi GB hj=>?_⟩))
      show κ.kle (KK κ (arrOf GK) i) (KK κ (arrOf GK) j)
      rw [KK_congr (kw i (by omega)),KK_congr (kw j (by omega))]
      exact S3 i j hi GB hj
 case post =>
  rintro c st' ⟨rfl,I⟩
  dsimp only
  refine Bf (CC (B4 (I:=fun x c Gu=>c=(none,())∧Iv kd κ a0 Gu a0.size∧((pendingOf Gu).size+x≤a0.size ∨ (pendingOf Gu).size≤1))
   (Q:=fun c Gu=>c=(none,())∧Iv kd κ a0 Gu a0.size∧(pendingOf Gu).size≤1) ?_ ?_ ⟨rfl,I,?_⟩) ?_)
  ·rintro x c Gu _ hx ⟨rfl,I',hp⟩
   refine Bf (Er ?_)
   by_cases h1:(pendingOf Gu).size≤1
   ·refine au h1 ?_
    exact Bj ⟨rfl,I',h1⟩
   ·refine ay h1 ?_
    refine Bf (fz hO h0 I' (have pick:∀ (b:Bool) (n:Nat),1 < n→(if b=true then n - 2 - 1 else n - 2)+1 < n:=(fun b n hn=>by cases b <;> simp <;> omega);pick _ _ (by omega)) fun GQ I2 z2 _=>?_)
    simp only [Ee,Bn,Cf]
    exact Bj ⟨rfl,I2,.inl (by omega)⟩
  ·rintro c Gu ⟨rfl,I',hp⟩
   exact ⟨rfl,I',by omega⟩
  ·obtain ⟨rs,T,e,l,p⟩:=I.ex
   have:=p.len
   rw [A0,l] at this
   exact .inl (by omega)
  ·rintro c Gu ⟨rfl,I',hp⟩
   exact Bj (h Gu I'.pm I'.tb.failed (I'.done hp))
end
end Tv
namespace Tv
open PySem PyProof.Rows
variable {κ:KeyKind} {kd:SortKind}
section
variable {prog:Program} {w:World} {A:Around} {E:Value→Shared→Prop} {s:Shared}
theorem sort_any {a:Addr}{Gp:List Value}{m:Nat}{P:Fin→Shared→Prop}(at_:s.heap.get? a=some (seqObj "list" Gp.toArray m))(g:KeysOf κ (pairsOf Gp))
  (hO:Lt1 κ prog w A { s with heap:=((s.heap.update a (Obj.mapSeq fun _=>#[])).push (seqObj "tuple" Gp.toArray 0)).push (seqObj "list" #[] 0) } kd) (one:∀ x y r,Gp=x::y::r→∀ (Q:SortKind→Shared→Prop),Q kd { s with heap:=((s.heap.update a (Obj.mapSeq fun _=>#[])).push (seqObj "tuple" Gp.toArray 0)).push (seqObj "list" #[] 0) }→wpAny (model prog w) A (keyKind' (x::y::r).toArray) Q E { s with heap:=((s.heap.update a (Obj.mapSeq fun _=>#[])).push (seqObj "tuple" Gp.toArray 0)).push (seqObj "list" #[] 0) }) (lim:Gp.length≤sizeLine)
  (q:∀ st:SortSt,(arrOf st).Perm (pairsOf Gp)→SortedToK κ (arrOf st) (pairsOf Gp).size→P (.done (.ret .none)) { s with heap:=sortedHeap s.heap a Gp ((arrOf st).map (·.2)) }) :
  wpAny (model prog w) A (Builtin.«list.sort» ⟨[.ref a],[]⟩) P E s:=by
 have la:=Bl at_
 have lz:Gp.toArray.size=Gp.length:=by simp
 rw [list_sort_plain]
 refine AX (D3 at_ rfl (AX (E9 at_ rfl ?_ (by rw [lz];exact lim))))
 obtain ⟨n1,at1⟩:∃ n1,(s.heap.update a (Obj.mapSeq fun _=>#[])).get? a=some (seqObj "list" #[] n1):=⟨_,get?_update_seq at_ fun _=>#[]⟩
 refine AX (seqEpoch_at at1 rfl (AX (wpAny_newTuple (AX (Dk (Ca ?_))))))
 have at2:(((s.heap.update a (Obj.mapSeq fun _=>#[])).push (seqObj "tuple" Gp.toArray 0)).push (seqObj "list" #[] 0)).get? a=some (seqObj "list" #[] n1) :=
  A3 _ (A3 _ at1)
 show wpAny (model prog w) A _ P E { s with heap:=((s.heap.update a (Obj.mapSeq fun _=>#[])).push (seqObj "tuple" Gp.toArray 0)).push (seqObj "list" #[] 0) }
 dsimp only
 by_cases two:Gp.toArray.size < 2
 ·rw [if_pos two,if_pos two]
  refine AX (A4 ?_)
  rw [StateT.run_pure]
  refine AX (A4 ?_)
  dsimp only
  have zz:((Gp.toArray.zip Gp.toArray).map (·.2)).size≤sizeLine+1:=by
   rw [Array.size_map]
   show (pairsOf Gp).size≤_
   rw [pairsOf_size]
   omega
  refine AX (seqEpoch_at at2 rfl (AX (E9 at2 rfl ?_ (hsz2:=zz))))
  simp only [bne_self_eq_false,Bn,Cf]
  refine A4 (q (SortSt.mk' general' (Gp.toArray.zip Gp.toArray) #[] 7 none) (Fv _) fun i j GB hj=>?_)
  rw [pairsOf_size] at hj
  have:i=j:=by omega
  subst this
  exact Cg _
 ·rw [if_neg two,if_neg two]
  obtain ⟨x,y,r,rfl⟩:∃ x y r,Gp=x::y::r:=by
   match Gp,lz,two with
   | [],_,t=>exact absurd (by simp) t
   | [_],_,t=>exact absurd (by simp) t
   | x::y::r,_,_=>exact ⟨x,y,r,rfl⟩
  refine AX (one _ _ _ rfl _ (AX (CH (qP (κ:=κ) hO (a0:=pairsOf (x::y::r)) (st:=SortSt.mk' kd ((x::y::r).toArray.zip (x::y::r).toArray) #[] 7 none)
   (Q:=fun _ st=>(arrOf st).Perm (pairsOf (x::y::r))∧failedOf st=none∧SortedToK κ (arrOf st) (pairsOf (x::y::r)).size) g ⟨Fv _,rfl,rfl,rfl⟩ fun st c1 c2 c3=>⟨c1,c2,c3⟩) ?_ fun _ _ e=>e)))
  rintro ⟨⟨⟩,st⟩ s2 ⟨rfl,c1,c2,c3⟩
  dsimp only
  have zz:((arrOf st).map (·.2)).size≤sizeLine+1:=by
   rw [Array.size_map,c1.size_eq,pairsOf_size]
   omega
  refine AX (seqEpoch_at at2 rfl (AX (E9 at2 rfl ?_ (hsz2:=zz))))
  rw [c2]
  simp only [bne_self_eq_false,Bn,Cf]
  exact A4 (q st c1 c3)
end
end Tv
namespace Ts
open PySem PyProof.Rows
section
variable {κ:KeyKind} {prog:Program} {w:World} {A:Around} {E:Value→Shared→Prop} {s:Shared}
theorem sort_any (hO:κ.OneLt){a:Addr}{Gp:List Value}{m:Nat}{P:Fin→Shared→Prop}(at_:s.heap.get? a=some (seqObj "list" Gp.toArray m))(g:KeysOf κ (pairsOf Gp))
  (one:∀ x y r,Gp=x::y::r→keyKind' (x::y::r).toArray=pure oneType') (lim:Gp.length≤sizeLine)
  (q:∀ st:SortSt,(arrOf st).Perm (pairsOf Gp)→SortedToK κ (arrOf st) (pairsOf Gp).size→P (.done (.ret .none)) { s with heap:=sortedHeap s.heap a Gp ((arrOf st).map (·.2)) }) :
  wpAny (model prog w) A (Builtin.«list.sort» ⟨[.ref a],[]⟩) P E s :=
 Tv.sort_any (kd:=oneType') at_ g (fun E x y a b Q ha hb h=>hO _ _ _ _ _ _ _ _ _ ha hb h) (fun x y r e Q h=>by rw [one x y r e];exact A4 h) lim q
end
end Ts
namespace Wd
section
variable {α:Type}
end
def J (u v:List L):Prop:=∀ x y,u.getLast? = some x→v.head? = some y→y≠inv x
theorem bN:∀ (u v:List L),Rd (u++v) ↔ Rd u∧Rd v∧J u v
 | [],v=>by
  constructor
  ·intro h
   exact ⟨trivial,h,fun x y hx=>by simp at hx⟩
  ·intro h
   exact h.2.1
 | [x],[]=>by
  constructor
  ·intro h
   exact ⟨trivial,trivial,fun x y _ hy=>by simp at hy⟩
  ·intro _
   exact trivial
 | [x],y::v=>by
  constructor
  ·intro h
   refine ⟨trivial,h.2,fun a b ha hb=>?_⟩
   have ha:x=a:=by simpa using ha
   have hb:y=b:=by simpa using hb
   subst ha hb
   exact h.1
  ·intro h
   exact ⟨h.2.2 x y rfl rfl,h.2.1⟩
 | x::y::u,v=>by
  have ih:=bN (y::u) v
  constructor
  ·intro h
   have h2:=ih.mp h.2
   refine ⟨⟨h.1,h2.1⟩,h2.2.1,fun a b ha hb=>h2.2.2 a b ?_ hb⟩
   rw [E_] at ha
   exact ha
  ·intro h
   refine ⟨h.1.1,ih.mpr ⟨h.1.2,h.2.1,fun a b ha hb=>h.2.2 a b ?_ hb⟩⟩
   rw [E_]
   exact ha
theorem wW {x y:L}(h:y=inv x):x=inv y:=by rw [h,aP]
theorem su:∀ {w:List L},Rd w→Rd w.reverse
 | [],_=>trivial
 | x::w,h=>by
  rw [ET,bN]
  refine ⟨su h.tail,trivial,fun a b ha hb=>?_⟩
  have hb:x=b:=by simpa using hb
  subst hb
  cases w with
  | nil=>simp at ha
  | cons y w =>
   have ha:y=a:=by simpa using ha
   subst ha
   intro e
   exact h.1 (wW e)
theorem yX {w:List L}(h:Rd w):Rd (bk w):=by
 have q:∀ w:List L,Rd w→Rd (w.map inv):=by
  intro w
  induction w with
  | nil=>intro _;trivial
  | cons x w ih =>
   intro h
   cases w with
   | nil=>trivial
   | cons y w=>exact ⟨fun e=>h.1 (by have e2:=Br inv e;rw [aP,aP] at e2;rw [e2]),ih h.2⟩
 exact su (q w h)
structure Rnd (c:List L):Prop where
 ne:c≠[]
 rd:Rd c
 jn:J c c
theorem qQ {r:List L}(h:r≠[])(n:Nat):(rep (n+1) r).head? = r.head?:=by
 show (rep n r++r).head? = _
 rw [gL]
 cases r with
 | nil=>exact absurd rfl h
 | cons x r=>rfl
theorem qR {r:List L}(h:r≠[])(n:Nat):(rep (n+1) r).getLast? = r.getLast?:=by
 show (rep n r++r).getLast? = _
 rw [List.getLast?_append]
 cases hr:r.getLast? with
 | none=>exact absurd (List.getLast?_eq_none_iff.mp hr) h
 | some x=>rfl
theorem kM {r:List L}{n:Nat}(h:Rnd (rep (n+1) r)):Rnd r:=by
 have hne:r≠[]:=by
  intro e
  subst e
  have:rep (n+1) ([]:List L)=[]:=by
   apply B6
   rw [eE]
   rfl
  exact h.ne this
 have hr:Rd (rep n r++r):=h.rd
 rw [bN] at hr
 refine ⟨hne,hr.2.1,fun x y hx hy=>?_⟩
 exact h.jn x y (by rw [qR hne];exact hx) (by rw [qQ hne];exact hy)
theorem sv {q:List L}(R:Rnd q):Rnd (bk q):=by
 refine ⟨fun e=>R.ne (by have:=Br bk e;rw [wz] at this;exact this),yX R.rd,fun x y hx hy=>?_⟩
 have hx:∃ a,q.head? = some a∧x=inv a:=by
  unfold bk at hx
  rw [List.getLast?_reverse,List.head?_map] at hx
  cases hq:q.head? with
  | none=>rw [hq] at hx;simp at hx
  | some a=>rw [hq] at hx;exact ⟨a,rfl,(A_ hx).symm⟩
 have hy:∃ a,q.getLast? = some a∧y=inv a:=by
  unfold bk at hy
  rw [List.head?_reverse,List.getLast?_map] at hy
  cases hq:q.getLast? with
  | none=>rw [hq] at hy;simp at hy
  | some a=>rw [hq] at hy;exact ⟨a,rfl,(A_ hy).symm⟩
 obtain ⟨a,ha,rfl⟩:=hx
 obtain ⟨b,hb,rfl⟩:=hy
 intro e
 have:=Br inv e
 rw [aP,aP] at this
 exact R.jn b a hb ha (by rw [this,aP])
end Wd
namespace L2
open PySem PySem.Spec PyProof.Rows Wd
def rnd (w:List L)(t:Nat):Nat:=((w.map cp)[t % w.length]?).getD 0
theorem rnd_at {w:List L}{t:Nat}{x:L}(h:(w++w)[t]? = some x):rnd w t=cp x:=by
 unfold rnd
 have hl:=(A6.mp h).1
 rw [A7] at hl
 by_cases c:t < w.length
 ·rw [CN c,Bi]
  rw [BL c] at h
  rw [h]
  rfl
 ·have e:t % w.length=t - w.length:=by
   rw [Nat.mod_eq_sub_mod (by omega),CN (by omega)]
  rw [e,Bi]
  rw [Bp (by omega)] at h
  rw [h]
  rfl
end L2
namespace Wd
theorem qS {x:L}{r:List L}(h:Rnd (x::r)):Rnd (r++[x]):=by
 obtain ⟨_,h2,h3⟩:=h
 refine ⟨by simp,?_,?_⟩
 ·rw [bN]
  refine ⟨h2.tail,trivial,fun a b ha hb=>?_⟩
  have hb:x=b:=A_ hb
  subst hb
  refine h3 a x ?_ rfl
  rw [List.getLast?_cons,ha]
  rfl
 ·intro a b ha hb
  have ha:x=a:=by simpa using ha
  subst ha
  cases r with
  | nil =>
   have hb:x=b:=A_ hb
   subst hb
   exact fun e=>fY _ e.symm
  | cons y r =>
   have hb:y=b:=A_ hb
   subst hb
   exact h2.1
end Wd
namespace L2
open PySem PySem.Spec PyProof.Rows Wd
end L2
namespace Wd
theorem kN {α β:Type}(f:α→β):∀ {l:List α},l.Nodup→(∀ x∈l,∀ y∈l,f x=f y→x=y)→(l.map f).Nodup
 | [],_,_=>CG
 | a::t,nd,h=>by
  rw [Bv,BM]
  obtain ⟨h1,h2⟩:=BM.mp nd
  refine ⟨fun q=>?_,kN f h2 fun x hx y hy=>h x (A5 _ hx) y (A5 _ hy)⟩
  obtain ⟨b,hb,e⟩:=BD.mp q
  have:=h b (A5 _ hb) a Ba e
  exact h1 (this ▸ hb)
section
variable {α:Type}
end
end Wd
namespace PySem
end PySem
namespace L2
open PySem PySem.Spec PyProof.Rows Wd
section
variable {X:Cx}
end
end L2
namespace Wd
def img (ws:List (List L))(x:L):List L:=if x.val < 6 then ws.getD x.val [] else bk (ws.getD (x.val - 6) [])
def sub (ws:List (List L))(u:List L):List L:=u.flatMap (img ws)
theorem jB (x:L):(inv x).val=if x.val < 6 then x.val+6 else x.val - 6:=by unfold inv; split <;> rfl
def InM (n:Nat)(u:List L):Prop:=∀ x∈u,x.val % 6 < n
theorem InM.bk {n:Nat}{u:List L}(h:InM n u):InM n (bk u):=by
 intro x hx
 unfold Wd.bk at hx
 rw [D9,BD] at hx
 obtain ⟨y,hy,rfl⟩:=hx
 have h1:=h y hy
 have:=y.isLt
 rw [jB]
 split <;> omega
end Wd
namespace PySem
section
variable {prog:Program} {w:World} {A:Around} {E:Value→Shared→Prop}
end
end PySem
namespace L2
open PySem PySem.Spec PyProof.Rows Wd
section
variable {X:Cx} {pos:Pos}
inductive yY (x:V)(y:V)(H:Hp)(Q:VK):Prop
 | mk:∀ da db,(Dt H x da)→(Dt H y db)→(da.canLay0=true)→(db.canLay0=true)→(da.depth≤10)→(Q (.bl (!PyData.eqv da db)) H)→yY x y H Q
theorem oJ (hu:X.A.units+64 < cLine):OpR X (compareOp .NotEq) yY:=by
 intro Gn s σ H x y v u Q I rx ry h
 obtain ⟨da,db,ha,hb,la,lb,dp,q⟩:=h
 obtain ⟨as,ra⟩:=ha.reads I.hok rx
 obtain ⟨bs,rb⟩:=hb.reads I.hok ry
 exact EqBoolInt.of_rcne (SeqAt.rcNeAt_reads ra rb la lb (by omega)) ⟨.bl _,H,I,rfl,q⟩
end
section
variable {X:Cx}
end
theorem wX:∀ i:_root_.Fin 6,("abcdef":Str).cps[i.val]? = some (cp ⟨i.val,by omega⟩):=by decide +kernel
theorem sm_at {i c:Nat}(h:("abcdef":Str).cps[i]? = some c):∃ x:L,x.val=i∧i < 6∧c=cp x:=by
 have hl:i < 6:=by
  obtain ⟨h1,_⟩:=CL.mp h
  have:("abcdef":Str).cps.size=6:=by decide +kernel
  omega
 have:=wX ⟨i,hl⟩
 rw [this] at h
 exact ⟨⟨i,by omega⟩,rfl,hl,(A_ h).symm⟩
end L2
namespace Kx
open PySem PySem.Spec PyProof.Rows L2 Wd
end Kx
namespace Wd
end Wd
namespace L2
open PySem PySem.Spec PyProof.Rows Wd
section
variable {X:Cx}
inductive yZ (x:V)(y:V)(H:Hp)(Q:VK):Prop
 | mk:∀ da db,(Dt H x da)→(Dt H y db)→(da.canLay0=true)→(db.canLay0=true)→(da.depth≤10)→(Q (.bl (PyData.eqv da db)) H)→yZ x y H Q
theorem oK (hu:X.A.units+64 < cLine):OpR X (compareOp .Eq) yZ:=by
 intro Gn s σ H x y v u Q I rx ry h
 obtain ⟨da,db,ha,hb,la,lb,dp,q⟩:=h
 obtain ⟨as,ra⟩:=ha.reads I.hok rx
 obtain ⟨bs,rb⟩:=hb.reads I.hok ry
 exact SeqAt.rcAt_reads ra rb la lb (by omega) _ _ _ _ ⟨.bl _,H,I,rfl,q⟩
end
end L2
namespace Kx
open PySem PySem.Spec PyProof.Rows L2 Wd
end Kx
namespace L2
open PySem PySem.Spec PyProof.Rows Wd
section
variable {X:Cx}
end
end L2
namespace L2
open PySem PySem.Spec PyProof.Rows
section
variable {prog:Program} {w:World} {A:Around} {E:Value→Shared→Prop} {s:Shared}
theorem qT {t b:Addr}{ws:List Value}{Q:Value→Shared→Prop}(ht:IsTup s.heap t ([]:List Value).toArray)(hb:IsTup s.heap b ws.toArray)(h1:Q (.ref b) s):wpAny (model prog w) A (binaryOp .Add (.ref t) (.ref b)) Q E s:=by
 obtain ⟨⟨c1,d1,o1,l1⟩,e1,g1,n,k1⟩:=id ht
 obtain ⟨⟨c2,d2,o2,l2⟩,e2,g2,n2,k2⟩:=id hb
 simp only at g1 k1 g2 k2
 subst g1 k1 g2 k2
 exact concat_meets ⟨_,e1,rfl⟩ ⟨_,e2,rfl⟩ Fc seq_tuple_add DS DE (Dy _ _) (tuple_addW0 t b _ ws.toArray n n2 d1 d2 l1 l2 rfl) ⟨e1,e2,h1⟩
end
section
variable {X:Cx}
end
end L2
namespace L2
open PySem PySem.Spec PyProof.Rows Wd
section
variable {X:Cx}
inductive wY (x:V)(y:V)(H:Hp)(Q:VK):Prop
 | mk:∀ a b xs ys,(x = .ref a)→(y = .ref b)→(H a=some (.tup xs))→(H b=some (.tup ys))→(xs.length+ys.length≤sizeLine)→(∀ p H',aD H H'→H' p=some (.tup (xs++ys))→Q (.ref p) H')→wY x y H Q
theorem uB:OpR X (binaryOp .Add) wY:=by
 intro Gn s σ H x y v u Q I rx ry h
 obtain ⟨a,b,xs,ys,ex,ey,ha,hb,hz,q⟩:=h
 by_cases hx:xs=[]
 ·subst ex ey hx
  cases rx
  cases ry
  obtain ⟨Gp,r1,p1,_⟩:=I.tuple (SqT.of ha)
  obtain ⟨GY,r2,p2,_⟩:=I.tuple (SqT.of hb)
  cases r1
  exact qT p1 p2 ⟨.ref b,H,I,rfl,q b H (aD.refl _) hb⟩
 ·exact tT Gn s σ H x y v u Q I rx ry ⟨a,b,xs,ys,ex,ey,SqT.of ha,SqT.of hb,hx,hz,fun e=>q a H (aD.refl _) (by rw [e,CU];exact ha),fun _ p hp=>q p _ (aD.new hp) ag⟩
end
inductive Ag (x:V)(lo:Option Int)(hi:Option Int)(H:Hp)(Q:VK):Prop
 | mk:∀ a xs,(x = .ref a)→(H a=some (.tup xs))→(∀ p H',aD H H'→H' p=some (.tup (fk xs lo hi))→Q (.ref p) H')→Ag x lo hi H Q
theorem uC {X:Cx}:SlR X Ag:=by
 intro Gn s σ H x v vl vu lo hi sl Q I rx hs pl pu h
 obtain ⟨a,xs,rfl,hx,q⟩:=h
 exact ux Gn s σ H _ v vl vu lo hi sl Q I rx hs pl pu ⟨a,xs,rfl,SqT.of hx,fun e=>q a H (aD.refl _) (by rw [e];exact hx),fun p hp=>q p _ (aD.new hp) ag⟩
theorem wZ {d:PyData}(h:d.leavesShort 40=true)(hw:d.weight≤2 ^ 18):d.shown.length≤sizeLine:=by
 have:=PyData.shown_le 40 (by decide) d h
 have e:sizeLine=16777216:=E5
 rw [e]
 omega
end L2
namespace Kx
open PySem PySem.Spec PyProof.Rows L2 Wd
end Kx
namespace L2
open PySem PySem.Spec PyProof.Rows Wd
section
variable {X:Cx}
end
end L2
namespace Wd
structure Ren (u:List L) (f:L→L):Prop where
 iv:∀ x,f (inv x)=inv (f x)
 inj:∀ x∈u,∀ y∈u,f x=f y→x=y
def nm (N:List L)(x:L):L:=if x.val < 6 then N.getD x.val 0 else inv (N.getD (x.val - 6) 0)
theorem oM (N:List L)(x:L):nm N (inv x)=inv (nm N x):=by
 unfold nm
 have e:=jB x
 have:=x.isLt
 by_cases h:x.val < 6
 ·rw [if_pos h] at e
  rw [if_pos h,if_neg (by omega),e,Nat.add_sub_cancel]
 ·rw [if_neg h] at e
  rw [if_neg h,if_pos (by omega),e,aP]
structure Nm (N:List L) (k:Nat):Prop where
 pm:(N.map fun x:L=>x.val % 6).Perm (List.range k)
 hi:k≤6
theorem Nm.len {N:List L}{k:Nat}(h:Nm N k):N.length=k:=by
 have:=h.pm.length_eq
 simpa using this
theorem oN (N:List L)(x:L):(nm N x).val % 6=(N.getD (x.val % 6) 0).val % 6:=by
 unfold nm
 have:=x.isLt
 by_cases h:x.val < 6
 ·rw [if_pos h,CN h]
 ·rw [if_neg h,gO,show x.val % 6=x.val - 6 by omega]
theorem oO {x y:L}(h:x.val % 6=y.val % 6):x=y ∨ x=inv y:=by
 have q:∀ x y:L,x.val % 6=y.val % 6→x=y ∨ x=inv y:=by decide
 exact q x y h
theorem Nm.ren {N:List L}{k:Nat}(h:Nm N k){u:List L}(hu:∀ x∈u,x.val % 6 < k):Ren u (nm N):=by
 refine ⟨oM N,fun x hx y hy e=>?_⟩
 have e2:(nm N x).val % 6=(nm N y).val % 6:=by rw [e]
 rw [oN,oN] at e2
 have hl:=h.len
 have hx':=hu x hx
 have hy':=hu y hy
 have nd:(N.map fun x:L=>x.val % 6).Nodup:=h.pm.nodup_iff.mpr Fj
 have g:∀ i,i < k→(N.map fun x:L=>x.val % 6)[i]? = some ((N.getD i 0).val % 6):=fun i hi=>by
  rw [Bi,fu (by omega),A9,fu (by omega)]
  rfl
 have g1:=g _ hx'
 have g2:=g _ hy'
 rw [e2] at g1
 have hm:x.val % 6=y.val % 6:=by
  obtain ⟨hi,e1⟩:=A6.mp g1
  obtain ⟨hj,e2⟩:=A6.mp g2
  have p:=Ci.mp nd
  rcases Nat.lt_trichotomy (x.val % 6) (y.val % 6) with h | h | h
  ·exact absurd (e1.trans e2.symm) (p _ _ hi hj h)
  ·exact h
  ·exact absurd (e2.trans e1.symm) (p _ _ hj hi h)
 rcases oO hm with h | h
 ·exact h
 ·rw [h,oM] at e
  exact absurd e (fY _)
theorem Nm.lt {N:List L}{k:Nat}(h:Nm N k){x:L}(hx:x.val % 6 < k):(nm N x).val % 6 < k:=by
 rw [oN]
 have hl:=h.len
 have:(N.getD (x.val % 6) 0).val % 6∈N.map fun x:L=>x.val % 6:=by
  rw [A9,fu (by omega)]
  exact BD.mpr ⟨_,BF _,rfl⟩
 exact Cn.mp (h.pm.mem_iff.mp this)
end Wd
namespace L2
open PySem PySem.Spec PyProof.Rows Wd
theorem fD {α β:Type}(f:α→β){zs ys:List β}(p:ys.Perm zs):∀ W:List α,ys=W.map f→∃ V:List α,V.Perm W∧zs=V.map f:=by
 induction p with
 | nil =>
  intro W e
  exact ⟨W,.refl _,e⟩
 | cons x _ ih =>
  intro W e
  cases W with
  | nil=>cases e
  | cons w W =>
   obtain ⟨e1,e2⟩:=CO e
   obtain ⟨V,h1,h2⟩:=ih W e2
   exact ⟨w::V,h1.cons w,by rw [h2,e1];rfl⟩
 | swap x y l =>
  intro W e
  match W,e with
  | a::b::W,e =>
   obtain ⟨e1,e2⟩:=CO e
   obtain ⟨e2,e3⟩:=CO e2
   exact ⟨b::a::W,List.Perm.swap a b W,by rw [e1,e2,e3];rfl⟩
 | trans _ _ ih1 ih2 =>
  intro W e
  obtain ⟨V,h1,h2⟩:=ih1 W e
  obtain ⟨V2,h3,h4⟩:=ih2 V h2
  exact ⟨V2,h3.trans h1,h4⟩
section
variable {X:Cx}
end
end L2
namespace Kx
open PySem PySem.Spec PyProof.Rows L2 Wd
structure ml (H:Hp) (a:Addr) (N:List L) (j:Nat):Prop where
 ex:∃ Gq:List (Key × V),H a=some (.dK Gq)∧Gq.length≤2*j∧∀ x:L,x.val % 6 < j→fN Gq (Sum.inr (toS [x]))=some (tx [nm N x])
theorem ml.at_ {H H':Hp}{a:Addr}{N:List L}{j:Nat}(h:ml H a N j)(e:∀ o,H a=some o→H' a=some o):ml H' a N j:=by
 obtain ⟨Gq,h1,h2,h3⟩:=h.ex
 exact ⟨Gq,e _ h1,h2,h3⟩
theorem ml.same {H H':Hp}{a:Addr}{N:List L}{j:Nat}(h:ml H a N j)(s:aD H H'):ml H' a N j:=h.at_ fun o e=>s _ _ e
inductive jC (vs:List V)(H:Hp)(Q:VK)(GD:XK):Prop
 | mk:∀ (d c:Addr) (k:Nat),(vs=[.ref d,.int (k:Int)])→(Tp H d c)→(1≤k)→(k≤6)→(∀ (a:Addr) (H':Hp) (N:List L),H a=none→Nm N k→ml H' a N k→Tp H' d c→bp d H H'→Q (.ref a) H')→jC vs H Q GD
inductive jD (vs:List V)(H:Hp)(Q:VK)(GD:XK):Prop
 | mk:∀ (a:Addr) (w N:List L) (k:Nat),(vs=[.ref a,tx w])→(ml H a N k)→((∀ x∈w,x.val % 6 < k))→(w.length≤2000)→(∀ H',aD H H'→Q (tx (w.map (nm N))) H')→jD vs H Q GD
end Kx
namespace L2
open PySem PySem.Spec PyProof.Rows
theorem fG (val:Nat→Str):∀ i,(ddp val i).Nodup
 | 0=>by unfold ddp;exact CG
 | i+1=>by
  unfold ddp
  split
  ·exact fG val i
  ·rename_i h
   exact List.nodup_append.mpr ⟨fG val i,BM.mpr ⟨BA,CG⟩,fun a ha b hb e=>h (by rw [A2] at hb;subst hb;subst e;exact ha)⟩
theorem oP (val:Nat→Str)(z:Str):∀ i,z∈ddp val i ↔ ∃ j,j < i∧val j=z
 | 0=>by unfold ddp;simp
 | i+1=>by
  have ih:=oP val z i
  unfold ddp
  split
  ·rename_i h
   rw [ih]
   constructor
   ·rintro ⟨j,hj,e⟩;exact ⟨j,by omega,e⟩
   ·rintro ⟨j,hj,e⟩
    by_cases q:j=i
    ·subst q
     rw [← e]
     rw [e] at h ⊢
     exact ih.mp h
    ·exact ⟨j,by omega,e⟩
  ·rw [Bo,ih,A2]
   constructor
   ·rintro (⟨j,hj,e⟩ | e)
    ·exact ⟨j,by omega,e⟩
    ·exact ⟨i,by omega,e.symm⟩
   ·rintro ⟨j,hj,e⟩
    by_cases q:j=i
    ·subst q;exact .inr e.symm
    ·exact .inl ⟨j,by omega,e⟩
theorem cY:∀ {dl zs:List Str},dl.Nodup→(∀ k∈dl,k∈zs)→zs.length≤dl.length→zs.Perm dl
 | [],zs,_,_,h=>by rw [DP.mp (Nat.le_zero.mp h)]
 | d::dl,zs,nd,m,h=>by
  have hd:=m d Ba
  have p:=List.perm_cons_erase hd
  refine p.trans (List.Perm.cons _ ?_)
  obtain ⟨n1,n2⟩:=BM.mp nd
  refine cY n2 (fun k hk=>?_) ?_
  ·have:=m k (A5 _ hk)
   exact (Ec (fun e=>n1 (by rw [← e];exact hk))).mpr this
  ·rw [DC hd]
   simp at h
   omega
section
variable {prog:Program} {w:World} {A:Around} {E:Value→Shared→Prop} {s:Shared}
end
section
variable {X:Cx}
def StO (P:Program)(w:World)(a:Addr)(dl:List Str):HO:=.ext fun h=>wR P w h a dl
theorem wR.lay {P:Program}{w:World}{H:Hp}{h:Heap}{a:Addr}{dl:List Str}(x:wR P w h a dl):bT P w H h a (StO P w a dl):=by
 refine ⟨x,?_,fun h1 h2 y k=>y.at k⟩
 obtain ⟨o,_,_,_,e,_⟩:=x
 exact ⟨o,e⟩
end
section
variable {prog:Program} {w:World} {A:Around} {E:Value→Shared→Prop} {s:Shared}
end
section
variable {X:Cx}
end
end L2
namespace Ts
open PySem PyProof.Rows
@[reducible] def intK:KeyKind where
 α:=Int
 blt a b:=decide (a < b)
 irrefl a:=by simp
 trans a b c h1 h2:=by simp only [CZ] at *;omega
 negTrans a b c h:=by simp only [CZ] at *;omega
 total a b h1 h2:=by simp only [DQ] at *;omega
 keyOf v:=match v with | .int x _=>some x | _=>none
 dflt:=0
theorem gg:intK.OneLt:=by
 intro prog w A E s x y a b Q ha hb h
 cases x <;> simp only [intK,reduceCtorEq,Option.some.injEq] at ha
 cases y <;> simp only [intK,reduceCtorEq,Option.some.injEq] at hb
 cases ha;cases hb
 exact oneLt_int h
def iOf:Value→Int
 | .int x _=>x
 | _=>0
theorem dY:∀ {vs:List Value} {ns:List Int},IntsAre vs ns→∀ v,v∈vs→∃ x t,v = .int x t
 | _,_,.nil,v,hv=>by simp at hv
 | _,_,.cons x t h,v,hv=>by
  rcases Bm.mp hv with rfl | hv
  ·exact ⟨x,t,rfl⟩
  ·exact dY h v hv
theorem oQ:∀ {vs:List Value} {ns:List Int},IntsAre vs ns→vs.map iOf=ns
 | _,_,.nil=>rfl
 | _,_,.cons x t h=>by rw [Bv,oQ h];rfl
theorem g_:∀ (vs:List Value),(∀ v,v∈vs→∃ x t,v = .int x t)→IntsAre vs (vs.map iOf)
 | [],_=>.nil
 | v::vs,h=>by
  obtain ⟨x,t,rfl⟩:=h v (Ba ..)
  exact .cons x t (g_ vs fun u hu=>h u (A5 _ hu))
theorem iX {vs:List Value}{ns:List Int}(hI:IntsAre vs ns):KeysOf intK (pairsOf vs):=by
 intro p hp
 rw [EI] at hp
 obtain ⟨x,t,e⟩:=dY hI _ (mem_zip_self hp).2
 exact ⟨x,by rw [e]⟩
theorem sH {xs:Array Keyed}{i:Nat}(hi:i < xs.size){x:Int}{t:Tok}{q:Value}(hx:xs[i]=(.int x t,q)):KK intK xs i=x:=by
 unfold KK;rw [Fw xs i hi,hx];rfl
theorem fH {vs:List Value}{ns:List Int}(hI:IntsAre vs ns){xs:Array Keyed}(hp:xs.Perm (pairsOf vs))(hs:SortedToK intK xs (pairsOf vs).size) :
  ∃ ms,IntsAre (xs.map (·.2)).toList ms∧ms.Perm ns∧ms.Pairwise (· ≤ ·):=by
 have hl:xs.toList.Perm (vs.zip vs):=by rw [← EI];exact Cp.mp hp
 have GZ:∀ p,p∈xs.toList→p.1=p.2∧p.1∈vs:=fun p hp'=>mem_zip_self (hl.mem_iff.mp hp')
 refine ⟨xs.toList.map (fun p=>iOf p.1),?_,?_,?_⟩
 ·have e:(xs.map (·.2)).toList=xs.toList.map (·.1):=by
   rw [Array.toList_map];exact Dw fun p hp'=>(GZ p hp').1.symm
  rw [e]
  have h1:=g_ (xs.toList.map (·.1)) (by
   intro v hv
   obtain ⟨p,hp',rfl⟩:=BD.mp hv
   exact dY hI _ (GZ p hp').2)
  rwa [BZ] at h1
 ·have h1:=hl.map (fun p=>iOf p.1)
  have e2:(vs.zip vs).map (fun p=>iOf p.1)=ns:=by
   have:(vs.zip vs).map (fun p=>iOf p.1)=((vs.zip vs).map Prod.fst).map iOf:=by rw [BZ];rfl
   rw [this,List.map_fst_zip (A8 _),oQ hI]
  rwa [e2] at h1
 ·rw [Ci]
  intro i j hi hj GB
  have hi':i < xs.size:=by simpa using hi
  have hj':j < xs.size:=by simpa using hj
  have h1:=hs i j (Ey GB) (by rw [← hp.size_eq];exact hj')
  obtain ⟨x,t,ex⟩:=dY hI _ (GZ xs[i] (by simp)).2
  obtain ⟨y,u,ey⟩:=dY hI _ (GZ xs[j] (by simp)).2
  rw [sH hi' (x:=x) (t:=t) (q:=xs[i].2) (Dj ex rfl),sH hj' (x:=y) (t:=u) (q:=xs[j].2) (Dj ey rfl)] at h1
  change decide (y < x)=false at h1
  simp only [Fk,Array.getElem_toList]
  rw [show iOf xs[i].1=x by rw [ex];rfl,show iOf xs[j].1=y by rw [ey];rfl]
  simpa using h1
end Ts
namespace L2
open PySem PySem.Spec PyProof.Rows Wd Ts
section
variable {prog:Program} {w:World} {A:Around} {E:Value→Shared→Prop} {s:Shared}
theorem fI {l:Addr}{vs:List Value}{Q:List Value→Shared→Prop}(hl:s.heap.IsTuple l vs.toArray)
  (h:Q vs { s with heap:=(s.heap.push (seqObj "list" #[] 0)).update s.heap.objs.size (Obj.mapSeq (· ++ vs.toArray)) }) (hsz:vs.length≤sizeLine:=by size_fits) :
  wpAny (model prog w) A (collect (.ref l)) Q E s:=by
 obtain ⟨o,ho,hc,n,hd⟩:=id hl
 unfold collect
 refine AX (wpAny_runValue (Di entry_proto_collect' ?_))
 show wpAny _ _ (do again (.builtin "list.__iadd__" ⟨[← newList [],.ref l],[]⟩)) _ _ s
 refine AX (Dk (A4 ⟨Code.quiet_builtin _ (by decide +kernel),Di entry_list_iadd' ?_⟩))
 show wpAny _ _ (Builtin.List.listExtendWith (.ref s.heap.objs.size) (.ref l) (.ref s.heap.objs.size)) _ _ { s with heap:=s.heap.push (seqObj "list" #[] 0) }
 unfold Builtin.List.listExtendWith
 have ho':(s.heap.push (seqObj "list" #[] 0)).get? l=some o:=A3 _ ho
 refine AX (D0 (T:="tuple") ⟨o,ho',hc⟩ ?_)
 have ht:(Value.type "tuple" == Value.type "tuple")=true:=by rfl
 rw [if_pos (by rw [ht];simp)]
 refine AX (D3 ho' hd ?_)
 refine AX (D3 (xs:=#[]) (n:=0) (Bh _ rfl) rfl ?_)
 rw [if_neg (by simp)]
 refine AX (E9 (xs:=#[]) (n:=0) (Bh _ rfl) rfl ?_ (BO _) (by show (#[]++vs.toArray).size≤sizeLine+1;simp only [Array.size_append,Be,Co];omega))
 refine A4 ?_
 show wpAny (model prog w) A (do
   let o ← load s.heap.objs.size
   match o.data with
   | .seq xs _=>pure xs.toList
   | _=>unsupported "internal:collect") Q E { s with heap:=(s.heap.push (seqObj "list" #[] 0)).update s.heap.objs.size (Obj.mapSeq (· ++ vs.toArray)) }
 refine AX (wpAny_load (get?_update_seq (Bh _ rfl) _) ?_)
 show wpAny _ _ (pure ((#[]:Array Value)++vs.toArray).toList) Q E _
 rw [show ((#[]:Array Value)++vs.toArray).toList=vs by simp]
 exact A4 h
theorem iY {l:Addr}{vs:List Value}{ns:List Int}{Q:Value→Shared→Prop}(hl:s.heap.IsList l vs.toArray ∨ s.heap.IsTuple l vs.toArray)(hI:IntsAre vs ns)(lim:vs.length≤sizeLine)
  (q:∀ (out:Array Value) (zs:List Int),IntsAre out.toList zs→zs.Perm ns→zs.Pairwise (· ≤ ·)→Q (.ref (s.heap.objs.size+1)) { s with heap:=sortedAll s.heap vs out }) :
  wpAny (model prog w) A (call (.builtin "sorted") [.ref l]) Q E s:=by
 refine EJ kind_sorted plain_sorted entry_sorted (args_sorted1 _) ?_
 unfold Builtin.«sorted»
 rcases hl with hl | hl
 ·refine AX (m:=checkCount "sorted" 1 1 _) (A4 (AX (collect_list hl (AX (Dk ?_)) (hsz:=lim))))
  have z1:((s.heap.push (seqObj "list" #[] 0)).update s.heap.objs.size (Obj.mapSeq (· ++ vs.toArray))).objs.size=s.heap.objs.size+1:=(D_ ..).trans (size_push' ..)
  have g:(((s.heap.push (seqObj "list" #[] 0)).update s.heap.objs.size (Obj.mapSeq (· ++ vs.toArray))).push (seqObj "list" vs.toArray 0)).get? (s.heap.objs.size+1)=some (seqObj "list" vs.toArray 0):=z1 ▸ Bh _ rfl
  show wpAny _ _ _ _ _ { s with heap:=((s.heap.push (seqObj "list" #[] 0)).update s.heap.objs.size (Obj.mapSeq (· ++ vs.toArray))).push (seqObj "list" vs.toArray 0) }
  rw [z1]
  refine AX (Ca (Cj EK ⟨_,g,rfl⟩ Et (Ts.sort_any gg g (iX hI) (fun x y r e=>keyKind_ints (by rw [← e];exact hI)) lim fun st a1 a2=>⟨_,rfl,?_⟩) (EL _)))
  obtain ⟨zs,h1,h2,h3⟩:=fH hI a1 a2
  exact A4 ⟨_,rfl,q _ zs h1 h2 h3⟩
 ·refine AX (m:=checkCount "sorted" 1 1 _) (A4 (AX (fI hl (AX (Dk ?_)) (hsz:=lim))))
  have z1:((s.heap.push (seqObj "list" #[] 0)).update s.heap.objs.size (Obj.mapSeq (· ++ vs.toArray))).objs.size=s.heap.objs.size+1:=(D_ ..).trans (size_push' ..)
  have g:(((s.heap.push (seqObj "list" #[] 0)).update s.heap.objs.size (Obj.mapSeq (· ++ vs.toArray))).push (seqObj "list" vs.toArray 0)).get? (s.heap.objs.size+1)=some (seqObj "list" vs.toArray 0):=z1 ▸ Bh _ rfl
  show wpAny _ _ _ _ _ { s with heap:=((s.heap.push (seqObj "list" #[] 0)).update s.heap.objs.size (Obj.mapSeq (· ++ vs.toArray))).push (seqObj "list" vs.toArray 0) }
  rw [z1]
  refine AX (Ca (Cj EK ⟨_,g,rfl⟩ Et (Ts.sort_any gg g (iX hI) (fun x y r e=>keyKind_ints (by rw [← e];exact hI)) lim fun st a1 a2=>⟨_,rfl,?_⟩) (EL _)))
  obtain ⟨zs,h1,h2,h3⟩:=fH hI a1 a2
  exact A4 ⟨_,rfl,q _ zs h1 h2 h3⟩
end
section
variable {X:Cx}
theorem iZ:∀ {ns:List Int} {us:List Value},bh (ns.map V.int) us→IntsAre us ns
 | [],_,.nil=>.nil
 | n::ns,_,.cons r t=>by
  obtain ⟨t',rfl⟩:=r
  exact .cons n t' (iZ t)
theorem eQ:∀ {us:List Value} {ns:List Int},IntsAre us ns→bh (ns.map V.int) us
 | _,_,.nil=>.nil
 | _,_,.cons n t h=>.cons ⟨t,rfl⟩ (eQ h)
inductive b8 (K:PySem.W.Frag)(xs:List V)(H:Hp)(Q:VK):Prop
 | mk:∀ (l:Addr) (ys:List Int),(xs=[.ref l])→((SqL K H l (ys.map V.int) ∨ SqT K H l (ys.map V.int)))→(∀ (p:Addr) (zs:List Int),H p=none→zs.Perm ys→zs.Pairwise (· ≤ ·)→Q (.ref p) (upd H p (.lst (zs.map V.int))))→b8 K xs H Q
theorem cI {K:PySem.W.Frag}(hK:X.K=K):cL X (.builtin "sorted") (b8 K):=by
 subst hK
 intro Gn s σ H xs us Q I r h
 obtain ⟨l,ys,rfl,hq,q⟩:=h
 obtain ⟨u,rfl,ru⟩:=cM r
 cases ru
 obtain ⟨Gp,rv,pl,hz⟩:∃ Gp,bh (ys.map V.int) Gp∧(s.heap.IsList l Gp.toArray ∨ s.heap.IsTuple l Gp.toArray)∧(ys.map V.int).length≤sizeLine:=by
  rcases hq with hq | hq
  ·obtain ⟨Gp,rv,pl,hz⟩:=I.list hq
   exact ⟨Gp,rv,.inl pl.isList,hz⟩
  ·obtain ⟨Gp,rv,pl,hz⟩:=I.tuple hq
   exact ⟨Gp,rv,.inr pl,hz⟩
 have hS:=iZ rv
 have hlen:Gp.length=ys.length:=by rw [← rv.length,AY]
 rw [AY] at hz
 refine iY pl hS (by omega) fun out zs hO hp hs=>?_
 obtain ⟨e,he⟩:=sortedAll_at s.heap Gp out
 have I2:Inv X Gn σ (upd H (s.heap.objs.size+1) (.lst (zs.map V.int))) { s with heap:=sortedAll s.heap Gp out,toks:=s.toks } :=
  I.laid (fun b o e=>sortedAll_old e) (Dv _) ⟨by rw [AY,hp.length_eq];exact hz,out.toList,e,eQ hO,by simpa [seqObj] using he⟩
 exact ⟨.ref (s.heap.objs.size+1),_,I2,rfl,q _ zs (I.hok.fresh (Dv _)) hp hs⟩
end
end L2
namespace Tv
open PySem PyProof.Rows
def Pq (h:Heap)(v:Value)(i j:Int):Prop:=∃ (a:Addr) (o:Obj) (t u:Tok) (n:Nat),v = .ref a∧h.get? a=some o∧o.cls = .type "tuple"∧o.data = .seq #[.int i t,.int j u] n
inductive Kn where
 | i
 | s
 | p
def Kn.R:Kn→Heap→Value→List Int→Prop
 | .i,_,v,a=>∃ i t,v = .int i t∧a=[i]
 | .s,_,v,a=>∃ (x:Str) (t:Tok),v = .str x t∧a=x.cps.toList.map Int.ofNat
 | .p,h,v,a=>∃ i j,Pq h v i j∧a=[i,j]
theorem oR {x y:List Nat}(h:x.map Int.ofNat=y.map Int.ofNat):x=y:=(List.map_inj_right (fun _ _ e=>DR e)).mp h
theorem Kn.one {k:Kn}{h:Heap}{v:Value}{a b:List Int}(x:k.R h v a)(y:k.R h v b):a=b:=by
 cases k with
 | i =>
  obtain ⟨i,t,rfl,rfl⟩:=x
  obtain ⟨j,u,e,rfl⟩:=y
  cases e
  rfl
 | s =>
  obtain ⟨i,t,rfl,rfl⟩:=x
  obtain ⟨j,u,e,rfl⟩:=y
  cases e
  rfl
 | p =>
  obtain ⟨i,j,⟨c,o,t,u,n,rfl,e,_,d⟩,rfl⟩:=x
  obtain ⟨k,l,⟨c',o',t',u',n',e0,e',_,d'⟩,rfl⟩:=y
  cases e0
  rw [e] at e'
  cases e'
  rw [d] at d'
  injection d' with d1 _
  have d1:=Br Array.toList d1
  simp only [DJ,Value.int.injEq,FE] at d1
  rw [d1.1.1,d1.2.1]
structure lY (prog:Program) (w:World) (A:Around) (k:Kn):Prop where
 eq:∀ {s:Shared} {E:Value→Shared→Prop} {v u:Value} {a b:List Int} {Q:Bool→Shared→Prop},k.R s.heap v a→k.R s.heap u b→Q (decide (a=b)) s→wpAny (model prog w) A (eqBool v u) Q E s
 lt:∀ {s:Shared} {E:Value→Shared→Prop} {c:Bool} {v u:Value} {a b:List Int} {Q:Bool→Shared→Prop},(c=true→k ≠ .p)→k.R s.heap v a→k.R s.heap u b→a≠b→Q (decide (a < b)) s→wpAny (model prog w) A (oneLt' c v u) Q E s
section
variable {prog:Program} {w:World} {A:Around} {E:Value→Shared→Prop} {s:Shared}
theorem AG:lY prog w A .i:=by
 refine ⟨fun {s E v u a b Q} x y q=>?_,fun {s E c v u a b Q} _ x y ne q=>?_⟩
 ·obtain ⟨i,t,rfl,rfl⟩:=x
  obtain ⟨j,t',rfl,rfl⟩:=y
  refine wpAny_eqBool_int ?_
  have:decide ([i]=[j])=(i == j):=by rw [BC];simp
  rwa [this] at q
 ·obtain ⟨i,t,rfl,rfl⟩:=x
  obtain ⟨j,t',rfl,rfl⟩:=y
  have:decide ([i] < [j])=decide (i < j):=by
   rw [BC,Bb,Bb,Cu]
   exact ⟨fun h=>h.elim id fun h=>absurd h.2 (Fz _),.inl⟩
  rw [this] at q
  cases c with
  | true=>exact oneLt_int q
  | false =>
   rw [oneLt'_eq]
   simp only [Bn,Cf]
   show wpAny _ _ (compareOp .Lt (.int i t) (.int j t') >>= _) Q E s
   exact AX (wpAny_lt_int (CT q))
theorem sI:∀ (x y:List Nat),x.map Int.ofNat < y.map Int.ofNat ↔ x < y
 | [],[]=>by simp
 | [],_::_=>by simp
 | _::_,[]=>by simp
 | a::x,b::y=>by
  rw [Bv,Bv,Cu,Cu,sI x y]
  constructor
  ·rintro (h | ⟨h,g⟩)
   ·exact .inl (Int.ofNat_lt.mp h)
   ·exact .inr ⟨DR h,g⟩
  ·rintro (h | ⟨h,g⟩)
   ·exact .inl (Int.ofNat_lt.mpr h)
   ·exact .inr ⟨Br _ h,g⟩
theorem AH:lY prog w A .s:=by
 refine ⟨fun {s E v u a b Q} x y q=>?_,fun {s E c v u a b Q} _ x y ne q=>?_⟩
 ·obtain ⟨x,t,rfl,rfl⟩:=x
  obtain ⟨y,t',rfl,rfl⟩:=y
  refine wpAny_eqBool_str ?_
  have:decide (x.cps.toList.map Int.ofNat=y.cps.toList.map Int.ofNat)=decide (x=y):=by
   rw [BC,Bb,Bb]
   refine ⟨fun h=>?_,fun h=>by rw [h]⟩
   have:=Fh.mp (oR h)
   cases x;cases y;simp_all
  rwa [this] at q
 ·obtain ⟨x,t,rfl,rfl⟩:=x
  obtain ⟨y,t',rfl,rfl⟩:=y
  have:decide (x.cps.toList.map Int.ofNat < y.cps.toList.map Int.ofNat)=decide (x.cps.toList < y.cps.toList):=by
   rw [BC,Bb,Bb,sI]
  rw [this] at q
  cases c with
  | true=>exact oneLt_str q
  | false =>
   rw [oneLt'_eq]
   simp only [Bn,Cf]
   show wpAny _ _ (compareOp .Lt (.str x t) (.str y t') >>= _) Q E s
   exact AX (PyProof.Rows.lt_str (CT q))
end
inductive FlR (h:Heap):List Kn→List Value→List (List Int)→Prop
 | nil:FlR h [] [] []
 | cons {k:Kn} {ks:List Kn} {v:Value} {vs:List Value} {a:List Int} {as:List (List Int)} (x:k.R h v a) (r:FlR h ks vs as):FlR h (k::ks) (v::vs) (a::as)
theorem FlR.one {h:Heap}{ks:List Kn}{vs:List Value}{as:List (List Int)}(x:FlR h ks vs as):∀ {bs:List (List Int)},FlR h ks vs bs→as=bs:=by
 induction x with
 | nil=>intro bs y;cases y;rfl
 | cons x r ih=>intro bs y;cases y with | cons y q=>rw [Kn.one x y,ih q]
theorem FlR.len {h:Heap}{ks:List Kn}{vs us:List Value}{as bs:List (List Int)}(x:FlR h ks vs as):FlR h ks us bs→vs.length=us.length:=by
 induction x generalizing us bs with
 | nil=>intro y;cases y;rfl
 | cons x r ih=>intro y;cases y with | cons y q=>rw [BH,BH,ih q]
theorem FlR.stay {h h':Heap}(k:∀ b o,h.get? b=some o→o.cls = .type "tuple"→h'.get? b=some o){ks:List Kn}{vs:List Value}{as:List (List Int)}(x:FlR h ks vs as):FlR h' ks vs as:=by
 induction x with
 | nil=>exact .nil
 | @cons kn ks v vs a as x r ih =>
  refine .cons ?_ ih
  cases kn with
  | i=>exact x
  | s=>exact x
  | p =>
   obtain ⟨i,j,⟨c,o,t,u,n,e0,e,hc,d⟩,ea⟩:=x
   exact ⟨i,j,⟨c,o,t,u,n,e0,k _ _ e hc,hc,d⟩,ea⟩
abbrev dj:=List (List Int)
def Kd (f:Kn)(sh:List Int→List Kn)(h:Heap)(v:Value)(k:dj):Prop:=∃ (a:Addr) (o:Obj) (vs:List Value) (n:Nat),v = .ref a∧h.get? a=some o∧o.cls = .type "tuple"∧o.data = .seq vs.toArray n∧FlR h (f::sh (k.headD [])) vs k
theorem Kd.one {f:Kn}{sh:List Int→List Kn}{h:Heap}{v:Value}{k l:dj}(x:Kd f sh h v k)(y:Kd f sh h v l):k=l:=by
 obtain ⟨a,o,vs,n,rfl,e,_,d,g⟩:=x
 obtain ⟨a',o',vs',n',e0,e',_,d',g'⟩:=y
 cases e0
 rw [e] at e'
 cases e'
 rw [d] at d'
 injection d' with d1 _
 have d1:=Br Array.toList d1
 simp only at d1
 subst d1
 cases g with
 | cons x r =>
  cases g' with
  | cons y q =>
   have e1:=Kn.one x y
   subst e1
   exact Br _ (FlR.one r q)
open Classical in
def vJ (f:Kn)(sh:List Int→List Kn)(h:Heap)(v:Value):Option dj:=if hx:∃ p:dj,Kd f sh h v p then some (Classical.choose hx) else none
theorem Kd.of {f:Kn}{sh:List Int→List Kn}{h:Heap}{v:Value}{k:dj}(x:Kd f sh h v k):vJ f sh h v=some k:=by
 unfold vJ
 rw [dif_pos ⟨k,x⟩]
 exact Br some ((Classical.choose_spec (⟨k,x⟩:∃ p:dj,Kd f sh h v p)).one x)
theorem Kd.is {f:Kn}{sh:List Int→List Kn}{h:Heap}{v:Value}{k:dj}(e:vJ f sh h v=some k):Kd f sh h v k:=by
 unfold vJ at e
 split at e
 ·rename_i hx
  cases e
  exact Classical.choose_spec hx
 ·cases e
theorem Kd.stay {f:Kn}{sh:List Int→List Kn}{h h':Heap}{v:Value}{k:dj}(kp:∀ b o,h.get? b=some o→o.cls = .type "tuple"→h'.get? b=some o)(x:Kd f sh h v k):Kd f sh h' v k:=by
 obtain ⟨a,o,vs,n,e0,e,c,d,g⟩:=x
 exact ⟨a,o,vs,n,e0,kp _ _ e c,c,d,g.stay kp⟩
@[reducible] noncomputable def kdK (f:Kn) (sh:List Int→List Kn) (h:Heap):KeyKind where
 α:=dj
 blt a b:=decide (a < b)
 irrefl a:=by simpa using Fz a
 trans a b c h1 h2:=by simp only [CZ] at *;exact List.lt_trans h1 h2
 negTrans a b c h:=by
  simp only [CZ] at *
  by_cases hab:a < b
  ·exact .inl hab
  ·exact .inr (List.lt_of_le_of_lt (Fb.mp hab) h)
 total a b h1 h2:=by simp only [DQ] at *;exact List.le_antisymm (Fb.mp h2) (Fb.mp h1)
 keyOf v:=vJ f sh h v
 dflt:=[]
def lZ (b:Bool)(L:List ((Value × Value) × Nat))(z:Bool):Sem Bool:=do
 for ((p,q),i) in L do
  if !(← eqBool p q) then return ← oneLt' (b && i == 0) p q
 return z
theorem oS (b:Bool)(x y:Value):keyLt' (tuples' b) x y=(do
  let xs ← Builtin.List.listItems x;let ys ← Builtin.List.listItems y
  lZ b (xs.toList.zip ys.toList).zipIdx (decide (xs.size < ys.size))):=rfl
theorem oT (b z:Bool)(p q:Value)(i:Nat)(L:List ((Value × Value) × Nat)):lZ b (((p,q),i)::L) z=(eqBool p q >>= fun r=>if r then lZ b L z else oneLt' (b && i == 0) p q):=by
 unfold lZ
 rw [Fs]
 simp only [bind_assoc]
 congr 1
 funext r
 cases r <;> simp
theorem oU {a b:List Int}{as bs:dj}:decide (a::as < b::bs)=if a=b then decide (as < bs) else decide (a < b):=by
 rw [BC,Bb,Cu]
 by_cases e:a=b
 ·rw [if_pos e,Bb]
  subst e
  exact ⟨fun h=>h.elim (fun h=>absurd h (Fz _)) fun h=>h.2,fun h=>.inr ⟨rfl,h⟩⟩
 ·rw [if_neg e,Bb]
  exact ⟨fun h=>h.elim id fun h=>absurd h.1 e,.inl⟩
section
variable {prog:Program} {w:World} {A:Around} {E:Value→Shared→Prop} {s:Shared}
theorem y6 {b:Bool}{ks:List Kn}{vs:List Value}{as:dj}(ok:∀ k∈ks,lY prog w A k)(x:FlR s.heap ks vs as):∀ {us:List Value} {bs:dj} {m:Nat} {Q:Bool→Shared→Prop},(m=0→b=true→∀ k r,ks=k::r→k ≠ .p)→FlR s.heap ks us bs→Q (decide (as < bs)) s→wpAny (model prog w) A (lZ b ((vs.zip us).zipIdx m) false) Q E s:=by
 induction x with
 | nil =>
  intro us bs m Q _ y q
  cases y
  exact A4 (by simpa using q)
 | @cons k ks v vs a as x r ih =>
  intro us bs m Q hp y q
  cases y with
  | @cons _ _ u us c bs y r2 =>
  rw [Cy,Fi,oT]
  have K:=ok k Ba
  rw [oU] at q
  refine AX (K.eq x y ?_)
  by_cases e:a=c
  ·rw [Bg e,if_pos rfl]
   rw [if_pos e] at q
   exact ih (fun k hk=>ok k (A5 _ hk)) (fun z=>by omega) r2 q
  ·rw [AZ e,if_neg (by decide)]
   rw [if_neg e] at q
   refine K.lt (fun z=>?_) x y e q
   have z:(b && (m == 0))=true:=z
   rw [B9] at z
   exact hp (by simpa using z.2) z.1 _ _ rfl
theorem y7 {f:Kn}{sh:List Int→List Kn}{b:Bool}{x y:Value}{k l:dj}{Q:Bool→Shared→Prop}(hf:f ≠ .p)(okf:lY prog w A f)(ok:∀ a,∀ k∈sh a,lY prog w A k)(hx:Kd f sh s.heap x k)(hy:Kd f sh s.heap y l)(h:Q (decide (k < l)) s) :
  wpAny (model prog w) A (keyLt' (tuples' b) x y) Q E s:=by
 obtain ⟨a,o,vs,n,rfl,e,_,d,g⟩:=hx
 obtain ⟨a',o',us,n',rfl,e',_,d',g'⟩:=hy
 rw [oS]
 refine AX (D3 e d (AX (D3 e' d' ?_)))
 cases g with
 | @cons _ _ v vs a as x r =>
 cases g' with
 | @cons _ _ u us c bs y r2 =>
 show wpAny _ _ (lZ b ((v::vs).zip (u::us)).zipIdx _) Q E s
 rw [Cy,Fi,oT]
 rw [oU] at h
 refine AX (okf.eq x y ?_)
 by_cases e2:a=c
 ·subst e2
  rw [Bg rfl,if_pos rfl]
  rw [if_pos rfl] at h
  have hz:decide ((v::vs).toArray.size < (u::us).toArray.size)=false:=by
   have:=r.len r2
   simp [this]
  rw [hz]
  exact y6 (ok _) r (fun z=>by omega) r2 h
 ·rw [AZ e2,if_neg (by decide)]
  rw [if_neg e2] at h
  exact okf.lt (fun _=>hf) x y e2 h
theorem oV {α β:Type}{g:α→Sem β}{f:α→β}:∀ {vs:List α} {Q:List β→Shared→Prop},(∀ v∈vs,∀ Q:β→Shared→Prop,Q (f v) s→wpAny (model prog w) A (g v) Q E s)→Q (vs.map f) s→wpAny (model prog w) A (vs.mapM g) Q E s
 | [],Q,_,h=>by rw [List.mapM_nil];exact A4 h
 | v::vs,Q,hg,h=>by
  rw [List.mapM_cons]
  refine AX (hg v Ba _ (AX (oV (fun u hu=>hg u (A5 _ hu)) (A4 ?_))))
  exact h
def l6 (h:Heap):Value→Option Value:=fun v=>match v with
 | .ref a=>match h.get? a with
  | some o=>match o.data with
   | .seq xs _=>xs[0]?
   | _=>none
  | none=>none
 | _=>none
theorem uD {f:Kn}{sh:List Int→List Kn}{vs:List Value}(hf:f ≠ .p)(hv:∀ v∈vs,∃ k,Kd f sh s.heap v k)(ne:vs≠[]){Q:SortKind→Shared→Prop}(h:Q (tuples' true) s):wpAny (model prog w) A (keyKind' vs.toArray) Q E s:=by
 rw [keyKind'_eq,List.mapM_toArray]
 show wpAny _ _ ((List.toArray <$> vs.mapM firstOfTuple') >>= _) Q E s
 have hq:∀ v∈vs,∃ a o xs n x c,v = .ref a∧s.heap.get? a=some o∧o.cls = .type "tuple"∧o.data = .seq (x::xs:List Value).toArray n∧l6 s.heap v=some x∧f.R s.heap x c:=fun v hv'=>by
  obtain ⟨k,a,o,us,n,rfl,e,hc,d,g⟩:=hv v hv'
  cases g with
  | @cons _ _ x xs c as q r =>
   refine ⟨a,o,xs,n,x,c,rfl,e,hc,d,?_,q⟩
   unfold l6
   dsimp only
   rw [e]
   dsimp only
   rw [d]
   rfl
 refine AX (wpAny_map (oV (f:=l6 s.heap) (fun v hv' Q' q=>?_) ?_))
 ·obtain ⟨a,o,xs,n,x,c,rfl,e,hc,d,ef,_⟩:=hq v hv'
  show wpAny _ _ (typeOf (.ref a) >>= fun ty=>if (ty != Value.type "tuple")=true then pure none else (do let xs ← Builtin.List.listItems (.ref a);pure xs[0]?)) Q' E s
  refine AX (D0 (T:="tuple") ⟨o,e,hc⟩ ?_)
  have ht:(Value.type "tuple" != Value.type "tuple")=false:=by rfl
  rw [ht]
  simp only [Bn,Cf]
  refine AX (D3 e d (A4 ?_))
  rw [ef] at q
  exact q
 ·have h1:((vs.map (l6 s.heap)).toArray.all (·.isSome))=true:=by
   simp only [List.all_toArray,List.all_map,Dr]
   intro v hv'
   obtain ⟨_,_,_,_,x,_,_,_,_,_,ef,_⟩:=hq v hv'
   show (l6 s.heap v).isSome=true
   rw [ef]
   rfl
  rw [if_pos h1]
  refine AX (CW ?_)
  obtain ⟨T,hTn,hT⟩:∃ T:Value,(T != Value.type "tuple")=true∧((vs.map (l6 s.heap)).filterMap id).mapM typeOf=pure (((vs.map (l6 s.heap)).filterMap id).map fun _=>T):=by
   clear h1 ne hv h
   cases f with
   | p=>exact absurd rfl hf
   | i =>
    refine ⟨.type "int",rfl,mapM_typeOf_ints (ns:=((vs.map (l6 s.heap)).filterMap id).map Ts.iOf) ?_⟩
    refine Ts.g_ _ fun x hx=>?_
    obtain ⟨y,hy,e⟩:=EA.mp hx
    obtain ⟨v,hv',rfl⟩:=BD.mp hy
    obtain ⟨_,_,_,_,x',_,_,_,_,_,ef,i,t,rfl,_⟩:=hq v hv'
    rw [ef] at e
    cases e
    exact ⟨i,t,rfl⟩
   | s =>
    refine ⟨.type "str",rfl,?_⟩
    obtain ⟨ns,hI⟩:∃ ns,StrsAre ((vs.map (l6 s.heap)).filterMap id) ns:=by
     induction vs with
     | nil=>exact ⟨[],.nil⟩
     | cons v r ih =>
      obtain ⟨_,_,_,_,x',_,_,_,_,_,ef,i,t,rfl,_⟩:=hq v Ba
      obtain ⟨ns,q⟩:=ih fun u hu=>hq u (A5 _ hu)
      refine ⟨i::ns,?_⟩
      rw [Bv,ef]
      exact .cons i t q
    exact mapM_typeOf_strs hI
  have e2:(vs.map (l6 s.heap)).toArray.filterMap id=((vs.map (l6 s.heap)).filterMap id).toArray:=by simp
  rw [e2,oneTypeOnly'_eq,List.mapM_toArray,hT]
  simp only [map_pure,pure_bind]
  have ne2:(vs.map (l6 s.heap)).filterMap id≠[]:=by
   cases vs with
   | nil=>exact absurd rfl ne
   | cons v r =>
    obtain ⟨_,_,_,_,x',_,_,_,_,_,ef,_⟩:=hq v Ba
    rw [Bv,ef]
    simp
  generalize (vs.map (l6 s.heap)).filterMap id=fs at ne2
  cases fs with
  | nil=>exact absurd rfl ne2
  | cons x r =>
   have h0:(List.map (fun _=>T) (x::r)).toArray[0]? = some T:=by simp
   have hall:((List.map (fun _=>T) (x::r)).toArray.all fun y=>y == T)=true:=by
    simp only [List.all_toArray,List.all_map,Dr]
    intro _ _
    exact Ff T
   rw [h0]
   simp only [hall,CV,pure_bind]
   refine A4 ?_
   rw [show Option.any (fun x=>x != Value.type "tuple") (some T)=true from hTn]
   exact h
end
end Tv
namespace Tv
open PySem PyProof.Rows
def qle (k l:dj):Prop:=¬ l < k
theorem qU {k l:dj}(h:qle k l)(g:qle l k):k=l:=List.le_antisymm (Fb.mp h) (Fb.mp g)
theorem fJ {α:Type}:∀ (l:List α),l.zip l=l.map fun x=>(x,x)
 | []=>rfl
 | x::r=>by rw [Cy,fJ r];rfl
section
variable {prog:Program} {w:World} {A:Around} {E:Value→Shared→Prop} {s:Shared}
end
end Tv
namespace L2
open PySem PySem.Spec PyProof.Rows Wd Tv
section
variable {X:Cx}
theorem eJ:∀ {as:List Addr} {us:List Value},bh (as.map V.ref) us→us=as.map Value.ref
 | [],_,.nil=>rfl
 | a::as,_,.cons r t=>by cases r;rw [eJ t];rfl
theorem gh:∀ (as:List Addr),bh (as.map V.ref) (as.map Value.ref)
 | []=>.nil
 | a::as=>.cons rfl (gh as)
inductive FlQ (H:Hp):List Kn→List V→dj→Prop
 | nil:FlQ H [] [] []
 | i {ks:List Kn} {xs:List V} {as:dj} (i:Int) (r:FlQ H ks xs as):FlQ H (.i::ks) (.int i::xs) ([i]::as)
 | s {ks:List Kn} {xs:List V} {as:dj} (x:Str) (r:FlQ H ks xs as):FlQ H (.s::ks) (.str x::xs) (x.cps.toList.map Int.ofNat::as)
 | p {ks:List Kn} {xs:List V} {as:dj} {b:Addr} {i j:Int} (p:H b=some (.tup [.int i,.int j])) (r:FlQ H ks xs as):FlQ H (.p::ks) (.ref b::xs) ([i,j]::as)
def KdQ (f:Kn)(sh:List Int→List Kn)(H:Hp)(a:Addr)(k:dj):Prop:=∃ xs,H a=some (.tup xs)∧FlQ H (f::sh (k.headD [])) xs k
theorem w5 {Gn:List (Addr × Obj)}{σ:St}{H:Hp}{s:Shared}(I:Inv X Gn σ H s){ks:List Kn}{xs:List V}{as:dj}(f:FlQ H ks xs as):∀ {us:List Value},bh xs us→FlR s.heap ks us as:=by
 induction f with
 | nil=>intro us r;cases r;exact .nil
 | i i f ih =>
  intro us r
  cases r with
  | cons r1 r2 =>
   obtain ⟨t,rfl⟩:=r1
   exact .cons ⟨i,t,rfl,rfl⟩ (ih r2)
 | s x f ih =>
  intro us r
  cases r with
  | cons r1 r2 =>
   obtain ⟨t,rfl⟩:=r1
   exact .cons ⟨x,t,rfl,rfl⟩ (ih r2)
 | @p ks xs as b i j p f ih =>
  intro us r
  cases r with
  | cons r1 r2 =>
   cases r1
   obtain ⟨Gp,r,pl,_⟩:=I.tuple (SqT.of p)
   obtain ⟨u1,u2,rfl,⟨t,rfl⟩,⟨u,rfl⟩⟩:=tK r
   obtain ⟨o,e,c,n,d⟩:=pl
   exact .cons ⟨i,j,⟨b,o,t,u,n,rfl,e,c,d⟩,rfl⟩ (ih r2)
theorem w6 {Gn:List (Addr × Obj)}{σ:St}{H:Hp}{s:Shared}(I:Inv X Gn σ H s){f:Kn}{sh:List Int→List Kn}{a:Addr}{k:dj}(h:KdQ f sh H a k):Kd f sh s.heap (.ref a) k:=by
 obtain ⟨xs,h1,h2⟩:=h
 obtain ⟨Gp,r,pl,_⟩:=I.tuple (SqT.of h1)
 obtain ⟨o,e,c,n,d⟩:=pl
 exact ⟨a,o,Gp,n,rfl,e,c,d,w5 I h2 r⟩
end
end L2
namespace Tv
open PySem PyProof.Rows
section
variable {prog:Program} {w:World} {A:Around} {E:Value→Shared→Prop} {s:Shared}
theorem qV {f:Kn}{sh:List Int→List Kn}{zs0:List (Addr × dj)}{h:Heap}(hp:∀ z∈zs0,Kd f sh h (.ref z.1) z.2){xs:Array Keyed}(pm:xs.Perm (pairsOf (zs0.map fun z=>Value.ref z.1)))(hs:SortedToK (kdK f sh h) xs (pairsOf (zs0.map fun z=>Value.ref z.1)).size) :
  ∃ zs:List (Addr × dj),zs.Perm zs0∧(xs.map (·.2)).toList=zs.map (fun z=>Value.ref z.1)∧(zs.map (·.2)).Pairwise qle:=by
 have hl:xs.toList.Perm (zs0.map fun z=>(Value.ref z.1,Value.ref z.1)):=by
  have:=Cp.mp pm
  rw [EI,fJ,BZ] at this
  exact this
 obtain ⟨zs,h1,h2⟩:=L2.fD (fun z:Addr × dj=>((Value.ref z.1,Value.ref z.1):Keyed)) hl.symm zs0 rfl
 refine ⟨zs,h1,?_,?_⟩
 ·rw [Array.toList_map,h2,BZ]
  rfl
 ·have hz:zs.length=xs.size:=by rw [← A0,h2,AY]
  rw [Ci]
  intro i j hi hj GB
  rw [AY] at hi hj
  have q:=hs i j (Ey GB) (by rw [← pm.size_eq];omega)
  have key:∀ k (hk:k < zs.length),KK (kdK f sh h) xs k=zs[k].2:=fun k hk=>by
   unfold KK
   have e:xs[k]? = some (Value.ref zs[k].1,Value.ref zs[k].1):=by
    rw [← BE,h2,Bi,fu hk]
    rfl
   rw [e]
   show ((vJ f sh h (.ref zs[k].1)).getD [])=_
   rw [(hp _ (h1.mem_iff.mp (BF hk))).of]
   rfl
  rw [key i hi,key j hj] at q
  rw [Fk,Fk]
  exact of_decide_eq_false q
theorem sJ {f:Kn}{sh:List Int→List Kn}(hf:f ≠ .p)(okf:lY prog w A f)(ok:∀ a,∀ k∈sh a,lY prog w A k){a:Addr}{zs0:List (Addr × dj)}{m:Nat}{P:Fin→Shared→Prop}(at_:s.heap.get? a=some (seqObj "list" (zs0.map fun z=>Value.ref z.1).toArray m))(hp:∀ z∈zs0,Kd f sh s.heap (.ref z.1) z.2)(lim:zs0.length≤sizeLine)
  (q:∀ (out:Array Value) (zs:List (Addr × dj)),zs.Perm zs0→out.toList=zs.map (fun z=>Value.ref z.1)→(zs.map (·.2)).Pairwise qle→P (.done (.ret .none)) { s with heap:=sortedHeap s.heap a (zs0.map fun z=>Value.ref z.1) out }) :
  wpAny (model prog w) A (Builtin.«list.sort» ⟨[.ref a],[]⟩) P E s:=by
 have la:=Bl at_
 -- the pairs stay while the list is empty
 have stay:∀ z∈zs0,Kd f sh (((s.heap.update a (Obj.mapSeq fun _=>#[])).push (seqObj "tuple" (zs0.map fun z=>Value.ref z.1).toArray 0)).push (seqObj "list" #[] 0)) (.ref z.1) z.2:=fun z hz=>by
  refine Kd.stay (fun b o g c=>?_) (hp z hz)
  have hba:b≠a:=fun x=>by
   subst x
   rw [at_] at g
   rw [← A_ g] at c
   simp [seqObj] at c
  exact A3 _ (A3 _ ((BY _ _ (Ne.symm hba)).trans g))
 refine sort_any (κ:=kdK f sh (((s.heap.update a (Obj.mapSeq fun _=>#[])).push (seqObj "tuple" (zs0.map fun z=>Value.ref z.1).toArray 0)).push (seqObj "list" #[] 0))) (kd:=tuples' true) at_ ?_ ?_ ?_ (by rw [AY];exact lim) ?_
 ·intro p hp'
  rw [EI,fJ,BZ] at hp'
  obtain ⟨z,hz,rfl⟩:=BD.mp hp'
  exact ⟨_,(stay z hz).of⟩
 ·intro E' x y ka kb Q' hx hy hq
  exact y7 hf okf ok (Kd.is hx) (Kd.is hy) hq
 ·intro x y r e Q' hq
  refine uD (f:=f) (sh:=sh) hf (fun v hv=>?_) (by simp) hq
  rw [← e] at hv
  obtain ⟨z,hz,rfl⟩:=BD.mp hv
  exact ⟨_,stay z hz⟩
 ·intro st c1 c2
  obtain ⟨zs,h1,h2,h3⟩:=qV stay c1 c2
  exact q _ zs h1 h2 h3
theorem oW {f:Kn}{sh:List Int→List Kn}(hf:f ≠ .p)(okf:∀ A':Around,A'.units≤A.units+8→lY prog w A' f)(ok:∀ A':Around,A'.units≤A.units+8→∀ a,∀ k∈sh a,lY prog w A' k){l:Addr}{zs0:List (Addr × dj)}{Q:Value→Shared→Prop}(hl:s.heap.IsList l (zs0.map fun z=>Value.ref z.1).toArray ∨ s.heap.IsTuple l (zs0.map fun z=>Value.ref z.1).toArray)(hp:∀ z∈zs0,Kd f sh s.heap (.ref z.1) z.2)(lim:zs0.length≤sizeLine)
  (q:∀ (out:Array Value) (zs:List (Addr × dj)),zs.Perm zs0→out.toList=zs.map (fun z=>Value.ref z.1)→(zs.map (·.2)).Pairwise qle→Q (.ref (s.heap.objs.size+1)) { s with heap:=sortedAll s.heap (zs0.map fun z=>Value.ref z.1) out }) :
  wpAny (model prog w) A (call (.builtin "sorted") [.ref l]) Q E s:=by
 have lim':(zs0.map fun z=>Value.ref z.1).length≤sizeLine:=by rw [AY];exact lim
 refine EJ kind_sorted plain_sorted entry_sorted (args_sorted1 _) ?_
 unfold Builtin.«sorted»
 rcases hl with hl | hl
 ·refine AX (m:=checkCount "sorted" 1 1 _) (A4 (AX (collect_list hl (AX (Dk ?_)) (hsz:=lim'))))
  have z1:((s.heap.push (seqObj "list" #[] 0)).update s.heap.objs.size (Obj.mapSeq (· ++ (zs0.map fun z=>Value.ref z.1).toArray))).objs.size=s.heap.objs.size+1:=(D_ ..).trans (size_push' ..)
  have g:(((s.heap.push (seqObj "list" #[] 0)).update s.heap.objs.size (Obj.mapSeq (· ++ (zs0.map fun z=>Value.ref z.1).toArray))).push (seqObj "list" (zs0.map fun z=>Value.ref z.1).toArray 0)).get? (s.heap.objs.size+1)=some (seqObj "list" (zs0.map fun z=>Value.ref z.1).toArray 0):=z1 ▸ Bh _ rfl
  have old:∀ b o,s.heap.get? b=some o→(((s.heap.push (seqObj "list" #[] 0)).update s.heap.objs.size (Obj.mapSeq (· ++ (zs0.map fun z=>Value.ref z.1).toArray))).push (seqObj "list" (zs0.map fun z=>Value.ref z.1).toArray 0)).get? b=some o:=fun b o e =>
   A3 _ ((BY _ _ (FG (Bl e))).trans (A3 _ e))
  show wpAny _ _ _ _ _ { s with heap:=((s.heap.push (seqObj "list" #[] 0)).update s.heap.objs.size (Obj.mapSeq (· ++ (zs0.map fun z=>Value.ref z.1).toArray))).push (seqObj "list" (zs0.map fun z=>Value.ref z.1).toArray 0) }
  rw [z1]
  refine AX (Ca (Cj EK ⟨_,g,rfl⟩ Et (sJ (f:=f) (sh:=sh) hf (okf _ (by show A.units+1+1≤_;omega)) (ok _ (by show A.units+1+1≤_;omega)) (zs0:=zs0) g (fun z hz=>(hp z hz).stay fun b o e _=>old b o e) lim fun out zs h1 h2 h3=>⟨_,rfl,?_⟩) (EL _)))
  exact A4 ⟨_,rfl,q _ zs h1 h2 h3⟩
 ·refine AX (m:=checkCount "sorted" 1 1 _) (A4 (AX (L2.fI hl (AX (Dk ?_)) (hsz:=lim'))))
  have z1:((s.heap.push (seqObj "list" #[] 0)).update s.heap.objs.size (Obj.mapSeq (· ++ (zs0.map fun z=>Value.ref z.1).toArray))).objs.size=s.heap.objs.size+1:=(D_ ..).trans (size_push' ..)
  have g:(((s.heap.push (seqObj "list" #[] 0)).update s.heap.objs.size (Obj.mapSeq (· ++ (zs0.map fun z=>Value.ref z.1).toArray))).push (seqObj "list" (zs0.map fun z=>Value.ref z.1).toArray 0)).get? (s.heap.objs.size+1)=some (seqObj "list" (zs0.map fun z=>Value.ref z.1).toArray 0):=z1 ▸ Bh _ rfl
  have old:∀ b o,s.heap.get? b=some o→(((s.heap.push (seqObj "list" #[] 0)).update s.heap.objs.size (Obj.mapSeq (· ++ (zs0.map fun z=>Value.ref z.1).toArray))).push (seqObj "list" (zs0.map fun z=>Value.ref z.1).toArray 0)).get? b=some o:=fun b o e =>
   A3 _ ((BY _ _ (FG (Bl e))).trans (A3 _ e))
  show wpAny _ _ _ _ _ { s with heap:=((s.heap.push (seqObj "list" #[] 0)).update s.heap.objs.size (Obj.mapSeq (· ++ (zs0.map fun z=>Value.ref z.1).toArray))).push (seqObj "list" (zs0.map fun z=>Value.ref z.1).toArray 0) }
  rw [z1]
  refine AX (Ca (Cj EK ⟨_,g,rfl⟩ Et (sJ (f:=f) (sh:=sh) hf (okf _ (by show A.units+1+1≤_;omega)) (ok _ (by show A.units+1+1≤_;omega)) (zs0:=zs0) g (fun z hz=>(hp z hz).stay fun b o e _=>old b o e) lim fun out zs h1 h2 h3=>⟨_,rfl,?_⟩) (EL _)))
  exact A4 ⟨_,rfl,q _ zs h1 h2 h3⟩
end
end Tv
namespace L2
open PySem PySem.Spec PyProof.Rows Wd Tv
section
variable {X:Cx}
inductive b5 (f:Kn)(sh:List Int→List Kn)(K:PySem.W.Frag)(xs:List V)(H:Hp)(Q:VK):Prop
 | mk:∀ (l:Addr) (zs0:List (Addr × dj)),(xs=[.ref l])→(SqL K H l ((zs0.map (·.1)).map V.ref) ∨ SqT K H l ((zs0.map (·.1)).map V.ref))→(∀ z∈zs0,KdQ f sh H z.1 z.2) →
   (∀ (p:Addr) (zs:List (Addr × dj)),H p=none→zs.Perm zs0→(zs.map (·.2)).Pairwise qle→Q (.ref p) (upd H p (.lst ((zs.map (·.1)).map V.ref))))→b5 f sh K xs H Q
theorem hE {f:Kn}{sh:List Int→List Kn}{K:PySem.W.Frag}(hf:f ≠ .p)(okf:∀ A:Around,A.units≤X.A.units+8→lY X.prog X.w A f)(ok:∀ A:Around,A.units≤X.A.units+8→∀ a,∀ k∈sh a,lY X.prog X.w A k)(hK:X.K=K):cL X (.builtin "sorted") (b5 f sh K):=by
 subst hK
 intro Gn s σ H xs us Q I r h
 obtain ⟨l,zs0,rfl,hq,hp,q⟩:=h
 obtain ⟨u,rfl,ru⟩:=cM r
 cases ru
 have em:∀ zs:List (Addr × dj),(zs.map (·.1)).map Value.ref=zs.map fun z=>Value.ref z.1:=fun zs=>by rw [BZ];rfl
 obtain ⟨pl,hz⟩:(s.heap.IsList l (zs0.map fun z=>Value.ref z.1).toArray ∨ s.heap.IsTuple l (zs0.map fun z=>Value.ref z.1).toArray)∧((zs0.map (·.1)).map V.ref).length≤sizeLine:=by
  rcases hq with hq | hq
  ·obtain ⟨Gp,rv,pl,hz⟩:=I.list hq
   rw [eJ rv,em] at pl
   exact ⟨.inl pl.isList,hz⟩
  ·obtain ⟨Gp,rv,pl,hz⟩:=I.tuple hq
   rw [eJ rv,em] at pl
   exact ⟨.inr pl,hz⟩
 rw [AY,AY] at hz
 refine oW hf okf ok pl (fun z hz'=>w6 I (hp z hz')) hz fun out zs h1 h2 h3=>?_
 obtain ⟨e,he⟩:=sortedAll_at s.heap (zs0.map fun z=>Value.ref z.1) out
 have I2:Inv X Gn σ (upd H (s.heap.objs.size+1) (.lst ((zs.map (·.1)).map V.ref))) { s with heap:=sortedAll s.heap (zs0.map fun z=>Value.ref z.1) out,toks:=s.toks } :=
  I.laid (fun b o e=>sortedAll_old e) (Dv _) ⟨by rw [AY,AY,h1.length_eq];exact hz,out.toList,e,by rw [h2,← em];exact gh _,by simpa [seqObj] using he⟩
 exact ⟨.ref (s.heap.objs.size+1),_,I2,rfl,q _ zs (I.hok.fresh (Dv _)) h1 h3⟩
end
end L2
namespace Tv
open PySem PyProof.Rows
theorem AI {prog:Program}{w:World}{A:Around}(hu:A.units+8 < cLine):lY prog w A .p:=by
 refine ⟨fun {s E v u a b Q} x y q=>?_,fun {s E c v u a b Q} hc x y ne q=>?_⟩
 ·obtain ⟨i,j,⟨a,o,t,t',n,rfl,e,hc,d⟩,rfl⟩:=x
  obtain ⟨k,l,⟨a2,o2,t2,t2',n2,rfl,e2,hc2,d2⟩,rfl⟩:=y
  have rd:∀ {a:Addr} {o:Obj} {t t':Tok} {n:Nat} {i j:Int},s.heap.get? a=some o→o.cls = .type "tuple"→o.data = .seq #[.int i t,.int j t'] n→Reads s.heap (.ref a) (.tuple [.int i,.int j]) []:=fun g1 g2 g3=>.tuple g1 g2 g3 (.cons (as:=[]) (bs:=[]) (.int _ _) (.cons (as:=[]) (bs:=[]) (.int _ _) .nil))
  refine SeqAt.eqAt_reads _ _ A s _ _ _ _ (rd e hc d) (rd e2 hc2 d2) rfl rfl (by show A.units+min 1 1 < cLine;omega) prog w E _ ?_
  have eq:PyData.eqv (.tuple [.int i,.int j]) (.tuple [.int k,.int l])=((i == k) && ((j == l) && true)):=rfl
  rw [eq]
  have:decide ([i,j]=[k,l])=((i == k) && ((j == l) && true)):=by
   rw [BC]
   simp
  rwa [this] at q
 ·obtain ⟨i,j,⟨a,o,t,t',n,rfl,e,hc1,d⟩,rfl⟩:=x
  obtain ⟨k,l,⟨a2,o2,t2,t2',n2,rfl,e2,hc2,d2⟩,rfl⟩:=y
  have hb:c=false:=by
   cases c with
   | true=>exact absurd rfl (hc rfl)
   | false=>rfl
  rw [hb,oneLt'_eq]
  simp only [Bn,Cf]
  refine AX (HT.fT ⟨o,e,hc1,n,d⟩ ⟨o2,e2,hc2,n2,d2⟩ (.cons _ _ (.cons _ _ .nil)) (.cons _ _ (.cons _ _ .nil)) (by omega) (CT ?_))
  have:HT.bR [i,j] [k,l]=decide ([i,j] < [k,l]):=by
   rw [BC,Bb,Cu,Cu,HT.bS,HT.bS]
   by_cases c1:i=k
   ·have c2:¬ j=l:=fun z=>ne (by rw [c1,z])
    rw [if_pos c1,if_neg c2,Bb]
    exact ⟨fun h=>.inr ⟨c1,.inl h⟩,fun h=>h.elim (fun h=>by omega) fun h=>h.2.elim id fun h=>absurd h.1 c2⟩
   ·rw [if_neg c1,Bb]
    exact ⟨.inl,fun h=>h.elim id fun h=>absurd h.1 c1⟩
  rw [this]
  exact q
theorem sL {prog:Program}{w:World}{A:Around}(hu:A.units+8 < cLine):∀ k,lY prog w A k
 | .i=>AG
 | .s=>AH
 | .p=>AI hu
end Tv
namespace L2
open PySem PySem.Spec PyProof.Rows Wd Tv
theorem fO {X:Cx}{f:Kn}{sh:List Int→List Kn}{K:PySem.W.Frag}(hf:f ≠ .p)(hu:X.A.units+64 < cLine)(hK:X.K=K):cL X (.builtin "sorted") (b5 f sh K):=hE hf (fun A h=>sL (by omega) f) (fun A h _ k _=>sL (by omega) k) hK
end L2
namespace L2
open PySem PySem.Spec PyProof.Rows
section
variable {X:Cx}
open Classical in
end
end L2
namespace HT
open PySem PyProof.Rows
theorem qW (A:Around)(s:Shared)(a:Int)(t:Tok)(c:Int)(u:Tok)(prog:Program)(w:World)(E:Value→Shared→Prop)(Q:Value→Shared→Prop)(h:Q (.bool (decide (c < a))) s) :
  wpAny (model prog w) A (richCompare .Gt (.int a t) (.int c u)) Q E s :=
 (PyProof.Rows.gt_int (by exact h):wpAny (model prog w) A (compareOp .Gt (.int a t) (.int c u)) Q E s)
section
open PySem.SeqAt
open PySem.AutoSeq1 (wpAny_loadPart')
open PySem.MeetsSeq PySem.MeetsSeq2 PySem.MeetsSeq3
theorem hJ (l b:Addr)(items Gv:Array Value)(n n2:Nat)(dd dd2:Option Addr)(sl sl2:Array (Option Value))(ns ms:List Int)(hi:IntsAre items.toList ns)(hj:IntsAre Gv.toList ms) :
  Meets (Builtin.«tuple.__gt__» ⟨[.ref l,.ref b],[]⟩)
   (fun _ R s=>s.heap.get? l=some { cls:=.type "tuple",dict:=dd,data:=.seq items n,slots:=sl }∧s.heap.get? b=some { cls:=.type "tuple",dict:=dd2,data:=.seq Gv n2,slots:=sl2 } ∧
    R (.ok (.ret (.bool (bR ms ns)))) s) :=
 .of_wp fun prog w A R s h=>by
  obtain ⟨hp,g,d,tk,os⟩:=s;obtain ⟨hl,hb,h⟩:=h
  have f2:=EO
  have z1:items.size=ns.length:=by rw [← hi.length];simp
  have z2:Gv.size=ms.length:=by rw [← hj.length];simp
  wp_walk using wpAny_loadPart' hl,wpAny_loadPart' hb,wpAny_forIn_list _ (fun rest b s'=>b.1=none∧s'=⟨hp,g,d,tk,os⟩∧∃ (vs ws:List Value) (ns' ms':List Int),rest=vs.zip ws ∧
   IntsAre vs ns'∧IntsAre ws ms'∧ns'.length+Gv.size=ms'.length+items.size∧R (.ok (.ret (.bool (bR ms' ns')))) ⟨hp,g,d,tk,os⟩) _
  case turn =>
   rintro ⟨y,x⟩ rest b s' ⟨hb',rfl,vs,ws,ns',ms',hz,hvi,hwi,hlen,hR⟩
   cases hvi with
   | nil=>rw [List.zip_nil_left] at hz;cases hz
   | cons a t hvi' =>
    cases hwi with
    | nil=>rw [List.zip_nil_right] at hz;cases hz
    | cons c u hwi' =>
     rw [Cy] at hz
     injection hz with hyx hrest
     injection hyx with hy hx
     subst hy hx
     rw [bS] at hR
     simp only [BH] at hlen
     obtain ⟨e,he,hiff⟩:=ke A.in1 ⟨hp,g,d,tk,os⟩ a t c u
     refine AX (he prog w _ _ ?_)
     cases e with
     | true =>
      rw [if_pos (hiff.mp rfl).symm] at hR
      wp_walk
      exact ⟨rfl,rfl,_,_,_,_,hrest,hvi',hwi',by omega,hR⟩
     | false =>
      rw [if_neg (fun q=>absurd (hiff.mpr q.symm) Bx)] at hR
      have hri:=qW A.in1 ⟨hp,g,d,tk,os⟩ a t c u prog w
      wp_walk using hri
      exact ⟨_,rfl,by simpa using hR⟩
  case fin =>
   rintro ⟨b1,b2⟩ s' ⟨hb',rfl,vs,ws,ns',ms',hz,hvi,hwi,hlen,hR⟩
   simp only at hb'
   subst hb'
   have hv:bR ms' ns'=decide (Gv.size < items.size):=by
    cases hvi with
    | nil =>
     cases hwi with
     | nil =>
      simp only [Co] at hlen
      rw [cn]
      exact (AZ (by omega)).symm
     | cons c u hw =>
      simp only [Co,BH] at hlen
      rw [dm]
      exact (AZ (by omega)).symm
    | cons a t hv =>
     cases hwi with
     | nil =>
      simp only [Co,BH] at hlen
      rw [dk]
      exact (Bg (by omega)).symm
     | cons c u hw =>
      rw [Cy] at hz
      cases hz
   rw [hv] at hR
   wp_walk
   exact ⟨_,rfl,by simpa [Builtin.Tuple.tupleCompareSizes] using hR⟩
  case h =>
   exact ⟨rfl,rfl,items.toList,Gv.toList,ns,ms,rfl,hi,hj,by omega,h⟩
end
section
variable {prog:Program} {w:World} {A:Around} {E:Value→Shared→Prop} {s:Shared}
theorem l9 {l b:Addr}{items Gv:Array Value}{ns ms:List Int}{Q:Value→Shared→Prop}(hl:IsTup s.heap l items)(hb:IsTup s.heap b Gv)(hi:IntsAre items.toList ns)(hj:IntsAre Gv.toList ms)
  (hu:A.units < cLine) (h:Q (.bool (bR ms ns)) s):wpAny (model prog w) A (richCompare .Gt (.ref l) (.ref b)) Q E s:=by
 obtain ⟨⟨cls,dd,data,sl⟩,ho,hc,n,hd⟩:=id hl
 obtain ⟨⟨cls2,dd2,data2,sl2⟩,ho2,hc2,n2,hd2⟩:=id hb
 simp only at hc hd hc2 hd2
 subst hc hd hc2 hd2
 exact richCompare_meets_room (op:=.Gt) ⟨_,ho,rfl⟩ ⟨_,ho2,rfl⟩ PySem.F.slot_tuple_gt PySem.F.entry_tuple_gt (PySem.F.args_tuple_gt_2 _ _) (hJ l b items Gv n n2 dd dd2 sl sl2 ns ms hi hj)
  ⟨ho,ho2,show Value.bool (bR ms ns)≠Value.notImplemented∧Q (.bool (bR ms ns)) s from ⟨(fun x=>nomatch x),h⟩⟩ hu
end
end HT
namespace L2
open PySem PySem.Spec PyProof.Rows
section
variable {X:Cx}
end
end L2
namespace PySem
open Sem (wp)
section
variable {K:Type} [DecidableEq K] {prog:Program} {w:World} {knd:KeyKind prog w K} {A:Around} {E:Value→Shared→Prop} {s:Shared}
set_option maxHeartbeats 3200000 in
theorem l_ (dd:Nat→List K){z:Str}{zt:Tok}{val:Nat→K}{Q:Value→Shared→Prop}(hh:A.handled=none)(hl:z.cps.all (· < 128)=true)(d0:dd 0=[])(d1:∀ i,val i∈dd i→dd (i+1)=dd i)(d2:∀ i,val i∉dd i→dd (i+1)=dd i++[val i])(dl:∀ i,(dd i).length≤i)(hval:∀ (i:Nat) (v:Value),(∃ c u,z.cps[i]? = some c∧v = .str ⟨#[c]⟩ u)→knd.is (val i) v=true∧v.scannable=true)(hb:z.cps.size+1 < scanBound)
  (h:∀ (h':Heap) (tk:Nat),lX knd h' s.heap.objs.size (dd z.cps.size)→(∀ b o,b < s.heap.objs.size→s.heap.get? b=some o→h'.get? b=some o)→Q (.ref s.heap.objs.size) { s with heap:=h',toks:=tk }) :
  wpAny (model prog w) A (call (.type "set") [.str z zt]) Q E s:=by
 obtain ⟨c,tl,hmro⟩:=F.called_set.mro
 have hmade:=F.called_set.made
 have hsub:=F.called_set.sub
 refine wpAny_call (codeAny_of_tree ?_)
 show wpAny _ _ (callAny (.type "set") _) _ _ _
 refine A4 ⟨Code.quiet_builtin _ (by decide +kernel),Di F.entry_type_call ?_⟩
 rw [Around.under_plain (weight_type_call_type "set" [.str z zt] []) rfl]
 have x1:=F.called_set.notType
 have x2:=F.called_set.canCreate
 have x3:=F.typeCall_set_1 (.str z zt)
 repeat (any_goals (first | assumption | wp_step))
 refine EB (gZ (.str z zt) (E:=E) (Q₁:=fun ob s1=>ob = .ref s.heap.objs.size∧s1={ s with heap:=s.heap.push (sob (ldr w)) }) ⟨rfl,rfl⟩) fun r s1 hr=>?_
 cases r with
 | error e=>exact hr
 | ok fl =>
  cases fl with
  | ret ob =>
   obtain ⟨rfl,rfl⟩:=hr
   have gS:(s.heap.push (sob (ldr w))).get? s.heap.objs.size=some (sob (ldr w)):=Bh _ rfl
   have hT:Shared.TypeIs { s with heap:=s.heap.push (sob (ldr w)) } (.ref s.heap.objs.size) "set":=⟨_,gS,rfl⟩
   have x4:=F.called_set.init.lookup
   have x5:=F.called_set.init.bind (.ref s.heap.objs.size)
   repeat (any_goals (first | assumption | wp_step))
   refine EB (codeAny_call_builtin (R:=wants (fun r s2=>r = .none∧∃ h' tk,s2={ s with heap:=h',toks:=tk }∧lX knd h' s.heap.objs.size (dd z.cps.size)∧(∀ b o,b < s.heap.objs.size→s.heap.get? b=some o→h'.get? b=some o)) E) F.called_set.init.plain F.entry_set_init (check_set_init_1 hT ?_)) fun r2 s2 hr2=>?_
   ·have y1:=F.sub_str_set
    have y2:=F.sub_str_frozenset
    have y3:(Value.type "str" == Value.type "dict")=false:=by decide
    unfold Builtin.«set.__init__» noKeywords Builtin.Frozenset.updateFrom
    generalize hPI:pyIter=PI
    wp_walk
    subst hPI
    refine wpAny_pyIter_ascii hl (AX (wpAny_runValue ?_))
    have z1:(s.heap.push (sob (ldr w))).objs.size=s.heap.objs.size+1:=Dn ..
    have nf:s.heap.objs.size∉[(s.heap.push (sob (ldr w))).objs.size]:=by
     rw [z1];simp only [A2]
     exact BP (CM _)
    refine yW dd ((Walks.strAscii (by simp [hh]) _ z zt).toS) s.heap.objs.size nf val d1 d2 dl hval hb (z.cps.size - 0) 0 _ (by omega) (BO _) ⟨_,Bh _ rfl,rfl,rfl⟩ ?s0 ?rr
    case s0=>exact ⟨_,#[],0,_,A3 _ gS,⟨rfl,rfl,rfl⟩,rfl,fun e he=>by simp at he,fun k=>by rw [d0];simp,by decide,by rfl,by rw [d0];rfl,⟨rfl,qN⟩,rfl⟩
    case rr =>
     intro s' mv hS'
     obtain ⟨h',g',d',tk',os'⟩:=s'
     obtain rfl:g'=s.gens:=mv.gens
     obtain rfl:d'=s.drawn:=mv.drawn
     obtain rfl:os'=s.os:=mv.os
     show wpAny _ _ _ _ _ _
     refine A4 ?_
     show wpAny _ _ (ret Value.none) _ _ _
     refine A4 ⟨rfl,h',tk',rfl,hS',fun b o Gw e=>mv.heap b o ?_ (A3 _ (A3 _ e))⟩
     simp only [Bm,A2,BA,CD,not_or]
     exact ⟨BP Gw,by rw [z1];exact BP (Dl Gw)⟩
   ·cases r2 with
    | error e=>exact hr2
    | ok fl2 =>
     cases fl2 with
     | ret r =>
      obtain ⟨rfl,h',tk,rfl,hS',hk'⟩:=hr2
      repeat (any_goals (first | assumption | wp_step))
      exact h _ _ hS' hk'
     | _=>exact hr2.elim
  | _=>exact hr.elim
end
end PySem
namespace L2
open PySem PySem.Spec PyProof.Rows Wd
section
variable {X:Cx}
inductive dZ (P:PySem.Program)(w:PySem.World)(xs:List V)(H:Hp)(Q:VK):Prop
 | mk:∀ (a:Addr) (dl:List Str),(xs=[.ref a])→(H a=some (StO P w a dl))→(Q (.int (dl.length:Int)) H)→dZ P w xs H Q
theorem jE:cL X (.builtin "len") (dZ X.prog X.w):=by
 intro Gn s σ H xs us Q I r h
 obtain ⟨a,dl,rfl,ha,q⟩:=h
 obtain ⟨u,rfl,ru⟩:=cM r
 cases ru
 have hS:wR X.prog X.w s.heap a dl:=(I.hok a _ ha).1
 obtain ⟨o,es,ep,t,ho,hex,hd,hel,hm,hb,hf,hn,hpl,hld⟩:=hS
 have hb:es.size < 4096:=hb
 refine call_len_set ho hex hd hf (by omega) ?_
 rw [hn]
 exact ⟨.int (dl.length:Int),H,(I.tok _).tok _,⟨_,rfl⟩,q⟩
inductive d3 (K:PySem.W.Frag)(xs:List V)(H:Hp)(Q:VK):Prop
 | mk:∀ p i j,(xs=[.ref p])→(SqL K H p [.int i,.int j])→(Q (.int (if j < i then j else i)) H)→d3 K xs H Q
theorem jF (hc:X.calm=true):cL X (.builtin "min") (d3 X.K):=by
 intro Gn s σ H xs us Q I r h
 obtain ⟨p,i,j,rfl,hq,q⟩:=h
 obtain ⟨u,rfl,ru⟩:=cM r
 cases ru
 obtain ⟨Gp,rv,pl,_⟩:=I.list hq
 have ht:=pl.isList
 obtain ⟨t,u,rfl⟩:=de rv
 have Gw:p < s.heap.objs.size:=by obtain ⟨_,e,_⟩:=ht;exact Bl e
 refine call_min_walk (EM ht ?_)
 refine ⟨_,_,_,_,_,_,fun a b=>decide (nAt i j a < nAt i j b),rfl,Walks.list (A:=X.A.in1) (I.ok.hd hc) _ p (BP Gw) _,⟨⟨_,Bh _ rfl,rfl,rfl⟩,ht.push _⟩,fun b hb=>?_,?_,?_,fun v h' tk hP hk=>?_⟩
 ·show b < (s.heap.push _).objs.size
  rw [Dn]
  rcases Bm.mp hb with e | hb
  ·rw [e];exact CM _
  ·rw [A2.mp hb];exact Dl Gw
 ·exact D6 1
 ·refine CmpOf.ints_lt (nAt i j) fun a v hv=>?_
  match a,hv with
  | 0,hv=>exact ⟨t,(A_ hv).symm⟩
  | 1,hv=>exact ⟨u,(A_ hv).symm⟩
  | (a+2),hv=>simp at hv
 ·have old:∀ b o,s.heap.get? b=some o→h'.get? b=some o:=fun b o e=>hk b o (fun z=>by rw [A2.mp z] at e;exact absurd (Bl e) (B_ _)) (A3 _ e)
  have hP:[Value.int i t,Value.int j u].toArray[if decide (j < i)=true then 1 else 0]? = some v:=hP
  by_cases h:j < i
  ·rw [if_pos (Bg h)] at hP
   rw [if_pos h] at q
   exact ⟨.int j,H,I.kept old,⟨u,(A_ hP).symm⟩,q⟩
  ·rw [AZ h] at hP
   rw [if_neg h] at q
   exact ⟨.int i,H,I.kept old,⟨t,(A_ hP).symm⟩,q⟩
inductive d4 (K:PySem.W.Frag)(xs:List V)(H:Hp)(Q:VK):Prop
 | mk:∀ p i j,(xs=[.ref p])→(SqL K H p [.int i,.int j])→(Q (.int (if j > i then j else i)) H)→d4 K xs H Q
theorem jG (hc:X.calm=true):cL X (.builtin "max") (d4 X.K):=by
 intro Gn s σ H xs us Q I r h
 obtain ⟨p,i,j,rfl,hq,q⟩:=h
 obtain ⟨u,rfl,ru⟩:=cM r
 cases ru
 obtain ⟨Gp,rv,pl,_⟩:=I.list hq
 have ht:=pl.isList
 obtain ⟨t,u,rfl⟩:=de rv
 have Gw:p < s.heap.objs.size:=by obtain ⟨_,e,_⟩:=ht;exact Bl e
 refine call_max_walk (EM ht ?_)
 refine ⟨_,_,_,_,_,_,fun a b=>decide (nAt i j a > nAt i j b),rfl,Walks.list (A:=X.A.in1) (I.ok.hd hc) _ p (BP Gw) _,⟨⟨_,Bh _ rfl,rfl,rfl⟩,ht.push _⟩,fun b hb=>?_,?_,?_,fun v h' tk hP hk=>?_⟩
 ·show b < (s.heap.push _).objs.size
  rw [Dn]
  rcases Bm.mp hb with e | hb
  ·rw [e];exact CM _
  ·rw [A2.mp hb];exact Dl Gw
 ·exact D6 1
 ·refine CmpOf.ints_gt (nAt i j) fun a v hv=>?_
  match a,hv with
  | 0,hv=>exact ⟨t,(A_ hv).symm⟩
  | 1,hv=>exact ⟨u,(A_ hv).symm⟩
  | (a+2),hv=>simp at hv
 ·have old:∀ b o,s.heap.get? b=some o→h'.get? b=some o:=fun b o e=>hk b o (fun z=>by rw [A2.mp z] at e;exact absurd (Bl e) (B_ _)) (A3 _ e)
  have hP:[Value.int i t,Value.int j u].toArray[if decide (j > i)=true then 1 else 0]? = some v:=hP
  by_cases h:j > i
  ·rw [if_pos (Bg h)] at hP
   rw [if_pos h] at q
   exact ⟨.int j,H,I.kept old,⟨u,(A_ hP).symm⟩,q⟩
  ·rw [AZ h] at hP
   rw [if_neg h] at q
   exact ⟨.int i,H,I.kept old,⟨t,(A_ hP).symm⟩,q⟩
inductive Ah (K:PySem.W.Frag)(x:V)(y:V)(H:Hp)(Q:VK):Prop
 | mk:∀ a b ns ms,(x = .ref a)→(y = .ref b)→(SqT K H a (ns.map V.int))→(SqT K H b (ms.map V.int))→(Q (.bl (HT.bR ms ns)) H)→Ah K x y H Q
theorem w9 {K:PySem.W.Frag}(hK:X.K=K)(hu:X.A.units+64 < cLine):OpR X (compareOp .Gt) (Ah K):=by
 subst hK
 intro Gn s σ H x y v u Q I rx ry h
 obtain ⟨a,b,ns,ms,rfl,rfl,ha,hb,q⟩:=h
 cases rx
 cases ry
 obtain ⟨Gp,r1,p1,_⟩:=I.tuple ha
 obtain ⟨GY,r2,p2,_⟩:=I.tuple hb
 have i1:IntsAre Gp.toArray.toList ns:=c_ r1
 have i2:IntsAre GY.toArray.toList ms:=c_ r2
 exact HT.l9 p1 p2 i1 i2 (by omega) ⟨.bl (HT.bR ms ns),H,I,rfl,q⟩
inductive cZ (P:PySem.Program)(w:PySem.World)(xs:List V)(H:Hp)(Q:VK):Prop
 | mk:∀ (u:List L),(xs=[tx u])→(u.length≤4000)→(∀ (p:Addr) (dl:List Str),H p=none→dl.Nodup→(∀ z,z∈dl ↔ ∃ x∈u,z=toS [x])→Q (.ref p) (upd H p (StO P w p dl)))→cZ P w xs H Q
theorem hU (hc:X.calm=true):cL X (.type "set") (cZ X.prog X.w):=by
 intro Gn s σ H xs us Q I r h
 obtain ⟨v,rfl,hz,q⟩:=h
 obtain ⟨u,rfl,ru⟩:=cM r
 obtain ⟨zt,rfl⟩:=ru
 have hsz:(toS v).cps.size=v.length:=bt v
 have hval:∀ (i:Nat) (x:Value),(∃ c u,(toS v).cps[i]? = some c∧x = .str ⟨#[c]⟩ u)→∃ t,x = .str (toS [v.getD i 0]) t:=fun i x ⟨c,u,hc,e⟩=>by
  obtain ⟨y,hy,ey⟩:=cS hc
  refine ⟨u,?_⟩
  rw [e,ey,A9,hy]
  rfl
 refine l_ (knd:=strKind X.prog X.w) (val:=fun i=>toS [v.getD i 0]) (ddp fun i=>toS [v.getD i 0]) (I.ok.hd hc) (Kx.asc v) (by unfold ddp;rfl) (fun i m=>by rw [ddp,if_pos m]) (fun i m=>by rw [ddp,if_neg m]) (oB _) (fun i x e=>by obtain ⟨t,rfl⟩:=hval i x e;exact ⟨strKind_is _ _ _ _,rfl⟩) (by rw [hsz];show _ < 4096;omega) fun h' tk hS k=>?_
 refine ⟨.ref s.heap.objs.size,_,I.laid (fun b o e=>k b o (Bl e) e) (A8 _) (wR.lay hS),rfl,q _ _ (I.hok.fresh (A8 _)) (fG _ _) fun z=>?_⟩
 rw [oP,hsz]
 constructor
 ·rintro ⟨j,hj,rfl⟩
  refine ⟨v[j],BF hj,?_⟩
  show toS [v.getD j 0]=_
  rw [A9,fu hj]
  rfl
 ·rintro ⟨x,hx,rfl⟩
  obtain ⟨j,hj,rfl⟩:=List.getElem_of_mem hx
  refine ⟨j,hj,?_⟩
  show toS [v.getD j 0]=_
  rw [A9,fu hj]
  rfl
end
end L2
namespace L2
open PySem PySem.Spec PyProof.Rows
theorem uE {X:Cx}{K:PySem.W.Frag}(hK:X.K=K)(hu:X.A.units < cLine):OpR X (compareOp .Lt) (yC K):=by subst hK; exact wc hu
end L2
namespace Kx
open PySem PySem.Spec PyProof.Rows L2 Wd Tv
theorem y8:bootBuiltins "set" = some (.type "set"):=by kernel_rfl
theorem c0 {n:Nat}(h:n≤16777216):n≤sizeLine:=by rw [ba]; exact h
theorem w_ {t u:TS}{D:j6}{σ:L2.St}{H:Hp}(h:t D σ H):ck t u D σ true H:=Ad h
theorem oX {t u:TS}{D:j6}{σ:L2.St}{H:Hp}(h:u D σ H):ck t u D σ false H:=vI h
theorem AJ {u:TT}{σ:L2.St}{Q:Bool→Hp→Prop}{H:Hp}(h:u σ H Q):rO u σ Q false H:=vI h
theorem y9 {ta tb:TE}{σ:L2.St}{Q:VK}{H:Hp}(h:ta σ H Q):mI ta tb σ Q true H:=Ad h
theorem y_ {ta tb:TE}{σ:L2.St}{Q:VK}{H:Hp}(h:tb σ H Q):mI ta tb σ Q false H:=vI h
theorem nkT {Q:Bool→Hp→Prop}{H:Hp}(h:Q false H):mF Q true H:=h
theorem lt0 {n c:Nat}(h:n+64 < c):n < c:=by omega
def atZ (w:List L)(j:Int):L:=w.getD (j % (w.length:Int)).toNat 0
def sgZ (w:List L)(p wy k:Int):L:=if wy=1 then atZ w (p+wy*k) else inv (atZ w (p+wy*k))
theorem jH {w:List L}(j:Int):atZ w (j+(w.length:Int))=atZ w j:=by
 unfold atZ
 rw [Int.add_emod_right]
theorem sM {w:List L}{wy:Int}(hw:wy=1 ∨ wy = -1)(p k:Int):sgZ w p wy (k+(w.length:Int))=sgZ w p wy k:=by
 unfold sgZ
 rcases hw with rfl | rfl
 ·rw [if_pos rfl,if_pos rfl,← jH (p+1*k)]
  congr 1
  omega
 ·rw [if_neg (by decide),if_neg (by decide),← jH (p + -1*(k+(w.length:Int)))]
  congr 2
  omega
theorem qX {f g:Int→L}{a b:Int}(ha:0 < a)(hb:0 < b)(pf:∀ k,f (k+a)=f k)(pg:∀ k,g (k+b)=g k)(h:∀ k,0≤k→k < a+b→f k=g k):f (-1)=g (-1):=by
 have e1:=pf (-1)
 have e2:=h (-1+a) (by omega) (by omega)
 have e3:=pg (-1+a)
 have e4:=h (-1+a+b) (by omega) (by omega)
 have e5:=pf (-1+b)
 have e6:=h (-1+b) (by omega) (by omega)
 have e7:=pg (-1)
 rw [← e1,e2,← e3,← e4,show -1+a+b = -1+b+a by omega,e5,e6,e7]
def frN (f g:Int→L):Nat→Nat→Nat
 | k,0=>k
 | k,b+1=>if f k=g k then frN f g (k+1) b else k
theorem c4 (f g:Int→L):∀ (b k:Nat),k≤frN f g k b∧frN f g k b≤k+b∧(∀ j:Nat,k≤j→j < frN f g k b→f j=g j)∧(frN f g k b < k+b→f (frN f g k b)≠g (frN f g k b))
 | 0,k=>⟨A8 _,A8 _,fun j h1 h2=>absurd h2 (by show ¬ j < k;omega),fun h=>absurd h (by show ¬ k < k+0;omega)⟩
 | b+1,k=>by
  unfold frN
  by_cases e:f k=g k
  ·rw [if_pos e]
   obtain ⟨h1,h2,h3,h4⟩:=c4 f g b (k+1)
   refine ⟨by omega,by omega,fun j hj hl=>?_,fun h=>h4 (by omega)⟩
   by_cases hk:j=k
   ·rw [hk];exact e
   ·exact h3 j (by omega) hl
  ·rw [if_neg e]
   exact ⟨A8 _,by omega,fun j h1 h2=>by omega,fun _=>e⟩
def ptB (u:List L)(f g:Int→L)(n:Nat):Bool:=decide (0 < n) && (decide (f (-1)≠g (-1)) && (decide (f n≠g n) && (decide (rfI u (inv (f ((n:Int) - 1))) (f n) < rfI u (inv (f ((n:Int) - 1))) (g n)) == decide (rfI u (f 0) (inv (f (-1))) < rfI u (f 0) (inv (g (-1)))))))
theorem e9 {u:List L}{f g:Int→L}{n:Nat}(h:f (-1)=g (-1)):ptB u f g n=false:=by
 unfold ptB
 rw [AZ (p:=f (-1)≠g (-1)) (fun z=>z h),BI,EG]
theorem sN {w v:List L}(hw:w≠[])(hv:v≠[]){p q wy:Int}(hy:wy=1 ∨ wy = -1)(h:sgZ w p 1 (-1)≠sgZ v q wy (-1)):frN (sgZ w p 1) (sgZ v q wy) 0 (w.length+v.length) < w.length+v.length∧sgZ w p 1 (frN (sgZ w p 1) (sgZ v q wy) 0 (w.length+v.length))≠sgZ v q wy (frN (sgZ w p 1) (sgZ v q wy) 0 (w.length+v.length)):=by
 have l1:=BN.mpr hw
 have l2:=BN.mpr hv
 obtain ⟨_,h2,h3,h4⟩:=c4 (sgZ w p 1) (sgZ v q wy) (w.length+v.length) 0
 generalize frN (sgZ w p 1) (sgZ v q wy) 0 (w.length+v.length)=n at h2 h3 h4 ⊢
 by_cases c:n < w.length+v.length
 ·exact ⟨c,h4 (by omega)⟩
 ·refine absurd (qX (f:=sgZ w p 1) (g:=sgZ v q wy) (a:=(w.length:Int)) (b:=(v.length:Int)) (by omega) (by omega) (sM (.inl rfl) p) (sM hy q) fun k hk hl=>?_) h
  obtain ⟨m,rfl⟩:=Cb hk
  exact h3 m (BO _) (by omega)
theorem uF {w:List L}(h:Rd w){a:Nat}(ha:a+1 < w.length):w[a+1]≠inv w[a]:=by
 have e:w=w.take (a+1)++w.drop (a+1):=(Bu _ _).symm
 rw [e] at h
 obtain ⟨_,_,j⟩:=(bN _ _).mp h
 refine j _ _ ?_ ?_
 ·rw [Dq,Bd,show min (a+1) w.length - 1=a by omega,B0 (by omega),fu (by omega)]
 ·rw [DV,BV,fu (by omega)]
theorem rnd_at {w:List L}(R:Rnd w)(j:Int):atZ w (j+1)≠inv (atZ w j):=by
 have l1:=BN.mpr R.ne
 have e0:=BJ j (show (w.length:Int)≠0 by omega)
 have e1:=Bz j (show (0:Int) < (w.length:Int) by omega)
 obtain ⟨a,ha⟩:=Cb e0
 have hal:a < w.length:=by omega
 have ea:atZ w j=w[a]:=by
  unfold atZ
  rw [ha,A9,BR,fu hal]
  rfl
 rw [ea]
 by_cases c:a+1 < w.length
 ·have e2:(j+1) % (w.length:Int)=((a+1:Nat):Int):=by
   rw [D4,ha,show (1:Int) % (w.length:Int)=1 from B7 (by omega) (by omega)]
   exact B7 (by omega) (by omega)
  have e3:atZ w (j+1)=w[a+1]:=by
   unfold atZ
   rw [e2,A9,BR,fu c]
   rfl
  rw [e3]
  exact uF R.rd c
 ·have e2:(j+1) % (w.length:Int)=0:=by
   have:j+1=(w.length:Int)*(j / (w.length:Int))+(w.length:Int):=by
    have:=Int.mul_ediv_add_emod j (w.length:Int)
    omega
   rw [this,Int.add_emod_right,Int.mul_emod_right]
  have e3:atZ w (j+1)=w[0]:=by
   unfold atZ
   rw [e2,A9,show (0:Int).toNat=0 from rfl,fu l1]
   rfl
  rw [e3]
  have hl:w.getLast? = some w[a]:=by
   rw [Dq,show w.length - 1=a by omega,fu hal]
  have hh:w.head? = some w[0]:=by rw [DV,fu l1]
  exact R.jn _ _ hl hh
theorem oY {w:List L}(R:Rnd w){p q:Int}{n:Nat}(hn:0 < n)(h:∀ j:Nat,j < n→sgZ w p 1 j=sgZ w q (-1) j)(hq:(q - n+1) % (w.length:Int)=p % (w.length:Int)):False:=by
 have at_mod:∀ {i j:Int},i % (w.length:Int)=j % (w.length:Int)→atZ w i=atZ w j:=fun e=>by unfold atZ;rw [e]
 have key:∀ j:Nat,j < n→atZ w (p+j)=inv (atZ w (p+(n:Int) - 1 - j)):=fun j hj=>by
  have:=h j hj
  unfold sgZ at this
  rw [if_pos rfl,if_neg (by decide)] at this
  rw [show p+(j:Int)=p+1*(j:Int) by omega,this]
  congr 1
  refine at_mod ?_
  have e:q + -1*(j:Int)=(q - n+1)+((n:Int) - 1 - j):=by omega
  rw [e,D4,hq,← D4]
  congr 1
  omega
 by_cases c:n % 2=1
 ·obtain ⟨r,hr⟩:∃ r,n=2*r+1:=⟨n / 2,by omega⟩
  have:=key r (by omega)
  rw [show p+(n:Int) - 1 - (r:Int)=p+r by omega] at this
  exact fY _ this.symm
 ·obtain ⟨r,hr⟩:∃ r,n=2*(r+1):=⟨n / 2 - 1,by omega⟩
  have:=key (r+1) (by omega)
  rw [show p+(n:Int) - 1 - ((r+1:Nat):Int)=p+r by omega,show p+((r+1:Nat):Int)=(p+r)+1 by omega] at this
  exact rnd_at R _ this
abbrev P2:=Int × Int
inductive Lk where
 | b (s t:P2)
 | a (s t:P2) (n:Nat)
 | g (s t:P2) (n:Nat)
def cB:List Int:=("beside":Str).cps.toList.map Int.ofNat
def cA:List Int:=("along":Str).cps.toList.map Int.ofNat
def cG:List Int:=("against":Str).cps.toList.map Int.ofNat
theorem zc:cB≠cA:=by decide +kernel
theorem zd:cB≠cG:=by decide +kernel
theorem Ai:cA≠cG:=by decide +kernel
def pZ (s:P2):List Int:=[s.1,s.2]
theorem gi {s t:P2}(h:pZ s=pZ t):s=t:=by
 unfold pZ at h
 simp only [DJ,FE] at h
 exact Dj h.1 h.2
def Lk.key:Lk→dj
 | .b s t=>[cB,pZ s,pZ t]
 | .a s t n=>[cA,pZ s,pZ t,[(n:Int)]]
 | .g s t n=>[cG,pZ s,pZ t,[(n:Int)]]
theorem Lk.inj {k l:Lk}(h:k.key=l.key):k=l:=by
 cases k <;> cases l <;> unfold Lk.key at h <;> simp only [DJ,FE] at h
 ·rw [gi h.2.1,gi h.2.2]
 ·exact absurd h.1 zc
 ·exact absurd h.1 zd
 ·exact absurd h.1.symm zc
 ·rw [gi h.2.1,gi h.2.2.1,DR h.2.2.2]
 ·exact absurd h.1 Ai
 ·exact absurd h.1.symm zd
 ·exact absurd h.1.symm Ai
 ·rw [gi h.2.1,gi h.2.2.1,DR h.2.2.2]
def stD (p:P2):PyData:=.tuple [.int p.1,.int p.2]
def Lk.dat:Lk→PyData
 | .b s t=>.tuple [.str "beside",stD s,stD t]
 | .a s t n=>.tuple [.str "along",stD s,stD t,.int (n:Nat)]
 | .g s t n=>.tuple [.str "against",stD s,stD t,.int (n:Nat)]
def shL:List Int→List Kn:=fun x=>if x=cB then [.p,.p] else [.p,.p,.i]
abbrev Sp2 (H:Hp)(a:Addr)(s:P2):Prop:=H a=some (.tup [.int s.1,.int s.2])
def qY (H:Hp)(r:Addr):Lk→Prop
 | .b s t=>∃ a c,H r=some (.tup [.str "beside",.ref a,.ref c])∧Sp2 H a s∧Sp2 H c t
 | .a s t n=>∃ a c,H r=some (.tup [.str "along",.ref a,.ref c,.int (n:Nat)])∧Sp2 H a s∧Sp2 H c t
 | .g s t n=>∃ a c,H r=some (.tup [.str "against",.ref a,.ref c,.int (n:Nat)])∧Sp2 H a s∧Sp2 H c t
theorem qY.to {H H':Hp}{r:Addr}{k:Lk}(h:qY H r k)(s:∀ b ys,H b=some (.tup ys)→H' b=some (.tup ys)):qY H' r k:=by
 cases k with
 | b _ _=>obtain ⟨a,c,h1,h2,h3⟩:=h;exact ⟨a,c,s _ _ h1,s _ _ h2,s _ _ h3⟩
 | a _ _ _=>obtain ⟨a,c,h1,h2,h3⟩:=h;exact ⟨a,c,s _ _ h1,s _ _ h2,s _ _ h3⟩
 | g _ _ _=>obtain ⟨a,c,h1,h2,h3⟩:=h;exact ⟨a,c,s _ _ h1,s _ _ h2,s _ _ h3⟩
theorem qY.kd {H:Hp}{r:Addr}{k:Lk}(h:qY H r k):KdQ .s shL H r k.key:=by
 cases k with
 | b s t =>
  obtain ⟨a,c,h1,h2,h3⟩:=h
  refine ⟨_,h1,?_⟩
  show FlQ H (.s::shL cB) _ [cB,pZ s,pZ t]
  unfold shL
  rw [if_pos rfl]
  exact .s _ (.p h2 (.p h3 .nil))
 | a s t n =>
  obtain ⟨a,c,h1,h2,h3⟩:=h
  refine ⟨_,h1,?_⟩
  show FlQ H (.s::shL cA) _ [cA,pZ s,pZ t,[(n:Int)]]
  unfold shL
  rw [if_neg zc.symm]
  exact .s _ (.p h2 (.p h3 (.i _ .nil)))
 | g s t n =>
  obtain ⟨a,c,h1,h2,h3⟩:=h
  refine ⟨_,h1,?_⟩
  show FlQ H (.s::shL cG) _ [cG,pZ s,pZ t,[(n:Int)]]
  unfold shL
  rw [if_neg zd.symm]
  exact .s _ (.p h2 (.p h3 (.i _ .nil)))
theorem qY.dt {H:Hp}{r:Addr}{k:Lk}(h:qY H r k):Dt H (.ref r) k.dat:=by
 cases k with
 | b _ _=>obtain ⟨a,c,h1,h2,h3⟩:=h;exact .tup h1 (.cons (.str _) (.cons (.tup h2 (.cons (.int _) (.cons (.int _) .nil))) (.cons (.tup h3 (.cons (.int _) (.cons (.int _) .nil))) .nil)))
 | a _ _ _=>obtain ⟨a,c,h1,h2,h3⟩:=h;exact .tup h1 (.cons (.str _) (.cons (.tup h2 (.cons (.int _) (.cons (.int _) .nil))) (.cons (.tup h3 (.cons (.int _) (.cons (.int _) .nil))) (.cons (.int _) .nil))))
 | g _ _ _=>obtain ⟨a,c,h1,h2,h3⟩:=h;exact .tup h1 (.cons (.str _) (.cons (.tup h2 (.cons (.int _) (.cons (.int _) .nil))) (.cons (.tup h3 (.cons (.int _) (.cons (.int _) .nil))) (.cons (.int _) .nil))))
def LkA (H:Hp)(zs:List (Addr × Lk)):Prop:=∀ z∈zs,qY H z.1 z.2
theorem LkA.to {H H':Hp}{zs:List (Addr × Lk)}(h:LkA H zs)(s:∀ b ys,H b=some (.tup ys)→H' b=some (.tup ys)):LkA H' zs:=fun z hz=>(h z hz).to s
theorem LkA.same {H H':Hp}{zs:List (Addr × Lk)}(h:LkA H zs)(s:aD H H'):LkA H' zs:=h.to fun _ _ e=>s _ _ e
theorem LkA.app {H:Hp}{zs ys:List (Addr × Lk)}(h:LkA H zs)(g:LkA H ys):LkA H (zs++ys):=fun z hz=>(Bo.mp hz).elim (h z) (g z)
theorem LkA.dts {H:Hp}:∀ {zs:List (Addr × Lk)},LkA H zs→Dts H ((zs.map (·.1)).map V.ref) ((zs.map (·.2)).map Lk.dat)
 | [],_=>.nil
 | z::zs,h=>.cons (h z Ba).dt (LkA.dts fun y hy=>h y (A5 _ hy))
def ltP (s t:P2):Bool:=HT.bR [s.1,s.2] [t.1,t.2]
theorem h_ {s t:P2}:ltP s t=true ↔ s.1 < t.1 ∨ (s.1=t.1∧s.2 < t.2):=by
 unfold ltP
 rw [HT.bS,HT.bS,HT.cn]
 by_cases e1:s.1=t.1
 ·rw [if_pos e1]
  by_cases e2:s.2=t.2
  ·rw [if_pos e2]
   simp only [Bn,false_iff,not_or,not_and]
   omega
  ·rw [if_neg e2,Bb]
   omega
 ·rw [if_neg e1,Bb]
  omega
def cj (u:List L)(a b c d:L):Bool:=decide ([a,b,c,d].Nodup) && (decide (rfI u a c < rfI u a b) != decide (rfI u a d < rfI u a b))
def wyZ (W:List (List L))(i:Int):List L:=W.getD i.toNat []
def fZ (W:List (List L))(s:P2)(wy:Int):Int→L:=sgZ (wyZ W s.1) s.2 wy
def nZ (W:List (List L))(s t:P2)(wy:Int):Nat:=frN (fZ W s 1) (fZ W t wy) 0 ((wyZ W s.1).length+(wyZ W t.1).length)
def uG (u:List L)(W:List (List L))(s t:P2):List Lk:=if ltP s t && cj u (inv (fZ W s 1 0)) (fZ W s 1 1) (inv (fZ W t 1 0)) (fZ W t 1 1) then [.b s t] else []
def uH (u:List L)(W:List (List L))(s t:P2):List Lk:=if ltP s t && ptB u (fZ W s 1) (fZ W t 1) (nZ W s t 1) then [.a s t (nZ W s t 1)] else []
def kO (W:List (List L))(s t:P2)(n:Nat):P2:=(t.1,(t.2 - (n:Int)+1) % ((wyZ W t.1).length:Int))
def kP (u:List L)(W:List (List L))(s t:P2):List Lk:=if ltP s (kO W s t (nZ W s t (-1))) && ptB u (fZ W s 1) (fZ W t (-1)) (nZ W s t (-1)) then [.g s t (nZ W s t (-1))] else []
structure WyR (n:Nat) (W:List (List L)):Prop where
 le:W.length≤4
 lo:1≤W.length
 ws:∀ w∈W,Rnd w∧w.length≤30∧InM n w
structure WyA (n:Nat) (W:List (List L)) (H:Hp) (a:Addr):Prop where
 at_:H a=some (.tup (W.map tx))
 ok:WyR n W
theorem WyA.same {n:Nat}{W:List (List L)}{H H':Hp}{a:Addr}(h:WyA n W H a)(s:aD H H'):WyA n W H' a:=⟨s _ _ h.at_,h.ok⟩
def okP (W:List (List L))(s:P2):Prop:=0≤s.1∧s.1 < (W.length:Int)∧0≤s.2∧s.2 < ((wyZ W s.1).length:Int)
theorem WyR.get {n:Nat}{W:List (List L)}(h:WyR n W){i:Int}(h0:0≤i)(h1:i < (W.length:Int)):wyZ W i∈W∧atI (W.map tx) i=some (tx (wyZ W i))∧Rnd (wyZ W i)∧(wyZ W i).length≤30∧0 < (wyZ W i).length∧InM n (wyZ W i):=by
 obtain ⟨m,rfl⟩:=Cb h0
 have hm:m < W.length:=by omega
 have e:wyZ W (m:Int)=W[m]:=by
  unfold wyZ
  rw [BR,A9,fu hm]
  rfl
 rw [e]
 have GZ:=BF hm
 obtain ⟨a,b,c⟩:=h.ws _ GZ
 exact ⟨GZ,dz (j:=m) (by rw [Bi,fu hm];rfl),a,b,BN.mpr a.ne,c⟩
theorem jI {w:List L}(h:0 < w.length)(j:Int):atZ w j∈w:=by
 have e0:=BJ j (show (w.length:Int)≠0 by omega)
 have e1:=Bz j (show (0:Int) < (w.length:Int) by omega)
 unfold atZ
 rw [A9,fu (show (j % (w.length:Int)).toNat < w.length by omega)]
 exact BF _
theorem jJ {n:Nat}{w:List L}(h:0 < w.length)(hi:InM n w)(p wy k:Int):(sgZ w p wy k).val % 6 < n:=by
 unfold sgZ
 have:=hi _ (jI h (p+wy*k))
 split
 ·exact this
 ·rw [jB]
  have:=(atZ w (p+wy*k)).isLt
  split <;> omega
theorem qZ {n:Nat}{u:List L}{W:List (List L)}(hW:WyR n W){s t:P2}(hs:okP W s)(ht:okP W t)(hb:fZ W s 1 (-1)≠fZ W t (-1) (-1)):(if ltP (kO W s t (nZ W s t (-1))) s then [] else if ptB u (fZ W s 1) (fZ W t (-1)) (nZ W s t (-1)) then [Lk.g s t (nZ W s t (-1))] else [])=kP u W s t:=by
 unfold kP
 by_cases c1:ltP (kO W s t (nZ W s t (-1))) s=true
 ·rw [if_pos c1]
  have:ltP s (kO W s t (nZ W s t (-1)))=false:=by
   rw [EX]
   intro z
   rw [h_] at c1 z
   omega
  rw [this,BI,if_neg (by decide)]
 ·rw [if_neg c1]
  by_cases c2:ltP s (kO W s t (nZ W s t (-1)))=true
  ·rw [c2,Ck]
  ·have e:s=kO W s t (nZ W s t (-1)):=by
    have c1:¬ (ltP (kO W s t (nZ W s t (-1))) s=true):=c1
    rw [h_] at c1 c2
    exact Dj (by omega) (by omega)
   have:ptB u (fZ W s 1) (fZ W t (-1)) (nZ W s t (-1))=false:=by
    rw [EX]
    intro z
    unfold ptB at z
    rw [B9,Bb] at z
    obtain ⟨hn,_⟩:=z
    have e1:s.1=t.1:=by
     have:=Br Prod.fst e
     exact this
    have e2:s.2=(t.2 - (nZ W s t (-1):Nat)+1) % ((wyZ W t.1).length:Int):=Br Prod.snd e
    obtain ⟨_,_,R,_,lp,_⟩:=hW.get hs.1 hs.2.1
    refine oY (w:=wyZ W s.1) (p:=s.2) (q:=t.2) R hn (fun j hj=>?_) ?_
    ·have:=(c4 (fZ W s 1) (fZ W t (-1)) ((wyZ W s.1).length+(wyZ W t.1).length) 0).2.2.1 j (BO _) hj
     unfold fZ at this
     rw [← e1] at this
     exact this
    ·rw [← e1] at e2
     rw [e2,Int.emod_emod_of_dvd _ (Int.dvd_refl _)]
   rw [this,EG]
def lkZ (u:List L)(W:List (List L))(s t:P2):List Lk:=uG u W s t++(uH u W s t++kP u W s t)
def mn (u:List L)(W:List (List L))(i j:Int)(p:Nat)(m:Nat):List Lk:=(List.range m).flatMap fun q:Nat=>lkZ u W (i,(p:Int)) (j,(q:Int))
def e_ (u:List L)(W:List (List L))(i j:Int)(m:Nat):List Lk:=(List.range m).flatMap fun p:Nat=>mn u W i j p (wyZ W j).length
theorem kQ (u:List L)(W:List (List L))(i j:Int)(p m:Nat):mn u W i j p (m+1)=mn u W i j p m++lkZ u W (i,(p:Int)) (j,(m:Int)):=by
 unfold mn
 rw [DK,Dx]
 simp
theorem kR (u:List L)(W:List (List L))(i j:Int)(m:Nat):e_ u W i j (m+1)=e_ u W i j m++mn u W i j m (wyZ W j).length:=by
 unfold e_
 rw [DK,Dx]
 simp
theorem xf (u:List L)(W:List (List L))(s t:P2):(lkZ u W s t).length≤3:=by
 unfold lkZ uG uH kP
 rw [A7,A7]
 have h:∀ (b:Bool) (x:Lk),(if b=true then [x] else []).length≤1:=fun b x=>by cases b <;> simp
 have h1:=h (ltP s t && cj u (inv (fZ W s 1 0)) (fZ W s 1 1) (inv (fZ W t 1 0)) (fZ W t 1 1)) (.b s t)
 have h2:=h (ltP s t && ptB u (fZ W s 1) (fZ W t 1) (nZ W s t 1)) (.a s t (nZ W s t 1))
 have h3:=h (ltP s (kO W s t (nZ W s t (-1))) && ptB u (fZ W s 1) (fZ W t (-1)) (nZ W s t (-1))) (.g s t (nZ W s t (-1)))
 omega
theorem jK (u:List L)(W:List (List L))(i j:Int)(p:Nat):∀ m,(mn u W i j p m).length≤3*m
 | 0=>A8 _
 | m+1=>by
  have:=jK u W i j p m
  have:=xf u W (i,(p:Int)) (j,(m:Int))
  rw [kQ,A7]
  omega
theorem jL (u:List L)(W:List (List L))(i j:Int){b:Nat}(hb:(wyZ W j).length≤b):∀ m,(e_ u W i j m).length≤3*b*m
 | 0=>A8 _
 | m+1=>by
  have:=jL u W i j hb m
  have:=jK u W i j m (wyZ W j).length
  rw [kR,A7,Nat.mul_add,Nat.mul_one]
  omega
abbrev Wk3 (H:Hp)(x:Addr)(s:P2)(wy:Int):Prop:=H x=some (.tup [.int s.1,.int s.2,.int wy])
inductive yk (vs:List V)(H:Hp)(Q:VK)(GD:XK):Prop
 | mk:∀ (u:List L) (k:Nat) (a b:L),(vs=[tx u,tx [a],tx [b]])→SK u k→a∈u→b∈u→Q (.int (rfI u a b)) H→yk vs H Q GD
inductive uI (vs:List V)(H:Hp)(Q:VK)(GD:XK):Prop
 | mk:∀ (u:List L) (k:Nat) (s a b:L),(vs=[tx u,tx [s],tx [a],tx [b]])→SK u k→s∈u→a∈u→b∈u→(∀ H',aD H H'→Q (.bl (decide (rfI u s a < rfI u s b))) H')→uI vs H Q GD
inductive i3 (vs:List V)(H:Hp)(Q:VK)(GD:XK):Prop
 | mk:∀ (a x:Addr) (n:Nat) (W:List (List L)) (s:P2) (wy k:Int),(vs=[.ref a,.ref x,.int k])→WyA n W H a→Wk3 H x s wy→0≤s.1→s.1 < (W.length:Int)→(wy=1 ∨ wy = -1)→(∀ H',aD H H'→Q (tx [fZ W s wy k]) H')→i3 vs H Q GD
inductive kT (vs:List V)(H:Hp)(Q:VK)(GD:XK):Prop
 | mk:∀ (a x y:Addr) (n:Nat) (W:List (List L)) (s t:P2) (wy:Int),(vs=[.ref a,.ref x,.ref y])→WyA n W H a→Wk3 H x s 1→Wk3 H y t wy→okP W s→okP W t→(wy=1 ∨ wy = -1)→(∀ H',aD H H'→Q (.int ((if fZ W s 1 (-1)=fZ W t wy (-1) then 0 else nZ W s t wy:Nat):Int)) H')→kT vs H Q GD
def i4 (u:List L)(f g:Int→L)(n:Nat):Bool:=decide (0 < n) && (decide (rfI u (inv (f ((n:Int) - 1))) (f n) < rfI u (inv (f ((n:Int) - 1))) (g n)) == decide (rfI u (f 0) (inv (f (-1))) < rfI u (f 0) (inv (g (-1)))))
inductive kU (vs:List V)(H:Hp)(Q:VK)(GD:XK):Prop
 | mk:∀ (u:List L) (a x y:Addr) (n m:Nat) (W:List (List L)) (s t:P2) (wy:Int),(vs=[tx u,.ref a,.ref x,.ref y,.int (m:Nat)])→SK u n→WyA n W H a→Wk3 H x s 1→Wk3 H y t wy→okP W s→okP W t→(wy=1 ∨ wy = -1)→(∀ H',aD H H'→Q (.bl (i4 u (fZ W s 1) (fZ W t wy) m)) H')→kU vs H Q GD
inductive ze (vs:List V)(H:Hp)(Q:VK)(GD:XK):Prop
 | mk:∀ (a x:Addr) (n:Nat) (W:List (List L)) (s:P2),(vs=[.ref a,.ref x])→WyA n W H a→Sp2 H x s→okP W s→(∀ H',aD H H'→Q (tx [inv (fZ W s 1 0),fZ W s 1 1]) H')→ze vs H Q GD
inductive q9 (r:List L→List (List L)→P2→P2→List Lk)(vs:List V)(H:Hp)(Q:VK)(GD:XK):Prop
 | mk:∀ (u:List L) (a x y:Addr) (n:Nat) (W:List (List L)) (s t:P2),(vs=[tx u,.ref a,.ref x,.ref y])→SK u n→WyA n W H a→Sp2 H x s→Sp2 H y t→okP W s→okP W t →
  (∀ (l:Addr) (zs:List (Addr × Lk)) (H':Hp),H l=none→aD H H'→H' l=some (.lst ((zs.map (·.1)).map V.ref))→LkA H' zs→zs.map (·.2)=r u W s t→Q (.ref l) H')→q9 r vs H Q GD
def xg (u:List L)(W:List (List L))(s t:P2):List Lk:=if cj u (inv (fZ W s 1 0)) (fZ W s 1 1) (inv (fZ W t 1 0)) (fZ W t 1 1) then [.b s t] else []
def uJ (u:List L)(W:List (List L))(s t:P2):List Lk:=if ptB u (fZ W s 1) (fZ W t 1) (nZ W s t 1) then [.a s t (nZ W s t 1)] else []
def vK (u:List L)(W:List (List L))(s t:P2):List Lk:=kP u W s t++(if ltP s t then uJ u W s t++xg u W s t else [])
theorem oZ (u:List L)(W:List (List L))(s t:P2):(vK u W s t).Perm (lkZ u W s t):=by
 unfold vK lkZ uH uG uJ xg
 cases ltP s t with
 | true =>
  rw [if_pos rfl,Ck,Ck]
  refine B8.trans ?_
  rw [← Bc]
  exact (B8).append_right _
 | false =>
  rw [if_neg (by decide),BI,BI,if_neg (by decide),if_neg (by decide)]
  simp
inductive jM (vs:List V)(H:Hp)(Q:VK)(GD:XK):Prop
 | mk:∀ (u:List L) (a:Addr) (n:Nat) (W:List (List L)) (i j:Int),(vs=[tx u,.ref a,.int i,.int j])→SK u n→WyA n W H a→0≤i→i < (W.length:Int)→0≤j→j < (W.length:Int) →
  (∀ (l:Addr) (zs:List (Addr × Lk)) (H':Hp),H l=none→aD H H'→H' l=some (.lst ((zs.map (·.1)).map V.ref))→LkA H' zs→(zs.map (·.2)).Perm (e_ u W i j (wyZ W i).length)→((zs.map (·.2)).map Lk.key).Pairwise qle→Q (.ref l) H')→jM vs H Q GD
theorem o3 {ks ls ms:List Lk}(p:ks.Perm ms)(q:ls.Perm ms)(h:(ks.map Lk.key).Pairwise qle)(g:(ls.map Lk.key).Pairwise qle):ks=ls:=by
 have e:ks.map Lk.key=ls.map Lk.key:=EY (fun x y _ _ h1 h2=>qU h1 h2) h g ((p.trans q.symm).map _)
 exact (List.map_inj_right (fun _ _ e=>Lk.inj e)).mp e
theorem fP {n:Nat}{u:List L}(U:SK u n){W:List (List L)}(hW:WyR n W){s:P2}(os:okP W s)(wy k:Int):fZ W s wy k∈u∧inv (fZ W s wy k)∈u:=by
 obtain ⟨_,_,_,_,lp,hi⟩:=hW.get os.1 os.2.1
 have:=jJ lp hi s.2 wy k
 exact ⟨(U.mem _).mpr this,(U.mem _).mpr (by rw [gO];exact this)⟩
theorem uK {u:List L}{f g:Int→L}{n:Nat}(h:f (-1)≠g (-1))(h':f n≠g n):i4 u f g n=ptB u f g n:=by
 unfold i4 ptB
 rw [Bg h,Bg h',Ck,Ck]
theorem sO {u:List L}{f g:Int→L}:i4 u f g 0=false:=rfl
theorem kW {n:Nat}{u:List L}{W:List (List L)}(hW:WyR n W){s t:P2}(os:okP W s)(ot:okP W t){wy:Int}(hwy:wy=1 ∨ wy = -1):i4 u (fZ W s 1) (fZ W t wy) (if fZ W s 1 (-1)=fZ W t wy (-1) then 0 else nZ W s t wy)=ptB u (fZ W s 1) (fZ W t wy) (nZ W s t wy):=by
 by_cases e:fZ W s 1 (-1)=fZ W t wy (-1)
 ·rw [if_pos e,sO,e9 e]
 ·rw [if_neg e]
  obtain ⟨_,_,Rw,_⟩:=hW.get os.1 os.2.1
  obtain ⟨_,_,Rv,_⟩:=hW.get ot.1 ot.2.1
  exact uK e (sN Rw.ne Rv.ne hwy e).2
theorem zf (a b:Bool):(a == b)=decide (V.bl a=V.bl b):=by cases a <;> cases b <;> rfl
theorem i5 {H H4:Hp}{Q:VK}{r:List Lk}{l:Addr}(q:aD H H4)(hl:H4 l=none)(k:∀ (l:Addr) (zs:List (Addr × Lk)) (H':Hp),H l=none→aD H H'→H' l=some (.lst ((zs.map (·.1)).map V.ref))→LkA H' zs→zs.map (·.2)=r→Q (.ref l) H')(e:r=[]):Q (.ref l) (upd H4 l (.lst [])) :=
 k l [] _ (q.free hl) (q.trans (aD.new hl)) ag (fun _ h=>absurd h (by simp)) e.symm
theorem jN {H H4:Hp}{Q:VK}{r:List Lk}{m:Lk}{l c:Addr}{ys:List V}(q:aD H H4)(hc:H4 c=none)(hl:(upd H4 c (.tup ys)) l=none)(hm:qY (upd H4 c (.tup ys)) c m)(k:∀ (l:Addr) (zs:List (Addr × Lk)) (H':Hp),H l=none→aD H H'→H' l=some (.lst ((zs.map (·.1)).map V.ref))→LkA H' zs→zs.map (·.2)=r→Q (.ref l) H')(e:r=[m]):Q (.ref l) (upd (upd H4 c (.tup ys)) l (.lst [.ref c])):=by
 have q1:=q.trans (aD.new (o:=.tup ys) hc)
 refine k l [(c,m)] _ (q1.free hl) (q1.trans (aD.new hl)) ag (fun z h=>?_) e.symm
 rw [A2.mp h]
 exact hm.to fun _ _ e=>aD.new hl _ _ e
theorem d5 {H H2:Hp}{l:Addr}{o:HO}(s:aD H H2)(h:H l=none):aD H (upd H2 l o):=fun b u e=>by rw [aW (aq e h)]; exact s b u e
theorem fc {H:Hp}{l:Addr}{xs:List V}{o:HO}(h:H l=some (.lst xs)):∀ b ys,H b=some (.tup ys)→(upd H l o) b=some (.tup ys):=fun b ys e=>by
 have:b≠l:=fun z=>by rw [z,h] at e;cases e
 rw [aW this]
 exact e
theorem ia (xs ys:List (Addr × Lk)):((xs.map (·.1)).map V.ref)++((ys.map (·.1)).map V.ref)=((xs++ys).map (·.1)).map V.ref:=by rw [BU,BU]
theorem AK {w:List L}{j:Int}(h:0 < (w.length:Int)):atI (toS w).cps.toList (j % (w.length:Int))=some (cp (atZ w j)):=by
 have e0:=BJ j (show (w.length:Int)≠0 by omega)
 have e1:=Bz j h
 refine cT (k:=(j % (w.length:Int)).toNat) (by omega) ?_
 unfold atZ
 rw [A9,fu (show (j % (w.length:Int)).toNat < w.length by omega)]
 rfl
theorem o4 {F:List L}{x:L}(h:F.head? = some x):atI (bx F) 0=some (tx [x]):=by
 cases F with
 | nil=>simp at h
 | cons z r =>
  have:z=x:=A_ h
  subst this
  unfold atI ixN bx
  rw [if_pos (by decide),if_pos (by simp)]
  rfl
theorem zg {f g:Int→L}{N i:Nat}(h:∀ j:Nat,j < i→f j=g j)(hi:i≤N)(he:i=N ∨ f i≠g i):frN f g 0 N=i:=by
 obtain ⟨_,h2,h3,h4⟩:=c4 f g N 0
 generalize frN f g 0 N=n at h2 h3 h4 ⊢
 by_cases c:n < i
 ·exact absurd (h n c) (h4 (by omega))
 ·by_cases c2:i < n
  ·rcases he with rfl | he
   ·omega
   ·exact absurd (h3 i (BO _) c2) he
  ·omega
theorem AL {a b c d:L}{dl:List Str}(nd:dl.Nodup)(hm:∀ z,z∈dl ↔ ∃ x∈[a,b,c,d],z=toS [x]):decide ((dl.length:Int) < 4)=!decide ([a,b,c,d].Nodup):=by
 by_cases h:[a,b,c,d].Nodup
 ·rw [Bg h]
  refine AZ ?_
  have nd2:([a,b,c,d].map fun x=>toS [x]).Nodup:=List.Pairwise.map _ (fun x y n e=>n (CO (jk e)).1) h
  have p:([a,b,c,d].map fun x=>toS [x]).Perm dl:=(List.perm_ext_iff_of_nodup nd2 nd).mpr fun z=>by
   rw [hm,BD]
   exact ⟨fun ⟨x,h1,h2⟩=>⟨x,h1,h2.symm⟩,fun ⟨x,h1,h2⟩=>⟨x,h1,h2.symm⟩⟩
  have:=p.length_eq
  rw [AY] at this
  have:dl.length=4:=this.symm
  omega
 ·rw [AZ h]
  refine Bg ?_
  have key:∀ x y z:L,(∀ v∈[a,b,c,d],v∈[x,y,z])→(dl.length:Int) < 4:=fun x y z hs=>by
   apply Classical.byContradiction
   intro n
   have:=(cY (zs:=[toS [x],toS [y],toS [z]]) nd (fun k hk=>by
    obtain ⟨v,hv,rfl⟩:=(hm k).mp hk
    have:=hs v hv
    simp only [Bm,BA,CD] at this ⊢
    rcases this with rfl | rfl | rfl
    ·exact .inl rfl
    ·exact .inr (.inl rfl)
    ·exact .inr (.inr rfl)) (by show 3≤_;omega)).length_eq
   have:3=dl.length:=this
   omega
  simp only [BM,Bm,BA,CD,EZ,CG,FE,not_or] at h
  by_cases e1:a=b
  ·exact key b c d (by intro v hv;simp only [Bm,BA,CD] at hv ⊢;rw [e1] at hv;rcases hv with h | h | h | h <;> simp [h])
  by_cases e2:a=c
  ·exact key b c d (by intro v hv;simp only [Bm,BA,CD] at hv ⊢;rw [e2] at hv;rcases hv with h | h | h | h <;> simp [h])
  by_cases e3:a=d
  ·exact key b c d (by intro v hv;simp only [Bm,BA,CD] at hv ⊢;rw [e3] at hv;rcases hv with h | h | h | h <;> simp [h])
  by_cases e4:b=c
  ·exact key a c d (by intro v hv;simp only [Bm,BA,CD] at hv ⊢;rw [e4] at hv;rcases hv with h | h | h | h <;> simp [h])
  by_cases e5:b=d
  ·exact key a c d (by intro v hv;simp only [Bm,BA,CD] at hv ⊢;rw [e5] at hv;rcases hv with h | h | h | h <;> simp [h])
  by_cases e6:c=d
  ·exact key a b d (by intro v hv;simp only [Bm,BA,CD] at hv ⊢;rw [e6] at hv;rcases hv with h | h | h | h <;> simp [h])
  exact absurd ⟨⟨e1,e2,e3⟩,⟨e4,e5⟩,e6⟩ h
def Cyc (w:List L):Prop:=Wd.Rd w∧J w w
theorem Cyc.rnd {w:List L}(h:Cyc w)(n:w≠[]):Rnd w:=⟨n,h.1,h.2⟩
theorem uL:Cyc []:=⟨trivial,fun x y h=>by simp at h⟩
theorem ib (x:L):Rnd [x]:=⟨by simp,trivial,fun a b ha hb=>by
 have ha:x=a:=by simpa using ha
 have hb:x=b:=by simpa using hb
 subst ha hb
 exact fun e=>fY _ e.symm⟩
theorem uM {V:List L}{x:L}(h:Wd.Rd V)(g:∀ y,V.getLast? = some y→x≠inv y):Wd.Rd (V++[x]):=by
 rw [bN]
 refine ⟨h,trivial,fun a b ha hb=>?_⟩
 have hb:x=b:=by simpa using hb
 rw [← hb]
 exact g a ha
theorem xh {x y:L}{mid:List L}(h:Wd.Rd (x::(mid++[y]))):Wd.Rd mid:=((bN _ _).mp h.tail).1
theorem uN {x y:L}{mid:List L}(h:Wd.Rd (x::(mid++[y])))(g:x≠inv y):Cyc (x::(mid++[y])):=⟨h,fun a b ha hb=>by
 have e:x::(mid++[y])=(x::mid)++[y]:=rfl
 rw [e,List.getLast?_append,List.getLast?_singleton] at ha
 have ha:y=a:=by simpa using ha
 have hb:x=b:=by simpa using hb
 rw [← ha,← hb]
 exact g⟩
theorem uO {w:List L}(h:¬ 1 < w.length):Cyc w:=by
 match w,h with
 | [],_=>exact uL
 | [x],_=>exact ⟨(ib x).rd,(ib x).jn⟩
 | x::y::r,h=>simp at h
theorem uP {v:List L}{n:Nat}(h:Cyc (rep n v))(hn:rep n v≠[]):Cyc v:=by
 cases n with
 | zero=>exact absurd rfl hn
 | succ n=>exact ⟨(kM (h.rnd hn)).rd,(kM (h.rnd hn)).jn⟩
theorem i6 {w:List L}(h:Rnd w):∀ a,Rnd (w.drop a++w.take a)
 | 0=>by rw [Do,List.take_zero,CU];exact h
 | a+1=>by
  have ih:=i6 h a
  by_cases c:a < w.length
  ·have e1:w.drop a=w[a]::w.drop (a+1):=BX c
   have e2:w.take (a+1)=w.take a++[w[a]]:=by rw [CY,fu c];rfl
   rw [e1,Fe] at ih
   rw [e2,← Bc]
   exact qS ih
  ·rw [C_ (by omega),By (by omega)] at ih ⊢
   exact ih
def GR (n b:Nat)(w:List L):Prop:=Rnd w∧w.length≤b∧InM n w
theorem GR.bk {n b:Nat}{w:List L}(h:GR n b w):GR n b (bk w):=⟨sv h.1,by rw [bu]; exact h.2.1,InM.bk h.2.2⟩
theorem GR.turn {n b:Nat}{w:List L}(h:GR n b w)(a:Nat):GR n b (w.drop a++w.take a):=by
 refine ⟨i6 h.1 a,by rw [A7,BS,Bd];have:=h.2.1;omega,fun x hx=>?_⟩
 rcases Bo.mp hx with hx | hx
 ·exact h.2.2 x (Cz hx)
 ·exact h.2.2 x (Ce hx)
theorem GR.le {n b c:Nat}{w:List L}(h:GR n b w)(g:b≤c):GR n c w:=⟨h.1,BQ h.2.1 g,h.2.2⟩
theorem xi {w:List L}:(∀ a (h:a+1 < w.length),w[a+1]≠inv w[a])→Wd.Rd w:=by
 induction w with
 | nil=>intro _;trivial
 | cons x r ih =>
  intro h
  cases r with
  | nil=>trivial
  | cons y r =>
   refine ⟨h 0 (by simp),ih fun a ha=>?_⟩
   exact h (a+1) (by simp at ha ⊢;omega)
theorem ie {w:List L}{a:Nat}(h:a < w.length):atZ w (a:Int)=w[a]:=by
 unfold atZ
 rw [B7 (by omega) (by omega),BR,A9,fu h]
 rfl
theorem xj {w:List L}(hne:w≠[])(h:∀ k:Nat,k < w.length→atZ w (k:Int)≠inv (atZ w ((k:Int) - 1))):Rnd w:=by
 have l1:=BN.mpr hne
 refine ⟨hne,xi fun a ha=>?_,fun x y hx hy=>?_⟩
 ·have:=h (a+1) ha
  rw [ie ha,show ((a+1:Nat):Int) - 1=(a:Int) by omega,ie (by omega)] at this
  exact this
 ·have:=h 0 l1
  have e:atZ w (((0:Nat):Int) - 1)=w[w.length - 1]:=by
   rw [← jH,show ((0:Nat):Int) - 1+(w.length:Int)=((w.length - 1:Nat):Int) by omega]
   exact ie (by omega)
  rw [e,ie l1] at this
  rw [Dq,fu (show w.length - 1 < w.length by omega)] at hx
  rw [DV,fu l1] at hy
  rw [← A_ hx,← A_ hy]
  exact this
def sQ:Sp:=fun vs H Q _=>∃ (d c:Addr) (m:Int),vs=[.ref d,.int m]∧Tp H d c∧1≤m∧m≤6∧∀ (u:List L) (k:Nat) (H':Hp),SK u k→(k:Int)≤m→Tp H' d c→bp d H H'→Q (tx u) H'
inductive ig (vs:List V)(H:Hp)(Q:VK)(GD:XK):Prop
 | mk:∀ u,(vs=[tx u])→(u.length≤60)→(∀ (v:List L) (H':Hp),v.length≤u.length→(∀ x∈v,x∈u)→Cyc v→aD H H'→Q (tx v) H')→ig vs H Q GD
inductive ij (vs:List V)(H:Hp)(Q:VK)(GD:XK):Prop
 | mk:∀ u,(vs=[tx u])→(u.length≤60)→(∀ (v:List L),v.length≤u.length→(∀ x∈v,x∈u)→(Cyc u→Cyc v)→Q (tx v) H)→ij vs H Q GD
inductive jO (vs:List V)(H:Hp)(Q:VK)(GD:XK):Prop
 | mk:∀ (d c:Addr) (m:Nat) (n:Int),(vs=[.ref d,.int (m:Int),.int n])→(Tp H d c)→(1≤m)→(m≤6)→(1≤n)→(n≤30)→(∀ (v:List L) (H':Hp),GR m n.toNat v→Tp H' d c→bp d H H'→Q (tx v) H')→jO vs H Q GD
def sP (s:P2):Prop:=∃ a b:Nat,a < 64∧b < 64∧s=((a:Int),(b:Int))
def SmL:Lk→Prop
 | .b s t=>sP s∧sP t
 | .a s t n=>sP s∧sP t∧n < 64
 | .g s t n=>sP s∧sP t∧n < 64
theorem sR:∀ k:Nat,k < 64→(PyData.int (k:Nat)).showable=true∧(PyData.int (k:Nat)).leavesShort 40=true∧(PyData.int (k:Nat)).weight≤8:=by decide +kernel
def Shk (n w:Nat)(d:PyData):Prop:=d.showable=true∧d.hasDict=false∧d.depth≤n∧d.leavesShort 40=true∧d.weight≤w
theorem ik {n w:Nat}:∀ {ds:List PyData},(∀ d∈ds,Shk n w d)→PyData.showableAll ds=true∧PyData.hasDictAll ds=false∧PyData.depthAll ds≤n∧PyData.leavesShortAll 40 ds=true∧PyData.weightAll ds≤ds.length*(w+1)
 | [],_=>⟨rfl,rfl,BO _,rfl,BO _⟩
 | d::r,h=>by
  obtain ⟨a,b,c,e,f⟩:=ik fun x hx=>h x (A5 _ hx)
  obtain ⟨a',b',c',e',f'⟩:=h d Ba
  refine ⟨?_,?_,?_,?_,?_⟩
  ·show (PyData.showable d && PyData.showableAll r)=true
   rw [a',a];rfl
  ·show (PyData.hasDict d || PyData.hasDictAll r)=false
   rw [b',b];rfl
  ·show max (PyData.depth d) (PyData.depthAll r)≤n
   omega
  ·show (PyData.leavesShort 40 d && PyData.leavesShortAll 40 r)=true
   rw [e',e];rfl
  ·show PyData.weight d+1+PyData.weightAll r≤(r.length+1)*(w+1)
   rw [Nat.succ_mul]
   omega
theorem il {n w m:Nat}{ds:List PyData}(h:∀ d∈ds,Shk n w d)(hm:ds.length*(w+1)≤m):Shk (n+1) m (.tuple ds):=by
 obtain ⟨a,b,c,e,f⟩:=ik h
 exact ⟨a,b,by show PyData.depthAll ds+1≤_;omega,e,BQ f hm⟩
theorem o5 {k:Nat}(h:k < 64):Shk 1 18 (.int (k:Nat)):=by
 obtain ⟨a,b,c⟩:=sR k h
 exact ⟨a,rfl,BO _,b,by omega⟩
theorem gj {s:P2}(h:sP s):Shk 1 18 (stD s):=by
 obtain ⟨a,b,ha,hb,rfl⟩:=h
 refine il (n:=0) (w:=8) (fun d hd=>?_) (by show 2*9≤18;decide)
 simp only [Bm,BA,CD] at hd
 have q:∀ k:Nat,k < 64→Shk 0 8 (.int (k:Nat)):=fun k hk=>by
  obtain ⟨a,b,c⟩:=sR k hk
  exact ⟨a,rfl,A8 _,b,c⟩
 rcases hd with rfl | rfl
 ·exact q a ha
 ·exact q b hb
theorem zh:Shk 1 18 (.str "beside"):=by unfold Shk; decide +kernel
theorem zi:Shk 1 18 (.str "along"):=by unfold Shk; decide +kernel
theorem zj:Shk 1 18 (.str "against"):=by unfold Shk; decide +kernel
theorem SmL.shk {k:Lk}(h:SmL k):Shk 2 80 k.dat:=by
 cases k with
 | b s t =>
  refine il (n:=1) (w:=18) (fun d hd=>?_) (by show 3*19≤80;decide)
  simp only [Bm,BA,CD] at hd
  rcases hd with rfl | rfl | rfl
  ·exact zh
  ·exact gj h.1
  ·exact gj h.2
 | a s t n =>
  refine il (n:=1) (w:=18) (fun d hd=>?_) (by show 4*19≤80;decide)
  simp only [Bm,BA,CD] at hd
  rcases hd with rfl | rfl | rfl | rfl
  ·exact zi
  ·exact gj h.1
  ·exact gj h.2.1
  ·exact o5 h.2.2
 | g s t n =>
  refine il (n:=1) (w:=18) (fun d hd=>?_) (by show 4*19≤80;decide)
  simp only [Bm,BA,CD] at hd
  rcases hd with rfl | rfl | rfl | rfl
  ·exact zj
  ·exact gj h.1
  ·exact gj h.2.1
  ·exact o5 h.2.2
theorem okP.sm {n:Nat}{W:List (List L)}(hW:WyR n W){s:P2}(h:okP W s):sP s:=by
 obtain ⟨h1,h2,h3,h4⟩:=h
 have:=hW.le
 have:=(hW.get h1 h2).2.2.2.1
 exact ⟨s.1.toNat,s.2.toNat,by omega,by omega,Dj (by show s.1=_;omega) (by show s.2=_;omega)⟩
theorem xk {n:Nat}{W:List (List L)}(hW:WyR n W){s t:P2}(hs:okP W s)(ht:okP W t)(wy:Int):nZ W s t wy < 64:=by
 have h1:=(hW.get hs.1 hs.2.1).2.2.2.1
 have h2:=(hW.get ht.1 ht.2.1).2.2.2.1
 have h:=(c4 (fZ W s 1) (fZ W t wy) ((wyZ W s.1).length+(wyZ W t.1).length) 0).2.1
 unfold nZ
 omega
theorem zk {n:Nat}{u:List L}{W:List (List L)}(hW:WyR n W){s t:P2}(hs:okP W s)(ht:okP W t):∀ k∈lkZ u W s t,SmL k:=by
 intro k hk
 have q:∀ {b:Bool} {x:Lk},k∈(if b=true then [x] else [])→k=x:=fun {b x} h=>by
  cases b with
  | true=>exact A2.mp h
  | false=>cases h
 unfold lkZ uG uH kP at hk
 rcases Bo.mp hk with hk | hk
 ·rw [q hk];exact ⟨hs.sm hW,ht.sm hW⟩
 ·rcases Bo.mp hk with hk | hk
  ·rw [q hk];exact ⟨hs.sm hW,ht.sm hW,xk hW hs ht _⟩
  ·rw [q hk];exact ⟨hs.sm hW,ht.sm hW,xk hW hs ht _⟩
theorem uQ {n:Nat}{u:List L}{W:List (List L)}(hW:WyR n W){i j:Int}(i0:0≤i)(i1:i < (W.length:Int))(j0:0≤j)(j1:j < (W.length:Int)):∀ k∈e_ u W i j (wyZ W i).length,SmL k:=by
 intro k hk
 unfold e_ mn at hk
 obtain ⟨p,hp,hk⟩:=Du.mp hk
 obtain ⟨q,hq,hk⟩:=Du.mp hk
 rw [Cn] at hp hq
 exact zk hW ⟨i0,i1,by show (0:Int)≤(p:Int);omega,by show (p:Int) < ((wyZ W i).length:Int);omega⟩ ⟨j0,j1,by show (0:Int)≤(q:Int);omega,by show (q:Int) < ((wyZ W j).length:Int);omega⟩ k hk
structure Tl (u v:List L) (f:L→L) (b:Bool):Prop where
 ren:Ren u f
 od:∀ e∈u,∀ x∈u,∀ y∈u,e≠x→e≠y→x≠y→decide (rfI v (f e) (f x) < rfI v (f e) (f y))=(decide (rfI u e x < rfI u e y) != b)
theorem sS (u:List L):Ren u id:=⟨fun _=>rfl,fun _ _ _ _ e=>e⟩
theorem xm {u:List L}(nd:u.Nodup){p:Nat}(hp:p < u.length):Tl u (rot u p) id false:=⟨sS u,fun e he x hx y hy _ _ _=>by
 show decide (rfI (rot u p) e x < rfI (rot u p) e y)=_
 rw [sq nd hp he hx,sq nd hp he hy,FA]⟩
theorem xo {u:List L}(nd:u.Nodup):Tl u u.reverse id true:=⟨sS u,fun e he x hx y hy n1 n2 n3=>by
 show decide (rfI u.reverse e x < rfI u.reverse e y)=_
 have m:∀ z,z∈u→z∈u.reverse:=fun z h=>D9.mpr h
 have a1:=aX he
 have a2:=aX hx
 have a3:=aX hy
 have b1:u.idxOf e≠u.idxOf x:=fun z=>n1 (bY he hx z)
 have b2:u.idxOf e≠u.idxOf y:=fun z=>n2 (bY he hy z)
 have b3:u.idxOf x≠u.idxOf y:=fun z=>n3 (bY hx hy z)
 rw [aQ (m _ he) (m _ hx),aQ (m _ he) (m _ hy),aQ he hx,aQ he hy,dD nd he,dD nd hx,dD nd hy,B5,Bool.bne_true,← decide_not,Ea]
 generalize u.idxOf e=a at *
 generalize u.idxOf x=b at *
 generalize u.idxOf y=c at *
 generalize u.length=n at *
 grind⟩
theorem o6 {u:List L}{f:L→L}(R:Ren u f)(nd:u.Nodup){x:L}(h:x∈u):(u.map f).idxOf (f x)=u.idxOf x:=by
 refine eG (kN f nd R.inj) ?_
 rw [Bi,fw h]
 rfl
theorem kX {u:List L}{f:L→L}(R:Ren u f)(nd:u.Nodup){x y:L}(hx:x∈u)(hy:y∈u):rfI (u.map f) (f x) (f y)=rfI u x y:=by
 unfold rfI
 rw [o6 R nd hx,o6 R nd hy,AY]
theorem xp {u:List L}{f:L→L}(R:Ren u f)(nd:u.Nodup):Tl u (u.map f) f false:=⟨R,fun e he x hx y hy _ _ _=>by
 rw [kX R nd he hx,kX R nd he hy,FA]⟩
theorem dG {x y:L}(n:x≠y):inv x≠inv y:=fun e=>n (by have:=Br inv e; rwa [aP,aP] at this)
theorem AM (a b c:Bool):((a != c) != (b != c))=(a != b):=by cases a <;> cases b <;> cases c <;> rfl
theorem AN (a b c:Bool):((a != c) == (b != c))=(a == b):=by cases a <;> cases b <;> cases c <;> rfl
theorem uR {u v:List L}{f:L→L}{k:Bool}(T:Tl u v f k){a b c d:L}(ha:a∈u)(hb:b∈u)(hc:c∈u)(hd:d∈u):cj v (f a) (f b) (f c) (f d)=cj u a b c d:=by
 unfold cj
 by_cases h:[a,b,c,d].Nodup
 ·have h':[f a,f b,f c,f d].Nodup:=by
   have:=kN f h (fun x hx y hy e=>T.ren.inj x (by simp only [Bm,BA,CD] at hx;rcases hx with rfl | rfl | rfl | rfl <;> assumption) y (by simp only [Bm,BA,CD] at hy;rcases hy with rfl | rfl | rfl | rfl <;> assumption) e)
   exact this
  simp only [BM,Bm,BA,CD,not_or] at h
  obtain ⟨⟨n1,n2,n3⟩,⟨n4,n5⟩,n6,_⟩:=h
  rw [Bg h',T.od a ha c hc b hb n2 n1 (fun e=>n4 e.symm),T.od a ha d hd b hb n3 n1 (fun e=>n5 e.symm),AM]
  congr 1
  refine (Bg ?_).symm
  simp only [BM,Bm,BA,CD,not_or]
  exact ⟨⟨n1,n2,n3⟩,⟨n4,n5⟩,n6,not_false,CG⟩
 ·have h':¬ [f a,f b,f c,f d].Nodup:=fun z=>h (by
   have:([a,b,c,d].map f).Nodup:=z
   exact List.Pairwise.of_map f (fun x y n e=>n (by rw [e])) this)
  rw [AZ h,AZ h',BI,BI]
structure Wlk (u:List L) (f:Int→L):Prop where
 m:∀ k,f k∈u
 i:∀ k,inv (f k)∈u
 st:∀ k,f (k+1)≠inv (f k)
theorem Wlk.st' {u:List L}{f:Int→L}(h:Wlk u f)(k:Int):f k≠inv (f (k - 1)):=by
 have:=h.st (k - 1)
 rwa [show k - 1+1=k by omega] at this
theorem Wlk.s0 {u:List L}{f:Int→L}(h:Wlk u f):f 0≠inv (f (-1)):=by
 have:=h.st (-1)
 rwa [show (-1:Int)+1=0 from rfl] at this
theorem cJ {n:Nat}{u:List L}(U:SK u n){w:List L}(R:Rnd w)(hi:InM n w){wy:Int}(hw:wy=1 ∨ wy = -1)(p:Int):Wlk u (sgZ w p wy):=by
 have lp:=BN.mpr R.ne
 refine ⟨fun k=>(U.mem _).mpr (jJ lp hi p wy k),fun k=>(U.mem _).mpr (by rw [gO];exact jJ lp hi p wy k),fun k=>?_⟩
 unfold sgZ
 rcases hw with rfl | rfl
 ·rw [if_pos rfl,if_pos rfl,show p+1*(k+1)=(p+1*k)+1 by omega]
  exact rnd_at R _
 ·rw [if_neg (by decide),if_neg (by decide),aP]
  have:=rnd_at R (p + -1*(k+1))
  rw [show p + -1*(k+1)+1=p + -1*k by omega] at this
  exact this.symm
theorem zl {u v:List L}{f g:Int→L}{φ:L→L}{k:Bool}(T:Tl u v φ k)(F:Wlk u f)(G:Wlk u g){n:Nat}(h:∀ j:Nat,j < n→f j=g j):ptB v (fun i=>φ (f i)) (fun i=>φ (g i)) n=ptB u f g n:=by
 unfold ptB
 by_cases hn:0 < n
 ·have e0:f 0=g 0:=h 0 hn
  have e1:f ((n:Int) - 1)=g ((n:Int) - 1):=by
   have:=h (n - 1) (by omega)
   rwa [show ((n - 1:Nat):Int)=(n:Int) - 1 by omega] at this
  have q:∀ x y,x∈u→y∈u→decide (φ x ≠ φ y)=decide (x≠y):=fun x y hx hy=>by
   rw [Ea]
   exact ⟨fun z e=>z (by rw [e]),fun z e=>z (T.ren.inj x hx y hy e)⟩
  rw [q _ _ (F.m _) (G.m _),q _ _ (F.m _) (G.m _)]
  by_cases c1:f (-1)=g (-1)
  ·rw [AZ (p:=f (-1)≠g (-1)) (fun z=>z c1),BI,BI]
  by_cases c2:f n=g n
  ·rw [AZ (p:=f n≠g n) (fun z=>z c2),BI,BI]
  dsimp only
  rw [← T.ren.iv,← T.ren.iv,← T.ren.iv,
   T.od _ (F.i _) _ (F.m _) _ (G.m _) (F.st' n).symm (by rw [e1];exact (G.st' n).symm) c2,
   T.od _ (F.m 0) _ (F.i _) _ (G.i _) F.s0 (by rw [e0];exact G.s0) (dG c1),AN]
 ·rw [AZ hn,BI,BI]
theorem sU {f g:Int→L}{φ:L→L}(h:∀ i j,φ (f i) = φ (g j)→f i=g j):∀ (b k:Nat),frN (fun i=>φ (f i)) (fun i=>φ (g i)) k b=frN f g k b
 | 0,_=>rfl
 | b+1,k=>by
  unfold frN
  by_cases e:f k=g k
  ·rw [if_pos e,if_pos (by rw [e])]
   exact sU h b (k+1)
  ·rw [if_neg e,if_neg (fun z=>e (h _ _ z))]
theorem i7 {f g:Int→L}{N:Nat}:∀ j:Nat,j < frN f g 0 N→f j=g j:=fun j hj=>(c4 f g N 0).2.2.1 j (BO _) hj
theorem jP {w:List L}(h:0 < w.length)(f:L→L)(j:Int):atZ (w.map f) j=f (atZ w j):=by
 have e0:=BJ j (show (w.length:Int)≠0 by omega)
 have e1:=Bz j (show (0:Int) < (w.length:Int) by omega)
 unfold atZ
 rw [AY,A9,A9,Bi,fu (show (j % (w.length:Int)).toNat < w.length by omega)]
 rfl
theorem sV {w:List L}(h:0 < w.length){f:L→L}(iv:∀ x,f (inv x)=inv (f x))(p wy:Int):sgZ (w.map f) p wy=fun k=>f (sgZ w p wy k):=by
 funext k
 unfold sgZ
 rw [jP h]
 split
 ·rfl
 ·rw [iv]
theorem fK {W:List (List L)}{f:L→L}{i:Int}:wyZ (W.map (List.map f)) i=(wyZ W i).map f:=by
 unfold wyZ
 rw [A9,A9,Bi]
 cases W[i.toNat]? <;> rfl
theorem zm {n:Nat}{u v:List L}{f:L→L}{k:Bool}(U:SK u n)(T:Tl u v f k){W:List (List L)}(hW:WyR n W){s t:P2}(hs:okP W s)(ht:okP W t):lkZ v (W.map (List.map f)) s t=lkZ u W s t:=by
 obtain ⟨_,_,R1,_,l1,i1⟩:=hW.get hs.1 hs.2.1
 obtain ⟨_,_,R2,_,l2,i2⟩:=hW.get ht.1 ht.2.1
 have ef:∀ wy,fZ (W.map (List.map f)) s wy=fun k=>f (fZ W s wy k):=fun wy=>by
  unfold fZ
  rw [fK,sV l1 T.ren.iv]
 have eg:∀ wy,fZ (W.map (List.map f)) t wy=fun k=>f (fZ W t wy k):=fun wy=>by
  unfold fZ
  rw [fK,sV l2 T.ren.iv]
 have F:∀ wy:Int,(wy=1 ∨ wy = -1)→Wlk u (fZ W s wy):=fun wy h=>cJ U R1 i1 h _
 have G:∀ wy:Int,(wy=1 ∨ wy = -1)→Wlk u (fZ W t wy):=fun wy h=>cJ U R2 i2 h _
 have en:∀ wy:Int,(wy=1 ∨ wy = -1)→nZ (W.map (List.map f)) s t wy=nZ W s t wy:=fun wy h=>by
  unfold nZ
  rw [ef,eg,fK,fK,AY,AY]
  exact sU (fun i j e=>T.ren.inj _ ((F 1 (.inl rfl)).m _) _ ((G wy h).m _) e) _ _
 have ep:∀ wy:Int,(wy=1 ∨ wy = -1)→ptB v (fZ (W.map (List.map f)) s 1) (fZ (W.map (List.map f)) t wy) (nZ W s t wy)=ptB u (fZ W s 1) (fZ W t wy) (nZ W s t wy):=fun wy h=>by
  rw [ef,eg]
  exact zl T (F 1 (.inl rfl)) (G wy h) i7
 unfold lkZ uG uH kP kO
 rw [en 1 (.inl rfl),en (-1) (.inr rfl),ep 1 (.inl rfl),ep (-1) (.inr rfl),ef,eg,fK,AY]
 have F1:=F 1 (.inl rfl)
 have G1:=G 1 (.inl rfl)
 rw [show cj v (inv (f (fZ W s 1 0))) (f (fZ W s 1 1)) (inv (f (fZ W t 1 0))) (f (fZ W t 1 1))=cj u (inv (fZ W s 1 0)) (fZ W s 1 1) (inv (fZ W t 1 0)) (fZ W t 1 1) by
  rw [← T.ren.iv,← T.ren.iv]
  exact uR T (F1.i _) (F1.m _) (G1.i _) (G1.m _)]
theorem fe {α β:Type}{f g:α→List β}:∀ {l:List α},(∀ x∈l,f x=g x)→l.flatMap f=l.flatMap g
 | [],_=>rfl
 | x::l,h=>by rw [DZ,DZ,h x Ba,fe fun y hy=>h y (A5 _ hy)]
theorem o7 {n:Nat}{u v:List L}{f:L→L}{k:Bool}(U:SK u n)(T:Tl u v f k){W:List (List L)}(hW:WyR n W){i j:Int}(i0:0≤i)(i1:i < (W.length:Int))(j0:0≤j)(j1:j < (W.length:Int)):e_ v (W.map (List.map f)) i j (wyZ (W.map (List.map f)) i).length=e_ u W i j (wyZ W i).length:=by
 rw [fK,AY]
 unfold e_
 refine fe fun p hp=>?_
 unfold mn
 rw [fK,AY]
 rw [Cn] at hp
 refine fe fun q hq=>?_
 rw [Cn] at hq
 exact zm U T hW ⟨i0,i1,by show (0:Int)≤(p:Int);omega,by show (p:Int) < ((wyZ W i).length:Int);omega⟩ ⟨j0,j1,by show (0:Int)≤(q:Int);omega,by show (q:Int) < ((wyZ W j).length:Int);omega⟩
def prs (m n:Nat):List P2:=(List.range m).flatMap fun p:Nat=>(List.range n).map fun q:Nat=>((p:Int),(q:Int))
theorem bA {m n:Nat}{s:P2}:s∈prs m n ↔ 0≤s.1∧s.1 < (m:Int)∧0≤s.2∧s.2 < (n:Int):=by
 unfold prs
 rw [Du]
 constructor
 ·rintro ⟨p,hp,h⟩
  obtain ⟨q,hq,rfl⟩:=BD.mp h
  rw [Cn] at hp hq
  show 0≤(p:Int)∧(p:Int) < (m:Int)∧0≤(q:Int)∧(q:Int) < (n:Int)
  omega
 ·rintro ⟨h1,h2,h3,h4⟩
  refine ⟨s.1.toNat,Cn.mpr (by omega),BD.mpr ⟨s.2.toNat,Cn.mpr (by omega),Dj ?_ ?_⟩⟩
  ·show ((s.1.toNat:Nat):Int)=s.1
   omega
  ·show ((s.2.toNat:Nat):Int)=s.2
   omega
theorem o8 {β:Type}{g:Nat→List β}(h1:∀ p,(g p).Nodup)(h2:∀ p q x,x∈g p→x∈g q→p=q):∀ {l:List Nat},l.Nodup→(l.flatMap g).Nodup
 | [],_=>CG
 | p::l,h=>by
  rw [BM] at h
  rw [DZ,List.nodup_append]
  refine ⟨h1 p,o8 h1 h2 h.2,fun x hx y hy e=>?_⟩
  subst e
  obtain ⟨q,hq,hy⟩:=Du.mp hy
  exact h.1 (h2 p q x hx hy ▸ hq)
theorem cK (m n:Nat):(prs m n).Nodup:=by
 refine o8 (fun p=>?_) (fun p q x h1 h2=>?_) Fj
 ·refine List.Pairwise.map _ (fun a b h e=>h ?_) Fj
  exact DR (Br Prod.snd e)
 ·obtain ⟨a,_,rfl⟩:=BD.mp h1
  obtain ⟨b,_,e⟩:=BD.mp h2
  exact (DR (Br Prod.fst e)).symm
theorem uS {l:List P2}:∀ {k:List P2},k.Nodup→(∀ x∈k,x∈l)→k.length≤l.length:=by
 intro k
 induction k generalizing l with
 | nil=>intro _ _;exact BO _
 | cons x k ih =>
  intro nd h
  rw [BM] at nd
  have hx:=h x Ba
  have:=ih (l:=l.erase x) nd.2 fun y hy=>(Ec (fun e=>nd.1 (by rw [← e];exact hy))).mpr (h y (A5 _ hy))
  rw [DC hx] at this
  have:=List.length_pos_of_mem hx
  show k.length+1≤_
  omega
theorem gk {k l:List P2}{g h:P2→Bool}(nd:k.Nodup)(a b:P2→P2)(H:∀ x∈k,g x=true→a x∈l∧h (a x)=true∧b (a x)=x):k.countP g≤l.countP h:=by
 rw [Ef,Ef,← AY (f:=a)]
 have q:∀ x∈k.filter g,x∈k∧g x=true:=fun x hx=>Ei.mp hx
 refine uS ?_ fun y hy=>?_
 ·have nf:(k.filter g).Nodup:=List.Pairwise.filter _ nd
  revert nf q
  generalize k.filter g=z
  induction z with
  | nil=>intro _ _;exact CG
  | cons x z ih =>
   intro q nf
   rw [BM] at nf
   rw [Bv,BM]
   refine ⟨fun hm=>?_,ih (fun y hy=>q y (A5 _ hy)) nf.2⟩
   obtain ⟨y,hy,e⟩:=BD.mp hm
   obtain ⟨h1,h2⟩:=q x Ba
   obtain ⟨h3,h4⟩:=q y (A5 _ hy)
   have e1:=(H x h1 h2).2.2
   have e2:=(H y h3 h4).2.2
   rw [← e,e2] at e1
   exact nf.1 (e1 ▸ hy)
 ·obtain ⟨x,hx,rfl⟩:=BD.mp hy
  obtain ⟨h1,h2⟩:=q x hx
  exact Ei.mpr ⟨(H x h1 h2).1,(H x h1 h2).2.1⟩
theorem jQ {g h1 h2:P2→Bool}:∀ {l:List P2},(∀ x∈l,g x=(h1 x || h2 x)∧¬ (h1 x=true∧h2 x=true))→l.countP g=l.countP h1+l.countP h2
 | [],_=>rfl
 | x::l,H=>by
  have ih:=jQ (l:=l) fun y hy=>H y (A5 _ hy)
  obtain ⟨e,n⟩:=H x Ba
  rw [C7,C7,C7,ih,e]
  cases c1:h1 x <;> cases c2:h2 x
  ·rfl
  ·simp
   omega
  ·simp
   omega
  ·exact absurd ⟨c1,c2⟩ n
def hF (u w v:List L)(s:P2):Bool:=cj u (inv (sgZ w s.1 1 0)) (sgZ w s.1 1 1) (inv (sgZ v s.2 1 0)) (sgZ v s.2 1 1)
def nW (w v:List L)(wy:Int)(s:P2):Nat:=frN (sgZ w s.1 1) (sgZ v s.2 wy) 0 (w.length+v.length)
def hP (u w v:List L)(wy:Int)(s:P2):Bool:=ptB u (sgZ w s.1 1) (sgZ v s.2 wy) (nW w v wy s)
def NN (u w v:List L):Nat:=(prs w.length v.length).countP (hF u w v)+((prs w.length v.length).countP (hP u w v 1)+(prs w.length v.length).countP (hP u w v (-1)))
theorem o9 (w:List L){p q:Int}(h:p % (w.length:Int)=q % (w.length:Int))(wy:Int):sgZ w p wy=sgZ w q wy:=by
 funext k
 have e:atZ w (p+wy*k)=atZ w (q+wy*k):=by
  unfold atZ
  rw [D4,h,← D4]
 unfold sgZ
 rw [e]
theorem o_ {u w v:List L}{s t:P2}(h1:s.1 % (w.length:Int)=t.1 % (w.length:Int))(h2:s.2 % (v.length:Int)=t.2 % (v.length:Int))(wy:Int):hF u w v s=hF u w v t∧hP u w v wy s=hP u w v wy t∧nW w v wy s=nW w v wy t:=by
 unfold hF hP nW
 rw [o9 w h1 1,o9 v h2 1,o9 v h2 wy]
 exact ⟨rfl,rfl,rfl⟩
theorem xq {u:List L}{e x y:L}(he:e∈u)(hx:x∈u)(hy:y∈u)(h:rfI u e x=rfI u e y):x=y:=by
 refine bY hx hy ?_
 have a1:=aX he
 have a2:=aX hx
 have a3:=aX hy
 rw [aQ he hx,aQ he hy] at h
 generalize u.idxOf e=a at *
 generalize u.idxOf x=b at *
 generalize u.idxOf y=c at *
 generalize u.length=n at *
 grind
theorem kY {u:List L}{e x y:L}(he:e∈u)(hx:x∈u)(hy:y∈u)(n:x≠y):decide (rfI u e y < rfI u e x)=!decide (rfI u e x < rfI u e y):=by
 have:rfI u e x≠rfI u e y:=fun z=>n (xq he hx hy z)
 rw [← decide_not,Ea]
 omega
theorem Aj (a b:Bool):((!a) == !b)=(a == b):=by cases a <;> cases b <;> rfl
theorem sW {u:List L}{f g:Int→L}(F:Wlk u f)(G:Wlk u g){n:Nat}(h:∀ j:Nat,j < n→f j=g j):ptB u g f n=ptB u f g n:=by
 unfold ptB
 by_cases hn:0 < n
 ·have e0:f 0=g 0:=h 0 hn
  have e1:f ((n:Int) - 1)=g ((n:Int) - 1):=by
   have:=h (n - 1) (by omega)
   rwa [show ((n - 1:Nat):Int)=(n:Int) - 1 by omega] at this
  have q:∀ x y:L,decide (y≠x)=decide (x≠y):=fun x y=>by
   rw [Ea]
   exact ⟨fun z e=>z e.symm,fun z e=>z e.symm⟩
  rw [q (f (-1)) (g (-1)),q (f n) (g n)]
  by_cases c1:f (-1)=g (-1)
  ·rw [AZ (p:=f (-1)≠g (-1)) (fun z=>z c1),BI,BI]
  by_cases c2:f n=g n
  ·rw [AZ (p:=f n≠g n) (fun z=>z c2),BI,BI]
  rw [← e0,← e1,kY (F.i _) (F.m _) (G.m _) c2,kY (F.m _) (F.i _) (G.i _) (dG c1),Aj]
 ·rw [AZ hn,BI,BI]
theorem pb (f g:Int→L):∀ b k,frN g f k b=frN f g k b
 | 0,_=>rfl
 | b+1,k=>by
  unfold frN
  by_cases e:f k=g k
  ·rw [if_pos e,if_pos e.symm]
   exact pb f g b _
  ·rw [if_neg e,if_neg (fun z=>e z.symm)]
theorem kZ {u:List L}(nd:u.Nodup){a b c d:L}(ha:a∈u)(hb:b∈u)(hc:c∈u)(hd:d∈u):cj u c d a b=cj u a b c d∧cj u b a c d=cj u a b c d:=by
 have i:∀ {x y:L},x∈u→y∈u→(x=y ↔ u.idxOf x=u.idxOf y):=fun hx hy=>⟨fun e=>by rw [e],fun e=>bY hx hy e⟩
 have a1:=aX ha
 have a2:=aX hb
 have a3:=aX hc
 have a4:=aX hd
 unfold cj
 simp only [BM,Bm,BA,CD,not_or,EZ,CG,FE]
 simp only [i ha hb,i ha hc,i ha hd,i hb hc,i hb hd,i hc hd,i hc ha,i hd ha,i hc hb,i hd hb,i hb ha]
 rw [aQ ha hc,aQ ha hb,aQ ha hd,aQ hc ha,aQ hc hd,aQ hc hb,aQ hb hc,aQ hb ha,aQ hb hd]
 generalize u.idxOf a=x1 at *
 generalize u.idxOf b=x2 at *
 generalize u.idxOf c=x3 at *
 generalize u.idxOf d=x4 at *
 generalize u.length=n at *
 constructor <;> grind
structure Wo (n:Nat) (w:List L):Prop where
 r:Rnd w
 i:InM n w
theorem Wo.lp {n:Nat}{w:List L}(h:Wo n w):0 < w.length:=BN.mpr h.r.ne
theorem i8 {n:Nat}{u w v:List L}(U:SK u n)(A:Wo n w)(B:Wo n v)(p q:Int):hP u v w 1 (q,p)=hP u w v 1 (p,q):=by
 unfold hP nW
 show ptB u (sgZ v q 1) (sgZ w p 1) (frN (sgZ v q 1) (sgZ w p 1) 0 (v.length+w.length))=ptB u (sgZ w p 1) (sgZ v q 1) (frN (sgZ w p 1) (sgZ v q 1) 0 (w.length+v.length))
 rw [FI v.length,pb]
 exact sW (cJ U A.r A.i (.inl rfl) p) (cJ U B.r B.i (.inl rfl) q) i7
theorem jR {n:Nat}{u w v:List L}(U:SK u n)(A:Wo n w)(B:Wo n v){p q:Int}(h:hP u w v (-1) (p,q)=true):hP u v w (-1) (q - (nW w v (-1) (p,q):Nat)+1,p+(nW w v (-1) (p,q):Nat) - 1)=true∧nW v w (-1) (q - (nW w v (-1) (p,q):Nat)+1,p+(nW w v (-1) (p,q):Nat) - 1)=nW w v (-1) (p,q):=by
 have F:=cJ U A.r A.i (.inl rfl) p
 have G:=cJ U B.r B.i (.inr rfl) q
 have hle:nW w v (-1) (p,q)≤w.length+v.length:=by
  have:=(c4 (sgZ w p 1) (sgZ v q (-1)) (w.length+v.length) 0).2.1
  unfold nW
  show frN (sgZ w p 1) (sgZ v q (-1)) 0 (w.length+v.length)≤_
  omega
 have al:∀ j:Nat,j < nW w v (-1) (p,q)→sgZ w p 1 j=sgZ v q (-1) j:=fun j hj=>i7 (N:=w.length+v.length) j hj
 have h:ptB u (sgZ w p 1) (sgZ v q (-1)) (nW w v (-1) (p,q))=true:=h
 generalize hm:nW w v (-1) (p,q)=m at *
 have ef:∀ k:Int,sgZ v (q - (m:Nat)+1) 1 k=inv (sgZ v q (-1) ((m:Int) - 1 - k)):=fun k=>by
  unfold sgZ
  rw [if_pos rfl,if_neg (by decide),aP]
  congr 1
  omega
 have eg:∀ k:Int,sgZ w (p+(m:Nat) - 1) (-1) k=inv (sgZ w p 1 ((m:Int) - 1 - k)):=fun k=>by
  unfold sgZ
  rw [if_pos rfl,if_neg (by decide)]
  congr 2
  omega
 unfold ptB at h
 simp only [B9,Bb] at h
 obtain ⟨h0,h1,h2,h3⟩:=h
 have e0:sgZ w p 1 0=sgZ v q (-1) 0:=al 0 h0
 have e1:sgZ w p 1 ((m:Int) - 1)=sgZ v q (-1) ((m:Int) - 1):=by
  have:=al (m - 1) (by omega)
  rwa [show ((m - 1:Nat):Int)=(m:Int) - 1 by omega] at this
 have en:nW v w (-1) (q - (m:Nat)+1,p+(m:Nat) - 1)=m:=by
  refine zg (fun j hj=>?_) (by omega) (.inr ?_)
  ·show sgZ v (q - (m:Nat)+1) 1 j=sgZ w (p+(m:Nat) - 1) (-1) j
   rw [ef,eg]
   have:=al (m - 1 - j) (by omega)
   rw [show ((m - 1 - j:Nat):Int)=(m:Int) - 1 - j by omega] at this
   rw [this]
  ·show sgZ v (q - (m:Nat)+1) 1 m≠sgZ w (p+(m:Nat) - 1) (-1) m
   rw [ef,eg,show (m:Int) - 1 - m = -1 by omega]
   exact (dG h1).symm
 refine ⟨?_,en⟩
 unfold hP
 rw [en]
 show ptB u (sgZ v (q - (m:Nat)+1) 1) (sgZ w (p+(m:Nat) - 1) (-1)) m=true
 unfold ptB
 rw [ef,ef,ef,ef,eg,eg,show (m:Int) - 1 - -1=m by omega,show (m:Int) - 1 - m = -1 by omega,show (m:Int) - 1 - ((m:Int) - 1)=0 by omega,show (m:Int) - 1 - 0=(m:Int) - 1 by omega,aP,aP,aP]
 rw [Bg h0,Bg (p:=inv (sgZ v q (-1) m)≠inv (sgZ w p 1 m)) (dG h2).symm,Bg (p:=inv (sgZ v q (-1) (-1))≠inv (sgZ w p 1 (-1))) (dG h1).symm,Ck,Ck,Ck]
 rw [← e0,← e1,kY (F.m 0) (F.i (-1)) (G.i (-1)) (dG h1),kY (F.i _) (F.m m) (G.m m) h2,Aj]
 rw [FF] at h3 ⊢
 exact h3.symm
def oth (w v:List L)(s:P2):P2:=((s.2 - (nW w v (-1) s:Nat)+1) % (v.length:Int),(s.1+(nW w v (-1) s:Nat) - 1) % (w.length:Int))
theorem pe (a n:Int):a % n % n=a % n:=Int.emod_emod_of_dvd _ (Int.dvd_refl _)
theorem sX {w v:List L}(hw:0 < w.length)(hv:0 < v.length)(s:P2):oth w v s∈prs v.length w.length:=by
 refine bA.mpr ⟨BJ _ (by omega),Bz _ (by omega),BJ _ (by omega),Bz _ (by omega)⟩
theorem dH {n:Nat}{u w v:List L}(U:SK u n)(A:Wo n w)(B:Wo n v){s:P2}(hs:s∈prs w.length v.length)(h:hP u w v (-1) s=true):hP u v w (-1) (oth w v s)=true∧nW v w (-1) (oth w v s)=nW w v (-1) s∧oth v w (oth w v s)=s:=by
 obtain ⟨p,q⟩:=s
 obtain ⟨h1,h2⟩:=jR U A B h
 have hm:=o_ (u:=u) (w:=v) (v:=w) (s:=oth w v (p,q)) (t:=(q - (nW w v (-1) (p,q):Nat)+1,p+(nW w v (-1) (p,q):Nat) - 1)) (pe _ _) (pe _ _) (-1)
 have en:nW v w (-1) (oth w v (p,q))=nW w v (-1) (p,q):=by rw [hm.2.2,h2]
 refine ⟨by rw [hm.2.1];exact h1,en,?_⟩
 obtain ⟨a1,a2,a3,a4⟩:=bA.mp hs
 show ((((oth w v (p,q)).2 - (nW v w (-1) (oth w v (p,q)):Nat)+1) % (w.length:Int)),(((oth w v (p,q)).1+(nW v w (-1) (oth w v (p,q)):Nat) - 1) % (v.length:Int)))=(p,q)
 rw [en]
 unfold oth
 refine Dj ?_ ?_
 ·show (((p+(nW w v (-1) (p,q):Nat) - 1) % (w.length:Int)) - (nW w v (-1) (p,q):Nat)+1) % (w.length:Int)=p
  rw [show ((p+(nW w v (-1) (p,q):Nat) - 1) % (w.length:Int)) - (nW w v (-1) (p,q):Nat)+1=((p+(nW w v (-1) (p,q):Nat) - 1) % (w.length:Int))+(1 - (nW w v (-1) (p,q):Nat)) by omega,E1,show p+(nW w v (-1) (p,q):Nat) - 1+(1 - (nW w v (-1) (p,q):Nat))=p by omega]
  exact B7 a1 a2
 ·show (((q - (nW w v (-1) (p,q):Nat)+1) % (v.length:Int))+(nW w v (-1) (p,q):Nat) - 1) % (v.length:Int)=q
  rw [show ((q - (nW w v (-1) (p,q):Nat)+1) % (v.length:Int))+(nW w v (-1) (p,q):Nat) - 1=((q - (nW w v (-1) (p,q):Nat)+1) % (v.length:Int))+((nW w v (-1) (p,q):Nat) - 1) by omega,E1,show q - (nW w v (-1) (p,q):Nat)+1+((nW w v (-1) (p,q):Nat) - 1)=q by omega]
  exact B7 a3 a4
def sw (s:P2):P2:=(s.2,s.1)
theorem q_ {m n:Nat}{s:P2}(h:s∈prs m n):sw s∈prs n m:=by
 obtain ⟨a1,a2,a3,a4⟩:=bA.mp h
 exact bA.mpr ⟨a3,a4,a1,a2⟩
theorem sY {n:Nat}{u w v:List L}(U:SK u n)(A:Wo n w)(B:Wo n v)(s:P2):hF u v w (sw s)=hF u w v s:=by
 have F:=cJ U A.r A.i (.inl rfl) s.1
 have G:=cJ U B.r B.i (.inl rfl) s.2
 exact (kZ U.srf.nd (F.i _) (F.m _) (G.i _) (G.m _)).1
theorem xr {n:Nat}{u w v:List L}(U:SK u n)(A:Wo n w)(B:Wo n v):(prs w.length v.length).countP (hF u w v)≤(prs v.length w.length).countP (hF u v w) :=
 gk (cK _ _) sw sw fun s hs h=>⟨q_ hs,by rw [sY U A B];exact h,rfl⟩
theorem xt {n:Nat}{u w v:List L}(U:SK u n)(A:Wo n w)(B:Wo n v):(prs w.length v.length).countP (hP u w v 1)≤(prs v.length w.length).countP (hP u v w 1) :=
 gk (cK _ _) sw sw fun s hs h=>⟨q_ hs,by show hP u v w 1 (s.2,s.1)=true;rw [i8 U A B];exact h,rfl⟩
theorem rf {n:Nat}{u w v:List L}(U:SK u n)(A:Wo n w)(B:Wo n v):(prs w.length v.length).countP (hP u w v (-1))≤(prs v.length w.length).countP (hP u v w (-1)) :=
 gk (cK _ _) (oth w v) (oth v w) fun s hs h=>⟨sX A.lp B.lp s,(dH U A B hs h).1,(dH U A B hs h).2.2⟩
theorem sZ {n:Nat}{u w v:List L}(U:SK u n)(A:Wo n w)(B:Wo n v):NN u w v=NN u v w:=by
 have a1:=xr U A B
 have a2:=xr U B A
 have b1:=xt U A B
 have b2:=xt U B A
 have c1:=rf U A B
 have c2:=rf U B A
 unfold NN
 omega
theorem ip {k l:List P2}{g h:P2→Bool}(nk:k.Nodup)(nl:l.Nodup)(a b:P2→P2)(H:∀ x∈k,a x∈l∧b (a x)=x∧h (a x)=g x)(H':∀ y∈l,b y∈k∧a (b y)=y):k.countP g=l.countP h:=by
 refine Nat.le_antisymm (gk nk a b fun x hx e=>⟨(H x hx).1,by rw [(H x hx).2.2];exact e,(H x hx).2.1⟩) (gk nl b a fun y hy e=>?_)
 obtain ⟨h1,h2⟩:=H' y hy
 refine ⟨h1,?_,h2⟩
 have:=(H _ h1).2.2
 rw [h2] at this
 rw [← this]
 exact e
theorem jS (w:List L)(a:Nat):(rot w a).length=w.length:=(dg w a).length_eq
theorem uT {w:List L}{a:Nat}(ha:a≤w.length)(j:Int):atZ (rot w a) j=atZ w (j+a):=by
 by_cases hw:w.length=0
 ·have:w=[]:=B6 hw
  subst this
  simp [rot,atZ]
 have e0:=BJ j (show (w.length:Int)≠0 by omega)
 have e1:=Bz j (show (0:Int) < (w.length:Int) by omega)
 unfold atZ
 rw [jS,A9,A9,nX ha (by omega)]
 congr 2
 have:(((j % (w.length:Int)).toNat+a) % w.length:Nat)=((j+a) % (w.length:Int)).toNat:=by
  rw [D4]
  have:(((j % (w.length:Int)).toNat+a:Nat):Int)=j % (w.length:Int)+a:=by omega
  have q:(((((j % (w.length:Int)).toNat+a) % w.length:Nat)):Int)=(j % (w.length:Int)+a % (w.length:Int)) % (w.length:Int):=by
   rw [Int.natCast_emod,this]
   rw [Int.add_emod_emod]
  omega
 rw [this]
theorem s_ {w:List L}{a:Nat}(ha:a≤w.length)(p wy:Int):sgZ (rot w a) p wy=sgZ w (p+a) wy:=by
 funext k
 unfold sgZ
 rw [uT ha,show p+wy*k+(a:Int)=p+a+wy*k by omega]
theorem ph {m:Nat}{p c:Int}(h0:0≤p)(h1:p < (m:Int)):((p+c) % (m:Int) + -c) % (m:Int)=p:=by
 rw [E1,show p+c + -c=p by omega]
 exact B7 h0 h1
theorem rg {m n:Nat}{s:P2}(hs:s∈prs m n)(p:Int):(p % (m:Int),s.2)∈prs m n:=by
 obtain ⟨a1,a2,a3,a4⟩:=bA.mp hs
 exact bA.mpr ⟨BJ _ (by omega),Bz _ (by omega),a3,a4⟩
theorem xu {u w v:List L}{a:Nat}(ha:a≤w.length):NN u (rot w a) v=NN u w v:=by
 have key:∀ (g h:P2→Bool),(∀ s,g s=h (s.1+a,s.2))→(∀ s t:P2,s.1 % (w.length:Int)=t.1 % (w.length:Int)→s.2 % (v.length:Int)=t.2 % (v.length:Int)→h s=h t)→(prs w.length v.length).countP g=(prs w.length v.length).countP h:=fun g h e hm=>by
  refine ip (cK _ _) (cK _ _) (fun s=>((s.1+a) % (w.length:Int),s.2)) (fun s=>((s.1 + -a) % (w.length:Int),s.2)) (fun s hs=>⟨rg hs _,?_,?_⟩) (fun s hs=>⟨rg hs _,?_⟩)
  ·obtain ⟨a1,a2,a3,a4⟩:=bA.mp hs
   exact Dj (ph a1 a2) rfl
  ·rw [e]
   exact hm _ _ (pe _ _) rfl
  ·obtain ⟨a1,a2,a3,a4⟩:=bA.mp hs
   refine Dj ?_ rfl
   have:=ph (c:=-(a:Int)) a1 a2
   rw [Int.neg_neg] at this
   exact this
 unfold NN
 rw [jS]
 have e1:=key (hF u (rot w a) v) (hF u w v) (fun s=>by unfold hF;rw [s_ ha]) (fun s t h1 h2=>(o_ h1 h2 1).1)
 have e2:∀ wy,(prs w.length v.length).countP (hP u (rot w a) v wy)=(prs w.length v.length).countP (hP u w v wy):=fun wy=>key _ _ (fun s=>by unfold hP nW;rw [s_ ha,jS]) (fun s t h1 h2=>(o_ h1 h2 wy).2.1)
 rw [e1,e2,e2]
theorem xv {w:List L}(hw:0 < w.length)(j:Int):atZ (bk w) j=inv (atZ w (-1 - j)):=by
 have e0:=BJ j (show (w.length:Int)≠0 by omega)
 have e1:=Bz j (show (0:Int) < (w.length:Int) by omega)
 have e2:(-1 - j) % (w.length:Int)=(w.length:Int) - 1 - j % (w.length:Int):=by
  have:-1 - j=((w.length:Int) - 1 - j % (w.length:Int))+(w.length:Int)*(-1 - j / (w.length:Int)):=by
   have:=Int.mul_ediv_add_emod j (w.length:Int)
   rw [Int.mul_sub]
   omega
  rw [this,Ew]
  exact B7 (by omega) (by omega)
 unfold atZ
 rw [e2,bu]
 have hy:w[w.length - 1 - (j % (w.length:Int)).toNat]? = some (w.getD ((w.length:Int) - 1 - j % (w.length:Int)).toNat 0):=by
  rw [show w.length - 1 - (j % (w.length:Int)).toNat=((w.length:Int) - 1 - j % (w.length:Int)).toNat by omega]
  exact qD (by omega)
 rw [A9,nM w (by omega) hy]
 rfl
theorem xw {w:List L}(hw:0 < w.length)(p:Int):sgZ (bk w) p 1=sgZ w (-1 - p) (-1):=by
 funext k
 unfold sgZ
 rw [if_pos rfl,if_neg (by decide),xv hw]
 congr 2
 omega
theorem Wo.bk {n:Nat}{w:List L}(h:Wo n w):Wo n (bk w):=⟨sv h.r,InM.bk h.i⟩
theorem ff {m:Nat}{p c:Int}(h0:0≤p)(h1:p < (m:Int)):(c - (c - p) % (m:Int)) % (m:Int)=p:=by
 rw [Int.sub_emod_emod,show c - (c - p)=p by omega]
 exact B7 h0 h1
theorem bkA {n:Nat}{u w v:List L}(U:SK u n)(A:Wo n w)(B:Wo n v):(prs w.length v.length).countP (hP u (bk w) v 1)=(prs w.length v.length).countP (hP u w v (-1)):=by
 have e1:(prs w.length v.length).countP (hP u (bk w) v 1)=(prs v.length w.length).countP (hP u v w (-1)):=by
  refine ip (cK _ _) (cK _ _) (fun s=>(s.2,(-1 - s.1) % (w.length:Int))) (fun s=>((-1 - s.2) % (w.length:Int),s.1)) (fun s hs=>?_) (fun s hs=>?_)
  ·obtain ⟨a1,a2,a3,a4⟩:=bA.mp hs
   refine ⟨bA.mpr ⟨a3,a4,BJ _ (by omega),Bz _ (by omega)⟩,Dj (ff a1 a2) rfl,?_⟩
   rw [(o_ (u:=u) (w:=v) (v:=w) (s:=(s.2,(-1 - s.1) % (w.length:Int))) (t:=(s.2,-1 - s.1)) rfl (pe _ _) (-1)).2.1]
   unfold hP nW
   show ptB u (sgZ v s.2 1) (sgZ w (-1 - s.1) (-1)) (frN (sgZ v s.2 1) (sgZ w (-1 - s.1) (-1)) 0 (v.length+w.length))=ptB u (sgZ (bk w) s.1 1) (sgZ v s.2 1) (frN (sgZ (bk w) s.1 1) (sgZ v s.2 1) 0 ((bk w).length+v.length))
   rw [xw A.lp,bu,FI v.length,pb]
   exact sW (cJ U A.r A.i (.inr rfl) _) (cJ U B.r B.i (.inl rfl) _) i7
  ·obtain ⟨a1,a2,a3,a4⟩:=bA.mp hs
   exact ⟨bA.mpr ⟨BJ _ (by omega),Bz _ (by omega),a1,a2⟩,Dj rfl (ff a3 a4)⟩
 rw [e1]
 exact Nat.le_antisymm (rf U B A) (rf U A B)
theorem zo {n:Nat}{u w v:List L}(U:SK u n)(A:Wo n w)(B:Wo n v):NN u (bk w) v=NN u w v:=by
 have e1:=bkA U A B
 have e2:=bkA U A.bk B
 rw [wz,bu] at e2
 have e3:(prs w.length v.length).countP (hF u (bk w) v)=(prs w.length v.length).countP (hF u w v):=by
  refine ip (cK _ _) (cK _ _) (fun s=>((-2 - s.1) % (w.length:Int),s.2)) (fun s=>((-2 - s.1) % (w.length:Int),s.2)) (fun s hs=>⟨rg hs _,?_,?_⟩) (fun s hs=>⟨rg hs _,?_⟩)
  ·obtain ⟨a1,a2,a3,a4⟩:=bA.mp hs
   exact Dj (ff a1 a2) rfl
  ·rw [(o_ (u:=u) (w:=w) (v:=v) (s:=((-2 - s.1) % (w.length:Int),s.2)) (t:=(-2 - s.1,s.2)) (pe _ _) rfl (-1)).1]
   unfold hF
   have F:=cJ U A.r A.i (.inl rfl) (-2 - s.1)
   have G:=cJ U B.r B.i (.inl rfl) s.2
   rw [xw A.lp]
   have h1:inv (sgZ w (-1 - s.1) (-1) 0)=sgZ w (-2 - s.1) 1 1:=by
    unfold sgZ
    rw [if_pos rfl,if_neg (by decide),aP]
    congr 1
    omega
   have h2:sgZ w (-1 - s.1) (-1) 1=inv (sgZ w (-2 - s.1) 1 0):=by
    unfold sgZ
    rw [if_pos rfl,if_neg (by decide)]
    congr 2
    omega
   rw [h1,h2]
   exact ((kZ U.srf.nd (F.i _) (F.m _) (G.i _) (G.m _)).2).symm
  ·obtain ⟨a1,a2,a3,a4⟩:=bA.mp hs
   exact Dj (ff a1 a2) rfl
 unfold NN
 rw [bu,e1,e3,← e2]
 omega
theorem pj (u:List L)(W:List (List L))(i j:Int)(m:Nat):e_ u W i j m=(prs m (wyZ W j).length).flatMap fun x=>lkZ u W (i,x.1) (j,x.2):=by
 unfold e_ prs mn
 rw [List.flatMap_assoc]
 refine fe fun p _=>?_
 rw [List.flatMap_map]
theorem pk {F:P2→List Lk}{h1 h2 h3:P2→Bool}:∀ {l:List P2},(∀ x∈l,(F x).length=(h1 x).toNat+((h2 x).toNat+(h3 x).toNat))→(l.flatMap F).length=l.countP h1+(l.countP h2+l.countP h3)
 | [],_=>rfl
 | x::l,H=>by
  have ih:=pk (l:=l) fun y hy=>H y (A5 _ hy)
  have:=H x Ba
  rw [DZ,A7,ih,this,C7,C7,C7]
  cases h1 x <;> cases h2 x <;> cases h3 x <;> simp <;> omega
theorem eK (b:Bool)(x:Lk):(if b=true then [x] else []).length=b.toNat:=by cases b <;> rfl
theorem tf {u:List L}{W:List (List L)}{i j:Int}(h:i < j):(e_ u W i j (wyZ W i).length).length=NN u (wyZ W i) (wyZ W j):=by
 rw [pj]
 refine pk fun x _=>?_
 have l1:∀ q r:Int,ltP (i,q) (j,r)=true:=fun q r=>h_.mpr (.inl h)
 unfold lkZ uG uH kP kO
 rw [l1,l1,Ck,Ck,Ck,A7,A7,eK,eK,eK]
 rfl
theorem xx {n:Nat}{g:P2→Bool}(h0:∀ s:P2,s.1=s.2→g s=false)(hs:∀ s,g (sw s)=g s):2*(prs n n).countP (fun s=>decide (s.1 < s.2) && g s)=(prs n n).countP g:=by
 have e1:(prs n n).countP g=(prs n n).countP (fun s=>decide (s.1 < s.2) && g s)+(prs n n).countP (fun s=>decide (s.2 < s.1) && g s):=jQ fun s _=>by
  rcases Int.lt_trichotomy s.1 s.2 with h | h | h
  ·rw [Bg h,AZ (show ¬ s.2 < s.1 by omega)]
   simp
  ·rw [h0 s h]
   simp
  ·rw [Bg h,AZ (show ¬ s.1 < s.2 by omega)]
   simp
 have e2:(prs n n).countP (fun s=>decide (s.1 < s.2) && g s)=(prs n n).countP (fun s=>decide (s.2 < s.1) && g s):=ip (cK _ _) (cK _ _) sw sw (fun s h=>⟨q_ h,rfl,by show (decide (s.1 < s.2) && g (sw s))=_;rw [hs]⟩) (fun s h=>⟨q_ h,rfl⟩)
 omega
theorem tj {n:Nat}{u:List L}(U:SK u n){W:List (List L)}{i:Int}(A:Wo n (wyZ W i)):2*(e_ u W i i (wyZ W i).length).length=NN u (wyZ W i) (wyZ W i):=by
 have e:(e_ u W i i (wyZ W i).length).length=(prs (wyZ W i).length (wyZ W i).length).countP (fun s=>decide (s.1 < s.2) && hF u (wyZ W i) (wyZ W i) s)+((prs (wyZ W i).length (wyZ W i).length).countP (fun s=>decide (s.1 < s.2) && hP u (wyZ W i) (wyZ W i) 1 s)+(prs (wyZ W i).length (wyZ W i).length).countP (fun s=>decide (s.1 < (oth (wyZ W i) (wyZ W i) s).1) && hP u (wyZ W i) (wyZ W i) (-1) s)):=by
  rw [pj]
  refine pk fun x _=>?_
  have l1:∀ q r:Int,ltP (i,q) (i,r)=decide (q < r):=fun q r=>by
   rw [BC,h_,Bb]
   show i < i ∨ (i=i∧q < r) ↔ _
   omega
  unfold lkZ uG uH kP kO
  rw [l1,l1,A7,A7,eK,eK,eK]
  rfl
 generalize wyZ W i=w at *
 have f1:=xx (n:=w.length) (g:=hF u w w) (fun s h=>by
  unfold hF cj
  rw [h]
  have:¬ [inv (sgZ w s.2 1 0),sgZ w s.2 1 1,inv (sgZ w s.2 1 0),sgZ w s.2 1 1].Nodup:=by simp
  rw [AZ this,BI]) (fun s=>sY U A A s)
 have f2:=xx (n:=w.length) (g:=hP u w w 1) (fun s h=>by
  unfold hP
  rw [h]
  exact e9 rfl) (fun s=>i8 U A A s.1 s.2)
 have f3:(prs w.length w.length).countP (hP u w w (-1))=(prs w.length w.length).countP (fun s=>decide (s.1 < (oth w w s).1) && hP u w w (-1) s)+(prs w.length w.length).countP (fun s=>decide ((oth w w s).1 < s.1) && hP u w w (-1) s):=jQ fun s hs=>by
  rcases Int.lt_trichotomy s.1 (oth w w s).1 with h | h | h
  ·rw [Bg h,AZ (show ¬ (oth w w s).1 < s.1 by omega)]
   simp
  ·have:hP u w w (-1) s=false:=by
    rw [EX]
    intro z
    unfold hP ptB at z
    rw [B9,Bb] at z
    refine oY (w:=w) (p:=s.1) (q:=s.2) A.r z.1 (fun j hj=>i7 (N:=w.length+w.length) j hj) ?_
    have a:=bA.mp hs
    rw [B7 a.1 a.2.1,h]
    rfl
   rw [this]
   simp
  ·rw [Bg h,AZ (show ¬ s.1 < (oth w w s).1 by omega)]
   simp
 have f4:∀ (c d:Int→Int→Bool),(∀ a b,c a b=d b a)→(prs w.length w.length).countP (fun s=>c s.1 (oth w w s).1 && hP u w w (-1) s)≤(prs w.length w.length).countP (fun s=>d s.1 (oth w w s).1 && hP u w w (-1) s):=fun c d hcd=>gk (cK _ _) (oth w w) (oth w w) fun s hs h=>by
  rw [B9] at h
  obtain ⟨q1,q2,q3⟩:=dH U A A hs h.2
  refine ⟨sX A.lp A.lp s,?_,q3⟩
  rw [q3,q1,Bool.and_true,← hcd]
  exact h.1
 have f5:=f4 (fun a b=>decide (a < b)) (fun a b=>decide (b < a)) fun _ _=>rfl
 have f6:=f4 (fun a b=>decide (b < a)) (fun a b=>decide (a < b)) fun _ _=>rfl
 rw [e]
 unfold NN
 omega
theorem uU {u:List L}(U:Srf u){y l:L}(hy:y∈u)(hl:l∈u):tau u (inv y) l = - tau u y l:=by
 unfold tau
 rw [aP]
 by_cases h:l=y ∨ l=inv y
 ·rw [if_pos h,if_pos h.symm]
  rfl
 ·rw [if_neg h,if_neg (fun z=>h z.symm)]
  have n1:y≠l:=fun e=>h (.inl e.symm)
  have n2:y≠inv l:=fun e=>h (.inr (by rw [e,aP]))
  have F:=js U hy hl n1 n2
  have G:=js U (U.iv y hy) hl (fun e=>n2 (by rw [← e,aP])) (dG n1)
  have a1:=gQ F
  have a2:=gQ G
  unfold sd at a1 a2
  rw [aP] at a2
  omega
theorem k0 {u:List L}(U:Srf u){y:L}(hy:y∈u):∀ {w:List L},(∀ l∈w,l∈u)→lQ u (inv y) w = - lQ u y w
 | [],_=>rfl
 | l::w,h=>by
  show tau u (inv y) l+lQ u (inv y) w = -(tau u y l+lQ u y w)
  rw [uU U hy (h l Ba),k0 U hy fun z hz=>h z (A5 _ hz)]
  omega
theorem pq {u:List L}{k:Nat}(h:SK u k){b:L}(hb:b∈u){w:List L}(hw:∀ l∈w,l∈u):bal u k w [b]=lQ u b w:=by
 have h6:=h.hi
 have hj:=(h.mem b).mp hb
 rw [uk h]
 unfold wgt
 rw [iS,aI (g:=fun y=>dfi [b] (lt6 y)*lQ u (lt6 y) w) k fun y hy=>by
  rw [← z_all h hy w hw,← kx]
  refine aI k fun x _=>?_
  split
  ·rw [Int.mul_zero]
  ·grind]
 rw [dE k hj fun i hi hn=>by
  have q:=jx b ⟨i,by omega⟩ hn
  rw [gR,if_neg q.1,if_neg q.2]
  omega]
 have my:lt6 (b.val % 6)∈u:=(h.mem _).mpr (by rw [jt (by omega)];omega)
 rw [gR]
 rcases jw b with e | e
 ·have e2:¬ b=inv (lt6 (b.val % 6)):=fun z=>kz b ⟨e,z⟩
  rw [if_pos e,if_neg e2,← e]
  omega
 ·have e2:¬ b=lt6 (b.val % 6):=fun z=>kz b ⟨z,e⟩
  rw [if_neg e2,if_pos e]
  have:=k0 h.srf my hw
  rw [← e] at this
  omega
theorem tm {u:List L}{f:L→L}(R:Ren u f)(nd:u.Nodup)(iv:∀ x∈u,inv x∈u){x z:L}(hx:x∈u)(hz:z∈u):ic (u.map f) (f x) (f z)=ic u x z:=by
 unfold ic
 rw [← R.iv,kX R nd hx hz,kX R nd hx (iv x hx)]
theorem k9 {u:List L}(U:Srf u){f:L→L}(R:Ren u f){y:L}(hy:y∈u):∀ {w:List L},(∀ l∈w,l∈u)→lQ (u.map f) (f y) (w.map f)=lQ u y w
 | [],_=>rfl
 | l::w,h=>by
  show tau (u.map f) (f y) (f l)+lQ (u.map f) (f y) (w.map f)=tau u y l+lQ u y w
  rw [k9 U R hy fun z hz=>h z (A5 _ hz)]
  have hl:=h l Ba
  congr 1
  unfold tau
  rw [← R.iv,← R.iv,tm R U.nd U.iv hy (U.iv l hl),tm R U.nd U.iv hy hl]
  by_cases c:l=y ∨ l=inv y
  ·rw [if_pos c,if_pos (c.elim (fun e=>.inl (by rw [e])) (fun e=>.inr (by rw [e])))]
  ·rw [if_neg c,if_neg (fun z=>c (z.elim (fun e=>.inl (R.inj _ hl _ hy e)) (fun e=>.inr (R.inj _ hl _ (U.iv y hy) e))))]
theorem rh:∀ {k l:List L},k.Nodup→(∀ x∈k,x∈l)→l.length≤k.length→k.Perm l:=by
 intro k
 induction k with
 | nil=>intro l _ _ h;rw [B6 (Nat.le_zero.mp h)]
 | cons x k ih =>
  intro l nd h hl
  rw [BM] at nd
  have hx:=h x Ba
  have p:=List.perm_cons_erase hx
  refine (List.Perm.cons x (ih nd.2 (fun y hy=>(Ec (fun e=>nd.1 (by rw [← e];exact hy))).mpr (h y (A5 _ hy))) ?_)).trans p.symm
  rw [DC hx]
  have:l.length≤k.length+1:=hl
  omega
theorem SK.nm {u N:List L}{k:Nat}(U:SK u k)(h:Nm N k):SK (u.map (Wd.nm N)) k:=by
 have R:=h.ren (u:=u) fun x hx=>(U.mem x).mp hx
 refine ⟨rh (kN _ U.srf.nd R.inj) (fun x hx=>?_) (by rw [AY,U.len,nY U.hi];exact A8 _),U.lo,U.hi⟩
 obtain ⟨y,hy,rfl⟩:=BD.mp hx
 exact (n9 ⟨k,by have:=U.hi;omega⟩ _).mpr (h.lt ((U.mem y).mp hy))
theorem pz {u N:List L}{k:Nat}(U:SK u k)(h:Nm N k){w1:List L}(h1:InM k w1):∀ {w2:List L},InM k w2→bal (u.map (nm N)) k (w1.map (nm N)) (w2.map (nm N))=bal u k w1 w2
 | [],_=>by
  rw [Dz,ky,oe,ky,oe]
 | b::r,h2=>by
  have R:=h.ren (u:=u) fun x hx=>(U.mem x).mp hx
  have hb:b∈u:=(U.mem b).mpr (h2 b Ba)
  have hw:∀ l∈w1,l∈u:=fun l hl=>(U.mem l).mpr (h1 l hl)
  have e1:=og u k w1 [b] r
  have e2:=og (u.map (nm N)) k (w1.map (nm N)) [nm N b] (r.map (nm N))
  have V:=SK.nm U h
  rw [pq U hb hw] at e1
  rw [pq V (BD.mpr ⟨b,hb,rfl⟩) (fun l hl=>by
   obtain ⟨y,hy,rfl⟩:=BD.mp hl
   exact BD.mpr ⟨y,hw y hy,rfl⟩),k9 U.srf R hb hw,pz U h h1 fun x hx=>h2 x (A5 _ hx)] at e2
  have e1:bal u k w1 (b::r)=_:=e1
  have e2:bal (u.map (nm N)) k (w1.map (nm N)) ((b::r).map (nm N))=_:=e2
  rw [e1,e2]
theorem uV {u:List L}(U:Srf u){f:L→L}(R:Ren u f){w:List L}(hw:∀ l∈w,l∈u)(h:Rnd w):Rnd (w.map f):=by
 have lp:=BN.mpr h.ne
 refine xj (by simpa using h.ne) fun k _=>?_
 rw [jP lp,jP lp,← R.iv]
 have:=rnd_at h ((k:Int) - 1)
 rw [show (k:Int) - 1+1=k by omega] at this
 intro e
 have m1:=hw _ (jI lp (k:Int))
 have m2:=hw _ (jI lp ((k:Int) - 1))
 exact this (R.inj _ m1 _ (U.iv _ m2) e)
theorem GR.nm {n b:Nat}{u N:List L}(U:SK u n)(h:Nm N n){w:List L}(g:GR n b w):GR n b (w.map (Wd.nm N)):=by
 have R:=h.ren (u:=u) fun x hx=>(U.mem x).mp hx
 refine ⟨uV U.srf R (fun l hl=>(U.mem l).mpr (g.2.2 l hl)) g.1,by rw [AY];exact g.2.1,fun x hx=>?_⟩
 obtain ⟨y,hy,rfl⟩:=BD.mp hx
 exact h.lt (g.2.2 y hy)
structure W8 (n:Nat) (W:List (List L)):Prop where
 lo:1≤W.length
 le:W.length≤3
 ws:∀ w∈W,GR n 8 w
theorem W8.r {n:Nat}{W:List (List L)}(h:W8 n W):WyR n W:=⟨by have:=h.le; omega,h.lo,fun w hw=>⟨(h.ws w hw).1,BQ (h.ws w hw).2.1 (by decide),(h.ws w hw).2.2⟩⟩
theorem W8.wo {n:Nat}{W:List (List L)}(h:W8 n W){i:Int}(h0:0≤i)(h1:i < (W.length:Int)):Wo n (wyZ W i)∧(wyZ W i).length≤8:=by
 obtain ⟨hm,_,R,_,_,I⟩:=h.r.get h0 h1
 exact ⟨⟨R,I⟩,(h.ws _ hm).2.1⟩
theorem W8.nm {n:Nat}{u N:List L}(U:SK u n)(h:Nm N n){W:List (List L)}(g:W8 n W):W8 n (W.map (List.map (Wd.nm N))):=by
 refine ⟨by rw [AY];exact g.lo,by rw [AY];exact g.le,fun w hw=>?_⟩
 obtain ⟨v,hv,rfl⟩:=BD.mp hw
 exact (g.ws v hv).nm U h
theorem W8.rev {n:Nat}{W:List (List L)}(g:W8 n W):W8 n W.reverse:=⟨by rw [B5]; exact g.lo,by rw [B5]; exact g.le,fun w hw=>g.ws w (D9.mp hw)⟩
theorem W8.first {n:Nat}{w v:List L}{r:List (List L)}(g:W8 n (w::r))(h:GR n 8 v):W8 n (v::r):=⟨g.lo,g.le,fun z hz=>by
 rcases Bm.mp hz with rfl | hz
 ·exact h
 ·exact g.ws z (A5 _ hz)⟩
def lenZ (u:List L)(W:List (List L))(p:P2):Nat:=(e_ u W p.1 p.2 (wyZ W p.1).length).length
theorem k_ {n:Nat}{u:List L}(U:SK u n){W V:List (List L)}(hW:W8 n W)(hV:W8 n V){p q:P2}(p0:0≤p.1)(p1:p.1≤p.2)(p2:p.2 < (W.length:Int))(q0:0≤q.1)(q2:q.2 < (V.length:Int))(e1:p.1=p.2 ↔ q.1=q.2)(e2:q.1≤q.2)(h:NN u (wyZ W p.1) (wyZ W p.2)=NN u (wyZ V q.1) (wyZ V q.2)):lenZ u W p=lenZ u V q:=by
 obtain ⟨a,b⟩:=p
 obtain ⟨c,d⟩:=q
 dsimp only at *
 unfold lenZ
 dsimp only
 by_cases e:a=b
 ·have e':=e1.mp e
  subst e e'
  have h1:=tj U (hW.wo p0 p2).1
  have h2:=tj U (hV.wo q0 q2).1
  omega
 ·rw [tf (show a < b by omega),tf (show c < d by have:=mt e1.mpr e;omega),h]
theorem jT {w:List L}{r:List (List L)}{i:Int}(h:0 < i)(v:List L):wyZ (w::r) i=wyZ (v::r) i:=by
 unfold wyZ
 rw [show i.toNat=(i.toNat - 1)+1 by omega]
 rfl
theorem iq (w:List L)(r:List (List L)):wyZ (w::r) 0=w:=rfl
theorem pB {n:Nat}{u:List L}(U:SK u n){w v:List L}{r:List (List L)}(hW:W8 n (w::r))(hV:W8 n (v::r))(h:∀ z,Wo n z→NN u v z=NN u w z){p:P2}(p0:0≤p.1)(p1:p.1≤p.2)(p2:p.2 < ((w::r).length:Int)):lenZ u (v::r) p=lenZ u (w::r) p:=by
 refine k_ U hV hW p0 p1 p2 p0 p2 Iff.rfl p1 ?_
 have ov:Wo n v:=⟨(hV.ws v Ba).1,(hV.ws v Ba).2.2⟩
 have ow:Wo n w:=⟨(hW.ws w Ba).1,(hW.ws w Ba).2.2⟩
 by_cases e1:p.1=0
 ·rw [e1,iq,iq]
  by_cases e2:p.2=0
  ·rw [e2,iq,iq,h v ov,sZ U ow ov,h w ow]
  ·rw [jT (w:=v) (by omega) w]
   exact h _ (hW.wo (by omega) p2).1
 ·rw [jT (w:=v) (by omega) w,jT (w:=v) (by omega) w]
theorem tp {W:List (List L)}{i:Int}(h0:0≤i)(h1:i < (W.length:Int)):wyZ W.reverse i=wyZ W ((W.length:Int) - 1 - i):=by
 unfold wyZ
 rw [A9,A9,Cs (by omega),show W.length - 1 - i.toNat=((W.length:Int) - 1 - i).toNat by omega]
theorem uW {n:Nat}{u:List L}(U:SK u n){W:List (List L)}(hW:W8 n W){p:P2}(p0:0≤p.1)(p1:p.1≤p.2)(p2:p.2 < (W.length:Int)):lenZ u W.reverse p=lenZ u W ((W.length:Int) - 1 - p.2,(W.length:Int) - 1 - p.1):=by
 have hr:W.reverse.length=W.length:=B5
 refine k_ U hW.rev hW p0 p1 (by rw [hr];exact p2) (by show 0≤(W.length:Int) - 1 - p.2;omega) (by show (W.length:Int) - 1 - p.1 < _;omega) (by show _ ↔ (W.length:Int) - 1 - p.2=(W.length:Int) - 1 - p.1;omega) (by show (W.length:Int) - 1 - p.2≤(W.length:Int) - 1 - p.1;omega) ?_
 rw [tp p0 (by omega),tp (by omega) p2]
 exact sZ U (hW.wo (by omega) (by omega)).1 (hW.wo (by omega) (by omega)).1
def prJ (m i:Nat):List P2:=(List.range (m - i)).map fun d:Nat=>((i:Int),(i:Int)+(d:Int))
def prI (m:Nat):List P2:=(List.range m).flatMap fun i=>prJ m i
theorem c5 {m:Nat}{p:P2}(h:p∈prI m):0≤p.1∧p.1≤p.2∧p.2 < (m:Int):=by
 obtain ⟨i,hi,h⟩:=Du.mp h
 obtain ⟨d,hd,rfl⟩:=BD.mp h
 rw [Cn] at hi hd
 show 0≤(i:Int)∧(i:Int)≤(i:Int)+(d:Int)∧(i:Int)+(d:Int) < (m:Int)
 omega
def IsS (u:List L)(W:List (List L))(p:P2)(ks:List Lk):Prop:=ks.Perm (e_ u W p.1 p.2 (wyZ W p.1).length)∧(ks.map Lk.key).Pairwise qle
inductive fg (u:List L)(W:List (List L)):List P2→List (List Lk)→Prop
 | nil:fg u W [] []
 | cons {p:P2} {ks:List Lk} {ps:List P2} {kss:List (List Lk)}:IsS u W p ks→fg u W ps kss→fg u W (p::ps) (ks::kss)
theorem fg.app {u:List L}{W:List (List L)}{ps qs:List P2}{k l:List (List Lk)}(h:fg u W ps k)(g:fg u W qs l):fg u W (ps++qs) (k++l):=by
 induction h with
 | nil=>exact g
 | cons a _ ih=>exact .cons a ih
theorem fg.one {u v:List L}{W V:List (List L)}:∀ {ps:List P2} {k l:List (List Lk)},fg u W ps k→fg v V ps l→(∀ p∈ps,e_ v V p.1 p.2 (wyZ V p.1).length=e_ u W p.1 p.2 (wyZ W p.1).length)→l=k
 | _,_,_,.nil,.nil,_=>rfl
 | _,_,_,.cons a h,.cons b g,e=>by
  rw [fg.one h g fun p hp=>e p (A5 _ hp)]
  have e0:=e _ Ba
  have b1:=b.1
  rw [e0] at b1
  rw [o3 b1 a.1 b.2 a.2]
theorem fg.lens {u:List L}{W:List (List L)}{ps:List P2}{k:List (List Lk)}(h:fg u W ps k):k.map List.length=ps.map (lenZ u W):=by
 induction h with
 | nil=>rfl
 | cons a _ ih=>rw [Bv,Bv,ih,a.1.length_eq];rfl
theorem fg.in_ {u:List L}{W:List (List L)}{ps:List P2}{k:List (List Lk)}(h:fg u W ps k):k.length=ps.length∧∀ ks∈k,∃ p∈ps,IsS u W p ks:=by
 induction h with
 | nil=>exact ⟨rfl,fun ks h=>by cases h⟩
 | cons a _ ih =>
  refine ⟨by rw [BH,BH,ih.1],fun ks hk=>?_⟩
  rcases Bm.mp hk with rfl | hk
  ·exact ⟨_,Ba,a⟩
  ·obtain ⟨p,hp,q⟩:=ih.2 ks hk
   exact ⟨p,A5 _ hp,q⟩
abbrev LZ:=Addr × List (Addr × Lk)
def LsA (H:Hp)(zs:List LZ):Prop:=∀ z∈zs,H z.1=some (.lst ((z.2.map (·.1)).map V.ref))∧LkA H z.2
def kss (zs:List LZ):List (List Lk):=zs.map fun z=>z.2.map (·.2)
def jc (k:List (List Lk)):PyData:=.list (k.map fun ks=>.list (ks.map Lk.dat))
theorem LsA.same {H H':Hp}{zs:List LZ}(h:LsA H zs)(s:aD H H'):LsA H' zs:=fun z hz=>⟨s _ _ (h z hz).1,(h z hz).2.same s⟩
theorem LsA.app {H:Hp}{zs ys:List LZ}(h:LsA H zs)(g:LsA H ys):LsA H (zs++ys):=fun z hz=>(Bo.mp hz).elim (h z) (g z)
theorem LsA.over {H:Hp}{zs:List LZ}{l:Addr}{xs:List V}{o:HO}(h:LsA H zs)(hl:H l=some (.lst xs))(n:∀ z∈zs,z.1≠l):LsA (upd H l o) zs:=fun z hz=>⟨by rw [aW (n z hz)]; exact (h z hz).1,(h z hz).2.to (fc hl)⟩
theorem LsA.dts {H:Hp}:∀ {zs:List LZ},LsA H zs→Dts H ((zs.map (·.1)).map V.ref) ((kss zs).map fun ks=>.list (ks.map Lk.dat))
 | [],_=>.nil
 | z::zs,h=>.cons (.lst (h z Ba).1 (h z Ba).2.dts) (LsA.dts fun y hy=>h y (A5 _ hy))
theorem pE {m:Nat}(h:m≤3):(prI m).length≤6:=by
 match m,h with
 | 0,_=>decide
 | 1,_=>decide
 | 2,_=>decide
 | 3,_=>decide
theorem xy {n:Nat}{u:List L}{W:List (List L)}(hW:W8 n W){k:List (List Lk)}(h:fg u W (prI W.length) k):Sh (jc k):=by
 obtain ⟨hl,hk⟩:=h.in_
 have h6:=pE hW.le
 obtain ⟨a,b,c,e,f⟩:=ik (n:=3) (w:=192*81) (ds:=k.map fun ks=>PyData.list (ks.map Lk.dat)) fun d hd=>by
  obtain ⟨ks,hks,rfl⟩:=BD.mp hd
  obtain ⟨p,hp,q⟩:=hk ks hks
  obtain ⟨p0,p1,p2⟩:=c5 hp
  have sm:=uQ (u:=u) hW.r p0 (by omega) (by omega) p2
  have b1:=(hW.wo p0 (show p.1 < (W.length:Int) by omega)).2
  have b2:=(hW.wo (show 0≤p.2 by omega) p2).2
  have ln:ks.length≤192:=by
   have:=jL u W p.1 p.2 b2 (wyZ W p.1).length
   rw [q.1.length_eq]
   omega
  obtain ⟨a,b,c,e,f⟩:=ik (n:=2) (w:=80) (ds:=ks.map Lk.dat) fun d hd=>by
   obtain ⟨x,hx,rfl⟩:=BD.mp hd
   exact (sm x (q.1.mem_iff.mp hx)).shk
  rw [AY] at f
  refine ⟨a,b,by show PyData.depthAll _+1≤3;omega,e,?_⟩
  show PyData.weightAll _≤_
  omega
 rw [AY] at f
 refine ⟨a,b,by show PyData.depthAll _+1≤10;omega,wZ e (by show PyData.weightAll _≤2 ^ 18;omega)⟩
inductive ir (vs:List V)(H:Hp)(Q:VK)(GD:XK):Prop
 | mk:∀ (d c:Addr) (m:Nat) (n:Int),(vs=[.ref d,.int (m:Int),.int 3,.int n])→(Tp H d c)→(1≤m)→(m≤6)→(1≤n)→(n≤8)→(∀ (a:Addr) (W:List (List L)) (H':Hp),Tp H' d c→bp d H H'→H' a=some (.tup (W.map tx))→1≤W.length→W.length≤3→(∀ w∈W,GR m 8 w)→Q (.ref a) H')→ir vs H Q GD
inductive iu (vs:List V)(H:Hp)(Q:VK)(GD:XK):Prop
 | mk:∀ (u:List L) (a:Addr) (n:Nat) (W:List (List L)),(vs=[tx u,.ref a])→SK u n→W8 n W→H a=some (.tup (W.map tx))→(∀ (l:Addr) (zs:List LZ) (H':Hp),H l=none→aD H H'→H' l=some (.lst ((zs.map (·.1)).map V.ref))→LsA H' zs→(∀ z∈zs,H z.1=none)→fg u W (prI W.length) (kss zs)→Q (.ref l) H')→iu vs H Q GD
inductive c6 (vs:List V)(H:Hp)(Q:VK)(GD:XK):Prop
 | mk:∀ (d c:Addr) (u:List L) (a:Addr) (n:Nat) (W:List (List L)),(vs=[.ref d,tx u,.ref a])→Tp H d c→SK u n→W8 n W→H a=some (.tup (W.map tx))→(∀ H',Tp H' d c→bp d H H'→Q (.bl true) H')→c6 vs H Q GD
theorem uX {xs ys:List Int}(p:xs.Perm ys)(h:xs.Pairwise (· ≤ ·))(g:ys.Pairwise (· ≤ ·)):xs=ys:=EY (fun _ _ _ _ h1 h2=>Int.le_antisymm h1 h2) h g p
theorem rj {n:Nat}{u:List L}(U:SK u n){W:List (List L)}(hW:W8 n W):((prI W.length).map (lenZ u W.reverse)).Perm ((prI W.length).map (lenZ u W)):=by
 have e:(prI W.length).map (lenZ u W.reverse)=(prI W.length).map fun p=>lenZ u W ((W.length:Int) - 1 - p.2,(W.length:Int) - 1 - p.1):=Dw fun p hp=>uW U hW (c5 hp).1 (c5 hp).2.1 (c5 hp).2.2
 rw [e]
 have f:∀ m:Nat,m≤3→((prI m).map fun p:P2=>(((m:Int) - 1 - p.2,(m:Int) - 1 - p.1):P2)).Perm (prI m):=fun m hm=>by
  match m,hm with
  | 0,_=>exact CQ _
  | 1,_=>decide
  | 2,_=>decide
  | 3,_=>decide
 have:=(f W.length hW.le).map (lenZ u W)
 rw [BZ] at this
 exact this
end Kx
namespace PySem
end PySem
namespace L2
open PySem PySem.Spec PyProof.Rows Wd
section
variable {X:Cx}
end
end L2
namespace HT
open PySem PySem.Spec PyProof.Rows
section
variable {prog:Program} {w:World} {A:Around} {E:Value→Shared→Prop} {s:Shared}
theorem eS {sl:Addr}{tk:Tok}{n:Nat}{Q:Int × Int × Nat→Shared→Prop}(hs:s.heap.IsSliceOf sl .none .none (.int (-1) tk))
  (h:Q ((n:Int) - 1,-1,n) s):wpAny (model prog w) A (Builtin.Slice.sliceApplied (.ref sl) (pure (n:Int))) Q E s:=by
 obtain ⟨os,hos,hcs,hds⟩:=id hs
 unfold Builtin.Slice.sliceApplied Builtin.Slice.sliceFields
 refine AX (AX (CP hos hds (x:=.none) rfl (AX (CP hos hds (x:=.none) rfl (AX (CP hos hds (x:=.int (-1) tk) rfl (A4 ?_)))))))
 refine AX (slicePart_int ?_)
 show wpAny _ _ (if ((-1:Int) == 0)=true then _ else _) _ _ s
 rw [if_neg (by decide)]
 refine AX (EF (AX (EF (AX (A4 ?_)))))
 have e:Builtin.Slice.slicePlaces ((n:Int) - 1) (-1) (-1)=n:=by
  unfold Builtin.Slice.slicePlaces
  rw [if_neg (by decide)]
  by_cases hn:n=0
  ·subst hn;decide
  ·rw [if_pos (by omega),show (-(-1):Int)=1 from rfl,Int.ediv_one];omega
 show wpAny _ _ (pure ((n:Int) - 1,(-1:Int),Builtin.Slice.slicePlaces ((n:Int) - 1) (-1) (-1))) _ _ s
 rw [e]
 exact A4 h
theorem dw {α β:Type}{f:α→Option β}{g:α→β}:∀ {l:List α},(∀ m∈l,f m=some (g m))→l.filterMap f=l.map g
 | [],_=>rfl
 | a::r,h=>by rw [List.filterMap_cons_some (h a Ba),Bv,dw fun m hm=>h m (A5 _ hm)]
theorem rk (xs:Array Value):((List.range xs.size).filterMap fun (m:Nat)=>xs[((xs.size:Int) - 1+(m:Int)*(-1)).toNat]?).toArray=xs.toList.reverse.toArray:=by
 congr 1
 have e:∀ m∈List.range xs.size,xs[((xs.size:Int) - 1+(m:Int)*(-1)).toNat]? = some ((fun m=>xs.toList.getD (xs.size - 1 - m) .none) m):=by
  intro m hm
  have hm:=Cn.mp hm
  have:((xs.size:Int) - 1+(m:Int)*(-1)).toNat=xs.size - 1 - m:=by omega
  rw [this]
  have Gw:xs.size - 1 - m < xs.size:=by omega
  simp [List.getD,Gw]
 rw [dw e]
 apply EW
 intro i
 rw [Bi]
 by_cases hi:i < xs.size
 ·rw [List.getElem?_range hi,Cs (by simpa using hi)]
  have Gw:xs.size - 1 - i < xs.size:=by omega
  simp [List.getD,Gw]
 ·rw [Ct (by simpa using hi),Ct (by simp;omega)]
  rfl
theorem eL {t sl:Addr}{items:Array Value}{tk:Tok}{Q:Value→Shared→Prop}(ht:IsTup s.heap t items)(hs:s.heap.IsSliceOf sl .none .none (.int (-1) tk))
  (h:Q (.ref s.heap.objs.size) { s with heap:=s.heap.push { cls:=.type "tuple",data:=.seq items.toList.reverse.toArray } })
  (hsz:items.size≤sizeLine):wpAny (model prog w) A (getItem (.ref t) (.ref sl)) Q E s:=by
 have GG:sizeOk (.seq items.toList.reverse.toArray):=by
  show items.toList.reverse.toArray.size≤sizeLine
  rw [Be,B5,A0]
  exact hsz
 obtain ⟨os,hos,hcs,hds⟩:=id hs
 have hTs:s.TypeIs (.ref sl) "slice":=⟨os,hos,hcs⟩
 unfold getItem
 try with_reducible refine Ca ?_
 first | refine AX (A4 ?_) | skip
 refine AX (ER ht.typeIs (by decide) ?_)
 refine AX (CA (name:=Str.ofString "__getitem__") ht.typeIs B2
  (Cj B2 ht.typeIs El ?_ (ED _ _)))
 show wpAny _ _ (Builtin.Tuple.tupleItemsOf (.ref t) >>= _) _ _ s
 refine AX (tupleItemsOf_ ht ?_)
 refine AX (D0 hTs ?_)
 rw [if_pos (by decide)]
 refine AX (eS hs ?_)
 show wpAny _ _ (if ((((items.size:Nat):Int) - 1 == 0 && (-1:Int) == 1 && items.size == items.size)=true) then _ else _) _ _ s
 rw [if_neg (by simp),rk]
 first
  | exact AX (m:=Builtin.Tuple.tupleExact _) (Cr (A4 ⟨_,rfl,A4 h⟩) GG)
  | exact AX (m:=Builtin.Tuple.tupleExact _) (Cr (AX (A4 (A4 ⟨_,rfl,A4 h⟩))) GG)
  | exact AX (AX (m:=Builtin.Tuple.tupleExact _) (Cr (A4 (A4 ⟨_,rfl,A4 h⟩)) GG))
  | exact AX (AX (m:=Builtin.Tuple.tupleExact _) (Cr (A4 ⟨_,rfl,A4 h⟩) GG))
end
end HT
namespace L2
open PySem PySem.Spec PyProof.Rows Wd
section
variable {X:Cx}
def zp (te ts:TE):TE:=fun σ H Q=>te σ H fun x H1=>ts σ H1 fun k H2=>∃ a xs,x = .ref a∧k = .int (-1)∧H2 a=some (.tup xs)∧∀ p,H2 p=none→Q (.ref p) (upd H2 p (.tup xs.reverse))
theorem uY {e st:Expr}{te ts:TE}{pos p2:Pos}(he:PE X e te)(hs:PE X st ts):PE X (.Subscript e (.Slice none none (some st) p2) pos) (zp te ts):=by
 intro Gn s σ H Q I h
 refine ES (thn (he Gn s σ H _ I h) fun v s1 zq1=>?_)
 obtain ⟨x,H1,I1,r1,q1⟩:=zq1
 refine wpAny_Slice ?_
 rw [E6]
 refine A4 ?_
 refine A4 ?_
 rw [evalPart_some]
 refine thn (hs Gn s1 σ H1 _ I1 q1) fun vs s3 zq2=>?_
 obtain ⟨k,H3,I3,r3,a,xs,ez,ek,hx,q3⟩:=zq2
 subst ez ek
 cases r1
 obtain ⟨tk,rfl⟩:=r3
 have I4:Inv X Gn σ H3 { s3 with heap:=s3.heap.push { cls:=.type "slice",data:=.fields #[.none,.none,.int (-1) tk] } }:=I3.kept (t':=s3.toks) fun b ob q=>A3 _ q
 obtain ⟨Gp,r,ht,hz⟩:=I4.tuple (SqT.of (K:=X.K) hx)
 show wpAny (model X.prog X.w) X.A (subscriptTail e (.Slice none none (some st) p2) (.ref a) (.ref s3.heap.objs.size)) (EP X Gn σ Q) X.xe { s3 with heap:=s3.heap.push { cls:=.type "slice",data:=.fields #[.none,.none,.int (-1) tk] } }
 refine tail_any (ops:=[.ref a,.ref s3.heap.objs.size]) ht.typeIs B2.lookup ?_ (by with_unfolding_all rfl)
 refine HT.eL (tk:=tk) ht ⟨_,Bh _ rfl,rfl,rfl⟩ ?_ (by rw [Be,← r.length];exact hz)
 refine ⟨.ref _,_,I4.laid (t':=s3.toks) (o:=.tup xs.reverse) (fun b ob q=>A3 _ q) (A8 _) ?_,rfl,q3 _ (I4.hok.fresh (A8 _))⟩
 refine ⟨by rw [B5];exact hz,_,?_,IsTup.new _ _,.new _ _ rfl⟩
 exact r.reverse
end
theorem cD {X:Cx}{K:PySem.W.Frag}(hK:X.K=K):cL X (.builtin "len") (bJ K):=by
 subst hK
 exact aO
end L2
namespace L2
open PySem PySem.Spec PyProof.Rows
theorem Fnc.imp {P:Program}{w:World}{K:PySem.W.Frag}{mg:Str→Option Value}{base:Heap}{x:Str}{ps:List Str}{k:Nat}{sp sp':Sp}(F:Fnc P w K mg base x ps k sp)(h:∀ vs H Q E,sp' vs H Q E→sp vs H Q E):Fnc P w K mg base x ps k sp':=by
 obtain ⟨f,fd,a,b,c,d⟩:=F.ex
 exact ⟨f,fd,a,b,c,d.imp h⟩
end L2
namespace Kx
open PySem PySem.Spec PyProof.Rows L2 Wd Tv
def dif (u:List L)(x:L):Int:=((u.count x:Nat):Int) - ((u.count (inv x):Nat):Int)
@[irreducible] def sml (m:Int):List L:=([0,1,2,3,4,5]:List L).take m.toNat
theorem i9 {m:Int}(h:1≤m):Txt.slice ("abcdef":Str) none (some m)=toS (sml m):=by
 rw [← qt,a_,cU _ (by omega)]
 unfold sml
 rfl
theorem ma {m:Int}:(sml m).length≤6:=by
 unfold sml
 rw [Bd]
 exact Nat.min_le_right _ _
def tq:Sp:=fun vs H Q _=>∃ (m:Int) (u:List L),vs=[.int m,tx u]∧1≤m∧m≤6∧u.length≤60∧∀ (t:Addr) (H':Hp),H' t=some (.tup ((sml m).map fun x=>V.int (dif u x)))→aD H H'→Q (.ref t) H'
theorem rl {α:Type}(g:L→α){ys:List L}{i:Nat}{x:L}(h:ys[i]? = some x):(ys.take i).map g++[g x]=(ys.take (i+1)).map g:=by
 rw [CY,h,BU]
 rfl
theorem jU {k x:Nat}(hk:k≤6)(hx:x < k):(sml (k:Int))[x]? = some (lt6 x):=by
 have q:∀ x:Fin 6,([0,1,2,3,4,5]:List L)[x.val]? = some (lt6 x.val):=by decide
 unfold sml
 rw [B0 (by omega)]
 exact q ⟨x,by omega⟩
theorem uZ {k:Nat}(hk:k≤6):(sml (k:Int)).length=k:=by
 unfold sml
 rw [Bd]
 show min _ 6=k
 omega
def xA:Sp:=fun vs H Q _=>∃ (u:List L) (k:Nat),vs=[tx u]∧SK u k∧Q (tx (sml (k:Int))) H
def Ak:Sp:=fun vs H Q _=>∃ (u:List L) (k:Nat) (a:L),vs=[tx u,tx [a]]∧SK u k∧a∈u∧∀ (p:Addr) (H':Hp),H' p=some (.tup [.int (u.idxOf a:Nat),.int (u.idxOf (inv a):Nat)])→aD H H'→Q (.ref p) H'
def zq (a b c d:Nat):Bool:=decide (min a b < c∧c < max a b) != decide (min a b < d∧d < max a b)
def xB:Sp:=fun vs H Q _=>∃ (p q:Addr) (a b c d:Nat),vs=[.ref p,.ref q]∧H p=some (.tup [.int (a:Int),.int (b:Int)])∧H q=some (.tup [.int (c:Int),.int (d:Int)])∧Q (.bl (zq a b c d)) H
def tu:Sp:=fun vs H Q _=>∃ (u:List L) (k:Nat) (x y:L),vs=[tx u,tx [x],tx [y]]∧SK u k∧qC u x y∧∀ H',aD H H'→Q (.int (sd u x y)) H'
def xC:Sp:=fun vs H Q _=>∃ (u w1 w2:List L) (k:Nat),vs=[tx u,tx w1,tx w2]∧SK u k∧w1.length≤60∧w2.length≤60∧∀ H',aD H H'→Q (.int (bal u k w1 w2)) H'
theorem rm (u:List L)(x y:L):-1≤sd u x y∧sd u x y≤1:=by
 unfold sd ic
 split <;> split <;> omega
theorem i_ {w:List L}(x:L)(h:w.length≤60):-60≤dfi w x∧dfi w x≤60:=by
 have h1:=List.count_le_length (a:=x) (l:=w)
 have h2:=List.count_le_length (a:=inv x) (l:=w)
 unfold dfi
 omega
theorem gp {α:Type}:∀ {xs:List α} {k:Nat} {x:α},xs[k]? = some x→xs.Perm (x::xs.eraseIdx k)
 | [],k,x,h=>by simp at h
 | y::r,0,x,h=>by simp at h;subst h;exact CQ _
 | y::r,k+1,x,h=>by
  have:=gp (xs:=r) (k:=k) (x:=x) (by simpa using h)
  exact (List.Perm.cons y this).trans (List.Perm.swap _ _ _)
theorem me (W:List L):L2.jm (toS W)=bx W:=by
 unfold L2.jm bx
 rw [bU,BZ]
 rfl
theorem ja {α β:Type}(g:α→β):∀ (xs:List α) (k:Nat),(xs.map g).eraseIdx k=(xs.eraseIdx k).map g
 | [],k=>by simp
 | x::r,0=>by simp
 | x::r,k+1=>by
  rw [Bv,DF,DF,Bv,ja g r k]
theorem mf (W:List L)(k:Nat):(bx W).eraseIdx k=bx (W.eraseIdx k):=ja _ W k
end Kx
namespace Kx
open PySem PySem.Spec PyProof.Rows L2 Wd
def top (i:Nat):Stmt:=PySem.Challenge.pw_ringwords_k49_whole_surfaces_told_otherw.main.body.getD i (.Pass ⟨0,0,0,0⟩)
theorem vL {α:Type}{us:List α}(h:us.length=1):∃ a0,us=[a0]:=by
 cases us with
 | nil=>cases h
 | cons a0 us =>
  cases us with
  | nil=>exact ⟨a0,rfl⟩
  | cons b us=>cases h
theorem rn {α:Type}{us:List α}(h:us.length=2):∃ a0 a1,us=[a0,a1]:=by
 cases us with
 | nil=>cases h
 | cons a0 us =>
  cases us with
  | nil=>cases h
  | cons a1 us =>
   cases us with
   | nil=>exact ⟨a0,a1,rfl⟩
   | cons b us=>cases h
theorem tw {α:Type}{us:List α}(h:us.length=3):∃ a0 a1 a2,us=[a0,a1,a2]:=by
 cases us with
 | nil=>cases h
 | cons a0 us =>
  cases us with
  | nil=>cases h
  | cons a1 us =>
   cases us with
   | nil=>cases h
   | cons a2 us =>
    cases us with
    | nil=>exact ⟨a0,a1,a2,rfl⟩
    | cons b us=>cases h
theorem u3 {α:Type}{us:List α}(h:us.length=4):∃ a0 a1 a2 a3,us=[a0,a1,a2,a3]:=by
 cases us with
 | nil=>cases h
 | cons a0 us =>
  cases us with
  | nil=>cases h
  | cons a1 us =>
   cases us with
   | nil=>cases h
   | cons a2 us =>
    cases us with
    | nil=>cases h
    | cons a3 us =>
     cases us with
     | nil=>exact ⟨a0,a1,a2,a3,rfl⟩
     | cons b us=>cases h
theorem AO {α:Type}{us:List α}(h:us.length=5):∃ a0 a1 a2 a3 a4,us=[a0,a1,a2,a3,a4]:=by
 cases us with
 | nil=>cases h
 | cons a0 us =>
  cases us with
  | nil=>cases h
  | cons a1 us =>
   cases us with
   | nil=>cases h
   | cons a2 us =>
    cases us with
    | nil=>cases h
    | cons a3 us =>
     cases us with
     | nil=>cases h
     | cons a4 us =>
      cases us with
      | nil=>exact ⟨a0,a1,a2,a3,a4,rfl⟩
      | cons b us=>cases h
section
variable {P:Program} {w:World} {K:PySem.W.Frag} {mg:Str→Option Value} {base:Heap} {aB:Addr}
abbrev pH:Stmt:=top 27
theorem u4:aE ["_law_script"] ["_law_script"] (ak pH):=⟨rfl,rfl,rfl,by decide +kernel,rfl,by decide +kernel,by decide +kernel⟩
def _root_.FL {a b c}:=@aj a b c
def _root_.FM {a b c d}:=@aF a b c d
def _root_.FN {a b c d}:=@bL a b c d
def _root_.FO {a b c d e}:=@aa a b c d e
def _root_.FP {a b c d e f g h i}:=@cb a b c d e f g h i
def _root_.FQ {a b c d e f g h i j}:=@aJ a b c d e f g h i j
def _root_.FR {a b c}:=@a9 a b c
theorem xD (D:Df K mg "_law_tape" pH)(T:Bt K w mg aB):Fnc P w K mg base "_law_tape" ["_law_script"] 1 (nV K):=by
 have sc:=u4
 refine D.ok sc (fun _ _ _ _ _ _ us hl=>by obtain ⟨_,rfl⟩:=vL hl;rfl) (fun vs H Q E h=>?_) (fun f Gz A outer s H vs Q E hr h=>?_)
 ·obtain ⟨a,ns,rfl,_⟩:=h
  rfl
 ·obtain ⟨a,ns,rfl,hS,hlen,k⟩:=h
  refine ⟨_,(FL (FM (FN (FO (FP iF (by rfl) T.list si (FO (FQ gz (pv 0) bb (FR ai)) ae)) (FO ai (FO ai (FO ai ae))))))),?_⟩
  refine ⟨_,rfl,_,rfl,a,_,rfl,hS,fun q1 hq1=>?_⟩
  rw [yO hlen]
  have s2:aD H (upd H q1 (.lst (ns.map V.int))):=aD.new hq1
  have l2:(upd H q1 (.lst (ns.map V.int))) q1=some (.lst (ns.map V.int)):=ag
  generalize upd H q1 (.lst (ns.map V.int))=H2 at s2 l2 ⊢
  refine ⟨q1,_,rfl,.inl (SqL.of l2),fun q2 hq2=>?_⟩
  have s3:aD H2 (upd H2 q2 (.lst (ns.map V.int))):=aD.new hq2
  have l3:(upd H2 q2 (.lst (ns.map V.int))) q2=some (.lst (ns.map V.int)):=ag
  generalize upd H2 q2 (.lst (ns.map V.int))=H3 at s3 l3 ⊢
  refine ⟨(by show 4≤sizeLine;decide),fun d hd=>?_⟩
  have n1:=none_of s2 hq2
  have n0:=none_of s2 (none_of s3 hd)
  exact k d q2 _ n0 n1 ⟨0,0,0,ns,ag,(aD.new hd) _ _ l3,aq l3 hd,hlen⟩ ((s2.trans s3).trans (aD.new hd))
abbrev pI:Stmt:=top 28
theorem u5:aE ["_law_tape_here","_law_many","_law_spot","_law_cell","_law_mixed","_law_found"] ["_law_tape_here","_law_many"] (ak pI):=⟨rfl,rfl,rfl,by decide +kernel,rfl,by decide +kernel,by decide +kernel⟩
def _root_.FS {a b c d e}:=@ah a b c d e
def _root_.FT {a b c d e f g h}:=@aK a b c d e f g h
def _root_.FU {a b c d e f g}:=@aG a b c d e f g
def _root_.FV {a b c d e f g h}:=@b_ a b c d e f g h
def _root_.FW {a b c d e f g h}:=@aM a b c d e f g h
def _root_.FX {a b} (c) {d e f g}:=@aA a b c d e f g
def _root_.FY {a b c d e f g h i}:=@ao a b c d e f g h i
theorem xE (D:Df K mg "_law_draw" pI)(T:Bt K w mg aB):Fnc P w K mg base "_law_draw" ["_law_tape_here","_law_many"] 1 cC:=by
 have sc:=u5
 refine D.ok sc (fun _ _ _ _ _ _ us hl=>by obtain ⟨_,_,rfl⟩:=rn hl;rfl) (fun vs H Q E h=>?_) (fun f Gz A outer s H vs Q E hr h=>?_)
 ·obtain ⟨d,c,m,rfl,_⟩:=h
  rfl
 ·obtain ⟨d,c,m,rfl,F,m0,m1,k⟩:=h
  have hu:=t_ hr
  refine ⟨_,(FS (@j8 _ _ _ _ _ _ (FT cF (FU bg (pv 0) ai (fun _ _=>rfl)) ai) (@j7 _ _ _ _ _ _ _ (pv 0) ai eV (by intro _ ;rfl)) (by rfl) (by rfl) (by rfl)) (FS (FV (FW d9 (FU bg (pv 0) ai (fun _ _=>rfl)) ai (a8 _)) (FS (FX (2) sc.nd rfl (Or.inl rfl) (FU bg (pv 0) ai (fun _ _=>rfl))) (FS (@j8 _ _ _ _ _ _ (FT cF (pv 2) ai) (@j7 _ _ _ _ _ _ _ (pv 0) ai eV (by intro _ ;rfl)) (by rfl) (by rfl) (by rfl)) (FS (FX (3) sc.nd rfl (Or.inl rfl) ai) (FS (FV (FW tH (FY aO (by rfl) T.len Bq (FO (FU bg (pv 0) ai (fun _ _=>rfl)) ae)) ai (a8 _)) (FL (FX (3) sc.nd rfl (Or.inl rfl) (FU bg (FU bg (pv 0) ai (fun _ _=>rfl)) (FT dM (pv 2) (FY aO (by rfl) T.len Bq (FO (FU bg (pv 0) ai (fun _ _=>rfl)) ae))) (fun _ _=>rfl)))) bo) (FS (FV (@PW.pt _ _ _ (@vR _ _ _ _ _ _ _ (FW eR (pv 3) (FT vY ai ai) (a8 _)) (@rP _ _ _ _ (FW yy (pv 2) (FY aO (by rfl) T.len Bq (FO (FU bg (pv 0) ai (fun _ _=>rfl)) ae)) (a8 _))))) (FS (FX (4) sc.nd rfl (Or.inl rfl) (FT dM (FT dI (FT cF (FT dM (pv 3) ai) (FT dI ai (FU bg (pv 0) ai (fun _ _=>rfl)))) ai) ai)) (FS (FX (4) sc.nd rfl (Or.inl rfl) (FT dM (FT dI (FT cF (FT dy (pv 4) ai) (FT dI ai (FU bg (pv 0) ai (fun _ _=>rfl)))) ai) ai)) (FL (FM (FT dM (FT dy (pv 4) ai) (pv 1)))))) bo) (FL (@j8 _ _ _ _ _ _ (pv 3) (@j7 _ _ _ _ _ _ _ (pv 0) ai eV (by intro _ ;rfl)) (by rfl) (by rfl) (by rfl)))))))) bo) (FS (FX (5) sc.nd rfl (Or.inl rfl) (FT dM (FU bg (pv 0) ai (fun _ _=>rfl)) (pv 1))) (FS (@j8 _ _ _ _ _ _ (FT dy (FU bg (pv 0) ai (fun _ _=>rfl)) (pv 1)) (@j7 _ _ _ _ _ _ _ (pv 0) ai eV (by intro _ ;rfl)) (by rfl) (by rfl) (by rfl)) (FL (FM (pv 5))))))),?_⟩
  obtain ⟨i,l,t,ns,hd,hc,dc,h63⟩:=F.ex
  have fin:∀ (r i' l' t':Int),0≤r→r < m→Q (.int r) (upd H d (.lst [.ref c,.int i',.int l',.int t'])):=fun r i' l' t' h0 h1 =>
   k r _ h0 h1 ⟨i',l',t',ns,ag,by rw [aW dc];exact hc,dc,h63⟩ bp.upd
  have c1:∀ o,(upd H d o) c=some (.lst (ns.map V.int)):=fun o=>by rw [aW dc];exact hc
  refine ⟨_,rfl,d,_,_,_,rfl,rfl,SqL.of hd,rfl,_,_,rfl,rfl,_,rfl,d,_,_,_,rfl,rfl,hd,rfl,?_⟩
  refine ⟨_,rfl,d,_,_,_,rfl,rfl,SqL.of ag,rfl,rfl,_,rfl,?_⟩
  refine kj (fun _=>?_) (fun _=>?_)
  rotate_left
  ·refine ⟨_,rfl,d,_,_,_,rfl,rfl,SqL.of ag,rfl,_,rfl,_,_,rfl,rfl,m0,?_⟩
   refine ⟨_,rfl,d,_,_,_,rfl,rfl,SqL.of ag,rfl,_,rfl,_,_,rfl,rfl,⟨m0,by omega⟩,_,rfl,d,_,_,_,rfl,rfl,ag,rfl,?_⟩
   refine ⟨_,rfl,?_⟩
   rw [d6]
   exact fin _ _ _ _ (BJ _ (by omega)) (Bz _ m0)
  refine ⟨_,rfl,d,_,_,_,rfl,rfl,SqL.of ag,rfl,?_⟩
  refine ⟨_,rfl,_,_,rfl,rfl,_,rfl,d,_,_,_,rfl,rfl,ag,rfl,?_⟩
  rw [d6]
  refine ⟨_,rfl,d,_,_,_,rfl,rfl,SqL.of ag,rfl,c,_,rfl,.inl (SqL.of (c1 _)),_,_,rfl,rfl,_,rfl,?_⟩
  refine kj (fun h0=>?_) (fun h0=>?_)
  ·have hne:ns≠[]:=by
    intro e
    subst e
    simp at h0
   have hl0:(0:Int) < ((ns.map V.int).length:Int):=by
    rw [AY]
    have:=BN.mpr hne
    omega
   obtain ⟨n,hn⟩:=ug hne i
   refine ⟨_,rfl,d,_,_,_,rfl,rfl,SqL.of ag,rfl,_,rfl,_,rfl,d,_,_,_,rfl,rfl,SqL.of ag,rfl,c,_,rfl,.inl (SqL.of (c1 _)),_,_,rfl,rfl,hl0,c,_,_,_,rfl,rfl,SqL.of (c1 _),hn,?_⟩
   refine ⟨_,rfl,_,_,rfl,rfl,⟨by decide,by decide,by decide⟩,_,_,rfl,rfl,_,rfl,?_⟩
   refine kj (fun h1=>?_) (fun h1=>?_)
   ·refine ⟨_,rfl,_,_,rfl,rfl,(by show (0:Int) < 1000003;decide),_,rfl,d,_,_,_,rfl,rfl,SqL.of ag,rfl,_,_,rfl,rfl,.inl ⟨by decide,by decide⟩,_,_,rfl,rfl,_,_,rfl,rfl,.inr ⟨by decide,by decide⟩,_,_,rfl,rfl,(by show (0:Int) < 2147483647;decide),?_⟩
    refine ⟨_,rfl,_,_,rfl,rfl,⟨by decide,by decide⟩,_,rfl,d,_,_,_,rfl,rfl,SqL.of ag,rfl,_,_,rfl,rfl,.inl ⟨by decide,by decide⟩,_,_,rfl,rfl,_,_,rfl,rfl,.inr ⟨by decide,by decide⟩,_,_,rfl,rfl,(by show (0:Int) < 2147483587;decide),?_⟩
    refine ⟨_,rfl,_,_,rfl,rfl,⟨by decide,by decide⟩,_,rfl,_,_,rfl,rfl,m0,?_⟩
    exact fin _ _ _ _ (BJ _ (by omega)) (Bz _ m0)
   ·refine ⟨_,rfl,_,rfl,d,_,_,_,rfl,rfl,SqL.of ag,rfl,c,_,rfl,.inl (SqL.of (c1 _)),_,_,rfl,rfl,_,rfl,?_⟩
    refine kj (fun h2=>?_) (fun h2=>?_)
    ·refine ⟨_,rfl,_,_,rfl,rfl,(by show (0:Int) < 1000003;decide),_,rfl,d,_,_,_,rfl,rfl,SqL.of ag,rfl,_,_,rfl,rfl,.inl ⟨by decide,by decide⟩,_,_,rfl,rfl,_,_,rfl,rfl,.inr ⟨by decide,by decide⟩,_,_,rfl,rfl,(by show (0:Int) < 2147483647;decide),?_⟩
     refine ⟨_,rfl,_,_,rfl,rfl,⟨by decide,by decide⟩,_,rfl,d,_,_,_,rfl,rfl,SqL.of ag,rfl,_,_,rfl,rfl,.inl ⟨by decide,by decide⟩,_,_,rfl,rfl,_,_,rfl,rfl,.inr ⟨by decide,by decide⟩,_,_,rfl,rfl,(by show (0:Int) < 2147483587;decide),?_⟩
     refine ⟨_,rfl,_,_,rfl,rfl,⟨by decide,by decide⟩,_,rfl,_,_,rfl,rfl,m0,?_⟩
     exact fin _ _ _ _ (BJ _ (by omega)) (Bz _ m0)
    ·refine ⟨_,rfl,_,rfl,d,_,_,_,rfl,rfl,ag,rfl,?_⟩
     rw [d6]
     refine ⟨_,rfl,d,_,_,_,rfl,rfl,SqL.of ag,rfl,_,rfl,_,_,rfl,rfl,m0,?_⟩
     refine ⟨_,rfl,d,_,_,_,rfl,rfl,SqL.of ag,rfl,_,rfl,_,_,rfl,rfl,⟨m0,by omega⟩,_,rfl,d,_,_,_,rfl,rfl,ag,rfl,?_⟩
     refine ⟨_,rfl,?_⟩
     rw [d6]
     exact fin _ _ _ _ (BJ _ (by omega)) (Bz _ m0)
  ·refine ⟨_,rfl,_,_,rfl,rfl,⟨by decide,by decide,by decide⟩,_,_,rfl,rfl,_,rfl,?_⟩
   refine kj (fun h1=>?_) (fun h1=>?_)
   ·refine ⟨_,rfl,_,_,rfl,rfl,(by show (0:Int) < 1000003;decide),_,rfl,d,_,_,_,rfl,rfl,SqL.of ag,rfl,_,_,rfl,rfl,.inl ⟨by decide,by decide⟩,_,_,rfl,rfl,_,_,rfl,rfl,.inr ⟨by decide,by decide⟩,_,_,rfl,rfl,(by show (0:Int) < 2147483647;decide),?_⟩
    refine ⟨_,rfl,_,_,rfl,rfl,⟨by decide,by decide⟩,_,rfl,d,_,_,_,rfl,rfl,SqL.of ag,rfl,_,_,rfl,rfl,.inl ⟨by decide,by decide⟩,_,_,rfl,rfl,_,_,rfl,rfl,.inr ⟨by decide,by decide⟩,_,_,rfl,rfl,(by show (0:Int) < 2147483587;decide),?_⟩
    refine ⟨_,rfl,_,_,rfl,rfl,⟨by decide,by decide⟩,_,rfl,_,_,rfl,rfl,m0,?_⟩
    exact fin _ _ _ _ (BJ _ (by omega)) (Bz _ m0)
   ·refine ⟨_,rfl,_,rfl,d,_,_,_,rfl,rfl,SqL.of ag,rfl,c,_,rfl,.inl (SqL.of (c1 _)),_,_,rfl,rfl,_,rfl,?_⟩
    refine kj (fun h2=>?_) (fun h2=>?_)
    ·refine ⟨_,rfl,_,_,rfl,rfl,(by show (0:Int) < 1000003;decide),_,rfl,d,_,_,_,rfl,rfl,SqL.of ag,rfl,_,_,rfl,rfl,.inl ⟨by decide,by decide⟩,_,_,rfl,rfl,_,_,rfl,rfl,.inr ⟨by decide,by decide⟩,_,_,rfl,rfl,(by show (0:Int) < 2147483647;decide),?_⟩
     refine ⟨_,rfl,_,_,rfl,rfl,⟨by decide,by decide⟩,_,rfl,d,_,_,_,rfl,rfl,SqL.of ag,rfl,_,_,rfl,rfl,.inl ⟨by decide,by decide⟩,_,_,rfl,rfl,_,_,rfl,rfl,.inr ⟨by decide,by decide⟩,_,_,rfl,rfl,(by show (0:Int) < 2147483587;decide),?_⟩
     refine ⟨_,rfl,_,_,rfl,rfl,⟨by decide,by decide⟩,_,rfl,_,_,rfl,rfl,m0,?_⟩
     exact fin _ _ _ _ (BJ _ (by omega)) (Bz _ m0)
    ·refine ⟨_,rfl,_,rfl,d,_,_,_,rfl,rfl,ag,rfl,?_⟩
     rw [d6]
     refine ⟨_,rfl,d,_,_,_,rfl,rfl,SqL.of ag,rfl,_,rfl,_,_,rfl,rfl,m0,?_⟩
     refine ⟨_,rfl,d,_,_,_,rfl,rfl,SqL.of ag,rfl,_,rfl,_,_,rfl,rfl,⟨m0,by omega⟩,_,rfl,d,_,_,_,rfl,rfl,ag,rfl,?_⟩
     refine ⟨_,rfl,?_⟩
     rw [d6]
     exact fin _ _ _ _ (BJ _ (by omega)) (Bz _ m0)
abbrev pJ:Stmt:=top 3
theorem u6:aE ["word"] ["word"] (ak pJ):=⟨rfl,rfl,rfl,by decide +kernel,rfl,by decide +kernel,by decide +kernel⟩
def _root_.F0 {a b c d e f g h i j k l}:=@cu a b c d e f g h i j k l
def _root_.F8 {a b c d e f g} (h i j) {k l m n}:=@cv a b c d e f g h i j k l m n
def _root_.F_ {a b c d e f}:=@cP a b c d e f
def _root_.Ga {a b} (c) {d}:=@aY a b c d
theorem xF (D:Df K mg "back" pJ)(T:Bt K w mg aB):Fnc P w K mg base "back" ["word"] 1 lO:=by
 have sc:=u6
 refine D.ok sc (fun _ _ _ _ _ _ us hl=>by obtain ⟨_,rfl⟩:=vL hl;rfl) (fun vs H Q E h=>?_) (fun f Gz A outer s H vs Q E hr h=>?_)
 ·obtain ⟨u,rfl,_⟩:=h
  rfl
 ·obtain ⟨u,rfl,hu,k⟩:=h
  have GI:=ba
  refine ⟨_,(FL (FM (F0 Bs Cv Cw eC bP (FO (F8 (["letter"]) (["letter"]) ([]) (F_ rfl (by kernel_rfl)) rfl (@ub _ _ _ _ _ _ rfl T.reversed lN (FO (pv 0) ae) (by rfl)) (fun _ _ _ _=>Ga (0) (show (["letter"]:List Str).Nodup from by decide +kernel) rfl (Or.inl rfl)) (fun _ _ _ _=>bG) (fun _ _ _ _=>by (exact (@uc _ _ _ _ _ _ _ _ _ T.dB rfl rfl rfl T.mgB (pv 0) (fun _ _=>rfl) (by decide))))) ae)))),?_⟩
  refine ⟨rfl,_,rfl,_,rfl,(by rw [af];omega),?_⟩
  refine cw (own:=["letter"]) (cap:=[]) (J:=yJ (toS u)) u.length (fun i ys σ H'=>H'=H∧ys=bx ((bk u).take i)∧∃ v,σ = [v]) ⟨rfl,rfl,none,rfl⟩ (fun i ys σ H' hi ⟨_,e,_⟩=>?_) (by omega) (fun i ys σ H' hi _=>?_) (fun ys σ H' _=>?_) ?_ ?_
  ·rw [e,aH,Bd];omega
  ·show i < (toS u).cps.size;rw [bt];exact hi
  ·show _=(toS u).cps.size;rw [bt]
  ·rintro i ys σ H1 x H2 N hi ⟨rfl,rfl,v,rfl⟩ ⟨rfl,c,hc,rfl⟩ hN
   rw [bt] at hc
   obtain ⟨y,hy,e⟩:=cS hc
   obtain ⟨t,ht⟩:=T.gB y
   refine ⟨_,rfl,toS [y],toS [inv y],t,by rw [e],ht,hN _ _ _ ⟨rfl,?_,_,rfl⟩⟩
   rw [cf (nM u hi hy),← bV]
   rfl
  ·rintro ys σ H1 l ⟨rfl,rfl,v,rfl⟩ hl
   rw [By (by rw [bu];exact A8 _)]
   refine ⟨_,l,(bk u).map fun x=>toS [x],rfl,rfl,SqL.of (by rw [ag,cy]),bX _ (by rw [bu];omega),?_⟩
   rw [bW]
   exact k _ (aD.new hl)
abbrev jV:Stmt:=top 29
theorem rq:aE ["_law_word"] ["_law_word"] (ak jV):=⟨rfl,rfl,rfl,by decide +kernel,rfl,by decide +kernel,by decide +kernel⟩
def _root_.Gb {a b c d e f}:=@di a b c d e f
def _root_.Gc {a b c d e f g h}:=@c7 a b c d e f g h
theorem u7 (D:Df K mg "_law_back" jV):Fnc P w K mg base "_law_back" ["_law_word"] 1 lO:=by
 have sc:=rq
 refine D.ok sc (fun _ _ _ _ _ _ us hl=>by obtain ⟨_,rfl⟩:=vL hl;rfl) (fun vs H Q E h=>?_) (fun f Gz A outer s H vs Q E hr h=>?_)
 ·obtain ⟨u,rfl,_⟩:=h
  rfl
 ·obtain ⟨u,rfl,hu,k⟩:=h
  have GI:=ba
  refine ⟨_,(FL (FM (F0 Bs Cv Cw eC bP (FO (F8 (["_law_sign"]) (["_law_sign"]) ([]) (F_ rfl (by kernel_rfl)) rfl (@fV _ _ _ _ (@jo _ _ _ _ _ _ _ (pv 0) (Gb bQ ai))) (fun _ _ _ _=>Ga (0) (show (["_law_sign"]:List Str).Nodup from by decide +kernel) rfl (Or.inl rfl)) (fun _ _ _ _=>bG) (fun _ _ _ _=>by (exact (Gc (FW mQ (pv 0) bP rfl) (@nN _ _ _ _ _ _ _ _ _ (K) rfl Bs PySem.F.slot_str_lower PySem.F.type_str_lower qp (pv 0) (by rfl) (by rfl)) (@nN _ _ _ _ _ _ _ _ _ (K) rfl Bs DW DX gH (pv 0) (by rfl) (by rfl)))))) ae)))),?_⟩
  refine ⟨rfl,_,rfl,_,rfl,toS u,rfl,rfl,(by rw [af];omega),?_⟩
  rw [gN]
  refine ⟨_,rfl,?_⟩
  refine cw (own:=["_law_sign"]) (cap:=[]) (J:=Its (toS u.reverse)) u.length (fun i ys σ H'=>H'=H∧ys=bx ((bk u).take i)∧∃ v,σ = [v]) ⟨rfl,rfl,none,rfl⟩ (fun i ys σ H' hi ⟨_,e,_⟩=>?_) (by omega) (fun i ys σ H' hi _=>?_) (fun ys σ H' _=>?_) ?_ ?_
  ·rw [e,aH,Bd];omega
  ·show i < (toS u.reverse).cps.size;rw [bt,B5];exact hi
  ·show _=(toS u.reverse).cps.size;rw [bt,B5]
  ·rintro i ys σ H1 x H2 N hi ⟨rfl,rfl,v,rfl⟩ ⟨rfl,c,hc,rfl⟩ hN
   obtain ⟨y,hy,e⟩:=cS hc
   have hb:(bk u)[i]? = some (inv y):=nM u hi (by rw [Cs hi] at hy;exact hy)
   refine ⟨_,rfl,_,_,rfl,rfl,_,rfl,?_⟩
   rw [e,wF]
   refine kj (fun h=>?_) (fun h=>?_)
   ·have h:¬ y.val < 6:=by simpa using h
    exact ⟨_,rfl,rfl,_,rfl,rfl,(by rw [af];show 1≤5592405;decide),hN _ _ _ ⟨rfl,by rw [nG h,cf hb,← bV];rfl,_,rfl⟩⟩
   ·have h:y.val < 6:=by simpa using h
    exact ⟨_,rfl,rfl,_,rfl,rfl,(by rw [af];show 1≤5592405;decide),hN _ _ _ ⟨rfl,by rw [dQ h,cf hb,← bV];rfl,_,rfl⟩⟩
  ·rintro ys σ H1 l ⟨rfl,rfl,v,rfl⟩ hl
   rw [By (by rw [bu];exact A8 _)]
   refine ⟨_,l,(bk u).map fun x=>toS [x],rfl,rfl,SqL.of (by rw [ag,cy]),bX _ (by rw [bu];omega),?_⟩
   rw [bW]
   exact k _ (aD.new hl)
abbrev pK:Stmt:=top 5
theorem u9:aE ["ways","walk","step","way","letter"] ["ways","walk","step"] (ak pK):=⟨rfl,rfl,rfl,by decide +kernel,rfl,by decide +kernel,by decide +kernel⟩
def _root_.Ge {a b c d e f g h i j k}:=@az a b c d e f g h i j k
theorem xG (D:Df K mg "met" pK)(T:Bt K w mg aB)(Gx:Fnc P w K mg base "back" ["word"] 1 lO):Fnc P w K mg base "met" ["ways","walk","step"] 2 i3:=by
 have sc:=u9
 refine D.ok sc (fun _ _ _ _ _ _ us hl=>by obtain ⟨_,_,_,rfl⟩:=tw hl;rfl) (fun vs H Q E h=>?_) (fun f Gz A outer s H vs Q E hr h=>?_)
 ·obtain ⟨a,x,n,W,s,wy,kk,rfl,_⟩:=h
  rfl
 ·obtain ⟨a,x,n,W,s,wy,kk,rfl,hW,hp,i0,i1,hwy,k⟩:=h
  have GI:=ba
  obtain ⟨_,hat,_,l30,lp,_⟩:=hW.ok.get i0 i1
  have k:∀ H',aD H H'→Q (tx [sgZ (wyZ W s.1) s.2 wy kk]) H':=k
  generalize wyZ W s.1=v at hat l30 lp k
  refine ⟨_,(FS (FX (3) sc.nd rfl (Or.inl rfl) (FU aL (pv 0) (FU aL (pv 1) ai (fun _ _=>rfl)) (fun _ _=>rfl))) (FS (FX (4) sc.nd rfl (Or.inl rfl) (FU fo (pv 3) (FT dM (FT cF (FU aL (pv 1) ai (fun _ _=>rfl)) (FT dI (FU aL (pv 1) ai (fun _ _=>rfl)) (pv 2))) (FY aC (by rfl) T.len Bq (FO (pv 3) ae))) (fun _ _=>rfl))) (FL (FM (Gc (FW d9 (FU aL (pv 1) ai (fun _ _=>rfl)) ai (a8 _)) (pv 4) (Ge Gx hr (by decide) rfl (FO (pv 4) ae))))))),?_⟩
  refine ⟨_,rfl,_,rfl,x,_,_,_,rfl,rfl,SqT.of hp,rfl,a,_,_,_,rfl,rfl,SqT.of hW.at_,hat,?_⟩
  have cm:yh wy kk:=.inl ⟨by rcases hwy with rfl | rfl <;> decide,by rcases hwy with rfl | rfl <;> decide⟩
  refine ⟨_,rfl,_,rfl,x,_,_,_,rfl,rfl,SqT.of hp,rfl,_,rfl,x,_,_,_,rfl,rfl,SqT.of hp,rfl,_,rfl,_,_,rfl,rfl,cm,_,_,rfl,rfl,_,rfl,_,rfl,(by rw [af];omega),_,_,rfl,rfl,(by rw [af];omega),?_⟩
  rw [af]
  refine ⟨_,_,_,rfl,rfl,(by rw [af];omega),AK (by omega),?_⟩
  refine ⟨_,rfl,x,_,_,_,rfl,rfl,SqT.of hp,rfl,?_⟩
  refine ⟨rfl,_,rfl,?_⟩
  rcases hwy with rfl | rfl
  ·refine kq rfl ⟨_,rfl,?_⟩
   have:=k _ (aD.refl _)
   unfold sgZ at this
   rw [if_pos rfl] at this
   exact this
  ·refine kr rfl ⟨_,rfl,[atZ v (s.2 + -1*kk)],rfl,(by show 1≤_;decide),fun H' s'=>?_⟩
   have:=k _ s'
   unfold sgZ at this
   rw [if_neg (by decide)] at this
   exact this
abbrev zr:Stmt:=top 10
theorem zu:aE ["surface","start","end"] ["surface","start","end"] (ak zr):=⟨rfl,rfl,rfl,by decide +kernel,rfl,by decide +kernel,by decide +kernel⟩
theorem AQ (D:Df K mg "round_from" zr)(T:Bt K w mg aB):Fnc P w K mg base "round_from" ["surface","start","end"] 1 yk:=by
 have sc:=zu
 refine D.ok sc (fun _ _ _ _ _ _ us hl=>by obtain ⟨_,_,_,rfl⟩:=tw hl;rfl) (fun vs H Q E h=>?_) (fun f Gz A outer s H vs Q E hr h=>?_)
 ·obtain ⟨u,k,a,b,rfl,_⟩:=h
  rfl
 ·obtain ⟨u,k,a,b,rfl,U,ha,hb,q⟩:=h
  have GI:=ba
  have hl:=U.len
  have h1:=U.lo
  have h6:=U.hi
  obtain ⟨r1,o1⟩:=iR ha
  obtain ⟨r2,o2⟩:=iR hb
  refine ⟨_,(FL (FM (FT dM (FT fQ (F0 Bs CJ CK dR (pv 0) (FO (pv 2) ae)) (F0 Bs CJ CK dR (pv 0) (FO (pv 1) ae))) (FY aC (by rfl) T.len Bq (FO (pv 0) ae))))),?_⟩
  refine ⟨_,rfl,rfl,_,rfl,_,_,_,r2,rfl,rfl,o2,_,rfl,rfl,_,rfl,_,_,_,r1,rfl,rfl,o1,_,_,rfl,rfl,_,rfl,_,rfl,(by rw [af];omega),_,_,rfl,rfl,(by rw [af];omega),?_⟩
  rw [af]
  exact q
abbrev u_:Stmt:=top 21
theorem xH:aE ["surface","start","end","other"] ["surface","start","end","other"] (ak u_):=⟨rfl,rfl,rfl,by decide +kernel,rfl,by decide +kernel,by decide +kernel⟩
def _root_.Gf {a b c d e f g h}:=@d_ a b c d e f g h
theorem zw (D:Df K mg "is_first" u_)(T:Bt K w mg aB)(F_rf:Fnc P w K mg base "round_from" ["surface","start","end"] 1 yk):Fnc P w K mg base "is_first" ["surface","start","end","other"] 2 uI:=by
 have sc:=xH
 refine D.ok sc (fun _ _ _ _ _ _ us hl=>by obtain ⟨_,_,_,_,rfl⟩:=u3 hl;rfl) (fun vs H Q E h=>?_) (fun f Gz A outer s H vs Q E hr h=>?_)
 ·obtain ⟨u,k,s,a,b,rfl,_⟩:=h
  rfl
 ·obtain ⟨u,kk,s,a,b,rfl,U,hs,ha,hb,k⟩:=h
  refine ⟨_,(FL (FM (Gf eR (Ge F_rf hr (by decide) rfl (FO (pv 0) (FO (pv 1) (FO (pv 2) ae)))) (Ge F_rf hr (by decide) rfl (FO (pv 0) (FO (pv 1) (FO (pv 3) ae)))) (a8 _)))),?_⟩
  exact ⟨_,rfl,_,rfl,_,rfl,u,kk,s,a,rfl,U,hs,ha,_,rfl,_,rfl,_,rfl,u,kk,s,b,rfl,U,hs,hb,_,_,rfl,rfl,k _ (aD.refl _)⟩
abbrev zx:Stmt:=top 16
theorem zy:aE ["ways","strand","walk"] ["ways","strand"] (ak zx):=⟨rfl,rfl,rfl,by decide +kernel,rfl,by decide +kernel,by decide +kernel⟩
def _root_.Gg {a b c d e}:=@b6 a b c d e
theorem AR (D:Df K mg "chord_ends" zx)(T:Bt K w mg aB)(Gx:Fnc P w K mg base "back" ["word"] 1 lO)(Gy:Fnc P w K mg base "met" ["ways","walk","step"] 2 i3):Fnc P w K mg base "chord_ends" ["ways","strand"] 3 ze:=by
 have sc:=zy
 refine D.ok sc (fun _ _ _ _ _ _ us hl=>by obtain ⟨_,_,rfl⟩:=rn hl;rfl) (fun vs H Q E h=>?_) (fun f Gz A outer s H vs Q E hr h=>?_)
 ·obtain ⟨a,x,n,W,s,rfl,_⟩:=h
  rfl
 ·obtain ⟨a,x,n,W,s,rfl,hW,hx,ok,k⟩:=h
  have GI:=ba
  refine ⟨_,(FS (FX (2) sc.nd rfl (Or.inl rfl) (Gg (FO (FU aL (pv 1) ai (fun _ _=>rfl)) (FO (FU aL (pv 1) ai (fun _ _=>rfl)) (FO ai ae))))) (FL (FM (FT bB (Ge Gx hr (by decide) rfl (FO (Ge Gy hr (by decide) rfl (FO (pv 0) (FO (pv 2) (FO ai ae)))) ae)) (Ge Gy hr (by decide) rfl (FO (pv 0) (FO (pv 2) (FO ai ae)))))))),?_⟩
  refine ⟨_,rfl,x,_,_,_,rfl,rfl,SqT.of hx,rfl,_,rfl,x,_,_,_,rfl,rfl,SqT.of hx,rfl,(c0 (n:=3) (by decide)),fun p hp=>?_⟩
  have s1:aD H (upd H p (.tup [.int s.1,.int s.2,.int 1])):=aD.new hp
  have f1:(upd H p (.tup [.int s.1,.int s.2,.int 1])) p=some (.tup [.int s.1,.int s.2,.int 1]):=ag
  generalize upd H p (.tup [.int s.1,.int s.2,.int 1])=H1 at s1 f1 ⊢
  refine ⟨_,rfl,_,rfl,a,p,n,W,s,1,0,rfl,hW.same s1,f1,ok.1,ok.2.1,.inl rfl,fun H2 s2=>⟨[fZ W s 1 0],rfl,(by show 1≤_;decide),fun H3 s3=>?_⟩⟩
  have s13:=(s1.trans s2).trans s3
  refine ⟨_,rfl,_,rfl,a,p,n,W,s,1,1,rfl,hW.same s13,s3 _ _ (s2 _ _ f1),ok.1,ok.2.1,.inl rfl,fun H4 s4=>⟨_,_,rfl,rfl,(by rw [af,af,bu];show 1+1≤_;omega),?_⟩⟩
  rw [eP,cR]
  exact k _ (s13.trans s4)
abbrev va:Stmt:=top 19
theorem xI:aE ["ways","one","other","many"] ["ways","one","other"] (ak va):=⟨rfl,rfl,rfl,by decide +kernel,rfl,by decide +kernel,by decide +kernel⟩
theorem zB (D:Df K mg "stretch" va)(T:Bt K w mg aB)(Gy:Fnc P w K mg base "met" ["ways","walk","step"] 2 i3):Fnc P w K mg base "stretch" ["ways","one","other"] 3 kT:=by
 have sc:=xI
 refine D.ok sc (fun _ _ _ _ _ _ us hl=>by obtain ⟨_,_,_,rfl⟩:=tw hl;rfl) (fun vs H Q E h=>?_) (fun f Gz A outer s H vs Q E hr h=>?_)
 ·obtain ⟨a,x,y,n,W,s,t,wy,rfl,_⟩:=h
  rfl
 ·obtain ⟨a,x,y,n,W,s,t,wy,rfl,hW,hx,hy,os,ot,hwy,k⟩:=h
  have GI:=ba
  obtain ⟨_,_,Rw,lw30,lwp,_⟩:=hW.ok.get os.1 os.2.1
  obtain ⟨_,_,Rv,lv30,lvp,_⟩:=hW.ok.get ot.1 ot.2.1
  refine ⟨_,(FS (FV (FW d9 (Ge Gy hr (by decide) rfl (FO (pv 0) (FO (pv 1) (FO (Gb bQ ai) ae)))) (Ge Gy hr (by decide) rfl (FO (pv 0) (FO (pv 2) (FO (Gb bQ ai) ae)))) (a8 _)) (FL (FM ai)) bo) (FS (FX (3) sc.nd rfl (Or.inl rfl) ai) (FS (@j9 _ _ _ _ _ _ B3 (FW d9 (Ge Gy hr (by decide) rfl (FO (pv 0) (FO (pv 1) (FO (pv 3) ae)))) (Ge Gy hr (by decide) rfl (FO (pv 0) (FO (pv 2) (FO (pv 3) ae)))) (a8 _)) (FL (@rR _ _ (3) _ _ _ _ _ _ sc.nd rfl (Or.inl rfl) ai rS (by first | exact .inl rfl | exact .inr rfl | assumption)))) (FL (FM (pv 3)))))),?_⟩
  refine ⟨_,rfl,_,rfl,_,rfl,a,x,n,W,s,1,-1,rfl,hW,hx,os.1,os.2.1,.inl rfl,fun H1 s1=>?_⟩
  refine ⟨_,rfl,_,rfl,_,rfl,a,y,n,W,t,wy,-1,rfl,hW.same s1,s1 _ _ hy,ot.1,ot.2.1,hwy,fun H2 s2=>⟨rfl,_,rfl,?_⟩⟩
  have s12:=s1.trans s2
  rw [sf]
  by_cases e:fZ W s 1 (-1)=fZ W t wy (-1)
  ·rw [Bg (by rw [e])]
   refine w_ ?_
   have:=k _ s12
   rw [if_pos e] at this
   exact this
  ·rw [AZ (fun z=>e (CO z).1)]
   refine oX ?_
   rw [if_neg e] at k
   obtain ⟨hend,hne⟩:=sN Rw.ne Rv.ne hwy e
   obtain ⟨_,_,hal,_⟩:=c4 (fZ W s 1) (fZ W t wy) ((wyZ W s.1).length+(wyZ W t.1).length) 0
   have hne:fZ W s 1 (nZ W s t wy)≠fZ W t wy (nZ W s t wy):=hne
   have hal:∀ j:Nat,0≤j→j < nZ W s t wy→fZ W s 1 j=fZ W t wy j:=hal
   refine ⟨fun m σ H'=>∃ i:Nat,σ = [some (.ref a),some (.ref x),some (.ref y),some (.int (i:Int))]∧i≤nZ W s t wy∧m=nZ W s t wy - i∧aD H H',⟨_,0,rfl,BO _,rfl,s12⟩,?_⟩
   rintro m σ H3 ⟨i,rfl,hi,rfl,s3⟩
   refine ⟨_,rfl,_,rfl,_,rfl,a,x,n,W,s,1,(i:Int),rfl,hW.same s3,s3 _ _ hx,os.1,os.2.1,.inl rfl,fun H4 s4=>?_⟩
   refine ⟨_,rfl,_,rfl,_,rfl,a,y,n,W,t,wy,(i:Int),rfl,hW.same (s3.trans s4),(s3.trans s4) _ _ hy,ot.1,ot.2.1,hwy,fun H5 s5=>⟨rfl,_,rfl,?_⟩⟩
   have s35:=(s3.trans s4).trans s5
   rw [sf]
   by_cases c:i < nZ W s t wy
   ·refine kj (fun _=>?_) (fun z=>?_)
    ·refine ⟨_,fun σ' H' q=>q,?_⟩
     refine ⟨_,rfl,_,_,rfl,rfl,?_⟩
     exact ⟨_,Nat.sub_lt_sub_left c (CM i),i+1,(by rw [show (((i+1:Nat):Int))=(i:Int)+1 by omega];rfl),c,rfl,s35⟩
    ·rw [hal i (BO _) c] at z
     simp at z
   ·obtain rfl:i=nZ W s t wy:=by omega
    refine kj (fun z=>?_) (fun _=>?_)
    ·exact absurd (by simpa using z) hne
    ·exact ⟨_,rfl,k _ s35⟩
abbrev pL:Stmt:=top 20
theorem vb:aE ["surface","ways","one","other","many","end","ahead","begin"] ["surface","ways","one","other","many"] (ak pL):=⟨rfl,rfl,rfl,by decide +kernel,rfl,by decide +kernel,by decide +kernel⟩
theorem xJ (D:Df K mg "is_parted" pL)(T:Bt K w mg aB)(Gx:Fnc P w K mg base "back" ["word"] 1 lO)(Gy:Fnc P w K mg base "met" ["ways","walk","step"] 2 i3)(F_fst:Fnc P w K mg base "is_first" ["surface","start","end","other"] 2 uI):Fnc P w K mg base "is_parted" ["surface","ways","one","other","many"] 3 kU:=by
 have sc:=vb
 refine D.ok sc (fun _ _ _ _ _ _ us hl=>by obtain ⟨_,_,_,_,_,rfl⟩:=AO hl;rfl) (fun vs H Q E h=>?_) (fun f Gz A outer s H vs Q E hr h=>?_)
 ·obtain ⟨u,a,x,y,n,m,W,s,t,wy,rfl,_⟩:=h
  rfl
 ·obtain ⟨u,a,x,y,n,m,W,s,t,wy,rfl,U,hW,hx,hy,os,ot,hwy,k⟩:=h
  have one:1≤100000:=by decide
  refine ⟨_,(FS (FV (FW d9 (pv 4) ai (a8 _)) (FL (FM ix)) bo) (FS (FX (5) sc.nd rfl (Or.inl rfl) (Ge Gx hr (by decide) rfl (FO (Ge Gy hr (by decide) rfl (FO (pv 1) (FO (pv 2) (FO (FT fQ (pv 4) ai) ae)))) ae))) (FS (FX (6) sc.nd rfl (Or.inl rfl) (Ge F_fst hr (by decide) rfl (FO (pv 0) (FO (pv 5) (FO (Ge Gy hr (by decide) rfl (FO (pv 1) (FO (pv 2) (FO (pv 4) ae)))) (FO (Ge Gy hr (by decide) rfl (FO (pv 1) (FO (pv 3) (FO (pv 4) ae)))) ae)))))) (FS (FX (7) sc.nd rfl (Or.inl rfl) (Ge Gy hr (by decide) rfl (FO (pv 1) (FO (pv 2) (FO ai ae))))) (FL (FM (Gf d9 (pv 6) (Ge F_fst hr (by decide) rfl (FO (pv 0) (FO (pv 7) (FO (Ge Gx hr (by decide) rfl (FO (Ge Gy hr (by decide) rfl (FO (pv 1) (FO (pv 2) (FO (Gb bQ ai) ae)))) ae)) (FO (Ge Gx hr (by decide) rfl (FO (Ge Gy hr (by decide) rfl (FO (pv 1) (FO (pv 3) (FO (Gb bQ ai) ae)))) ae)) ae))))) (a8 _)))))))),?_⟩
  refine ⟨_,rfl,rfl,_,rfl,?_⟩
  by_cases e:m=0
  ·subst e
   exact w_ (k _ (aD.refl _))
  ·have ez:decide (V.int (m:Int)=V.int 0)=false:=AZ (fun z=>e (by injection z with z;omega))
   rw [ez]
   refine oX ?_
   have ws:=fun {H'} (q:aD H H')=>hW.same q
   refine ⟨_,rfl,_,rfl,_,rfl,_,_,rfl,rfl,a,x,n,W,s,1,_,rfl,hW,hx,os.1,os.2.1,.inl rfl,fun H1 s1=>?_⟩
   refine ⟨[fZ W s 1 ((m:Int) - 1)],rfl,(by show 1≤_;decide),fun H2 s2=>?_⟩
   rw [cR]
   have q2:=s1.trans s2
   refine ⟨_,rfl,_,rfl,_,rfl,_,rfl,_,rfl,a,x,n,W,s,1,_,rfl,ws q2,q2 _ _ hx,os.1,os.2.1,.inl rfl,fun H3 s3=>?_⟩
   have q3:=q2.trans s3
   refine ⟨_,rfl,_,rfl,_,rfl,a,y,n,W,t,wy,_,rfl,ws q3,q3 _ _ hy,ot.1,ot.2.1,hwy,fun H4 s4=>?_⟩
   have q4:=q3.trans s4
   refine ⟨u,n,_,_,_,rfl,U,(fP U hW.ok os 1 _).2,(fP U hW.ok os 1 _).1,(fP U hW.ok ot wy _).1,fun H5 s5=>?_⟩
   have q5:=q4.trans s5
   refine ⟨_,rfl,_,rfl,a,x,n,W,s,1,_,rfl,ws q5,q5 _ _ hx,os.1,os.2.1,.inl rfl,fun H6 s6=>?_⟩
   have q6:=q5.trans s6
   refine ⟨_,rfl,_,rfl,_,rfl,_,rfl,_,rfl,_,rfl,a,x,n,W,s,1,_,rfl,ws q6,q6 _ _ hx,os.1,os.2.1,.inl rfl,fun H7 s7=>?_⟩
   refine ⟨[fZ W s 1 (-1)],rfl,(by show 1≤_;decide),fun H8 s8=>?_⟩
   rw [cR]
   have q8:=(q6.trans s7).trans s8
   refine ⟨_,rfl,_,rfl,_,rfl,a,y,n,W,t,wy,_,rfl,ws q8,q8 _ _ hy,ot.1,ot.2.1,hwy,fun H9 s9=>?_⟩
   refine ⟨[fZ W t wy (-1)],rfl,(by show 1≤_;decide),fun H10 s10=>?_⟩
   rw [cR]
   have q10:=(q8.trans s9).trans s10
   refine ⟨u,n,_,_,_,rfl,U,(fP U hW.ok os 1 _).1,(fP U hW.ok os 1 _).2,(fP U hW.ok ot wy _).2,fun H11 s11=>?_⟩
   have:=k _ (q10.trans s11)
   unfold i4 at this
   rw [Bg (show 0 < m by omega),Ck] at this
   refine ⟨rfl,?_⟩
   refine cast (Br (fun b=>Q (.bl b) H11) ?_) this
   exact zf _ _
abbrev vc:Stmt:=top 17
theorem xK:aE ["surface","ways","one","other","mine","theirs","many"] ["surface","ways","one","other"] (ak vc):=⟨rfl,rfl,rfl,by decide +kernel,rfl,by decide +kernel,by decide +kernel⟩
def _root_.Gh {a b c d e}:=@p5 a b c d e
theorem zC (D:Df K mg "along_at" vc)(T:Bt K w mg aB)(G2:Fnc P w K mg base "stretch" ["ways","one","other"] 3 kT)(GL:Fnc P w K mg base "is_parted" ["surface","ways","one","other","many"] 3 kU):Fnc P w K mg base "along_at" ["surface","ways","one","other"] 4 (q9 uJ):=by
 have sc:=xK
 refine D.ok sc (fun _ _ _ _ _ _ us hl=>by obtain ⟨_,_,_,_,rfl⟩:=u3 hl;rfl) (fun vs H Q E h=>?_) (fun f Gz A outer s H vs Q E hr h=>?_)
 ·obtain ⟨u,a,x,y,n,W,s,t,rfl,_⟩:=h
  rfl
 ·obtain ⟨u,a,x,y,n,W,s,t,rfl,U,hW,hx,hy,os,ot,k⟩:=h
  refine ⟨_,(FS (FX (4) sc.nd rfl (Or.inl rfl) (Gg (FO (FU aL (pv 2) ai (fun _ _=>rfl)) (FO (FU aL (pv 2) ai (fun _ _=>rfl)) (FO ai ae))))) (FS (FX (5) sc.nd rfl (Or.inl rfl) (Gg (FO (FU aL (pv 3) ai (fun _ _=>rfl)) (FO (FU aL (pv 3) ai (fun _ _=>rfl)) (FO ai ae))))) (FS (FX (6) sc.nd rfl (Or.inl rfl) (Ge G2 hr (by decide) rfl (FO (pv 1) (FO (pv 4) (FO (pv 5) ae))))) (FL (FM (Gc (@c9 _ _ _ (Ge GL hr (by decide) rfl (Gh (pv 0) (Gh (pv 1) (Gh (pv 4) (Gh (pv 5) (Gh (pv 6) ae)))))) (fun _=>rfl)) (FN (FO (Gg (FO bP (FO (pv 2) (FO (pv 3) (FO (pv 6) ae))))) ae)) (FN ae))))))),?_⟩
  refine ⟨_,rfl,x,_,_,_,rfl,rfl,SqT.of hx,rfl,_,rfl,x,_,_,_,rfl,rfl,SqT.of hx,rfl,(by show 3≤_;decide),fun p hp=>?_⟩
  have s1:aD H (upd H p (.tup [.int s.1,.int s.2,.int 1])):=aD.new hp
  have f1:(upd H p (.tup [.int s.1,.int s.2,.int 1])) p=some (.tup [.int s.1,.int s.2,.int 1]):=ag
  generalize upd H p (.tup [.int s.1,.int s.2,.int 1])=H1 at s1 f1 ⊢
  refine ⟨_,rfl,y,_,_,_,rfl,rfl,SqT.of (s1 _ _ hy),rfl,_,rfl,y,_,_,_,rfl,rfl,SqT.of (s1 _ _ hy),rfl,(by show 3≤_;decide),fun q hq=>?_⟩
  have s2:aD H1 (upd H1 q (.tup [.int t.1,.int t.2,.int 1])):=aD.new hq
  have f2:(upd H1 q (.tup [.int t.1,.int t.2,.int 1])) q=some (.tup [.int t.1,.int t.2,.int 1]):=ag
  generalize upd H1 q (.tup [.int t.1,.int t.2,.int 1])=H2 at s2 f2 ⊢
  have q2:=s1.trans s2
  refine ⟨_,rfl,_,rfl,_,rfl,a,p,q,n,W,s,t,1,rfl,hW.same q2,s2 _ _ f1,f2,os,ot,.inl rfl,fun H3 s3=>?_⟩
  have q3:=q2.trans s3
  refine ⟨_,rfl,_,rfl,_,rfl,_,rfl,_,rfl,u,a,p,q,n,_,W,s,t,1,rfl,U,hW.same q3,s3 _ _ (s2 _ _ f1),s3 _ _ f2,os,ot,.inl rfl,fun H4 s4=>⟨_,rfl,?_⟩⟩
  rw [kW hW.ok os ot (.inl rfl)]
  have q4:=q3.trans s4
  by_cases c:ptB u (fZ W s 1) (fZ W t 1) (nZ W s t 1)=true
  ·have hb:¬ fZ W s 1 (-1)=fZ W t 1 (-1):=fun z=>by rw [e9 z] at c;cases c
   rw [c,if_neg hb]
   refine y9 ⟨_,rfl,_,rfl,_,rfl,(by show 4≤_;decide),fun r hr'=>⟨(by show 1≤_;decide),fun l hl=>?_⟩⟩
   refine jN (m:=.a s t (nZ W s t 1)) q4 hr' hl ⟨x,y,ag,(q4.trans (aD.new hr')) _ _ hx,(q4.trans (aD.new hr')) _ _ hy⟩ k ?_
   unfold uJ
   rw [c]
   rfl
  ·rw [C8] at c
   rw [c]
   refine y_ ⟨(by show 0≤_;decide),fun l hl=>?_⟩
   refine i5 q4 hl k ?_
   unfold uJ
   rw [c]
   rfl
abbrev vd:Stmt:=top 18
theorem xM:aE ["surface","ways","one","other","mine","theirs","many"] ["surface","ways","one","other"] (ak vd):=⟨rfl,rfl,rfl,by decide +kernel,rfl,by decide +kernel,by decide +kernel⟩
theorem zE (D:Df K mg "against_at" vd)(T:Bt K w mg aB)(G2:Fnc P w K mg base "stretch" ["ways","one","other"] 3 kT)(GL:Fnc P w K mg base "is_parted" ["surface","ways","one","other","many"] 3 kU):Fnc P w K mg base "against_at" ["surface","ways","one","other"] 4 (q9 kP):=by
 have sc:=xM
 refine D.ok sc (fun _ _ _ _ _ _ us hl=>by obtain ⟨_,_,_,_,rfl⟩:=u3 hl;rfl) (fun vs H Q E h=>?_) (fun f Gz A outer s H vs Q E hr h=>?_)
 ·obtain ⟨u,a,x,y,n,W,s,t,rfl,_⟩:=h
  rfl
 ·obtain ⟨u,a,x,y,n,W,s,t,rfl,U,hW,hx,hy,os,ot,k⟩:=h
  have GI:=ba
  obtain ⟨_,hat,_,l30,lp,_⟩:=hW.ok.get ot.1 ot.2.1
  refine ⟨_,(FS (FX (4) sc.nd rfl (Or.inl rfl) (Gg (FO (FU aL (pv 2) ai (fun _ _=>rfl)) (FO (FU aL (pv 2) ai (fun _ _=>rfl)) (FO ai ae))))) (FS (FX (5) sc.nd rfl (Or.inl rfl) (Gg (FO (FU aL (pv 3) ai (fun _ _=>rfl)) (FO (FU aL (pv 3) ai (fun _ _=>rfl)) (FO (Gb bQ ai) ae))))) (FS (FX (6) sc.nd rfl (Or.inl rfl) (Ge G2 hr (by decide) rfl (FO (pv 1) (FO (pv 4) (FO (pv 5) ae))))) (FS (FV (FW (@w9 _ (K) rfl (by exact hr.units)) (pv 2) (Gg (FO (FU aL (pv 3) ai (fun _ _=>rfl)) (FO (FT dM (FT cF (FT fQ (FU aL (pv 3) ai (fun _ _=>rfl)) (pv 6)) ai) (FY aC (by rfl) T.len Bq (FO (FU aL (pv 1) (FU aL (pv 3) ai (fun _ _=>rfl)) (fun _ _=>rfl)) ae))) ae))) (a8 _)) (FL (FM (FN ae))) bo) (FL (FM (Gc (@c9 _ _ _ (Ge GL hr (by decide) rfl (Gh (pv 0) (Gh (pv 1) (Gh (pv 4) (Gh (pv 5) (Gh (pv 6) ae)))))) (fun _=>rfl)) (FN (FO (Gg (FO bP (FO (pv 2) (FO (pv 3) (FO (pv 6) ae))))) ae)) (FN ae)))))))),?_⟩
  refine ⟨_,rfl,x,_,_,_,rfl,rfl,SqT.of hx,rfl,_,rfl,x,_,_,_,rfl,rfl,SqT.of hx,rfl,(by show 3≤_;decide),fun p hp=>?_⟩
  have s1:aD H (upd H p (.tup [.int s.1,.int s.2,.int 1])):=aD.new hp
  have f1:(upd H p (.tup [.int s.1,.int s.2,.int 1])) p=some (.tup [.int s.1,.int s.2,.int 1]):=ag
  generalize upd H p (.tup [.int s.1,.int s.2,.int 1])=H1 at s1 f1 ⊢
  refine ⟨_,rfl,y,_,_,_,rfl,rfl,SqT.of (s1 _ _ hy),rfl,_,rfl,y,_,_,_,rfl,rfl,SqT.of (s1 _ _ hy),rfl,_,rfl,(by show 3≤_;decide),fun q hq=>?_⟩
  have s2:aD H1 (upd H1 q (.tup [.int t.1,.int t.2,.int (-1)])):=aD.new hq
  have f2:(upd H1 q (.tup [.int t.1,.int t.2,.int (-1)])) q=some (.tup [.int t.1,.int t.2,.int (-1)]):=ag
  generalize upd H1 q (.tup [.int t.1,.int t.2,.int (-1)])=H2 at s2 f2 ⊢
  have q2:=s1.trans s2
  refine ⟨_,rfl,_,rfl,_,rfl,a,p,q,n,W,s,t,-1,rfl,hW.same q2,s2 _ _ f1,f2,os,ot,.inr rfl,fun H3 s3=>?_⟩
  have q3:=q2.trans s3
  have hy3:=q3 _ _ hy
  generalize hm:(if fZ W s 1 (-1)=fZ W t (-1) (-1) then 0 else nZ W s t (-1))=m
  refine ⟨_,rfl,_,rfl,y,_,_,_,rfl,rfl,SqT.of hy3,rfl,_,rfl,y,_,_,_,rfl,rfl,SqT.of hy3,rfl,_,rfl,_,_,rfl,rfl,_,_,rfl,rfl,_,rfl,_,rfl,y,_,_,_,rfl,rfl,SqT.of hy3,rfl,?_⟩
  refine ⟨a,_,_,_,rfl,rfl,SqT.of (q3 _ _ hW.at_),hat,_,rfl,(by rw [af];omega),_,_,rfl,rfl,(by rw [af];omega),(by show 2≤_;decide),fun r hr'=>?_⟩
  rw [af]
  have s4:aD H3 (upd H3 r (.tup [.int t.1,.int ((t.2 - (m:Int)+1) % ((wyZ W t.1).length:Int))])):=aD.new hr'
  have f4:(upd H3 r (.tup [.int t.1,.int ((t.2 - (m:Int)+1) % ((wyZ W t.1).length:Int))])) r=some (.tup [.int t.1,.int ((t.2 - (m:Int)+1) % ((wyZ W t.1).length:Int))]):=ag
  generalize upd H3 r (.tup [.int t.1,.int ((t.2 - (m:Int)+1) % ((wyZ W t.1).length:Int))])=H4 at s4 f4 ⊢
  have q4:=q3.trans s4
  refine ⟨x,r,[s.1,s.2],[t.1,(t.2 - (m:Int)+1) % ((wyZ W t.1).length:Int)],rfl,rfl,SqT.of (q4 _ _ hx),SqT.of f4,_,rfl,?_⟩
  have he:kP u W s t=if ltP (kO W s t m) s then [] else if i4 u (fZ W s 1) (fZ W t (-1)) m then [Lk.g s t m] else []:=by
   rw [← hm]
   by_cases e:fZ W s 1 (-1)=fZ W t (-1) (-1)
   ·rw [if_pos e,sO]
    unfold kP
    rw [e9 e,EG,if_neg (by decide)]
    split <;> rfl
   ·rw [← qZ hW.ok os ot e,kW hW.ok os ot (.inr rfl),if_neg e]
  show ck _ _ _ _ (ltP (kO W s t m) s) _
  by_cases c:ltP (kO W s t m) s=true
  ·rw [c]
   rw [c] at he
   exact w_ ⟨(by show 0≤_;decide),fun l hl=>i5 q4 hl k he⟩
  ·rw [C8] at c
   rw [c]
   rw [c] at he
   refine oX ?_
   refine ⟨_,rfl,_,rfl,_,rfl,_,rfl,_,rfl,u,a,p,q,n,_,W,s,t,-1,rfl,U,hW.same q4,s4 _ _ (s3 _ _ (s2 _ _ f1)),s4 _ _ (s3 _ _ f2),os,ot,.inr rfl,fun H5 s5=>⟨_,rfl,?_⟩⟩
   have q5:=q4.trans s5
   by_cases c2:i4 u (fZ W s 1) (fZ W t (-1)) m=true
   ·rw [c2]
    rw [c2] at he
    refine y9 ⟨_,rfl,_,rfl,_,rfl,(by show 4≤_;decide),fun r hr'=>⟨(by show 1≤_;decide),fun l hl=>?_⟩⟩
    exact jN (m:=.g s t m) q5 hr' hl ⟨x,y,ag,(q5.trans (aD.new hr')) _ _ hx,(q5.trans (aD.new hr')) _ _ hy⟩ k he
   ·rw [C8] at c2
    rw [c2]
    rw [c2] at he
    exact y_ ⟨(by show 0≤_;decide),fun l hl=>i5 q5 hl k he⟩
theorem tB {u:List L}{a b c:L}(ha:a∈u)(hb:b∈u)(hc:c∈u)(ab:a≠b)(ac:a≠c)(bc:b≠c):decide (rfI u a c < rfI u a b)=(decide (min (u.idxOf a) (u.idxOf b) < u.idxOf c∧u.idxOf c < max (u.idxOf a) (u.idxOf b)) != decide (u.idxOf b < u.idxOf a)):=by
 have inj:∀ {x y:L},x∈u→y∈u→x≠y→u.idxOf x≠u.idxOf y:=fun hx hy n e=>n (by
  have h1:=DM (aX hx)
  have h2:=DM (aX hy)
  rw [← h1,← h2]
  simp only [e])
 have n1:=inj ha hb ab
 have n2:=inj ha hc ac
 have n3:=inj hb hc bc
 have l1:=aX ha
 have l2:=aX hb
 have l3:=aX hc
 rw [aQ ha hc,aQ ha hb]
 by_cases o:u.idxOf b < u.idxOf a
 ·rw [Bg o,if_neg (show ¬ u.idxOf a≤u.idxOf b by omega),BC,Bb]
  rw [show ∀ x:Bool,(x != true)=!x by decide,Bool.not_eq_true',DQ]
  split <;> omega
 ·rw [AZ o,if_pos (show u.idxOf a≤u.idxOf b by omega),FA,BC,Bb,Bb]
  split <;> omega
theorem rz {u:List L}{a b c d:L}(ha:a∈u)(hb:b∈u)(hc:c∈u)(hd:d∈u)(h:[a,b,c,d].Nodup):cj u a b c d=(decide (min (u.idxOf a) (u.idxOf b) < u.idxOf c∧u.idxOf c < max (u.idxOf a) (u.idxOf b)) != decide (min (u.idxOf a) (u.idxOf b) < u.idxOf d∧u.idxOf d < max (u.idxOf a) (u.idxOf b))):=by
 unfold cj
 rw [Bg h,Ck]
 simp only [BM,Bm,BA,CD,EZ,CG,FE,not_or] at h
 obtain ⟨⟨e1,e2,e3⟩,⟨e4,e5⟩,e6⟩:=h
 rw [tB ha hb hc e1 e2 e4,tB ha hb hd e1 e3 e5]
 generalize decide (u.idxOf b < u.idxOf a)=z
 exact (show ∀ x y z:Bool,((x != z) != (y != z))=(x != y) by decide) _ _ _
inductive ve (vs:List V)(H:Hp)(Q:VK)(GD:XK):Prop
 | mk:∀ (p q:Addr) (a b c d:Nat),(vs=[.ref p,.ref q])→H p=some (.lst [.int a,.int b])→H q=some (.lst [.int c,.int d])→Q (.bl (decide (min a b < c∧c < max a b) != decide (min a b < d∧d < max a b))) H→ve vs H Q GD
abbrev vf:Stmt:=top 11
theorem xN:aE ["one","other","low","high"] ["one","other"] (ak vf):=⟨rfl,rfl,rfl,by decide +kernel,rfl,by decide +kernel,by decide +kernel⟩
def _root_.Gi {a b c d e f g h i j k l}:=@eU a b c d e f g h i j k l
theorem zF (D:Df K mg "are_met_by_turns" vf)(T:Bt K w mg aB):Fnc P w K mg base "are_met_by_turns" ["one","other"] 1 (fun vs H Q E=>xB vs H Q E ∨ ve vs H Q E):=by
 have sc:=xN
 refine D.ok sc (fun _ _ _ _ _ _ us hl=>by obtain ⟨_,_,rfl⟩:=rn hl;rfl) (fun vs H Q E h=>?_) (fun f Gz A outer s H vs Q E hr h=>?_)
 ·rcases h with h | h
  ·obtain ⟨p,q,a,b,c,d,rfl,_⟩:=h
   rfl
  ·obtain ⟨p,q,a,b,c,d,rfl,_⟩:=h
   rfl
 rcases h with h | h
 ·obtain ⟨p,q,a,b,c,d,rfl,hp,hq,k⟩:=h
  have GI:=ba
  refine ⟨_,(FS (FX (2) sc.nd rfl (Or.inl rfl) (FY (@jq _ rfl) (by rfl) T.min wB (FO (pv 0) ae))) (FS (FX (3) sc.nd rfl (Or.inl rfl) (FY (@jr _ rfl) (by rfl) T.max wA (FO (pv 0) ae))) (FL (FM (Gf lF (Gi eR eR (pv 2) (FU aL (pv 1) ai (fun _ _=>rfl)) (pv 3)) (Gi eR eR (pv 2) (FU aL (pv 1) ai (fun _ _=>rfl)) (pv 3)) (a8 _)))))),?_⟩
  refine ⟨_,rfl,p,_,_,rfl,SqT.of hp,?_⟩
  refine ⟨_,rfl,p,_,_,rfl,SqT.of hp,?_⟩
  have e1:(if (b:Int) < (a:Int) then (b:Int) else (a:Int))=((min a b:Nat):Int):=by split <;> omega
  have e2:(if (b:Int) > (a:Int) then (b:Int) else (a:Int))=((max a b:Nat):Int):=by split <;> omega
  rw [e1,e2]
  have fin:∀ v1 v2:Bool,v1=decide (min a b < c∧c < max a b)→v2=decide (min a b < d∧d < max a b)→Q (.bl (!decide (V.bl v1=V.bl v2))) H:=fun v1 v2 e1 e2=>by
   subst e1 e2
   have e:∀ x y:Bool,(!decide (V.bl x=V.bl y))=(x != y):=by intro x y;cases x <;> cases y <;> rfl
   rw [e]
   exact k
  refine ⟨_,rfl,_,rfl,q,_,_,_,rfl,rfl,SqT.of hq,rfl,_,_,rfl,rfl,_,rfl,?_⟩
  by_cases h1:min a b < c
  ·refine kq (Bg (by omega)) ⟨_,rfl,_,_,rfl,rfl,?_⟩
   refine ⟨_,rfl,_,rfl,q,_,_,_,rfl,rfl,SqT.of hq,rfl,_,_,rfl,rfl,_,rfl,?_⟩
   by_cases h2:min a b < d
   ·exact kq (Bg (by omega)) ⟨_,rfl,_,_,rfl,rfl,rfl,fin _ _ (by rw [BC,Bb,Bb];omega) (by rw [BC,Bb,Bb];omega)⟩
   ·exact kr (AZ (by omega)) ⟨rfl,fin _ _ (by rw [BC,Bb,Bb];omega) (AZ (by omega)).symm⟩
  ·refine kr (AZ (by omega)) ?_
   refine ⟨_,rfl,_,rfl,q,_,_,_,rfl,rfl,SqT.of hq,rfl,_,_,rfl,rfl,_,rfl,?_⟩
   by_cases h2:min a b < d
   ·exact kq (Bg (by omega)) ⟨_,rfl,_,_,rfl,rfl,rfl,fin _ _ (AZ (by omega)).symm (by rw [BC,Bb,Bb];omega)⟩
   ·exact kr (AZ (by omega)) ⟨rfl,fin _ _ (AZ (by omega)).symm (AZ (by omega)).symm⟩
 ·obtain ⟨p,q,a,b,c,d,rfl,hp,hq,k⟩:=h
  have GI:=ba
  refine ⟨_,(FS (FX (2) sc.nd rfl (Or.inl rfl) (FY (@jF _ rfl) (by rfl) T.min wB (FO (pv 0) ae))) (FS (FX (3) sc.nd rfl (Or.inl rfl) (FY (@jG _ rfl) (by rfl) T.max wA (FO (pv 0) ae))) (FL (FM (Gf lF (Gi eR eR (pv 2) (FU bg (pv 1) ai (fun _ _=>rfl)) (pv 3)) (Gi eR eR (pv 2) (FU bg (pv 1) ai (fun _ _=>rfl)) (pv 3)) (a8 _)))))),?_⟩
  refine ⟨_,rfl,p,_,_,rfl,SqL.of hp,?_⟩
  refine ⟨_,rfl,p,_,_,rfl,SqL.of hp,?_⟩
  have e1:(if (b:Int) < (a:Int) then (b:Int) else (a:Int))=((min a b:Nat):Int):=by split <;> omega
  have e2:(if (b:Int) > (a:Int) then (b:Int) else (a:Int))=((max a b:Nat):Int):=by split <;> omega
  rw [e1,e2]
  have fin:∀ v1 v2:Bool,v1=decide (min a b < c∧c < max a b)→v2=decide (min a b < d∧d < max a b)→Q (.bl (!decide (V.bl v1=V.bl v2))) H:=fun v1 v2 e1 e2=>by
   subst e1 e2
   have e:∀ x y:Bool,(!decide (V.bl x=V.bl y))=(x != y):=by intro x y;cases x <;> cases y <;> rfl
   rw [e]
   exact k
  refine ⟨_,rfl,_,rfl,q,_,_,_,rfl,rfl,SqL.of hq,rfl,_,_,rfl,rfl,_,rfl,?_⟩
  by_cases h1:min a b < c
  ·refine kq (Bg (by omega)) ⟨_,rfl,_,_,rfl,rfl,?_⟩
   refine ⟨_,rfl,_,rfl,q,_,_,_,rfl,rfl,SqL.of hq,rfl,_,_,rfl,rfl,_,rfl,?_⟩
   by_cases h2:min a b < d
   ·exact kq (Bg (by omega)) ⟨_,rfl,_,_,rfl,rfl,rfl,fin _ _ (by rw [BC,Bb,Bb];omega) (by rw [BC,Bb,Bb];omega)⟩
   ·exact kr (AZ (by omega)) ⟨rfl,fin _ _ (by rw [BC,Bb,Bb];omega) (AZ (by omega)).symm⟩
  ·refine kr (AZ (by omega)) ?_
   refine ⟨_,rfl,_,rfl,q,_,_,_,rfl,rfl,SqL.of hq,rfl,_,_,rfl,rfl,_,rfl,?_⟩
   by_cases h2:min a b < d
   ·exact kq (Bg (by omega)) ⟨_,rfl,_,_,rfl,rfl,rfl,fin _ _ (AZ (by omega)).symm (by rw [BC,Bb,Bb];omega)⟩
   ·exact kr (AZ (by omega)) ⟨rfl,fin _ _ (AZ (by omega)).symm (AZ (by omega)).symm⟩
abbrev vg:Stmt:=top 15
theorem xO:aE ["surface","ways","one","other","mine","theirs","places"] ["surface","ways","one","other"] (ak vg):=⟨rfl,rfl,rfl,by decide +kernel,rfl,by decide +kernel,by decide +kernel⟩
theorem zG (D:Df K mg "beside_at" vg)(T:Bt K w mg aB)(Tset:mg "set" = none)(F_ce:Fnc P w K mg base "chord_ends" ["ways","strand"] 3 ze)(G3:Fnc P w K mg base "are_met_by_turns" ["one","other"] 1 ve):Fnc P w K mg base "beside_at" ["surface","ways","one","other"] 4 (q9 xg):=by
 have sc:=xO
 refine D.ok sc (fun _ _ _ _ _ _ us hl=>by obtain ⟨_,_,_,_,rfl⟩:=u3 hl;rfl) (fun vs H Q E h=>?_) (fun f Gz A outer s H vs Q E hr h=>?_)
 ·obtain ⟨u,a,x,y,n,W,s,t,rfl,_⟩:=h
  rfl
 ·obtain ⟨u,a,x,y,n,W,s,t,rfl,U,hW,hx,hy,os,ot,k⟩:=h
  have GI:=ba
  have m1:=(fP U hW.ok os 1 0).2
  have m2:=(fP U hW.ok os 1 1).1
  have m3:=(fP U hW.ok ot 1 0).2
  have m4:=(fP U hW.ok ot 1 1).1
  have k:∀ (l:Addr) (zs:List (Addr × Lk)) (H':Hp),H l=none→aD H H'→H' l=some (.lst ((zs.map (·.1)).map V.ref))→LkA H' zs→zs.map (·.2)=(if cj u (inv (fZ W s 1 0)) (fZ W s 1 1) (inv (fZ W t 1 0)) (fZ W t 1 1) then [.b s t] else [])→Q (.ref l) H':=k
  refine ⟨_,(FS (FX (4) sc.nd rfl (Or.inl rfl) (Ge F_ce hr (by decide) rfl (FO (pv 1) (FO (pv 2) ae)))) (FS (FX (5) sc.nd rfl (Or.inl rfl) (Ge F_ce hr (by decide) rfl (FO (pv 1) (FO (pv 3) ae)))) (FS (FV (FW eR (FY jE (by rfl) T.len Bq (FO (FP (@hU _ rfl) (by rfl) Tset y8 (FO (FT bB (pv 4) (pv 5)) ae)) ae)) ai (a8 _)) (FL (FM (FN ae))) bo) (FS (@nR _ (6) _ _ _ _ _ _ _ _ _ (["end","surface"]) (["end"]) ([0]) _ _ _ _ sc.nd rfl (Or.inl rfl) (F_ rfl (by kernel_rfl)) rfl (@fV _ _ _ _ (FT bB (pv 4) (pv 5))) (fun _ _ _ _=>Ga (0) (show (["end","surface"]:List Str).Nodup from by decide +kernel) rfl (Or.inl rfl)) (fun _ _ _ _=>bG) (fun _ _ _ _=>by (exact (@nO _ _ _ _ _ _ _ _ _ _ _ _ (K) rfl Bs CJ CK dR (pv 1) (FO (pv 0) ae) (by rfl) (by rfl) (by rfl) (by rfl) (by rfl)))) (by intro _ ;rfl) (by rfl) (by first | exact .inl rfl | exact .inr rfl | assumption)) (FL (FM (Gc (@c9 _ _ _ (Ge G3 hr (by decide) rfl (FO (FQ gz (pv 6) bb (FR ai)) (FO (FQ gz (pv 6) (FR ai) bb) ae))) (fun _=>rfl)) (FN (FO (Gg (FO bP (FO (pv 2) (FO (pv 3) ae)))) ae)) (FN ae)))))))),?_⟩
  refine ⟨_,rfl,_,rfl,a,x,n,W,s,rfl,hW,hx,os,fun H1 s1=>?_⟩
  refine ⟨_,rfl,_,rfl,a,y,n,W,t,rfl,hW.same s1,s1 _ _ hy,ot,fun H2 s2=>?_⟩
  have q2:=s1.trans s2
  generalize inv (fZ W s 1 0)=e1 at m1 k ⊢
  generalize fZ W s 1 1=e2 at m2 k ⊢
  generalize inv (fZ W t 1 0)=e3 at m3 k ⊢
  generalize fZ W t 1 1=e4 at m4 k ⊢
  refine ⟨_,rfl,_,rfl,_,_,rfl,rfl,(by rw [af,af];show 2+2≤_;omega),?_⟩
  rw [eP]
  refine ⟨[e1,e2,e3,e4],rfl,(by show 4≤4000;decide),fun p dl hp nd hm=>?_⟩
  refine ⟨p,dl,rfl,ag,_,_,rfl,rfl,_,rfl,?_⟩
  rw [AL nd hm]
  generalize hG:upd H2 p (StO _ _ p dl)=H3
  have q3:aD H H3:=hG ▸ q2.trans (aD.new hp)
  by_cases c:[e1,e2,e3,e4].Nodup
  ·rw [Bg c]
   refine oX ?_
   have hall:∀ x∈[e1,e2,e3,e4],x∈u:=fun x hx=>by
    simp only [Bm,BA,CD] at hx
    rcases hx with rfl | rfl | rfl | rfl <;> assumption
   have k4:=rz m1 m2 m3 m4 c
   refine ⟨_,rfl,_,rfl,_,_,rfl,rfl,(by rw [af,af];show 2+2≤_;omega),?_⟩
   rw [eP]
   refine ⟨_,rfl,?_⟩
   refine cw (own:=["end"]) (cap:=[0]) (J:=Its (toS [e1,e2,e3,e4])) 4 (fun i ys σ H'=>∃ v:Option V,σ = [v,some (tx u)]∧ys=(([e1,e2,e3,e4].take i).map fun x=>V.int (u.idxOf x:Nat))∧H'=H3) ⟨none,rfl,rfl,rfl⟩ (fun i ys σ H' hi ⟨v,_,e,_⟩=>?_) (by omega) (fun i ys σ H' hi _=>?_) (fun ys σ H' _=>?_) ?_ ?_
   ·rw [e,AY,Bd];omega
   ·show i < (toS _).cps.size;rw [bt];exact hi
   ·show _=(toS _).cps.size;rw [bt];rfl
   ·rintro i ys σ H4 y H5 N hi ⟨v,rfl,rfl,rfl⟩ ⟨rfl,cc,hcc,rfl⟩ hN
    obtain ⟨z,hz,ez⟩:=cS hcc
    rw [ez]
    obtain ⟨r1,o1⟩:=iR (hall z (BK hz))
    refine ⟨_,rfl,rfl,_,rfl,_,_,_,r1,rfl,rfl,o1,hN _ _ _ ⟨_,rfl,?_,rfl⟩⟩
    rw [cf hz,BU]
    rfl
   ·rintro ys σ H4 l ⟨v,rfl,rfl,rfl⟩ hl
    show mJ _ _ _ _ (upd H4 l (.lst [.int (u.idxOf e1:Nat),.int (u.idxOf e2:Nat),.int (u.idxOf e3:Nat),.int (u.idxOf e4:Nat)]))
    have s4:aD H4 (upd H4 l (.lst [.int (u.idxOf e1:Nat),.int (u.idxOf e2:Nat),.int (u.idxOf e3:Nat),.int (u.idxOf e4:Nat)])):=aD.new hl
    have f4:(upd H4 l (.lst [.int (u.idxOf e1:Nat),.int (u.idxOf e2:Nat),.int (u.idxOf e3:Nat),.int (u.idxOf e4:Nat)])) l=some (.lst [.int (u.idxOf e1:Nat),.int (u.idxOf e2:Nat),.int (u.idxOf e3:Nat),.int (u.idxOf e4:Nat)]):=ag
    generalize upd H4 l (.lst [.int (u.idxOf e1:Nat),.int (u.idxOf e2:Nat),.int (u.idxOf e3:Nat),.int (u.idxOf e4:Nat)])=H5 at s4 f4 ⊢
    refine ⟨_,rfl,_,rfl,l,_,rfl,SqL.of f4,fun p1 hp1=>?_⟩
    have s5:=aD.new (o:=.lst (fk [.int (u.idxOf e1:Nat),.int (u.idxOf e2:Nat),.int (u.idxOf e3:Nat),.int (u.idxOf e4:Nat)] none (some 2))) hp1
    have f5:(upd H5 p1 (.lst (fk [.int (u.idxOf e1:Nat),.int (u.idxOf e2:Nat),.int (u.idxOf e3:Nat),.int (u.idxOf e4:Nat)] none (some 2)))) p1=some (.lst [.int (u.idxOf e1:Nat),.int (u.idxOf e2:Nat)]):=ag
    generalize upd H5 p1 (.lst (fk [.int (u.idxOf e1:Nat),.int (u.idxOf e2:Nat),.int (u.idxOf e3:Nat),.int (u.idxOf e4:Nat)] none (some 2)))=H6 at s5 f5 ⊢
    refine ⟨_,rfl,_,rfl,l,_,rfl,SqL.of (s5 _ _ f4),fun p2 hp2=>?_⟩
    have s6:=aD.new (o:=.lst (fk [.int (u.idxOf e1:Nat),.int (u.idxOf e2:Nat),.int (u.idxOf e3:Nat),.int (u.idxOf e4:Nat)] (some 2) none)) hp2
    have f6:(upd H6 p2 (.lst (fk [.int (u.idxOf e1:Nat),.int (u.idxOf e2:Nat),.int (u.idxOf e3:Nat),.int (u.idxOf e4:Nat)] (some 2) none))) p2=some (.lst [.int (u.idxOf e3:Nat),.int (u.idxOf e4:Nat)]):=ag
    generalize upd H6 p2 (.lst (fk [.int (u.idxOf e1:Nat),.int (u.idxOf e2:Nat),.int (u.idxOf e3:Nat),.int (u.idxOf e4:Nat)] (some 2) none))=H7 at s6 f6 ⊢
    refine ⟨p1,p2,_,_,_,_,rfl,s6 _ _ f5,f6,_,rfl,?_⟩
    rw [← k4]
    have q7:=((q3.trans s4).trans s5).trans s6
    by_cases c2:cj u e1 e2 e3 e4=true
    ·rw [c2]
     rw [c2] at k
     refine y9 ⟨_,rfl,_,rfl,(by show 3≤_;decide),fun r hr'=>⟨(by show 1≤_;decide),fun l hl=>?_⟩⟩
     exact jN (m:=.b s t) q7 hr' hl ⟨x,y,ag,(q7.trans (aD.new hr')) _ _ hx,(q7.trans (aD.new hr')) _ _ hy⟩ k rfl
    ·rw [C8] at c2
     rw [c2]
     rw [c2] at k
     exact y_ ⟨(by show 0≤_;decide),fun l hl=>i5 q7 hl k rfl⟩
  ·rw [AZ c]
   refine w_ ⟨(by show 0≤_;decide),fun l hl=>i5 q3 hl k ?_⟩
   unfold cj
   rw [AZ c]
   rfl
abbrev vh:Stmt:=top 14
theorem xP:aE ["surface","ways","one","other","told"] ["surface","ways","one","other"] (ak vh):=⟨rfl,rfl,rfl,by decide +kernel,rfl,by decide +kernel,by decide +kernel⟩
def _root_.Gj {a b c d}:=@cN a b c d
theorem zH (D:Df K mg "links_at" vh)(T:Bt K w mg aB)(F_agn:Fnc P w K mg base "against_at" ["surface","ways","one","other"] 4 (q9 kP))(F_alg:Fnc P w K mg base "along_at" ["surface","ways","one","other"] 4 (q9 uJ))(F_bes:Fnc P w K mg base "beside_at" ["surface","ways","one","other"] 4 (q9 xg)):Fnc P w K mg base "links_at" ["surface","ways","one","other"] 5 (q9 vK):=by
 have sc:=xP
 refine D.ok sc (fun _ _ _ _ _ _ us hl=>by obtain ⟨_,_,_,_,rfl⟩:=u3 hl;rfl) (fun vs H Q E h=>?_) (fun f Gz A outer s H vs Q E hr h=>?_)
 ·obtain ⟨u,a,x,y,n,W,s,t,rfl,_⟩:=h
  rfl
 ·obtain ⟨u,a,x,y,n,W,s,t,rfl,U,hW,hx,hy,os,ot,k⟩:=h
  have GI:=ba
  refine ⟨_,(FS (FX (4) sc.nd rfl (Or.inl rfl) (Ge F_agn hr (by decide) rfl (FO (pv 0) (FO (pv 1) (FO (pv 2) (FO (pv 3) ae)))))) (FS (FV (FW (uE (K:=K) rfl (by exact lt0 hr.units)) (pv 2) (pv 3) (a8 _)) (FS (Gj (F0 BW C2 C3 dO (pv 4) (FO (Ge F_alg hr (by decide) rfl (FO (pv 0) (FO (pv 1) (FO (pv 2) (FO (pv 3) ae))))) ae))) (FL (Gj (F0 BW C2 C3 dO (pv 4) (FO (Ge F_bes hr (by decide) rfl (FO (pv 0) (FO (pv 1) (FO (pv 2) (FO (pv 3) ae))))) ae))))) bo) (FL (FM (pv 4))))),?_⟩
  refine ⟨_,rfl,_,rfl,_,rfl,_,rfl,u,a,x,y,n,W,s,t,rfl,U,hW,hx,hy,os,ot,fun l1 z1 H1 n1 s1 f1 k1 e1=>?_⟩
  refine ⟨_,rfl,_,rfl,x,y,[s.1,s.2],[t.1,t.2],rfl,rfl,SqT.of (s1 _ _ hx),SqT.of (s1 _ _ hy),_,rfl,?_⟩
  show ck _ _ _ _ (ltP s t) _
  by_cases c:ltP s t=true
  ·rw [c]
   refine w_ ?_
   have len:∀ {zs:List (Addr × Lk)} {r:List Lk} {m:Nat},zs.map (·.2)=r→r.length≤m→zs.length≤m:=fun e h=>by rw [← e,AY] at h;exact h
   have la1:z1.length≤1:=len e1 (by unfold kP;split <;> simp)
   refine ⟨_,rfl,.inl ⟨rfl,_,SqL.of f1⟩,_,rfl,_,rfl,_,rfl,_,rfl,u,a,x,y,n,W,s,t,rfl,U,hW.same s1,s1 _ _ hx,s1 _ _ hy,os,ot,fun l2 z2 H2 n2 s2 f2 k2 e2=>?_⟩
   have la2:z2.length≤1:=len e2 (by unfold uJ;split <;> simp)
   have g1:=s2 _ _ f1
   refine ⟨l1,l2,_,_,rfl,rfl,g1,f2,(by simp only [AY];omega),?_⟩
   rw [ia]
   have s3:aD H (upd H2 l1 (.lst (((z1++z2).map (·.1)).map V.ref))):=d5 (s1.trans s2) n1
   have f3:(upd H2 l1 (.lst (((z1++z2).map (·.1)).map V.ref))) l1=some (.lst (((z1++z2).map (·.1)).map V.ref)):=ag
   have k3:LkA (upd H2 l1 (.lst (((z1++z2).map (·.1)).map V.ref))) (z1++z2):=((k1.same s2).app k2).to (fc g1)
   generalize upd H2 l1 (.lst (((z1++z2).map (·.1)).map V.ref))=H3 at s3 f3 k3 ⊢
   refine ⟨_,rfl,.inl ⟨rfl,_,SqL.of f3⟩,_,rfl,_,rfl,_,rfl,_,rfl,u,a,x,y,n,W,s,t,rfl,U,hW.same s3,s3 _ _ hx,s3 _ _ hy,os,ot,fun l4 z4 H4 n4 s4 f4 k4 e4=>?_⟩
   have la4:z4.length≤1:=len e4 (by unfold xg;split <;> simp)
   have g3:=s4 _ _ f3
   refine ⟨l1,l4,_,_,rfl,rfl,g3,f4,(by simp only [AY,A7];omega),?_⟩
   rw [ia]
   refine ⟨_,rfl,k l1 (z1++z2++z4) _ n1 (d5 (s3.trans s4) n1) ag (((k3.same s4).app k4).to (fc g3)) ?_⟩
   unfold vK
   rw [c,if_pos rfl,BU,BU,e1,e2,e4,Bc]
  ·rw [C8] at c
   rw [c]
   refine oX ⟨_,rfl,k l1 z1 H1 n1 s1 f1 k1 ?_⟩
   unfold vK
   rw [c,e1]
   simp
abbrev jW:Stmt:=top 13
theorem rA:aE ["surface","ways","i","j","told","p","q"] ["surface","ways","i","j"] (ak jW):=⟨rfl,rfl,rfl,by decide +kernel,rfl,by decide +kernel,by decide +kernel⟩
def _root_.Gk {a b c d e f g h}:=@cE a b c d e f g h
def _root_.Gm {a b c d e f}:=@bK a b c d e f
theorem vi (D:Df K mg "links" jW)(T:Bt K w mg aB)(F_lat:Fnc P w K mg base "links_at" ["surface","ways","one","other"] 5 (q9 vK)):Fnc P w K mg base "links" ["surface","ways","i","j"] 6 jM:=by
 have sc:=rA
 refine D.ok sc (fun _ _ _ _ _ _ us hl=>by obtain ⟨_,_,_,_,rfl⟩:=u3 hl;rfl) (fun vs H Q E h=>?_) (fun f Gz A outer s H vs Q E hr h=>?_)
 ·obtain ⟨u,a,n,W,i,j,rfl,_⟩:=h
  rfl
 ·obtain ⟨u,a,n,W,i,j,rfl,U,hW,i0,i1,j0,j1,k⟩:=h
  have GI:=ba
  obtain ⟨_,ati,_,li,_,_⟩:=hW.ok.get i0 i1
  obtain ⟨_,atj,_,lj,_,_⟩:=hW.ok.get j0 j1
  refine ⟨_,(FS (FX (4) sc.nd rfl (Or.inl rfl) (FN ae)) (FS (Gk B3 rfl (Gm rfl T.range (FO (FY aC (by rfl) T.len Bq (FO (FU aL (pv 1) (pv 2) (fun _ _=>rfl)) ae)) ae)) (Ga (5) sc.nd rfl (Or.inl rfl)) (FL (Gk B3 rfl (Gm rfl T.range (FO (FY aC (by rfl) T.len Bq (FO (FU aL (pv 1) (pv 3) (fun _ _=>rfl)) ae)) ae)) (Ga (6) sc.nd rfl (Or.inl rfl)) (FL (Gj (F0 BW C2 C3 dO (pv 4) (FO (Ge F_lat hr (by decide) rfl (FO (pv 0) (FO (pv 1) (FO (Gg (FO (pv 2) (FO (pv 5) ae))) (FO (Gg (FO (pv 3) (FO (pv 6) ae))) ae))))) ae))))))) (FL (FM (FY (@fO _ (.s) (shL) _ (fun z=>by cases z) (by exact hr.units) rfl) (by rfl) T.sorted gM (FO (pv 4) ae)))))),?_⟩
  refine ⟨(by show 0≤_;decide),fun l hl=>?_⟩
  have s0:aD H (upd H l (.lst [])):=aD.new hl
  have f0:(upd H l (.lst [])) l=some (.lst []):=ag
  generalize upd H l (.lst [])=H0 at s0 f0 ⊢
  refine ⟨_,rfl,_,rfl,a,_,_,_,rfl,rfl,SqT.of (s0 _ _ hW.at_),ati,_,rfl,(by rw [af];omega),_,rfl,?_⟩
  rw [af]
  refine ⟨by omega,by omega,?_⟩
  refine bD (lo:=0) (n:=((wyZ W i).length:Int).toNat) (fun m σ H'=>∃ (v1 v2:Option V) (zs:List (Addr × Lk)),σ = [some (tx u),some (.ref a),some (.int i),some (.int j),some (.ref l),v1,v2]∧aD H H'∧H' l=some (.lst ((zs.map (·.1)).map V.ref))∧LkA H' zs∧(zs.map (·.2)).Perm (e_ u W i j m)) ⟨none,none,[],rfl,s0,f0,(fun _ h=>absurd h (by simp)),CQ _⟩ ?_ ?_
  ·rintro p σ H1 hp ⟨v1,v2,zs,rfl,s1,f1,k1,e1⟩
   have hp':p < (wyZ W i).length:=by omega
   refine ⟨_,rfl,_,rfl,a,_,_,_,rfl,rfl,SqT.of (s1 _ _ hW.at_),atj,_,rfl,(by rw [af];omega),_,rfl,?_⟩
   rw [af]
   refine ⟨by omega,by omega,?_⟩
   rw [show ((0:Int)+(p:Int))=(p:Int) by omega]
   refine bD (lo:=0) (n:=((wyZ W j).length:Int).toNat) (fun m σ H'=>∃ (v2:Option V) (zs:List (Addr × Lk)),σ = [some (tx u),some (.ref a),some (.int i),some (.int j),some (.ref l),some (.int (p:Int)),v2]∧aD H H'∧H' l=some (.lst ((zs.map (·.1)).map V.ref))∧LkA H' zs∧(zs.map (·.2)).Perm (e_ u W i j p++mn u W i j p m)) ⟨v2,zs,rfl,s1,f1,k1,by rw [show mn u W i j p 0=[] from rfl,CU];exact e1⟩ ?_ ?_
   ·clear e1 k1 f1 s1 zs
    rintro q σ H2 hq ⟨v2,zs,rfl,s2,f2,k2,e2⟩
    have hq':q < (wyZ W j).length:=by omega
    rw [show ((0:Int)+(q:Int))=(q:Int) by omega]
    refine ⟨_,rfl,.inl ⟨rfl,_,SqL.of f2⟩,_,rfl,_,rfl,_,rfl,_,rfl,(by show 2≤_;decide),fun x hx=>?_⟩
    have s3:aD H2 (upd H2 x (.tup [.int i,.int (p:Int)])):=aD.new hx
    have f3:(upd H2 x (.tup [.int i,.int (p:Int)])) x=some (.tup [.int i,.int (p:Int)]):=ag
    generalize upd H2 x (.tup [.int i,.int (p:Int)])=H3 at s3 f3 ⊢
    refine ⟨_,rfl,_,rfl,(by show 2≤_;decide),fun y hy=>?_⟩
    have s4:aD H3 (upd H3 y (.tup [.int j,.int (q:Int)])):=aD.new hy
    have f4:(upd H3 y (.tup [.int j,.int (q:Int)])) y=some (.tup [.int j,.int (q:Int)]):=ag
    generalize upd H3 y (.tup [.int j,.int (q:Int)])=H4 at s4 f4 ⊢
    have s24:=s3.trans s4
    refine ⟨u,a,x,y,n,W,(i,(p:Int)),(j,(q:Int)),rfl,U,hW.same (s2.trans s24),s4 _ _ f3,f4,⟨i0,i1,by omega,by show (p:Int) < ((wyZ W i).length:Int);omega⟩,⟨j0,j1,by omega,by show (q:Int) < ((wyZ W j).length:Int);omega⟩,fun l5 z5 H5 n5 s5 f5 k5 e5=>?_⟩
    have s25:=s24.trans s5
    have g2:=s25 _ _ f2
    have ez:(z5.map (·.2)).Perm (lkZ u W (i,(p:Int)) (j,(q:Int))):=by rw [e5];exact oZ _ _ _ _
    have en:((zs++z5).map (·.2)).Perm (e_ u W i j p++mn u W i j p (q+1)):=by
     rw [BU,kQ,← Bc]
     exact e2.append ez
    have hlen:zs.length+z5.length≤3*30*p+3*(q+1):=by
     have h1:=en.length_eq
     rw [AY,A7,A7] at h1
     have h2:=jL u W i j lj p
     have h3:=jK u W i j p (q+1)
     omega
    refine ⟨l,l5,_,_,rfl,rfl,g2,f5,(by simp only [AY];omega),?_⟩
    rw [ia]
    exact ⟨_,zs++z5,rfl,d5 (s2.trans s25) hl,ag,((k2.same s25).app k5).to (fc g2),en⟩
   ·clear e1 k1 f1 s1 zs
    rintro σ H2 ⟨v2,zs,rfl,s2,f2,k2,e2⟩
    refine ⟨_,_,zs,rfl,s2,f2,k2,?_⟩
    rw [kR]
    exact e2
  ·rintro σ H1 ⟨v1,v2,zs,rfl,s1,f1,k1,e1⟩
   have em:zs.map (·.1)=(zs.map fun z=>(z.1,z.2.key)).map (·.1):=by rw [BZ];rfl
   rw [em] at f1
   refine ⟨_,rfl,l,zs.map fun z=>(z.1,z.2.key),rfl,.inl (SqL.of f1),fun z hz=>?_,fun p ks hp pm pw=>?_⟩
   ·obtain ⟨y,hy,rfl⟩:=BD.mp hz
    exact (k1 y hy).kd
   ·obtain ⟨ys,h1,h2⟩:=fD (fun z:Addr × Lk=>(z.1,z.2.key)) pm.symm zs rfl
    have e2:ks.map (·.1)=ys.map (·.1):=by rw [h2,BZ];rfl
    have e3:ks.map (·.2)=(ys.map (·.2)).map Lk.key:=by rw [h2,BZ,BZ];rfl
    rw [e2]
    rw [e3] at pw
    refine k p ys _ (s1.free hp) (s1.trans (aD.new hp)) ag (fun z hz=>?_) ((h1.map _).trans e1) pw
    exact (k1 z (h1.mem_iff.mp hz)).to fun b o e=>aD.new hp _ _ e
abbrev pM:Stmt:=top 7
theorem vj:aE ["many","word"] ["many","word"] (ak pM):=⟨rfl,rfl,rfl,by decide +kernel,rfl,by decide +kernel,by decide +kernel⟩
theorem xQ (D:Df K mg "sums" pM)(T:Bt K w mg aB)(Gx:Fnc P w K mg base "back" ["word"] 1 lO)(S:∃ t,mg "SMALL" = some (.str "abcdef" t)):Fnc P w K mg base "sums" ["many","word"] 2 tq:=by
 have sc:=vj
 refine D.ok sc (fun _ _ _ _ _ _ us hl=>by obtain ⟨_,_,rfl⟩:=rn hl;rfl) (fun vs H Q E h=>?_) (fun f Gz A outer s H vs Q E hr h=>?_)
 ·obtain ⟨m,u,rfl,_⟩:=h
  rfl
 ·obtain ⟨m,u,rfl,m1,m2,hu,k⟩:=h
  obtain ⟨tS,mgS⟩:=S
  have GI:=ba
  have h6:=ma (m:=m)
  refine ⟨_,(FL (FM (FP cq (by rfl) T.tuple jl (FO (F8 (["letter","word"]) (["letter"]) ([1]) (F_ rfl (by kernel_rfl)) rfl (@fV _ _ _ _ (FQ bM (@mE _ _ (.str "abcdef") _ _ rfl mgS ⟨_,rfl⟩ (by decide)) bb (FR (pv 0)))) (fun _ _ _ _=>Ga (0) (show (["letter","word"]:List Str).Nodup from by decide +kernel) rfl (Or.inl rfl)) (fun _ _ _ _=>bG) (fun _ _ _ _=>by (exact FT fQ (by (exact (@nO _ _ _ _ _ _ _ _ _ _ _ _ (K) rfl Bs Fn Fo ku (pv 1) (FO (pv 0) ae) (by rfl) (by rfl) (by rfl) (by rfl) (by rfl)))) (by (exact (@nO _ _ _ _ _ _ _ _ _ _ _ _ (K) rfl Bs Fn Fo ku (pv 1) (FO (Ge Gx hr (by decide) rfl (FO (pv 0) ae)) ae) (by rfl) (by rfl) (by rfl) (by rfl) (by rfl))))))) ae)))),?_⟩
  refine ⟨_,rfl,_,rfl,_,rfl,(by rw [iO];omega),?_⟩
  rw [i9 m1]
  refine ⟨_,rfl,?_⟩
  refine cw (own:=["letter"]) (cap:=[1]) (J:=Its (toS (sml m))) (sml m).length (fun i ys σ H'=>∃ v:Option V,σ = [v,some (tx u)]∧ys=((sml m).take i).map (fun x=>V.int (dif u x))∧aD H H') ⟨none,rfl,rfl,aD.refl _⟩ (fun i ys σ H' hi ⟨v,_,e,_⟩=>?_) (by omega) (fun i ys σ H' hi _=>?_) (fun ys σ H' _=>?_) ?_ ?_
  ·rw [e,AY,Bd];omega
  ·show i < (toS _).cps.size;rw [bt];exact hi
  ·show _=(toS _).cps.size;rw [bt]
  ·rintro i ys σ H1 z H2 N hi ⟨v,rfl,rfl,s1⟩ ⟨rfl,c,hc,rfl⟩ hN
   obtain ⟨x,hx,e⟩:=cS hc
   rw [e]
   refine ⟨_,rfl,rfl,_,rfl,_,_,rfl,rfl,_,rfl,rfl,_,rfl,[x],rfl,(by show 1≤5000;decide),fun H3 s3=>⟨_,_,rfl,rfl,_,_,rfl,rfl,hN _ _ _ ⟨_,rfl,?_,s1.trans s3⟩⟩⟩
   rw [iP,cR,iP,← rl _ hx]
   rfl
  ·rintro ys σ H1 l ⟨v,rfl,rfl,s1⟩ hl
   rw [Ds]
   exact ⟨l,_,rfl,.inl ⟨SqL.of ag,fun t ht=>k t _ ag ((s1.then hl).then ht)⟩⟩
abbrev vk:Stmt:=top 9
theorem xR:aE ["surface"] ["surface"] (ak vk):=⟨rfl,rfl,rfl,by decide +kernel,rfl,by decide +kernel,by decide +kernel⟩
theorem zI (D:Df K mg "letters_of" vk)(T:Bt K w mg aB)(S:∃ t,mg "SMALL" = some (.str "abcdef" t)):Fnc P w K mg base "letters_of" ["surface"] 1 xA:=by
 have sc:=xR
 refine D.ok sc (fun _ _ _ _ _ _ us hl=>by obtain ⟨_,rfl⟩:=vL hl;rfl) (fun vs H Q E h=>?_) (fun f Gz A outer s H vs Q E hr h=>?_)
 ·obtain ⟨u,k,rfl,_⟩:=h
  rfl
 ·obtain ⟨u,k,rfl,U,q⟩:=h
  obtain ⟨tS,mgS⟩:=S
  have GI:=ba
  have hl:=U.len
  have h1:=U.lo
  have h6:=U.hi
  refine ⟨_,(FL (FM (FQ bM (@mE _ _ (.str "abcdef") _ _ rfl mgS ⟨_,rfl⟩ (by decide)) bb (FR (FT dy (FY aC (by rfl) T.len Bq (FO (pv 0) ae)) ai))))),?_⟩
  refine ⟨_,rfl,_,rfl,(by rw [af];omega),_,_,rfl,rfl,⟨by decide,by decide⟩,_,rfl,_,rfl,(by rw [iO];omega),?_⟩
  have e:((toS u).length:Int) / 2=(k:Int):=by rw [af];omega
  rw [e,i9 (by omega)]
  exact q
abbrev zJ:Stmt:=top 25
theorem zK:aE ["surface","letter"] ["surface","letter"] (ak zJ):=⟨rfl,rfl,rfl,by decide +kernel,rfl,by decide +kernel,by decide +kernel⟩
theorem AS (D:Df K mg "places_of" zJ)(T:Bt K w mg aB)(Gx:Fnc P w K mg base "back" ["word"] 1 lO):Fnc P w K mg base "places_of" ["surface","letter"] 2 Ak:=by
 have sc:=zK
 refine D.ok sc (fun _ _ _ _ _ _ us hl=>by obtain ⟨_,_,rfl⟩:=rn hl;rfl) (fun vs H Q E h=>?_) (fun f Gz A outer s H vs Q E hr h=>?_)
 ·obtain ⟨u,k,a,rfl,_⟩:=h
  rfl
 ·obtain ⟨u,k,a,rfl,U,ha,q⟩:=h
  have GI:=ba
  obtain ⟨r1,o1⟩:=iR ha
  obtain ⟨r2,o2⟩:=iR (U.srf.iv a ha)
  refine ⟨_,(FL (FM (Gg (FO (F0 Bs CJ CK dR (pv 0) (FO (pv 1) ae)) (FO (F0 Bs CJ CK dR (pv 0) (FO (Ge Gx hr (by decide) rfl (FO (pv 1) ae)) ae)) ae))))),?_⟩
  refine ⟨_,rfl,rfl,_,rfl,_,_,_,r1,rfl,rfl,o1,_,rfl,rfl,_,rfl,[a],rfl,(by show 1≤5000;decide),fun H1 s1=>?_⟩
  rw [cR]
  refine ⟨_,_,_,r2,rfl,rfl,o2,(c0 (n:=2) (by decide)),fun p hp=>q p _ ag (s1.then hp)⟩
abbrev pN:Stmt:=top 24
theorem vm:aE ["surface","x","y"] ["surface","x","y"] (ak pN):=⟨rfl,rfl,rfl,by decide +kernel,rfl,by decide +kernel,by decide +kernel⟩
theorem xS (D:Df K mg "side_of" pN)(T:Bt K w mg aB)(Gx:Fnc P w K mg base "back" ["word"] 1 lO)(F_pl:Fnc P w K mg base "places_of" ["surface","letter"] 2 Ak)(G3:Fnc P w K mg base "are_met_by_turns" ["one","other"] 1 xB)(F_rf:Fnc P w K mg base "round_from" ["surface","start","end"] 1 yk):Fnc P w K mg base "side_of" ["surface","x","y"] 3 tu:=by
 have sc:=vm
 refine D.ok sc (fun _ _ _ _ _ _ us hl=>by obtain ⟨_,_,_,rfl⟩:=tw hl;rfl) (fun vs H Q E h=>?_) (fun f Gz A outer s H vs Q E hr h=>?_)
 ·obtain ⟨u,k,x,y,rfl,_⟩:=h
  rfl
 ·obtain ⟨u,k,x,y,rfl,U,F,q⟩:=h
  have GI:=ba
  have e:=wH F
  change (if zq (u.idxOf x) (u.idxOf (inv x)) (u.idxOf y) (u.idxOf (inv y))=true then (if rfI u x (inv y) < rfI u x y then -1 else 1) else 0)=_ at e
  refine ⟨_,(FS (FV (@mH _ _ _ _ (@c9 _ _ _ (Ge G3 hr (by decide) rfl (FO (Ge F_pl hr (by decide) rfl (FO (pv 0) (FO (pv 1) ae))) (FO (Ge F_pl hr (by decide) rfl (FO (pv 0) (FO (pv 2) ae))) ae))) (fun _=>rfl))) (FL (FM ai)) bo) (FL (FM (Gc (FW eR (Ge F_rf hr (by decide) rfl (FO (pv 0) (FO (pv 1) (FO (Ge Gx hr (by decide) rfl (FO (pv 2) ae)) ae)))) (Ge F_rf hr (by decide) rfl (FO (pv 0) (FO (pv 1) (FO (pv 2) ae)))) (a8 _)) (Gb bQ ai) ai)))),?_⟩
  refine ⟨_,rfl,_,rfl,u,k,x,rfl,U,F.mx,fun p1 H1 h1 s1=>?_⟩
  refine ⟨_,rfl,_,rfl,u,k,y,rfl,U,F.my,fun p2 H2 h2 s2=>?_⟩
  refine ⟨p1,p2,_,_,_,_,rfl,s2 _ _ h1,h2,_,rfl,?_⟩
  by_cases hm:zq (u.idxOf x) (u.idxOf (inv x)) (u.idxOf y) (u.idxOf (inv y))=true
  ·refine kr (by rw [hm];rfl) ?_
   rw [if_pos hm] at e
   refine ⟨_,rfl,_,rfl,_,rfl,[y],rfl,(by show 1≤5000;decide),fun H3 s3=>?_⟩
   rw [cR]
   refine ⟨u,k,x,inv y,rfl,U,F.mx,F.mY,_,rfl,_,rfl,_,rfl,u,k,x,y,rfl,U,F.mx,F.my,_,_,rfl,rfl,_,rfl,?_⟩
   have s03:=s1.trans (s2.trans s3)
   by_cases hl:rfI u x (inv y) < rfI u x y
   ·rw [if_pos hl] at e
    refine kq (Bg hl) ⟨_,rfl,?_⟩
    rw [← e] at q
    exact q _ s03
   ·rw [if_neg hl] at e
    refine kr (AZ hl) ?_
    rw [← e] at q
    exact q _ s03
  ·refine kq (by rw [C8] at hm;rw [hm];rfl) ?_
   rw [if_neg hm] at e
   rw [← e] at q
   exact q _ (s1.trans s2)
abbrev vn:Stmt:=top 23
theorem xT:aE ["surface","one","other","letters","mine","theirs","total","x","y"] ["surface","one","other"] (ak vn):=⟨rfl,rfl,rfl,by decide +kernel,rfl,by decide +kernel,by decide +kernel⟩
theorem zL (D:Df K mg "balance" vn)(T:Bt K w mg aB)(F_let:Fnc P w K mg base "letters_of" ["surface"] 1 xA)(G4:Fnc P w K mg base "sums" ["many","word"] 2 tq)(F_side:Fnc P w K mg base "side_of" ["surface","x","y"] 3 tu):Fnc P w K mg base "balance" ["surface","one","other"] 4 xC:=by
 have sc:=xT
 refine D.ok sc (fun _ _ _ _ _ _ us hl=>by obtain ⟨_,_,_,rfl⟩:=tw hl;rfl) (fun vs H Q E h=>?_) (fun f Gz A outer s H vs Q E hr h=>?_)
 ·obtain ⟨u,w1,w2,k,rfl,_⟩:=h
  rfl
 ·obtain ⟨u,w1,w2,k,rfl,U,hw1,hw2,q⟩:=h
  have GI:=ba
  have h1:=U.lo
  have h6:=U.hi
  have hsl:=uZ h6
  have GS:(toS (sml (k:Int))).length≤sizeLine:=by rw [af];omega
  have hlk:((toS (sml (k:Int))).length:Int)=(k:Int):=by rw [af,hsl]
  refine ⟨_,(FS (FX (3) sc.nd rfl (Or.inl rfl) (Ge F_let hr (by decide) rfl (FO (pv 0) ae))) (FS (FX (4) sc.nd rfl (Or.inl rfl) (Ge G4 hr (by decide) rfl (FO (FY aC (by rfl) T.len Bq (FO (pv 3) ae)) (FO (pv 1) ae)))) (FS (FX (5) sc.nd rfl (Or.inl rfl) (Ge G4 hr (by decide) rfl (FO (FY aC (by rfl) T.len Bq (FO (pv 3) ae)) (FO (pv 2) ae)))) (FS (FX (6) sc.nd rfl (Or.inl rfl) ai) (FS (Gk B3 rfl (Gm rfl T.range (FO (FY aC (by rfl) T.len Bq (FO (pv 3) ae)) ae)) (Ga (7) sc.nd rfl (Or.inl rfl)) (FL (Gk B3 rfl (@fh _ _ _ _ _ _ _ rfl T.range (FO (FT cF (pv 7) ai) (FO (FY aC (by rfl) T.len Bq (FO (pv 3) ae)) ae)) (by rfl) (by rfl)) (Ga (8) sc.nd rfl (Or.inl rfl)) (FL (@rR _ _ (6) _ _ _ _ _ _ sc.nd rfl (Or.inl rfl) (FT dI (Ge F_side hr (by decide) rfl (FO (pv 0) (FO (FU fo (pv 3) (pv 7) (fun _ _=>rfl)) (FO (FU fo (pv 3) (pv 8) (fun _ _=>rfl)) ae)))) (FT fQ (FT dI (FU aL (pv 4) (pv 7) (fun _ _=>rfl)) (FU aL (pv 5) (pv 8) (fun _ _=>rfl))) (FT dI (FU aL (pv 4) (pv 8) (fun _ _=>rfl)) (FU aL (pv 5) (pv 7) (fun _ _=>rfl))))) rS (by first | exact .inl rfl | exact .inr rfl | assumption)))))) (FL (FM (pv 6)))))))),?_⟩
  refine ⟨_,rfl,u,k,rfl,U,?_⟩
  refine ⟨_,rfl,_,rfl,GS,_,rfl,(k:Int),w1,by rw [hlk];rfl,by omega,by omega,hw1,fun t1 H1 ht1 s1=>?_⟩
  refine ⟨_,rfl,_,rfl,GS,_,rfl,(k:Int),w2,by rw [hlk];rfl,by omega,by omega,hw2,fun t2 H2 ht2 s2=>?_⟩
  have ht1:=s2 _ _ ht1
  have s02:=s1.trans s2
  have at1:∀ (w:List L) (x:Nat),x < k→atI ((sml (k:Int)).map fun x=>V.int (dif w x)) (x:Int)=some (.int (dfi w (lt6 x))):=fun w x hx=>by
   have:=jU h6 hx
   unfold atI ixN
   rw [AY,hsl,if_pos (by omega),if_pos (by omega)]
   show ((sml (k:Int)).map _)[((x:Nat):Int).toNat]? = _
   rw [BR,Bi,this]
   rfl
  refine ⟨_,rfl,_,rfl,GS,_,rfl,(by omega),(by omega),?_⟩
  rw [hlk]
  refine bD (lo:=0) (n:=(k:Int).toNat) (fun i σ H'=>∃ (a b:Option V),σ = [some (tx u),some (tx w1),some (tx w2),some (tx (sml (k:Int))),some (.ref t1),some (.ref t2),some (.int (bz i fun x=>bz (k - (x+1)) fun j=>trm u w1 w2 x (x+1+j))),a,b]∧aD H2 H') ⟨none,none,rfl,aD.refl _⟩ ?_ ?_
  ·rintro i σ H3 hi ⟨a,b,rfl,s3⟩
   have hi:i < k:=by omega
   rw [FJ]
   refine ⟨_,rfl,_,_,rfl,rfl,_,rfl,_,rfl,GS,_,_,rfl,(by first | omega | (rw [hlk];omega)),?_⟩
   rw [hlk]
   refine bD (lo:=(i:Int)+1) (n:=((k:Int) - ((i:Int)+1)).toNat) (fun j σ H'=>∃ (b:Option V),σ = [some (tx u),some (tx w1),some (tx w2),some (tx (sml (k:Int))),some (.ref t1),some (.ref t2),some (.int ((bz i fun x=>bz (k - (x+1)) fun j=>trm u w1 w2 x (x+1+j))+bz j fun j=>trm u w1 w2 i (i+1+j))),some (.int (i:Int)),b]∧aD H2 H') ⟨b,(by show _=[_,_,_,_,_,_,some (V.int (_+0)),_,_];rw [Fu];rfl),s3⟩ ?_ ?_
   ·rintro j σ H4 hj ⟨b,rfl,s4⟩
    have hj:i+1+j < k:=by omega
    have ey:(i:Int)+1+(j:Int)=((i+1+j:Nat):Int):=by omega
    rw [ey]
    have gx:=jU h6 hi
    have gy:=jU h6 hj
    have ht1:=s4 _ _ ht1
    have ht2:=s4 _ _ ht2
    refine ⟨_,rfl,_,rfl,_,rfl,_,rfl,_,_,cp (lt6 i),rfl,rfl,GS,cT (k:=i) rfl gx,_,rfl,_,rfl,_,_,cp (lt6 (i+1+j)),rfl,rfl,GS,cT (k:=i+1+j) rfl gy,u,k,lt6 i,lt6 (i+1+j),rfl,U,U.four hi hj (by omega),fun H5 s5=>?_⟩
    have ht1:=s5 _ _ ht1
    have ht2:=s5 _ _ ht2
    have b1:=i_ (lt6 i) hw1
    have b2:=i_ (lt6 (i+1+j)) hw1
    have b3:=rm u (lt6 i) (lt6 (i+1+j))
    refine ⟨_,rfl,_,rfl,t1,_,_,_,rfl,rfl,SqT.of ht1,at1 w1 i hi,_,rfl,_,rfl,t2,_,_,_,rfl,rfl,SqT.of ht2,at1 w2 _ hj,_,_,rfl,rfl,.inl ⟨by omega,by omega⟩,?_⟩
    refine ⟨_,rfl,_,rfl,t1,_,_,_,rfl,rfl,SqT.of ht1,at1 w1 _ hj,_,rfl,_,rfl,t2,_,_,_,rfl,rfl,SqT.of ht2,at1 w2 i hi,_,_,rfl,rfl,.inl ⟨by omega,by omega⟩,?_⟩
    refine ⟨_,_,rfl,rfl,_,_,rfl,rfl,.inl ⟨by omega,by omega⟩,?_⟩
    refine ⟨_,_,rfl,rfl,some (.int ((i+1+j:Nat):Int)),?_,s4.trans s5⟩
    show _=[_,_,_,_,_,_,some (V.int (_+(bz j (fun j=>trm u w1 w2 i (i+1+j))+trm u w1 w2 i (i+1+j)))),_,_]
    rw [← Int.add_assoc]
    rfl
   ·rintro σ H4 ⟨b,rfl,s4⟩
    refine ⟨some (.int (i:Int)),b,?_,s4⟩
    rw [show ((k:Int) - ((i:Int)+1)).toNat=k - (i+1) by omega]
    rfl
  ·rintro σ H3 ⟨a,b,rfl,s3⟩
   exact ⟨_,rfl,q _ (s02.trans s3)⟩
abbrev vo:Stmt:=top 30
theorem xU:aE ["_law_tape_here","_law_most","_law_row","_law_k","_law_sign"] ["_law_tape_here","_law_most"] (ak vo):=⟨rfl,rfl,rfl,by decide +kernel,rfl,by decide +kernel,by decide +kernel⟩
theorem zM (D:Df K mg "_law_any_row" vo)(T:Bt K w mg aB)(Gr:Fnc P w K mg base "_law_draw" ["_law_tape_here","_law_many"] 1 cC):Fnc P w K mg base "_law_any_row" ["_law_tape_here","_law_most"] 2 sQ:=by
 have sc:=xU
 refine D.ok sc (fun _ _ _ _ _ _ us hl=>by obtain ⟨_,_,rfl⟩:=rn hl;rfl) (fun vs H Q E h=>?_) (fun f Gz A outer s H vs Q E hr h=>?_)
 ·obtain ⟨d,c,m,rfl,_⟩:=h
  rfl
 ·obtain ⟨d,c,m,rfl,F,m1,m6,k⟩:=h
  have GI:=ba
  refine ⟨_,(FS (FX (2) sc.nd rfl (Or.inl rfl) (FN ae)) (FS (Gk B3 rfl (Gm rfl T.range (FO (FT cF ai (Ge Gr hr (by decide) rfl (FO (pv 0) (FO (pv 1) ae)))) ae)) (Ga (3) sc.nd rfl (Or.inl rfl)) (FL (Gk B3 rfl (@rT _ _ _ _ (Gg (FO (FU fo bP (pv 3) (fun _ _=>rfl)) (FO (FU fo bP (pv 3) (fun _ _=>rfl)) ae)))) (Ga (4) sc.nd rfl (Or.inl rfl)) (FL (Gj (F0 BW EV PySem.F.type_list_insert nT (pv 2) (FO (Ge Gr hr (by decide) rfl (FO (pv 0) (FO (FT cF (FY aO (by rfl) T.len Bq (FO (pv 2) ae)) ai) ae))) (FO (pv 4) ae)))))))) (FL (FM (F0 Bs Cv Cw eC bP (FO (pv 2) ae)))))),?_⟩
  refine ⟨(by show 0≤sizeLine;decide),fun p hp=>?_⟩
  have hpd:=F.ne hp
  have hpc:=F.nec hp
  refine ⟨_,rfl,_,rfl,d,c,m,rfl,F.new hp,by omega,by omega,fun r H1 r0 r1 F1 sb1=>?_⟩
  have f1:=sb1 _ _ hpd ag
  have sb1:=((aD.new (o:=.lst []) hp).b (d:=d)).trans sb1
  refine ⟨_,_,rfl,rfl,_,rfl,by omega,by omega,?_⟩
  refine bD (lo:=0) (n:=(1+r).toNat) (fun i σ H'=>∃ (a b:Option V) (W:List L),σ = [some (.ref d),some (.int m),some (.ref p),a,b]∧H' p=some (.lst (bx W))∧W.Perm (fam i)∧Tp H' d c∧bp d H H') ⟨none,none,[],rfl,f1,CQ _,F1,sb1⟩ ?_ ?_
  ·rintro i σ H2 hi ⟨a,b,W,rfl,hW,pW,F2,sb2⟩
   have hi:i < 6:=by omega
   rw [FJ]
   have lW:(bx W).length≤12:=by
    obtain ⟨_,_,c⟩:=iQ ⟨i,by omega⟩
    have c:(fam i).length=2*i:=c
    have:=pW.length_eq
    rw [aH]
    omega
   refine ⟨_,rfl,_,_,_,rfl,rfl,(by rw [iO];omega),sm_at hi,_,rfl,_,_,_,rfl,rfl,(by rw [nK];omega),yR hi,?_⟩
   refine ⟨(c0 (n:=2) (by decide)),fun t ht=>?_⟩
   generalize ex:(⟨i,by omega⟩:L)=x
   generalize ey:(⟨i+6,by omega⟩:L)=y
   have htp:t≠p:=(aq hW ht).symm
   have htd:t≠d:=F2.ne ht
   refine ⟨t,rfl,⟨_,SqT.of ag⟩,tG (xs:=[tx [x],tx [y]]) (fun j σ H'=>∃ (b:Option V) (W:List L),σ = [some (.ref d),some (.int m),some (.ref p),some (.int (i:Int)),b]∧H' p=some (.lst (bx W))∧W.Perm (fam i++[x,y].take j)∧Tp H' d c∧bp d H H'∧H' t=some (.tup [tx [x],tx [y]])) ⟨b,W,rfl,(aD.new ht) _ _ hW,by rw [List.take_zero,CU];exact pW,F2.new ht,sb2.trans (aD.new ht).b,ag⟩ (fun j σ H' hj ⟨_,_,_,_,_,_,_,q⟩=>SqT.of q) ?_ ?_⟩
   ·rintro j z σ H3 hz ⟨b,W,rfl,hW,pW,F3,GW,h3⟩
    have hj:j < 2:=by
     have:=(A6.mp hz).1
     exact this
    have lW:(bx W).length≤14:=by
     obtain ⟨_,_,c⟩:=iQ ⟨i,by omega⟩
     have c:(fam i).length=2*i:=c
     have:=pW.length_eq
     rw [A7,Bd,c] at this
     rw [aH,this]
     simp only [BH,Co]
     omega
    obtain ⟨z',ez,hz'⟩:∃ z',z=tx [z']∧[x,y][j]? = some z':=by
     have:j=0 ∨ j=1:=by omega
     rcases this with rfl | rfl
     ·exact ⟨x,(A_ hz).symm,rfl⟩
     ·exact ⟨y,(A_ hz).symm,rfl⟩
    subst ez
    refine ⟨_,rfl,.inl ⟨rfl,_,SqL.of hW⟩,_,rfl,_,rfl,p,_,rfl,.inl (SqL.of hW),_,_,rfl,rfl,d,c,_,rfl,F3,by omega,by omega,fun q H4 q0 q1 F4 GX=>?_⟩
    have h4:=GX _ _ hpd hW
    refine ⟨_,rfl,p,_,q,_,rfl,rfl,h4,q0,by omega,by omega,?_⟩
    rw [qB]
    have s5:bp p H4 (upd H4 p (.lst (bx (W.take q.toNat++z'::W.drop q.toNat)))):=bp.upd
    refine ⟨_,_,rfl,ag,?_,F4.but hpd hpc s5,fun b o n e=>s5 _ _ (aq e hp) (GX _ _ n (GW _ _ n e)),s5 _ _ htp (GX _ _ htd h3)⟩
    have e:[x,y].take (j+1)=[x,y].take j++[z']:=cf hz'
    rw [e,← Bc]
    exact qz z' q.toNat pW
   ·rintro σ H3 ⟨b,W,rfl,hW,pW,F3,GW,h3⟩
    refine ⟨_,_,W,rfl,hW,?_,F3,GW⟩
    rw [qy hi,ex,ey]
    exact pW
  ·rintro σ H2 ⟨a,b,W,rfl,hW,pW,F2,sb2⟩
   have hl:=pW.length_eq
   obtain ⟨_,_,c⟩:=iQ ⟨(1+r).toNat,by omega⟩
   have c:(fam (1+r).toNat).length=2*(1+r).toNat:=c
   refine ⟨rfl,_,rfl,_,p,W.map fun x=>toS [x],rfl,rfl,SqL.of (by rw [hW,cy]),bX _ (by omega),?_⟩
   rw [bW]
   exact k _ _ _ ⟨pW,by omega,by omega⟩ (by omega) F2 sb2
theorem xV (V0:List L)(y:L):(bx (V0++[y]))[(bx (V0++[y])).length - 1]? = some (tx [y]):=by
 unfold bx
 simp
theorem rB (V0:List L)(y:L):some (HO.lst (bx (V0++[y])).dropLast)=some (HO.lst (bx V0)):=by
 unfold bx
 simp
theorem rD (x y:L)(mid:List L):fk (bx (x::(mid++[y]))) (some 1) (some (-1))=bx mid:=by
 unfold fk
 have hl:(bx (x::(mid++[y]))).length=mid.length+2:=by rw [aH];simp
 have e1:HT.sIx (bx (x::(mid++[y]))).length 0 (some 1)=1:=by
  have q:=HT.fj (bx (x::(mid++[y]))).length 0 1
  rw [show ((1:Nat):Int)=1 from rfl] at q
  rw [q,hl]
  omega
 have e2:HT.sIx (bx (x::(mid++[y]))).length (bx (x::(mid++[y]))).length (some (-1))=mid.length+1:=by
  show (if (-1:Int) < 0 then ((-1:Int)+((bx (x::(mid++[y]))).length:Int)).toNat else min (-1:Int).toNat (bx (x::(mid++[y]))).length)=_
  rw [if_pos (by decide),hl]
  omega
 rw [e1,e2]
 unfold bx
 simp
abbrev fL:Stmt:=top 32
theorem mh:aE ["_law_word","_law_size"] ["_law_word"] (ak fL):=⟨rfl,rfl,rfl,by decide +kernel,rfl,by decide +kernel,by decide +kernel⟩
theorem pO (D:Df K mg "_law_rooted" fL)(T:Bt K w mg aB):Fnc P w K mg base "_law_rooted" ["_law_word"] 1 ij:=by
 have sc:=mh
 refine D.ok sc (fun _ _ _ _ _ _ us hl=>by obtain ⟨_,rfl⟩:=vL hl;rfl) (fun vs H Q E h=>?_) (fun f Gz A outer s H vs Q E hr h=>?_)
 ·obtain ⟨u,rfl,_⟩:=h
  rfl
 ·obtain ⟨u,rfl,hu,k⟩:=h
  have GI:=ba
  have GS:(toS u).length≤sizeLine:=by rw [af];omega
  refine ⟨_,(FS (Gk B3 rfl (@fh _ _ _ _ _ _ _ rfl T.range (FO ai (FO (FY aC (by rfl) T.len Bq (FO (pv 0) ae)) ae)) (by rfl) (by rfl)) (Ga (1) sc.nd rfl (Or.inl rfl)) (FL (FV (FW d9 (FT fX (FQ bM (pv 0) bb (FR (pv 1))) (FT dy (FY aC (by rfl) T.len Bq (FO (pv 0) ae)) (pv 1))) (pv 0) (a8 _)) (FL (FM (FQ bM (pv 0) bb (FR (pv 1))))) bo))) (FL (FM (pv 0)))),?_⟩
  refine ⟨_,rfl,_,rfl,GS,_,_,rfl,(by first | omega | (rw [af];omega)),?_⟩
  rw [af]
  refine bD (lo:=1) (n:=((u.length:Int) - 1).toNat) (fun i σ H'=>∃ v:Option V,σ = [some (tx u),v]∧H'=H) ⟨none,rfl,rfl⟩ ?_ ?_
  ·rintro i σ H1 hi ⟨v,rfl,rfl⟩
   have hi:i+1 < u.length:=by omega
   have e1:(1:Int)+(i:Int)=((i+1:Nat):Int):=by omega
   rw [e1]
   have c1:Txt.slice (toS u) none (some ((i+1:Nat):Int))=toS (u.take (i+1)):=by rw [a_,cU _ (by omega)];rfl
   have dv:((toS u).length:Int) / ((i+1:Nat):Int)=((u.length / (i+1):Nat):Int):=by rw [af];rfl
   have db:u.length / (i+1)≤u.length:=Nat.div_le_self _ _
   refine ⟨_,rfl,_,rfl,_,rfl,_,rfl,GS,?_⟩
   rw [c1]
   refine ⟨_,rfl,_,rfl,GS,_,rfl,_,_,rfl,rfl,⟨by omega,by omega⟩,?_⟩
   refine ⟨_,((u.length / (i+1):Nat):Int),rfl,Br V.int dv,iN _ (Int.le_trans (by decide) (Int.natCast_nonneg _)) (Int.ofNat_le.mpr (show u.length / (i+1)≤1000 by omega)) (by rw [Bd];omega),?_⟩
   rw [nI,BR]
   refine ⟨_,rfl,rfl,_,rfl,?_⟩
   by_cases he:rep (u.length / (i+1)) (u.take (i+1))=u
   ·refine kq (by rw [he];exact Bg rfl) ?_
    refine ⟨_,rfl,_,rfl,_,rfl,_,rfl,GS,?_⟩
    rw [c1]
    exact k _ (by rw [Bd];omega) (fun x hx=>Ce hx) fun C=>uP (by rw [he];exact C) (by rw [he];exact BN.mp (by omega))
   ·exact kr (AZ fun e=>he (ko e)) ⟨_,rfl,rfl⟩
  ·rintro σ H1 ⟨v,rfl,rfl⟩
   exact ⟨_,rfl,k u (A8 _) (fun x hx=>hx) fun C=>C⟩
abbrev jX:Stmt:=top 31
theorem rE:aE ["_law_word","_law_left","_law_sign"] ["_law_word"] (ak jX):=⟨rfl,rfl,rfl,by decide +kernel,rfl,by decide +kernel,by decide +kernel⟩
theorem vp (D:Df K mg "_law_inner" jX)(T:Bt K w mg aB)(GA:Fnc P w K mg base "_law_back" ["_law_word"] 1 lO):Fnc P w K mg base "_law_inner" ["_law_word"] 2 ig:=by
 have sc:=rE
 refine D.ok sc (fun _ _ _ _ _ _ us hl=>by obtain ⟨_,rfl⟩:=vL hl;rfl) (fun vs H Q E h=>?_) (fun f Gz A outer s H vs Q E hr h=>?_)
 ·obtain ⟨u,rfl,_⟩:=h
  rfl
 ·obtain ⟨u,rfl,hu,k⟩:=h
  have GI:=ba
  refine ⟨_,(FS (FX (1) sc.nd rfl (Or.inl rfl) (FN ae)) (FS (Gk B3 rfl (@fV _ _ _ _ (pv 0)) (Ga (2) sc.nd rfl (Or.inl rfl)) (FL (FV (@PW.pt _ _ _ (@rQ _ _ _ _ _ _ _ (FW tH (FY aO (by rfl) T.len Bq (FO (pv 1) ae)) ai (a8 _)) (@mG _ _ _ _ (FW d9 (FU bg (pv 1) (Gb bQ ai) (fun _ _=>rfl)) (Ge GA hr (by decide) rfl (FO (pv 2) ae)) (a8 _))))) (FL (Gj (@kg _ _ _ _ _ _ _ _ _ BW PySem.F.slot_list_pop PySem.F.type_list_pop wk (pv 1) (by rfl) (by rfl)))) (FL (Gj (F0 BW E2 E3 iH (pv 1) (FO (pv 2) ae))))))) (FS (@j9 _ _ _ _ _ _ B3 (@PW.pt _ _ _ (@rQ _ _ _ _ _ _ _ (FW tH (FY aO (by rfl) T.len Bq (FO (pv 1) ae)) ai (a8 _)) (@mG _ _ _ _ (FW d9 (FU bg (pv 1) ai (fun _ _=>rfl)) (Ge GA hr (by decide) rfl (FO (FU bg (pv 1) (Gb bQ ai) (fun _ _=>rfl)) ae)) (a8 _))))) (FL (FX (1) sc.nd rfl (Or.inl rfl) (FQ gz (pv 1) (FR ai) (FR (Gb bQ ai)))))) (FL (FM (F0 Bs Cv Cw eC bP (FO (pv 1) ae))))))),?_⟩
  refine ⟨(by show 0≤sizeLine;decide),fun l hl=>?_⟩
  refine ⟨_,rfl,_,rfl,nz (z:=toS u) (fun i σ H'=>∃ (v:Option V) (W:List L),σ = [some (tx u),some (.ref l),v]∧H' l=some (.lst (bx W))∧W.length≤i∧(∀ x∈W,x∈u)∧Wd.Rd W∧aD H H') ⟨none,[],rfl,ag,A8 _,(fun x hx=>by cases hx),trivial,aD.new hl⟩ ?_ ?_⟩
  ·rintro i cc σ H1 hc ⟨v,W,rfl,h1,hW,mW,rW,s1⟩
   obtain ⟨x,hx,ex⟩:=cS hc
   rw [ex]
   have hi:i < u.length:=(A6.mp hx).1
   have push:∀ H2,(∀ y,W.getLast? = some y→x≠inv y)→aD H1 H2→∃ (v:Option V) (W':List L),[some (tx u),some (V.ref l),some (V.str (toS [x]))]=[some (tx u),some (V.ref l),v]∧(upd H2 l (.lst (bx W++[V.str (toS [x])]))) l=some (.lst (bx W'))∧W'.length≤i+1∧(∀ x∈W',x∈u)∧Wd.Rd W'∧aD H (upd H2 l (.lst (bx W++[V.str (toS [x])]))):=fun H2 nx s2=>by
    refine ⟨_,W++[x],rfl,?_,by rw [A7];simp;omega,fun y hy=>?_,uM rW nx,fun b o e=>?_⟩
    ·rw [ag,← bV]
     rfl
    ·rcases Bo.mp hy with hy | hy
     ·exact mW y hy
     ·rw [A2.mp hy]
      exact BK hx
    ·rw [aW (aq e hl)]
     exact s2 _ _ (s1 _ _ e)
   refine ⟨_,rfl,l,_,rfl,.inl (SqL.of h1),_,_,rfl,rfl,_,rfl,?_⟩
   by_cases h0:W=[]
   ·subst h0
    refine kr (AZ (by simp [bx])) (vI ?_)
    refine ⟨_,rfl,.inl ⟨rfl,_,SqL.of h1⟩,_,rfl,l,_,_,rfl,rfl,h1,(by rw [aH];simp;omega),?_⟩
    exact push H1 (fun y hy=>by simp at hy) (aD.refl _)
   ·obtain ⟨V0,y,rfl⟩:∃ V0 y,W=V0++[y]:=⟨W.dropLast,W.getLast h0,(Eg h0).symm⟩
    have hl1:(bx (V0++[y])).length=V0.length+1:=by rw [aH];simp
    have al:atI (bx (V0++[y])) (-1)=some (tx [y]):=by
     unfold bx
     rw [BU]
     exact kf _ _
    refine kq (Bg (by rw [hl1];omega)) ?_
    refine ⟨_,rfl,_,rfl,l,_,_,_,rfl,rfl,SqL.of h1,al,_,rfl,[x],rfl,(by show 1≤5000;decide),fun H2 s2=>?_⟩
    refine ⟨rfl,_,rfl,?_⟩
    rw [cR]
    by_cases hyx:y=inv x
    ·refine kq (by rw [hyx];exact Bg rfl) ?_
     have h2:=s2 _ _ h1
     refine ⟨_,rfl,.inl ⟨rfl,_,SqL.of h2⟩,l,_,_,rfl,rfl,h2,xV _ _,_,V0,rfl,?_,by simp at hW;omega,fun z hz=>mW z (BB _ hz),((bN _ _).mp rW).1,fun b o e=>?_⟩
     ·rw [ag,rB]
     ·rw [aW (aq e hl)]
      exact s2 _ _ (s1 _ _ e)
    ·refine kr (AZ fun e=>hyx (CO (ko e)).1) ?_
     refine ⟨_,rfl,.inl ⟨rfl,_,SqL.of (s2 _ _ h1)⟩,_,rfl,l,_,_,rfl,rfl,s2 _ _ h1,(by rw [hl1];simp at hW;omega),?_⟩
     exact push H2 (fun z hz e=>hyx (by rw [e,aP];simpa using hz)) s2
  ·rintro σ H1 ⟨v,W,rfl,h1,hW,mW,rW,s1⟩
   rw [bt] at hW
   refine ⟨fun m σ H'=>∃ (v:Option V) (W:List L) (l2:Addr),σ = [some (tx u),some (.ref l2),v]∧H' l2=some (.lst (bx W))∧W.length≤u.length∧(∀ x∈W,x∈u)∧Wd.Rd W∧aD H H'∧m=W.length,⟨_,v,W,l,rfl,h1,hW,mW,rW,s1,rfl⟩,?_⟩
   rintro m σ H2 ⟨v,W,l2,rfl,h2,hW2,mW2,rW2,s2,rfl⟩
   have fin:∀ H3,Cyc W→aD H2 H3→Q (tx W) H3:=fun H3 c s3=>k W H3 hW2 mW2 c (s2.trans s3)
   refine ⟨_,rfl,l2,_,rfl,.inl (SqL.of h2),_,_,rfl,rfl,_,rfl,?_⟩
   rw [aH]
   by_cases g1:1 < W.length
   ·refine kq (Bg (by omega)) ?_
    obtain ⟨x,mid,y,rfl⟩:∃ x mid y,W=x::(mid++[y]):=by
     cases W with
     | nil=>simp at g1
     | cons x r =>
      have hr:r≠[]:=by
       intro e
       subst e
       simp at g1
      exact ⟨x,r.dropLast,r.getLast hr,by rw [Eg]⟩
    have a0:atI (bx (x::(mid++[y]))) 0=some (tx [x]):=o4 rfl
    have al:atI (bx (x::(mid++[y]))) (-1)=some (tx [y]):=by
     have e:bx (x::(mid++[y]))=bx (x::mid)++[tx [y]]:=by rw [bV];rfl
     rw [e]
     exact kf _ _
    refine ⟨_,rfl,l2,_,_,_,rfl,rfl,SqL.of h2,a0,_,rfl,_,rfl,l2,_,_,_,rfl,rfl,SqL.of h2,al,[y],rfl,(by show 1≤5000;decide),fun H3 s3=>?_⟩
    refine ⟨rfl,_,rfl,?_⟩
    rw [cR]
    by_cases hxy:x=inv y
    ·refine kq (by rw [hxy];exact Bg rfl) ⟨_,fun σ' H' q=>q,?_⟩
     refine ⟨_,rfl,_,rfl,_,rfl,_,rfl,l2,_,rfl,SqL.of (s3 _ _ h2),fun l3 hl3=>?_⟩
     rw [rD]
     refine ⟨mid.length,by simp;omega,v,mid,l3,rfl,ag,by simp at hW2;omega,fun z hz=>mW2 z (A5 _ (BB _ hz)),xh rW2,(s2.trans s3).then hl3,rfl⟩
    ·refine kr (AZ fun e=>hxy (CO (ko e)).1) ?_
     exact ⟨rfl,_,rfl,_,l2,(_:List L).map fun x=>toS [x],rfl,rfl,SqL.of (by rw [s3 _ _ h2,cy]),bX _ (by omega),by rw [bW];exact fin H3 (uN rW2 hxy) s3⟩
   ·refine kr (AZ (by omega)) (vI ?_)
    exact ⟨rfl,_,rfl,_,l2,(_:List L).map fun x=>toS [x],rfl,rfl,SqL.of (by rw [(aD.refl _) _ _ h2,cy]),bX _ (by omega),by rw [bW];exact fin H2 (uO g1) (aD.refl _)⟩
theorem xW {m:Nat}(h:m≤6){x:L}(hx:x∈sg (m:Int)):x.val % 6 < m:=by
 have q:∀ (m:Fin 7) (x:L),x∈([0,1,2,3,4,5]:List L).take m.val++([6,7,8,9,10,11]:List L).take m.val→x.val % 6 < m.val:=by decide
 exact q ⟨m,by omega⟩ x hx
theorem pP {u:List L}{x:L}:∀ {n:Nat},x∈rep n u→x∈u
 | 0,h=>by cases h
 | n+1,h=>by
  have h:x∈rep n u++u:=h
  rcases Bo.mp h with h | h
  ·exact pP h
  ·exact h
abbrev zN:Stmt:=top 33
theorem zO:aE ["_law_tape_here","_law_many","_law_long","_law_signs","_law_word","_law_at"] ["_law_tape_here","_law_many","_law_long"] (ak zN):=⟨rfl,rfl,rfl,by decide +kernel,rfl,by decide +kernel,by decide +kernel⟩
theorem AU (D:Df K mg "_law_any_way" zN)(T:Bt K w mg aB)(Gr:Fnc P w K mg base "_law_draw" ["_law_tape_here","_law_many"] 1 cC)(G9:Fnc P w K mg base "_law_inner" ["_law_word"] 2 ig)(GM:Fnc P w K mg base "_law_rooted" ["_law_word"] 1 ij):Fnc P w K mg base "_law_any_way" ["_law_tape_here","_law_many","_law_long"] 3 jO:=by
 have sc:=zO
 refine D.ok sc (fun _ _ _ _ _ _ us hl=>by obtain ⟨_,_,_,rfl⟩:=tw hl;rfl) (fun vs H Q E h=>?_) (fun f Gz A outer s H vs Q E hr h=>?_)
 ·obtain ⟨d,c,m,n,rfl,_⟩:=h
  rfl
 ·obtain ⟨d,c,m0,n,rfl,F,m1,m2,n1,n2,k⟩:=h
  have m1:(1:Int)≤(m0:Int):=by omega
  have m2:(m0:Int)≤6:=by omega
  have k:∀ (v:List L) (H2:Hp),Rnd v→v.length≤n.toNat→(∀ x∈v,x∈sg (m0:Int))→Tp H2 d c→bp d H H2→Q (tx v) H2:=fun v H2 a1 a2 a3=>k v H2 ⟨a1,a2,fun x hx=>xW (by omega) (a3 x hx)⟩
  generalize (m0:Int)=m at m1 m2 k ⊢
  have GI:=ba
  refine ⟨_,(FS (FX (3) sc.nd rfl (Or.inr rfl) (FT bB (FQ bM bP bb (FR (pv 1))) (FQ bM bP bb (FR (pv 1))))) (FS (FX (4) sc.nd rfl (Or.inl rfl) (F0 Bs Cv Cw eC bP (FO (F8 (["_law_k","_law_signs","_law_tape_here","_law_many"]) (["_law_k"]) ([3,0,1]) (F_ rfl (by kernel_rfl)) rfl (Gm rfl T.range (FO (FT cF ai (Ge Gr hr (by decide) rfl (FO (pv 0) (FO (pv 2) ae)))) ae)) (fun _ _ _ _=>Ga (0) (show (["_law_k","_law_signs","_law_tape_here","_law_many"]:List Str).Nodup from by decide +kernel) rfl (Or.inl rfl)) (fun _ _ _ _=>bG) (fun _ _ _ _=>by (exact (FU fo (pv 1) (Ge Gr hr (by decide) rfl (FO (pv 2) (FO (FT dI ai (pv 3)) ae))) (fun _ _=>rfl))))) ae))) (FS (FV (FW d9 (Ge Gr hr (by decide) rfl (FO (pv 0) (FO ai ae))) ai (a8 _)) (FS (FX (5) sc.nd rfl (Or.inl rfl) (FT cF ai (Ge Gr hr (by decide) rfl (FO (pv 0) (FO ai ae))))) (FL (FX (4) sc.nd rfl (Or.inl rfl) (FT bB (FT fX (FQ bM (pv 4) bb (FR (pv 5))) (FT cF ai (Ge Gr hr (by decide) rfl (FO (pv 0) (FO ai ae))))) (FQ bM (pv 4) (FR (pv 5)) bb))))) bo) (FL (FM (@wI _ _ _ _ _ _ _ (Ge GM hr (by decide) rfl (FO (Ge G9 hr (by decide) rfl (FO (FQ bM (pv 4) bb (FR (pv 2))) ae)) ae)) (@vS _ _ _ _ _ (FU fo (pv 3) ai (fun _ _=>rfl))))))))),?_⟩
  refine ⟨_,rfl,_,rfl,_,rfl,(by rw [iO];omega),_,rfl,_,rfl,_,rfl,(by rw [nK];omega),_,_,rfl,rfl,?_,?_⟩
  ·have h1:=D1 ("abcdef":Str) none (some m)
   have h2:=D1 ("ABCDEF":Str) none (some m)
   rw [iO] at h1
   rw [nK] at h2
   omega
  rw [qw m1]
  have hsg:=nJ m1 m2
  refine ⟨rfl,_,rfl,_,rfl,d,c,_,rfl,F,by omega,by omega,fun r H1 r0 r1 F1 sb1=>?_⟩
  refine ⟨_,_,rfl,rfl,_,rfl,by omega,by omega,?_⟩
  refine cw (own:=["_law_k"]) (cap:=[3,0,1]) (J:=Itr 0 (1+r).toNat) (1+r).toNat (fun i ys σ H'=>∃ (v:Option V) (W:List L),σ = [v,some (tx (sg m)),some (.ref d),some (.int m)]∧ys=bx W∧W.length=i∧(∀ x∈W,x∈sg m)∧Tp H' d c∧bp d H H')
   ⟨none,[],rfl,rfl,rfl,(fun x hx=>by cases hx),F1,sb1⟩ (fun i ys σ H' hi ⟨v,W,_,e,e2,_⟩=>by rw [e,aH,e2];exact A8 _) (by omega) (fun i ys σ H' hi _=>hi) (fun ys σ H' _=>A8 _) ?_ ?_
  ·rintro i ys σ H2 x H3 N hi ⟨v,W,rfl,rfl,hW,mW,F2,sb2⟩ ⟨rfl,rfl⟩ hN
   refine ⟨_,rfl,_,rfl,_,rfl,_,_,rfl,rfl,.inl ⟨by decide,by decide⟩,d,c,_,rfl,F2,by omega,by omega,fun q H4 q0 q1 F4 GX=>?_⟩
   have hq:q.toNat < (sg m).length:=by omega
   refine ⟨_,_,cp (sg m)[q.toNat],rfl,rfl,(by rw [af];omega),cT (k:=q.toNat) (by omega) (fu hq),hN _ _ _ ⟨_,W++[(sg m)[q.toNat]],rfl,(bV _ _),by rw [A7,hW];rfl,fun x hx=>(Bo.mp hx).elim (mW x) (fun hx=>by rw [A2.mp hx];exact BF hq),F4,sb2.trans GX⟩⟩
  rintro ys σ H2 l ⟨v,W,rfl,rfl,hW,mW,F2,sb2⟩ hl
  refine ⟨_,l,W.map fun x=>toS [x],rfl,rfl,SqL.of (by rw [ag,cy]),bX _ (by omega),?_⟩
  rw [bW]
  have F3:=F2.new (o:=.lst (bx W)) hl
  have GW:=sb2.trans (aD.new (o:=.lst (bx W)) hl).b
  generalize upd H2 l (.lst (bx W))=H3 at F3 GW ⊢
  have hW15:W.length≤30:=by omega
  -- what comes behind
  have hs0:∃ x,(sg m)[0]? = some x:=⟨(sg m)[0]'(by omega),fu (by omega)⟩
  obtain ⟨x0,hx0⟩:=hs0
  refine ⟨_,rfl,d,c,_,rfl,F3,by decide,by decide,fun q H4 q0 q1 F4 GX=>?_⟩
  refine ⟨rfl,_,rfl,?_⟩
  have end_:∀ (Z:List L) (H5:Hp),Z.length≤60→Tp H5 d c→bp d H H5→(∀ (v:List L) (H6:Hp),Rnd v→v.length≤n.toNat→(∀ x∈v,x∈sg m)→aD H5 H6→Q (tx v) H6):=fun Z H5 _ F5 sb5 v H6 ne hv mv s6=>k v H6 ne hv mv (F5.same s6) (sb5.trans s6.b)
  refine kj (fun _=>?_) (fun _=>?_)
  ·refine ⟨_,rfl,d,c,_,rfl,F4,by decide,by decide,fun a H5 a0 a1 F5 sb5=>⟨_,_,rfl,rfl,?_⟩⟩
   have c1:Txt.slice (toS W) none (some (1+a))=toS (W.take (1+a).toNat):=by rw [a_,cU _ (by omega)]
   have c2:Txt.slice (toS W) (some (1+a)) none=toS (W.drop (1+a).toNat):=by rw [a_,eX _ (by omega)]
   refine ⟨_,rfl,_,rfl,_,rfl,_,rfl,(by rw [af];omega),?_⟩
   rw [c1]
   refine ⟨_,rfl,d,c,_,rfl,F5,by decide,by decide,fun b H6 b0 b1 F6 sb6=>⟨_,_,rfl,rfl,?_⟩⟩
   refine ⟨_,_,rfl,rfl,iN _ (by omega) (by omega) (by rw [Bd];omega),?_⟩
   rw [nI]
   have hrl:(rep (2+b).toNat (W.take (1+a).toNat)).length≤12:=by
    rw [eE,Bd]
    exact BQ (Nat.mul_le_mul (show (2+b).toNat≤4 by omega) (show min (1+a).toNat W.length≤3 by omega)) (by decide)
   have hrm:∀ x∈rep (2+b).toNat (W.take (1+a).toNat),x∈sg m:=fun x hx=>mW x (Ce (pP hx))
   generalize rep (2+b).toNat (W.take (1+a).toNat)=R1 at hrl hrm ⊢
   refine ⟨_,rfl,_,rfl,_,rfl,_,rfl,(by rw [af];omega),?_⟩
   rw [c2]
   refine ⟨_,_,rfl,rfl,(by rw [af,af,BS];omega),?_⟩
   rw [eP]
   have hZ:(R1++W.drop (1+a).toNat).length≤60:=by rw [A7,BS];omega
   have hZm:∀ x∈R1++W.drop (1+a).toNat,x∈sg m:=fun x hx=>(Bo.mp hx).elim (hrm x) fun hx=>mW x (Cz hx)
   have sb06:=GW.trans (GX.trans (sb5.trans sb6))
   generalize R1++W.drop (1+a).toNat=Z at hZ hZm ⊢
   have cz:Txt.slice (toS Z) none (some n)=toS (Z.take n.toNat):=by rw [a_,cU _ (by omega)]
   refine ⟨_,rfl,_,rfl,_,rfl,_,rfl,(by rw [af];omega),?_⟩
   rw [cz]
   have hzl:(Z.take n.toNat).length≤n.toNat:=by rw [Bd];omega
   refine ⟨Z.take n.toNat,rfl,by omega,fun v1 H7 hv1 mv1 cv1 s7=>⟨v1,rfl,by omega,fun v2 hv2 mv2 cv2=>?_⟩⟩
   refine ⟨_,rfl,(by rw [af];omega),kj (fun e2=>end_ Z _ hZ F6 sb06 v2 H7 ((cv2 cv1).rnd (by rintro rfl;exact absurd e2 (by decide))) (by omega) (fun x hx=>hZm x (Ce (mv1 x (mv2 x hx)))) s7) (fun _=>?_)⟩
   refine ⟨_,rfl,_,_,cp x0,rfl,rfl,(by rw [af];omega),cT (k:=0) rfl hx0,?_⟩
   exact end_ Z _ hZ F6 sb06 [x0] H7 (ib _) (by show 1≤_;omega) (fun x hx=>by rw [A2.mp hx];exact BK hx0) s7
  ·have hZ:W.length≤60:=by omega
   have sb06:=GW.trans GX
   have hZm:=mW
   generalize W=Z at hZ hZm ⊢
   have cz:Txt.slice (toS Z) none (some n)=toS (Z.take n.toNat):=by rw [a_,cU _ (by omega)]
   refine ⟨_,rfl,_,rfl,_,rfl,_,rfl,(by rw [af];omega),?_⟩
   rw [cz]
   have hzl:(Z.take n.toNat).length≤n.toNat:=by rw [Bd];omega
   refine ⟨Z.take n.toNat,rfl,by omega,fun v1 H7 hv1 mv1 cv1 s7=>⟨v1,rfl,by omega,fun v2 hv2 mv2 cv2=>?_⟩⟩
   refine ⟨_,rfl,(by rw [af];omega),kj (fun e2=>end_ Z _ hZ F4 sb06 v2 H7 ((cv2 cv1).rnd (by rintro rfl;exact absurd e2 (by decide))) (by omega) (fun x hx=>hZm x (Ce (mv1 x (mv2 x hx)))) s7) (fun _=>?_)⟩
   refine ⟨_,rfl,_,_,cp x0,rfl,rfl,(by rw [af];omega),cT (k:=0) rfl hx0,?_⟩
   exact end_ Z _ hZ F4 sb06 [x0] H7 (ib _) (by show 1≤_;omega) (fun x hx=>by rw [A2.mp hx];exact BK hx0) s7
theorem pQ {α:Type}{xs:List α}{j:Int}(h0:0≤j)(h1:j < xs.length):∃ v,v∈xs∧atI xs j=some v:=by
 have hj:j.toNat < xs.length:=by omega
 refine ⟨xs[j.toNat],BF hj,?_⟩
 unfold atI ixN
 rw [if_pos h0,if_pos (by omega)]
 exact fu hj
abbrev jY:Stmt:=top 34
theorem rF:aE ["_law_tape_here","_law_many","_law_most","_law_long","_law_ways","_law_k","_law_word","_law_at"] ["_law_tape_here","_law_many","_law_most","_law_long"] (ak jY):=⟨rfl,rfl,rfl,by decide +kernel,rfl,by decide +kernel,by decide +kernel⟩
theorem vq (D:Df K mg "_law_some_ways" jY)(T:Bt K w mg aB)(Gr:Fnc P w K mg base "_law_draw" ["_law_tape_here","_law_many"] 1 cC)(GA:Fnc P w K mg base "_law_back" ["_law_word"] 1 lO)(F_aw:Fnc P w K mg base "_law_any_way" ["_law_tape_here","_law_many","_law_long"] 3 jO):Fnc P w K mg base "_law_some_ways" ["_law_tape_here","_law_many","_law_most","_law_long"] 4 ir:=by
 have sc:=rF
 refine D.ok sc (fun _ _ _ _ _ _ us hl=>by obtain ⟨_,_,_,_,rfl⟩:=u3 hl;rfl) (fun vs H Q E h=>?_) (fun f Gz A outer s H vs Q E hr h=>?_)
 ·obtain ⟨d,c,m,n,rfl,_⟩:=h
  rfl
 ·obtain ⟨d,c,m,n,rfl,F,m1,m2,n1,n2,k⟩:=h
  have GI:=ba
  refine ⟨_,(FS (FX (4) sc.nd rfl (Or.inl rfl) (FN (FO (Ge F_aw hr (by decide) rfl (FO (pv 0) (FO (pv 1) (FO (pv 3) ae)))) ae))) (FS (Gk B3 rfl (Gm rfl T.range (FO (Ge Gr hr (by decide) rfl (FO (pv 0) (FO (pv 2) ae))) ae)) (Ga (5) sc.nd rfl (Or.inl rfl)) (FS (FX (6) sc.nd rfl (Or.inl rfl) (Ge F_aw hr (by decide) rfl (FO (pv 0) (FO (pv 1) (FO (pv 3) ae))))) (FS (FV (FW d9 (Ge Gr hr (by decide) rfl (FO (pv 0) (FO ai ae))) ai (a8 _)) (FS (FX (6) sc.nd rfl (Or.inl rfl) (FU bg (pv 4) (Ge Gr hr (by decide) rfl (FO (pv 0) (FO (FY aO (by rfl) T.len Bq (FO (pv 4) ae)) ae))) (fun _ _=>rfl))) (FS (FX (7) sc.nd rfl (Or.inl rfl) (Ge Gr hr (by decide) rfl (FO (pv 0) (FO (FY aC (by rfl) T.len Bq (FO (pv 6) ae)) ae)))) (FS (FX (6) sc.nd rfl (Or.inl rfl) (FU bg (FN (FO (pv 6) (FO (Ge GA hr (by decide) rfl (FO (pv 6) ae)) ae))) (Ge Gr hr (by decide) rfl (FO (pv 0) (FO ai ae))) (fun _ _=>rfl))) (FL (FX (6) sc.nd rfl (Or.inl rfl) (FT bB (FQ bM (pv 6) (FR (pv 7)) bb) (FQ bM (pv 6) bb (FR (pv 7))))))))) bo) (FL (Gj (F0 BW E2 E3 iH (pv 4) (FO (pv 6) ae))))))) (FL (FM (FP cq (by rfl) T.tuple jl (FO (pv 4) ae)))))),?_⟩
  refine ⟨_,rfl,_,rfl,_,rfl,d,c,m,n,rfl,F,m1,m2,n1,by omega,fun v0 H1 g0 F1 sb1=>⟨(c0 (n:=1) (by decide)),fun l hl=>?_⟩⟩
  have hld:=F1.ne hl
  have hlc:=F1.nec hl
  have hlH:H l=none:=by
   cases e:H l with
   | none=>rfl
   | some o =>
    have:=sb1 _ _ hld e
    rw [hl] at this
    cases this
  refine ⟨_,rfl,_,rfl,d,c,3,rfl,F1.new hl,by decide,by decide,fun r H2 r0 r1 F2 sb2=>?_⟩
  have f2:=sb2 _ _ hld (ag (o:=.lst [tx v0]))
  have sb2:=(sb1.trans ((aD.new (o:=.lst [tx v0]) hl).b (d:=d))).trans sb2
  refine ⟨_,rfl,by omega,by omega,?_⟩
  refine bD (lo:=0) (n:=r.toNat) (fun i σ H'=>∃ (a5 a6 a7:Option V) (W:List (List L)),σ = [some (.ref d),some (.int (m:Int)),some (.int 3),some (.int n),some (.ref l),a5,a6,a7]∧H' l=some (.lst (W.map tx))∧W.length=i+1∧(∀ w∈W,GR m 8 w)∧Tp H' d c∧bp d H H') ⟨none,none,none,[v0],rfl,f2,rfl,(fun w hw=>by rw [A2.mp hw];exact g0.le (by omega)),F2,sb2⟩ ?_ ?_
  ·rintro i σ H3 hi ⟨a5,a6,a7,W,rfl,f3,hW,gW,F3,GW⟩
   refine ⟨_,rfl,_,rfl,_,rfl,d,c,m,n,rfl,F3,m1,m2,n1,by omega,fun v H4 gv F4 GX=>?_⟩
   have f4:=GX _ _ hld f3
   have GX:=GW.trans GX
   have fin:∀ (w:List L) (a7:Option V) (H':Hp),GR m 8 w→H' l=some (.lst (W.map tx))→Tp H' d c→bp d H H'→∃ (a5 a6 a7':Option V) (W':List (List L)),[some (V.ref d),some (.int (m:Int)),some (.int 3),some (.int n),some (.ref l),some (.int (0+(i:Int))),some (tx w),a7]=[some (V.ref d),some (.int (m:Int)),some (.int 3),some (.int n),some (.ref l),a5,a6,a7']∧(upd H' l (.lst (W.map tx++[tx w]))) l=some (.lst (W'.map tx))∧W'.length=i+1+1∧(∀ w∈W',GR m 8 w)∧Tp (upd H' l (.lst (W.map tx++[tx w]))) d c∧bp d H (upd H' l (.lst (W.map tx++[tx w]))):=by
    intro w a7 H' hw f' F' sb'
    refine ⟨_,_,_,W++[w],rfl,by rw [ag,BU];rfl,by rw [A7,hW];rfl,fun x hx=>?_,F'.but hld hlc bp.upd,fun b o nb e=>?_⟩
    ·rcases Bo.mp hx with hx | hx
     ·exact gW x hx
     ·rw [A2.mp hx];exact hw
    ·rw [aW (aq e hlH)];exact sb' _ _ nb e
   refine ⟨_,rfl,d,c,_,rfl,F4,by decide,by decide,fun q H5 q0 q1 F5 sb5=>⟨rfl,_,rfl,?_⟩⟩
   have f5:=sb5 _ _ hld f4
   have sb5:=GX.trans sb5
   refine kj (fun _=>?_) (fun _=>?_)
   ·refine ⟨_,rfl,_,rfl,_,rfl,l,_,rfl,.inl (SqL.of f5),d,c,_,rfl,F5,by rw [AY];omega,by rw [AY];omega,fun j H6 j0 j1 F6 sb6=>?_⟩
    have f6:=sb6 _ _ hld f5
    have sb6:=sb5.trans sb6
    obtain ⟨x,hx,ax⟩:=pQ j0 j1
    obtain ⟨w0,hw0,rfl⟩:=BD.mp hx
    have gw:=gW w0 hw0
    have wl:=gw.2.1
    have wp:0 < w0.length:=BN.mpr gw.1.ne
    refine ⟨l,_,_,_,rfl,rfl,SqL.of f6,ax,?_⟩
    refine ⟨_,rfl,_,rfl,_,rfl,(by rw [af];omega),d,c,_,rfl,F6,by rw [af];omega,by rw [af];omega,fun a H7 a0 a1 F7 sb7=>?_⟩
    have f7:=sb7 _ _ hld f6
    have sb7:=sb6.trans sb7
    refine ⟨_,rfl,_,rfl,w0,rfl,by omega,fun H8 s8=>⟨(c0 (n:=2) (by decide)),fun p hp=>?_⟩⟩
    have s9:=s8.then (o:=.lst [tx w0,tx (bk w0)]) hp
    have f9:=s9 _ _ f7
    have F9:=F7.same s9
    have sb9:=sb7.trans s9.b
    have hpd:=(F7.same s8).ne hp
    refine ⟨_,rfl,d,c,_,rfl,F9,by decide,by decide,fun b H10 b0 b1 F10 sb10=>?_⟩
    have f10:=sb10 _ _ hld f9
    have g10:=sb10 _ _ hpd (ag (o:=.lst [tx w0,tx (bk w0)]))
    have sb10:=sb9.trans sb10
    obtain ⟨x,hx,ax⟩:=pQ (xs:=[tx w0,tx (bk w0)]) b0 b1
    obtain ⟨w1,g1,rfl⟩:∃ w1,GR m 8 w1∧x=tx w1:=by
     rcases Bm.mp hx with rfl | hx
     ·exact ⟨w0,gw,rfl⟩
     ·rw [A2.mp hx]
      exact ⟨_,gw.bk,rfl⟩
    have w1l:=g1.2.1
    refine ⟨p,_,_,_,rfl,rfl,SqL.of g10,ax,?_⟩
    have c1:Txt.slice (toS w1) none (some a)=toS (w1.take a.toNat):=by rw [a_,cU _ (by omega)]
    have c2:Txt.slice (toS w1) (some a) none=toS (w1.drop a.toNat):=by rw [a_,eX _ (by omega)]
    refine ⟨_,rfl,_,rfl,_,rfl,_,rfl,(by rw [af];omega),?_⟩
    rw [c2]
    refine ⟨_,rfl,_,rfl,_,rfl,_,rfl,(by rw [af];omega),?_⟩
    rw [c1]
    refine ⟨_,_,rfl,rfl,(by rw [af,af,BS,Bd];omega),?_⟩
    rw [eP]
    refine ⟨_,rfl,.inl ⟨rfl,_,SqL.of f10⟩,_,rfl,l,_,_,rfl,rfl,f10,by rw [AY];omega,?_⟩
    exact fin _ _ _ (g1.turn _) f10 F10 sb10
   ·refine ⟨_,rfl,.inl ⟨rfl,_,SqL.of f5⟩,_,rfl,l,_,_,rfl,rfl,f5,by rw [AY];omega,?_⟩
    exact fin _ _ _ (gv.le (by omega)) f5 F5 sb5
  ·rintro σ H3 ⟨a5,a6,a7,W,rfl,f3,hW,gW,F3,GW⟩
   refine ⟨_,rfl,l,_,rfl,.inl ⟨SqL.of f3,fun p hp=>?_⟩⟩
   exact k p W _ (F3.new hp) (GW.trans (aD.new hp).b) ag (by omega) (by omega) gW
theorem mi:∀ k:Fin 7,(([0,1,2,3,4,5]:List L).take k.val).map (fun x:L=>x.val)=List.range k.val:=by decide
theorem vr:∀ (k:Fin 7) (i:Fin 6),i.val < k.val→(([0,1,2,3,4,5]:List L).take k.val)[i.val]? = some ⟨i.val,by omega⟩:=by decide
theorem vt {N:List L}{z w:L}(h:w.val % 6 < N.length):nm (N++[z]) w=nm N w:=by
 have:=w.isLt
 unfold nm
 by_cases hw:w.val < 6
 ·rw [if_pos hw,if_pos hw,A9,A9,BL (by omega)]
 ·rw [if_neg hw,if_neg hw,A9,A9,BL (by omega)]
theorem vv {N:List L}{z x:L}(h:x.val=N.length)(h6:x.val < 6):nm (N++[z]) x=z:=by
 unfold nm
 rw [if_pos h6,A9,h,Bp (A8 _),D2]
 rfl
theorem lh {x y:L}(h:toS [x]=toS [y]):x=y:=(CO (jk h)).1
abbrev jZ:Stmt:=top 35
theorem rG:aE ["_law_tape_here","_law_many","_law_left","_law_names","_law_sign","_law_name"] ["_law_tape_here","_law_many"] (ak jZ):=⟨rfl,rfl,rfl,by decide +kernel,rfl,by decide +kernel,by decide +kernel⟩
theorem vw (D:Df K mg "_law_other_names" jZ)(T:Bt K w mg aB)(Gr:Fnc P w K mg base "_law_draw" ["_law_tape_here","_law_many"] 1 cC)(GA:Fnc P w K mg base "_law_back" ["_law_word"] 1 lO):Fnc P w K mg base "_law_other_names" ["_law_tape_here","_law_many"] 2 jC:=by
 have sc:=rG
 refine D.ok sc (fun _ _ _ _ _ _ us hl=>by obtain ⟨_,_,rfl⟩:=rn hl;rfl) (fun vs H Q E h=>?_) (fun f Gz A outer s H vs Q E hr h=>?_)
 ·obtain ⟨d,c,n,rfl,_⟩:=h
  rfl
 ·obtain ⟨d,c,n,rfl,F,h1,h6,k⟩:=h
  have hu:=t_ hr
  have GI:=ba
  have e6:("abcdef":Str).length=6:=by decide +kernel
  have ez:Txt.slice ("abcdef":Str) none (some (n:Int))=toS (([0,1,2,3,4,5]:List L).take n):=by
   rw [← qt,a_,cU _ (by omega),BR]
  refine ⟨_,(FS (FX (2) sc.nd rfl (Or.inl rfl) (FP (@fv _ rfl) (by rfl) T.list si (FO (FQ bM bP bb (FR (pv 1))) ae))) (FS (FX (3) sc.nd rfl (Or.inl rfl) qm) (FS (Gk B3 rfl (@fV _ _ _ _ (FQ bM bP bb (FR (pv 1)))) (Ga (4) sc.nd rfl (Or.inl rfl)) (FS (FX (5) sc.nd rfl (Or.inl rfl) (F0 BW PySem.F.slot_list_pop PySem.F.type_list_pop qk (pv 2) (FO (Ge Gr hr (by decide) rfl (FO (pv 0) (FO (FY aO (by rfl) T.len Bq (FO (pv 2) ae)) ae))) ae))) (FS (FV (FW d9 (Ge Gr hr (by decide) rfl (FO (pv 0) (FO ai ae))) ai (a8 _)) (FL (FX (5) sc.nd rfl (Or.inl rfl) (@kg _ _ _ _ _ _ _ _ _ Bs DW DX gH (pv 5) (by rfl) (by rfl)))) bo) (FS (@ni _ _ _ _ _ _ _ _ _ hu (pv 3) (pv 4) (pv 5) rfl) (FL (@ni _ _ _ _ _ _ _ _ _ hu (pv 3) (@kg _ _ _ _ _ _ _ _ _ Bs DW DX gH (pv 4) (by rfl) (by rfl)) (Ge GA hr (by decide) rfl (FO (pv 5) ae)) rfl)))))) (FL (FM (pv 3)))))),?_⟩
  refine ⟨_,rfl,_,rfl,_,rfl,by omega,?_⟩
  rw [ez]
  refine ⟨_,rfl,(by rw [af,Bd];simp;omega),fun l hl=>?_⟩
  rw [me]
  have s1:aD H (upd H l (.lst (bx (([0,1,2,3,4,5]:List L).take n)))):=aD.new hl
  have f1:(upd H l (.lst (bx (([0,1,2,3,4,5]:List L).take n)))) l=some (.lst (bx (([0,1,2,3,4,5]:List L).take n))):=ag
  generalize upd H l (.lst (bx (([0,1,2,3,4,5]:List L).take n)))=H1 at s1 f1 ⊢
  intro a ha
  have la:a≠l:=(aq f1 ha).symm
  have s2:aD H1 (upd H1 a (.dK [])):=aD.new ha
  have f2:(upd H1 a (.dK [])) a=some (.dK []):=ag
  have g2:=s2 _ _ f1
  have ha0:=none_of s1 ha
  have s2:=s1.trans s2
  generalize upd H1 a (.dK [])=H2 at s2 f2 g2 ⊢
  have ld:l≠d:=F.ne hl
  have lc:l≠c:=F.nec hl
  have ad:a≠d:=F.ne ha0
  have ac:a≠c:=F.nec ha0
  refine ⟨_,rfl,_,rfl,_,rfl,by omega,?_⟩
  rw [ez]
  refine ⟨_,rfl,nz (z:=toS (([0,1,2,3,4,5]:List L).take n)) (fun i σ H'=>∃ (v nme:Option V) (N left:List L),σ = [some (.ref d),some (.int (n:Int)),some (.ref l),some (.ref a),v,nme]∧H' l=some (.lst (bx left))∧ml H' a N i∧N.length=i∧((N.map fun x:L=>x.val % 6)++left.map fun x:L=>x.val).Perm (List.range n)∧Tp H' d c∧bp d H H')
   ⟨none,none,[],([0,1,2,3,4,5]:List L).take n,rfl,g2,⟨[],f2,A8 _,fun x hx=>absurd hx (by omega)⟩,rfl,(by rw [Dz,List.nil_append];rw [mi ⟨n,by omega⟩]),F.same s2,s2.b⟩ ?_ ?_⟩
  ·rintro i ch σ H3 hc ⟨v,nme,N,left,rfl,f3,m3,hN,pm,F3,GW⟩
   obtain ⟨x,hx,e⟩:=cS hc
   rw [e]
   have hi:i < n:=by
    have:=(A6.mp hx).1
    rw [Bd] at this
    simp at this
    omega
   have hxi:x=⟨i,by omega⟩:=by
    have:=vr ⟨n,by omega⟩ ⟨i,by omega⟩ hi
    rw [hx] at this
    exact A_ this
   have GS:left.length=n - i:=by
    have:=pm.length_eq
    rw [A7,AY,AY,List.length_range] at this
    omega
   refine ⟨_,rfl,.inl ⟨rfl,_,SqL.of f3⟩,_,rfl,_,rfl,l,_,rfl,.inl (SqL.of f3),d,c,_,rfl,F3,by rw [aH];omega,by rw [aH];omega,fun r H4 r0 r1 F4 GX=>?_⟩
   rw [aH] at r1
   have f4:=GX _ _ ld f3
   have hrk:r.toNat < left.length:=by omega
   have gy:left[r.toNat]? = some left[r.toNat]:=fu hrk
   generalize left[r.toNat]=y at gy
   refine ⟨l,_,r,r.toNat,tx [y],rfl,rfl,f4,by omega,by omega,(jh (by unfold ixN;rw [if_pos r0,if_pos (by rw [aH];omega)])).1,(by unfold bx;rw [Bi,gy];rfl),?_⟩
   rw [mf]
   have s5:bp l H4 (upd H4 l (.lst (bx (left.eraseIdx r.toNat)))):=bp.upd
   have f5:(upd H4 l (.lst (bx (left.eraseIdx r.toNat)))) l=some (.lst (bx (left.eraseIdx r.toNat))):=ag
   generalize upd H4 l (.lst (bx (left.eraseIdx r.toNat)))=H5 at s5 f5 ⊢
   have F5:=F4.but ld lc s5
   have m5:ml H5 a N i:=(m3.at_ fun o e=>GX _ _ ad e).at_ fun o e=>s5 _ _ la e
   have sb5:bp d H H5:=fun b o n e=>s5 _ _ (aq e hl) (GX _ _ n (GW _ _ n e))
   have hy6:y.val < 6:=by
    have:y.val∈(N.map fun x:L=>x.val % 6)++left.map fun x:L=>x.val:=Bo.mpr (.inr (BD.mpr ⟨y,BK gy,rfl⟩))
    have:=Cn.mp (pm.mem_iff.mp this)
    omega
   refine ⟨_,rfl,d,c,_,rfl,F5,by decide,by decide,fun t H6 t0 t1 F6 sb6=>?_⟩
   have f6:=sb6 _ _ ld f5
   have m6:ml H6 a N i:=m5.at_ fun o e=>sb6 _ _ ad e
   have sb6:=sb5.trans sb6
   have le:=gp gy
   obtain ⟨Gq,k1,k2,k3⟩:=m6.ex
   have fin:∀ (z:L) (H8:Hp),z.val % 6=y.val→aD (upd H6 a (.dK (eB Gq (Sum.inr (toS [x])) (tx [z])))) H8→(upd H8 a (.dK (eB (eB Gq (Sum.inr (toS [x])) (tx [z])) (Sum.inr (toS [inv x])) (tx [inv z])))) l=some (.lst (bx (left.eraseIdx r.toNat))) ∧
     ml (upd H8 a (.dK (eB (eB Gq (Sum.inr (toS [x])) (tx [z])) (Sum.inr (toS [inv x])) (tx [inv z])))) a (N++[z]) (i+1)∧(N++[z]).length=i+1∧(((N++[z]).map fun x:L=>x.val % 6)++(left.eraseIdx r.toNat).map fun x:L=>x.val).Perm (List.range n) ∧
     Tp (upd H8 a (.dK (eB (eB Gq (Sum.inr (toS [x])) (tx [z])) (Sum.inr (toS [inv x])) (tx [inv z])))) d c∧bp d H (upd H8 a (.dK (eB (eB Gq (Sum.inr (toS [x])) (tx [z])) (Sum.inr (toS [inv x])) (tx [inv z])))):=fun z H8 hz s8=>by
    have u1:bp a H6 (upd H6 a (.dK (eB Gq (Sum.inr (toS [x])) (tx [z])))):=bp.upd
    have u2:bp a H8 (upd H8 a (.dK (eB (eB Gq (Sum.inr (toS [x])) (tx [z])) (Sum.inr (toS [inv x])) (tx [inv z])))):=bp.upd
    refine ⟨u2 _ _ la.symm (s8 _ _ (u1 _ _ la.symm f6)),⟨_,ag,?_,fun w hw=>?_⟩,by rw [A7,hN];rfl,?_,(((F6.but ad ac u1).same s8).but ad ac u2),fun b o n e=>?_⟩
    ·have h1:=bI Gq (Sum.inr (toS [x]):Key) (tx [z])
     have h2:=bI (eB Gq (Sum.inr (toS [x]):Key) (tx [z])) (Sum.inr (toS [inv x]):Key) (tx [inv z])
     omega
    ·rw [ki,ki]
     have hl:nm (N++[z]) x=z:=vv (by rw [hxi,hN]) (by rw [hxi];show i < 6;omega)
     by_cases e1:w=inv x
     ·subst e1
      rw [if_pos rfl,oM,hl]
     ·rw [if_neg (fun e=>e1 (lh (Sum.inr.inj e)))]
      by_cases e2:w=x
      ·subst e2
       rw [if_pos rfl,hl]
      ·rw [if_neg (fun e=>e2 (lh (Sum.inr.inj e)))]
       have hwi:w.val % 6 < i:=by
        have:w.val % 6≠i:=fun q=>by
         have hx6:x.val % 6=i:=by rw [hxi];show i % 6=i;omega
         rcases oO (q.trans hx6.symm) with h | h
         ·exact e2 h
         ·exact e1 h
        omega
       rw [k3 w hwi,vt (by omega)]
    ·rw [BU,Bc]
     refine List.Perm.trans ?_ pm
     refine Cm _ ?_
     have:=(le.map fun x:L=>x.val).symm
     rw [Bv,← hz] at this
     exact this
    ·exact u2 _ _ (aq e ha0) (s8 _ _ (u1 _ _ (aq e ha0) (sb6 _ _ n e)))
   refine ⟨rfl,_,rfl,kj (fun h=>?_) (fun h=>?_)⟩
   ·refine ⟨_,rfl,rfl,_,rfl,rfl,(by rw [af];show 1≤5592405;decide),?_⟩
    rw [dQ hy6]
    refine ⟨_,rfl,_,rfl,_,rfl,a,_,rfl,pY.k (k:=Sum.inr (toS [x])) k1 (by omega),?_⟩
    refine ⟨_,rfl,[inv y],rfl,(by show 1≤5000;decide),fun H8 s8=>?_⟩
    rw [cR]
    refine ⟨_,rfl,_,rfl,rfl,_,rfl,rfl,(by rw [af];show 1≤5592405;decide),?_⟩
    rw [dQ (by rw [hxi];show i < 6;omega)]
    have q:=fin (inv y) H8 (by rw [gO];omega) s8
    exact ⟨a,_,rfl,pY.k (k:=Sum.inr (toS [inv x])) (s8 _ _ ag) (EE (bI _ _ _) (by omega)),_,_,N++[inv y],_,rfl,q⟩
   ·refine ⟨_,rfl,_,rfl,_,rfl,a,_,rfl,pY.k (k:=Sum.inr (toS [x])) k1 (by omega),?_⟩
    refine ⟨_,rfl,[y],rfl,(by show 1≤5000;decide),fun H8 s8=>?_⟩
    rw [cR]
    refine ⟨_,rfl,_,rfl,rfl,_,rfl,rfl,(by rw [af];show 1≤5592405;decide),?_⟩
    rw [dQ (by rw [hxi];show i < 6;omega)]
    have q:=fin y H8 (by omega) s8
    exact ⟨a,_,rfl,pY.k (k:=Sum.inr (toS [inv x])) (s8 _ _ ag) (EE (bI _ _ _) (by omega)),_,_,N++[y],_,rfl,q⟩
  ·rintro σ H3 ⟨v,nme,N,left,rfl,f3,m3,hN,pm,F3,GW⟩
   have ln:(toS (([0,1,2,3,4,5]:List L).take n)).cps.size=n:=by rw [bt,Bd];simp;omega
   rw [ln] at m3 hN
   have:left=[]:=by
    have:=pm.length_eq
    rw [A7,AY,AY,List.length_range] at this
    exact B6 (by omega)
   subst this
   rw [Dz,CU] at pm
   exact ⟨_,rfl,k a _ N ha0 ⟨pm,h6⟩ m3 F3 GW⟩
abbrev j2:Stmt:=top 36
theorem rH:aE ["_law_names","_law_word"] ["_law_names","_law_word"] (ak j2):=⟨rfl,rfl,rfl,by decide +kernel,rfl,by decide +kernel,by decide +kernel⟩
theorem vz (D:Df K mg "_law_renamed_word" j2)(T:Bt K w mg aB):Fnc P w K mg base "_law_renamed_word" ["_law_names","_law_word"] 1 jD:=by
 have sc:=rH
 refine D.ok sc (fun _ _ _ _ _ _ us hl=>by obtain ⟨_,_,rfl⟩:=rn hl;rfl) (fun vs H Q E h=>?_) (fun f Gz A outer s H vs Q E hr h=>?_)
 ·obtain ⟨a,u,N,k,rfl,_⟩:=h
  rfl
 ·obtain ⟨a,u,N,n,rfl,m,hin,hlen,k⟩:=h
  have hu:=t_ hr
  have GI:=ba
  obtain ⟨Gq,k1,k2,k3⟩:=m.ex
  refine ⟨_,(FL (FM (F0 Bs Cv Cw eC bP (FO (F8 (["_law_sign","_law_names"]) (["_law_sign"]) ([0]) (F_ rfl (by kernel_rfl)) rfl (@fV _ _ _ _ (pv 1)) (fun _ _ _ _=>Ga (0) (show (["_law_sign","_law_names"]:List Str).Nodup from by decide +kernel) rfl (Or.inl rfl)) (fun _ _ _ _=>bG) (fun _ _ _ _=>by (exact (@tZ _ _ _ _ _ _ hu (pv 1) (pv 0) (fun _ _=>rfl))))) ae)))),?_⟩
  refine ⟨rfl,_,rfl,_,rfl,?_⟩
  refine cw (own:=["_law_sign"]) (cap:=[0]) (J:=Its (toS u)) u.length (fun i ys σ H'=>H'=H∧ys=bx ((u.map (nm N)).take i)∧∃ v,σ = [v,some (.ref a)]) ⟨rfl,rfl,none,rfl⟩ (fun i ys σ H' hi ⟨_,e,_⟩=>?_) (by omega) (fun i ys σ H' hi _=>?_) (fun ys σ H' _=>?_) ?_ ?_
  ·rw [e,aH,Bd];omega
  ·show i < (toS u).cps.size;rw [bt];exact hi
  ·show _=(toS u).cps.size;rw [bt]
  ·rintro i ys σ H1 x H2 M hi ⟨rfl,rfl,v,rfl⟩ ⟨rfl,c,hc,rfl⟩ hN
   obtain ⟨y,hy,e⟩:=cS hc
   rw [e]
   have hb:(u.map (nm N))[i]? = some (nm N y):=by rw [Bi,hy];rfl
   have g:=vH.k (k:=Sum.inr (toS [y])) k1
   rw [k3 y (hin y (BK hy))] at g
   exact ⟨_,rfl,_,rfl,a,_,rfl,g,hN _ _ _ ⟨rfl,by rw [cf hb,← bV],_,rfl⟩⟩
  ·rintro ys σ H1 l ⟨rfl,rfl,v,rfl⟩ hl
   rw [By (by rw [AY];exact A8 _)]
   refine ⟨_,l,(u.map (nm N)).map fun x=>toS [x],rfl,rfl,SqL.of (by rw [ag,cy]),bX _ (by rw [AY];omega),?_⟩
   rw [bW]
   exact k _ (aD.new hl)
theorem rJ (m i:Nat):(List.range (i+1)).flatMap (prJ m)=(List.range i).flatMap (prJ m)++prJ m i:=by
 rw [DK,Dx]
 simp
theorem xX:∀ (m:Fin 4) (i:Fin 4),((List.range i.val).flatMap (prJ m.val)).length≤6:=by decide
theorem lq (xs ys:List LZ):((xs.map (·.1)).map V.ref)++((ys.map (·.1)).map V.ref)=((xs++ys).map (·.1)).map V.ref:=by rw [BU,BU]
theorem pR (xs ys:List LZ):kss (xs++ys)=kss xs++kss ys:=BU
theorem rK (i d:Nat):((List.range (d+1)).map fun d:Nat=>(((i:Int),(i:Int)+(d:Int)):P2))=((List.range d).map fun d:Nat=>(((i:Int),(i:Int)+(d:Int)):P2))++[((i:Int),(i:Int)+(d:Int))]:=by rw [DK,BU]; rfl
abbrev vA:Stmt:=top 37
theorem xY:aE ["_law_surface","_law_ways","_law_found","_law_i"] ["_law_surface","_law_ways"] (ak vA):=⟨rfl,rfl,rfl,by decide +kernel,rfl,by decide +kernel,by decide +kernel⟩
theorem zP (D:Df K mg "_law_asked_so" vA)(T:Bt K w mg aB)(G8:Fnc P w K mg base "links" ["surface","ways","i","j"] 6 jM):Fnc P w K mg base "_law_asked_so" ["_law_surface","_law_ways"] 7 iu:=by
 have sc:=xY
 refine D.ok sc (fun _ _ _ _ _ _ us hl=>by obtain ⟨_,_,rfl⟩:=rn hl;rfl) (fun vs H Q E h=>?_) (fun f Gz A outer s H vs Q E hr h=>?_)
 ·obtain ⟨u,a,n,W,rfl,_⟩:=h
  rfl
 ·obtain ⟨u,a,n,W,rfl,U,hW,fa,k⟩:=h
  have GI:=ba
  have w3:=hW.le
  have w1:=hW.lo
  refine ⟨_,(FS (FX (2) sc.nd rfl (Or.inl rfl) (FN ae)) (FS (Gk B3 rfl (Gm rfl T.range (FO (FY aO (by rfl) T.len Bq (FO (pv 1) ae)) ae)) (Ga (3) sc.nd rfl (Or.inr rfl)) (FL (Gj (F0 BW C2 C3 dO (pv 2) (FO (F8 (["_law_j","_law_surface","_law_ways","_law_i"]) (["_law_j"]) ([0,1,3]) (F_ rfl (by kernel_rfl)) rfl (@fh _ _ _ _ _ _ _ rfl T.range (FO (pv 3) (FO (FY aO (by rfl) T.len Bq (FO (pv 1) ae)) ae)) (by rfl) (by rfl)) (fun _ _ _ _=>Ga (0) (show (["_law_j","_law_surface","_law_ways","_law_i"]:List Str).Nodup from by decide +kernel) rfl (Or.inl rfl)) (fun _ _ _ _=>bG) (fun _ _ _ _=>by (exact (Ge G8 hr (by decide) rfl (FO (pv 1) (FO (pv 2) (FO (pv 3) (FO (pv 0) ae)))))))) ae))))) (FL (FM (pv 2))))),?_⟩
  refine ⟨(by show 0≤_;decide),fun l hl=>?_⟩
  have s0:aD H (upd H l (.lst [])):=aD.new hl
  have f0:(upd H l (.lst [])) l=some (.lst []):=ag
  generalize upd H l (.lst [])=H0 at s0 f0 ⊢
  refine ⟨_,rfl,a,_,rfl,.inr (SqT.of (s0 _ _ fa)),_,rfl,?_⟩
  rw [AY]
  refine ⟨by omega,by omega,?_⟩
  refine bD (lo:=0) (n:=(W.length:Int).toNat) (fun i σ H'=>∃ (v3:Option V) (zs:List LZ),σ = [some (tx u),some (.ref a),some (.ref l),v3]∧aD H H'∧H' l=some (.lst ((zs.map (·.1)).map V.ref))∧LsA H' zs∧(∀ z∈zs,z.1≠l)∧(∀ z∈zs,H z.1=none)∧fg u W ((List.range i).flatMap (prJ W.length)) (kss zs)) ⟨none,[],rfl,s0,f0,(fun _ h=>by cases h),(fun _ h=>by cases h),(fun _ h=>by cases h),.nil⟩ ?_ ?_
  ·rintro i σ H1 hi ⟨v3,zs,rfl,s1,f1,k1,n1,m1,e1⟩
   rw [show (0:Int)+(i:Int)=(i:Int) by omega]
   have i0:(0:Int)≤(i:Int):=by omega
   have i1:(i:Int) < (W.length:Int):=by omega
   refine ⟨_,rfl,.inl ⟨rfl,_,SqL.of f1⟩,_,rfl,_,rfl,a,_,rfl,.inr (SqT.of (s1 _ _ fa)),?_⟩
   rw [AY]
   refine ⟨_,_,rfl,⟨by omega,by omega,by omega,by omega⟩,?_⟩
   have hz1:((W.length:Int) - (i:Int)).toNat=W.length - i:=by omega
   refine cw (own:=["_law_j"]) (cap:=[0,1,3]) (J:=Itr (i:Int) ((W.length:Int) - (i:Int)).toNat) ((W.length:Int) - (i:Int)).toNat (fun m ys σ H'=>∃ (v:Option V) (xs:List LZ),σ = [v,some (tx u),some (.ref a),some (.int (i:Int))]∧ys=(xs.map (·.1)).map V.ref∧xs.length=m∧aD H1 H'∧LsA H' xs∧(∀ z∈xs,H1 z.1=none)∧fg u W ((List.range m).map fun d:Nat=>(((i:Int),(i:Int)+(d:Int)):P2)) (kss xs))
    ⟨none,[],rfl,rfl,rfl,aD.refl _,(fun _ h=>by cases h),(fun _ h=>by cases h),.nil⟩ (fun m ys σ H' hm ⟨_,xs,_,e,e2,_⟩=>by rw [e,AY,AY,e2];exact A8 _) (by omega) (fun m ys σ H' hm _=>hm) (fun ys σ H' _=>A8 _) ?_ ?_
   ·rintro m ys σ H2 x H3 N hm ⟨v,xs,rfl,rfl,hx,s2,k2,n2,e2⟩ ⟨rfl,rfl⟩ hN
    refine ⟨_,rfl,_,rfl,_,rfl,_,rfl,u,a,n,W,(i:Int),(i:Int)+(m:Int),rfl,U,⟨s2 _ _ (s1 _ _ fa),hW.r⟩,i0,i1,by omega,by omega,fun l4 z4 H4 n4 s4 f4 k4 e4 w4=>?_⟩
    refine hN _ _ _ ⟨_,xs++[(l4,z4)],rfl,lq xs [(l4,z4)],by rw [A7,hx];rfl,s2.trans s4,(k2.same s4).app (fun z hz=>by rw [A2.mp hz];exact ⟨f4,k4⟩),fun z hz=>?_,?_⟩
    ·rcases Bo.mp hz with hz | hz
     ·exact n2 z hz
     ·rw [A2.mp hz];exact s2.free n4
    ·rw [rK,pR]
     exact e2.app (.cons ⟨e4,w4⟩ .nil)
   ·rintro ys σ H2 p ⟨v,xs,rfl,rfl,hx,s2,k2,n2,e2⟩ hp
    have s3:=s2.then (o:=.lst ((xs.map (·.1)).map V.ref)) hp
    have f3:(upd H2 p (.lst ((xs.map (·.1)).map V.ref))) p=some (.lst ((xs.map (·.1)).map V.ref)):=ag
    have k3:LsA (upd H2 p (.lst ((xs.map (·.1)).map V.ref))) xs:=k2.same (aD.new hp)
    generalize upd H2 p (.lst ((xs.map (·.1)).map V.ref))=H3 at s3 f3 k3 ⊢
    have e3:fg u W ((List.range (i+1)).flatMap (prJ W.length)) (kss (zs++xs)):=by
     rw [rJ,pR]
     refine e1.app ?_
     unfold prJ
     rw [← hz1]
     exact e2
    have hlen:zs.length+xs.length≤100:=by
     have h1:=e1.in_.1
     have h2:=xX ⟨W.length,by omega⟩ ⟨i,by omega⟩
     have h2:((List.range i).flatMap (prJ W.length)).length≤6:=h2
     have h3:(kss zs).length=zs.length:=AY ..
     omega
    refine ⟨l,p,_,_,rfl,rfl,s3 _ _ f1,f3,(by simp only [AY];omega),?_⟩
    rw [lq]
    have nn:∀ z∈zs++xs,z.1≠l:=fun z hz=>by
     rcases Bo.mp hz with hz | hz
     ·exact n1 z hz
     ·exact (aq f1 (n2 z hz)).symm
    exact ⟨_,zs++xs,rfl,d5 (s1.trans s3) hl,ag,((k1.same s3).app k3).over (s3 _ _ f1) nn,nn,(fun z hz=>(Bo.mp hz).elim (m1 z) fun hz=>s1.free (n2 z hz)),e3⟩
  ·rintro σ H1 ⟨v3,zs,rfl,s1,f1,k1,n1,m1,e1⟩
   rw [show (W.length:Int).toNat=W.length by omega] at e1
   exact ⟨_,rfl,k l zs _ hl s1 f1 k1 m1 e1⟩
theorem xZ {H:Hp}{d c a:Addr}{xs:List V}(F:Tp H d c)(h:H a=some (.tup xs)):a≠d:=by
 obtain ⟨i,l,t,ns,h1,_⟩:=F.ex
 exact p6 h h1 (by intro z;cases z)
theorem LsA.sb {H H':Hp}{d c:Addr}{zs:List LZ}(h:LsA H zs)(F:Tp H d c)(s:bp d H H')(n:∀ z∈zs,z.1≠d):LsA H' zs:=fun z hz=>⟨s _ _ (n z hz) (h z hz).1,(h z hz).2.to fun b ys e=>s _ _ (xZ F e) e⟩
theorem vB {W:List (List L)}(h:1≤W.length):∃ x y,x∈W∧y∈W∧∀ g:List L→V,atI (W.map g) 0=some (g x)∧atI (W.map g) (-1)=some (g y):=by
 refine ⟨W[0],W[W.length - 1],BF _,BF _,fun g=>⟨?_,?_⟩⟩
 ·unfold atI ixN
  rw [if_pos (by decide),if_pos (by rw [AY];omega)]
  show (W.map g)[0]? = _
  rw [Bi,fu (by omega)]
  rfl
 ·unfold atI ixN
  rw [if_neg (by decide),if_pos (by rw [AY];omega)]
  show (W.map g)[(-1+((W.map g).length:Int)).toNat]? = _
  rw [AY,show (-1+(W.length:Int)).toNat=W.length - 1 by omega,Bi,fu (by omega)]
  rfl
theorem pS (W:List (List L)):W.map (List.map id)=W:=by
 have:(List.map id:List L→List L)=id:=by funext z;exact List.map_id z
 rw [this,List.map_id]
abbrev j3:Stmt:=top 38
theorem rL:aE ["_law_tape_here","_law_surface","_law_ways","_law_due","_law_at","_law_names","_law_renamed","_law_weight"] ["_law_tape_here","_law_surface","_law_ways"] (ak j3):=⟨rfl,rfl,rfl,by decide +kernel,rfl,by decide +kernel,by decide +kernel⟩
theorem vC (D:Df K mg "_law_right" j3)(T:Bt K w mg aB)(Gr:Fnc P w K mg base "_law_draw" ["_law_tape_here","_law_many"] 1 cC)(G7:Fnc P w K mg base "_law_other_names" ["_law_tape_here","_law_many"] 2 jC)(GH:Fnc P w K mg base "_law_renamed_word" ["_law_names","_law_word"] 1 jD)(GF:Fnc P w K mg base "_law_asked_so" ["_law_surface","_law_ways"] 7 iu)(F_bal:Fnc P w K mg base "balance" ["surface","one","other"] 4 xC):Fnc P w K mg base "_law_right" ["_law_tape_here","_law_surface","_law_ways"] 8 c6:=by
 have sc:=rL
 refine D.ok sc (fun _ _ _ _ _ _ us hl=>by obtain ⟨_,_,_,rfl⟩:=tw hl;rfl) (fun vs H Q E h=>?_) (fun f Gz A outer s H vs Q E hr h=>?_)
 ·obtain ⟨d,c,u,a,n,W,rfl,_⟩:=h
  rfl
 ·obtain ⟨d,c,u,a,n,W,rfl,F,U,hW,fa,k⟩:=h
  have GI:=ba
  have w3:=hW.le
  have w1:=hW.lo
  have hul:=U.len
  have h1:=U.lo
  have h6:=U.hi
  have GS:(toS u).length≤sizeLine:=by rw [af];omega
  have e2:((toS u).length:Int) / 2=(n:Int):=by rw [af];omega
  refine ⟨_,(@ah _ _ _ _ _ (@aA _ _ (3) _ _ _ _ sc.nd rfl (Or.inl rfl) (@az _ _ _ _ _ _ _ _ _ _ _ GF hr (by decide) rfl (@aa _ _ _ _ _ (pv 1) (@aa _ _ _ _ _ (pv 2) ae (by rfl)) (by rfl)) (by decide) (by rfl) (by rfl)) (by rfl) (by first | exact .inl rfl | exact .inr rfl | assumption)) (@ah _ _ _ _ _ (@aA _ _ (4) _ _ _ _ sc.nd rfl (Or.inl rfl) (@az _ _ _ _ _ _ _ _ _ _ _ Gr hr (by decide) rfl (@aa _ _ _ _ _ (pv 0) (@aa _ _ _ _ _ (@ao _ _ _ _ _ _ _ _ _ aC (by rfl) T.len Bq (@aa _ _ _ _ _ (pv 1) ae (by rfl)) (by decide) (by decide) (by rfl) (by rfl)) ae (by rfl)) (by rfl)) (by decide) (by rfl) (by rfl)) (by rfl) (by first | exact .inl rfl | exact .inr rfl | assumption)) (@ah _ _ _ _ _ (@aA _ _ (5) _ _ _ _ sc.nd rfl (Or.inr rfl) (@az _ _ _ _ _ _ _ _ _ _ _ G7 hr (by decide) rfl (@aa _ _ _ _ _ (pv 0) (@aa _ _ _ _ _ (@aK _ _ _ _ _ _ _ _ dy (@ao _ _ _ _ _ _ _ _ _ aC (by rfl) T.len Bq (@aa _ _ _ _ _ (pv 1) ae (by rfl)) (by decide) (by decide) (by rfl) (by rfl)) ai) ae (by rfl)) (by rfl)) (by decide) (by rfl) (by rfl)) (by rfl) (by first | exact .inl rfl | exact .inr rfl | assumption)) (@ah _ _ _ _ _ (@aA _ _ (6) _ _ _ _ sc.nd rfl (Or.inl rfl) (@cb _ _ _ _ _ _ _ _ _ cq (by rfl) T.tuple jl (@aa _ _ _ _ _ (@cv _ _ _ _ _ _ _ (["_law_way","_law_names"]) (["_law_way"]) ([5]) _ _ _ _ (@cP _ _ _ _ _ _ rfl (by kernel_rfl)) rfl (@rT _ _ _ _ (pv 2)) (fun _ _ _ _=>@aY _ _ (0) _ (show (["_law_way","_law_names"]:List Str).Nodup from by decide +kernel) rfl (Or.inl rfl) (by first | exact .inl rfl | exact .inr rfl | assumption)) (fun _ _ _ _=>bG) (fun _ _ _ _=>by (exact (@az _ _ _ _ _ _ _ _ _ _ _ GH hr (by decide) rfl (@aa _ _ _ _ _ (pv 1) (@aa _ _ _ _ _ (pv 0) ae (by rfl)) (by rfl)) (by decide) (by rfl) (by rfl)))) (by intro _ ;rfl)) ae (by rfl)) (by decide) (by decide) (by rfl) (by rfl)) (by rfl) (by first | exact .inl rfl | exact .inr rfl | assumption)) (@ah _ _ _ _ _ (@b_ _ _ _ _ _ _ _ _ (@aM _ _ _ _ _ _ _ _ lF (@ao _ _ _ _ _ _ _ _ _ (@bw _ (by exact hr.gd) (by exact hr.units)) (by rfl) T.repr gc (@aa _ _ _ _ _ (@az _ _ _ _ _ _ _ _ _ _ _ GF hr (by decide) rfl (@aa _ _ _ _ _ (@aK _ _ _ _ _ _ _ _ bB (@aJ _ _ _ _ _ _ _ _ _ _ bM (pv 1) (@a9 _ _ _ (pv 4)) bb) (@aJ _ _ _ _ _ _ _ _ _ _ bM (pv 1) bb (@a9 _ _ _ (pv 4)))) (@aa _ _ _ _ _ (pv 2) ae (by rfl)) (by rfl)) (by decide) (by rfl) (by rfl)) ae (by rfl)) (by decide) (by decide) (by rfl) (by rfl)) (@ao _ _ _ _ _ _ _ _ _ (@bw _ (by exact hr.gd) (by exact hr.units)) (by rfl) T.repr gc (@aa _ _ _ _ _ (pv 3) ae (by rfl)) (by decide) (by decide) (by rfl) (by rfl)) (a8 _)) (@aj _ _ _ (@aF _ _ _ _ ix)) bo) (@ah _ _ _ _ _ (@b_ _ _ _ _ _ _ _ _ (@aM _ _ _ _ _ _ _ _ lF (@ao _ _ _ _ _ _ _ _ _ (@bw _ (by exact hr.gd) (by exact hr.units)) (by rfl) T.repr gc (@aa _ _ _ _ _ (@az _ _ _ _ _ _ _ _ _ _ _ GF hr (by decide) rfl (@aa _ _ _ _ _ (@jo _ _ _ _ _ _ _ (pv 1) (@di _ _ _ _ _ _ bQ ai)) (@aa _ _ _ _ _ (pv 2) ae (by rfl)) (by rfl)) (by decide) (by rfl) (by rfl)) ae (by rfl)) (by decide) (by decide) (by rfl) (by rfl)) (@ao _ _ _ _ _ _ _ _ _ (@bw _ (by exact hr.gd) (by exact hr.units)) (by rfl) T.repr gc (@aa _ _ _ _ _ (pv 3) ae (by rfl)) (by decide) (by decide) (by rfl) (by rfl)) (a8 _)) (@aj _ _ _ (@aF _ _ _ _ ix)) bo) (@ah _ _ _ _ _ (@b_ _ _ _ _ _ _ _ _ (@aM _ _ _ _ _ _ _ _ lF (@ao _ _ _ _ _ _ _ _ _ (@bw _ (by exact hr.gd) (by exact hr.units)) (by rfl) T.repr gc (@aa _ _ _ _ _ (@az _ _ _ _ _ _ _ _ _ _ _ GF hr (by decide) rfl (@aa _ _ _ _ _ (@az _ _ _ _ _ _ _ _ _ _ _ GH hr (by decide) rfl (@aa _ _ _ _ _ (pv 5) (@aa _ _ _ _ _ (pv 1) ae (by rfl)) (by rfl)) (by decide) (by rfl) (by rfl)) (@aa _ _ _ _ _ (pv 6) ae (by rfl)) (by rfl)) (by decide) (by rfl) (by rfl)) ae (by rfl)) (by decide) (by decide) (by rfl) (by rfl)) (@ao _ _ _ _ _ _ _ _ _ (@bw _ (by exact hr.gd) (by exact hr.units)) (by rfl) T.repr gc (@aa _ _ _ _ _ (pv 3) ae (by rfl)) (by decide) (by decide) (by rfl) (by rfl)) (a8 _)) (@aj _ _ _ (@aF _ _ _ _ ix)) bo) (@ah _ _ _ _ _ (@aA _ _ (7) _ _ _ _ sc.nd rfl (Or.inl rfl) (@az _ _ _ _ _ _ _ _ _ _ _ F_bal hr (by decide) rfl (@aa _ _ _ _ _ (pv 1) (@aa _ _ _ _ _ (@aG _ _ _ _ _ _ _ aL (pv 2) ai (fun _ _=>rfl)) (@aa _ _ _ _ _ (@aG _ _ _ _ _ _ _ aL (pv 2) (@di _ _ _ _ _ _ bQ ai) (fun _ _=>rfl)) ae (by rfl)) (by rfl)) (by rfl)) (by decide) (by rfl) (by rfl)) (by rfl) (by first | exact .inl rfl | exact .inr rfl | assumption)) (@ah _ _ _ _ _ (@b_ _ _ _ _ _ _ _ _ (@aM _ _ _ _ _ _ _ _ lF (@az _ _ _ _ _ _ _ _ _ _ _ F_bal hr (by decide) rfl (@aa _ _ _ _ _ (@jo _ _ _ _ _ _ _ (pv 1) (@di _ _ _ _ _ _ bQ ai)) (@aa _ _ _ _ _ (@aG _ _ _ _ _ _ _ aL (pv 2) ai (fun _ _=>rfl)) (@aa _ _ _ _ _ (@aG _ _ _ _ _ _ _ aL (pv 2) (@di _ _ _ _ _ _ bQ ai) (fun _ _=>rfl)) ae (by rfl)) (by rfl)) (by rfl)) (by decide) (by rfl) (by rfl)) (@aK _ _ _ _ _ _ _ _ fQ ai (pv 7)) (a8 _)) (@aj _ _ _ (@aF _ _ _ _ ix)) bo) (@aj _ _ _ (@aF _ _ _ _ (@d_ _ _ _ _ _ _ _ _ d9 (@az _ _ _ _ _ _ _ _ _ _ _ F_bal hr (by decide) rfl (@aa _ _ _ _ _ (@az _ _ _ _ _ _ _ _ _ _ _ GH hr (by decide) rfl (@aa _ _ _ _ _ (pv 5) (@aa _ _ _ _ _ (pv 1) ae (by rfl)) (by rfl)) (by decide) (by rfl) (by rfl)) (@aa _ _ _ _ _ (@aG _ _ _ _ _ _ _ aL (pv 6) ai (fun _ _=>rfl)) (@aa _ _ _ _ _ (@aG _ _ _ _ _ _ _ aL (pv 6) (@di _ _ _ _ _ _ bQ ai) (fun _ _=>rfl)) ae (by rfl)) (by rfl)) (by rfl)) (by decide) (by rfl) (by rfl)) (pv 7) (a8 _))))))))))))),?_⟩
  refine ⟨_,rfl,_,rfl,u,a,n,W,rfl,U,hW,fa,fun l zs H1 n1 s1 f1 k1 m1 e1=>?_⟩
  have F1:=F.same s1
  have hld:l≠d:=F.ne n1
  have had:a≠d:=xZ F fa
  refine ⟨_,rfl,_,rfl,_,rfl,GS,d,c,_,rfl,F1,(by rw [af];omega),(by rw [af];omega),fun y H2 y0 y1 F2 sb2=>?_⟩
  have y1:y < (u.length:Int):=by rw [af] at y1;exact y1
  have f2:=sb2 _ _ hld f1
  have nd:∀ z∈zs,z.1≠d:=fun z hz=>F.ne (m1 z hz)
  refine ⟨_,rfl,_,rfl,_,rfl,GS,_,_,rfl,rfl,⟨by decide,by decide⟩,?_⟩
  rw [e2]
  refine ⟨d,c,n,rfl,F2,h1,h6,fun aN H3 N n3 hN m3 F3 GW=>?_⟩
  have hNd:aN≠d:=F2.ne n3
  have f3:=GW _ _ hld f2
  have fa3:H3 a=some (.tup (W.map tx)):=GW _ _ had (sb2 _ _ had (s1 _ _ fa))
  have k3:LsA H3 zs:=(k1.sb F1 sb2 nd).sb F2 GW nd
  have sb03:bp d H H3:=(s1.b.trans sb2).trans GW
  have R:=hN.ren (u:=u) fun x hx=>(U.mem x).mp hx
  have hm:∀ w∈W,∀ x∈w,x.val % 6 < n:=fun w hw x hx=>(hW.ws w hw).2.2 x hx
  refine ⟨_,rfl,a,rfl,⟨_,SqT.of fa3⟩,?_⟩
  refine qx (xs:=W.map tx) (own:=["_law_way"]) (cap:=[5]) (fun i ys σ H'=>∃ (b:Option V),σ = [b,some (.ref aN)]∧ys=((W.map (List.map (nm N))).map tx).take i∧aD H3 H') ⟨none,rfl,rfl,aD.refl _⟩ (fun i ys σ H' hi ⟨_,_,e,_⟩=>by rw [e,Bd];omega) (by rw [AY];omega) (fun i ys σ H' ⟨_,_,_,q⟩=>SqT.of (q _ _ fa3)) ?_ ?_
  ·rintro i ys σ H4 z M hz ⟨b,rfl,rfl,s4⟩ hM
   rw [Bi] at hz
   cases hw:W[i]? with
   | none=>rw [hw] at hz;cases hz
   | some w =>
    rw [hw] at hz
    obtain rfl:=A_ hz
    have hwm:=BK hw
    have wl:=(hW.ws w hwm).2.1
    refine ⟨_,rfl,_,rfl,aN,w,N,n,rfl,m3.same s4,hm w hwm,by omega,fun H5 s5=>hM _ _ _ ⟨_,rfl,?_,s4.trans s5⟩⟩
    have:((W.map (List.map (nm N))).map tx)[i]? = some (tx (w.map (nm N))):=by rw [Bi,Bi,hw];rfl
    rw [CY,this]
    rfl
  rintro ys σ H4 p ⟨b,rfl,rfl,s4⟩ hp
  have et:((W.map (List.map (nm N))).map tx).take (W.map tx).length=(W.map (List.map (nm N))).map tx:=By (by rw [AY,AY,AY];exact A8 _)
  rw [et]
  have s5:=s4.then (o:=.lst ((W.map (List.map (nm N))).map tx)) hp
  have f5:(upd H4 p (.lst ((W.map (List.map (nm N))).map tx))) p=some (.lst ((W.map (List.map (nm N))).map tx)):=ag
  generalize upd H4 p (.lst ((W.map (List.map (nm N))).map tx))=H5 at s5 f5 ⊢
  refine ⟨p,_,rfl,.inl ⟨SqL.of f5,fun aR hR=>?_⟩⟩
  have s6:=s5.then (o:=.tup ((W.map (List.map (nm N))).map tx)) hR
  have f6:(upd H5 aR (.tup ((W.map (List.map (nm N))).map tx))) aR=some (.tup ((W.map (List.map (nm N))).map tx)):=ag
  generalize upd H5 aR (.tup ((W.map (List.map (nm N))).map tx))=H6 at s6 f6 ⊢
  have F6:=F3.same s6
  have fa6:=s6 _ _ fa3
  have k6:=k3.same s6
  have g6:=s6 _ _ f3
  have m6:=m3.same s6
  have sb06:=sb03.trans s6.b
  have V8:=hW.nm U hN
  have FZ:=F3
  have sbZ:=sb03
  clear f5 s5 s4 hp k3 f3 fa3 sb03 F3
  have same:∀ (v:List L) (V:List (List L)) (zs5:List LZ) (H5:Hp),W8 n V→V.length=W.length→fg v V (prI V.length) (kss zs5)→(∀ p∈prI W.length,e_ v V p.1 p.2 (wyZ V p.1).length=e_ u W p.1 p.2 (wyZ W p.1).length)→Sh (jc (kss zs5))∧jc (kss zs5)=jc (kss zs):=fun v V zs5 H5 hV hl h5 ha=>by
   refine ⟨xy hV h5,?_⟩
   rw [hl] at h5
   rw [fg.one e1 h5 ha]
  have c1:Txt.slice (toS u) (some y) none=toS (u.drop y.toNat):=by rw [a_,eX _ y0]
  have c2:Txt.slice (toS u) none (some y)=toS (u.take y.toNat):=by rw [a_,cU _ y0]
  refine ⟨_,rfl,_,rfl,_,rfl,_,rfl,GS,?_⟩
  rw [c1]
  refine ⟨_,rfl,_,rfl,_,rfl,_,rfl,GS,?_⟩
  rw [c2]
  refine ⟨_,_,rfl,rfl,(by rw [af,af,BS,Bd];omega),?_⟩
  rw [eP]
  refine ⟨_,rfl,rot u y.toNat,a,n,W,rfl,U.rot _,hW,fa6,fun l7 z7 H7 n7 s7 f7 k7 m7 e7=>?_⟩
  obtain ⟨sh7,q7⟩:=same _ W z7 H7 hW rfl e7 (fun p hp=>by
   obtain ⟨p0,p1,p2⟩:=c5 hp
   have:=o7 U (xm U.srf.nd (p:=y.toNat) (by omega)) hW.r (i:=p.1) (j:=p.2) p0 (by omega) (by omega) p2
   rwa [pS] at this)
  have d7:Dt H7 (.ref l7) (jc (kss zs)):=q7 ▸ .lst f7 k7.dts
  rw [q7] at sh7
  have D7:Dt H7 (.ref l) (jc (kss zs)):=.lst (s7 _ _ g6) (k6.same s7).dts
  refine ⟨l7,_,rfl,d7,sh7,_,rfl,l,_,rfl,D7,sh7,rfl,_,rfl,?_⟩
  refine (Br (fun b=>ck _ _ _ _ b _) (show (!decide (V.str (jc (kss zs)).shown=V.str (jc (kss zs)).shown))=false by rw [Bg rfl];rfl)).mpr (oX ?_)
  have fa7:=s7 _ _ fa6
  have k7':=k6.same s7
  have g7:=s7 _ _ g6
  have m7':=m6.same s7
  have f67:=s7 _ _ f6
  refine ⟨_,rfl,_,rfl,toS u,rfl,rfl,GS,?_⟩
  rw [gN]
  refine ⟨_,rfl,u.reverse,a,n,W,rfl,U.rev,hW,fa7,fun l8 z8 H8 n8 s8 f8 k8 m8 e8=>?_⟩
  obtain ⟨_,q8⟩:=same _ W z8 H8 hW rfl e8 (fun p hp=>by
   obtain ⟨p0,p1,p2⟩:=c5 hp
   have:=o7 U (xo U.srf.nd) hW.r (i:=p.1) (j:=p.2) p0 (by omega) (by omega) p2
   rwa [pS] at this)
  have d8:Dt H8 (.ref l8) (jc (kss zs)):=q8 ▸ .lst f8 k8.dts
  have D8:Dt H8 (.ref l) (jc (kss zs)):=.lst (s8 _ _ g7) (k7'.same s8).dts
  refine ⟨l8,_,rfl,d8,sh7,_,rfl,l,_,rfl,D8,sh7,rfl,_,rfl,?_⟩
  refine (Br (fun b=>ck _ _ _ _ b _) (show (!decide (V.str (jc (kss zs)).shown=V.str (jc (kss zs)).shown))=false by rw [Bg rfl];rfl)).mpr (oX ?_)
  have fa8:=s8 _ _ fa7
  have k8':=k7'.same s8
  have g8:=s8 _ _ g7
  have m8':=m7'.same s8
  have f68:=s8 _ _ f67
  refine ⟨_,rfl,_,rfl,aN,u,N,n,rfl,m8',fun x hx=>(U.mem x).mp hx,by omega,fun H9 s9=>?_⟩
  refine ⟨_,rfl,u.map (nm N),aR,n,W.map (List.map (nm N)),rfl,SK.nm U hN,V8,s9 _ _ f68,fun lA zA HA nA sA fA kA mA eA=>?_⟩
  have s8A:=s9.trans sA
  obtain ⟨_,qA⟩:=same _ _ zA HA V8 (by rw [AY]) eA (fun p hp=>by
   obtain ⟨p0,p1,p2⟩:=c5 hp
   exact o7 U (xp R U.srf.nd) hW.r (i:=p.1) (j:=p.2) p0 (by omega) (by omega) p2)
  have dA:Dt HA (.ref lA) (jc (kss zs)):=qA ▸ .lst fA kA.dts
  have DA:Dt HA (.ref l) (jc (kss zs)):=.lst (s8A _ _ g8) (k8'.same s8A).dts
  refine ⟨lA,_,rfl,dA,sh7,_,rfl,l,_,rfl,DA,sh7,rfl,_,rfl,?_⟩
  refine (Br (fun b=>ck _ _ _ _ b _) (show (!decide (V.str (jc (kss zs)).shown=V.str (jc (kss zs)).shown))=false by rw [Bg rfl];rfl)).mpr (oX ?_)
  have faA:=s8A _ _ fa8
  have mA':=m8'.same s8A
  have f6A:=s8A _ _ f68
  have s0A:=((s6.trans s7).trans s8).trans s8A
  obtain ⟨wf,wl,hf,hl,hat⟩:=vB w1
  have bf:=(hW.ws wf hf).2.1
  have bl:=(hW.ws wl hl).2.1
  obtain ⟨at0,atl⟩:=hat tx
  obtain ⟨bt0,btl⟩:=hat (fun w=>tx (w.map (nm N)))
  refine ⟨_,rfl,_,rfl,a,_,_,_,rfl,rfl,SqT.of faA,at0,_,rfl,_,rfl,a,_,_,_,rfl,rfl,SqT.of faA,atl,?_⟩
  refine ⟨u,wf,wl,n,rfl,U,by omega,by omega,fun HB sB=>?_⟩
  have faB:=sB _ _ faA
  refine ⟨_,rfl,_,rfl,toS u,rfl,rfl,GS,?_⟩
  rw [gN]
  refine ⟨_,rfl,a,_,_,_,rfl,rfl,SqT.of faB,at0,_,rfl,_,rfl,a,_,_,_,rfl,rfl,SqT.of faB,atl,?_⟩
  refine ⟨u.reverse,wf,wl,n,rfl,U.rev,by omega,by omega,fun HC sC=>?_⟩
  refine ⟨_,rfl,_,_,rfl,rfl,rfl,_,rfl,?_⟩
  refine (Br (fun b=>ck _ _ _ _ b _) (show (!decide (V.int (bal u.reverse n wf wl)=V.int (0 - bal u n wf wl)))=false by rw [um U,Bg (Br V.int (by omega))];rfl)).mpr (oX ?_)
  have sAC:=sB.trans sC
  refine ⟨_,rfl,_,rfl,aN,u,N,n,rfl,mA'.same sAC,fun x hx=>(U.mem x).mp hx,by omega,fun HD sD=>?_⟩
  have f6D:=sD _ _ (sAC _ _ f6A)
  have em:(W.map (List.map (nm N))).map tx=W.map fun w=>tx (w.map (nm N)):=by rw [BZ];rfl
  rw [em] at f6D
  refine ⟨_,rfl,aR,_,_,_,rfl,rfl,SqT.of f6D,bt0,_,rfl,_,rfl,aR,_,_,_,rfl,rfl,SqT.of f6D,btl,?_⟩
  refine ⟨u.map (nm N),wf.map (nm N),wl.map (nm N),n,rfl,SK.nm U hN,by rw [AY];omega,by rw [AY];omega,fun HE sE=>?_⟩
  refine ⟨_,rfl,rfl,?_⟩
  have sAE:=(sAC.trans sD).trans sE
  have sT:=s0A.trans sAE
  refine (Br (fun b=>Q (V.bl b) HE) (show decide (V.int (bal (u.map (nm N)) n (wf.map (nm N)) (wl.map (nm N)))=V.int (bal u n wf wl))=true by rw [pz U hN (hW.ws wf hf).2.2 (hW.ws wl hl).2.2,Bg rfl])).mpr ?_
  exact k HE (FZ.same sT) (sbZ.trans sT.b)
theorem x6 {H:Hp}{d c a:Addr}{xs:List V}(F:Tp H d c)(h:H a=some (.tup xs)):a≠d:=by
 obtain ⟨i,l,t,ns,h1,_⟩:=F.ex
 exact p6 h h1 (by intro z;cases z)
def dJ (ns:List Int):List PyData:=ns.map .int
theorem pT {H:Hp}:∀ ns:List Int,Dts H (ns.map V.int) (dJ ns)
 | []=>.nil
 | n::ns=>.cons (.int n) (pT ns)
theorem x8:∀ ns:List Int,PyData.canLayAll0 (dJ ns)=true
 | []=>rfl
 | n::ns=>x8 ns
theorem x9:∀ ns:List Int,PyData.depthAll (dJ ns)=0
 | []=>rfl
 | n::ns=>by show max 0 (PyData.depthAll (dJ ns))=0;rw [x9 ns];rfl
theorem vD:∀ a:List Int,PyData.eqvAll (dJ a) (dJ a)=true
 | []=>rfl
 | x::a=>by
  show (PyData.eqv (.int x) (.int x) && PyData.eqvAll (dJ a) (dJ a))=_
  rw [vD a]
  show ((x == x) && true)=true
  rw [Ff]
  rfl
theorem lu (r:List Int):(PyData.list (dJ r)).canLay0=true:=by
 unfold PyData.canLay0
 exact x8 r
theorem tD (r:List Int):(PyData.list (dJ r)).depth≤10:=by
 show PyData.depthAll (dJ r)+1≤10
 rw [x9]
 decide
theorem vE {H:Hp}{p q:Addr}{Q:VK}{r:List Int}(h1:H p=some (.lst (r.map V.int)))(h2:H q=some (.lst (r.map V.int)))(h:Q (.bl false) H):yY (.ref p) (.ref q) H Q:=by
 refine ⟨_,_,.lst h1 (pT r),.lst h2 (pT r),lu r,lu r,tD r,?_⟩
 show Q (.bl (!PyData.eqvAll (dJ r) (dJ r))) H
 rw [vD]
 exact h
theorem vF {H:Hp}{p q:Addr}{Q:VK}{r:List Int}(h1:H p=some (.lst (r.map V.int)))(h2:H q=some (.lst (r.map V.int)))(h:Q (.bl true) H):yZ (.ref p) (.ref q) H Q:=by
 refine ⟨_,_,.lst h1 (pT r),.lst h2 (pT r),lu r,lu r,tD r,?_⟩
 show Q (.bl (PyData.eqvAll (dJ r) (dJ r))) H
 rw [vD]
 exact h
def lnK (zs:List LZ):List Int:=(kss zs).map fun z=>(z.length:Int)
theorem fM {K:PySem.W.Frag}{l:Addr}{zs:List LZ}{σ:L2.St}{H:Hp}{Q:VK}(f:H l=some (.lst ((zs.map (·.1)).map V.ref)))(k:LsA H zs)(hl:zs.length≤100)(hq:∀ p,H p=none→Q (.ref p) (upd H p (.lst ((lnK zs).map V.int)))):nv ["_law_some"] [] (qa 0) Ae (tCB (bJ K) (tL (yg 0) zX)) Q σ (Itl K l) H:=by
 have GI:=ba
 have ll:(lnK zs).length=zs.length:=by unfold lnK kss;rw [AY,AY]
 refine nQ (xs:=(zs.map (·.1)).map V.ref) (own:=["_law_some"]) (cap:=[]) (fun i ys σ H'=>∃ b:Option V,σ = [b]∧H'=H∧ys=((lnK zs).map V.int).take i) ⟨none,rfl,rfl,rfl⟩ (fun i ys σ H' hi ⟨_,_,_,e⟩=>by rw [e,Bd];omega) (by simp only [AY];omega) (fun i ys σ H' ⟨_,_,e,_⟩=>by rw [e];exact SqL.of f) ?_ ?_
 ·rintro i ys σ H' x N hx ⟨b,rfl,rfl,rfl⟩ hN
  rw [Bi,Bi] at hx
  cases hz:zs[i]? with
  | none=>rw [hz] at hx;cases hx
  | some z =>
   rw [hz] at hx
   obtain rfl:=A_ hx
   refine ⟨_,rfl,z.1,_,rfl,.inl (SqL.of (k z (BK hz)).1),hN _ _ _ ⟨_,rfl,rfl,?_⟩⟩
   have:((lnK zs).map V.int)[i]? = some (V.int (((z.2.map (·.1)).map V.ref).length:Nat)):=by
    unfold lnK kss
    rw [Bi,Bi,Bi,hz]
    simp
   rw [CY,this]
   rfl
 ·rintro ys σ H' p ⟨b,rfl,rfl,rfl⟩ hp
  rw [show ((lnK zs).map V.int).take ((zs.map (·.1)).map V.ref).length=(lnK zs).map V.int from By (by simp only [AY];omega)]
  exact hq p hp
theorem lx {u:List L}{W:List (List L)}{ps:List P2}{zs:List LZ}(h:fg u W ps (kss zs)):lnK zs=ps.map fun p=>((lenZ u W p:Nat):Int):=by
 have e:=h.lens
 unfold lnK
 have e2:=Br (List.map fun n:Nat=>(n:Int)) e
 rw [BZ,BZ] at e2
 exact e2
theorem j4 {n:Nat}{u:List L}{W:List (List L)}(hW:W8 n W){zs:List LZ}(h:fg u W (prI W.length) (kss zs)):zs.length≤100:=by
 have h1:=h.in_.1
 have h2:=pE hW.le
 have h3:(kss zs).length=zs.length:=AY ..
 omega
theorem vG {x:V}{xs:List V}:fk (x::xs) (some 1) none=xs:=by
 unfold fk
 have e1:HT.sIx (x::xs).length 0 (some 1)=1:=by
  have q:=HT.fj (x::xs).length 0 1
  rw [show ((1:Nat):Int)=1 from rfl] at q
  rw [q,BH]
  omega
 rw [e1]
 show List.take _ (List.drop 1 (x::xs))=xs
 rw [List.drop_one,List.tail_cons]
 exact By (by show xs.length≤(xs.length+1) - 1;omega)
abbrev iw:Stmt:=top 39
theorem pU:aE ["_law_tape_here","_law_surface","_law_ways","_law_at","_law_word","_law_turned","_law_due"] ["_law_tape_here","_law_surface","_law_ways"] (ak iw):=⟨rfl,rfl,rfl,by decide +kernel,rfl,by decide +kernel,by decide +kernel⟩
theorem rM (D:Df K mg "_law_turned_right" iw)(T:Bt K w mg aB)(Gr:Fnc P w K mg base "_law_draw" ["_law_tape_here","_law_many"] 1 cC)(GA:Fnc P w K mg base "_law_back" ["_law_word"] 1 lO)(GF:Fnc P w K mg base "_law_asked_so" ["_law_surface","_law_ways"] 7 iu):Fnc P w K mg base "_law_turned_right" ["_law_tape_here","_law_surface","_law_ways"] 8 c6:=by
 have sc:=pU
 refine D.ok sc (fun _ _ _ _ _ _ us hl=>by obtain ⟨_,_,_,rfl⟩:=tw hl;rfl) (fun vs H Q E h=>?_) (fun f Gz A outer s H vs Q E hr h=>?_)
 ·obtain ⟨d,c,u,a,n,W,rfl,_⟩:=h
  rfl
 ·obtain ⟨d,c,u,a,n,W,rfl,F,U,hW,fa,k⟩:=h
  have GI:=ba
  have w3:=hW.le
  have w1:=hW.lo
  have had:a≠d:=x6 F fa
  obtain ⟨w0,r,rfl⟩:∃ w0 r,W=w0::r:=by
   cases W with
   | nil=>exact absurd w1 (by decide)
   | cons v r=>exact ⟨v,r,rfl⟩
  have g0:=hW.ws w0 Ba
  have l0:=g0.2.1
  have p0:0 < w0.length:=BN.mpr g0.1.ne
  have at0:atI ((w0::r).map tx) 0=some (tx w0):=dz (j:=0) rfl
  refine ⟨_,(FS (FX (3) sc.nd rfl (Or.inl rfl) (Ge Gr hr (by decide) rfl (FO (pv 0) (FO (FY aC (by rfl) T.len Bq (FO (FU aL (pv 2) ai (fun _ _=>rfl)) ae)) ae)))) (FS (FX (4) sc.nd rfl (Or.inl rfl) (FU bg (FN (FO (FU aL (pv 2) ai (fun _ _=>rfl)) (FO (Ge GA hr (by decide) rfl (FO (FU aL (pv 2) ai (fun _ _=>rfl)) ae)) ae))) (Ge Gr hr (by decide) rfl (FO (pv 0) (FO ai ae))) (fun _ _=>rfl))) (FS (FX (5) sc.nd rfl (Or.inl rfl) (FT uB (Gg (FO (FT bB (FQ bM (pv 4) (FR (pv 3)) bb) (FQ bM (pv 4) bb (FR (pv 3)))) ae)) (FQ uC (pv 2) (FR ai) bb))) (FS (@nR _ (6) _ _ _ _ _ _ _ _ _ (["_law_some"]) (["_law_some"]) ([]) _ _ _ _ sc.nd rfl (Or.inl rfl) (F_ rfl (by kernel_rfl)) rfl (@jg _ _ _ _ (Ge GF hr (by decide) rfl (FO (pv 1) (FO (pv 2) ae)))) (fun _ _ _ _=>Ga (0) (show (["_law_some"]:List Str).Nodup from by decide +kernel) rfl (Or.inl rfl)) (fun _ _ _ _=>bG) (fun _ _ _ _=>by (exact (FY (@cD _ (K) rfl) (by rfl) T.len Bq (FO (pv 0) ae)))) (by intro _ ;rfl) (by rfl) (by first | exact .inl rfl | exact .inr rfl | assumption)) (FS (FV (FW (@oJ _ (by exact hr.units)) (F8 (["_law_some"]) (["_law_some"]) ([]) (F_ rfl (by kernel_rfl)) rfl (@jg _ _ _ _ (Ge GF hr (by decide) rfl (FO (pv 1) (FO (pv 5) ae)))) (fun _ _ _ _=>Ga (0) (show (["_law_some"]:List Str).Nodup from by decide +kernel) rfl (Or.inl rfl)) (fun _ _ _ _=>bG) (fun _ _ _ _=>by (exact (FY (@cD _ (K) rfl) (by rfl) T.len Bq (FO (pv 0) ae))))) (pv 6) (a8 _)) (FL (FM ix)) bo) (FL (FM (Gf (@oK _ (by exact hr.units)) (FY (@cI _ _ rfl) (by rfl) T.sorted gM (FO (F8 (["_law_some"]) (["_law_some"]) ([]) (F_ rfl (by kernel_rfl)) rfl (@jg _ _ _ _ (Ge GF hr (by decide) rfl (FO (pv 1) (FO (@uY _ _ _ _ _ _ _ (pv 2) (Gb bQ ai)) ae)))) (fun _ _ _ _=>Ga (0) (show (["_law_some"]:List Str).Nodup from by decide +kernel) rfl (Or.inl rfl)) (fun _ _ _ _=>bG) (fun _ _ _ _=>by (exact (FY (@cD _ (K) rfl) (by rfl) T.len Bq (FO (pv 0) ae))))) ae)) (FY (@cI _ _ rfl) (by rfl) T.sorted gM (FO (pv 6) ae)) (a8 _))))))))),?_⟩
  refine ⟨_,rfl,_,rfl,a,_,_,_,rfl,rfl,SqT.of fa,at0,_,rfl,(by rw [af];omega),d,c,_,rfl,F,by rw [af];omega,by rw [af];omega,fun y H1 y0 y1 F1 sb1=>?_⟩
  rw [af] at y1
  have fa1:=sb1 _ _ had fa
  refine ⟨_,rfl,a,_,_,_,rfl,rfl,SqT.of fa1,at0,_,rfl,a,_,_,_,rfl,rfl,SqT.of fa1,at0,w0,rfl,by omega,fun H2 s2=>⟨(c0 (n:=2) (by decide)),fun p hp=>?_⟩⟩
  have s3:=s2.then (o:=.lst [tx w0,tx (bk w0)]) hp
  have F3:=F1.same s3
  have hpd:=(F1.same s2).ne hp
  refine ⟨_,rfl,d,c,_,rfl,F3,by decide,by decide,fun b H4 b0 b1 F4 GX=>?_⟩
  have g4:=GX _ _ hpd (ag (o:=.lst [tx w0,tx (bk w0)]))
  have fa4:=GX _ _ had (s3 _ _ fa1)
  have sb04:bp d H H4:=(sb1.trans s3.b).trans GX
  obtain ⟨v,gv,hv,av⟩:∃ v,GR n 8 v∧(v=w0 ∨ v=bk w0)∧atI [tx w0,tx (bk w0)] b=some (tx v):=by
   have:b=0 ∨ b=1:=by omega
   rcases this with rfl | rfl
   ·exact ⟨w0,g0,.inl rfl,dz (j:=0) rfl⟩
   ·exact ⟨bk w0,g0.bk,.inr rfl,dz (j:=1) rfl⟩
  have lv:v.length=w0.length:=by
   rcases hv with rfl | rfl
   ·rfl
   ·exact bu _
  refine ⟨p,_,_,_,rfl,rfl,SqL.of g4,av,?_⟩
  have c1:Txt.slice (toS v) (some y) none=toS (v.drop y.toNat):=by rw [a_,eX _ y0]
  have c2:Txt.slice (toS v) none (some y)=toS (v.take y.toNat):=by rw [a_,cU _ y0]
  have GS:(toS v).length≤sizeLine:=by rw [af];omega
  refine ⟨_,rfl,_,rfl,_,rfl,_,rfl,GS,?_⟩
  rw [c1]
  refine ⟨_,rfl,_,rfl,_,rfl,_,rfl,GS,?_⟩
  rw [c2]
  refine ⟨_,_,rfl,rfl,(by rw [af,af,BS,Bd];omega),?_⟩
  rw [eP,show v.drop y.toNat++v.take y.toNat=rot v y.toNat from rfl]
  refine ⟨(c0 (n:=1) (by decide)),fun t ht=>?_⟩
  have s5:aD H4 (upd H4 t (.tup [tx (rot v y.toNat)])):=aD.new ht
  have f5:(upd H4 t (.tup [tx (rot v y.toNat)])) t=some (.tup [tx (rot v y.toNat)]):=ag
  generalize upd H4 t (.tup [tx (rot v y.toNat)])=H5 at s5 f5 ⊢
  refine ⟨_,rfl,_,rfl,a,_,rfl,s5 _ _ fa4,fun q H6 s6 f6=>?_⟩
  rw [Bv,vG] at f6
  refine ⟨t,q,_,_,rfl,rfl,s6 _ _ f5,f6,(by show 1+_≤_;rw [AY];have:r.length+1≤3:=w3;omega),fun aT H7 s7 f7=>?_⟩
  have s47:=(s5.trans s6).trans s7
  have fa7:=s47 _ _ fa4
  have hT:W8 n (rot v y.toNat::r):=hW.first (gv.turn _)
  have f7:H7 aT=some (.tup ((rot v y.toNat::r).map tx)):=f7
  refine ⟨_,rfl,_,rfl,u,a,n,w0::r,rfl,U,hW,fa7,fun l8 z8 H8 n8 s8 g8 k8 m8 e8=>⟨l8,rfl,⟨_,SqL.of g8⟩,fM g8 k8 (j4 hW e8) fun p8 hp8=>?_⟩⟩
  have s9:=s8.then (o:=.lst ((lnK z8).map V.int)) hp8
  have f9:(upd H8 p8 (.lst ((lnK z8).map V.int))) p8=some (.lst ((lnK z8).map V.int)):=ag
  generalize upd H8 p8 (.lst ((lnK z8).map V.int))=H9 at s9 f9 ⊢
  refine ⟨_,rfl,_,rfl,u,aT,n,rot v y.toNat::r,rfl,U,hT,s9 _ _ f7,fun lA zA HA nA sA gA kA mA eA=>⟨lA,rfl,⟨_,SqL.of gA⟩,fM gA kA (j4 hT eA) fun pA hpA=>?_⟩⟩
  have eqA:lnK zA=lnK z8:=by
   rw [lx eA,lx e8]
   refine Dw fun x hx=>?_
   obtain ⟨x0,x1,x2⟩:=c5 hx
   refine Br Int.ofNat (pB U hW hT (fun z hz=>?_) x0 x1 x2)
   have ow:Wo n w0:=⟨g0.1,g0.2.2⟩
   rw [xu (by omega)]
   rcases hv with rfl | rfl
   ·rfl
   ·exact zo U ow hz
  rw [eqA]
  have sB:=sA.then (o:=.lst ((lnK z8).map V.int)) hpA
  have fB:(upd HA pA (.lst ((lnK z8).map V.int))) pA=some (.lst ((lnK z8).map V.int)):=ag
  generalize upd HA pA (.lst ((lnK z8).map V.int))=HB at sB fB ⊢
  refine ⟨_,rfl,vE fB (sB _ _ f9) ⟨_,rfl,oX ?_⟩⟩
  have s7B:=s9.trans sB
  refine ⟨_,rfl,_,rfl,_,rfl,a,_,rfl,rfl,s7B _ _ fa7,fun aV hV=>?_⟩
  rw [← List.map_reverse]
  have sC:=s7B.then (o:=.tup ((w0::r).reverse.map tx)) hV
  have fC:(upd HB aV (.tup ((w0::r).reverse.map tx))) aV=some (.tup ((w0::r).reverse.map tx)):=ag
  have dC:(upd HB aV (.tup ((w0::r).reverse.map tx))) p8=some (.lst ((lnK z8).map V.int)):=aD.new hV _ _ (sB _ _ f9)
  generalize upd HB aV (.tup ((w0::r).reverse.map tx))=HC at sC fC dC ⊢
  refine ⟨u,aV,n,(w0::r).reverse,rfl,U,hW.rev,fC,fun lD zD HD nD sD gD kD mD eD=>⟨lD,rfl,⟨_,SqL.of gD⟩,fM gD kD (j4 hW.rev eD) fun pD hpD=>?_⟩⟩
  have sE:=sD.then (o:=.lst ((lnK zD).map V.int)) hpD
  have fE:(upd HD pD (.lst ((lnK zD).map V.int))) pD=some (.lst ((lnK zD).map V.int)):=ag
  generalize upd HD pD (.lst ((lnK zD).map V.int))=HE at sE fE ⊢
  refine ⟨pD,_,rfl,.inl (SqL.of fE),fun pF xs hpF px sx=>?_⟩
  have sF:aD HE (upd HE pF (.lst (xs.map V.int))):=aD.new hpF
  have fF:(upd HE pF (.lst (xs.map V.int))) pF=some (.lst (xs.map V.int)):=ag
  generalize upd HE pF (.lst (xs.map V.int))=HF at sF fF ⊢
  have dF:=sF _ _ (sE _ _ dC)
  refine ⟨_,rfl,p8,_,rfl,.inl (SqL.of dF),fun pG ys hpG py sy=>?_⟩
  have eq:xs=ys:=by
   refine uX (px.trans (List.Perm.trans ?_ py.symm)) sx sy
   have:=(rj U hW).map (fun n:Nat=>(n:Int))
   rw [BZ,BZ] at this
   rw [lx eD,lx e8,B5]
   exact this
  subst eq
  have sG:aD HF (upd HF pG (.lst (xs.map V.int))):=aD.new hpG
  refine vF (sG _ _ fF) ag ?_
  have sT:=s47.trans ((sC.trans sE).trans (sF.trans sG))
  exact k _ (F4.same sT) (sb04.trans sT.b)
end
inductive pV (K:PySem.W.Frag)(vs:List V)(H:Hp)(Q:VK)(GD:XK):Prop
 | mk:∀ (a:Addr) (ns:List Int),(vs=[.ref a])→(SqL K H a (ns.map V.int))→(ns.length≤63)→(∀ H',Q (.bl true) H')→pV K vs H Q GD
section
variable {P:Program} {w:World} {K:PySem.W.Frag} {mg:Str→Option Value} {base:Heap} {aB:Addr}
theorem x_ {H:Hp}{d c a:Addr}{xs:List V}(F:Tp H d c)(h:H a=some (.tup xs)):a≠d:=by
 obtain ⟨i,l,t,ns,h1,_⟩:=F.ex
 exact p6 h h1 (by intro z;cases z)
abbrev jb:Stmt:=top 40
theorem yd:aE ["_law_script","_law_tape_here","_law_k","_law_surface","_law_ways"] ["_law_script"] (ak jb):=⟨rfl,rfl,rfl,by decide +kernel,rfl,by decide +kernel,by decide +kernel⟩
theorem zQ {f:Addr}{fd:FuncData}(D:Fun K "law" "law" jb f fd)(T:Bt K w mg aB)(F_tape:Fnc P w K mg base "_law_tape" ["_law_script"] 1 (nV K))(Gr:Fnc P w K mg base "_law_draw" ["_law_tape_here","_law_many"] 1 cC)(F_row:Fnc P w K mg base "_law_any_row" ["_law_tape_here","_law_most"] 2 sQ)(G5:Fnc P w K mg base "_law_some_ways" ["_law_tape_here","_law_many","_law_most","_law_long"] 4 ir)
  (G6:Fnc P w K mg base "_law_right" ["_law_tape_here","_law_surface","_law_ways"] 8 c6) (GV:Fnc P w K mg base "_law_turned_right" ["_law_tape_here","_law_surface","_law_ways"] 8 c6):lH P w K mg base CX0 10 f fd ["_law_script"] (pV K):=by
 have sc:=yd
 refine D.ok sc (fun vs H Q E h=>?_) (fun Gz A outer s H vs Q E hr h=>?_)
 ·obtain ⟨a,ns,rfl,_⟩:=h
  rfl
 ·obtain ⟨a,ns,rfl,hS,hlen,q⟩:=h
  have GI:=ba
  refine ⟨_,(FS (FX (1) sc.nd rfl (Or.inl rfl) (Ge F_tape hr (by decide) rfl (FO (pv 0) ae))) (FS (Gk B3 rfl (Gm rfl T.range (FO ai ae)) (Ga (2) sc.nd rfl (Or.inl rfl)) (FS (FX (3) sc.nd rfl (Or.inl rfl) (Ge F_row hr (by decide) rfl (FO (pv 1) (FO ai ae)))) (FS (FX (4) sc.nd rfl (Or.inl rfl) (Ge G5 hr (by decide) rfl (FO (pv 1) (FO (FT dy (FY aC (by rfl) T.len Bq (FO (pv 3) ae)) ai) (FO ai (FO (FU bg (FN (FO ai (FO ai (FO ai ae)))) (Ge Gr hr (by decide) rfl (FO (pv 1) (FO ai ae))) (fun _ _=>rfl)) ae)))))) (FL (FV (@PW.pt _ _ _ (@vR _ _ _ _ _ _ _ (@mH _ _ _ _ (@c9 _ _ _ (Ge G6 hr (by decide) rfl (FO (pv 1) (FO (pv 3) (FO (pv 4) ae)))) (fun _=>rfl))) (@rP _ _ _ _ (@mH _ _ _ _ (@c9 _ _ _ (Ge GV hr (by decide) rfl (FO (pv 1) (FO (pv 3) (FO (pv 4) ae)))) (fun _=>rfl)))))) (FL (FM ix)) bo))))) (FL (FM ix)))),?_⟩
  refine ⟨_,rfl,a,ns,rfl,hS,hlen,fun d c H1 _ _ F1 _=>?_⟩
  refine ⟨_,rfl,by decide,by decide,bD (lo:=0) (n:=3) (fun i σ H'=>∃ (b2 b3 b4:Option V),σ = [some (.ref a),some (.ref d),b2,b3,b4]∧Tp H' d c) ⟨none,none,none,rfl,F1⟩ ?_ ?_⟩
  ·rintro i σ H1 hi ⟨b2,b3,b4,rfl,F1⟩
   refine ⟨_,rfl,d,c,_,rfl,F1,by decide,by decide,fun u n H2 U hn F2 _=>?_⟩
   have hul:=U.len
   have h1:=U.lo
   have h6:=U.hi
   have GS:(toS u).length≤sizeLine:=by rw [af];omega
   have e2:((toS u).length:Int) / 2=(n:Int):=by rw [af];omega
   refine ⟨_,rfl,_,rfl,_,rfl,GS,_,_,rfl,rfl,⟨by decide,by decide⟩,?_⟩
   rw [e2]
   refine ⟨(c0 (n:=3) (by decide)),fun l0 hl0=>⟨_,rfl,d,c,_,rfl,F2.new hl0,by decide,by decide,fun y H3 y0 y1 F3 GW=>?_⟩⟩
   have f3:=GW _ _ (F2.ne hl0) (ag (o:=.lst [.int 3,.int 5,.int 8]))
   obtain ⟨lng,ax,lo,hi2⟩:∃ z:Int,atI [V.int 3,.int 5,.int 8] y=some (.int z)∧1≤z∧z≤8:=by
    have:y=0 ∨ y=1 ∨ y=2:=by omega
    rcases this with rfl | rfl | rfl
    ·exact ⟨3,dz (j:=0) rfl,by decide,by decide⟩
    ·exact ⟨5,dz (j:=1) rfl,by decide,by decide⟩
    ·exact ⟨8,dz (j:=2) rfl,by decide,by decide⟩
   refine ⟨l0,_,_,_,rfl,rfl,SqL.of f3,ax,?_⟩
   refine ⟨d,c,n,lng,rfl,F3,h1,h6,lo,hi2,fun aw W H5 F5 sb5 g5 w1 w3 gW=>?_⟩
   have hW:W8 n W:=⟨w1,w3,gW⟩
   refine ⟨_,rfl,_,rfl,_,rfl,d,c,u,aw,n,W,rfl,F5,U,hW,g5,fun H6 F6 sb6=>?_⟩
   have g6:=sb6 _ _ (x_ F5 g5) g5
   refine ⟨_,rfl,nkT (AJ ?_)⟩
   refine ⟨_,rfl,_,rfl,_,rfl,d,c,u,aw,n,W,rfl,F6,U,hW,g6,fun H7 F7 sb7=>?_⟩
   exact ⟨_,rfl,nkT (oX ⟨_,_,_,rfl,F7⟩)⟩
  ·rintro σ H1 ⟨b2,b3,b4,rfl,F1⟩
   exact q _
end
theorem zR {K:PySem.W.Frag}{h:Heap}{mg:Str→Option Value}{x:Str}{st:Stmt}{f:Addr}{oc:Value}{od an:Option Addr}{osl:Array (Option Value)}{kV doc pm Gz ct:Value}(X:K.In h)(G:h.Ns mainGlobals mg)(a:PySem.W.nsIn K mainGlobals x=some (some (.ref f)))
  (l:K.lookup f=some ⟨oc,od,.func (PySem.W.fnOf x x (b9 st) (bO st) (ak st) .none kV doc pm an Gz ct),osl⟩) (c:PySem.W.codeIn K Gz x=true) (k:PySem.W.keepIn K (.ref f)=true):Df K mg x st:=⟨f,_,Ed X G a,r6 l c k⟩
inductive DI (K:PySem.W.Frag)(x:Str)(st:Stmt):Prop
 | mk {f:Addr} {oc:Value} {od an:Option Addr} {osl:Array (Option Value)} {kV doc pm Gz ct:Value} (a:PySem.W.nsIn K mainGlobals x=some (some (.ref f))) (l:K.lookup f=some ⟨oc,od,.func (PySem.W.fnOf x x (b9 st) (bO st) (ak st) .none kV doc pm an Gz ct),osl⟩) (c:PySem.W.codeIn K Gz x=true) (k:PySem.W.keepIn K (.ref f)=true):DI K x st
theorem DI.df {K:PySem.W.Frag}{h:Heap}{mg:Str→Option Value}{x:Str}{st:Stmt}(d:DI K x st)(X:K.In h)(G:h.Ns mainGlobals mg):Df K mg x st:=by
 cases d with
 | mk a l c k=>exact zR X G a l c k
inductive DL where
 | n
 | c (x:Str) (st:Stmt) (r:DL)
def DIs (K:PySem.W.Frag):DL→Prop
 | .n=>True
 | .c x st r=>DI K x st∧DIs K r
theorem DIs.on {K:PySem.W.Frag}{x:Str}{st:Stmt}{r:DL}{f:Addr}{oc:Value}{od an:Option Addr}{osl:Array (Option Value)}{kV doc pm Gz ct:Value}(a:PySem.W.nsIn K mainGlobals x=some (some (.ref f)))(l:K.lookup f=some ⟨oc,od,.func (PySem.W.fnOf x x (b9 st) (bO st) (ak st) .none kV doc pm an Gz ct),osl⟩)(c:PySem.W.codeIn K Gz x=true)(k:PySem.W.keepIn K (.ref f)=true)(hr:DIs K r):DIs K (.c x st r):=⟨.mk a l c k,hr⟩
theorem ye {l:PySem.W.OpenLaw}{w:World}{K:PySem.W.Frag}{h:Heap}{mg:Str→Option Value}{fa:Addr}(X:K.In h)(G:h.Ns mainGlobals mg)(hfa:mg "law" = some (.ref fa))
  {f31:Addr} {od31 an31:Option Addr} {sl31:Array (Option Value)} {oc31 kV31 dc31 pm31 cd31 ct31:Value} {aB:Addr} {es:Array DictEntry} {en:Nat} {tS:Tok}  {t0 t1 t2 t3 t4 t5 t6 t7 t8 t9 t10 t11:Tok}
  (hs:DIs K (.c "back" pJ <| .c "met" pK <| .c "sums" pM <| .c "letters_of" vk <| .c "round_from" zr <| .c "are_met_by_turns" vf <| .c "links" jW <| .c "links_at" vh <| .c "beside_at" vg <| .c "chord_ends" zx <| .c "along_at" vc <| .c "against_at" vd <| .c "stretch" va <| .c "is_parted" pL <| .c "is_first" u_ <| .c "balance" vn <| .c "side_of" pN <| .c "places_of" zJ <| .c "_law_tape" pH <| .c "_law_draw" pI <| .c "_law_back" jV <| .c "_law_any_row" vo <| .c "_law_inner" jX <| .c "_law_rooted" fL <| .c "_law_any_way" zN <| .c "_law_some_ways" jY <| .c "_law_other_names" jZ <| .c "_law_renamed_word" j2 <| .c "_law_asked_so" vA <| .c "_law_right" j3 <| .c "_law_turned_right" iw <| .n))
  (a31:PySem.W.nsIn K mainGlobals "law" = some (some (.ref f31)))
  (l31:K.lookup f31=some ⟨oc31,od31,.func (PySem.W.fnOf "law" "law" (b9 jb) (bO jb) (ak jb) .none kV31 dc31 pm31 an31 cd31 ct31),sl31⟩)
  (c31:PySem.W.codeIn K cd31 "law" = true)
  (k31:PySem.W.keepIn K (.ref f31)=true)
  (z_len:PySem.W.nsIn K mainGlobals "len" = some none)
  (z_repr:PySem.W.nsIn K mainGlobals "repr" = some none)
  (z_abs:PySem.W.nsIn K mainGlobals "abs" = some none)
  (z_max:PySem.W.nsIn K mainGlobals "max" = some none)
  (z_int:PySem.W.nsIn K mainGlobals "int" = some none)
  (z_list:PySem.W.nsIn K mainGlobals "list" = some none)
  (z_range:PySem.W.nsIn K mainGlobals "range" = some none)
  (z_reversed:PySem.W.nsIn K mainGlobals "reversed" = some none)
  (z_min:PySem.W.nsIn K mainGlobals "min" = some none)
  (z_sorted:PySem.W.nsIn K mainGlobals "sorted" = some none)
  (z_tuple:PySem.W.nsIn K mainGlobals "tuple" = some none)
  (z_isinstance:PySem.W.nsIn K mainGlobals "isinstance" = some none)
  (z_all:PySem.W.nsIn K mainGlobals "all" = some none)
  (z_str:PySem.W.nsIn K mainGlobals "str" = some none)
  (z_zip:PySem.W.nsIn K mainGlobals "zip" = some none)
  (aBk:PySem.W.nsIn K mainGlobals "BACKS" = some (some (.ref aB)))
  (lB:K.lookup aB=some ⟨.type "dict",none,.dict es en,#[]⟩)
  (kB:PySem.W.KeysLit w.params es.toList)
  (aS:PySem.W.nsIn K mainGlobals "SMALL" = some (some (.str "abcdef" tS)))
  (zS:PySem.W.nsIn K mainGlobals "set" = some none)
  (gl0:PySem.W.nsIn K aB "a" = some (some (.str "A" t0)))
  (gl1:PySem.W.nsIn K aB "b" = some (some (.str "B" t1)))
  (gl2:PySem.W.nsIn K aB "c" = some (some (.str "C" t2)))
  (gl3:PySem.W.nsIn K aB "d" = some (some (.str "D" t3)))
  (gl4:PySem.W.nsIn K aB "e" = some (some (.str "E" t4)))
  (gl5:PySem.W.nsIn K aB "f" = some (some (.str "F" t5)))
  (gl6:PySem.W.nsIn K aB "A" = some (some (.str "a" t6)))
  (gl7:PySem.W.nsIn K aB "B" = some (some (.str "b" t7)))
  (gl8:PySem.W.nsIn K aB "C" = some (some (.str "c" t8)))
  (gl9:PySem.W.nsIn K aB "D" = some (some (.str "d" t9)))
  (gl10:PySem.W.nsIn K aB "E" = some (some (.str "e" t10)))
  (gl11:PySem.W.nsIn K aB "F" = some (some (.str "f" t11))) :
  ∃ fd:FuncData,(∀ (s:Shared) (v:Value),BindsTo s fd ⟨[v],[]⟩ [("_law_script",v)])∧∀ base:Heap,K.In base→base.Ns mainGlobals mg→lH l.prog w K mg base CX0 10 fa fd ["_law_script"] (pV K):=by
 have e:=hfa.symm.trans (Ed X G a31)
 cases e
 have gB:∀ x:L,∃ t,PySem.W.nsIn K aB (toS [x])=some (some (.str (toS [inv x]) t)):=by
  have q:∀ (x:L) (u v:Str) (t:Tok),PySem.W.nsIn K aB u=some (some (.str v t))→toS [x]=u→toS [inv x]=v→∃ t,PySem.W.nsIn K aB (toS [x])=some (some (.str (toS [inv x]) t)):=fun x u v t g e1 e2=>⟨t,by rw [e1,e2];exact g⟩
  intro x
  match x with
  | ⟨0,_⟩=>exact q 0 "a" "A" _ gl0 (by decide +kernel) (by decide +kernel)
  | ⟨1,_⟩=>exact q 1 "b" "B" _ gl1 (by decide +kernel) (by decide +kernel)
  | ⟨2,_⟩=>exact q 2 "c" "C" _ gl2 (by decide +kernel) (by decide +kernel)
  | ⟨3,_⟩=>exact q 3 "d" "D" _ gl3 (by decide +kernel) (by decide +kernel)
  | ⟨4,_⟩=>exact q 4 "e" "E" _ gl4 (by decide +kernel) (by decide +kernel)
  | ⟨5,_⟩=>exact q 5 "f" "F" _ gl5 (by decide +kernel) (by decide +kernel)
  | ⟨6,_⟩=>exact q 6 "A" "a" _ gl6 (by decide +kernel) (by decide +kernel)
  | ⟨7,_⟩=>exact q 7 "B" "b" _ gl7 (by decide +kernel) (by decide +kernel)
  | ⟨8,_⟩=>exact q 8 "C" "c" _ gl8 (by decide +kernel) (by decide +kernel)
  | ⟨9,_⟩=>exact q 9 "D" "d" _ gl9 (by decide +kernel) (by decide +kernel)
  | ⟨10,_⟩=>exact q 10 "E" "e" _ gl10 (by decide +kernel) (by decide +kernel)
  | ⟨11,_⟩=>exact q 11 "F" "f" _ gl11 (by decide +kernel) (by decide +kernel)
 have T:Bt K w mg aB:=⟨BG X G z_len,BG X G z_repr,BG X G z_abs,BG X G z_max,BG X G z_int,BG X G z_list,BG X G z_range,BG X G z_reversed,BG X G z_min,BG X G z_sorted,BG X G z_tuple,BG X G z_isinstance,BG X G z_all,BG X G z_str,BG X G z_zip,Ed X G aBk,⟨es,en,lB,kB⟩,gB⟩
 have S:∃ t,mg "SMALL" = some (.str "abcdef" t):=⟨_,Ed X G aS⟩
 have Tset:mg "set" = none:=BG X G zS
 refine ⟨PySem.W.fnOf "law" "law" (b9 jb) (bO jb) (ak jb) .none kV31 dc31 pm31 an31 cd31 ct31,fun s v=>.of_eq rfl,fun base _ _=>?_⟩
 obtain ⟨h0,h1,h2,h3,h4,h5,h6,h7,h8,h9,h10,h11,h12,h13,h14,h15,h16,h17,h18,h19,h20,h21,h22,h23,h24,h25,h26,h27,h28,h29,h30,_⟩:=hs
 have F_tape:=xD (P:=l.prog) (w:=w) (base:=base) (h18.df X G) T
 have Gr:=xE (P:=l.prog) (w:=w) (base:=base) (h19.df X G) T
 have Gx:=xF (P:=l.prog) (w:=w) (base:=base) (h0.df X G) T
 have GA:=u7 (P:=l.prog) (w:=w) (base:=base) (h20.df X G)
 have Gy:=xG (P:=l.prog) (w:=w) (base:=base) (h1.df X G) T Gx
 have F_rf:=AQ (P:=l.prog) (w:=w) (base:=base) (h4.df X G) T
 have F_fst:=zw (P:=l.prog) (w:=w) (base:=base) (h14.df X G) T F_rf
 have F_ce:=AR (P:=l.prog) (w:=w) (base:=base) (h9.df X G) T Gx Gy
 have G2:=zB (P:=l.prog) (w:=w) (base:=base) (h12.df X G) T Gy
 have GL:=xJ (P:=l.prog) (w:=w) (base:=base) (h13.df X G) T Gx Gy F_fst
 have F_alg:=zC (P:=l.prog) (w:=w) (base:=base) (h10.df X G) T G2 GL
 have F_agn:=zE (P:=l.prog) (w:=w) (base:=base) (h11.df X G) T G2 GL
 have G3:=zF (P:=l.prog) (w:=w) (base:=base) (h5.df X G) T
 have F_bes:=zG (P:=l.prog) (w:=w) (base:=base) (h8.df X G) T Tset F_ce (G3.imp fun _ _ _ _ h=>Or.inr h)
 have F_lat:=zH (P:=l.prog) (w:=w) (base:=base) (h7.df X G) T F_agn F_alg F_bes
 have G8:=vi (P:=l.prog) (w:=w) (base:=base) (h6.df X G) T F_lat
 have G4:=xQ (P:=l.prog) (w:=w) (base:=base) (h2.df X G) T Gx S
 have F_let:=zI (P:=l.prog) (w:=w) (base:=base) (h3.df X G) T S
 have F_pl:=AS (P:=l.prog) (w:=w) (base:=base) (h17.df X G) T Gx
 have F_side:=xS (P:=l.prog) (w:=w) (base:=base) (h16.df X G) T Gx F_pl (G3.imp fun _ _ _ _ h=>Or.inl h) F_rf
 have F_bal:=zL (P:=l.prog) (w:=w) (base:=base) (h15.df X G) T F_let G4 F_side
 have F_row:=zM (P:=l.prog) (w:=w) (base:=base) (h21.df X G) T Gr
 have GM:=pO (P:=l.prog) (w:=w) (base:=base) (h23.df X G) T
 have G9:=vp (P:=l.prog) (w:=w) (base:=base) (h22.df X G) T GA
 have F_aw:=AU (P:=l.prog) (w:=w) (base:=base) (h24.df X G) T Gr G9 GM
 have G5:=vq (P:=l.prog) (w:=w) (base:=base) (h25.df X G) T Gr GA F_aw
 have G7:=vw (P:=l.prog) (w:=w) (base:=base) (h26.df X G) T Gr GA
 have GH:=vz (P:=l.prog) (w:=w) (base:=base) (h27.df X G) T
 have GF:=zP (P:=l.prog) (w:=w) (base:=base) (h28.df X G) T G8
 have G6:=vC (P:=l.prog) (w:=w) (base:=base) (h29.df X G) T Gr G7 GH GF F_bal
 have GV:=rM (P:=l.prog) (w:=w) (base:=base) (h30.df X G) T Gr GA GF
 exact zQ (r6 l31 c31 k31) T F_tape Gr F_row G5 G6 GV
theorem AV {l:PySem.W.OpenLaw}{q:Program}{loose:List Str}{XP:(Str→Option Value)→Heap→Prop}{YP:World→Heap→Prop}{d:DefRec}{K:Params→PySem.W.Frag}(hn:l.most=some 63)(hdf:d.params.defaults=[])
  (hY:∀ (w:World) (h:Heap),YP w h→(K w.params).In h)
  (F:∀ (w:World) (mg:Str→Option Value) (fa:Addr) (h:Heap),(K w.params).In h→h.Ns mainGlobals mg→mg d.name=some (.ref fa) →
   ∃ fd:FuncData,(∀ (s:Shared) (u:Value),BindsTo s fd ⟨[u],[]⟩ [("_law_script",u)])∧∀ base:Heap,(K w.params).In base→base.Ns mainGlobals mg→lH l.prog w (K w.params) mg base CX0 10 fa fd ["_law_script"] (pV (K w.params))) :
  PySem.W.WalkO q loose XP YP l.row.toRowW d [] (fun f vs=>PySem.call f vs) :=
 L2.nt (n:=63) (k:=10) (x:="_law_script") (CX:=fun _=>CX0) (sp:=fun w=>pV (K w.params)) hn (by decide) hdf ⟨rfl,by decide,by decide,rfl⟩ hY F (fun _ _ a ns hl _ hS=>⟨a,ns,rfl,hS,hl,fun _=>rfl⟩) fun _ _ _ _ _ z=>z
end Kx
namespace Kx
open PySem
def yf (s:String):Str:=⟨⟨PySem.W.R.mapR Char.toNat (PySem.W.S.toListS s)⟩⟩
theorem rN:Str.ofString=yf:=by
 funext s
 rw [Str.ofString_eq_toList,PySem.W.S.toListS_eq]
 show _=(⟨⟨PySem.W.R.mapR Char.toNat (PySem.W.S.toListS s)⟩⟩:Str)
 rw [← PySem.W.R.mapR_eq]
def apG (G:(String→Str)→Program)(x:String→Str):Program:=G x
def Gs:{ G:(String→Str)→Program // apG G Str.ofString=PySem.Challenge.pw_ringwords_k49_whole_surfaces_told_otherw }:=by
 refine ⟨?G,?h⟩
 case h =>
  delta PySem.Challenge.pw_ringwords_k49_whole_surfaces_told_otherw
  generalize Str.ofString=x
  exact rfl
end Kx
def PySem.W.Fast.tw1963978447524518990:PySem.Program:=Kx.Gs.1 Kx.yf
theorem PySem.W.Fast.te1963978447524518990:PySem.Challenge.pw_ringwords_k49_whole_surfaces_told_otherw=PySem.W.Fast.tw1963978447524518990:=Kx.Gs.2.symm.trans (Br (Kx.apG Kx.Gs.1) Kx.rN)
namespace PySem.W.Fast
theorem te7836807130507566766:True:=trivial
theorem tw17588548630392394968:True:=trivial
theorem tw8237813825820994742:True:=trivial
theorem tw3956305415592155463:True:=trivial
theorem tw4434915607717120433:True:=trivial
theorem tw15006540557102953525:True:=trivial
theorem tw2601577452474314533:True:=trivial
theorem tw1694202869255392879:True:=trivial
theorem tw3555382227214538761:True:=trivial
theorem tw2644708659198679280:True:=trivial
theorem tw7708330904184572003:True:=trivial
theorem tw9636632786233130057:True:=trivial
theorem tw7411891563538037655:True:=trivial
theorem tw6108270525156438108:True:=trivial
theorem tw14758251863496699159:True:=trivial
theorem tw9039683174211772516:True:=trivial
theorem tw12038321417662865307:True:=trivial
theorem tw1396595657664586051:True:=trivial
theorem tw6418272535468653194:True:=trivial
theorem tw4719802430298071128:True:=trivial
theorem tw9127865814577047874:True:=trivial
theorem tw10026895480902292489:True:=trivial
theorem tw16709320739259886411:True:=trivial
theorem tw13739557003496040338:True:=trivial
theorem tw10403599973898661694:True:=trivial
theorem tw18393738146298456636:True:=trivial
theorem tw8626803585093656952:True:=trivial
theorem tw5680247558517519030:True:=trivial
theorem tw15163720623905780630:True:=trivial
theorem tw13551884504923348780:True:=trivial
theorem tw4988240054181787966:True:=trivial
theorem tw3440426990728192757:True:=trivial
theorem tw7005756566670273980:True:=trivial
theorem tw12520461183040319650:True:=trivial
theorem tw849085406286199837:True:=trivial
theorem tw9712578904066425905:True:=trivial
theorem tw4667243957951375395:True:=trivial
theorem tw9560259465769977269:True:=trivial
theorem tw12648804389383598914:True:=trivial
theorem tw11102977966973385717:True:=trivial
theorem tw11176545750445122808:True:=trivial
theorem tw14499618720067026462:True:=trivial
theorem tw5773169319497355151:True:=trivial
theorem tw15430162132737158933:True:=trivial
theorem tw1789746292805767950:True:=trivial
theorem tw16290022090349785226:True:=trivial
theorem tw1282935821528949106:True:=trivial
theorem tw11578725406986406802:True:=trivial
theorem tw5164285299913960131:True:=trivial
theorem tw11136393928774582003:True:=trivial
theorem tw6903350467777058608:True:=trivial
theorem tw14003861146748154272:True:=trivial
theorem tw9071834242634084619:True:=trivial
theorem tw3759824307721747858:True:=trivial
theorem tw6489580657564500966:True:=trivial
theorem tw3390975652309049926:True:=trivial
theorem tw2342188524787315322:True:=trivial
theorem tw17584238313219348025:True:=trivial
theorem tw12626377099043948150:True:=trivial
theorem tw5335070550062326069:True:=trivial
theorem tw16889943510401880176:True:=trivial
theorem tw2476938352731246060:True:=trivial
theorem tw7631294215871605413:True:=trivial
theorem tw15812176761632931188:True:=trivial
theorem tw4971159197131544169:True:=trivial
theorem tw11498640571916607131:True:=trivial
theorem tw8100903805765469218:True:=trivial
theorem tw15851240855811768545:True:=trivial
theorem tw4479181350686027051:True:=trivial
theorem tw4746689575347229934:True:=trivial
theorem tw12144923561803861996:True:=trivial
theorem tw16075007350557170243:True:=trivial
theorem tw13143933764790022949:True:=trivial
theorem tw15242997698757617173:True:=trivial
theorem tw14282461489721271215:True:=trivial
theorem tw14160168564291013157:True:=trivial
theorem tw5546686647803006221:True:=trivial
theorem tw10905849698036416593:True:=trivial
theorem tw17844065969519806291:True:=trivial
theorem tw169525408864094125:True:=trivial
theorem tw4267403642675961197:True:=trivial
theorem tw5136149899015240770:True:=trivial
theorem tw10296828956896250607:True:=trivial
theorem tw5741974214974539579:True:=trivial
theorem tw16330892123809148828:True:=trivial
theorem tw16963690531263224203:True:=trivial
theorem tw18182939975278761991:True:=trivial
theorem tw17990187333190845040:True:=trivial
theorem tw12042967575030266237:True:=trivial
theorem tw10063852235014866591:True:=trivial
theorem tw962827256574281355:True:=trivial
theorem tw1392369072819128123:True:=trivial
theorem tw11827688006228220794:True:=trivial
theorem tw16088040834419062628:True:=trivial
end PySem.W.Fast
open PySem PySem.W PyProof.Rows
set_option maxRecDepth 100000 in
set_option maxHeartbeats 0 in
theorem PySem.Challenge.cw_ringwords_k49_whole_surfaces_told_otherw_holds : PySem.Challenge.rw_ringwords_k49_whole_surfaces_told_otherw.Holds := by
 w_on; o_law; k_head; (case hw=>w_witness2)
 k_fill
 refine Kx.AV (l:=PySem.Challenge.rw_ringwords_k49_whole_surfaces_told_otherw) rfl rfl (fun w h Y=>PySem.W.kIn_of Y) ?F
 case F =>
  intro w mg fa h KX G hmg
  refine' Kx.ye KX G hmg ?hs ?a31 ?l31 ?c31 ?k31 ?z_len ?z_repr ?z_abs ?z_max ?z_int ?z_list ?z_range ?z_reversed ?z_min ?z_sorted ?z_tuple ?z_isinstance ?z_all ?z_str ?z_zip ?aBk ?lB ?kB ?aS ?zS ?gl0 ?gl1 ?gl2 ?gl3 ?gl4 ?gl5 ?gl6 ?gl7 ?gl8 ?gl9 ?gl10 ?gl11
  (case hs=>(iterate 31 (refine' Kx.DIs.on ?_ ?_ ?_ ?_ ?_; rotate_left 10; k_is; k_is; k_is; k_is)); exact trivial)
  (case a31 | l31 | c31 | k31 | z_len | z_repr | z_abs | z_max | z_int | z_list | z_range | z_reversed | z_min | z_sorted | z_tuple | z_isinstance | z_all | z_str | z_zip | aBk | lB=>k_is)
  (case kB=>exact ⟨⟨_,_,rfl,rfl⟩,⟨_,_,rfl,rfl⟩,⟨_,_,rfl,rfl⟩,⟨_,_,rfl,rfl⟩,⟨_,_,rfl,rfl⟩,⟨_,_,rfl,rfl⟩,⟨_,_,rfl,rfl⟩,⟨_,_,rfl,rfl⟩,⟨_,_,rfl,rfl⟩,⟨_,_,rfl,rfl⟩,⟨_,_,rfl,rfl⟩,⟨_,_,rfl,rfl⟩,trivial⟩)
  (case aS | zS | gl0 | gl1 | gl2 | gl3 | gl4 | gl5 | gl6 | gl7 | gl8 | gl9 | gl10 | gl11=>k_is)
end
