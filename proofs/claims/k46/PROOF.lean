import PyProof.Rows.All
import Wide.All
import OpenK.AllK
import Wide.FinOn
import Lean
import PyProof.EqAt
import PyProof.EqKinds
import PyProof.TupleCall
import KE.KRevIter
import PyProof.Rows.SortShellK
import PyProof.Rows.SortRunsK
import PyProof.FString5
import PyProof.NeData
import PyProof.TupleOfStr
import PyProof.IsRules
import PySem.Challenge.RW_ringwords_k46_whole_balance_and_links
set_option Elab.async false
set_option linter.all false
set_option maxRecDepth 100000
set_option maxHeartbeats 0
noncomputable section
def fu:=@List.getElem?_eq_getElem
def zH:=@decide_eq_false
def zI:=@List.length_append
def zJ:=@List.mem_singleton
def zK:=@PySem.wpAny_bind
def zL:=@Array.length_toList
def zM:=@PySem.Heap.get?_push_of_some
def zN:=@List.getElem?_eq_some_iff
def zO:=@List.mem_cons_of_mem
def zP:=@Option.some.inj
def zQ:=@decide_eq_true
def zR:=@List.append_assoc
def zT:=@decide_eq_true_iff
def zU:=@Nat.le_refl
def zV:=@List.length_map
def zW:=@PyProof.Rows.wpS_bind
def zX:=@List.mem_cons_self
def zY:=@Int.emod_lt_of_pos
def zZ:=@PyProof.Rows.wpS_pure
def z3:=@List.mem_append
def z6:=@List.mem_append_right
def z7:=@PySem.Heap.lt_size
def z8:=@List.size_toArray
def z9:=@List.length_take
def z_:=@PySem.Heap.get?_push_size
def Ab:=@PySem.wpAny_pure
def Ac:=@Bool.false_eq_true
def Ad:=@Int.emod_nonneg
def Ae:=@List.mem_cons
def Af:=@congrArg
def Ag:=@List.getD_eq_getElem?_getD
def Ai:=@PySem.boot_len
def Aj:=@List.mem_append_left
def Ak:=@List.take_append_drop
def Al:=@List.getElem?_append_right
def Am:=@Nat.lt_of_lt_of_le
def An:=@Bool.false_ne_true
def Ao:=@PySem.F.plainAttrs_str
def Ap:=@Bool.eq_iff_iff
def Aq:=@List.length_singleton
def Ar:=@List.nodup_cons
def As:=@PySem.W.mg_none_of
def Au:=@Array.getElem?_toList
def Av:=@List.length_pos_iff
def Ax:=@List.not_mem_nil
def Ay:=@Nat.zero_le
def Az:=@List.getElem?_map
def AA:=@List.map_cons
def AB:=@List.take_of_length_le
def AC:=@List.length_cons
def AD:=@List.getElem_mem
def AE:=@List.mem_map
def AF:=@List.mem_of_getElem?
def AG:=@PySem.PassesOwn.never
def AH:=@Bool.false_and
def AI:=@List.drop_eq_getElem_cons
def AJ:=@Nat.ne_of_lt
def AK:=@Bool.true_and
def AL:=@PySem.Heap.get?_update_other
def AM:=@Int.toNat_natCast
def AN:=@List.getElem?_drop
def AO:=@Nat.le_trans
def AQ:=@PyProof.Rows.wpS_forRange
def AR:=@Int.eq_ofNat_of_zero_le
def AS:=@PySem.F.plainAttrs_list
def AU:=@List.map_append
def AV:=@List.getElem?_append_left
def AW:=@Int.emod_eq_of_lt
def AX:=@List.getElem?_take_of_lt
def AY:=@List.append_nil
def AZ:=@Nat.lt_irrefl
def A0:=@Array.toList_extract
def A2:=@List.getElem?_of_mem
def A3:=@List.mem_of_mem_take
def A4:=@List.length_nil
def A5:=@PyProof.Rows.KeyOrd.kle_refl
def A6:=@if_false
def A7:=@List.eq_nil_of_length_eq_zero
def A8:=@List.perm_append_comm
def A9:=@List.nodup_nil
def A_:=@Bool.and_eq_true
def Ba:=@Nat.mod_eq_of_lt
def Bb:=@PySem.F.slot_str_index
def Bc:=@PySem.F.type_str_index
def Bd:=@PySem.wpAny_truthy_bool
def Be:=@PySem.mem_of_lookup
def Bf:=@List.pairwise_iff_getElem
def Bg:=@List.mem_filter
def Bh:=@List.Perm.append_left
def Bi:=@List.cons_lt_cons_iff
def Bj:=@List.zip_cons_cons
def Bk:=@List.getElem_idxOf
def Bl:=@List.length_drop
def Bm:=@List.mem_of_mem_drop
def Bn:=@PySem.wpAny_getItem_str_slice
def Bo:=@List.cons.inj
def Bp:=@PyProof.Rows.wpS_mono
def Bq:=@PyProof.Rows.F.plain_set_update_loop
def Br:=@Int.add_emod
def Bs:=@decide_eq_true_eq
def Bu:=@List.nodup_append
def Bv:=@List.flatten_cons
def Bw:=@PyProof.Rows.callWith_type1
def Bx:=@List.idxOf_lt_length_of_mem
def By:=@List.drop_eq_nil_of_le
def Bz:=@Array.getElem?_eq_some_iff
def BA:=@Array.perm_iff_toList_perm
def BB:=@Nat.lt_succ_self
def BC:=@List.countP_cons
def BD:=@PySem.wpAny_holding
def BE:=@List.map_map
def BF:=@PySem.F.slot_str_join
def BG:=@PySem.F.type_str_join
def BH:=@PySem.wpAny_passesOwn
def BI:=@if_true
def BJ:=@Array.toList_push
def BK:=@Int.add_zero
def BL:=@Nat.add_sub_cancel_left
def BM:=@List.flatten_append
def BN:=@or_false
def BO:=@PyProof.Rows.KeyOrd.kle_trans
def BP:=@decide_eq_decide
def BQ:=@Bool.not_eq_true
def BR:=@PySem.wpAny_mono
def BS:=@Bool.and_false
def BU:=@PySem.wpAny_rule
def BV:=@List.drop_of_length_le
def BW:=@List.pairwise_cons
def BX:=@PySem.Heap.get?_update_self
def BY:=@List.find?_cons
def BZ:=@PySem.builtinLookup_eq_fast
def B0:=@List.getElem?_eq_none
def B2:=@PySem.codeAny_builtin
def B3:=@of_decide_eq_true
def B4:=@Nat.lt_succ_of_lt
def B5:=@PyProof.Rows.KeyOrd.kle_of_klt
def B6:=@List.flatMap_cons
def B7:=@PySem.Heap.size_push
def B8:=@List.Perm.refl
def B9:=@PyProof.Rows.F.entry_set_update_loop
def B_:=@List.getLast?_eq_getElem?
def Ca:=@List.all_eq_true
def Cb:=@PySem.wpAny_call_entry
def Cc:=@List.mem_flatten
def Cd:=@Prod.ext
def Ce:=@PySem.F.args_tuple_add_2
def Cf:=@List.length_erase_of_mem
def Cg:=@PyProof.Rows.wpS_modify
def Ci:=@PySem.F.slot_list_extend
def Cj:=@PySem.F.type_list_extend
def Ck:=@PySem.F.slot_list_append
def Cm:=@PySem.F.type_list_append
def Cn:=@PySem.F.entry_tuple_add
def Co:=@PySem.post_val_or_str
def Cp:=@PySem.Obj.data_mapFields
def Cq:=@List.getElem?_take
def Cr:=@PyProof.Rows.KK_mirror_equal
def Ct:=@List.length_eq_zero_iff
def Cu:=@PySem.F.slot_tuple_add
def Cv:=@List.Perm.append_right
def Cw:=@List.flatten_singleton
def Cz:=@List.head?_eq_getElem?
def CA:=@List.take_add_one
def CB:=@not_false_eq_true
def CC:=@Int.emod_add_emod
def CD:=@List.drop_zero
def CF:=@PySem.Txt.slice_le
def CG:=@List.getElem?_reverse
def CH:=@Nat.mod_self
def CI:=@PyProof.Rows.listItems_at
def CJ:=@List.eq_nil_or_concat
def CK:=@List.concat_eq_append
def CL:=@List.lookup_cons
def CM:=@List.take_length
def CN:=@Nat.zero_lt_succ
def CO:=@PySem.Around.under_plainId
def CP:=@List.Pairwise.filter
def CQ:=@PySem.W.mg_of
def CS:=@PySem.wpAny_newList
def CT:=@Bool.not_true
def CU:=@List.countP_eq_length_filter
def CV:=@List.dropLast_concat_getLast
def CW:=@PySem.typeIs_str
def CY:=@List.filterMap_cons
def CZ:=@PySem.wpAny_execs_nil
def C0:=@PySem.typeLookup_type
def C1:=@PySem.wpAny_of_eq
def C2:=@PySem.Heap.SameBut.update
def C3:=@List.flatMap_append
def C4:=@PyProof.Rows.wpS_get
def C5:=@Array.toList_append
def C6:=@PySem.Calls.Name_function_global
def C7:=@Int.add_mul_emod_self_left
def C8:=@Array.toList_setIfInBounds
def C9:=@List.perm_ext_iff_of_nodup
def C_:=@PySem.wpAny_pyIter_tuple
def Da:=@List.mem_filterMap
def Dd:=@PySem.codeAny_mono
def De:=@PySem.wpAny_Call_Name_kw
def Dg:=@Int.mul_zero
def Dh:=@Int.zero_add
def Di:=@Nat.sub_self
def Dj:=@List.mem_range
def Dk:=@PySem.isSubtype_type
def Dl:=@PySem.wpAny_pyIter_list
def Dm:=@PySem.AutoSeq1.sub_tuple_tuple
def Dn:=@PySem.F.slot_list_insert
def Do:=@Bool.eq_false_iff
def Dp:=@PySem.Paired.length
def Dq:=@Nat.le_succ
def Dr:=@PySem.wpAny_attempt
def Ds:=@PySem.wpAny_field
def Dt:=@Int.add_assoc
def Du:=@List.pairwise_singleton
def Dv:=@PyProof.Rows.listUpdate_at
def Dw:=@List.getLast?_cons_cons
def Dx:=@Int.ofNat.inj
def Dy:=@decide_eq_false_iff_not
def Dz:=@Int.neg_neg
def DA:=@PySem.noFill_tuple_add
def DB:=@Option.getD_none
def DC:=@List.drop_length
def DE:=@Array.toList_inj
def DF:=@List.zipIdx_cons
def DG:=@List.getElem_map
def DH:=@List.getElem?_set_self
def DJ:=@PySem.W.cellsFrom_some
def DK:=@PySem.F.slot_str_count
def DM:=@PySem.F.type_str_count
def DN:=@Nat.le_of_lt
def DO:=@List.of_mem_zip
def DP:=@List.map_nil
def DQ:=@List.forIn_cons
def DR:=@List.cons.injEq
def DS:=@Nat.not_lt_zero
def DT:=@List.range_succ
def DU:=@Array.Perm.refl
def DV:=@PySem.call_meets
def DW:=@PyProof.Rows.wpS_lift
def DX:=@PySem.wpAny_setField
def DY:=@List.lt_irrefl
def DZ:=@PySem.sizeLine_eq
def D0:=@Bool.or_false
def D1:=@List.any_cons
def D2:=@Nat.add_assoc
def D3:=@beq_iff_eq
def D4:=@Nat.ne_of_gt
def D5:=@Nat.lt_trans
def D6:=@Nat.sub_zero
def D7:=@Nat.zero_add
def D8:=@getElem?_pos
def D9:=@and_true
namespace L2
open PySem PySem.Spec PyProof.Rows
abbrev Key:=Sum Int Str
def kf:Key→Value→Bool
 | .inl k,v=>Value.isInt k v
 | .inr x,v=>Value.isStrOf x v
def yS (w:World):Key→Int
 | .inl k=>hashInt k
 | .inr x=>hashStr w x
theorem aY:∀ {k:Key} {v:Value},kf k v=true→(∃ i t,k=Sum.inl i∧v=Value.int i t) ∨ (∃ x t,k=Sum.inr x∧v=Value.str x t)
 | .inl i,v,h=>by
  obtain ⟨t,e⟩:=Value.isInt_shape (k:=i) (v:=v) h
  exact .inl ⟨i,t,rfl,e⟩
 | .inr x,v,h=>by
  obtain ⟨t,e⟩:=Value.isStrOf_shape (x:=x) (v:=v) h
  exact .inr ⟨x,t,rfl,e⟩
theorem kQ (i:Int)(t:Tok):kf (.inl i) (.int i t)=true:=by simp [kf,Value.isInt]
theorem kR (x:Str)(t:Tok):kf (.inr x) (.str x t)=true:=by simp [kf,Value.isStrOf]
theorem uy (a b:Int):decide ((Sum.inl a:Key)=Sum.inl b)=(a == b):=by
 by_cases e:a=b
 ·subst e;simp
 ·have h:¬ (Sum.inl a:Key)=Sum.inl b:=fun q=>e (Sum.inl.inj q)
  rw [zH h]
  exact (beq_eq_false_iff_ne.mpr e).symm
theorem uz (a b:Str):decide ((Sum.inr a:Key)=Sum.inr b)=decide (a=b):=by
 by_cases e:a=b
 ·subst e;simp
 ·have h:¬ (Sum.inr a:Key)=Sum.inr b:=fun q=>e (Sum.inr.inj q)
  rw [zH h,zH e]
theorem uA (a:Int)(b:Str):decide ((Sum.inl a:Key)=Sum.inr b)=false:=zH (fun q=>nomatch q)
theorem uB (a:Str)(b:Int):decide ((Sum.inr a:Key)=Sum.inl b)=false:=zH (fun q=>nomatch q)
def bt (prog:Program)(w:World):PySem.KeyKind prog w Key where
 is:=kf
 hash:=yS w
 inj:=fun v a b ha hb=>by
  rcases aY ha with ⟨i,t,rfl,rfl⟩ | ⟨x,t,rfl,rfl⟩
  ·rcases aY hb with ⟨j,u,rfl,e⟩ | ⟨y,u,rfl,e⟩
   ·injection e with e1 _;rw [e1]
   ·exact nomatch e
  ·rcases aY hb with ⟨j,u,rfl,e⟩ | ⟨y,u,rfl,e⟩
   ·exact nomatch e
   ·injection e with e1 _;rw [e1]
 byValue:=fun k v h=>by
  rcases aY h with ⟨i,t,rfl,rfl⟩ | ⟨x,t,rfl,rfl⟩ <;> rfl
 pyHash:=fun hv h=>by
  rcases aY hv with ⟨i,t,rfl,rfl⟩ | ⟨x,t,rfl,rfl⟩
  ·exact wpAny_pyHash_int h
  ·exact wpAny_pyHash_str h
 eqBool:=fun hu hv h=>by
  rcases aY hu with ⟨i,t,rfl,rfl⟩ | ⟨x,t,rfl,rfl⟩
  ·rcases aY hv with ⟨j,u,rfl,rfl⟩ | ⟨y,u,rfl,rfl⟩
   ·rw [uy] at h;exact wpAny_eqBool_int h
   ·rw [uA] at h;exact SeqAt.EqAt.int_str i t y u _ _ _ _ h
  ·rcases aY hv with ⟨j,u,rfl,rfl⟩ | ⟨y,u,rfl,rfl⟩
   ·rw [uB] at h;exact SeqAt.EqAt.str_int x t j u _ _ _ _ h
   ·rw [uz] at h;exact wpAny_eqBool_str h
 «strs»:=fun k x t v h=>by
  rcases aY h with ⟨i,u,rfl,e⟩ | ⟨y,u,rfl,e⟩
  ·exact nomatch e
  ·injection e with e1 _
   subst e1
   cases v <;> rfl
theorem iN (prog:Program)(w:World)(i:Int)(t:Tok):(bt prog w).is (.inl i) (.int i t)=true:=kQ i t
theorem iO (prog:Program)(w:World)(x:Str)(t:Tok):(bt prog w).is (.inr x) (.str x t)=true:=kR x t
inductive V where
 | non | bl (b:Bool) | int (i:Int) | str (x:Str) | byt (b:Array UInt8) | flt (b:UInt64) | ref (a:Addr) | ty (n:String)
 deriving DecidableEq
def bC:V→Value→Prop
 | .non,u=>u=Value.none
 | .bl b,u=>u=Value.bool b
 | .int i,u=>∃ t,u=Value.int i t
 | .str x,u=>∃ t,u=Value.str x t
 | .byt b,u=>∃ t,u=Value.bytes b t
 | .flt b,u=>∃ t,u=Value.float b t
 | .ref a,u=>u=Value.ref a
 | .ty n,u=>u=Value.type n
abbrev bh:List V→List Value→Prop:=Paired bC
theorem bh.length {xs:List V}{us:List Value}(r:bh xs us):xs.length=us.length:=Dp r
theorem bh.get:∀ {xs:List V} {us:List Value} {i:Nat} {x:V},bh xs us→xs[i]? = some x→∃ u,us[i]? = some u∧bC x u
 | _,_,_,_,.nil,e=>by simp at e
 | _,_,0,_,.cons r _,e=>by simp at e;subst e;exact ⟨_,rfl,r⟩
 | _,_,i+1,x,.cons _ t,e=>by
  obtain ⟨u,h1,h2⟩:=bh.get (i:=i) (x:=x) t (by simpa using e)
  exact ⟨u,by simpa using h1,h2⟩
theorem bh.set {x:V}{u:Value}(r:bC x u):∀ {xs:List V} {us:List Value} (i:Nat),bh xs us→bh (xs.set i x) (us.set i u)
 | _,_,_,.nil=>.nil
 | _,_,0,.cons _ t=>.cons r t
 | _,_,i+1,.cons q t=>.cons q (bh.set r i t)
theorem bh.append:∀ {xs ys:List V} {us ws:List Value},bh xs us→bh ys ws→bh (xs++ys) (us++ws)
 | _,_,_,_,.nil,s=>s
 | _,_,_,_,.cons r t,s=>.cons r (bh.append t s)
theorem bh.take:∀ {xs:List V} {us:List Value} (n:Nat),bh xs us→bh (xs.take n) (us.take n)
 | _,_,0,_=>.nil
 | _,_,_+1,.nil=>.nil
 | _,_,n+1,.cons r t=>.cons r (bh.take n t)
theorem bh.drop:∀ {xs:List V} {us:List Value} (n:Nat),bh xs us→bh (xs.drop n) (us.drop n)
 | _,_,0,r=>r
 | _,_,_+1,.nil=>.nil
 | _,_,n+1,.cons _ t=>bh.drop n t
def uo:Option V→Option Value→Prop
 | some v,some u=>bC v u
 | none,none=>True
 | _,_=>False
def KV {κ:Type}:List (κ × V)→List (κ × Value)→Prop:=Paired fun (p:κ × V) (q:κ × Value)=>p.1=q.1∧bC p.2 q.2
def kV:Key→V
 | .inl i=>.int i
 | .inr x=>.str x
inductive HO where
 | lst (xs:List V)
 | tup (xs:List V)
 | dK (EC:List (Key × V)) | dT (EC:List (List Key × V))
 | set (S:Int→Bool) (n:Nat)
 | ins (C dx:Addr) (fs:List (Str × V))
 | own (x:Addr)
 | xd (fs:List (Str × V))
 | met (f x:Addr)
 | rng (lo hi:Int)
 | frz (o:Obj) (u:HO)
 | tbl (ps:Array Value)
 | ext (φ:Heap→Prop)
abbrev Hp:=Addr→Option HO
def upd (H:Hp)(a:Addr)(o:HO):Hp:=fun b=>if b=a then some o else H b
theorem ag {H:Hp}{a:Addr}{o:HO}:upd H a o a=some o:=by unfold upd; rw [if_pos rfl]
theorem aM {H:Hp}{a b:Addr}{o:HO}(h:b≠a):upd H a o b=H b:=by unfold upd; rw [if_neg h]
theorem dP {H:Hp}{a:Addr}{o u:HO}:upd (upd H a o) a u=upd H a u:=by
 funext b;unfold upd;split <;> rfl
theorem uC {H:Hp}{a b:Addr}{o u:HO}(h:H a=some o)(h':H b=some u)(d:o≠u):a≠b:=by
 intro e;subst e;rw [h] at h';exact d (zP h')
theorem au {H:Hp}{a b:Addr}{o:HO}(h:H a=some o)(h':H b=none):a≠b:=by
 intro e;subst e;rw [h] at h';cases h'
section
variable (P:Program) (w:World)
def NoD (h:Heap)(a:Addr):Prop:=∃ o,h.get? a=some o∧o.dict=none
theorem NoD.new (h:Heap)(o:Obj)(e:o.dict=none)(hf:o.isFreed=false:=by rfl):NoD (h.push o) h.objs.size:=⟨o,z_ _ hf,e⟩
def bS (H:Hp)(h:Heap)(a:Addr):HO→Prop
 | .lst xs=>xs.length≤sizeLine∧∃ (EB:List Value) (n:Nat),bh xs EB∧h.get? a=some { cls:=.type "list",data:=.seq EB.toArray n }
 | .tup xs=>xs.length≤sizeLine∧∃ EB:List Value,bh xs EB∧IsTup h a EB.toArray∧NoD h a
 | .dK EC=>EC.length≤sizeLine∧(a == sysModules)=false∧∃ vs,KV EC vs∧h.DictOf (bt P w) a vs
 | .dT EC=>EC.length≤sizeLine∧(a == sysModules)=false∧∃ xs:List (List Key × Addr × Value),
   Paired (fun (p:List Key × V) (q:List Key × Addr × Value)=>p.1=q.1∧H q.2.1=some (.tup (p.1.map kV))∧bC p.2 q.2.2) EC xs ∧
   ∃ o es ep,h.get? a=some o∧o.ExactDict∧o.data = .dict es ep∧es.toList=xs.map (entryOfKey (tupleKind (bt P w)))∧(xs.map (·.1)).Nodup
 | .set S n=>h.SetOf (intKind P w) a S n
 | .ins C dx fs=>H dx=some (.own a)∧fs.length≤1000∧dx≠a∧h.get? a=some (PySem.W.instObj C dx) ∧
   ∃ mA,h.Ns1 dx mA∧(∀ f,uo (fs.lookup f) (mA f))∧PySem.Within mA (fs.map (·.1))
 | .own _=>∃ o,h.get? a=some o
 | .xd fs=>∃ mA,h.Ns1 a mA∧∀ f,uo (fs.lookup f) (mA f)
 | .rng lo hi=>∃ t u v,h.get? a=some { cls:=.type "range",data:=.fields #[.int lo t,.int hi u,.int 1 v] }
 | .frz o u=>h.get? a=some o∧bS H h a u
 | .tbl ps=>h.get? a=some { cls:=.none,data:=.fields ps }
 | .met f x=>h.get? a=some (PySem.W.methodObj (.ref f) (.ref x))
 | .ext φ=>φ h∧(∃ o,h.get? a=some o)∧∀ h1 h2:Heap,φ h1→(∀ o,h1.get? a=some o→h2.get? a=some o)→φ h2
def HOk (H:Hp)(h:Heap):Prop:=∀ a o,H a=some o→bS P w H h a o
end
section
variable {P:Program} {w:World} {H H':Hp} {h h':Heap} {a:Addr} {o:HO}
theorem bS.lt (x:bS P w H h a o):a < h.objs.size:=by
 cases o with
 | lst xs=>obtain ⟨_,_,_,_,e⟩:=x;exact z7 e
 | tup xs=>obtain ⟨_,_,_,p,_⟩:=x;exact p.lt
 | dK EC=>obtain ⟨_,_,_,_,o,_,_,e,_⟩:=x;exact z7 e
 | dT EC=>obtain ⟨_,_,_,_,o,_,_,e,_⟩:=x;exact z7 e
 | set S n=>obtain ⟨o,_,_,_,e,_⟩:=x;exact z7 e
 | ins C dx fs=>obtain ⟨_,_,_,e,_⟩:=x;exact z7 e
 | own y=>obtain ⟨_,e⟩:=x;exact z7 e
 | xd fs=>obtain ⟨_,⟨_,_,_,e,_⟩,_⟩:=x;exact z7 e
 | rng lo hi=>obtain ⟨_,_,_,e⟩:=x;exact z7 e
 | frz ob u=>obtain ⟨e,_⟩:=x;exact z7 e
 | tbl ps=>exact z7 (show h.get? a=some _ from x)
 | met f y=>exact z7 (show h.get? a=some _ from x)
 | ext φ=>obtain ⟨_,⟨_,e⟩,_⟩:=x;exact z7 e
theorem Paired.mapP {α β:Type}{F G:α→β→Prop}:∀ {l₁:List α} {l₂:List β},Paired F l₁ l₂→(∀ a b,F a b→G a b)→Paired G l₁ l₂
 | _,_,.nil,_=>.nil
 | _,_,.cons r t,f=>.cons (f _ _ r) (Paired.mapP t f)
theorem bS.stay (x:bS P w H h a o)(k:∀ b u,(b=a ∨ H b=some (.own a))→h.get? b=some u→h'.get? b=some u)
  (ho:∀ b,H b=some (.own a)→H' b=some (.own a)) (ht:∀ b xs,H b=some (.tup xs)→H' b=some (.tup xs)):bS P w H' h' a o:=by
 induction o with
 | lst xs=>obtain ⟨z,EB,n,r,e⟩:=x;exact ⟨z,EB,n,r,k _ _ (.inl rfl) e⟩
 | tup xs=>obtain ⟨z,EB,r,⟨ob,e,c⟩,o2,e2,c2⟩:=x;exact ⟨z,EB,r,⟨ob,k _ _ (.inl rfl) e,c⟩,o2,k _ _ (.inl rfl) e2,c2⟩
 | dK EC=>obtain ⟨z,y,vs,r,ob,es,ep,e,c⟩:=x;exact ⟨z,y,vs,r,ob,es,ep,k _ _ (.inl rfl) e,c⟩
 | dT EC =>
  obtain ⟨z,y,xs,r,ob,es,ep,e,c⟩:=x
  exact ⟨z,y,xs,Paired.mapP r fun p q z=>⟨z.1,ht _ _ z.2.1,z.2.2⟩,ob,es,ep,k _ _ (.inl rfl) e,c⟩
 | set S n=>obtain ⟨ob,es,ep,t,e,c⟩:=x;exact ⟨ob,es,ep,t,k _ _ (.inl rfl) e,c⟩
 | ins C dx fs =>
  obtain ⟨d,z,ne,e,mA,⟨od,es,ep,e2,c⟩,r⟩:=x
  exact ⟨ho _ d,z,ne,k _ _ (.inl rfl) e,mA,⟨od,es,ep,k _ _ (.inr d) e2,c⟩,r⟩
 | own y=>obtain ⟨ob,e⟩:=x;exact ⟨ob,k _ _ (.inl rfl) e⟩
 | xd fs=>obtain ⟨mA,⟨od,es,ep,e,c⟩,r⟩:=x;exact ⟨mA,⟨od,es,ep,k _ _ (.inl rfl) e,c⟩,r⟩
 | rng lo hi=>obtain ⟨t,u,v,e⟩:=x;exact ⟨t,u,v,k _ _ (.inl rfl) e⟩
 | frz ob u ih=>obtain ⟨e,q⟩:=x;exact ⟨k _ _ (.inl rfl) e,ih q⟩
 | tbl ps =>
  have e:h.get? a=some { cls:=.none,data:=.fields ps }:=x
  show h'.get? a=some { cls:=.none,data:=.fields ps }
  exact k a _ (.inl rfl) e
 | met f y =>
  have e:h.get? a=some (PySem.W.methodObj (.ref f) (.ref y)):=x
  show h'.get? a=some (PySem.W.methodObj (.ref f) (.ref y))
  exact k a _ (.inl rfl) e
 | ext φ=>obtain ⟨p,⟨o,e⟩,st⟩:=x;exact ⟨st _ _ p fun o q=>k _ _ (.inl rfl) q,⟨o,k _ _ (.inl rfl) e⟩,st⟩
theorem HOk.lt (x:HOk P w H h)(e:H a=some o):a < h.objs.size:=(x a o e).lt
theorem HOk.fresh (x:HOk P w H h)(e:h.objs.size≤a):H a=none:=by
 cases q:H a with
 | none=>rfl
 | some u=>exact absurd (Am (x.lt q) e) (AZ _)
theorem HOk.kept (x:HOk P w H h)(k:∀ b u,h.get? b=some u→h'.get? b=some u):HOk P w H h':=fun a o e =>
 (x a o e).stay (fun b u _ q=>k b u q) (fun _ q=>q) fun _ _ q=>q
theorem HOk.laid (x:HOk P w H h)(k:∀ b u,h.get? b=some u→h'.get? b=some u)(hp:h.objs.size≤a)(new:bS P w (upd H a o) h' a o):HOk P w (upd H a o) h':=fun b u e=>by
 have hn:=x.fresh hp
 by_cases hb:b=a
 ·subst hb;rw [ag] at e;cases e;exact new
 ·rw [aM hb] at e
  exact (x b u e).stay (fun c v _ q=>k c v q) (fun c q=>by rw [aM (au q hn)];exact q) fun c xs q=>by rw [aM (au q hn)];exact q
end
def Rd (H:Hp)(a:Addr)(u:HO):Prop:=H a=some u ∨ ∃ o,H a=some (.frz o u)
theorem Rd.ok {P:Program}{w:World}{H:Hp}{h:Heap}{a:Addr}{u:HO}(r:Rd H a u)(x:HOk P w H h):bS P w H h a u:=by
 rcases r with r | ⟨o,r⟩
 ·exact x a u r
 ·obtain ⟨_,q⟩:=x a _ r
  exact q
def Mut:Option HO→Prop
 | some (.lst _)=>True
 | some (.dK _)=>True
 | some (.dT _)=>True
 | some (.set _ _)=>True
 | some (.ins _ _ _)=>True
 | some (.ext _)=>True
 | _=>False
section
variable {P:Program} {w:World} {H:Hp} {h h':Heap} {x e:Addr} {o':HO}
theorem HOk.write (ok:HOk P w H h)(mu:Mut (H x))(he:e=x ∨ H e=some (.own x))(k:∀ b u,b≠e→h.get? b=some u→h'.get? b=some u)(heo:∃ u,h'.get? e=some u)
  (new:bS P w (upd H x o') h' x o'):HOk P w (upd H x o') h':=fun b u q=>by
 have nown:∀ c y,H c=some (.own y)→c≠x:=fun c y r z=>by subst z;rw [r] at mu;exact mu
 have ntup:∀ c xs,H c=some (.tup xs)→c≠x:=fun c xs r z=>by subst z;rw [r] at mu;exact mu
 by_cases hb:b=x
 ·subst hb;rw [ag] at q;cases q;exact new
 ·rw [aM hb] at q
  by_cases hbe:b=e
  ·have q':H b=some (.own x):=by
    rcases he with z | z
    ·exact absurd (hbe.trans z) hb
    ·rw [hbe];exact z
   rw [q] at q';cases q'
   obtain ⟨v,hv⟩:=heo
   exact ⟨v,by rw [hbe];exact hv⟩
  ·refine (ok b u q).stay (fun c v hc r=>k c v ?_ r) (fun c r=>by rw [aM (nown c b r)];exact r) fun c xs r=>by rw [aM (ntup c xs r)];exact r
   rcases hc with rfl | hc
   ·exact hbe
   ·rintro rfl
    rcases he with z | z
    ·exact nown c b hc z
    ·rw [hc] at z;cases z;exact hb rfl
end
structure Un (fs ex:List Addr) (H H':Hp) (h h':Heap):Prop where
 keep:∀ b o,h.get? b=some o→H b=none→b∉fs→b∉ex→h'.get? b=some o
 slot:∀ b o,h.get? b=some o→H b=none→b∈fs→b∉ex→∃ sl,h'.get? b=some { o with slots:=sl }
 free:∀ b o,h.get? b=some o→H b=none→b∉ex→H' b=none
 there:∀ b o,h.get? b=some o→b∉ex→∃ o',h'.get? b=some o'
 tups:∀ b xs,H b=some (.tup xs)→H' b=some (.tup xs)
 frzs:∀ b o u,H b=some (.frz o u)→H' b=some (.frz o u)
 tbls:∀ b ps,H b=some (.tbl ps)→∃ more,H' b=some (.tbl (ps++more))
section
variable {fs fs' ex ex':List Addr} {H H1 H2:Hp} {h h1 h2 h':Heap} {a x e:Addr} {o:HO}
theorem Un.any (u:Un fs ex H H1 h h1){b:Addr}{ob:Obj}(q:h.get? b=some ob)(n:H b=none)(hx:b∉ex):∃ sl,h1.get? b=some { ob with slots:=sl }:=by
 by_cases hb:b∈fs
 ·exact u.slot b ob q n hb hx
 ·exact ⟨ob.slots,u.keep b ob q n hb hx⟩
theorem Un.kept (k:∀ b u,h.get? b=some u→h'.get? b=some u):Un fs ex H H h h' :=
 ⟨fun b ob q _ _ _=>k b ob q,fun b ob q _ _ _=>⟨ob.slots,k b ob q⟩,fun _ _ _ n _=>n,fun b ob q _=>⟨ob,k b ob q⟩,fun _ _ q=>q,fun _ _ _ q=>q,fun _ ps q=>⟨#[],by rw [q];simp⟩⟩
theorem Un.refl:Un fs ex H H h h:=Un.kept fun _ _ q=>q
theorem Un.laid (k:∀ b u,h.get? b=some u→h'.get? b=some u)(hp:h.objs.size≤a)(hn:H a=none):Un fs ex H (upd H a o) h h' where
 keep:=fun b u q _ _ _=>k b u q
 slot:=fun b u q _ _ _=>⟨u.slots,k b u q⟩
 free:=fun b u q n _=>by rw [aM (AJ (Am (z7 q) hp))];exact n
 there:=fun b u q _=>⟨u,k b u q⟩
 tups:=fun b xs q=>by rw [aM (au q hn)];exact q
 frzs:=fun b u xs q=>by rw [aM (au q hn)];exact q
 tbls:=fun b ps q=>⟨#[],by rw [aM (au q hn),q];simp⟩
theorem Un.write (mu:Mut (H x))(he:e=x ∨ H e=some (.own x))(k:∀ b u,b≠e→h.get? b=some u→h'.get? b=some u)(heo:∃ u,h'.get? e=some u):Un fs ex H (upd H x o) h h':=by
 have hx:∀ b,H b=none→b≠x:=fun b n z=>by subst z;rw [n] at mu;exact mu
 have hb:∀ b,H b=none→b≠e:=fun b n z=>by
  subst z
  rcases he with r | r
  ·exact hx b n r
  ·rw [n] at r;cases r
 have hm:∀ b u,H b=some u→¬ Mut (some u)→b≠x:=fun b u q nm z=>by subst z;rw [q] at mu;exact nm mu
 refine ⟨fun b u q n _ _=>k b u (hb b n) q,fun b u q n _ _=>⟨u.slots,k b u (hb b n) q⟩,fun b u q n _=>by rw [aM (hx b n)];exact n,fun b u q _=>?_,
  fun b xs q=>by rw [aM (hm b _ q fun z=>z)];exact q,fun b u xs q=>by rw [aM (hm b _ q fun z=>z)];exact q,fun b ps q=>⟨#[],by rw [aM (hm b _ q fun z=>z),q];simp⟩⟩
 by_cases hbe:b=e
 ·subst hbe;exact heo
 ·exact ⟨u,k b u hbe q⟩
end
def trk (h:Heap)(H:Hp):List Addr:=(List.range h.objs.size).filter fun a=>(H a).isSome
def oI (h:Heap)(H:Hp):Heap:=PySem.W.hideAll h (trk h H)
theorem kT (h:Heap)(H:Hp):(oI h H).objs.size=h.objs.size:=PySem.W.hideAll_size _ _
theorem oJ {h:Heap}{H:Hp}{b:Addr}{o:Obj}(e:h.get? b=some o)(n:H b=none):(oI h H).get? b=some o :=
 PySem.W.hideAll_get _ e fun hm=>by
  have q:(H b).isSome=true:=(Bg.mp hm).2
  rw [n] at q;simp at q
theorem rb {h:Heap}{H:Hp}{b:Addr}{o:Obj}(e:(oI h H).get? b=some o):h.get? b=some o∧H b=none:=by
 have e':h.get? b=some o:=PySem.W.of_hideAll (trk h H) e
 refine ⟨e',?_⟩
 cases q:H b with
 | none=>rfl
 | some x =>
  have hm:b∈trk h H:=Bg.mpr ⟨Dj.mpr (z7 e'),by simp [q]⟩
  have z:(oI h H).get? b=none:=PySem.W.hideAll_none (trk h H) hm
  rw [z] at e;cases e
structure Mod (K:PySem.W.Frag) (mg:Str→Option Value) (base:Heap):Prop where
 kin:K.In base
 glob:base.Ns mainGlobals mg
 blt:∃ mb,base.Ns builtinsNs mb∧∀ x:Str,x ≠ "__name__"→mb x=bootBuiltins x
 nolimit:base.NoLimit
/-- the context: a def's body (or a comprehension's block) running. base: fixed through the whole law;s₀,H₀: the entry;outer: the frames whose slots others may change (a def's callers);stack: all frames that run;
  ex: iterators that were made ahead of the entry and are walked here (a comprehension's);fn: the names whose cells were made at the entry (a def: all;a comprehension's block: EB own);calm: not within an except suite;pn: EA that every state bears;xe: what is wanted of an exception that leaves the code -/
structure Cx where
 prog:Program
 w:World
 K:PySem.W.Frag
 mg:Str→Option Value
 base:Heap
 A:Around
 N:List Str
 s₀:Shared
 H₀:Hp
 env:Env
 outer:List Env
 stack:List Env
 ex:List Addr
 fn:Str→Bool
 calm:Bool
 pn:List (Addr × Obj)
 xe:Value→Shared→Prop
def frs (l:List Env):List Addr:=l.filterMap (·.frame)
abbrev Cx.fs (X:Cx):List Addr:=frs X.outer
def Vis (sc:Scope)(x:Str):Prop:=sc.names.lookup x=some .local ∨ sc.names.lookup x=some .cell ∨ sc.names.lookup x=some .free
def Loc (sc:Scope)(x:Str):Prop:=sc.names.lookup x=some .local ∨ sc.names.lookup x=some .cell
def yT (env:Env)(h:Heap)(m:Str→Option Value)(x:Str)(u:Value):Prop :=
 (env.kindOf x=some .local∧m x=some u) ∨ ((env.kindOf x=some .cell ∨ env.kindOf x=some .free)∧∃ c,env.cells.lookup x=some c∧h.IsCell c (some u))
structure Cx.Ok (X:Cx):Prop where
 mod:Mod X.K X.mg X.base
 kind:X.env.scope.kind = .function
 glob:X.env.globals=mainGlobals
 blt:X.env.builtins=builtinsNs
 above:X.s₀.heap.objs.size≤X.env.locals
 inj:∀ x y c,X.env.cells.lookup x=some c→X.env.cells.lookup y=some c→x=y
 has:∀ x,(X.env.kindOf x=some .cell ∨ X.env.kindOf x=some .free)→∃ c,X.env.cells.lookup x=some c
 cab:∀ x c,X.fn x=true→X.env.cells.lookup x=some c→X.s₀.heap.objs.size≤c
 hd:X.calm=true→X.A.handled=none
 frames:X.A.frames=some X.stack
 stk:X.stack=X.outer ∨ (X.stack=X.env::X.outer∧X.env.frame=some X.env.locals)
 exf:∀ b∈X.ex,b≠X.env.locals∧∀ x c,X.env.cells.lookup x=some c→c≠b
 bs:∀ b o,X.base.get? b=some o→X.s₀.heap.get? b=some o∧X.H₀ b=none
 bsz:X.base.objs.size≤X.s₀.heap.objs.size
 noex:∀ b o,X.base.get? b=some o→b∉X.ex
 exfs:∀ b∈X.ex,b∉X.fs
 funs:X.s₀.heap.FunFrames X.base X.outer
 frf:∀ b∈X.fs,X.H₀ b=none
structure Inv (X:Cx) (EA:List (Addr × Obj)) (σ:List (Option V)) (H:Hp) (s:Shared):Prop where
 ok:X.Ok
 os:s.os=X.s₀.os
 bare:AllBare s.gens
 base:Un X.fs X.ex X.H₀ H X.s₀.heap s.heap
 loc:∃ m,s.heap.Ns X.env.locals m∧∀ (i:Nat) (x:Str) (v:V),X.N[i]? = some x→σ[i]? = some (some v)→Vis X.env.scope x→∃ u,bC v u∧yT X.env s.heap m x u
 cell:∀ x c,X.env.cells.lookup x=some c→∃ v,s.heap.IsCell c v
 free:H X.env.locals=none
 freeC:∀ x c,X.env.cells.lookup x=some c→H c=none
 pin:∀ p∈X.pn++EA,s.heap.get? p.1=some p.2∧H p.1=none∧p.1≠X.env.locals∧p.1∉X.fs∧∀ v,p.2.data ≠ .cell v
 hok:HOk X.prog X.w H s.heap
 len:σ.length=X.N.length
section
variable {X:Cx} {EA:List (Addr × Obj)} {σ:List (Option V)} {H H':Hp} {s:Shared} {h':Heap}
theorem Cx.Ok.nofr (ok:X.Ok){b:Addr}{o:Obj}(e:X.base.get? b=some o):b∉X.fs:=fun hb=>by
 have:=(ok.funs.mem hb).1
 rw [e] at this;cases this
theorem Inv.bs (I:Inv X EA σ H s):∀ b o,X.base.get? b=some o→s.heap.get? b=some o∧H b=none:=fun b o e =>
 ⟨I.base.keep b o (I.ok.bs b o e).1 (I.ok.bs b o e).2 (I.ok.nofr e) (I.ok.noex b o e),I.base.free b o (I.ok.bs b o e).1 (I.ok.bs b o e).2 (I.ok.noex b o e)⟩
theorem Inv.bk (I:Inv X EA σ H s):∀ b o,X.base.get? b=some o→s.heap.get? b=some o:=fun b o e=>(I.bs b o e).1
theorem Inv.mod (I:Inv X EA σ H s):Mod X.K X.mg X.base:=I.ok.mod
theorem Inv.kIn (I:Inv X EA σ H s):X.K.In s.heap:=I.ok.mod.kin.keeps I.bk
theorem Inv.fr (I:Inv X EA σ H s):∃ m,Fr X.base X.env.locals s.heap m :=
 let ⟨m,hn,_⟩:=I.loc
 ⟨m,hn,I.bk,AO I.ok.bsz I.ok.above⟩
theorem Inv.lt (I:Inv X EA σ H s):X.env.locals < s.heap.objs.size:=let ⟨_,hn,_⟩:=I.loc; hn.lt
theorem Inv.sz (I:Inv X EA σ H s):X.s₀.heap.objs.size≤s.heap.objs.size:=AO I.ok.above (DN I.lt)
theorem Inv.nofs (I:Inv X EA σ H s){a:Addr}(h:s.heap.objs.size≤a):a∉X.fs:=fun hb=>by
 obtain ⟨_,o,ho,_⟩:=I.ok.funs.mem hb
 exact absurd (Am (z7 ho) (AO I.sz h)) (AZ _)
theorem Inv.cne (I:Inv X EA σ H s):∀ x c,X.env.cells.lookup x=some c→c≠X.env.locals:=fun x c e z=>by
 obtain ⟨v,o,ho,hd⟩:=I.cell x c e
 obtain ⟨m,⟨o',es,ep,ho',hd',_⟩,_⟩:=I.loc
 rw [z,ho'] at ho;cases ho;rw [hd'] at hd;cases hd
theorem Inv.funs (I:Inv X EA σ H s):s.heap.FunFrames X.base X.outer:=by
 have all:∀ (l:List Env),(∀ b∈frs l,b∈X.fs)→X.s₀.heap.FunFrames X.base l→s.heap.FunFrames X.base l:=by
  intro l
  induction l with
  | nil=>intro _ _;trivial
  | cons env r ih =>
   intro hs hl
   obtain ⟨hk,⟨L,o,hf,hn,ho,hd⟩,hr⟩:=hl
   have hL:L∈X.fs:=hs L (by unfold frs;rw [CY,hf];exact zX)
   obtain ⟨sl,e⟩:=I.base.slot L o ho (I.ok.frf L hL) hL fun z=>I.ok.exfs L z hL
   exact ⟨hk,⟨L,_,hf,hn,e,hd⟩,ih (fun b hb=>hs b (by unfold frs;rw [CY,hf];exact zO _ hb)) hr⟩
 exact all X.outer (fun _ hb=>hb) I.ok.funs
theorem Inv.stack (I:Inv X EA σ H s):s.heap.FunFrames X.base X.stack:=by
 rcases I.ok.stk with e | ⟨e,hf⟩
 ·rw [e];exact I.funs
 ·rw [e]
  obtain ⟨m,hn,_⟩:=I.loc
  refine .cons (by rw [I.ok.kind];decide) hf hn ?_ I.funs
  exact Heap.get?_none_of_le (AO I.ok.bsz I.ok.above)
theorem Inv.stkSub (I:Inv X EA σ H s):∀ b∈frs X.stack,b∈X.env.locals::X.fs:=fun b hb=>by
 rcases I.ok.stk with e | ⟨e,hf⟩
 ·rw [e] at hb;exact zO _ hb
 ·rw [e] at hb
  unfold frs at hb
  rw [CY,hf] at hb
  exact hb
theorem Inv.stkFree (I:Inv X EA σ H s):∀ b∈frs X.stack,H b=none:=fun b hb=>by
 rcases Ae.mp (I.stkSub b hb) with e | hb
 ·rw [e];exact I.free
 ·obtain ⟨_,o,ho,_⟩:=I.ok.funs.mem hb
  exact I.base.free b o ho (I.ok.frf b hb) fun z=>I.ok.exfs b z hb
theorem Inv.step {g':Array GenState}{t':Nat}{d':Drawn}{ch:List Addr}(I:Inv X EA σ H s)
  (hch:∀ b∈ch,(b∈X.ex ∨ X.s₀.heap.objs.size≤b)∧b≠X.env.locals∧(∀ x c,X.env.cells.lookup x=some c→c≠b)∧∀ p∈X.pn++EA,p.1≠b)
  (keep:∀ b o,b≠X.env.locals→b∉X.fs→b∉ch→s.heap.get? b=some o→H b=none→h'.get? b=some o)
  (slot:∀ b o,b≠X.env.locals→b∈X.fs→b∉ch→s.heap.get? b=some o→H b=none→∃ sl,h'.get? b=some { o with slots:=sl }) (free:∀ b o,b∉ch→s.heap.get? b=some o→H b=none→H' b=none)
  (there:∀ b o,b∉ch→s.heap.get? b=some o→∃ o',h'.get? b=some o')
  (tups:∀ b xs,H b=some (.tup xs)→H' b=some (.tup xs)) (frzs:∀ b o u,H b=some (.frz o u)→H' b=some (.frz o u)) (tbls:∀ b ps,H b=some (.tbl ps)→∃ more,H' b=some (.tbl (ps++more)))
  (ns:∀ m,s.heap.Ns X.env.locals m→h'.Ns X.env.locals m) (hok:HOk X.prog X.w H' h') (hg:AllBare g') :
  Inv X EA σ H' { s with heap:=h',gens:=g',drawn:=d',toks:=t' }:=by
 have neL:∀ b o,X.s₀.heap.get? b=some o→b≠X.env.locals:=fun b o e=>AJ (Am (z7 e) I.ok.above)
 have neC:∀ b o,X.s₀.heap.get? b=some o→b∉X.ex→b∉ch:=fun b o e hx hb=>by
  rcases (hch b hb).1 with z | z
  ·exact hx z
  ·exact absurd (Am (z7 e) z) (AZ _)
 have cellK:∀ x c,X.env.cells.lookup x=some c→∀ v,s.heap.IsCell c v→h'.IsCell c v:=fun x c e v ⟨o,ho,hd⟩=>by
  have nch:c∉ch:=fun z=>(hch c z).2.2.1 x c e rfl
  by_cases hc:c∈X.fs
  ·obtain ⟨sl,q⟩:=slot c o (I.cne x c e) hc nch ho (I.freeC x c e)
   exact ⟨_,q,hd⟩
  ·exact ⟨o,keep c o (I.cne x c e) hc nch ho (I.freeC x c e),hd⟩
 refine ⟨I.ok,I.os,hg,⟨fun b o e n hb hx=>?_,fun b o e n hb hx=>?_,fun b o e n hx=>?_,fun b o e hx=>?_,fun b xs e=>tups b xs (I.base.tups b xs e),fun b o xs e=>frzs b o xs (I.base.frzs b o xs e),fun b ps e=>?_⟩,?_,fun x c e=>?_,?_,fun x c e=>?_,fun p hp=>?_,hok,I.len⟩
 ·exact keep b o (neL b o e) hb (neC b o e hx) (I.base.keep b o e n hb hx) (I.base.free b o e n hx)
 ·obtain ⟨sl,e1⟩:=I.base.slot b o e n hb hx
  obtain ⟨sl',e2⟩:=slot b _ (neL b o e) hb (neC b o e hx) e1 (I.base.free b o e n hx)
  exact ⟨sl',e2⟩
 ·obtain ⟨o',e1⟩:=I.base.there b o e hx
  exact free b o' (neC b o e hx) e1 (I.base.free b o e n hx)
 ·obtain ⟨o',e1⟩:=I.base.there b o e hx
  exact there b o' (neC b o e hx) e1
 ·obtain ⟨m1,e1⟩:=I.base.tbls b ps e
  obtain ⟨m2,e2⟩:=tbls b _ e1
  exact ⟨m1++m2,by rw [e2,Array.append_assoc]⟩
 ·obtain ⟨m,hn,hl⟩:=I.loc
  refine ⟨m,ns m hn,fun i x v e1 e2 e3=>?_⟩
  obtain ⟨u,r,l⟩:=hl i x v e1 e2 e3
  refine ⟨u,r,?_⟩
  rcases l with l | ⟨k,c,e,z⟩
  ·exact .inl l
  ·exact .inr ⟨k,c,e,cellK x c e _ z⟩
 ·obtain ⟨v,z⟩:=I.cell x c e
  exact ⟨v,cellK x c e v z⟩
 ·obtain ⟨m,⟨o,_,_,ho,_⟩,_⟩:=I.loc
  exact free _ o (fun z=>(hch _ z).2.1 rfl) ho I.free
 ·obtain ⟨v,o,ho,hd⟩:=I.cell x c e
  exact free c o (fun z=>(hch c z).2.2.1 x c e rfl) ho (I.freeC x c e)
 ·obtain ⟨e,n,ne,nf,d⟩:=I.pin p hp
  have nch:p.1∉ch:=fun z=>(hch p.1 z).2.2.2 p hp rfl
  exact ⟨keep p.1 p.2 ne nf nch e n,free p.1 p.2 nch e n,ne,nf,d⟩
theorem Inv.un {t':Nat}(I:Inv X EA σ H s)(u:Un X.fs [] H H' s.heap h')(hok:HOk X.prog X.w H' h'):Inv X EA σ H' { s with heap:=h',toks:=t' }:=by
 obtain ⟨m,⟨o,es,ep,ho,r⟩,_⟩:=id I.loc
 obtain ⟨sl,hL⟩:=u.any ho I.free (by simp)
 exact I.step (g':=s.gens) (d':=s.drawn) (ch:=[]) (fun _ z=>nomatch z) (fun b o _ hb _ e n=>u.keep b o e n hb (by simp)) (fun b o _ hb _ e n=>u.slot b o e n hb (by simp)) (fun b o _ e n=>u.free b o e n (by simp)) (fun b o _ e=>u.there b o e (by simp)) u.tups u.frzs u.tbls (fun m' hm=>by
  obtain ⟨o',es',ep',ho',r'⟩:=hm
  rw [ho] at ho';cases ho'
  exact ⟨_,es',ep',hL,r'⟩) hok I.bare
theorem Inv.call {g':Array GenState}{t':Nat}{d':Drawn}{ch:List Addr}(I:Inv X EA σ H s)(u:Un (frs X.stack) ch H H' s.heap h')(hok:HOk X.prog X.w H' h')(hg:AllBare g')
  (hch:∀ b∈ch,(b∈X.ex ∨ X.s₀.heap.objs.size≤b)∧b≠X.env.locals∧(∀ x c,X.env.cells.lookup x=some c→c≠b)∧∀ p∈X.pn++EA,p.1≠b) :
  Inv X EA σ H' { s with heap:=h',gens:=g',drawn:=d',toks:=t' }:=by
 obtain ⟨m,⟨o,es,ep,ho,r⟩,_⟩:=id I.loc
 obtain ⟨sl,hL⟩:=u.any ho I.free fun z=>(hch _ z).2.1 rfl
 exact I.step (ch:=ch) hch (fun b o hL hb hc e n=>u.keep b o e n (fun z=>(Ae.mp (I.stkSub b z)).elim hL hb) hc) (fun b o _ _ hc e n=>u.any e n hc) (fun b o hc e n=>u.free b o e n hc) (fun b o hc e=>u.there b o e hc) u.tups u.frzs u.tbls (fun m' hm=>by
  obtain ⟨o',es',ep',ho',r'⟩:=hm
  rw [ho] at ho';cases ho'
  exact ⟨_,es',ep',hL,r'⟩) hok hg
theorem Inv.turned {t':Nat}{it:Addr}(I:Inv X EA σ H s)(k:∀ b o,b≠it→s.heap.get? b=some o→h'.get? b=some o)(hn:H it=none)(hL:it≠X.env.locals)
  (h1:it∈X.ex ∨ X.s₀.heap.objs.size≤it) (h2:∀ x c,X.env.cells.lookup x=some c→c≠it) (h3:∀ p∈X.pn++EA,p.1≠it):Inv X EA σ H { s with heap:=h',toks:=t' }:=by
 have nit:∀ b u,H b=some u→b≠it:=fun b u e z=>by rw [z,hn] at e;cases e
 refine I.step (g':=s.gens) (d':=s.drawn) (ch:=[it]) (fun b hb=>?_) (fun b o _ _ hc e _=>k b o (fun z=>hc (by simp [z])) e) (fun b o _ _ hc e _=>⟨o.slots,k b o (fun z=>hc (by simp [z])) e⟩) (fun _ _ _ _ n=>n)
  (fun b o hc e=>⟨o,k b o (fun z=>hc (by simp [z])) e⟩) (fun _ _ e=>e) (fun _ _ _ e=>e) (fun b ps e=>⟨#[],by rw [e];simp⟩) (fun m hm=>?_) (fun b u e=>?_) I.bare
 ·have e:b=it:=by simpa using hb
  subst e
  exact ⟨h1,hL,h2,h3⟩
 ·obtain ⟨o,es,ep,ho,r⟩:=hm
  exact ⟨o,es,ep,k _ o (Ne.symm hL) ho,r⟩
 ·refine (I.hok b u e).stay (fun c v hc q=>k c v ?_ q) (fun _ q=>q) fun _ _ q=>q
  rcases hc with z | z
  ·rw [z];exact nit b u e
  ·exact nit c _ z
theorem Inv.tok (I:Inv X EA σ H s)(t:Nat):Inv X EA σ H { s with toks:=t }:=I.un (h':=s.heap) (t':=t) Un.refl I.hok
theorem Inv.kept {t':Nat}(I:Inv X EA σ H s)(k:∀ b u,s.heap.get? b=some u→h'.get? b=some u):Inv X EA σ H { s with heap:=h',toks:=t' }:=I.un (Un.kept k) (I.hok.kept k)
theorem Inv.laid {a:Addr}{o:HO}{t':Nat}(I:Inv X EA σ H s)(k:∀ b u,s.heap.get? b=some u→h'.get? b=some u)(hp:s.heap.objs.size≤a)(new:bS X.prog X.w (upd H a o) h' a o) :
  Inv X EA σ (upd H a o) { s with heap:=h',toks:=t' }:=I.un (Un.laid k hp (I.hok.fresh hp)) (I.hok.laid k hp new)
theorem Inv.write {x e:Addr}{o:HO}{t':Nat}(I:Inv X EA σ H s)(mu:Mut (H x))(he:e=x ∨ H e=some (.own x))(k:∀ b u,b≠e→s.heap.get? b=some u→h'.get? b=some u)(heo:∃ u,h'.get? e=some u)
  (new:bS X.prog X.w (upd H x o) h' x o):Inv X EA σ (upd H x o) { s with heap:=h',toks:=t' }:=I.un (Un.write mu he k heo) (I.hok.write mu he k heo new)
theorem Inv.pins_of {pins':List (Addr × Obj)}(I:Inv X EA σ H s)(h:∀ p∈pins',s.heap.get? p.1=some p.2∧H p.1=none∧p.1≠X.env.locals∧p.1∉X.fs∧∀ v,p.2.data ≠ .cell v):Inv X pins' σ H s :=
 ⟨I.ok,I.os,I.bare,I.base,I.loc,I.cell,I.free,I.freeC,fun p hp=>(z3.mp hp).elim (fun z=>I.pin p (Aj _ z)) (h p),I.hok,I.len⟩
theorem jr {N:List Str}(hN:N.Nodup){i j:Nat}{x:Str}(a:N[i]? = some x)(b:N[j]? = some x):i=j:=by
 obtain ⟨h1,e1⟩:=zN.mp a
 obtain ⟨h2,e2⟩:=zN.mp b
 exact (List.getElem_inj hN).mp (e1.trans e2.symm)
theorem kU {M:Model}{A:Around}{E:Value→Shared→Prop}{i:Nat}{x:Str}{v:V}{u:Value}{Q:Unit→Shared→Prop}(I:Inv X EA σ H s)(hN:X.N.Nodup)(hi:X.N[i]? = some x)(hx:Loc X.env.scope x)(r:bC v u)
  (h:∀ s',Inv X EA (σ.set i (some v)) H s'→(∃ a,Heap.SameBut a s.heap s'.heap∧(a=X.env.locals ∨ X.env.cells.lookup x=some a))→Q () s') (hf:X.fn x=true ∨ X.env.scope.names.lookup x=some .local:=by first | exact .inl rfl | exact .inr rfl | assumption):wpAny M A (storeName X.env x u) Q E s:=by
 obtain ⟨m,hn,hl⟩:=id I.loc
 have hcls:(X.env.scope.kind == .class || (X.env.scope.kind == .module && X.env.locals != X.env.globals))=false:=by rw [I.ok.kind];rfl
 have hiσ:i < σ.length:=by rw [I.len];exact (zN.mp hi).1
 have cne:=I.cne
 have tracked:∀ {a:Addr} {h':Heap},(∃ o,s.heap.get? a=some o∧H a=none)→Heap.SameBut a s.heap h'→HOk X.prog X.w H h':=fun {a h'} ha hs b ob e=>by
  obtain ⟨_,_,hfree⟩:=ha
  refine (I.hok b ob e).stay (fun c w' hc q=>(hs.2 c ?_).trans q) (fun _ q=>q) fun _ _ q=>q
  rintro rfl
  rcases hc with rfl | hc
  ·rw [hfree] at e;cases e
  ·rw [hfree] at hc;cases hc
 rcases hx with hk | hk
 ·refine wpAny_storeName_local hk hn (fun h' hn' hs=>?_) hcls
  obtain ⟨oL,_,_,hoL,_⟩:=id hn
  refine h _ ⟨I.ok,I.os,I.bare,⟨fun b o e n hb hx=>?_,fun b o e n hb hx=>?_,I.base.free,fun b o e hx=>?_,I.base.tups,I.base.frzs,I.base.tbls⟩,⟨_,hn',fun j y v' e1 e2 e3=>?_⟩,fun y c e=>?_,I.free,I.freeC,fun p hp=>?_,tracked ⟨oL,hoL,I.free⟩ hs,by simpa using I.len⟩ ⟨_,hs,.inl rfl⟩
  ·exact (hs.2 b (AJ (Am (z7 e) I.ok.above))).trans (I.base.keep b o e n hb hx)
  ·obtain ⟨sl,e1⟩:=I.base.slot b o e n hb hx
   exact ⟨sl,(hs.2 b (AJ (Am (z7 e) I.ok.above))).trans e1⟩
  ·obtain ⟨o',e1⟩:=I.base.there b o e hx
   exact ⟨o',(hs.2 b (AJ (Am (z7 e) I.ok.above))).trans e1⟩
  ·by_cases hj:j=i
   ·subst hj
    rw [hi] at e1;cases e1
    rw [DH hiσ] at e2
    cases e2
    exact ⟨u,r,.inl ⟨hk,by simp⟩⟩
   ·rw [List.getElem?_set_ne (Ne.symm hj)] at e2
    obtain ⟨u',r',q⟩:=hl j y v' e1 e2 e3
    refine ⟨u',r',?_⟩
    rcases q with ⟨k,e⟩ | ⟨k,c,e,z⟩
    ·refine .inl ⟨k,?_⟩
     have:y≠x:=fun e=>hj (jr hN e1 (e ▸ hi))
     simp [this,e]
    ·exact .inr ⟨k,c,e,z.sameBut hs (cne y c e)⟩
  ·obtain ⟨w',z⟩:=I.cell y c e
   exact ⟨w',z.sameBut hs (cne y c e)⟩
  ·obtain ⟨e,n,ne,nf,d⟩:=I.pin p hp
   exact ⟨(hs.2 p.1 ne).trans e,n,ne,nf,d⟩
 ·have hfn:X.fn x=true:=by
   rcases hf with z | z
   ·exact z
   ·rw [z] at hk;cases hk
  obtain ⟨c,hc⟩:=I.ok.has x (.inl hk)
  obtain ⟨w',z⟩:=I.cell x c hc
  refine wpAny_storeName_cell I.ok.kind hk hc z (fun h' hc' hs=>?_)
  obtain ⟨oc,hoc,hocd⟩:=id z
  refine h { s with heap:=h' } ⟨I.ok,I.os,I.bare,⟨fun b o e n hb hx=>?_,fun b o e n hb hx=>?_,I.base.free,fun b o e hx=>?_,I.base.tups,I.base.frzs,I.base.tbls⟩,⟨m,hn.sameBut hs (Ne.symm (cne x c hc)),fun j y v' e1 e2 e3=>?_⟩,fun y c' e=>?_,I.free,I.freeC,fun p hp=>?_,tracked ⟨oc,hoc,I.freeC x c hc⟩ hs,by simpa using I.len⟩ ⟨c,hs,.inr hc⟩
  ·exact (hs.2 b (AJ (Am (z7 e) (I.ok.cab x c hfn hc)))).trans (I.base.keep b o e n hb hx)
  ·obtain ⟨sl,e1⟩:=I.base.slot b o e n hb hx
   exact ⟨sl,(hs.2 b (AJ (Am (z7 e) (I.ok.cab x c hfn hc)))).trans e1⟩
  ·obtain ⟨o',e1⟩:=I.base.there b o e hx
   exact ⟨o',(hs.2 b (AJ (Am (z7 e) (I.ok.cab x c hfn hc)))).trans e1⟩
  ·by_cases hj:j=i
   ·subst hj
    rw [hi] at e1;cases e1
    rw [DH hiσ] at e2
    cases e2
    exact ⟨u,r,.inr ⟨.inl hk,c,hc,hc'⟩⟩
   ·rw [List.getElem?_set_ne (Ne.symm hj)] at e2
    obtain ⟨u',r',q⟩:=hl j y v' e1 e2 e3
    refine ⟨u',r',?_⟩
    rcases q with q | ⟨k,c',e,z'⟩
    ·exact .inl q
    ·refine .inr ⟨k,c',e,z'.sameBut hs ?_⟩
     rintro rfl
     exact hj (jr hN e1 (I.ok.inj _ _ _ e hc ▸ hi))
  ·by_cases hcc:c'=c
   ·subst hcc;exact ⟨_,hc'⟩
   ·obtain ⟨w2,z2⟩:=I.cell y c' e
    exact ⟨w2,z2.sameBut hs hcc⟩
  ·obtain ⟨e,n,ne,nf,d⟩:=I.pin p hp
   refine ⟨(hs.2 p.1 ?_).trans e,n,ne,nf,d⟩
   intro q
   rw [q,hoc] at e
   have q':oc=p.2:=zP e
   exact d w' (by rw [← q'];exact hocd)
theorem fN {M:Model}{A:Around}{E:Value→Shared→Prop}{i:Nat}{x:Str}{v:V}{u:Value}{Q:Unit→Shared→Prop}(I:Inv X EA σ H s)(hN:X.N.Nodup)(hi:X.N[i]? = some x)(hx:Loc X.env.scope x)(r:bC v u)
  (h:∀ s',Inv X EA (σ.set i (some v)) H s'→Q () s') (hf:X.fn x=true ∨ X.env.scope.names.lookup x=some .local:=by first | exact .inl rfl | exact .inr rfl | assumption):wpAny M A (storeName X.env x u) Q E s :=
 kU I hN hi hx r (fun s' I' _=>h s' I') hf
theorem Inv.call' {s':Shared}{ch:List Addr}(I:Inv X EA σ H s)(ho:s'.os=s.os)(u:Un (frs X.stack) ch H H' s.heap s'.heap)(hok:HOk X.prog X.w H' s'.heap)(hg:AllBare s'.gens)
  (hch:∀ b∈ch,(b∈X.ex ∨ X.s₀.heap.objs.size≤b)∧b≠X.env.locals∧(∀ x c,X.env.cells.lookup x=some c→c≠b)∧∀ p∈X.pn++EA,p.1≠b):Inv X EA σ H' s':=by
 obtain ⟨h',g',d',t',o'⟩:=s'
 have e:o'=s.os:=ho
 subst e
 exact I.call (g':=g') (t':=t') (d':=d') u hok hg hch
end
abbrev XK:=Value→Option Addr→Hp→Prop
abbrev St:=List (Option V)
abbrev VK:=V→Hp→Prop
abbrev TE:=St→Hp→VK→Prop
abbrev TT:=St→Hp→(Bool→Hp→Prop)→Prop
abbrev TA:=St→Hp→(List V→Hp→Prop)→Prop
structure iM where
 nx:St→Hp→Prop
 rt:VK
 bk:St→Hp→Prop:=fun _ _=>False
 ct:St→Hp→Prop:=fun _ _=>False
abbrev TS:=iM→St→Hp→Prop
def EP (X:Cx)(EA:List (Addr × Obj))(σ:St)(Q:VK)(u:Value)(s':Shared):Prop:=∃ v H',Inv X EA σ H' s'∧bC v u∧Q v H'
def TP (X:Cx)(EA:List (Addr × Obj))(σ:St)(Q:Bool→Hp→Prop)(b:Bool)(s':Shared):Prop:=∃ H',Inv X EA σ H' s'∧Q b H'
def AP (X:Cx)(EA:List (Addr × Obj))(σ:St)(Q:List V→Hp→Prop)(us:List Value)(s':Shared):Prop:=∃ vs H',Inv X EA σ H' s'∧bh vs us∧Q vs H'
def SP (X:Cx)(EA:List (Addr × Obj))(D:iM)(f:Flow)(s':Shared):Prop :=
 match f with
 | .next=>∃ σ' H',Inv X EA σ' H' s'∧D.nx σ' H'
 | .brk=>∃ σ' H',Inv X EA σ' H' s'∧D.bk σ' H'
 | .cont=>∃ σ' H',Inv X EA σ' H' s'∧D.ct σ' H'
 | .ret u=>∃ v σ' H',Inv X EA σ' H' s'∧bC v u∧D.rt v H'
def PE (X:Cx)(e:Expr)(t:TE):Prop :=
 ∀ (EA:List (Addr × Obj)) (s:Shared) (σ:St) (H:Hp) (Q:VK),Inv X EA σ H s→t σ H Q→wpAny (model X.prog X.w) X.A (eval e X.env) (EP X EA σ Q) X.xe s
def PT (X:Cx)(e:Expr)(t:TT):Prop :=
 ∀ (EA:List (Addr × Obj)) (s:Shared) (σ:St) (H:Hp) (Q:Bool→Hp→Prop),Inv X EA σ H s→t σ H Q→wpAny (model X.prog X.w) X.A (isTrue e X.env (eval e X.env)) (TP X EA σ Q) X.xe s
def PW (X:Cx)(e:Expr)(t:TT):Prop :=
 ∀ (whole:Sem Value) (EA:List (Addr × Obj)) (s:Shared) (σ:St) (H:Hp) (Q:Bool→Hp→Prop),Inv X EA σ H s→t σ H Q→wpAny (model X.prog X.w) X.A (isTrue e X.env whole) (TP X EA σ Q) X.xe s
theorem PW.pt {X:Cx}{e:Expr}{t:TT}(h:PW X e t):PT X e t:=h _
def PA (X:Cx)(es:List Expr)(t:TA):Prop :=
 ∀ (pos:Pos) (EA:List (Addr × Obj)) (s:Shared) (σ:St) (H:Hp) (Q:List V→Hp→Prop),Inv X EA σ H s→t σ H Q→wpAny (model X.prog X.w) X.A (spliced (backTo pos (starEach es X.env))) (AP X EA σ Q) X.xe s
def PS (X:Cx)(st:Stmt)(t:TS):Prop :=
 ∀ (EA:List (Addr × Obj)) (s:Shared) (σ:St) (H:Hp) (D:iM),Inv X EA σ H s→t D σ H→wpAny (model X.prog X.w) X.A (exec st X.env) (SP X EA D) X.xe s
def PSs (X:Cx)(st:List Stmt)(t:TS):Prop :=
 ∀ (EA:List (Addr × Obj)) (s:Shared) (σ:St) (H:Hp) (D:iM),Inv X EA σ H s→t D σ H→wpAny (model X.prog X.w) X.A (execs st X.env) (SP X EA D) X.xe s
theorem thn {α:Type}{t:Sem α}{Q Q':α→Shared→Prop}{M:Model}{A:Around}{E:Value→Shared→Prop}{s:Shared}(h:wpAny M A t Q E s)(hQ:∀ a s,Q a s→Q' a s):wpAny M A t Q' E s:=BR h hQ fun _ _ x=>x
section
variable {X:Cx}
inductive wY (i:Nat)(σ:St)(H:Hp)(Q:VK):Prop
 | mk:∀ v,(σ[i]? = some (some v))→(Q v H)→wY i σ H Q
def tC (v:V):TE:=fun _ H Q=>Q v H
theorem uD {i:Nat}{x:Str}{pos:Pos}(hN:X.N[i]? = some x)(hv:Vis X.env.scope x)(hd:(x == ("__debug__":Str))=false:=by decide)(hcd:(x == ("__classdict__":Str))=false:=by decide):PE X (.Name x pos) (wY i):=by
 intro EA s σ H Q I h
 obtain ⟨v,e,h⟩:=h
 obtain ⟨m,hn,hl⟩:=I.loc
 obtain ⟨u,r,l⟩:=hl i x v hN e hv
 have fin:EP X EA σ Q u s:=⟨v,H,I,r,h⟩
 rcases l with ⟨hk,hm⟩ | ⟨hk,c,hc,hcell⟩
 ·exact wpAny_Name (wpAny_loadName_local I.ok.kind hk hn hm fin) hd
 ·rcases hk with hk | hk
  ·exact wpAny_Name (wpAny_loadName_cell I.ok.kind hk hc hcell fin) hd
  ·exact wpAny_Name (wpAny_loadName_free I.ok.kind hk hc hcell fin hcd) hd
theorem ai {i j pos}:PE X (.Constant (.int i) j pos) (tC (.int i)):=fun _ _ _ H _ I h=>wpAny_Constant_int ⟨.int i,H,I.tok _,⟨_,rfl⟩,h⟩
theorem kg {b j pos}:PE X (.Constant (.bool b) j pos) (tC (.bl b)):=fun _ _ _ H _ I h=>Constant_bool ⟨.bl b,H,I,rfl,h⟩
theorem bT {x j pos}:PE X (.Constant (.str x) j pos) (tC (.str x)):=fun _ _ _ H _ I h=>Calls.Constant_str ⟨.str x,H,I.tok _,⟨_,rfl⟩,h⟩
def Gl (X:Cx)(x:Str):Prop:=X.env.kindOf x=some .globalImplicit
theorem iP {E:Value→Shared→Prop}{EA:List (Addr × Obj)}{s:Shared}{σ:St}{H:Hp}{x:Str}{u:Value}{pos:Pos}{Q:Value→Shared→Prop}(I:Inv X EA σ H s)(hg:Gl X x)(hm:X.mg x=some u)(h:Q u s)
  (hd:(x == ("__debug__":Str))=false:=by decide):wpAny (model X.prog X.w) X.A (eval (.Name x pos) X.env) Q E s :=
 C6 I.ok.kind hg (Calls.loadGlobal_global (by rw [I.ok.glob];exact I.mod.glob.keeps I.bk) hm h) hd
theorem g7 {E:Value→Shared→Prop}{EA:List (Addr × Obj)}{s:Shared}{σ:St}{H:Hp}{x:Str}{u:Value}{pos:Pos}{Q:Value→Shared→Prop}(I:Inv X EA σ H s)(hg:Gl X x)(hm:X.mg x=none)(hv:bootBuiltins x=some u)(h:Q u s)
  (hn:x ≠ "__name__":=by decide) (hd:(x == ("__debug__":Str))=false:=by decide):wpAny (model X.prog X.w) X.A (eval (.Name x pos) X.env) Q E s:=by
 obtain ⟨mb,h1,h2⟩:=I.mod.blt
 exact C6 I.ok.kind hg (Calls.loadGlobal_builtin (by rw [I.ok.glob];exact I.mod.glob.keeps I.bk) hm (by rw [I.ok.blt];exact h1.keeps I.bk) ((h2 x hn).trans hv) h) hd
theorem kW {x:Str}{v:V}{u:Value}{pos:Pos}(hg:Gl X x)(hm:X.mg x=some u)(r:bC v u)(hd:(x == ("__debug__":Str))=false:=by decide):PE X (.Name x pos) (tC v) :=
 fun _ _ _ H _ I h=>iP I hg hm ⟨v,H,I,r,h⟩ hd
variable {a b:Expr} {ta tb:TE} {pos:Pos}
def PC (X:Cx)(op:CmpOp)(a b:Expr)(t:TE):Prop :=
 ∀ (EA:List (Addr × Obj)) (s:Shared) (σ:St) (H:Hp) (Q:VK),Inv X EA σ H s→t σ H Q →
  wpAny (model X.prog X.w) X.A (eval a X.env) (fun v s₁=>wpAny (model X.prog X.w) X.A (eval b X.env) (fun u s₂=>wpAny (model X.prog X.w) X.A (compareOp op v u) (EP X EA σ Q) X.xe s₂) X.xe s₁) X.xe s
theorem oK (b:Expr){op:CmpOp}(h:op ≠ .In)(h2:op ≠ .NotIn):behindInMarks op b=false:=by
 have e1:(op == CmpOp.In)=false:=by cases op <;> first | rfl | exact absurd rfl h
 have e2:(op == CmpOp.NotIn)=false:=by cases op <;> first | rfl | exact absurd rfl h2
 cases b <;> simp [behindInMarks,e1,e2]
inductive IsB (x:V)(H:Hp)(Q:Bool→Hp→Prop):Prop
 | mk:∀ c,(x = .bl c)→(Q c H)→IsB x H Q
def wZ (Q:(Bool→Hp→Prop)):V→Hp→Prop:=fun x H1=>IsB x H1 Q
def tB (t:TE):TT:=fun σ H Q=>t σ H (wZ Q)
theorem uE {op:CmpOp}{t:TE}(h:PC X op a b t)(h1:behindInMarks op b=false:=by first | exact oK _ (by decide) (by decide) | rfl):PT X (.Compare a [op] [b] pos) (tB t):=by
 intro EA s σ H Q I hw
 refine wpAny_isTrue_Compare1 (thn (h EA s σ H _ I hw) fun v s1 h1=>thn h1 fun u s2 h2=>thn h2 fun c s3 zq5=>?_) h1
 obtain ⟨x,H1,I1,r1,q1⟩:=zq5
 obtain ⟨d,rfl,q⟩:=q1
 cases r1
 exact Bd ⟨H1,I1,q⟩
variable {tA tB':TT} {rest:List Expr}
def rf (u:TT)(σ:St)(Q:(Bool→Hp→Prop)):Bool→Hp→Prop:=fun c H1=>if c=true then u σ H1 Q else Q false H1
def yU (t u:TT):TT:=fun σ H Q=>t σ H (rf u σ Q)
def qm (u:TT)(σ:St)(Q:(Bool→Hp→Prop)):Bool→Hp→Prop:=fun c H1=>if c=true then Q true H1 else u σ H1 Q
def tOr (t u:TT):TT:=fun σ H Q=>t σ H (qm u σ Q)
def kX (Q:(Bool→Hp→Prop)):Bool→Hp→Prop:=fun c H1=>Q (!c) H1
def yV (t:TT):TT:=fun σ H Q=>t σ H (kX Q)
theorem kY (ha:PT X a tA):PW X (.BoolOp .And [a] pos) tA:=by
 intro wh EA s σ H Q I h
 refine isTrue_and (thn (ha EA s σ H Q I h) fun c s1 e=>?_)
 cases c with
 | true=>exact isTrue_and_nil e
 | false=>exact e
theorem qo (ha:PT X a tA):PW X (.BoolOp .Or [a] pos) tA:=by
 intro wh EA s σ H Q I h
 refine isTrue_or (thn (ha EA s σ H Q I h) fun c s1 e=>?_)
 cases c with
 | false=>exact isTrue_or_nil e
 | true=>exact e
theorem qp (ha:PT X a tA)(hb:PW X (.BoolOp .And (b::rest) pos) tB'):PW X (.BoolOp .And (a::b::rest) pos) (yU tA tB'):=by
 intro wh EA s σ H Q I h
 refine isTrue_and (thn (ha EA s σ H _ I h) fun c s1 zq7=>?_)
 obtain ⟨H1,I1,q1⟩:=zq7
 cases c with
 | true=>exact hb wh EA s1 σ H1 Q I1 q1
 | false=>exact ⟨H1,I1,q1⟩
theorem uF (ha:PT X a tA)(hb:PW X (.BoolOp .Or (b::rest) pos) tB'):PW X (.BoolOp .Or (a::b::rest) pos) (tOr tA tB'):=by
 intro wh EA s σ H Q I h
 refine isTrue_or (thn (ha EA s σ H _ I h) fun c s1 zq8=>?_)
 obtain ⟨H1,I1,q1⟩:=zq8
 cases c with
 | true=>exact ⟨H1,I1,q1⟩
 | false=>exact hb wh EA s1 σ H1 Q I1 q1
theorem qq (ha:PT X a tA):PT X (.UnaryOp .Not a pos) (yV tA):=by
 intro EA s σ H Q I h
 exact isTrue_not (ha EA s σ H (fun c H1=>Q (!c) H1) I h)
def oM (tb:TE)(σ:St)(Q:VK):Bool→Hp→Prop:=fun c H1=>if c=true then tb σ H1 Q else Q (.bl false) H1
def oN (tb:TE)(σ:St)(Q:VK):V→Hp→Prop:=fun x H1=>IsB x H1 (oM tb σ Q)
def w4 (ta tb:TE):TE:=fun σ H Q=>ta σ H (oN tb σ Q)
theorem qr {op}{t:TE}(h:PE X a t):PE X (.BoolOp op [a] pos) t:=fun EA s σ H Q I hw=>BoolOp_one (h EA s σ H Q I hw)
theorem uG (ha:PE X a ta)(hb:PE X (.BoolOp .And (b::rest) pos) tb):PE X (.BoolOp .And (a::b::rest) pos) (w4 ta tb):=by
 intro EA s σ H Q I h
 refine BoolOp_and (thn (ha EA s σ H _ I h) fun v s1 zq9=>?_)
 obtain ⟨x,H1,I1,r1,q1⟩:=zq9
 obtain ⟨c,rfl,q1⟩:=q1
 cases r1
 refine Bd ?_
 cases c with
 | true=>exact hb EA s1 σ H1 Q I1 q1
 | false=>exact ⟨.bl false,H1,I1,rfl,q1⟩
def kZ (ta:TE)(tb:TE)(σ:St)(Q:VK):Bool→Hp→Prop:=fun c H1=>if c=true then ta σ H1 Q else tb σ H1 Q
def tIf (t:TT)(ta tb:TE):TE:=fun σ H Q=>t σ H (kZ ta tb σ Q)
theorem cV {c:Expr}(hc:PT X c tA)(ha:PE X a ta)(hb:PE X b tb):PE X (.IfExp c a b pos) (tIf tA ta tb):=by
 intro EA s σ H Q I h
 refine wpAny_IfExp (thn (hc EA s σ H _ I h) fun d s1 zq12=>?_)
 obtain ⟨H1,I1,q1⟩:=zq12
 cases d with
 | true=>exact ha EA s1 σ H1 Q I1 q1
 | false=>exact hb EA s1 σ H1 Q I1 q1
end
def SqL (K:PySem.W.Frag)(H:Hp)(a:Addr)(xs:List V):Prop :=
 Rd H a (.lst xs) ∨
  ∃ (o:Obj) (EB:Array Value) (n:Nat),K.lookup a=some o∧o.cls = .type "list"∧o.dict=none∧o.data = .seq EB n∧EB.size≤sizeLine∧bh xs EB.toList
def SqT (K:PySem.W.Frag)(H:Hp)(a:Addr)(xs:List V):Prop :=
 Rd H a (.tup xs) ∨
  ∃ (o:Obj) (EB:Array Value) (n:Nat),K.lookup a=some o∧o.cls = .type "tuple"∧o.data = .seq EB n∧EB.size≤sizeLine∧bh xs EB.toList
def yW:Value→Option V
 | .none=>some .non
 | .bool b=>some (.bl b)
 | .int i _=>some (.int i)
 | .str x _=>some (.str x)
 | .bytes b _=>some (.byt b)
 | .float b _=>some (.flt b)
 | .ref a=>some (.ref a)
 | .type n=>some (.ty n)
 | _=>none
theorem bC.abs {x:V}{u:Value}(r:bC x u):yW u=some x:=by
 cases x with
 | non=>cases r;rfl
 | bl _=>cases r;rfl
 | int _=>obtain ⟨t,rfl⟩:=r;rfl
 | str _=>obtain ⟨t,rfl⟩:=r;rfl
 | byt _=>obtain ⟨t,rfl⟩:=r;rfl
 | flt _=>obtain ⟨t,rfl⟩:=r;rfl
 | ref _=>cases r;rfl
 | ty _=>cases r;rfl
theorem bC.inj {x y:V}{u:Value}(r:bC x u)(q:bC y u):x=y:=zP (r.abs.symm.trans q.abs)
theorem bh.inj:∀ {xs ys:List V} {us:List Value},bh xs us→bh ys us→xs=ys
 | _,_,_,.nil,.nil=>rfl
 | _,_,_,.cons r t,.cons r' t'=>by rw [r.inj r',bh.inj t t']
section
variable {X:Cx} {EA:List (Addr × Obj)} {σ:St} {H:Hp} {s:Shared} {a:Addr} {xs ys:List V}
theorem SqL.of {K:PySem.W.Frag}(h:H a=some (.lst xs)):SqL K H a xs:=.inl (.inl h)
theorem SqT.of {K:PySem.W.Frag}(h:H a=some (.tup xs)):SqT K H a xs:=.inl (.inl h)
theorem Inv.list (I:Inv X EA σ H s)(h:SqL X.K H a xs):∃ EB:List Value,bh xs EB∧PlainL s.heap a EB.toArray∧xs.length≤sizeLine:=by
 rcases h with h | ⟨o,EB,n,hk,hc,hd,hs,hz,r⟩
 ·obtain ⟨z,EB,n,r,e⟩:=h.ok I.hok
  exact ⟨EB,r,⟨_,n,e,rfl,rfl,rfl⟩,z⟩
 ·refine ⟨EB.toList,r,⟨o,n,I.kIn a o hk,hc,hd,by simpa using hs⟩,?_⟩
  have e:=r.length
  simp only [zL] at e
  omega
theorem Inv.tuple (I:Inv X EA σ H s)(h:SqT X.K H a xs):∃ EB:List Value,bh xs EB∧IsTup s.heap a EB.toArray∧xs.length≤sizeLine:=by
 rcases h with h | ⟨o,EB,n,hk,hc,hs,hz,r⟩
 ·obtain ⟨z,EB,r,p,_⟩:=h.ok I.hok
  exact ⟨EB,r,p,z⟩
 ·refine ⟨EB.toList,r,⟨o,I.kIn a o hk,hc,n,by simpa using hs⟩,?_⟩
  have e:=r.length
  simp only [zL] at e
  omega
theorem Inv.list_inj (I:Inv X EA σ H s)(h:SqL X.K H a xs)(h':SqL X.K H a ys):xs=ys:=by
 obtain ⟨EB,r,⟨o,n,e,_,_,d⟩,_⟩:=I.list h
 obtain ⟨its',r',⟨o',n',e',_,_,d'⟩,_⟩:=I.list h'
 rw [e] at e';cases e'
 rw [d] at d'
 injection d' with d1 _
 have:EB=its':=by simpa using Af Array.toList d1
 subst this
 exact r.inj r'
theorem Inv.tuple_inj (I:Inv X EA σ H s)(h:SqT X.K H a xs)(h':SqT X.K H a ys):xs=ys:=by
 obtain ⟨EB,r,⟨o,e,_,n,d⟩,_⟩:=I.tuple h
 obtain ⟨its',r',⟨o',e',_,n',d'⟩,_⟩:=I.tuple h'
 rw [e] at e';cases e'
 rw [d] at d'
 injection d' with d1 _
 have:EB=its':=by simpa using Af Array.toList d1
 subst this
 exact r.inj r'
end
abbrev Cx.wish (X:Cx)(E:Value→Shared→Prop):Cx:={ X with xe:=E }
abbrev Cx.nox (X:Cx):Cx:=X.wish fun _ _=>False
theorem Cx.Ok.wish {X:Cx}(ok:X.Ok)(E:Value→Shared→Prop):(X.wish E).Ok :=
 ⟨ok.mod,ok.kind,ok.glob,ok.blt,ok.above,ok.inj,ok.has,ok.cab,ok.hd,ok.frames,ok.stk,ok.exf,ok.bs,ok.bsz,ok.noex,ok.exfs,ok.funs,ok.frf⟩
theorem Cx.Ok.unwish {X:Cx}{E:Value→Shared→Prop}(ok:(X.wish E).Ok):X.Ok :=
 ⟨ok.mod,ok.kind,ok.glob,ok.blt,ok.above,ok.inj,ok.has,ok.cab,ok.hd,ok.frames,ok.stk,ok.exf,ok.bs,ok.bsz,ok.noex,ok.exfs,ok.funs,ok.frf⟩
section
variable {X:Cx} {EA:List (Addr × Obj)} {σ:St} {H:Hp} {s:Shared} {E:Value→Shared→Prop}
theorem Inv.wish (I:Inv X EA σ H s)(E:Value→Shared→Prop):Inv (X.wish E) EA σ H s:=⟨I.ok.wish E,I.os,I.bare,I.base,I.loc,I.cell,I.free,I.freeC,I.pin,I.hok,I.len⟩
theorem Inv.unwish (I:Inv (X.wish E) EA σ H s):Inv X EA σ H s:=⟨I.ok.unwish,I.os,I.bare,I.base,I.loc,I.cell,I.free,I.freeC,I.pin,I.hok,I.len⟩
theorem SP.unwish {D:iM}{f:Flow}{s':Shared}(h:SP (X.wish E) EA D f s'):SP X EA D f s':=by
 cases f with
 | next=>obtain ⟨σ',H',I,q⟩:=h;exact ⟨σ',H',I.unwish,q⟩
 | brk=>obtain ⟨σ',H',I,q⟩:=h;exact ⟨σ',H',I.unwish,q⟩
 | cont=>obtain ⟨σ',H',I,q⟩:=h;exact ⟨σ',H',I.unwish,q⟩
 | ret u=>obtain ⟨v,σ',H',I,r,q⟩:=h;exact ⟨v,σ',H',I.unwish,r,q⟩
theorem PSs.nox {st:List Stmt}{t:TS}(h:PSs X.nox st t):PSs X st t:=fun EA s σ H D I hw =>
 BR (h EA s σ H D (I.wish _) hw) (fun _ _ q=>q.unwish) fun _ _ z=>False.elim z
end
section
variable {X:Cx} {st:Stmt} {rest:List Stmt} {t u:TS} {e:Expr} {te:TE} {pos:Pos}
def w5:TS:=fun D σ H=>D.nx σ H
def yD (t u:TS):TS:=fun D σ H=>t { D with nx:=u D } σ H
theorem ba:PSs X [] w5:=fun _ _ σ H _ I h=>CZ ⟨σ,H,I,h⟩
theorem ah (h1:PS X st t)(h2:PSs X rest u):PSs X (st::rest) (yD t u):=by
 intro EA s σ H D I h
 refine wpAny_execs_cons (thn (h1 EA s σ H { D with nx:=u D } I h) fun f s1 q=>?_)
 cases f with
 | next =>
  obtain ⟨σ',H',I',q⟩:=q
  exact h2 EA s1 σ' H' D I' q
 | ret v=>exact q
 | brk=>exact q
 | cont=>exact q
theorem aj (h1:PS X st t):PSs X [st] t:=by
 intro EA s σ H D I h
 refine wpAny_execs_cons (thn (h1 EA s σ H D I h) fun f s1 q=>?_)
 cases f with
 | next=>exact CZ q
 | ret v=>exact q
 | brk=>exact q
 | cont=>exact q
theorem Inv.quiet {EA:List (Addr × Obj)}{σ:St}{H:Hp}{s:Shared}(I:Inv X EA σ H s):interactive X.env=false:=by simp [interactive,I.ok.kind]
def oO (D:iM)(σ:St):V→Hp→Prop:=fun _ H1=>D.nx σ H1
def w6 (te:TE):TS:=fun D σ H=>te σ H (oO D σ)
theorem cI (he:PE X e te)(hs:swapsWith e none pos.line X.env=pure false:=by rfl):PS X (.Expr e pos) (w6 te):=by
 intro EA s σ H D I h
 exact wpAny_Expr_any (thn (he EA s σ H _ I h) fun v s1 zq15=>(by obtain ⟨x,H1,I1,r1,q1⟩:=zq15;exact ⟨σ,H1,I1,q1⟩)) I.quiet hs
def yX (te:TE):TS:=fun D σ H=>te σ H D.rt
theorem aH (he:PE X e te):PS X (.Return (some e) pos) (yX te):=by
 intro EA s σ H D I h
 exact wpAny_Return_some (thn (he EA s σ H _ I h) fun v s1 zq16=>(by obtain ⟨x,H1,I1,r1,q1⟩:=zq16;exact ⟨x,σ,H1,I1,r1,q1⟩))
def cJ (t:TS)(u:TS)(D:iM)(σ:St):Bool→Hp→Prop:=fun b H1=>if b=true then t D σ H1 else u D σ H1
def yY (c:TT)(t u:TS):TS:=fun D σ H=>c σ H (cJ t u D σ)
theorem cF {c:Expr}{a b:List Stmt}{tc:TT}(hc:PT X c tc)(ha:PSs X a t)(hb:PSs X b u):PS X (.If c a b pos) (yY tc t u):=by
 intro EA s σ H D I h
 refine wpAny_If (thn (hc EA s σ H _ I h) fun d s1 zq17=>?_)
 obtain ⟨H1,I1,q1⟩:=zq17
 cases d with
 | true=>exact ha EA s1 σ H1 D I1 q1
 | false=>exact hb EA s1 σ H1 D I1 q1
end
abbrev TG:=V→St→Hp→(St→Hp→Prop)→Prop
def PG (X:Cx)(target:Expr)(t:TG):Prop :=
 ∀ (EA:List (Addr × Obj)) (s:Shared) (σ:St) (H:Hp) (v:V) (u:Value) (Q:St→Hp→Prop),Inv X EA σ H s→bC v u→t v σ H Q →
  wpAny (model X.prog X.w) X.A (assign target X.env u) (fun _ s'=>∃ σ' H',Inv X EA σ' H' s'∧Q σ' H') X.xe s
abbrev w9:=V→V→V→Hp→(Hp→Prop)→Prop
def yE (X:Cx)(t:w9):Prop :=
 ∀ (EA:List (Addr × Obj)) (s:Shared) (σ:St) (H:Hp) (o i v:V) (ov iv u:Value) (Q:Hp→Prop),Inv X EA σ H s→bC o ov→bC i iv→bC v u→t o i v H Q →
  wpAny (model X.prog X.w) X.A (setItem ov iv u) (fun _ s'=>∃ H',Inv X EA σ H' s'∧Q H') X.xe s
abbrev TIp:=V→V→Hp→VK→Prop
def PIp (X:Cx)(op:Operator)(t:TIp):Prop :=
 ∀ (EA:List (Addr × Obj)) (s:Shared) (σ:St) (H:Hp) (x y:V) (v u:Value) (Q:VK),Inv X EA σ H s→bC x v→bC y u→t x y H Q →
  wpAny (model X.prog X.w) X.A (inplaceOp op v u) (EP X EA σ Q) X.xe s
section
variable {X:Cx} {pos:Pos}
def oP (i:Nat):TG:=fun v σ H Q=>Q (σ.set i (some v)) H
theorem aV {i:Nat}{x:Str}(hN:X.N.Nodup)(hi:X.N[i]? = some x)(hx:Loc X.env.scope x)(hf:X.fn x=true ∨ X.env.scope.names.lookup x=some .local:=by first | exact .inl rfl | exact .inr rfl | assumption):PG X (.Name x pos) (oP i):=by
 intro EA s σ H v u Q I r h
 exact wpAny_assign_Name (fN I hN hi hx r (fun s' I'=>⟨_,H,I',h⟩) hf)
def yZ (to ti:TE)(t:w9):TG:=fun v σ H Q=>to σ H fun o H1=>ti σ H1 fun i H2=>t o i v H2 fun H3=>Q σ H3
theorem js {o i:Expr}{to ti:TE}{t:w9}(ho:PE X o to)(hi:PE X i ti)(hs:yE X t)
  (ha:∀ v,assign (.Subscript o i pos) X.env v=(do
   let ov ← holding [v] (eval o X.env)
   let iv ← holding [v,ov] (eval i X.env)
   standAt pos
   holding [v,ov,iv] (setItem ov iv v)
   release [v,ov,iv] []):=by intro _;rfl):PG X (.Subscript o i pos) (yZ to ti t):=by
 intro EA s σ H v u Q I r h
 rw [ha]
 refine zK (BD (thn (ho EA s σ H _ I h) fun ov s1 zq19=>?_))
 obtain ⟨x,H1,I1,r1,q1⟩:=zq19
 refine zK (BD (thn (hi EA s1 σ H1 _ I1 q1) fun iv s2 zq20=>?_))
 obtain ⟨y,H2,I2,r2,q2⟩:=zq20
 refine zK (wpAny_standAt (zK (BD (thn (hs EA s2 σ H2 x y v ov iv u _ I2 r1 r2 r q2) fun _ s3 zq21=>?_))))
 obtain ⟨H3,I3,q3⟩:=zq21
 exact wpAny_release ⟨σ,H3,I3,q3⟩
def iQ (g:TG)(D:iM)(σ:St):V→Hp→Prop:=fun x H1=>g x σ H1 D.nx
def w_ (te:TE)(g:TG):TS:=fun D σ H=>te σ H (iQ g D σ)
theorem jt {tg e:Expr}{te:TE}{g:TG}(he:PE X e te)(hg:PG X tg g)(hs:swapsWithSole [tg] e pos.line X.env=pure false:=by rfl)(hw:swappedStores [tg] e X.env=pure none:=by rfl)
  (h1:(assignEach [tg] X.env).map (·.2)=[assign tg X.env]:=by rfl):PS X (.Assign [tg] e pos) (w_ te g):=by
 intro EA s σ H D I h
 refine wpAny_Assign_stores (thn (he EA s σ H _ I h) fun v s1 zq22=>?_) hs hw
 obtain ⟨x,H1,I1,r1,q1⟩:=zq22
 rw [h1]
 exact thn (hg EA s1 σ H1 x v _ I1 r1 q1) fun _ s2 q=>q
theorem av {i:Nat}{x:Str}{e:Expr}{te:TE}{pos':Pos}(hN:X.N.Nodup)(hi:X.N[i]? = some x)(hx:Loc X.env.scope x)(he:PE X e te)(hs:swapsWith e (some (.Name x pos')) pos.line X.env=pure false:=by rfl)(hf:X.fn x=true ∨ X.env.scope.names.lookup x=some .local:=by first | exact .inl rfl | exact .inr rfl | assumption) :
  PS X (.Assign [.Name x pos'] e pos) (w_ te (oP i)):=by
 intro EA s σ H D I h
 refine wpAny_Assign_Name (thn (he EA s σ H _ I h) fun v s1 zq23=>?_) hs
 obtain ⟨y,H1,I1,r1,q1⟩:=zq23
 exact fN I1 hN hi hx r1 (fun s2 I2=>⟨_,H1,I2,q1⟩) hf
inductive yF (i:Nat)(te:TE)(ti:TIp)(D:iM)(σ:St)(H:Hp):Prop
 | mk:∀ x,(σ[i]? = some (some x))→(te σ H fun y H1=>ti x y H1 fun z H2=>D.nx (σ.set i (some z)) H2)→yF i te ti D σ H
theorem qt {i:Nat}{x:Str}{e:Expr}{te:TE}{op:Operator}{ti:TIp}{pos':Pos}(hN:X.N.Nodup)(hi:X.N[i]? = some x)(hx:Loc X.env.scope x)(he:PE X e te)(ho:PIp X op ti)(hf:X.fn x=true ∨ X.env.scope.names.lookup x=some .local:=by first | exact .inl rfl | exact .inr rfl | assumption) :
  PS X (.AugAssign (.Name x pos') op e pos) (yF i te ti):=by
 intro EA s σ H D I h
 obtain ⟨v,e1,h⟩:=h
 obtain ⟨m,hn,hl⟩:=I.loc
 have vis:Vis X.env.scope x:=by rcases hx with k | k;exact .inl k;exact .inr (.inl k)
 obtain ⟨u,r,l⟩:=hl i x v hi e1 vis
 refine wpAny_AugAssign_Name ?_
 have go:wpAny (model X.prog X.w) X.A (eval e X.env) (fun w s₂=>wpAny (model X.prog X.w) X.A (inplaceOp op u w) (fun r s₃=>wpAny (model X.prog X.w) X.A (storeName X.env x r) (fun _=>SP X EA D .next) X.xe s₃) X.xe s₂) X.xe s:=by
  refine thn (he EA s σ H _ I h) fun w s1 zq25=>?_
  obtain ⟨y,H1,I1,r1,q1⟩:=zq25
  refine thn (ho EA s1 σ H1 v y u w _ I1 r r1 q1) fun z s2 zq26=>?_
  obtain ⟨zv,H2,I2,r2,q2⟩:=zq26
  exact fN I2 hN hi hx r2 (fun s3 I3=>⟨_,H2,I3,q2⟩) hf
 rcases l with ⟨hk,hm⟩ | ⟨hk,c,hc,hcell⟩
 ·exact wpAny_loadName_local I.ok.kind hk hn hm go
 ·rcases hk with hk | hk
  ·exact wpAny_loadName_cell I.ok.kind hk hc hcell go
  ·rcases hx with k | k
   ·have:X.env.scope.names.lookup x=some .free:=hk
    rw [k] at this;cases this
   ·have:X.env.scope.names.lookup x=some .free:=hk
    rw [k] at this;cases this
def ipI (f:Int→Int→Int):TIp:=fun x y H Q=>∃ i j,x = .int i∧y = .int j∧Q (.int (f i j)) H
theorem qu:PIp X .Add (ipI fun i j=>i+j):=by
 intro EA s σ H x y v u Q I r1 r2 h
 obtain ⟨i,j,e1,e2,q⟩:=h
 subst e1;subst e2
 obtain ⟨t,rfl⟩:=r1
 obtain ⟨t',rfl⟩:=r2
 exact iadd_int ⟨.int _,H,I.tok _,⟨_,rfl⟩,q⟩
def uH (c:TT)(tb:TS):TS:=fun D σ H=>∃ W:Nat→St→Hp→Prop,(∃ m,W m σ H)∧∀ m σ H,W m σ H →
 c σ H fun b H1=>if b=true then ∃ N:St→Hp→Prop,(∀ σ' H',N σ' H'→∃ m',m' < m∧W m' σ' H')∧tb { D with nx:=N,ct:=N,bk:=D.nx } σ H1 else D.nx σ H1
theorem fO {c:Expr}{body:List Stmt}{tc:TT}{tb:TS}(hp:PassesOwn (model X.prog X.w) X.A X.env X.xe)(hc:PT X c tc)(hb:PSs X body tb):PS X (.While c body [] pos) (uH tc tb):=by
 intro EA s σ H D I h
 obtain ⟨W,⟨m0,w0⟩,turn⟩:=h
 refine wpAny_While (codeAny_whileLoop (fun n s'=>∃ σ' H',Inv X EA σ' H' s'∧W n σ' H') ?_ m0 ⟨σ,H,I,w0⟩)
 rintro n s1 ⟨σ1,H1,I1,w1⟩
 refine BH hp (thn (hc EA s1 σ1 H1 _ I1 (turn n σ1 H1 w1)) fun b s2 zq33=>?_)
 obtain ⟨H2,I2,q2⟩:=zq33
 cases b with
 | true =>
  obtain ⟨N,hN,q2⟩:=q2
  rw [if_pos rfl]
  refine BH hp (thn (hb EA s2 σ1 H2 _ I2 q2) fun f s3 q3=>?_)
  cases f with
  | next =>
   obtain ⟨σ3,H3,I3,n3⟩:=q3
   obtain ⟨m',hm,w3⟩:=hN σ3 H3 n3
   exact ⟨m',hm,σ3,H3,I3,w3⟩
  | cont =>
   obtain ⟨σ3,H3,I3,n3⟩:=q3
   obtain ⟨m',hm,w3⟩:=hN σ3 H3 n3
   exact ⟨m',hm,σ3,H3,I3,w3⟩
  | brk=>exact q3
  | ret v=>exact q3
 | false =>
  rw [if_neg An]
  exact CZ ⟨σ1,H2,I2,q2⟩
end
structure It where
 go:Nat→Hp→Prop
 yld:Nat→Hp→V→Hp→Prop
 stop:Nat→Hp→Prop
def k0 (X:Cx)(EA:List (Addr × Obj))(H:Hp)(b:Addr):Prop :=
 H b=none∧b≠X.env.locals∧b∉X.fs∧(b∈X.ex ∨ X.s₀.heap.objs.size≤b)∧(∀ x c,X.env.cells.lookup x=some c→c≠b)∧∀ p∈X.pn++EA,p.1≠b
theorem Inv.fpOk {X:Cx}{EA:List (Addr × Obj)}{σ:St}{H H':Hp}{s:Shared}{b:Addr}(I:Inv X EA σ H s)(hb:s.heap.objs.size≤b)(hn:H' b=none):k0 X EA H' b:=by
 refine ⟨hn,D4 (Am I.lt hb),I.nofs hb,.inr (AO I.sz hb),fun x c e z=>?_,fun p hp z=>?_⟩
 ·obtain ⟨v,q⟩:=I.cell x c e
  exact absurd (Am q.lt (by rw [z];exact hb)) (AZ _)
 ·exact absurd (Am (z7 (I.pin p hp).1) (by rw [z];exact hb)) (AZ _)
structure uI (P:Program) (w:World) (K:PySem.W.Frag) (tg:Expr) (J:It) (fp:List Addr) (it:Addr) (tn:Nat→Heap→Prop):Prop where
 mem:it∈fp
 obj:∀ i h,tn i h→∀ b∈fp,∃ o,h.get? b=some o∧∀ v,o.data ≠ .cell v
 keep:∀ i h h',tn i h→(∀ b∈fp,∀ o,h.get? b=some o→h'.get? b=some o)→tn i h'
 item:∀ (X:Cx),X.prog=P→X.w=w→X.K=K→X.calm=true→∀ (i:Nat) (EA:List (Addr × Obj)) (s:Shared) (σ:St) (H:Hp) (E:Value→Shared→Prop),Inv X EA σ H s→(∀ b∈fp,k0 X EA H b)→tn i s.heap→J.go i H →
  wpAny (model P w) X.A (pyNext (.ref it)) (fun r s1=>∃ u,r=some u ∧
   wpAny (model P w) X.A (letOwnedTupleGo tg (.ref it) u) (fun _ s2=>∃ x H',Inv X EA σ H' s2∧bC x u∧J.yld i H x H'∧tn (i+1) s2.heap∧∀ b∈fp,H' b=none) E s1) E s
 done:∀ (X:Cx),X.prog=P→X.w=w→X.K=K→X.calm=true→∀ (i:Nat) (EA:List (Addr × Obj)) (s:Shared) (σ:St) (H:Hp) (E:Value→Shared→Prop),Inv X EA σ H s→(∀ b∈fp,k0 X EA H b)→tn i s.heap→J.stop i H →
  wpAny (model P w) X.A (pyNext (.ref it)) (fun r s1=>r=none∧Inv X EA σ H s1) E s
 self:∀ (A:Around) (i:Nat) (s:Shared) (Q:Value→Shared→Prop) (E:Value→Shared→Prop),tn i s.heap→Q (.ref it) s→wpAny (model P w) A (pyIter (.ref it)) Q E s
abbrev TI:=St→Hp→(It→Hp→Prop)→Prop
def PIE (X:Cx)(EA:List (Addr × Obj))(σ:St)(tg:Expr)(R:It→Hp→Prop)(itv:Value)(s2:Shared):Prop :=
 ∃ (it:Addr) (fp:List Addr) (tn:Nat→Heap→Prop) (J:It) (H':Hp),itv = .ref it∧Inv X EA σ H' s2∧uI X.prog X.w X.K tg J fp it tn∧tn 0 s2.heap∧(∀ b∈fp,k0 X EA H' b)∧R J H'
def PI (X:Cx)(tg iter:Expr)(wi:TI):Prop :=
 ∀ (EA:List (Addr × Obj)) (s:Shared) (σ:St) (H:Hp) (R:It→Hp→Prop),Inv X EA σ H s→wi σ H R →
  wpAny (model X.prog X.w) X.A (eval iter X.env) (fun v s1=>wpAny (model X.prog X.w) X.A (pyIter v) (PIE X EA σ tg R) X.xe s1) X.xe s
theorem oQ {M:Model}{A:Around}{E:Value→Shared→Prop}{s:Shared}{tg:Expr}{it:Addr}{u:Value}{o:Obj}{n:String}{vs:Array Value}{Q:Unit→Shared→Prop}(ho:s.heap.get? it=some o)(hc:o.cls = .type n)(hd:o.data = .fields vs)
  (hn:["enumerate","zip","dict_itemiterator","dict_reverseitemiterator","odict_iterator","itertools.zip_longest","itertools.pairwise"].contains n=false) (hQ:Q () s):wpAny M A (letOwnedTupleGo tg (.ref it) u) Q E s:=by
 unfold letOwnedTupleGo
 cases tg <;> first
  | exact Ab hQ
  | (cases u <;> first
    | exact Ab hQ
    | (
      refine zK (wpAny_load ho ?_)
      rw [hc,hd]
      show wpAny M A (if (["enumerate","zip","dict_itemiterator","dict_reverseitemiterator","odict_iterator","itertools.zip_longest","itertools.pairwise"].contains n && vs[0]? == some (rawInt _))=true then _ else _) Q E s
      rw [if_neg (by intro h;rw [hn,AH] at h;cases h)]
      exact Ab hQ))
def Itl (K:PySem.W.Frag)(a:Addr):It :=
 ⟨fun i H=>∃ xs x,SqL K H a xs∧xs[i]? = some x,fun i H x H'=>H'=H∧∀ xs,SqL K H a xs→xs[i]? = some x,fun i H=>∃ xs,SqL K H a xs∧xs.length≤i⟩
def Itt (K:PySem.W.Frag)(a:Addr):It :=
 ⟨fun i H=>∃ xs x,SqT K H a xs∧xs[i]? = some x,fun i H x H'=>H'=H∧∀ xs,SqT K H a xs→xs[i]? = some x,fun i H=>∃ xs,SqT K H a xs∧xs.length≤i⟩
def Itr (lo:Int)(n:Nat):It:=⟨fun i _=>i < n,fun i H x H'=>H'=H∧x = .int (lo+i),fun i _=>n≤i⟩
theorem k6 {P:Program}{w:World}{K:PySem.W.Frag}{tg:Expr}(a it:Addr):uI P w K tg (Itl K a) [it] it (fun i h=>h.IsListIter it a i) where
 mem:=by simp
 obj:=fun i h st b hb=>by
  have e:b=it:=by simpa using hb
  subst e
  obtain ⟨o,e,c,d⟩:=st
  exact ⟨o,e,fun v z=>by rw [d] at z;cases z⟩
 keep:=fun i h h' st k=>st.at fun o e=>k it (by simp) o e
 item:=by
  intro X hP hw hK hc i EA s σ H E I hf st hg
  subst hP hw hK
  obtain ⟨xs,x,hq,hx⟩:=hg
  obtain ⟨EB,rv,p,hz⟩:=I.list hq
  obtain ⟨u,hu,ru⟩:=rv.get hx
  obtain ⟨f0,f1,f2,f3,f4,f5⟩:=hf it (by simp)
  refine wpAny_pyNext_list_item st p.isList (x:=u) (by simpa using hu) fun h' st' sb=>?_
  have I1:Inv X EA σ H { s with heap:=h' }:=I.turned (t':=s.toks) (fun b o hb e=>(sb.2 b hb).trans e) f0 f1 f3 f4 f5
  obtain ⟨o,e,c,d⟩:=id st'
  exact ⟨u,rfl,oQ (s:={ s with heap:=h' }) e c d (by decide) ⟨x,H,I1,ru,⟨rfl,fun ys hy=>by rw [I.list_inj hy hq];exact hx⟩,st',fun b hb=>(hf b hb).1⟩⟩
 done:=by
  intro X hP hw hK hc i EA s σ H E I hf st hg
  subst hP hw hK
  obtain ⟨xs,hq,hx⟩:=hg
  obtain ⟨EB,rv,p,hz⟩:=I.list hq
  obtain ⟨f0,f1,f2,f3,f4,f5⟩:=hf it (by simp)
  have hl:=rv.length
  exact wpAny_pyNext_list_end (I.ok.hd hc) st p.isList (by simp;omega) fun h' eb=>⟨rfl,I.turned (t':=s.toks) (fun b o hb e=>eb b o hb e) f0 f1 f3 f4 f5⟩
 self:=fun _ _ _ _ _ st h=>wpAny_pyIter_listiter st h
theorem kh {P:Program}{w:World}{K:PySem.W.Frag}{tg:Expr}(a it:Addr):uI P w K tg (Itt K a) [it] it (fun i h=>h.IsTupleIter it a i) where
 mem:=by simp
 obj:=fun i h st b hb=>by
  have e:b=it:=by simpa using hb
  subst e
  obtain ⟨o,e,c,d⟩:=st
  exact ⟨o,e,fun v z=>by rw [d] at z;cases z⟩
 keep:=fun i h h' st k=>st.at fun o e=>k it (by simp) o e
 item:=by
  intro X hP hw hK hc i EA s σ H E I hf st hg
  subst hP hw hK
  obtain ⟨xs,x,hq,hx⟩:=hg
  obtain ⟨EB,rv,p,hz⟩:=I.tuple hq
  obtain ⟨u,hu,ru⟩:=rv.get hx
  obtain ⟨f0,f1,f2,f3,f4,f5⟩:=hf it (by simp)
  refine wpAny_pyNext_tuple_item st (show s.heap.IsTuple a EB.toArray from p) (x:=u) (by simpa using hu) fun h' st' sb=>?_
  have I1:Inv X EA σ H { s with heap:=h' }:=I.turned (t':=s.toks) (fun b o hb e=>(sb.2 b hb).trans e) f0 f1 f3 f4 f5
  obtain ⟨o,e,c,d⟩:=id st'
  exact ⟨u,rfl,oQ (s:={ s with heap:=h' }) e c d (by decide) ⟨x,H,I1,ru,⟨rfl,fun ys hy=>by rw [I.tuple_inj hy hq];exact hx⟩,st',fun b hb=>(hf b hb).1⟩⟩
 done:=by
  intro X hP hw hK hc i EA s σ H E I hf st hg
  subst hP hw hK
  obtain ⟨xs,hq,hx⟩:=hg
  obtain ⟨EB,rv,p,hz⟩:=I.tuple hq
  obtain ⟨f0,f1,f2,f3,f4,f5⟩:=hf it (by simp)
  have hl:=rv.length
  exact wpAny_pyNext_tuple_end (I.ok.hd hc) st (show s.heap.IsTuple a EB.toArray from p) (by simp;omega) fun h' eb=>⟨rfl,I.turned (t':=s.toks) (fun b o hb e=>eb b o hb e) f0 f1 f3 f4 f5⟩
 self:=fun _ _ _ _ _ st h=>wpAny_pyIter_tupleiter st h
theorem ki {P:Program}{w:World}{K:PySem.W.Frag}{tg:Expr}(it:Addr)(lo:Int)(n:Nat):uI P w K tg (Itr lo n) [it] it (fun i h=>IsRangeIter h it (lo+(i:Nat)*1) ((n:Int) - (i:Nat)) 1) where
 mem:=by simp
 obj:=fun i h st b hb=>by
  have e:b=it:=by simpa using hb
  subst e
  exact ⟨_,st,fun v z=>by
   have z':Data.fields _=Data.cell v:=z
   cases z'⟩
 keep:=fun i h h' st k=>k it (by simp) _ st
 item:=by
  intro X hP hw hK hc i EA s σ H E I hf st hg
  subst hP hw hK
  obtain ⟨f0,f1,f2,f3,f4,f5⟩:=hf it (by simp)
  have W:=Walks.range (prog:=X.prog) (w:=X.w) (I.ok.hd hc) it lo 1 n
  refine W.item i s _ _ hg st fun v h' tk hv st' kk=>?_
  obtain ⟨t,rfl⟩:=hv
  have I1:Inv X EA σ H { s with heap:=h',toks:=tk }:=I.turned (fun b o hb e=>kk b o (by simpa using hb) e) f0 f1 f3 f4 f5
  refine ⟨_,rfl,oQ (s:={ s with heap:=h',toks:=tk }) (n:="range_iterator") st' rfl rfl (by decide) ⟨.int (lo+i),H,I1,⟨t,?_⟩,⟨rfl,rfl⟩,st',fun b hb=>(hf b hb).1⟩⟩
  rw [Int.mul_one]
 done:=by
  intro X hP hw hK hc i EA s σ H E I hf st hg
  subst hP hw hK
  obtain ⟨f0,f1,f2,f3,f4,f5⟩:=hf it (by simp)
  exact wpAny_pyNext_range_end (I.ok.hd hc) st (by have:n≤i:=hg;omega) fun h' eb=>⟨rfl,I.turned (t':=s.toks) (fun b o hb e=>eb b o hb e) f0 f1 f3 f4 f5⟩
 self:=fun _ _ _ _ _ st h=>wpAny_pyIter_rangeiter st h
section
variable {X:Cx} {tg:Expr}
def xf (K:PySem.W.Frag)(tl:TE):TI:=fun σ H R=>tl σ H fun x H1=>∃ a,x = .ref a∧(∃ xs,SqL K H1 a xs)∧R (Itl K a) H1
def y6 (K:PySem.W.Frag)(tl:TE):TI:=fun σ H R=>tl σ H fun x H1=>∃ a,x = .ref a∧(∃ xs,SqT K H1 a xs)∧R (Itt K a) H1
theorem rg {l:Expr}{tl:TE}(hl:PE X l tl):PI X tg l (xf X.K tl):=by
 intro EA s σ H R I h
 refine thn (hl EA s σ H _ I h) fun v s1 zq34=>?_
 obtain ⟨x,H1,I1,r1,q1⟩:=zq34
 obtain ⟨a,e,⟨xs,hq⟩,q⟩:=q1
 subst e
 cases r1
 obtain ⟨EB,rv,p,hz⟩:=I1.list hq
 refine Dl p.isList ?_
 refine ⟨s1.heap.objs.size,[s1.heap.objs.size],_,_,H1,rfl,I1.kept (t':=s1.toks) fun b o e=>zM _ e,k6 a _,⟨_,z_ _ rfl,rfl,rfl⟩,fun b hb=>?_,q⟩
 have e:b=s1.heap.objs.size:=by simpa using hb
 subst e
 exact I1.fpOk (zU _) (I1.hok.fresh (zU _))
theorem uJ {l:Expr}{tl:TE}(hl:PE X l tl):PI X tg l (y6 X.K tl):=by
 intro EA s σ H R I h
 refine thn (hl EA s σ H _ I h) fun v s1 zq35=>?_
 obtain ⟨x,H1,I1,r1,q1⟩:=zq35
 obtain ⟨a,e,⟨xs,hq⟩,q⟩:=q1
 subst e
 cases r1
 obtain ⟨EB,rv,p,hz⟩:=I1.tuple hq
 refine C_ (show s1.heap.IsTuple a EB.toArray from p) ?_
 refine ⟨s1.heap.objs.size,[s1.heap.objs.size],_,_,H1,rfl,I1.kept (t':=s1.toks) fun b o e=>zM _ e,kh a _,⟨_,z_ _ rfl,rfl,rfl⟩,fun b hb=>?_,q⟩
 have e:b=s1.heap.objs.size:=by simpa using hb
 subst e
 exact I1.fpOk (zU _) (I1.hok.fresh (zU _))
theorem ju {EA:List (Addr × Obj)}{σ:St}{H:Hp}{s:Shared}{R:It→Hp→Prop}{E:Value→Shared→Prop}{lo hi:Int}{t u v:Tok}{tk:Nat}(I:Inv X EA σ H s)(h1:-(2 ^ 62)≤lo)(h2:lo < 2 ^ 62)(h3:-(2 ^ 62)≤hi)(h4:hi < 2 ^ 62)
  (q:R (Itr lo (hi - lo).toNat) H):wpAny (model X.prog X.w) X.A (pyIter (.ref s.heap.objs.size)) (PIE X EA σ tg R) E { s with heap:=s.heap.push { cls:=.type "range",data:=.fields #[.int lo t,.int hi u,.int 1 v] },toks:=tk }:=by
 refine wpAny_pyIter_range (IsRange.new ..) (small_one h1 h2 h3 h4) ?_
 have I1:Inv X EA σ H { s with heap:=s.heap.push { cls:=.type "range",data:=.fields #[.int lo t,.int hi u,.int 1 v] },toks:=tk }:=I.kept fun b o e=>zM _ e
 refine ⟨(s.heap.push { cls:=.type "range",data:=.fields #[.int lo t,.int hi u,.int 1 v] }).objs.size,[(s.heap.push { cls:=.type "range",data:=.fields #[.int lo t,.int hi u,.int 1 v] }).objs.size],_,_,H,rfl,
  I1.kept (t':=tk) fun b o e=>zM _ e,ki _ lo (hi - lo).toNat,?_,fun b hb=>?_,q⟩
 ·have e1:lo+((0:Nat):Int)*1=lo:=by simp
  have e2:(((hi - lo).toNat:Nat):Int) - ((0:Nat):Int)=Builtin.Range.rangeSize lo hi 1:=by rw [rangeSize_one];split <;> omega
  show IsRangeIter _ _ (lo+((0:Nat):Int)*1) ((((hi - lo).toNat:Nat):Int) - ((0:Nat):Int)) 1
  rw [e1,e2]
  exact z_ _ rfl
 ·have e:b=(s.heap.push { cls:=.type "range",data:=.fields #[.int lo t,.int hi u,.int 1 v] }).objs.size:=by simpa using hb
  subst e
  exact I1.fpOk (zU _) (I1.hok.fresh (zU _))
def xg (ta:TA):TI:=fun σ H R=>ta σ H fun vs H1=>∃ j:Int,vs=[.int j]∧-(2 ^ 62)≤j∧j < 2 ^ 62∧R (Itr 0 j.toNat) H1
def xh (ta:TA):TI:=fun σ H R=>ta σ H fun vs H1=>∃ i j:Int,vs=[.int i,.int j]∧(-(2 ^ 62)≤i∧i < 2 ^ 62∧-(2 ^ 62)≤j∧j < 2 ^ 62)∧R (Itr i (j - i).toNat) H1
theorem bu {a:Expr}{ta:TA}{p pos:Pos}(hg:Gl X "range")(hm:X.mg "range" = none)(ha:PA X [a] ta)(hs:starEach [a] X.env=[(false,eval a X.env)]:=by rfl):PI X tg (.Call (.Name "range" p) [a] [] pos) (xg ta):=by
 intro EA s σ H R I h
 refine Call_ (g7 I hg hm boot_range (Bw (thn (ha pos EA s σ H _ I h) fun us s1 zq36=>?_) hs rfl))
 obtain ⟨vs,H1,I1,r1,q1⟩:=zq36
 obtain ⟨j,e,q1,q2,q⟩:=q1
 subst e
 cases r1 with
 | cons r rr =>
  cases rr
  obtain ⟨t,rfl⟩:=r
  exact call_range_1 (ju I1 (by omega) (by omega) q1 q2 (by simpa using q))
theorem eK {a b:Expr}{ta:TA}{p pos:Pos}(hg:Gl X "range")(hm:X.mg "range" = none)(ha:PA X [a,b] ta)(hs:starEach [a,b] X.env=[(false,eval a X.env),(false,eval b X.env)]:=by rfl)(hs2:starEach [b] X.env=[(false,eval b X.env)]:=by rfl) :
  PI X tg (.Call (.Name "range" p) [a,b] [] pos) (xh ta):=by
 intro EA s σ H R I h
 refine Call_ (g7 I hg hm boot_range (Bw (thn (ha pos EA s σ H _ I h) fun us s1 zq37=>?_) (by rw [hs,hs2]) (by rw [hs2];rfl)))
 obtain ⟨vs,H1,I1,r1,q1⟩:=zq37
 obtain ⟨i,j,e,⟨q1,q2,q3,q4⟩,q⟩:=q1
 subst e
 cases r1 with
 | cons r rr =>
  cases rr with
  | cons r' rr =>
   cases rr
   obtain ⟨t,rfl⟩:=r
   obtain ⟨t',rfl⟩:=r'
   exact call_range_2 (ju I1 q1 q2 q3 q4 q)
def y7 (wi:TI)(g:TG)(tb:TS):TS:=fun D σ H=>wi σ H fun J H1=>∃ W:Nat→Nat→St→Hp→Prop,(∃ m,W 0 m σ H1)∧∀ i m σ H,W i m σ H →
 (J.stop i H∧D.nx σ H) ∨ (J.go i H∧∃ N:St→Hp→Prop,(∀ σ' H',N σ' H'→∃ m',m' < m∧W (i+1) m' σ' H')∧∀ x H',J.yld i H x H'→g x σ H' fun σ2 H2=>tb { D with nx:=N,ct:=N,bk:=D.nx } σ2 H2)
def g8 (fp:List Addr)(h:Heap):List (Addr × Obj):=fp.filterMap fun b=>(h.get? b).map fun o=>(b,o)
theorem cW {fp:List Addr}{h:Heap}{b:Addr}{o:Obj}(hb:b∈fp)(e:h.get? b=some o):(b,o)∈g8 fp h:=Da.mpr ⟨b,hb,by rw [e]; rfl⟩
theorem k7 {fp:List Addr}{h:Heap}{p:Addr × Obj}(hp:p∈g8 fp h):p.1∈fp∧h.get? p.1=some p.2:=by
 obtain ⟨b,hb,e⟩:=Da.mp hp
 cases q:h.get? b with
 | none=>rw [q] at e;cases e
 | some o =>
  rw [q] at e
  have e':(b,o)=p:=zP e
  subst e'
  exact ⟨hb,q⟩
theorem Inv.pinned {EA:List (Addr × Obj)}{σ:St}{H:Hp}{s:Shared}{fp:List Addr}(I:Inv X EA σ H s)(hf:∀ b∈fp,k0 X EA H b)(ho:∀ b∈fp,∃ o,s.heap.get? b=some o∧∀ v,o.data ≠ .cell v):Inv X (EA++g8 fp s.heap) σ H s :=
 I.pins_of fun p hp=>(z3.mp hp).elim (fun z=>I.pin p (z6 _ z)) fun z=>by
  obtain ⟨hb,e⟩:=k7 z
  obtain ⟨f0,f1,f2,_⟩:=hf p.1 hb
  obtain ⟨o,e',d⟩:=ho p.1 hb
  rw [e] at e';cases e'
  exact ⟨e,f0,f1,f2,d⟩
theorem Inv.unpinned {EA pl:List (Addr × Obj)}{σ:St}{H:Hp}{s:Shared}(I:Inv X (EA++pl) σ H s):Inv X EA σ H s:=I.pins_of fun p hp=>I.pin p (z6 _ (Aj _ hp))
theorem bU {iter:Expr}{body:List Stmt}{wi:TI}{g:TG}{tb:TS}{pos:Pos}(hp:PassesOwn (model X.prog X.w) X.A X.env X.xe)(hc:X.calm=true)(hi:PI X tg iter wi)(hg:PG X tg g)(hb:PSs X body tb)
  (hs:∀ x,foldedSetIterable iter X.env x=pure x:=by intro _;rfl):PS X (.For tg iter body [] pos) (y7 wi g tb):=by
 intro EA s σ H D I h
 refine wpAny_For (thn (hi EA s σ H _ I h) fun v s1 h1=>thn h1 fun itv s2 h2=>?_) hs
 obtain ⟨it,fp,tn,J,H2,e,I2,T,E1,f2,W,⟨m0,w0⟩,turn⟩:=h2
 subst e
 -- what stays true of the iterator's objects through the loop
 have stat:∀ {H':Hp},(∀ b∈fp,H' b=none)→∀ b∈fp,k0 X EA H' b:=fun hn b hb=>⟨hn b hb,(f2 b hb).2⟩
 refine codeAny_forLoop_any (fun n s'=>∃ i σ' H',Inv X EA σ' H' s'∧tn i s'.heap∧(∀ b∈fp,H' b=none)∧W i n σ' H') ?_ m0 ⟨0,σ,H2,I2,E1,fun b hb=>(f2 b hb).1,w0⟩
 rintro n s3 ⟨i,σ3,H3,I3,st3,fr3,w3⟩
 rcases turn i n σ3 H3 w3 with ⟨stop,qn⟩ | ⟨go,N,hN,step⟩
 ·refine BH hp (thn (T.done X rfl rfl rfl hc i EA s3 σ3 H3 X.xe I3 (stat fr3) st3 stop) fun r s4 zq38=>?_)
  obtain ⟨hr,I4⟩:=zq38
  subst hr
  exact CZ ⟨σ3,H3,I4,qn⟩
 ·refine BH hp (thn (T.item X rfl rfl rfl hc i EA s3 σ3 H3 X.xe I3 (stat fr3) st3 go) fun r s4 zq39=>?_)
  obtain ⟨u,hr,h4⟩:=zq39
  subst hr
  refine BH hp (thn h4 fun _ s5 zq40=>?_)
  obtain ⟨x,H5,I5,r5,y5,st5,fr5⟩:=zq40
  have I5':=I5.pinned (stat fr5) (T.obj _ _ st5)
  refine BH hp (thn (hg _ s5 σ3 H5 x u _ I5' r5 (step x H5 y5)) fun _ s6 zq41=>?_)
  obtain ⟨σ6,H6,I6,q6⟩:=zq41
  refine BH hp (thn (hb _ s6 σ6 H6 _ I6 q6) fun f s7 q7=>?_)
  have again:∀ {σ7:St} {H7:Hp},Inv X (EA++g8 fp s5.heap) σ7 H7 s7→N σ7 H7→∃ m,m < n∧∃ i σ' H',Inv X EA σ' H' s7∧tn i s7.heap∧(∀ b∈fp,H' b=none)∧W i m σ' H':=fun {σ7 H7} I7 n7=>by
   obtain ⟨m',hm,w7⟩:=hN σ7 H7 n7
   refine ⟨m',hm,i+1,σ7,H7,I7.unpinned,T.keep _ _ _ st5 fun b hb o e=>(I7.pin (b,o) (z6 _ (z6 _ (cW hb e)))).1,fun b hb=>?_,w7⟩
   obtain ⟨o,e,d⟩:=T.obj _ _ st5 b hb
   exact (I7.pin (b,o) (z6 _ (z6 _ (cW hb e)))).2.1
  cases f with
  | next=>obtain ⟨σ7,H7,I7,n7⟩:=q7;exact again I7 n7
  | cont=>obtain ⟨σ7,H7,I7,n7⟩:=q7;exact again I7 n7
  | brk=>obtain ⟨σ7,H7,I7,q7⟩:=q7;exact ⟨σ7,H7,I7.unpinned,q7⟩
  | ret v=>obtain ⟨x7,σ7,H7,I7,r7,q7⟩:=q7;exact ⟨x7,σ7,H7,I7.unpinned,r7,q7⟩
end
theorem oR {K:PySem.W.Frag}{a:Addr}{xs:List V}{g:TG}{tb:TS}{D:iM}{σ:St}{H:Hp}(Pv:Nat→St→Hp→Prop)(h0:Pv 0 σ H)(hl:∀ i σ H,i≤xs.length→Pv i σ H→SqL K H a xs)
  (hs:∀ i x σ H,xs[i]? = some x→Pv i σ H→g x σ H fun σ2 H2=>tb { D with nx:=Pv (i+1),ct:=Pv (i+1),bk:=D.nx } σ2 H2) (hd:∀ σ H,Pv xs.length σ H→D.nx σ H) :
  ∃ W:Nat→Nat→St→Hp→Prop,(∃ m,W 0 m σ H)∧∀ i m σ H,W i m σ H →
   ((Itl K a).stop i H∧D.nx σ H) ∨ ((Itl K a).go i H∧∃ N:St→Hp→Prop,(∀ σ' H',N σ' H'→∃ m',m' < m∧W (i+1) m' σ' H')∧∀ x H',(Itl K a).yld i H x H'→g x σ H' fun σ2 H2=>tb { D with nx:=N,ct:=N,bk:=D.nx } σ2 H2):=by
 refine ⟨fun i m σ H=>m=xs.length - i∧i≤xs.length∧Pv i σ H,⟨xs.length,by simp,Ay _,h0⟩,?_⟩
 rintro i m σ H ⟨rfl,hi,p⟩
 have q:=hl i σ H hi p
 by_cases EH:i < xs.length
 ·refine .inr ⟨⟨xs,xs[i],q,by simp [EH]⟩,Pv (i+1),fun σ' H' p'=>⟨xs.length - (i+1),by omega,rfl,EH,p'⟩,fun x H' y=>?_⟩
  obtain ⟨e,y⟩:=y
  subst e
  exact hs i x σ _ (y xs q) p
 ·have e:i=xs.length:=by omega
  subst e
  exact .inl ⟨⟨xs,q,zU _⟩,hd σ H p⟩
theorem rh {K:PySem.W.Frag}{a:Addr}{xs:List V}{g:TG}{tb:TS}{D:iM}{σ:St}{H:Hp}(Pv:Nat→St→Hp→Prop)(h0:Pv 0 σ H)(hl:∀ i σ H,i≤xs.length→Pv i σ H→SqT K H a xs)
  (hs:∀ i x σ H,xs[i]? = some x→Pv i σ H→g x σ H fun σ2 H2=>tb { D with nx:=Pv (i+1),ct:=Pv (i+1),bk:=D.nx } σ2 H2) (hd:∀ σ H,Pv xs.length σ H→D.nx σ H) :
  ∃ W:Nat→Nat→St→Hp→Prop,(∃ m,W 0 m σ H)∧∀ i m σ H,W i m σ H →
   ((Itt K a).stop i H∧D.nx σ H) ∨ ((Itt K a).go i H∧∃ N:St→Hp→Prop,(∀ σ' H',N σ' H'→∃ m',m' < m∧W (i+1) m' σ' H')∧∀ x H',(Itt K a).yld i H x H'→g x σ H' fun σ2 H2=>tb { D with nx:=N,ct:=N,bk:=D.nx } σ2 H2):=by
 refine ⟨fun i m σ H=>m=xs.length - i∧i≤xs.length∧Pv i σ H,⟨xs.length,by simp,Ay _,h0⟩,?_⟩
 rintro i m σ H ⟨rfl,hi,p⟩
 have q:=hl i σ H hi p
 by_cases EH:i < xs.length
 ·refine .inr ⟨⟨xs,xs[i],q,by simp [EH]⟩,Pv (i+1),fun σ' H' p'=>⟨xs.length - (i+1),by omega,rfl,EH,p'⟩,fun x H' y=>?_⟩
  obtain ⟨e,y⟩:=y
  subst e
  exact hs i x σ _ (y xs q) p
 ·have e:i=xs.length:=by omega
  subst e
  exact .inl ⟨⟨xs,q,zU _⟩,hd σ H p⟩
theorem bb {lo:Int}{n:Nat}{g:TG}{tb:TS}{D:iM}{σ:St}{H:Hp}(Pv:Nat→St→Hp→Prop)(h0:Pv 0 σ H)
  (hs:∀ i σ H,i < n→Pv i σ H→g (.int (lo+i)) σ H fun σ2 H2=>tb { D with nx:=Pv (i+1),ct:=Pv (i+1),bk:=D.nx } σ2 H2) (hd:∀ σ H,Pv n σ H→D.nx σ H) :
  ∃ W:Nat→Nat→St→Hp→Prop,(∃ m,W 0 m σ H)∧∀ i m σ H,W i m σ H →
   ((Itr lo n).stop i H∧D.nx σ H) ∨ ((Itr lo n).go i H∧∃ N:St→Hp→Prop,(∀ σ' H',N σ' H'→∃ m',m' < m∧W (i+1) m' σ' H')∧∀ x H',(Itr lo n).yld i H x H'→g x σ H' fun σ2 H2=>tb { D with nx:=N,ct:=N,bk:=D.nx } σ2 H2):=by
 refine ⟨fun i m σ H=>m=n - i∧i≤n∧Pv i σ H,⟨n,by simp,Ay _,h0⟩,?_⟩
 rintro i m σ H ⟨rfl,hi,p⟩
 by_cases EH:i < n
 ·refine .inr ⟨EH,Pv (i+1),fun σ' H' p'=>⟨n - (i+1),by omega,rfl,EH,p'⟩,fun x H' y=>?_⟩
  obtain ⟨e,y⟩:=y
  subst e y
  exact hs i σ _ EH p
 ·have e:i=n:=by omega
  subst e
  exact .inl ⟨zU _,hd σ H p⟩
abbrev R2:=V→V→Hp→VK→Prop
def OpR (X:Cx)(f:Value→Value→Sem Value)(r:R2):Prop :=
 ∀ (EA:List (Addr × Obj)) (s:Shared) (σ:St) (H:Hp) (x y:V) (v u:Value) (Q:VK),Inv X EA σ H s→bC x v→bC y u→r x y H Q →
  wpAny (model X.prog X.w) X.A (f v u) (EP X EA σ Q) X.xe s
def UnR (X:Cx)(f:Value→Sem Value)(r:V→Hp→VK→Prop):Prop :=
 ∀ (EA:List (Addr × Obj)) (s:Shared) (σ:St) (H:Hp) (x:V) (v:Value) (Q:VK),Inv X EA σ H s→bC x v→r x H Q →
  wpAny (model X.prog X.w) X.A (f v) (EP X EA σ Q) X.xe s
def di (X:Cx)(f:Value)(r:List V→Hp→VK→Prop):Prop :=
 ∀ (EA:List (Addr × Obj)) (s:Shared) (σ:St) (H:Hp) (xs:List V) (us:List Value) (Q:VK),Inv X EA σ H s→bh xs us→r xs H Q →
  wpAny (model X.prog X.w) X.A (call f us) (EP X EA σ Q) X.xe s
def y8 (X:Cx)(r:V→Hp→(Bool→Hp→Prop)→Prop):Prop :=
 ∀ (EA:List (Addr × Obj)) (s:Shared) (σ:St) (H:Hp) (x:V) (v:Value) (Q:Bool→Hp→Prop),Inv X EA σ H s→bC x v→r x H Q →
  wpAny (model X.prog X.w) X.A (truthy v) (TP X EA σ Q) X.xe s
def uK (r:R2)(Q:VK)(x:V):V→Hp→Prop:=fun y H2=>r x y H2 Q
def uL (r:R2)(tb:TE)(σ:St)(Q:VK):V→Hp→Prop:=fun x H1=>tb σ H1 (uK r Q x)
def tOp (r:R2)(ta tb:TE):TE:=fun σ H Q=>ta σ H (uL r tb σ Q)
def uM (r:V→Hp→VK→Prop)(Q:VK):V→Hp→Prop:=fun x H1=>r x H1 Q
def tUn (r:V→Hp→VK→Prop)(ta:TE):TE:=fun σ H Q=>ta σ H (uM r Q)
inductive rI (C:Int→Int→Prop)(g:Int→Int→V)(x:V)(y:V)(H:Hp)(Q:VK):Prop
 | mk:∀ i j,(x = .int i)→(y = .int j)→(C i j)→(Q (g i j) H)→rI C g x y H Q
inductive rI0 (g:Int→Int→V)(x:V)(y:V)(H:Hp)(Q:VK):Prop
 | mk:∀ i j,(x = .int i)→(y = .int j)→(Q (g i j) H)→rI0 g x y H Q
inductive rU (g:Int→V)(x:V)(H:Hp)(Q:VK):Prop
 | mk:∀ i,(x = .int i)→(Q (g i) H)→rU g x H Q
section
variable {X:Cx} {a b c:Expr} {ta tb tc:TE} {pos:Pos}
theorem xi (ha:PE X a ta)(hb:PE X b tb){EA:List (Addr × Obj)}{s:Shared}{σ:St}{H:Hp}{R:V→V→Hp→Prop}(I:Inv X EA σ H s)
  (h:ta σ H fun x H1=>tb σ H1 fun y H2=>R x y H2) {Q:Value→Shared→Prop} {f:Value→Value→Sem Value}
  (hf:∀ v u s2 x y H2,Inv X EA σ H2 s2→bC x v→bC y u→R x y H2→wpAny (model X.prog X.w) X.A (f v u) Q X.xe s2) :
  wpAny (model X.prog X.w) X.A (eval a X.env) (fun v s₁=>wpAny (model X.prog X.w) X.A (eval b X.env) (fun u s₂=>wpAny (model X.prog X.w) X.A (f v u) Q X.xe s₂) X.xe s₁) X.xe s:=by
 refine thn (ha EA s σ H _ I h) fun v s1 zq42=>?_
 obtain ⟨x,H1,I1,r1,q1⟩:=zq42
 refine thn (hb EA s1 σ H1 _ I1 q1) fun u s2 zq43=>?_
 obtain ⟨y,H2,I2,r2,q2⟩:=zq43
 exact hf v u s2 x y H2 I2 r1 r2 q2
theorem aK {op:Operator}{r:R2}(ho:OpR X (binaryOp op) r)(ha:PE X a ta)(hb:PE X b tb):PE X (.BinOp a op b pos) (tOp r ta tb):=by
 intro EA s σ H Q I h
 exact wpAny_BinOp (xi ha hb I h fun v u s2 x y H2 I2 rx ry q=>ho EA s2 σ H2 x y v u Q I2 rx ry q)
theorem ft {op:UnaryOp}{r:V→Hp→VK→Prop}(ho:UnR X (unaryOp op) r)(ha:PE X a ta):PE X (.UnaryOp op a pos) (tUn r ta):=by
 intro EA s σ H Q I h
 exact UnaryOp_ (thn (ha EA s σ H _ I h) fun v s1 zq44=>(by obtain ⟨x,H1,I1,r1,q1⟩:=zq44;exact ho EA s1 σ H1 x v Q I1 r1 q1))
theorem opI {f:Value→Value→Sem Value}{C:Int→Int→Prop}{g:Int→Int→Int}
  (rule:∀ (i j:Int) (t u:Tok) (s:Shared) (Q:Value→Shared→Prop) (E:Value→Shared→Prop),C i j→Q (.int (g i j) s.toks) { s with toks:=s.toks+1 }→wpAny (model X.prog X.w) X.A (f (.int i t) (.int j u)) Q E s) :
  OpR X f (rI C fun i j=>.int (g i j)):=by
 intro EA s σ H x y v u Q I rx ry h
 obtain ⟨i,j,rfl,rfl,hc,q⟩:=h
 obtain ⟨t,rfl⟩:=rx
 obtain ⟨t',rfl⟩:=ry
 exact rule i j t t' s _ _ hc ⟨.int (g i j),H,I.tok _,⟨_,rfl⟩,q⟩
theorem yG {f:Value→Value→Sem Value}{g:Int→Int→Int}
  (rule:∀ (i j:Int) (t u:Tok) (s:Shared) (Q:Value→Shared→Prop) (E:Value→Shared→Prop),Q (.int (g i j) s.toks) { s with toks:=s.toks+1 }→wpAny (model X.prog X.w) X.A (f (.int i t) (.int j u)) Q E s) :
  OpR X f (rI0 fun i j=>.int (g i j)):=by
 intro EA s σ H x y v u Q I rx ry h
 obtain ⟨i,j,rfl,rfl,q⟩:=h
 obtain ⟨t,rfl⟩:=rx
 obtain ⟨t',rfl⟩:=ry
 exact rule i j t t' s _ _ ⟨.int (g i j),H,I.tok _,⟨_,rfl⟩,q⟩
theorem wR {f:Value→Value→Sem Value}{g:Int→Int→Bool}
  (rule:∀ (i j:Int) (t u:Tok) (s:Shared) (Q:Value→Shared→Prop) (E:Value→Shared→Prop),Q (.bool (g i j)) s→wpAny (model X.prog X.w) X.A (f (.int i t) (.int j u)) Q E s) :
  OpR X f (rI0 fun i j=>.bl (g i j)):=by
 intro EA s σ H x y v u Q I rx ry h
 obtain ⟨i,j,rfl,rfl,q⟩:=h
 obtain ⟨t,rfl⟩:=rx
 obtain ⟨t',rfl⟩:=ry
 exact rule i j t t' s _ _ ⟨.bl (g i j),H,I,rfl,q⟩
def y9 (i j:Int):Prop:=0 < j∧j < 1073741824
def y_ (i j:Int):Prop:=0≤j∧j≤1000000∧i.natAbs < 2 ^ 64
def wU (i j:Int):Prop:=(-(2 ^ 64) < i∧i < 2 ^ 64) ∨ (-(2 ^ 64) < j∧j < 2 ^ 64)
theorem wU.ok {i j:Int}(h:wU i j):IntMulOk i j:=by
 rcases h with ⟨h1,h2⟩ | ⟨h1,h2⟩
 ·exact .of_left (intBits_le_64 h1 h2)
 ·exact .of_right (intBits_le_64 h1 h2)
theorem b_:OpR X (binaryOp .Add) (rI0 fun i j=>.int (i+j)):=yG fun _ _ _ _ _ _ _ q=>add_int q
theorem fy:OpR X (binaryOp .Sub) (rI0 fun i j=>.int (i - j)):=yG fun _ _ _ _ _ _ _ q=>sub_int q
theorem dt:OpR X (binaryOp .Mult) (rI wU fun i j=>.int (i*j)):=opI fun _ _ _ _ _ _ _ hc q=>mul_int q hc.ok
theorem dj:OpR X (binaryOp .FloorDiv) (rI y9 fun i j=>.int (i / j)):=opI fun i j _ _ _ _ _ hc q=>by
 have h1:(0:Int) < j:=hc.1
 have h2:j < 1073741824:=hc.2
 exact floordiv_int (by omega) (by rw [Int.fdiv_eq_ediv_of_nonneg i (by omega)];exact q) (.inl (PyProof.noPylong_small (by omega)))
theorem cK:OpR X (binaryOp .Mod) (rI (fun _ j=>0 < j) fun i j=>.int (i % j)):=opI fun i j _ _ _ _ _ hc q=>by
 have h1:(0:Int) < j:=hc
 exact mod_int' (by omega) (by rw [Int.fmod_eq_emod_of_nonneg i (by omega)];exact q)
theorem uN:OpR X (binaryOp .Pow) (rI y_ fun i j=>.int (i ^ j.toNat)):=opI fun _ _ _ _ _ _ _ hc q=>pow_int_small hc.1 hc.2.1 hc.2.2 q
theorem unI {f:Value→Sem Value}{g:Int→Int}
  (rule:∀ (i:Int) (t:Tok) (s:Shared) (Q:Value→Shared→Prop) (E:Value→Shared→Prop),Q (.int (g i) s.toks) { s with toks:=s.toks+1 }→wpAny (model X.prog X.w) X.A (f (.int i t)) Q E s) :
  UnR X f (rU fun i=>.int (g i)):=by
 intro EA s σ H x v Q I rx h
 obtain ⟨i,rfl,q⟩:=h
 obtain ⟨t,rfl⟩:=rx
 exact rule i t s _ _ ⟨.int (g i),H,I.tok _,⟨_,rfl⟩,q⟩
theorem c7:UnR X (unaryOp .USub) (rU fun i=>.int (-i)):=unI fun _ _ _ _ _ q=>neg_int q
end
def yH:V→V→Bool
 | .non,.non=>true | .non,.int _=>true | .int _,.non=>true | .non,.bl _=>true | .bl _,.non=>true | .non,.str _=>true | .str _,.non=>true
 | .int _,.int _=>true | .bl _,.bl _=>true | .str _,.str _=>true | .byt _,.byt _=>true
 | .int _,.str _=>true | .str _,.int _=>true | .bl _,.str _=>true | .str _,.bl _=>true
 | _,_=>false
def rEq:R2:=fun x y H Q=>yH x y=true∧Q (.bl (decide (x=y))) H
def rNe:R2:=fun x y H Q=>yH x y=true∧Q (.bl (!decide (x=y))) H
theorem k8 {i j:Int}:decide (V.int i=V.int j)=(i == j):=by
 rw [Ap]
 simp
theorem qv {i j:Bool}:decide (V.bl i=V.bl j)=(i == j):=by
 rw [Ap]
 simp
theorem k9 {i j:Str}:decide (V.str i=V.str j)=(i == j):=by
 rw [Ap]
 simp
theorem k_ {i j:Array UInt8}:decide (V.byt i=V.byt j)=(i.toList == j.toList):=by
 rw [Ap]
 cases i
 cases j
 simp
section
variable {X:Cx} {a b c:Expr} {ta tb tc:TE} {pos:Pos}
theorem aR {EA:List (Addr × Obj)}{σ:St}{H:Hp}{s:Shared}{Q:VK}{k k':Bool}(I:Inv X EA σ H s)(q:Q (.bl k) H)(e:k=k'):EP X EA σ Q (.bool k') s:=by
 subst e
 exact ⟨.bl k,H,I,rfl,q⟩
theorem du:OpR X (compareOp .Eq) rEq:=by
 intro EA s σ H x y v u Q I rx ry h
 obtain ⟨hs,q⟩:=h
 cases x with
 | non =>
  cases rx
  cases y with
  | non=>cases ry;exact PySem.EqNone.eq_none_none (aR I q (by simp))
  | bl j=>cases ry;exact PySem.EqNone.eq_none_bool (aR I q (by simp))
  | int j=>obtain ⟨t',rfl⟩:=ry;exact PySem.EqNone.eq_none_int (aR I q (by simp))
  | str j=>obtain ⟨t',rfl⟩:=ry;exact PySem.EqNone.eq_none_str (aR I q (by simp))
  | _=>exact absurd (show false=true from hs) An
 | bl i =>
  cases rx
  cases y with
  | non=>cases ry;exact PySem.EqNone.eq_bool_none (aR I q (by simp))
  | bl j=>cases ry;exact eq_bool (aR I q qv)
  | str j=>obtain ⟨t',rfl⟩:=ry;exact PySem.EqMixed.eq_bool_str (aR I q (by simp))
  | _=>exact absurd (show false=true from hs) An
 | int i =>
  obtain ⟨t,rfl⟩:=rx
  cases y with
  | non=>cases ry;exact PySem.EqNone.eq_int_none (aR I q (by simp))
  | int j=>obtain ⟨t',rfl⟩:=ry;exact eq_int (aR I q k8)
  | str j=>obtain ⟨t',rfl⟩:=ry;exact PySem.EqMixed.eq_int_str (aR I q (by simp))
  | _=>exact absurd (show false=true from hs) An
 | str i =>
  obtain ⟨t,rfl⟩:=rx
  cases y with
  | non=>cases ry;exact PySem.EqNone.eq_str_none (aR I q (by simp))
  | bl j=>cases ry;exact PySem.EqMixed.eq_str_bool (aR I q (by simp))
  | int j=>obtain ⟨t',rfl⟩:=ry;exact PySem.EqMixed.eq_str_int (aR I q (by simp))
  | str j=>obtain ⟨t',rfl⟩:=ry;exact eq_str (aR I q k9)
  | _=>exact absurd (show false=true from hs) An
 | byt i =>
  obtain ⟨t,rfl⟩:=rx
  cases y with
  | byt j=>obtain ⟨t',rfl⟩:=ry;exact PySem.W.eq_bytes (aR I q k_)
  | _=>exact absurd (show false=true from hs) An
 | _=>cases y <;> exact absurd (show false=true from hs) An
theorem rj:OpR X (compareOp .NotEq) rNe:=by
 intro EA s σ H x y v u Q I rx ry h
 obtain ⟨hs,q⟩:=h
 cases x with
 | non =>
  cases rx
  cases y with
  | non=>cases ry;exact PySem.EqNone.ne_none_none (aR I q (by simp))
  | bl j=>cases ry;exact PySem.EqNone.ne_none_bool (aR I q (by simp))
  | int j=>obtain ⟨t',rfl⟩:=ry;exact PySem.EqNone.ne_none_int (aR I q (by simp))
  | str j=>obtain ⟨t',rfl⟩:=ry;exact PySem.EqNone.ne_none_str (aR I q (by simp))
  | _=>exact absurd (show false=true from hs) An
 | bl i =>
  cases rx
  cases y with
  | non=>cases ry;exact PySem.EqNone.ne_bool_none (aR I q (by simp))
  | bl j=>cases ry;exact ne_bool (aR I q (Af not qv))
  | str j=>obtain ⟨t',rfl⟩:=ry;exact PySem.EqMixed.ne_bool_str (aR I q (by simp))
  | _=>exact absurd (show false=true from hs) An
 | int i =>
  obtain ⟨t,rfl⟩:=rx
  cases y with
  | non=>cases ry;exact PySem.EqNone.ne_int_none (aR I q (by simp))
  | int j=>obtain ⟨t',rfl⟩:=ry;exact ne_int (aR I q (Af not k8))
  | str j=>obtain ⟨t',rfl⟩:=ry;exact PySem.EqMixed.ne_int_str (aR I q (by simp))
  | _=>exact absurd (show false=true from hs) An
 | str i =>
  obtain ⟨t,rfl⟩:=rx
  cases y with
  | non=>cases ry;exact PySem.EqNone.ne_str_none (aR I q (by simp))
  | bl j=>cases ry;exact PySem.EqMixed.ne_str_bool (aR I q (by simp))
  | int j=>obtain ⟨t',rfl⟩:=ry;exact PySem.EqMixed.ne_str_int (aR I q (by simp))
  | str j=>obtain ⟨t',rfl⟩:=ry;exact ne_str (aR I q (Af not k9))
  | _=>exact absurd (show false=true from hs) An
 | byt i =>
  obtain ⟨t,rfl⟩:=rx
  cases y with
  | byt j=>obtain ⟨t',rfl⟩:=ry;exact PySem.W.ne_bytes (aR I q (Af not k_))
  | _=>exact absurd (show false=true from hs) An
 | _=>cases y <;> exact absurd (show false=true from hs) An
theorem d_:OpR X (compareOp .Lt) (rI0 fun i j=>.bl (decide (i < j))):=wR fun _ _ _ _ _ _ _ q=>lt_int q
theorem xj:OpR X (compareOp .LtE) (rI0 fun i j=>.bl (decide (i≤j))):=wR fun _ _ _ _ _ _ _ q=>le_int q
theorem rk:OpR X (compareOp .Gt) (rI0 fun i j=>.bl (decide (j < i))):=wR fun _ _ _ _ _ _ _ q=>gt_int q
theorem xk:OpR X (compareOp .GtE) (rI0 fun i j=>.bl (decide (j≤i))):=wR fun _ _ _ _ _ _ _ q=>ge_int q
inductive eL  (x:V)(y:V)(H:Hp)(Q:VK):Prop
 | mk:∀ i j,(x = .str i)→(y = .str j)→(Q (.bl (!(Builtin.Str.occurrences j i 0 j.length 1).isEmpty)) H)→eL x y H Q
theorem lh:OpR X (compareOp .In) eL:=by
 intro EA s σ H x y v u Q I rx ry h
 obtain ⟨i,j,rfl,rfl,q⟩:=h
 obtain ⟨t,rfl⟩:=rx
 obtain ⟨t',rfl⟩:=ry
 exact in_str (aR I q rfl)
theorem aU (b:Expr){op:CmpOp}(h:op ≠ .In:=by decide)(h2:op ≠ .NotIn:=by decide):behindInMarks op b=false:=by
 have e1:(op == CmpOp.In)=false:=by cases op <;> first | rfl | exact absurd rfl h
 have e2:(op == CmpOp.NotIn)=false:=by cases op <;> first | rfl | exact absurd rfl h2
 cases b <;> simp [behindInMarks,e1,e2]
theorem dk {op:CmpOp}{r:R2}(ho:OpR X (compareOp op) r)(ha:PE X a ta)(hb:PE X b tb)(hm:behindInMarks op b=false):PE X (.Compare a [op] [b] pos) (tOp r ta tb):=by
 intro EA s σ H Q I h
 exact wpAny_Compare1 (xi ha hb I h fun v u s2 x y H2 I2 rx ry q=>ho EA s2 σ H2 x y v u Q I2 rx ry q) hm
def oS (Q:(Bool→Hp→Prop)):V→Hp→Prop:=fun x H'=>IsB x H' Q
def xm (t:TE):TT:=fun σ H Q=>t σ H (oS Q)
theorem aO {op:CmpOp}{r:R2}(ho:OpR X (compareOp op) r)(ha:PE X a ta)(hb:PE X b tb)(hm:behindInMarks op b=false):PT X (.Compare a [op] [b] pos) (xm (tOp r ta tb)):=by
 intro EA s σ H Q I h
 refine wpAny_isTrue_Compare1 (thn (ha EA s σ H _ I h) fun v s1 ⟨x,H1,I1,r1,q1⟩=>thn (hb EA s1 σ H1 _ I1 q1) fun u s2 ⟨y,H2,I2,r2,q2⟩ =>
  thn (ho EA s2 σ H2 x y v u _ I2 r1 r2 q2) fun c s3 ⟨z,H3,I3,r3,k,e,q3⟩=>?_) hm
 subst e
 cases r3
 exact Bd ⟨H3,I3,q3⟩
def uO (r r':R2)(ta tb tc:TE):TE:=fun σ H Q=>ta σ H fun x H1=>tb σ H1 fun y H2=>r x y H2 fun z H3=>∃ k,z = .bl k ∧
 (if k=true then tc σ H3 fun w' H4=>r' y w' H4 Q else Q (.bl false) H3)
theorem ei {op op':CmpOp}{r r':R2}(ho:OpR X (compareOp op) r)(ho':OpR X (compareOp op') r')(ha:PE X a ta)(hb:PE X b tb)(hc:PE X c tc)
  (hm:lastMarks [op,op'] [b,c]=false:=by with_unfolding_all rfl):PE X (.Compare a [op,op'] [b,c] pos) (uO r r' ta tb tc):=by
 intro EA s σ H Q I h
 refine Compare_chain (thn (ha EA s σ H _ I h) fun v s1 ⟨x,H1,I1,r1,q1⟩=>chain_link (thn (hb EA s1 σ H1 _ I1 q1) fun u s2 ⟨y,H2,I2,r2,q2⟩ =>
  thn (ho EA s2 σ H2 x y v u _ I2 r1 r2 q2) fun d s3 ⟨z,H3,I3,r3,k,e,q3⟩=>?_)) hm
 subst e
 cases r3
 refine Bd ?_
 cases k with
 | false=>exact ite_ff ⟨.bl false,H3,I3,rfl,q3⟩
 | true=>exact ite_tt (chain_last (thn (hc EA s3 σ H3 _ I3 q3) fun w' s4 zq45=>(by obtain ⟨z',H4,I4,r4,q4⟩:=zq45;exact ho' EA s4 σ H4 y z' u w' Q I4 r2 r4 q4)))
def zc (K:PySem.W.Frag)(x:V)(H:Hp)(k:Bool):Prop :=
 match x with
 | .non=>k=false
 | .bl b=>k=b
 | .int i=>k=(i != 0)
 | .str y=>y.length≤sizeLine∧k=((y.length:Int) != 0)
 | .byt y=>y.size≤sizeLine∧k=((y.size:Int) != 0)
 | .ref p=>(∃ xs,SqL K H p xs∧k=!xs.isEmpty) ∨ (∃ xs,SqT K H p xs∧k=!xs.isEmpty) ∨ ∃ EC,H p=some (.dK EC)∧k=!EC.isEmpty
 | _=>False
theorem kj {κ:Type}{EC:List (κ × V)}{vs:List (κ × Value)}(r:KV EC vs):(!vs.isEmpty)=!EC.isEmpty:=by
 cases r <;> rfl
theorem fz {xs:List V}{EB:List Value}(r:bh xs EB):(!EB.toArray.isEmpty)=!xs.isEmpty:=by
 cases r <;> simp
theorem dw:(sizeLine:Nat) < 2 ^ 63:=by rw [DZ]; decide
inductive rl (K:PySem.W.Frag)(x:V)(H:Hp)(Q:Bool→Hp→Prop):Prop
 | mk:∀ k,(zc K x H k)→(Q k H)→rl K x H Q
theorem qw:y8 X (rl X.K):=by
 intro EA s σ H x v Q I rx h
 obtain ⟨k,e,q⟩:=h
 have hl:=dw
 have hs:sizeLine=16777216:=DZ
 cases x with
 | non =>
  cases rx
  have e':k=false:=e
  subst e'
  exact truthy_none ⟨H,I,q⟩
 | bl b =>
  cases rx
  have e':k=b:=e
  subst e'
  exact Bd ⟨H,I,q⟩
 | int i =>
  obtain ⟨t,rfl⟩:=rx
  have e':k=(i != 0):=e
  subst e'
  exact PySem.P.truthy_int ⟨H,I,q⟩
 | str y =>
  obtain ⟨t,rfl⟩:=rx
  obtain ⟨hy,e'⟩:y.length≤sizeLine∧k=((y.length:Int) != 0):=e
  subst e'
  exact PySem.P.truthy_str (by omega) ⟨H,I.tok _,q⟩
 | byt y =>
  obtain ⟨t,rfl⟩:=rx
  obtain ⟨hy,e'⟩:y.size≤sizeLine∧k=((y.size:Int) != 0):=e
  subst e'
  exact PySem.W.truthy_bytes (by omega) ⟨H,I.tok _,q⟩
 | ref p =>
  cases rx
  have e':(∃ xs,SqL X.K H p xs∧k=!xs.isEmpty) ∨ (∃ xs,SqT X.K H p xs∧k=!xs.isEmpty) ∨ ∃ EC,H p=some (.dK EC)∧k=!EC.isEmpty:=e
  rcases e' with ⟨xs,hx,e'⟩ | ⟨xs,hx,e'⟩ | ⟨EC,hx,e'⟩
  ·subst e'
   obtain ⟨EB,r,pl,hz⟩:=I.list hx
   have hlen:=r.length
   exact wpAny_truthy_list pl.isList (by simp only [z8];omega) ⟨H,I.tok _,by rw [fz r];exact q⟩
  ·subst e'
   obtain ⟨EB,r,pl,hz⟩:=I.tuple hx
   have hlen:=r.length
   exact truthy_tuple pl (by simp only [z8];omega) ⟨H,I.tok _,by rw [fz r];exact q⟩
  ·subst e'
   obtain ⟨hz,hS,vs,r,m⟩:EC.length≤sizeLine∧(p == sysModules)=false∧∃ vs,KV EC vs∧s.heap.DictOf (bt X.prog X.w) p vs:=I.hok p _ hx
   have hlen:EC.length=vs.length:=Dp r
   exact wpAny_truthy_dict hS m (by omega) ⟨H,I.tok _,by rw [kj r];exact q⟩
 | _=>exact (show False from e).elim
def rm (K:PySem.W.Frag)(Q:(Bool→Hp→Prop)):V→Hp→Prop:=fun x H'=>rl K x H' Q
def zd (K:PySem.W.Frag)(ta:TE):TT:=fun σ H Q=>ta σ H (rm K Q)
theorem dy (ha:PE X a ta)(he:∀ whole,isTrue a X.env whole=(do let v ← whole; standAt a.pos; holding [v] (truthy v))) :
  PT X a (zd X.K ta):=by
 intro EA s σ H Q I h
 exact isTrue_plain (thn (ha EA s σ H _ I h) fun v s1 zq47=>(by obtain ⟨x,H1,I1,r1,q1⟩:=zq47;exact qw EA s1 σ H1 x v Q I1 r1 q1)) (he _)
inductive d4  (x:V)(y:V)(H:Hp)(Q:VK):Prop
 | mk:∀ i j,(x = .str i)→(y = .str j)→(i.length+j.length≤sizeLine)→(Q (.str (i++j)) H)→d4 x y H Q
theorem bB:OpR X (binaryOp .Add) d4:=by
 intro EA s σ H x y v u Q I rx ry h
 obtain ⟨i,j,rfl,rfl,hz,q⟩:=h
 obtain ⟨t,rfl⟩:=rx
 obtain ⟨t',rfl⟩:=ry
 exact add_str (fun t' tk=>⟨.str (i++j),H,I.tok _,⟨_,rfl⟩,q⟩) hz
theorem c6 {x:V}{us:List Value}(r:bh [x] us):∃ u,us=[u]∧bC x u:=by
 cases r with
 | cons r1 r2=>cases r2;exact ⟨_,rfl,r1⟩
theorem rn {x y:V}{us:List Value}(r:bh [x,y] us):∃ u w',us=[u,w']∧bC x u∧bC y w':=by
 cases r with
 | cons r1 r2 =>
  cases r2 with
  | cons r3 r4=>cases r4;exact ⟨_,_,rfl,r1,r3⟩
inductive fA  (xs:List V)(H:Hp)(Q:VK):Prop
 | mk:∀ i,(xs=[.int i])→(Q (.int (if i < 0 then -i else i)) H)→fA xs H Q
theorem oT:di X (.builtin "abs") fA:=by
 intro EA s σ H xs us Q I r h
 obtain ⟨i,rfl,q⟩:=h
 obtain ⟨u,rfl,t,rfl⟩:=c6 r
 exact call_abs_int fun u tk=>⟨.int (if i < 0 then -i else i),H,I.tok _,⟨_,rfl⟩,q⟩
end
section
variable {prog:Program} {w:World} {A:Around} {E:Value→Shared→Prop} {s:Shared} {K:PySem.W.Frag} {x dx C f:Addr} {mA:Str→Option Value} {name:Str} {v:Value}
end
section
variable {P:Program} {w:World} {H H':Hp} {h h':Heap} {a C dx:Addr} {fs fs':List (Str × V)}
end
section
variable {X:Cx} {EA:List (Addr × Obj)} {σ:St} {H:Hp} {s:Shared} {a C dx:Addr} {fs:List (Str × V)} {f:Str} {v:V} {A:Around} {E:Value→Shared→Prop}
end
section
variable {X:Cx} {o e value:Expr} {f:Str} {pos pos' tpos:Pos} {ta tv:TE}
end
section
variable {X:Cx} {EA:List (Addr × Obj)} {σ:St} {H:Hp} {s:Shared} {A:Around} {E:Value→Shared→Prop} {Q:Value→Shared→Prop} {c:Value} {b:Bool}
end
structure fD (k:Nat) (A:Around):Prop where
 hd:A.handled=none
 dp:A.depth+3*k+5 < recursionLimit
 un:A.units+16*k+200 < cLine
 gd:A.guards=some []
theorem fD.mono {j k:Nat}{A:Around}(r:fD k A)(h:j≤k):fD j A:=⟨r.hd,by have:=r.dp; omega,by have:=r.un; omega,r.gd⟩
theorem fD.deeper {k:Nat}{A:Around}(r:fD (k+1) A)(env:Env):fD k (A.deeper env) :=
 ⟨r.hd,by have:=r.dp;show A.depth+1+3*k+5 < _;omega,by have:=r.un;show A.units+3+16*k+200 < _;omega,r.gd⟩
theorem fD.depth {k:Nat}{A:Around}(r:fD k A):A.depth < recursionLimit:=by have:=r.dp; omega
theorem fD.units {k:Nat}{A:Around}(r:fD k A):A.units+64 < cLine:=by have:=r.un; omega
def ze:TA:=fun _ H Q=>Q [] H
def oU (Q:(List V→Hp→Prop))(x:V):List V→Hp→Prop:=fun xs H2=>Q (x::xs) H2
def oV (tr:TA)(σ:St)(Q:(List V→Hp→Prop)):V→Hp→Prop:=fun x H1=>tr σ H1 (oU Q x)
def uP (ta:TE)(tr:TA):TA:=fun σ H Q=>ta σ H (oV tr σ Q)
section
variable {X:Cx} {e:Expr} {es:List Expr} {te:TE} {t:TA} {pos:Pos}
theorem ae:PA X [] ze:=fun _ _ _ _ H Q I h=>Calls.spliced_nil ⟨[],H,I,.nil,h⟩
theorem aa (ha:PE X e te)(hr:PA X es t)(hs:starEach (e::es) X.env=(false,eval e X.env)::starEach es X.env:=by rfl):PA X (e::es) (uP te t):=by
 intro pos EA s σ H Q I h
 rw [hs]
 show wpAny _ _ (spliced ((false,eval e X.env)::backTo pos (starEach es X.env))) _ _ s
 refine Calls.spliced_cons (thn (ha EA s σ H _ I h) fun u s1 zq54=>?_)
 obtain ⟨x,H1,I1,r1,q1⟩:=zq54
 exact thn (hr pos EA s1 σ H1 _ I1 q1) fun us s2 zq55=>(by obtain ⟨xs,H2,I2,r2,q2⟩:=zq55;exact ⟨x::xs,H2,I2,.cons r1 r2,q2⟩)
def rq (Q:VK):List V→Hp→Prop:=fun xs H1=>xs.length≤sizeLine∧∀ p,H1 p=none→Q (.ref p) (upd H1 p (.tup xs))
def zf (t:TA):TE:=fun σ H Q=>t σ H (rq Q)
def rz (Q:VK):List V→Hp→Prop:=fun xs H1=>xs.length≤sizeLine∧∀ p,H1 p=none→Q (.ref p) (upd H1 p (.lst xs))
def zg (t:TA):TE:=fun σ H Q=>t σ H (rz Q)
theorem bN {x1}(h:PA X es t):PE X (.Tuple es x1 pos) (zf t):=by
 intro EA s σ H Q I hq
 refine wpAny_Tuple_spliced (thn (h pos EA s σ H _ I hq) fun us s1 ⟨xs,H1,I1,r,z,q⟩=>⟨by rw [← r.length];exact z,?_⟩)
 have hf:H1 s1.heap.objs.size=none:=I1.hok.fresh (zU _)
 refine ⟨.ref s1.heap.objs.size,upd H1 s1.heap.objs.size (.tup xs),I1.laid (t':=s1.toks) (fun b u e=>zM _ e) (zU _) ?_,rfl,q _ hf⟩
 exact ⟨z,us,r,⟨_,z_ _ rfl,rfl,_,rfl⟩,.new _ _ rfl⟩
theorem bz (h:PA X es t):PE X (.List es pos) (zg t):=by
 intro EA s σ H Q I hq
 refine wpAny_List_spliced (thn (h pos EA s σ H _ I hq) fun us s1 ⟨xs,H1,I1,r,z,q⟩=>⟨by rw [← r.length];exact z,?_⟩)
 have hf:H1 s1.heap.objs.size=none:=I1.hok.fresh (zU _)
 refine ⟨.ref s1.heap.objs.size,upd H1 s1.heap.objs.size (.lst xs),I1.laid (t':=s1.toks) (fun b u e=>zM _ e) (zU _) ?_,rfl,q _ hf⟩
 exact ⟨z,us,0,r,z_ _ rfl⟩
end
abbrev Sp:=List V→Hp→VK→XK→Prop
abbrev CXT:=List Env→Hp→Shared→XK→Value→Shared→Prop
structure wV (P:Program) (w:World) (K:PySem.W.Frag) (mg:Str→Option Value) (base:Heap) (A:Around) (outer:List Env) (s:Shared) (H:Hp):Prop where
 frames:A.frames=some outer
 mod:Mod K mg base
 bs:∀ b o,base.get? b=some o→s.heap.get? b=some o∧H b=none
 bsz:base.objs.size≤s.heap.objs.size
 funs:s.heap.FunFrames base outer
 frf:∀ b∈frs outer,H b=none
 hok:HOk P w H s.heap
 bare:AllBare s.gens
def CE (outer:List Env)(P:Program)(w:World)(H:Hp)(s:Shared)(Q:VK)(u:Value)(s':Shared):Prop :=
 ∃ v H',s'.os=s.os∧AllBare s'.gens∧Un (frs outer) [] H H' s.heap s'.heap∧HOk P w H' s'.heap∧bC v u∧Q v H'
def CR (CX:CXT)(outer:List Env)(P:Program)(w:World)(H:Hp)(s:Shared)(Q:VK)(E:XK)(r:Result)(s':Shared):Prop :=
 match r with
 | .ok (.ret u)=>CE outer P w H s Q u s'
 | .ok _=>False
 | .error e=>CX outer H s E e s'
structure kl (P:Program) (w:World) (K:PySem.W.Frag) (mg:Str→Option Value) (base:Heap) (CX:CXT) (k:Nat) (f:Addr) (fd:FuncData) (ps:List Str) (sp:Sp):Prop where
 len:∀ vs H Q E,sp vs H Q E→vs.length=ps.length
 run:∀ (A:Around) (outer:List Env) (s:Shared) (H:Hp) (args:Args) (us:List Value) (vs:List V) (Q:VK) (E:XK),fD k A→wV P w K mg base A outer s H→BindsTo s fd args (ps.zip us)→bh vs us→sp vs H Q E →
  codeAny (model P w) A (.call (.ref f) args) (CR CX outer P w H s Q E) s
theorem kl.imp {P:Program}{w:World}{K:PySem.W.Frag}{mg:Str→Option Value}{base:Heap}{CX:CXT}{k:Nat}{f:Addr}{fd:FuncData}{ps:List Str}{sp sp':Sp}(F:kl P w K mg base CX k f fd ps sp)
  (h:∀ vs H Q E,sp' vs H Q E→sp vs H Q E):kl P w K mg base CX k f fd ps sp' :=
 ⟨fun vs H Q E q=>F.len vs H Q E (h _ _ _ _ q),fun A outer s H args us vs Q E hr he hb hv hs=>F.run A outer s H args us vs Q E hr he hb hv (h _ _ _ _ hs)⟩
section
variable {X:Cx} {EA:List (Addr × Obj)} {σ:St} {H:Hp} {s s':Shared}
theorem Inv.env0 (I:Inv X EA σ H s):wV X.prog X.w X.K X.mg X.base X.A X.stack s H :=
 ⟨I.ok.frames,I.ok.mod,I.bs,AO I.ok.bsz I.sz,I.stack,I.stkFree,I.hok,I.bare⟩
theorem Inv.after {Q:VK}{u:Value}(I:Inv X EA σ H s)(h:CE X.stack X.prog X.w H s Q u s'):EP X EA σ Q u s':=by
 obtain ⟨v,H',os,bare,un,hok,r,q⟩:=h
 obtain ⟨hh,g,d,t,os'⟩:=s'
 obtain rfl:os'=s.os:=os
 exact ⟨v,H',I.call (h':=hh) (g':=g) (d':=d) (t':=t) (ch:=[]) un hok bare (fun b z=>absurd z (by simp)),r,q⟩
end
def oW (sp:Sp)(dvs:List V)(E:XK)(Q:VK):List V→Hp→Prop:=fun vs H1=>sp (vs++dvs) H1 Q E
def uQ (sp:Sp)(dvs:List V)(E:XK)(t:TA):TE:=fun σ H Q=>t σ H (oW sp dvs E Q)
def km (K:PySem.W.Frag)(fd:FuncData)(ps:List Str)(ds:List Value):Prop :=
 ∀ (s:Shared) (us:List Value),K.In s.heap→(us++ds).length=ps.length→BindsTo s fd ⟨us,[]⟩ (ps.zip (us++ds))
theorem km.all {K:PySem.W.Frag}{fd:FuncData}{ps:List Str}(h:∀ us:List Value,us.length=ps.length→bindArgs fd ⟨us,[]⟩=pure (ps.zip us)):km K fd ps []:=fun s us _ hl=>by
 rw [AY] at hl ⊢
 exact .of_eq (h us hl)
def ll (CX:CXT)(X:Cx)(E:XK):Prop:=∀ (EA:List (Addr × Obj)) (σ:St) (H:Hp) (s:Shared) (e:Value) (s':Shared),Inv X EA σ H s→CX X.stack H s E e s'→X.xe e s'
section
variable {X:Cx} {CX:CXT} {k:Nat} {f C:Addr} {fd:FuncData} {ps:List Str} {sp:Sp} {dvs:List V} {ds:List Value} {E:XK} {x m:Str} {p pos apos:Pos} {e o:Expr} {es:List Expr} {ta:TE} {t:TA}
theorem uR {EA:List (Addr × Obj)}{σ:St}{H:Hp}{s:Shared}{Q:VK}{us:List Value}{vs:List V}(F:kl X.prog X.w X.K X.mg X.base CX k f fd ps sp)(hr:fD k X.A)(hb:km X.K fd ps ds)(hd:bh dvs ds)(hx:ll CX X E)
  (I:Inv X EA σ H s) (r:bh vs us) (h:sp (vs++dvs) H Q E):wpAny (model X.prog X.w) X.A (call (.ref f) us) (EP X EA σ Q) X.xe s:=by
 have r2:bh (vs++dvs) (us++ds):=r.append hd
 have hl:(us++ds).length=ps.length:=by rw [← r2.length];exact F.len _ _ _ _ h
 refine wpAny_call (Dd (F.run X.A X.stack s H ⟨us,[]⟩ (us++ds) (vs++dvs) Q E hr I.env0 (hb s us I.kIn hl) r2 h) fun r s' hq=>?_)
 cases r with
 | error e=>exact hx EA σ H s e s' I hq
 | ok fl =>
  cases fl with
  | ret u=>exact I.after hq
  | next=>exact False.elim hq
  | brk=>exact False.elim hq
  | cont=>exact False.elim hq
theorem rA (F:kl X.prog X.w X.K X.mg X.base CX k f fd ps sp)(hr:fD k X.A)(hg:Gl X x)(hm:X.mg x=some (.ref f))(hk:PySem.W.keepIn X.K (.ref f)=true)(hb:km X.K fd ps ds)(hd:bh dvs ds)(hx:ll CX X E)
  (ha:PA X (e::es) t) (hdb:(x == ("__debug__":Str))=false:=by decide) (he:starEach (e::es) X.env=(false,eval e X.env)::starEach es X.env:=by rfl) (hpl:(backTo pos (starEach es X.env)).any (·.1)=false:=by rfl) :
  PE X (.Call (.Name x p) (e::es) [] pos) (uQ sp dvs E t):=by
 intro EA s σ H Q I h
 refine De (iP I hg hm ?_ hdb)
 refine PySem.W.callWith_K (h₀:=X.base) I.ok.mod.kin hk (thn (ha pos EA s σ H _ I h) fun us s1 ⟨vs,H1,I1,r,q⟩=>⟨I1.kIn,?_⟩) he hpl
 exact uR F hr hb hd hx I1 r q
end
section
variable {X:Cx} {CX:CXT} {k:Nat} {f C:Addr} {fd:FuncData} {ps ks:List Str} {sp:Sp} {E:XK} {x m:Str} {p pos apos kpos:Pos} {e o:Expr} {es:List Expr} {kws:List Keyword} {te ta:TE} {t tk:TA} {nm:Option Str}
variable {g:List Value→List Value→List Value} {gV:List V→List V→List V}
end
structure aD (N P:List Str) (sc:Scope):Prop where
 kind:sc.kind = .function
 co:sc.isCoroutine=false
 gen:sc.isGenerator=false
 nd:N.Nodup
 pre:N.take P.length=P
 par:∀ x∈P,sc.names.lookup x=some .local ∨ sc.names.lookup x=some .cell
 nofree:∀ y∈sc.names,y.2 ≠ .free
theorem g9 {kindOf:Str→Option NameKind}{x:Str}:∀ {binds:List (Str × Value)} {m:Str→Option Value},(∀ v,(x,v)∉binds)→bindL kindOf binds m x=m x
 | [],_,_=>rfl
 | (n,v)::r,m,h=>by
  unfold bindL
  rw [g9 fun w hw=>h w (zO _ hw)]
  split
  ·have:x≠n:=by rintro rfl;exact h v zX
   simp [this]
  ·rfl
theorem g_ {kindOf:Str→Option NameKind}{x:Str}:∀ {binds:List (Str × Value)} {m:Str→Option Value},(∀ v,(x,v)∉binds)→bindC kindOf binds m x=m x
 | [],_,_=>rfl
 | (n,v)::r,m,h=>by
  unfold bindC
  rw [g_ fun w hw=>h w (zO _ hw)]
  split
  ·rfl
  ·have:x≠n:=by rintro rfl;exact h v zX
   simp [this]
theorem hE {kindOf:Str→Option NameKind}{x:Str}{v:Value}:∀ {P:List Str} {vs:List Value} {i:Nat} {m:Str→Option Value},P.Nodup→P[i]? = some x→vs[i]? = some v→kindOf x=some .local →
  bindL kindOf (P.zip vs) m x=some v
 | [],_,_,_,_,h,_,_=>by simp at h
 | _::_,[],_,_,_,_,h,_=>by simp at h
 | p::P,w::vs,0,m,nd,h1,h2,hk=>by
  simp at h1 h2;subst h1;subst h2
  show bindL kindOf ((p,w)::P.zip vs) m p=_
  unfold bindL
  rw [g9 fun v hv=>(Ar.mp nd).1 (DO hv).1,if_pos hk]
  simp
 | p::P,w::vs,i+1,m,nd,h1,h2,hk=>by
  show bindL kindOf ((p,w)::P.zip vs) m x=_
  unfold bindL
  exact hE (i:=i) (Ar.mp nd).2 (by simpa using h1) (by simpa using h2) hk
theorem hJ {kindOf:Str→Option NameKind}{x:Str}{v:Value}:∀ {P:List Str} {vs:List Value} {i:Nat} {m:Str→Option Value},P.Nodup→P[i]? = some x→vs[i]? = some v→kindOf x≠some .local →
  bindC kindOf (P.zip vs) m x=some v
 | [],_,_,_,_,h,_,_=>by simp at h
 | _::_,[],_,_,_,_,h,_=>by simp at h
 | p::P,w::vs,0,m,nd,h1,h2,hk=>by
  simp at h1 h2;subst h1;subst h2
  show bindC kindOf ((p,w)::P.zip vs) m p=_
  unfold bindC
  rw [g_ fun v hv=>(Ar.mp nd).1 (DO hv).1,if_neg hk]
  simp
 | p::P,w::vs,i+1,m,nd,h1,h2,hk=>by
  show bindC kindOf ((p,w)::P.zip vs) m x=_
  unfold bindC
  exact hJ (i:=i) (Ar.mp nd).2 (by simpa using h1) (by simpa using h2) hk
def start (N:List Str)(vs:List V):St:=vs.map some++List.replicate (N.length - vs.length) none
def rB (CX:CXT)(P:Program)(w:World)(K:PySem.W.Frag)(mg:Str→Option Value)(base:Heap)(N:List Str)(qual:Str)(scope:Scope)(f:Addr)(cd:Value)(A:Around)(outer:List Env)(s:Shared)(H:Hp)(E:XK):Cx where
 prog:=P
 w:=w
 K:=K
 mg:=mg
 base:=base
 A:=A.deeper (envOfC qual scope s.heap.objs.size f cd)
 N:=N
 s₀:=s
 H₀:=H
 env:=envOfC qual scope s.heap.objs.size f cd
 outer:=outer
 stack:=envOfC qual scope s.heap.objs.size f cd::outer
 ex:=[]
 calm:=true
 fn:=fun _=>true
 pn:=[]
 xe:=fun e s'=>wpAny (model P w) (A.deeper (envOfC qual scope s.heap.objs.size f cd)) (leaving (envOfC qual scope s.heap.objs.size f cd) e) (fun _ s''=>CX outer H s E e s'') (fun e' s''=>CX outer H s E e' s'') s'
theorem jv {sc:Scope}{n:Nat}{x:Str}(h:sc.names.lookup x=some .cell):∃ c,(cellsFrom n sc.names []).lookup x=some c:=by
 have q:=DJ sc.names n [] (.inl h)
 exact Option.isSome_iff_exists.mp q
theorem lq {CX:CXT}{P:Program}{w:World}{K:PySem.W.Frag}{mg:Str→Option Value}{base:Heap}{N ps:List Str}{qual:Str}{scope:Scope}{f:Addr}{cd:Value}{A:Around}{outer:List Env}{s s1:Shared}{H:Hp}{E:XK}{us:List Value}{vs:List V}
  (S:aD N ps scope) (hd:A.handled=none) (e0:wV P w K mg base A outer s H) (hl:vs.length=ps.length) (r:bh vs us)
  (x:InCallC s s.heap.objs.size (bindL (envOfC qual scope s.heap.objs.size f cd).kindOf (ps.zip us) fun _=>none) (cellsFrom (s.heap.objs.size+1) scope.names []) (bindC (envOfC qual scope s.heap.objs.size f cd).kindOf (ps.zip us) fun _=>none) s1) :
  Inv (rB CX P w K mg base N qual scope f cd A outer s H E) [] (start N vs) H s1:=by
 have hpl:ps.length≤N.length:=by have:=Af List.length S.pre;rw [z9] at this;omega
 obtain ⟨h1,tk,rfl,hk⟩:=x.done
 have noA:∀ b:Addr,b∉(rB CX P w K mg base N qual scope f cd A outer s H E).ex:=fun b z=>absurd (show b∈([]:List Addr) from z) (by simp)
 refine ⟨⟨e0.mod,S.kind,rfl,rfl,zU _,fun y z c h1 h2=>?_,fun y hy=>?_,fun y c _ h=>?_,fun _=>hd,Around.frames_deeper e0.frames,.inr ⟨rfl,rfl⟩,fun b z=>absurd z (noA b),e0.bs,e0.bsz,fun b _ _=>noA b,fun b z=>absurd z (noA b),e0.funs,e0.frf⟩,
  rfl,e0.bare,Un.kept hk,⟨_,x.toInCall.ns,fun i y v h1 h2 h3=>?_⟩,fun y c h=>⟨_,x.cell y c h⟩,e0.hok.fresh (zU _),fun y c h=>?_,fun p hp=>absurd (show p∈([]:List (Addr × Obj)) from hp) (by simp),e0.hok.kept hk,?_⟩
 ·exact name_of_addr x.apart (Be h1) (Be h2)
 ·have hy:scope.names.lookup y=some .cell ∨ scope.names.lookup y=some .free:=hy
  rcases hy with hy | hy
  ·exact jv hy
  ·exact absurd rfl (S.nofree _ (Be hy))
 ·exact DN (x.above y c (Be h))
 ·have hi:i < vs.length:=by
   unfold start at h2
   by_cases hi:i < vs.length
   ·exact hi
   ·rw [Al (by simpa using hi)] at h2
    rw [List.getElem?_replicate] at h2
    split at h2 <;> cases h2
  have ha:vs[i]? = some v:=by
   unfold start at h2
   rw [AV (by simpa using hi),Az] at h2
   cases e:vs[i]? with
   | none=>rw [e] at h2;cases h2
   | some a=>rw [e] at h2;cases h2;rfl
  obtain ⟨u,hu,rv⟩:=r.get ha
  have hp:ps[i]? = some y:=by
   rw [← S.pre,AX (by omega)];exact h1
  have ndP:ps.Nodup:=by rw [← S.pre];exact S.nd.sublist (List.take_sublist _ _)
  refine ⟨u,rv,?_⟩
  rcases S.par y (AF hp) with k | k
  ·exact .inl ⟨k,hE ndP hp hu k⟩
  ·obtain ⟨c,e⟩:=jv (n:=s.heap.objs.size+1) k
   refine .inr ⟨.inl k,c,e,?_⟩
   have q:=x.cell y c e
   rw [hJ ndP hp hu (by show scope.names.lookup y≠_;rw [k];decide)] at q
   exact q
 ·exact e0.hok.fresh (DN (x.above y c (Be h)))
 ·unfold start
  show _=N.length
  rw [zI,zV,List.length_replicate]
  omega
theorem xo {CX:CXT}{P:Program}{w:World}{K:PySem.W.Frag}{mg:Str→Option Value}{base:Heap}{k:Nat}{f:Addr}{name qual:Str}{params:Arguments}{body:List Stmt}{scope:Scope}{dV kV doc pm EJ ct oc:Value}{an od:Option Addr}
  {osl:Array (Option Value)} {N ps:List Str} {sp:Sp} (lk:K.lookup f=some ⟨oc,od,.func (PySem.W.fnOf name qual params body scope dV kV doc pm an EJ ct),osl⟩) (hcd:PySem.W.codeIn K EJ qual=true) (S:aD N ps scope)
  (len:∀ vs H Q E,sp vs H Q E→vs.length=ps.length)
  (hbody:∀ (A:Around) (outer:List Env) (s:Shared) (H:Hp) (vs:List V) (Q:VK) (E:XK),fD k (A.deeper (envOfC qual scope s.heap.objs.size f EJ))→sp vs H Q E →
   ∃ t,PSs (rB CX P w K mg base N qual scope f EJ A outer s H E) body t∧t { nx:=fun _ H'=>Q .non H',rt:=Q } (start N vs) H) :
  kl P w K mg base CX (k+1) f (PySem.W.fnOf name qual params body scope dV kV doc pm an EJ ct) ps sp:=by
 refine ⟨len,fun A outer s H args us vs Q E hr e0 hb r hsp=>?_⟩
 have hl:=len _ _ _ _ hsp
 have KX:K.In s.heap:=e0.mod.kin.keeps fun b o e=>(e0.bs b o e).1
 have lim:s.heap.NoLimit:=e0.mod.nolimit.keeps fun b o e=>(e0.bs b o e).1
 have hkind:∀ y∈ps.zip us,scope.names.lookup y.1=some .local ∨ (scope.names.lookup y.1=some .cell∧((cellsFrom (s.heap.objs.size+1) scope.names []).lookup y.1).isSome=true):=fun ⟨n,v⟩ hy=>by
  rcases S.par n (DO hy).1 with q | q
  ·exact .inl q
  ·exact .inr ⟨q,DJ _ _ _ (.inl q)⟩
 refine codeAny_call_function hr.depth (KX _ _ lk) rfl S.co S.gen rfl (PySem.W.codeRec_of KX hcd) (hb _ _ _ _ ?_)
 refine wpAny_newFunctionEnv_cells S.kind hkind fun env he s1 x=>?_
 subst he
 refine ⟨lim.keeps x.toInCall.keep,codeAny_func ?_⟩
 obtain ⟨t,ht,hq⟩:=hbody A outer s H vs Q E (hr.deeper _) hsp
 have I:Inv (rB CX P w K mg base N qual scope f EJ A outer s H E) [] (start N vs) H s1:=lq S hr.hd e0 hl r x
 refine BR (ht [] s1 (start N vs) H _ I hq) (fun fl s' hs=>?_) fun e s' hs=>hs
 have fin:∀ {σ':St} {H':Hp} {v:V} {u:Value},Inv (rB CX P w K mg base N qual scope f EJ A outer s H E) [] σ' H' s'→bC v u→Q v H'→CE outer P w H s Q u s' :=
  fun {σ' H' v u} J rv q=>⟨v,H',J.os,J.bare,J.base,J.hok,rv,q⟩
 cases fl with
 | ret u =>
  obtain ⟨v,σ',H',J,rv,q⟩:=hs
  exact fin J rv q
 | next =>
  obtain ⟨σ',H',J,q⟩:=hs
  exact fin (v:=V.non) (u:=Value.none) J rfl q
 | brk =>
  obtain ⟨_,_,_,q⟩:=hs
  exact False.elim q
 | cont =>
  obtain ⟨_,_,_,q⟩:=hs
  exact False.elim q
section
variable {X:Cx} {x:Str} {p pos:Pos} {e:Expr} {es:List Expr} {t:TA} {id T:String} {r:List V→Hp→VK→Prop}
def uS (r:List V→Hp→VK→Prop)(Q:VK):List V→Hp→Prop:=fun vs H1=>r vs H1 Q
def tCB (r:List V→Hp→VK→Prop)(t:TA):TE:=fun σ H Q=>t σ H (uS r Q)
theorem ay (hc:di X (.builtin id) r)(hg:Gl X x)(hm:X.mg x=none)(hv:bootBuiltins x=some (.builtin id))(ha:PA X (e::es) t)(hn:x ≠ "__name__":=by decide)(hdb:(x == ("__debug__":Str))=false:=by decide)
  (he:starEach (e::es) X.env=(false,eval e X.env)::starEach es X.env:=by rfl) (hpl:(backTo pos (starEach es X.env)).any (·.1)=false:=by rfl):PE X (.Call (.Name x p) (e::es) [] pos) (tCB r t):=by
 intro EA s σ H Q I h
 refine De (g7 I hg hm hv ?_ hn hdb)
 exact PyProof.Rows.callWith_builtin1 (thn (ha pos EA s σ H _ I h) fun us s1 zq60=>(by obtain ⟨vs,H1,I1,r1,q1⟩:=zq60;exact hc EA s1 σ H1 vs us Q I1 r1 q1)) he hpl
theorem dz (hc:di X (.type T) r)(hg:Gl X x)(hm:X.mg x=none)(hv:bootBuiltins x=some (.type T))(ha:PA X (e::es) t)(hn:x ≠ "__name__":=by decide)(hdb:(x == ("__debug__":Str))=false:=by decide)
  (he:starEach (e::es) X.env=(false,eval e X.env)::starEach es X.env:=by rfl) (hpl:(backTo pos (starEach es X.env)).any (·.1)=false:=by rfl):PE X (.Call (.Name x p) (e::es) [] pos) (tCB r t):=by
 intro EA s σ H Q I h
 refine De (g7 I hg hm hv ?_ hn hdb)
 exact Bw (thn (ha pos EA s σ H _ I h) fun us s1 zq61=>(by obtain ⟨vs,H1,I1,r1,q1⟩:=zq61;exact hc EA s1 σ H1 vs us Q I1 r1 q1)) he hpl
end
end L2
namespace HT
open PySem PyProof.Rows
def bJ:List Int→List Int→Bool
 | [],[]=>false
 | [],_::_=>true
 | _::_,[]=>false
 | x::xs,y::ys=>if x=y then bJ xs ys else decide (x < y)
theorem bM (x y:Int)(xs ys:List Int):bJ (x::xs) (y::ys)=if x=y then bJ xs ys else decide (x < y):=rfl
theorem cn:bJ [] []=false:=rfl
theorem c8 (y:Int)(ys:List Int):bJ [] (y::ys)=true:=rfl
theorem c9 (x:Int)(xs:List Int):bJ (x::xs) []=false:=rfl
theorem jw (A:Around)(s:Shared)(a:Int)(t:Tok)(c:Int)(u:Tok):∃ e,SeqAt.EqAt A s (.int a t) (.int c u) e∧(e=true ↔ a=c) :=
 ⟨(a == c),SeqAt.EqAt.int_int a t c u,by simp⟩
theorem oX (A:Around)(s:Shared)(a:Int)(t:Tok)(c:Int)(u:Tok)(prog:Program)(w:World)(E:Value→Shared→Prop)(Q:Value→Shared→Prop)(h:Q (.bool (decide (a < c))) s) :
  wpAny (model prog w) A (richCompare .Lt (.int a t) (.int c u)) Q E s :=
 (PyProof.Rows.lt_int h:wpAny (model prog w) A (compareOp .Lt (.int a t) (.int c u)) Q E s)
section
open PySem.SeqAt
open PySem.AutoSeq1 (wpAny_loadPart')
open PySem.MeetsSeq PySem.MeetsSeq2 PySem.MeetsSeq3
theorem fP (l b:Addr)(items EF:Array Value)(n n2:Nat)(dd dd2:Option Addr)(sl sl2:Array (Option Value))(ns ms:List Int)(hi:IntsAre items.toList ns)(hj:IntsAre EF.toList ms) :
  Meets (Builtin.«tuple.__lt__» ⟨[.ref l,.ref b],[]⟩)
   (fun _ R s=>s.heap.get? l=some { cls:=.type "tuple",dict:=dd,data:=.seq items n,slots:=sl }∧s.heap.get? b=some { cls:=.type "tuple",dict:=dd2,data:=.seq EF n2,slots:=sl2 } ∧
    R (.ok (.ret (.bool (bJ ns ms)))) s) :=
 .of_wp fun prog w A R s h=>by
  obtain ⟨hp,g,d,tk,os⟩:=s;obtain ⟨hl,hb,h⟩:=h
  have f2:=Dm
  have z1:items.size=ns.length:=by rw [← hi.length];simp
  have z2:EF.size=ms.length:=by rw [← hj.length];simp
  wp_walk using wpAny_loadPart' hl,wpAny_loadPart' hb,wpAny_forIn_list _ (fun rest b s'=>b.1=none∧s'=⟨hp,g,d,tk,os⟩∧∃ (vs ws:List Value) (ns' ms':List Int),rest=vs.zip ws ∧
   IntsAre vs ns'∧IntsAre ws ms'∧ns'.length+EF.size=ms'.length+items.size∧R (.ok (.ret (.bool (bJ ns' ms')))) ⟨hp,g,d,tk,os⟩) _
  case turn =>
   rintro ⟨y,x⟩ rest b s' ⟨hb',rfl,vs,ws,ns',ms',hz,hvi,hwi,hlen,hR⟩
   cases hvi with
   | nil=>rw [List.zip_nil_left] at hz;cases hz
   | cons a t hvi' =>
    cases hwi with
    | nil=>rw [List.zip_nil_right] at hz;cases hz
    | cons c u hwi' =>
     rw [Bj] at hz
     injection hz with hyx hrest
     injection hyx with hy hx
     subst hy hx
     rw [bM] at hR
     simp only [AC] at hlen
     obtain ⟨e,he,hiff⟩:=jw A.in1 ⟨hp,g,d,tk,os⟩ a t c u
     refine zK (he prog w _ _ ?_)
     cases e with
     | true =>
      rw [if_pos (hiff.mp rfl)] at hR
      wp_walk
      exact ⟨rfl,rfl,_,_,_,_,hrest,hvi',hwi',by omega,hR⟩
     | false =>
      rw [if_neg (fun q=>absurd (hiff.mpr q) An)] at hR
      have hri:=oX A.in1 ⟨hp,g,d,tk,os⟩ a t c u prog w
      wp_walk using hri
      exact ⟨_,rfl,by simpa using hR⟩
  case fin =>
   rintro ⟨b1,b2⟩ s' ⟨hb',rfl,vs,ws,ns',ms',hz,hvi,hwi,hlen,hR⟩
   simp only at hb'
   subst hb'
   have hv:bJ ns' ms'=decide (items.size < EF.size):=by
    cases hvi with
    | nil =>
     cases hwi with
     | nil =>
      simp only [A4] at hlen
      rw [cn]
      exact (zH (by omega)).symm
     | cons c u hw =>
      simp only [A4,AC] at hlen
      rw [c8]
      exact (zQ (by omega)).symm
    | cons a t hv =>
     cases hwi with
     | nil =>
      simp only [A4,AC] at hlen
      rw [c9]
      exact (zH (by omega)).symm
     | cons c u hw =>
      rw [Bj] at hz
      cases hz
   rw [hv] at hR
   wp_walk
   exact ⟨_,rfl,by simpa [Builtin.Tuple.tupleCompareSizes] using hR⟩
  case h =>
   exact ⟨rfl,rfl,items.toList,EF.toList,ns,ms,rfl,hi,hj,by omega,h⟩
end
section
variable {prog:Program} {w:World} {A:Around} {E:Value→Shared→Prop} {s:Shared}
theorem fF {l b:Addr}{items EF:Array Value}{ns ms:List Int}{Q:Value→Shared→Prop}(hl:IsTup s.heap l items)(hb:IsTup s.heap b EF)(hi:IntsAre items.toList ns)(hj:IntsAre EF.toList ms)
  (hu:A.units < cLine) (h:Q (.bool (bJ ns ms)) s):wpAny (model prog w) A (compareOp .Lt (.ref l) (.ref b)) Q E s:=by
 obtain ⟨⟨cls,dd,data,sl⟩,ho,hc,n,hd⟩:=id hl
 obtain ⟨⟨cls2,dd2,data2,sl2⟩,ho2,hc2,n2,hd2⟩:=id hb
 simp only at hc hd hc2 hd2
 subst hc hd hc2 hd2
 exact richCompare_meets_room (op:=.Lt) ⟨_,ho,rfl⟩ ⟨_,ho2,rfl⟩ PySem.F.slot_tuple_lt PySem.F.entry_tuple_lt (PySem.F.args_tuple_lt_2 _ _) (fP l b items EF n n2 dd dd2 sl sl2 ns ms hi hj)
  ⟨ho,ho2,show Value.bool (bJ ns ms)≠Value.notImplemented∧Q (.bool (bJ ns ms)) s from ⟨(fun x=>nomatch x),h⟩⟩ hu
theorem rD {t b:Addr}{vs ws:List Value}{Q:Value→Shared→Prop}(ht:IsTup s.heap t vs.toArray)(hb:IsTup s.heap b ws.toArray)(hv:vs≠[])
  (h1:ws=[]→Q (.ref t) s) (h2:ws≠[]→Q (.ref s.heap.objs.size) { s with heap:=s.heap.push { cls:=.type "tuple",data:=.seq (vs++ws).toArray } })
  (hsz:vs.length+ws.length≤sizeLine):wpAny (model prog w) A (binaryOp .Add (.ref t) (.ref b)) Q E s:=by
 obtain ⟨⟨cls,dd,data,sl⟩,ho,hc,n,hd⟩:=id ht
 obtain ⟨⟨cls2,dd2,data2,sl2⟩,ho2,hc2,n2,hd2⟩:=id hb
 simp only at hc hd hc2 hd2
 subst hc hd hc2 hd2
 have e:vs.toArray++ws.toArray=(vs++ws).toArray:=by simp
 by_cases hw:ws=[]
 ·exact concat_meets ⟨_,ho,rfl⟩ ⟨_,ho2,rfl⟩ DA seq_tuple_add Cu Cn (Ce _ _)
   (tuple_addW1 t b vs.toArray ws.toArray n n2 dd dd2 sl sl2 (by simpa using hv) (by simp [hw])) ⟨ho,ho2,h1 hw⟩
 ·refine concat_meets ⟨_,ho,rfl⟩ ⟨_,ho2,rfl⟩ DA seq_tuple_add Cu Cn (Ce _ _)
   (tuple_addW2 t b vs.toArray ws.toArray n n2 dd dd2 sl sl2 (by simpa using hv) (by simpa using hw) (by rw [z8,z8];exact hsz)) ⟨ho,ho2,?_⟩
  rw [e]
  exact h2 hw
def sIx (n d:Nat):Option Int→Nat
 | none=>d
 | some v=>if v < 0 then (v+(n:Int)).toNat else min v.toNat n
theorem fQ (n d:Nat):sIx n d none=d:=rfl
theorem fR (n d k:Nat):sIx n d (some (k:Int))=min k n:=by
 show (if (k:Int) < 0 then ((k:Int)+(n:Int)).toNat else min (k:Int).toNat n)=min k n
 rw [if_neg (by omega),AM]
theorem qx (n d:Nat)(hd:d≤n)(o:Option Int):sIx n d o≤n:=by
 cases o with
 | none=>exact hd
 | some v =>
  show (if v < 0 then (v+(n:Int)).toNat else min v.toNat n)≤n
  by_cases hv:v < 0
  ·rw [if_pos hv];omega
  ·rw [if_neg hv];exact Nat.min_le_right _ _
end
end HT
namespace L2
open PySem PySem.Spec PyProof.Rows
abbrev TO:=St→Hp→(Option Int→Hp→Prop)→Prop
def PO (X:Cx)(e:Option Expr)(t:TO):Prop :=
 ∀ (EA:List (Addr × Obj)) (s:Shared) (σ:St) (H:Hp) (Q:Option Int→Hp→Prop),Inv X EA σ H s→t σ H Q →
  wpAny (model X.prog X.w) X.A (evalPart e X.env) (fun u s'=>∃ o H',Inv X EA σ H' s'∧IsPart u o∧Q o H') X.xe s
def rE:TO:=fun _ H Q=>Q none H
inductive IsI (x:V)(H:Hp)(Q:Option Int→Hp→Prop):Prop
 | mk:∀ i,(x = .int i)→(Q (some i) H)→IsI x H Q
def oY (Q:(Option Int→Hp→Prop)):V→Hp→Prop:=fun x H1=>IsI x H1 Q
def xp (t:TE):TO:=fun σ H Q=>t σ H (oY Q)
theorem cX {ns:List Int}:∀ {us:List Value},bh (ns.map V.int) us→IntsAre us ns:=by
 induction ns with
 | nil=>intro us r;rw [DP] at r;cases r;exact .nil
 | cons n ns ih =>
  intro us r
  rw [AA] at r
  cases r with
  | cons r1 r2 =>
   obtain ⟨t,e⟩:=r1
   subst e
   exact .cons n t (ih r2)
section
variable {X:Cx} {e:Expr} {te:TE} {lo hi:Option Expr} {tl th:TO} {pos p2:Pos}
theorem bw:PO X none rE:=by
 intro EA s σ H Q I h
 rw [evalPart_none]
 exact Ab ⟨none,H,I,.none,h⟩
theorem bj (h:PE X e te):PO X (some e) (xp te):=by
 intro EA s σ H Q I hw
 rw [evalPart_some]
 refine thn (h EA s σ H _ I hw) fun u s1 zq62=>?_
 obtain ⟨x,H1,I1,r1,q1⟩:=zq62
 obtain ⟨i,rfl,q⟩:=q1
 obtain ⟨t,rfl⟩:=r1
 exact ⟨some i,H1,I1,.int i t,q⟩
def SlR (X:Cx)(r:V→Option Int→Option Int→Hp→VK→Prop):Prop :=
 ∀ (EA:List (Addr × Obj)) (s:Shared) (σ:St) (H:Hp) (x:V) (v vl vu:Value) (lo hi:Option Int) (sl:Addr) (Q:VK),Inv X EA σ H s→bC x v→s.heap.IsSliceOf sl vl vu .none→IsPart vl lo→IsPart vu hi→r x lo hi H Q →
  ∃ T id,typeLookup (.type T) "__getitem__" = pure (some (.builtin id))∧s.TypeIs v T∧wpAny (model X.prog X.w) X.A (getItem v (.ref sl)) (EP X EA σ Q) X.xe s
def uT (r:V→Option Int→Option Int→Hp→VK→Prop)(Q:VK)(x:V)(l:Option Int):Option Int→Hp→Prop:=fun u H3=>r x l u H3 Q
def uU (r:V→Option Int→Option Int→Hp→VK→Prop)(th:TO)(σ:St)(Q:VK)(x:V):Option Int→Hp→Prop:=fun l H2=>th σ H2 (uT r Q x l)
def uV (r:V→Option Int→Option Int→Hp→VK→Prop)(tl:TO)(th:TO)(σ:St)(Q:VK):V→Hp→Prop:=fun x H1=>tl σ H1 (uU r th σ Q x)
def tSl (r:V→Option Int→Option Int→Hp→VK→Prop)(te:TE)(tl th:TO):TE:=fun σ H Q=>te σ H (uV r tl th σ Q)
theorem aZ {r:V→Option Int→Option Int→Hp→VK→Prop}(hr:SlR X r)(he:PE X e te)(hl:PO X lo tl)(hu:PO X hi th):PE X (.Subscript e (.Slice lo hi none p2) pos) (tSl r te tl th):=by
 intro EA s σ H Q I h
 refine Subscript_ (thn (he EA s σ H _ I h) fun v s1 zq63=>?_)
 obtain ⟨x,H1,I1,r1,q1⟩:=zq63
 refine wpAny_Slice (thn (hl EA s1 σ H1 _ I1 q1) fun vl s2 ⟨l,H2,I2,pl,q2⟩=>thn (hu EA s2 σ H2 _ I2 q2) fun vu s3 zq64=>?_)
 obtain ⟨u,H3,I3,pu,q3⟩:=zq64
 rw [evalPart_none]
 refine Ab ?_
 have I4:Inv X EA σ H3 { s3 with heap:=s3.heap.push { cls:=.type "slice",data:=.fields #[vl,vu,.none] } }:=I3.kept (t':=s3.toks) fun b ob q=>zM _ q
 obtain ⟨T,id,hT,ht,hg⟩:=hr EA { s3 with heap:=s3.heap.push { cls:=.type "slice",data:=.fields #[vl,vu,.none] } } σ H3 x v vl vu l u s3.heap.objs.size Q I4 r1 (Heap.IsSliceOf.new ..) pl pu q3
 show wpAny (model X.prog X.w) X.A (subscriptTail e (.Slice lo hi none p2) v (.ref s3.heap.objs.size)) (EP X EA σ Q) X.xe { s3 with heap:=s3.heap.push { cls:=.type "slice",data:=.fields #[vl,vu,.none] } }
 exact tail_any (ops:=[.ref s3.heap.objs.size,v]) ht hT hg (by with_unfolding_all rfl)
def jx (xs:List V)(lo hi:Option Int):List V:=(xs.drop (HT.sIx xs.length 0 lo)).take (HT.sIx xs.length xs.length hi - HT.sIx xs.length 0 lo)
theorem iR (xs:List V)(lo hi:Option Int):(jx xs lo hi).length≤xs.length:=by
 unfold jx
 rw [z9,Bl]
 omega
inductive xq (K:PySem.W.Frag)(x:V)(y:V)(H:Hp)(Q:VK):Prop
 | mk:∀ a b ns ms,(x = .ref a)→(y = .ref b)→(SqT K H a (ns.map V.int))→(SqT K H b (ms.map V.int))→(Q (.bl (HT.bJ ns ms)) H)→xq K x y H Q
theorem uW (hu:X.A.units < cLine):OpR X (compareOp .Lt) (xq X.K):=by
 intro EA s σ H x y v u Q I rx ry h
 obtain ⟨a,b,ns,ms,rfl,rfl,ha,hb,q⟩:=h
 cases rx
 cases ry
 obtain ⟨EB,r1,p1,_⟩:=I.tuple ha
 obtain ⟨E2,r2,p2,_⟩:=I.tuple hb
 have i1:IntsAre EB.toArray.toList ns:=cX r1
 have i2:IntsAre E2.toArray.toList ms:=cX r2
 exact HT.fF p1 p2 i1 i2 hu ⟨.bl (HT.bJ ns ms),H,I,rfl,q⟩
inductive uX (K:PySem.W.Frag)(x:V)(y:V)(H:Hp)(Q:VK):Prop
 | mk:∀ a b xs ys,(x = .ref a)→(y = .ref b)→(SqT K H a xs)→(SqT K H b ys)→(xs≠[])→(xs.length+ys.length≤sizeLine)→((ys=[]→Q (.ref a) H))→((ys≠[]→∀ p,H p=none→Q (.ref p) (upd H p (.tup (xs++ys)))))→uX K x y H Q
theorem bh.nil_iff {xs:List V}{us:List Value}(r:bh xs us):us=[] ↔ xs=[]:=by
 cases r with
 | nil=>simp
 | cons _ _=>simp
theorem rF:OpR X (binaryOp .Add) (uX X.K):=by
 intro EA s σ H x y v u Q I rx ry h
 obtain ⟨a,b,xs,ys,rfl,rfl,ha,hb,hx,hz,q1,q2⟩:=h
 cases rx
 cases ry
 obtain ⟨EB,r1,p1,_⟩:=I.tuple ha
 obtain ⟨E2,r2,p2,_⟩:=I.tuple hb
 refine HT.rD p1 p2 (fun z=>hx (r1.nil_iff.mp z)) (fun z=>⟨.ref a,H,I,rfl,q1 (r2.nil_iff.mp z)⟩) (fun z=>?_) (by rw [← r1.length,← r2.length];exact hz)
 refine ⟨.ref s.heap.objs.size,_,I.laid (t':=s.toks) (o:=.tup (xs++ys)) (fun b ob q=>zM _ q) (zU _) ?_,rfl,q2 (fun w=>z (r2.nil_iff.mpr w)) _ (I.hok.fresh (zU _))⟩
 exact ⟨by rw [zI];exact hz,_,r1.append r2,IsTup.new _ _,.new _ _ rfl⟩
end
def ixN (n:Nat)(i:Int):Option Nat:=if 0≤i then (if i < n then some i.toNat else none) else if -(n:Int)≤i then some (i+n).toNat else none
def atI {α:Type}(xs:List α)(i:Int):Option α:=(ixN xs.length i).bind fun j=>xs[j]?
theorem lx {n:Nat}{i:Int}{j:Nat}(h:ixN n i=some j):seqIndex? i n=some j∧j < n∧-(n:Int)≤i∧i < n:=by
 unfold ixN at h
 by_cases h0:0≤i
 ·rw [if_pos h0] at h
  by_cases h1:i < n
  ·rw [if_pos h1] at h
   have e:i.toNat=j:=zP h
   exact ⟨by rw [seqIndex_of h0 h1,e],by omega,by omega,h1⟩
  ·rw [if_neg h1] at h;cases h
 ·rw [if_neg h0] at h
  by_cases h1:-(n:Int)≤i
  ·rw [if_pos h1] at h
   have e:(i+n).toNat=j:=zP h
   exact ⟨by rw [seqIndex_neg (by omega) h1,e],by omega,h1,by omega⟩
  ·rw [if_neg h1] at h;cases h
theorem iS {α:Type}{xs:List α}{i:Int}{v:α}(h:atI xs i=some v):∃ j,seqIndex? i xs.length=some j∧xs[j]? = some v∧j < xs.length∧-(xs.length:Int)≤i∧i < xs.length:=by
 unfold atI at h
 cases e:ixN xs.length i with
 | none=>rw [e] at h;cases h
 | some j =>
  rw [e] at h
  obtain ⟨h1,h2,h3,h4⟩:=lx e
  exact ⟨j,h1,h,h2,h3,h4⟩
theorem eM {α:Type}{xs:List α}{j:Nat}{v:α}(h:xs[j]? = some v):atI xs (j:Int)=some v:=by
 have hj:j < xs.length:=(zN.mp h).1
 have e:ixN xs.length (j:Int)=some j:=by
  unfold ixN
  rw [if_pos (by omega),if_pos (by omega)];simp
 unfold atI;rw [e];exact h
theorem jy {α:Type}(xs:List α)(v:α):atI (xs++[v]) (-1)=some v:=by
 have hl:(xs++[v]).length=xs.length+1:=by simp
 have e:ixN (xs++[v]).length (-1)=some xs.length:=by
  unfold ixN
  rw [hl,if_neg (by decide),if_pos (by omega)]
  congr 1
  omega
 unfold atI
 rw [e]
 show (xs++[v])[xs.length]? = some v
 simp
def ly (b:Expr):Prop:=∀ o i,subscripted b false o i=operate [o,i] (getItem o i)
def IxR (X:Cx)(r:R2):Prop :=
 ∀ (value slice:Expr) (EA:List (Addr × Obj)) (s:Shared) (σ:St) (H:Hp) (x y:V) (v u:Value) (Q:VK),Inv X EA σ H s→bC x v→bC y u→r x y H Q →
  subscripted slice false v u=operate [v,u] (getItem v u)→wpAny (model X.prog X.w) X.A (subscriptTail value slice v u) (EP X EA σ Q) X.xe s
def MtR (X:Cx)(id:String)(r:V→List V→Hp→VK→Prop):Prop :=
 ∀ (EA:List (Addr × Obj)) (s:Shared) (σ:St) (H:Hp) (x:V) (xs:List V) (v:Value) (us:List Value) (Q:VK),Inv X EA σ H s→bC x v→bh xs us→r x xs H Q →
  wpAny (model X.prog X.w) X.A (call (.builtin id) (v::us)) (EP X EA σ Q) X.xe s
section
variable {X:Cx} {a b:Expr} {ta tb:TE} {pos:Pos}
theorem aI {r:R2}(hr:IxR X r)(ha:PE X a ta)(hb:PE X b tb)(hs:ly b):PE X (.Subscript a b pos) (tOp r ta tb):=by
 intro EA s σ H Q I h
 exact Subscript_ (xi ha hb I h fun v u s2 x y H2 I2 rx ry q=>hr a b EA s2 σ H2 x y v u Q I2 rx ry q (hs _ _))
inductive yI (K:PySem.W.Frag)(x:V)(y:V)(H:Hp)(Q:VK):Prop
 | mk:∀ p xs i v,(x = .ref p)→(y = .int i)→(SqL K H p xs)→(atI xs i=some v)→(Q v H)→yI K x y H Q
inductive yJ (K:PySem.W.Frag)(x:V)(y:V)(H:Hp)(Q:VK):Prop
 | mk:∀ p xs i v,(x = .ref p)→(y = .int i)→(SqT K H p xs)→(atI xs i=some v)→(Q v H)→yJ K x y H Q
inductive yK (x:V)(y:V)(H:Hp)(Q:VK):Prop
 | mk:∀ z i c,(x = .str z)→(y = .int i)→(z.length≤sizeLine)→(atI z.cps.toList i=some c)→(Q (.str ⟨#[c]⟩) H)→yK x y H Q
theorem aW:IxR X (yI X.K):=by
 intro value slice EA s σ H x y v u Q I rx ry h hs
 obtain ⟨p,xs,i,z,rfl,rfl,hq,he,q⟩:=h
 cases rx
 obtain ⟨t,rfl⟩:=ry
 obtain ⟨EB,r,pl,hz⟩:=I.list hq
 obtain ⟨j,h1,h2,h3,h4,h5⟩:=iS he
 obtain ⟨w,ew,rw'⟩:=r.get h2
 have hl:=r.length
 have hn:=dw
 have fin:EP X EA σ Q w s:=⟨z,H,I,rw',q⟩
 by_cases h0:0≤i
 ·have hj:i.toNat=j:=by
   rw [seqIndex_of h0 h5] at h1
   exact zP h1
  exact item_listR pl.isList h0 (by omega) (by rw [hj];simpa using ew) fin hs
 ·have hj:(i+(EB.toArray.size:Int)).toNat=j:=by
   rw [seqIndex_neg (by omega) h4] at h1
   rw [z8,← hl]
   exact zP h1
  exact subscriptTail_builtinR (x:=w) pl.isList.typeIs slot_list_getitem.lookup
   (wpAny_getItem_list_neg (Q:=fun r s'=>r=w∧EP X EA σ Q r s') pl.isList (by omega) (by rw [z8] <;> omega) (by omega) (by rw [hj];simpa using ew) ⟨rfl,fin⟩) hs
theorem aT:IxR X (yJ X.K):=by
 intro value slice EA s σ H x y v u Q I rx ry h hs
 obtain ⟨p,xs,i,z,rfl,rfl,hq,he,q⟩:=h
 cases rx
 obtain ⟨t,rfl⟩:=ry
 obtain ⟨EB,r,pl,hz⟩:=I.tuple hq
 obtain ⟨j,h1,h2,h3,h4,h5⟩:=iS he
 obtain ⟨w,ew,rw'⟩:=r.get h2
 have hl:=r.length
 have hn:=dw
 have fin:EP X EA σ Q w s:=⟨z,H,I,rw',q⟩
 exact subscriptTail_builtinR (x:=w) pl.typeIs slot_tuple_getitem.lookup
  (getItem_tuple (j:=j) (Q:=fun r s'=>r=w∧EP X EA σ Q r s') pl (by omega) (by omega) (by rw [z8,← hl];exact h1) (by simpa using ew) ⟨rfl,fin⟩) hs
theorem d5:IxR X yK:=by
 intro value slice EA s σ H x y v u Q I rx ry h hs
 obtain ⟨z,i,c,rfl,rfl,hz,he,q⟩:=h
 obtain ⟨t,rfl⟩:=rx
 obtain ⟨t',rfl⟩:=ry
 obtain ⟨j,h1,h2,h3,h4,h5⟩:=iS he
 have hl:z.cps.toList.length=z.length:=by simp [Str.length]
 rw [hl] at h1 h4 h5
 have hn:=dw
 exact tail_any (CW s z t) slot_str_getitem.lookup (getItem_str (c:=c) (by
  have e1:decide (i < -(2 ^ 63:Int))=false:=zH (by omega)
  have e2:decide (i≥2 ^ 63)=false:=zH (by omega)
  rw [e1,e2,D0]) (by rw [h1];simpa using h2) ⟨.str ⟨#[c]⟩,H,I.tok _,⟨_,rfl⟩,q⟩) hs
theorem ko (EB:List Value)(n j:Nat)(u:Value):Obj.mapSeq (·.setIfInBounds j u) { cls:=.type "list",data:=.seq EB.toArray n }={ cls:=.type "list",data:=.seq (EB.set j u).toArray n }:=by
 simp [Obj.mapSeq]
theorem Inv.lst {EA:List (Addr × Obj)}{σ:St}{H:Hp}{s:Shared}{p:Addr}{xs:List V}(I:Inv X EA σ H s)(h:H p=some (.lst xs)) :
  ∃ (EB:List Value) (n:Nat),bh xs EB∧s.heap.get? p=some { cls:=.type "list",data:=.seq EB.toArray n }∧xs.length≤sizeLine:=by
 obtain ⟨z,EB,n,r,e⟩:=I.hok p _ h
 exact ⟨EB,n,r,e,z⟩
theorem Inv.lstUpd {EA:List (Addr × Obj)}{σ:St}{H:Hp}{s:Shared}{p:Addr}{xs ys:List V}{EB its':List Value}{n n':Nat}{f:Obj→Obj}(I:Inv X EA σ H s)(h:H p=some (.lst xs))
  (ho:s.heap.get? p=some { cls:=.type "list",data:=.seq EB.toArray n }) (hf:f { cls:=.type "list",data:=.seq EB.toArray n }={ cls:=.type "list",data:=.seq its'.toArray n' }) (r:bh ys its') (hz:ys.length≤sizeLine) (t:Nat) :
  Inv X EA σ (upd H p (.lst ys)) { s with heap:=s.heap.update p f,toks:=t }:=by
 have e:(s.heap.update p f).get? p=some { cls:=.type "list",data:=.seq its'.toArray n' }:=by
  rw [BX f ho (by rw [hf] <;> rfl),hf]
 refine I.write (x:=p) (e:=p) (by rw [h];trivial) (.inl rfl) (fun b u hb q=>(AL _ _ (Ne.symm hb)).trans q) ⟨_,e⟩ ?_
 exact ⟨hz,its',n',r,e⟩
inductive uY (o:V)(i:V)(v:V)(H:Hp)(Q:(Hp→Prop)):Prop
 | mk:∀ p xs k j,(o = .ref p)→(i = .int k)→(H p=some (.lst xs))→(ixN xs.length k=some j)→(Q (upd H p (.lst (xs.set j v))))→uY o i v H Q
theorem eB:yE X uY:=by
 intro EA s σ H o i v ov iv u Q I ro ri rv h
 obtain ⟨p,xs,k,j,rfl,rfl,hp,hj,q⟩:=h
 cases ro
 obtain ⟨t,rfl⟩:=ri
 obtain ⟨EB,n,r,ho,hz⟩:=I.lst hp
 obtain ⟨h1,h2,h3,h4⟩:=lx hj
 have hl:=r.length
 have hn:=dw
 have I':Inv X EA σ (upd H p (.lst (xs.set j v))) { s with heap:=s.heap.update p (Obj.mapSeq (·.setIfInBounds j u)) } :=
  I.lstUpd hp ho (ko EB n j u) (r.set rv j) (by rw [List.length_set];exact hz) s.toks
 by_cases h0:0≤k
 ·have hk:k.toNat=j:=by
   rw [seqIndex_of h0 h4] at h1
   exact zP h1
  exact PySem.W.ki_setAt ho h0 (by omega) (by rw [z8,← hl];exact h4) (by rw [hk];exact ⟨_,I',q⟩)
 ·have hk:(k+(EB.toArray.size:Int)).toNat=j:=by
   rw [seqIndex_neg (by omega) h3] at h1
   rw [z8,← hl]
   exact zP h1
  exact PySem.W.ki_setBack ho (by omega) (by rw [z8,← hl];exact h3) (by omega) (by rw [hk];exact ⟨_,I',q⟩)
theorem hU (lo hi:Option Int)(n:Nat):(sliceBounds lo hi none n).1=((HT.sIx n 0 lo:Nat):Int)∧(sliceBounds lo hi none n).2.1=((HT.sIx n n hi:Nat):Int)∧(sliceBounds lo hi none n).2.2=1:=by
 refine ⟨?_,?_,rfl⟩
 ·cases lo with
  | none=>simp [sliceBounds,HT.sIx]
  | some i =>
   simp only [sliceBounds,HT.sIx,DB,show (1:Int) > 0 by decide,BI]
   by_cases h:i < 0
   ·simp only [h,BI] <;> omega
   ·simp only [h,A6] <;> omega
 ·cases hi with
  | none=>simp [sliceBounds,HT.sIx]
  | some i =>
   simp only [sliceBounds,HT.sIx,DB,show (1:Int) > 0 by decide,BI]
   by_cases h:i < 0
   ·simp only [h,BI] <;> omega
   ·simp only [h,A6] <;> omega
theorem fS (EB:List Value)(lo hi:Option Int):slicePick EB.toArray lo hi none=((EB.drop (HT.sIx EB.length 0 lo)).take (HT.sIx EB.length EB.length hi - HT.sIx EB.length 0 lo)).toArray:=by
 obtain ⟨h1,h2,h3⟩:=hU lo hi EB.toArray.size
 unfold slicePick
 rw [h1,h2,h3]
 simp only [sliceRange_one,pick_run,z8] <;> rfl
inductive yL (K:PySem.W.Frag)(x:V)(lo:Option Int)(hi:Option Int)(H:Hp)(Q:VK):Prop
 | mk:∀ a xs,(x = .ref a)→(SqL K H a xs)→(∀ p,H p=none→Q (.ref p) (upd H p (.lst (jx xs lo hi))))→yL K x lo hi H Q
theorem fT:SlR X (yL X.K):=by
 intro EA s σ H x v vl vu lo hi sl Q I rx hs pl pu h
 obtain ⟨a,xs,rfl,hx,q⟩:=h
 cases rx
 obtain ⟨EB,r,ht,hz⟩:=I.list hx
 have hlen:=r.length
 refine ⟨"list",_,slot_list_getitem.lookup,ht.isList.typeIs,?_⟩
 refine wpAny_getItem_list_slice ht.isList hs pl pu .none (by simp) ?_ (by rw [z8] <;> omega)
 rw [fS,← hlen]
 refine ⟨.ref s.heap.objs.size,_,I.laid (t':=s.toks) (o:=.lst (jx xs lo hi)) (fun b ob q=>zM _ q) (zU _) ?_,rfl,q _ (I.hok.fresh (zU _))⟩
 exact ⟨AO (iR xs lo hi) hz,_,0,(r.drop (HT.sIx xs.length 0 lo)).take (HT.sIx xs.length xs.length hi - HT.sIx xs.length 0 lo),z_ _ rfl⟩
inductive c_ (K:PySem.W.Frag)(xs:List V)(H:Hp)(Q:VK):Prop
 | mk:∀ p ys,(xs=[.ref p])→((SqL K H p ys ∨ SqT K H p ys))→(Q (.int ys.length) H)→c_ K xs H Q
theorem aQ:di X (.builtin "len") (c_ X.K):=by
 intro EA s σ H xs us Q I r h
 obtain ⟨p,ys,rfl,hq,q⟩:=h
 obtain ⟨u,rfl,rx⟩:=c6 r
 cases rx
 have hn:=dw
 rcases hq with hq | hq
 ·obtain ⟨EB,r',pl,hz⟩:=I.list hq
  have hlen:=r'.length
  exact Calls.call_len_list pl.isList (by simp only [z8] <;> omega) ⟨.int ys.length,H,I.tok _,⟨s.toks+1,by rw [z8,hlen]⟩,q⟩
 ·obtain ⟨EB,r',pl,hz⟩:=I.tuple hq
  have hlen:=r'.length
  exact len_tuple pl (by simp only [z8] <;> omega) ⟨.int ys.length,H,I.tok _,⟨s.toks+1,by rw [z8,hlen]⟩,q⟩
inductive da  (xs:List V)(H:Hp)(Q:VK):Prop
 | mk:∀ z,(xs=[.str z])→(z.length≤sizeLine)→(Q (.int z.length) H)→da xs H Q
theorem az:di X (.builtin "len") da:=by
 intro EA s σ H xs us Q I r h
 obtain ⟨z,rfl,hz,q⟩:=h
 obtain ⟨u,rfl,t,rfl⟩:=c6 r
 have hn:=dw
 exact len_str (by omega) ⟨.int z.length,H,I.tok _,⟨_,rfl⟩,q⟩
inductive de (K:PySem.W.Frag)(xs:List V)(H:Hp)(Q:VK):Prop
 | mk:∀ p ys,(xs=[.ref p])→((SqL K H p ys ∨ SqT K H p ys))→(∀ l,H l=none→Q (.ref l) (upd H l (.lst ys)))→de K xs H Q
theorem hV:di X (.type "list") (de X.K):=by
 intro EA s σ H xs us Q I r h
 obtain ⟨p,ys,rfl,hq,q⟩:=h
 obtain ⟨u,rfl,rx⟩:=c6 r
 cases rx
 have fin:∀ (EB:List Value),bh ys EB→ys.length≤sizeLine→∀ (h':Heap) (c':Nat),(∀ b o',s.heap.get? b=some o'→h'.get? b=some o') →
   h'.get? s.heap.objs.size=some { cls:=.type "list",dict:=none,data:=.seq EB.toArray c',slots:=#[] }→EP X EA σ Q (.ref s.heap.objs.size) { s with heap:=h' }:=fun EB r' hz h' c' kp e =>
  ⟨.ref s.heap.objs.size,_,I.laid (t':=s.toks) kp (zU _) (show bS X.prog X.w _ h' _ (.lst ys) from ⟨hz,EB,c',r',e⟩),rfl,q _ (I.hok.fresh (zU _))⟩
 rcases hq with hq | hq
 ·obtain ⟨EB,r',pl,hz⟩:=I.list hq
  have hlen:=r'.length
  obtain ⟨o,ho,hc,n,hd⟩:=pl.isList
  exact call_list_seq p (.inl rfl) ho hc hd (fun h' c' kp e=>fin EB r' hz h' c' kp e) (by simp only [z8] <;> omega)
 ·obtain ⟨EB,r',pl,hz⟩:=I.tuple hq
  have hlen:=r'.length
  obtain ⟨o,ho,hc,n,hd⟩:=pl
  exact call_list_seq p (.inr rfl) ho hc hd (fun h' c' kp e=>fin EB r' hz h' c' kp e) (by simp only [z8] <;> omega)
inductive cL (K:PySem.W.Frag)(xs:List V)(H:Hp)(Q:VK):Prop
 | mk:∀ p ys,(xs=[.ref p])→(((SqL K H p ys∧∀ l,H l=none→Q (.ref l) (upd H l (.tup ys))) ∨ (SqT K H p ys∧Q (.ref p) H)))→cL K xs H Q
theorem dA:di X (.type "tuple") (cL X.K):=by
 intro EA s σ H xs us Q I r h
 obtain ⟨p,ys,rfl,h⟩:=h
 obtain ⟨u,rfl,rx⟩:=c6 r
 cases rx
 rcases h with ⟨hq,q⟩ | ⟨hq,q⟩
 ·obtain ⟨EB,r',pl,hz⟩:=I.list hq
  have hlen:=r'.length
  refine call_tuple_list pl.isList (fun h' kp=>?_) (by simp only [z8] <;> omega)
  have I1:Inv X EA σ H { s with heap:=h' }:=I.kept (t':=s.toks) kp
  have I2:Inv X EA σ (upd H h'.objs.size (.tup ys)) { s with heap:=h'.push { cls:=.type "tuple",data:=.seq EB.toArray } } :=
   I1.laid (t':=s.toks) (fun b o e=>zM _ e) (zU _) (show bS X.prog X.w _ _ _ (.tup ys) from ⟨hz,EB,r',IsTup.new _ _,.new _ _ rfl⟩)
  exact ⟨.ref h'.objs.size,_,I2,rfl,q _ (I1.hok.fresh (zU _))⟩
 ·obtain ⟨EB,r',pl,hz⟩:=I.tuple hq
  exact call_tuple_same pl ⟨.ref p,H,I,rfl,q⟩
def tyV (K:PySem.W.Frag)(T:String)(x:V)(H:Hp):Prop:=match x with
 | .str _=>T = "str"
 | .int _=>T = "int"
 | .ref p=>(T = "list"∧∃ xs,SqL K H p xs) ∨ (T = "tuple"∧((∃ o,K.lookup p=some o∧o.cls = .type "tuple"∧o.dict=none) ∨ ∃ xs,H p=some (.tup xs))) ∨
   (T = "dict"∧((∃ EC,H p=some (.dK EC)) ∨ ∃ EC,H p=some (.dT EC))) ∨ (T = "set"∧∃ S n,H p=some (.set S n))
 | _=>False
theorem qy {EA:List (Addr × Obj)}{σ:St}{H:Hp}{s:Shared}{T:String}{x:V}{v:Value}(I:Inv X EA σ H s)(r:bC x v)(ty:tyV X.K T x H) :
  s.TypeIs v T∧∀ a,v = .ref a→∃ ob,s.heap.get? a=some ob∧ob.dict=none:=by
 cases x with
 | str z =>
  obtain ⟨t,rfl⟩:=r
  cases (show T = "str" from ty)
  exact ⟨CW s z t,fun _ e=>nomatch e⟩
 | int i =>
  obtain ⟨t,rfl⟩:=r
  cases (show T = "int" from ty)
  exact ⟨typeIs_int s i t,fun _ e=>nomatch e⟩
 | ref p =>
  cases r
  rcases ty with ⟨rfl,xs,hq⟩ | ⟨rfl,⟨o,hk,hc,hd⟩ | ⟨xs,hk⟩⟩ | ⟨rfl,hk⟩ | ⟨rfl,S,n,hk⟩
  ·obtain ⟨EB,_,pl,_⟩:=I.list hq
   refine ⟨pl.isList.typeIs,fun a e=>?_⟩
   cases e
   obtain ⟨o,n,e,c,hd,_⟩:=pl
   exact ⟨o,e,hd⟩
  ·refine ⟨⟨o,I.kIn p o hk,hc⟩,fun a e=>?_⟩
   cases e
   exact ⟨o,I.kIn _ o hk,hd⟩
  ·obtain ⟨_,_,_,⟨o,e,hc,_⟩,hn⟩:=I.hok p _ hk
   refine ⟨⟨o,e,hc⟩,fun a e=>?_⟩
   cases e
   exact hn
  ·have z:∃ o,s.heap.get? p=some o∧o.ExactDict:=by
    rcases hk with ⟨EC,hk⟩ | ⟨EC,hk⟩
    ·obtain ⟨_,_,_,_,o,_,_,e,ex,_⟩:=I.hok p _ hk
     exact ⟨o,e,ex⟩
    ·obtain ⟨_,_,_,_,o,_,_,e,ex,_⟩:=I.hok p _ hk
     exact ⟨o,e,ex⟩
   obtain ⟨o,e,ex⟩:=z
   refine ⟨⟨o,e,ex.1⟩,fun a e2=>?_⟩
   cases e2
   exact ⟨o,e,ex.2.1⟩
  ·obtain ⟨o,_,_,_,e,ex,_⟩:=I.hok p _ hk
   refine ⟨⟨o,e,ex.1⟩,fun a e2=>?_⟩
   cases e2
   exact ⟨o,e,ex.2.1⟩
 | _=>exact False.elim ty
def rG (K:PySem.W.Frag)(T:String)(r:V→List V→Hp→VK→Prop)(Q:VK):V→Hp→Prop:=fun x H1=>tyV K T x H1∧r x [] H1 Q
def yM (K:PySem.W.Frag)(T:String)(r:V→List V→Hp→VK→Prop)(to:TE):TE:=fun σ H Q=>to σ H (rG K T r Q)
def uZ (r:V→List V→Hp→VK→Prop)(Q:VK)(x:V):List V→Hp→Prop:=fun xs H2=>r x xs H2 Q
def u3 (K:PySem.W.Frag)(T:String)(r:V→List V→Hp→VK→Prop)(t:TA)(σ:St)(Q:VK):V→Hp→Prop:=fun x H1=>tyV K T x H1∧t σ H1 (uZ r Q x)
def tBM (K:PySem.W.Frag)(T:String)(r:V→List V→Hp→VK→Prop)(to:TE)(t:TA):TE:=fun σ H Q=>to σ H (u3 K T r t σ Q)
variable {o e:Expr} {es:List Expr} {to:TE} {t:TA} {name:Str} {apos ER:Pos} {T id:String} {r:V→List V→Hp→VK→Prop}
theorem qz (pa:PlainAttrs T)(slot:Slot T name id)(hty:typeOf (.builtin id)=pure (.type "method_descriptor"))(hm:MtR X id r)(ho:PE X o to)
  (E4:attributeBase o name X.env (eval o X.env)=eval o X.env:=by rfl) (E3:(apos.endLine == ER.line)=true:=by rfl):PE X (.Call (.Attribute o name apos) [] [] ER) (yM X.K T r to):=by
 intro EA s σ H Q I h
 refine wpAny_Call_method0_late E4 E3 (thn (ho EA s σ H _ I h) fun v s1 zq65=>?_)
 obtain ⟨x,H1,I1,r1,ty,q1⟩:=zq65
 obtain ⟨h1,h2⟩:=qy I1 r1 ty
 exact ⟨T,id,pa,slot,hty,h1,h2,Calls.callWith_builtin rfl (PySem.evalArgs_none (hm EA s1 σ H1 x [] v [] Q I1 r1 .nil q1))⟩
theorem cH (pa:PlainAttrs T)(slot:Slot T name id)(hty:typeOf (.builtin id)=pure (.type "method_descriptor"))(hm:MtR X id r)(ho:PE X o to)(ha:PA X (e::es) t)
  (E4:attributeBase o name X.env (eval o X.env)=eval o X.env:=by rfl)
  (hfew:((backTo ER (starEach (e::es) X.env)).all (fun x=>!x.1) && (backToKw ER (keywordEach [] X.env)).all (fun x=>x.1.isSome)
   && decide ((e::es).length+([]:List Keyword).length+(if ([]:List Keyword).isEmpty then 0 else 1) < 30))=true:=by rfl)
  (E3:(apos.endLine == ER.line)=true:=by rfl) (hs:starEach (e::es) X.env=(false,eval e X.env)::starEach es X.env:=by rfl) (hplain:(backTo ER (starEach es X.env)).any (·.1)=false:=by rfl) :
  PE X (.Call (.Attribute o name apos) (e::es) [] ER) (tBM X.K T r to t):=by
 intro EA s σ H Q I h
 refine wpAny_Call_method_late E4 hfew E3 rfl (thn (ho EA s σ H _ I h) fun v s1 zq66=>?_)
 obtain ⟨x,H1,I1,r1,ty,q1⟩:=zq66
 obtain ⟨h1,h2⟩:=qy I1 r1 ty
 refine ⟨T,id,pa,slot,hty,h1,h2,?_⟩
 have hA:=ha ER EA s1 σ H1 _ I1 q1
 rw [hs] at hA ⊢
 refine Calls.callWith_builtin (by show (false || (backTo ER (starEach es X.env)).any (·.1))=false;rw [hplain] <;> rfl) (Calls.evalArgs_plain ?_)
 exact thn hA fun us s2 zq67=>(by obtain ⟨vs,H2,I2,r2,q2⟩:=zq67;exact hm EA s2 σ H2 x vs v us Q I2 r1 r2 q2)
/- xs.append(e),list.index on a module's tuple .. are MtR facts of 06m -/
end
def MtM (X:Cx)(id:String)(r:V→List V→Hp→VK→Prop):Prop :=
 ∀ (EA:List (Addr × Obj)) (s:Shared) (σ:St) (H:Hp) (x:V) (xs:List V) (v:Value) (us:List Value) (Q:VK),Inv X EA σ H s→bC x v→bh xs us→r x xs H Q →
  wpAny (model X.prog X.w) X.A (call (.builtin id) (v::us)) (EP X EA σ Q) X.xe s
theorem bh.one:∀ {x:V} {us:List Value},bh [x] us→∃ u,us=[u]∧bC x u
 | _,_,.cons r .nil=>⟨_,rfl,r⟩
theorem bh.zero:∀ {us:List Value},bh [] us→us=[]
 | _,.nil=>rfl
theorem bh.dropLast {xs:List V}{us:List Value}(h:bh xs us):bh xs.dropLast us.dropLast:=by
 induction h with
 | nil=>exact .nil
 | cons r t ih =>
  cases t with
  | nil=>exact .nil
  | cons q t'=>exact .cons r ih
theorem kq {α:Type}(l:List α):l.eraseIdx (l.length - 1)=l.dropLast:=by
 induction l with
 | nil=>rfl
 | cons a r ih =>
  cases r with
  | nil=>rfl
  | cons b r =>
   have e:(a::b::r).length - 1=((b::r).length - 1)+1:=by
    have h1:(a::b::r).length=r.length+2:=rfl
    have h2:(b::r).length=r.length+1:=rfl
    omega
   rw [e,List.eraseIdx_cons_succ,ih]
   all_goals rfl
section
variable {X:Cx} {EA:List (Addr × Obj)} {σ:St} {H:Hp} {s:Shared} {l b:Addr} {xs ys zs:List V}
theorem Inv.lset {EB its':List Value}{n:Nat}{f:Array Value→Array Value}{t':Nat}(I:Inv X EA σ H s)(hH:H l=some (.lst xs))
  (e:s.heap.get? l=some { cls:=.type "list",data:=.seq EB.toArray n }) (hf:f EB.toArray=its'.toArray) (hv:bh ys its') (hz:ys.length≤sizeLine) :
  Inv X EA σ (upd H l (.lst ys)) { s with heap:=s.heap.update l (Obj.mapSeq f),toks:=t' }:=by
 have q:=PySem.IsL.update e f
 rw [hf] at q
 refine I.write (x:=l) (e:=l) (by rw [hH];exact trivial) (.inl rfl) (fun b' u hb hu=>(AL s.heap (Obj.mapSeq f) (Ne.symm hb)).trans hu) ⟨_,q⟩ ?_
 exact ⟨hz,its',_,hv,q⟩
theorem Inv.lstM (I:Inv X EA σ H s)(hH:H l=some (.lst xs)):xs.length≤sizeLine∧∃ (EB:List Value) (n:Nat),bh xs EB∧xs.length=EB.length∧s.heap.get? l=some { cls:=.type "list",data:=.seq EB.toArray n }:=by
 obtain ⟨z,EB,n,r,e⟩:=I.hok l _ hH
 exact ⟨z,EB,n,r,r.length,e⟩
theorem oZ {n:Nat}(h:n≤sizeLine):Builtin.List.listTooLong n=false:=by
 unfold Builtin.List.listTooLong
 exact zH (by omega)
end
section
variable {X:Cx}
inductive lA (x:V)(vs:List V)(H:Hp)(Q:VK):Prop
 | mk:∀ l xs y,(x = .ref l)→(vs=[y])→(H l=some (.lst xs))→(xs.length < sizeLine)→(Q .non (upd H l (.lst (xs++[y]))))→lA x vs H Q
theorem eN:MtM X "list.append" lA:=by
 intro EA s σ H x vs v us Q I rx rv h
 obtain ⟨l,xs,y,rfl,rfl,hH,hz,q⟩:=h
 cases rx
 obtain ⟨u,rfl,ru⟩:=rv.one
 obtain ⟨z,EB,n,r,hl,e⟩:=I.lstM hH
 refine DV F.slot_list_append ⟨_,e,rfl⟩ F.entry_list_append (F.args_list_append_2 _ _) (PySem.list_append l EB.toArray n u (by rw [z8];omega)) ⟨e,?_⟩
 refine ⟨.non,_,I.lset (its':=EB++[u]) hH e (by simp) (r.append (.cons ru .nil)) ?_,rfl,q⟩
 rw [zI,Aq]
 omega
inductive lD (x:V)(vs:List V)(H:Hp)(Q:VK):Prop
 | mk:∀ l b xs zs,(x = .ref l)→(vs=[.ref b])→(H l=some (.lst xs))→(H b=some (.lst zs))→(xs.length+zs.length≤sizeLine)→(Q .non (upd H l (.lst (xs++zs))))→lD x vs H Q
theorem eO:MtM X "list.extend" lD:=by
 intro EA s σ H x vs v us Q I rx rv h
 obtain ⟨l,b,xs,zs,rfl,rfl,hH,hB,hz,q⟩:=h
 cases rx
 obtain ⟨u,rfl,ru⟩:=rv.one
 cases ru
 obtain ⟨z,EB,n,r,hl,e⟩:=I.lstM hH
 obtain ⟨z2,E2,n2,r2,hl2,e2⟩:=I.lstM hB
 have hsz:EB.toArray.size+E2.toArray.size≤sizeLine:=by rw [z8,z8];omega
 have hlong:¬ (!EB.toArray.isEmpty && Builtin.List.listTooLong (EB.toArray.size+E2.toArray.size))=true:=by
  rw [oZ hsz,BS]
  exact An
 refine DV F.slot_list_extend ⟨_,e,rfl⟩ F.entry_list_extend (F.args_list_extend_2 _ _)
  (AutoSeq1.list_extend_list_list_0 l EB.toArray n b E2.toArray n2 hlong (by rw [z8];omega) (by omega)) ⟨e,e2,?_⟩
 refine ⟨.non,_,I.lset (its':=EB++E2) hH e (by simp) (r.append r2) ?_,rfl,q⟩
 rw [zI]
 omega
inductive yN (x:V)(vs:List V)(H:Hp)(Q:VK):Prop
 | mk:∀ l xs y,(x = .ref l)→(vs=[])→(H l=some (.lst xs))→(xs[xs.length - 1]? = some y)→(Q y (upd H l (.lst xs.dropLast)))→yN x vs H Q
theorem u4:MtM X "list.pop" yN:=by
 intro EA s σ H x vs v us Q I rx rv h
 obtain ⟨l,xs,y,rfl,rfl,hH,hy,q⟩:=h
 cases rx
 have hus:=rv.zero
 subst hus
 obtain ⟨z,EB,n,r,hl,e⟩:=I.lstM hH
 obtain ⟨u,hu,ru⟩:=r.get hy
 have hy':EB.toArray[EB.toArray.size - 1]? = some u:=by
  show EB.toArray[EB.length - 1]? = some u
  rw [← Au,← hl]
  exact hu
 refine DV F.slot_list_pop ⟨_,e,rfl⟩ F.entry_list_pop (F.args_list_pop_1 _) (MeetsSeq.list_pop_last l EB.toArray n u hy' (by rw [z8];omega)) ⟨e,?_⟩
 refine ⟨y,_,I.lset (its':=EB.dropLast) hH e ?_ r.dropLast ?_,ru,q⟩
 ·show EB.toArray.eraseIdxIfInBounds (EB.toArray.size - 1)=EB.dropLast.toArray
  rw [z8,List.eraseIdxIfInBounds_toArray,kq]
 ·rw [List.length_dropLast]
  omega
end
section
variable {prog:Program} {w:World} {A:Around} {E:Value→Shared→Prop} {s:Shared}
end
section
variable {X:Cx}
end
section
variable {κ:Type} [DecidableEq κ]
def jz (EC:List (κ × V))(k:κ):Option V:=(EC.find? fun kv=>decide (kv.1=k)).map (·.2)
def iT (EC:List (κ × V))(k:κ)(v:V):List (κ × V) :=
 if (EC.any fun kv=>decide (kv.1=k))=true then EC.map (fun kv=>if kv.1=k then (kv.1,v) else kv) else EC++[(k,v)]
theorem fU {p:κ × V}{r:List (κ × V)}{k:κ}(e:p.1=k):jz (p::r) k=some p.2:=by simp [jz,BY,e]
theorem fV {p:κ × V}{r:List (κ × V)}{k:κ}(e:¬ p.1=k):jz (p::r) k=jz r k:=by simp [jz,BY,e]
theorem eD (k:κ):∀ EC:List (κ × V),(EC.any fun kv=>decide (kv.1=k))=(jz EC k).isSome
 | []=>rfl
 | p::r=>by
  rw [D1]
  by_cases e:p.1=k
  ·simp only [fU e,zQ e,Bool.true_or,Option.isSome_some]
  ·rw [fV e,zH e,Bool.false_or];exact eD k r
theorem eP (EC:List (κ × V))(k:κ)(v:V):(iT EC k v).length≤EC.length+1:=by
 unfold iT
 split
 ·rw [zV];omega
 ·rw [zI,AC,A4];omega
theorem o3 {EC:List (κ × V)}{k:κ}(v:V)(h:jz EC k=none):iT EC k v=EC++[(k,v)]:=by
 unfold iT
 rw [eD,h]
 exact if_neg (by decide)
theorem uo.isSome_eq {o:Option V}{u:Option Value}(r:uo o u):o.isSome=u.isSome:=by
 cases o with
 | none=>cases u with
  | none=>rfl
  | some _=>exact (show False from r).elim
 | some _=>cases u with
  | none=>exact (show False from r).elim
  | some _=>rfl
theorem KV.val {EC:List (κ × V)}{vs:List (κ × Value)}(r:KV EC vs)(k:κ):uo (jz EC k) (valueAt vs k):=by
 unfold KV at r
 induction r with
 | nil=>exact True.intro
 | @cons p q ps qs h t ih =>
  obtain ⟨h1,h2⟩:=h
  by_cases e:p.1=k
  ·have e':q.1=k:=h1.symm.trans e
   have b:valueAt (q::qs) k=some q.2:=by simp [valueAt,BY,e']
   rw [fU e,b];exact h2
  ·have e':¬ q.1=k:=fun z=>e (h1.trans z)
   have b:valueAt (q::qs) k=valueAt qs k:=by simp [valueAt,BY,e']
   rw [fV e,b];exact ih
theorem KV.any {EC:List (κ × V)}{vs:List (κ × Value)}(r:KV EC vs)(k:κ):(EC.any fun kv=>decide (kv.1=k))=vs.any fun kv=>decide (kv.1=k):=by
 unfold KV at r
 induction r with
 | nil=>rfl
 | cons h t ih=>rw [D1,D1,ih,h.1]
theorem KV.repl {EC:List (κ × V)}{vs:List (κ × Value)}(r:KV EC vs)(k:κ){y:V}{u:Value}(ry:bC y u) :
  KV (EC.map fun kv=>if kv.1=k then (kv.1,y) else kv) (vs.map fun kv=>if kv.1=k then (kv.1,u) else kv):=by
 unfold KV at r ⊢
 induction r with
 | nil=>exact .nil
 | @cons p q ps qs h t ih =>
  rw [AA,AA]
  refine .cons ?_ ih
  obtain ⟨h1,h2⟩:=h
  by_cases e:p.1=k
  ·rw [if_pos e,if_pos (h1.symm.trans e)];exact ⟨h1,ry⟩
  ·rw [if_neg e,if_neg (fun z=>e (h1.trans z))];exact ⟨h1,h2⟩
theorem KV.put {EC:List (κ × V)}{vs:List (κ × Value)}(r:KV EC vs)(k:κ){y:V}{u:Value}(ry:bC y u):KV (iT EC k y) (stored vs k u):=by
 unfold iT stored
 rw [r.any k]
 by_cases e:(vs.any fun kv=>decide (kv.1=k))=true
 ·rw [if_pos e,if_pos e];exact r.repl k ry
 ·rw [if_neg e,if_neg e];exact Paired.snoc r ⟨rfl,ry⟩
theorem KV.length {EC:List (κ × V)}{vs:List (κ × Value)}(r:KV EC vs):EC.length=vs.length:=Dp r
end
theorem rH {P:Program}{w:World}{k:Key}{u:Value}(r:bC (kV k) u):(bt P w).is k u=true:=by
 cases k with
 | inl i=>obtain ⟨t,e⟩:=(show ∃ t,u=Value.int i t from r);subst e;exact iN P w i t
 | inr x=>obtain ⟨t,e⟩:=(show ∃ t,u=Value.str x t from r);subst e;exact iO P w x t
theorem h_ {P:Program}{w:World}:∀ {ks:List Key} {us:List Value},bh (ks.map kV) us→ItemsAre (bt P w) ks us
 | [],_,r=>by rw [DP] at r;cases r;exact .nil
 | k::ks,_,r=>by
  rw [AA] at r
  cases r with
  | cons h t=>exact .cons (rH h) (h_ t)
abbrev KT (H:Hp):List (List Key × V)→List (List Key × Addr × Value)→Prop:=Paired fun p q=>p.1=q.1∧H q.2.1=some (.tup (p.1.map kV))∧bC p.2 q.2.2
theorem KT.val {H:Hp}{EC:List (List Key × V)}{xs:List (List Key × Addr × Value)}(r:KT H EC xs)(k:List Key):uo (jz EC k) ((atKey xs k).map (·.2)):=by
 induction r with
 | nil=>exact True.intro
 | @cons p q ps qs h t ih =>
  obtain ⟨h1,_,h2⟩:=h
  by_cases e:p.1=k
  ·have e':q.1=k:=h1.symm.trans e
   have b:atKey (q::qs) k=some q.2:=by simp [atKey,BY,e']
   rw [fU e,b];exact h2
  ·have e':¬ q.1=k:=fun z=>e (h1.trans z)
   have b:atKey (q::qs) k=atKey qs k:=by simp [atKey,BY,e']
   rw [fV e,b];exact ih
theorem KT.repl {H:Hp}{EC:List (List Key × V)}{xs:List (List Key × Addr × Value)}(r:KT H EC xs)(k:List Key){y:V}{u:Value}(ry:bC y u) :
  KT H (EC.map fun kv=>if kv.1=k then (kv.1,y) else kv) (xs.map (putAt k u)):=by
 induction r with
 | nil=>exact .nil
 | @cons p q ps qs h t ih =>
  rw [AA,AA]
  refine .cons ?_ ih
  obtain ⟨h1,h2,h3⟩:=h
  unfold putAt
  by_cases e:p.1=k
  ·rw [if_pos e,if_pos (h1.symm.trans e)];exact ⟨h1,h2,ry⟩
  ·rw [if_neg e,if_neg (fun z=>e (h1.trans z))];exact ⟨h1,h2,h3⟩
theorem KT.put {H:Hp}{EC:List (List Key × V)}{xs:List (List Key × Addr × Value)}(r:KT H EC xs)(k:List Key){b:Addr}{y:V}{u:Value}(hb:H b=some (.tup (k.map kV)))(ry:bC y u) :
  KT H (iT EC k y) (storedH xs k b u):=by
 have e:(EC.any fun kv=>decide (kv.1=k))=(atKey xs k).isSome:=by
  rw [eD,(r.val k).isSome_eq,Option.isSome_map]
 unfold iT storedH
 rw [e]
 by_cases q:(atKey xs k).isSome=true
 ·rw [if_pos q,if_pos q];exact r.repl k ry
 ·rw [if_neg q,if_neg q];exact Paired.snoc r ⟨rfl,hb,ry⟩
theorem KT.keeps {H H':Hp}{EC:List (List Key × V)}{xs:List (List Key × Addr × Value)}(r:KT H EC xs)(ht:∀ b ys,H b=some (.tup ys)→H' b=some (.tup ys)):KT H' EC xs :=
 Paired.mapP r fun _ _ z=>⟨z.1,ht _ _ z.2.1,z.2.2⟩
section
variable {P:Program} {w:World} {H:Hp} {h:Heap} {a:Addr}
theorem u5 {u:HO}(ok:HOk P w H h)(e:Rd H a u):bS P w H h a u:=e.ok ok
theorem u6 {EC:List (Key × V)}(ok:HOk P w H h)(e:Rd H a (.dK EC)):EC.length≤sizeLine∧(a == sysModules)=false∧∃ vs,KV EC vs∧h.DictOf (bt P w) a vs :=
 show bS P w H h a (.dK EC) from u5 ok e
theorem xr {EC:List (Key × V)}(ok:HOk P w H h)(e:H a=some (.dK EC)):EC.length≤sizeLine∧(a == sysModules)=false∧∃ vs,KV EC vs∧h.DictOf (bt P w) a vs:=u6 ok (.inl e)
theorem lF {ks:List Key}(ok:HOk P w H h)(e:H a=some (.tup (ks.map kV))):(tupleKind (bt P w)).is h ks a:=by
 obtain ⟨_,EB,r,⟨o,h1,h2,n,h3⟩,_⟩:=(show bS P w H h a (.tup (ks.map kV)) from ok a _ e)
 exact ⟨o,EB.toArray,n,h1,h2,h3,by simpa using h_ r⟩
theorem u7 {EC:List (List Key × V)}(ok:HOk P w H h)(e:Rd H a (.dT EC)):EC.length≤sizeLine∧(a == sysModules)=false ∧
  ∃ xs,KT H EC xs∧h.DictOfH (tupleKind (bt P w)) a xs:=by
 obtain ⟨z,y,xs,r,o,es,ep,h1,h2,h3,h4,h5⟩:=(show bS P w H h a (.dT EC) from u5 ok e)
 refine ⟨z,y,xs,r,o,es,ep,h1,h2,h3,h4,fun x hx=>?_,h5⟩
 have all:∀ {l:List (List Key × V)} {m:List (List Key × Addr × Value)},KT H l m→∀ x∈m,(tupleKind (bt P w)).is h x.1 x.2.1:=by
  intro l m q
  induction q with
  | nil=>intro x hx;exact nomatch hx
  | @cons p q ps qs hq t ih =>
   intro x hx
   rcases Ae.mp hx with e | hx
   ·subst e
    exact lF ok (by rw [← hq.1];exact hq.2.1)
   ·exact ih x hx
 exact all r x hx
theorem xt {EC:List (List Key × V)}(ok:HOk P w H h)(e:H a=some (.dT EC)):EC.length≤sizeLine∧(a == sysModules)=false ∧
  ∃ xs,KT H EC xs∧h.DictOfH (tupleKind (bt P w)) a xs:=u7 ok (.inl e)
end
def uq (H:Hp)(a:Addr)(y:V)(r:Option V):Prop :=
 (∃ EC k,Rd H a (.dK EC)∧y=kV k∧r=jz EC k) ∨ ∃ EC k b,Rd H a (.dT EC)∧y = .ref b∧H b=some (.tup (k.map kV))∧r=jz EC k
def rJ (H:Hp)(a:Addr)(y v:V)(H':Hp):Prop :=
 (∃ EC k,H a=some (.dK EC)∧y=kV k∧EC.length < sizeLine∧H'=upd H a (.dK (iT EC k v))) ∨
 ∃ EC k b,H a=some (.dT EC)∧y = .ref b∧H b=some (.tup (k.map kV))∧EC.length < sizeLine∧H'=upd H a (.dT (iT EC k v))
theorem uq.k {H:Hp}{a:Addr}{EC:List (Key × V)}{k:Key}(e:H a=some (.dK EC)):uq H a (kV k) (jz EC k):=.inl ⟨EC,k,.inl e,rfl,rfl⟩
theorem rJ.k {H:Hp}{a:Addr}{EC:List (Key × V)}{k:Key}{v:V}(e:H a=some (.dK EC))(hl:EC.length < sizeLine):rJ H a (kV k) v (upd H a (.dK (iT EC k v))):=.inl ⟨EC,k,e,rfl,hl,rfl⟩
section
variable {X:Cx} {EA:List (Addr × Obj)} {σ:St} {H:Hp} {s:Shared} {a:Addr} {y v:V} {u r:Value} {o:Option V} {A:Around} {E:Value→Shared→Prop}
theorem Inv.big (I:Inv X EA σ H s):sysModules < s.heap.objs.size:=by
 have h:mainGlobals < s.heap.objs.size:=(I.mod.glob.keeps I.bk).lt
 exact D5 (by decide) h
theorem rK {Q:Value→Shared→Prop}(hu:A.units+1 < cLine)(I:Inv X EA σ H s)(g:uq H a y o)(ry:bC y u)(h:∀ s',Inv X EA σ H s'→Q (.bool (!o.isSome)) s') :
  wpAny (model X.prog X.w) A (compareOp .NotIn u (.ref a)) Q E s:=by
 rcases g with ⟨EC,k,e,ey,l⟩ | ⟨EC,k,b,e,ey,eb,l⟩
 ·subst ey
  obtain ⟨z,hd,vs,rel,dd⟩:=u6 I.hok e
  refine wpAny_notIn_of (rH ry) hd dd.mapOf ?_
  rw [← (rel.val k).isSome_eq,← l]
  exact h _ (I.tok _)
 ·subst ey
  cases (show u=Value.ref b from ry)
  obtain ⟨z,hd,xs,rel,dd⟩:=u7 I.hok e
  refine wpAny_notIn_heap (tupleKind_room_in1 hu) (lF I.hok eb) hd dd ?_
  have q:=(rel.val k).isSome_eq
  rw [Option.isSome_map] at q
  rw [← q,← l]
  exact h _ (I.tok _)
theorem lG {h':Heap}{t':Nat}{ob:HO}(I:Inv X EA σ H s)(mu:Mut (H a))(hs:Heap.SameBut a s.heap h')(he:∃ q,h'.get? a=some q)(new:bS X.prog X.w (upd H a ob) h' a ob) :
  Inv X EA σ (upd H a ob) { s with heap:=h',toks:=t' } :=
 I.write (x:=a) (e:=a) mu (.inl rfl) (fun b q hb z=>(hs.2 b hb).trans z) he new
theorem u9 {P:Program}{w:World}{H':Hp}{h':Heap}{EC:List (Key × V)}{vs:List (Key × Value)}(z:EC.length≤sizeLine)(hd:(a == sysModules)=false)(rel:KV EC vs)(dd:h'.DictOf (bt P w) a vs) :
  bS P w H' h' a (.dK EC):=⟨z,hd,vs,rel,dd⟩
theorem lH {H':Hp}{Q:Unit→Shared→Prop}(hu:A.units+1 < cLine)(I:Inv X EA σ H s)(g:rJ H a y v H')(ry:bC y u)(rv:bC v r)(h:∀ s',Inv X EA σ H' s'→Q () s') :
  wpAny (model X.prog X.w) A (setItem (.ref a) u r) Q E s:=by
 rcases g with ⟨EC,k,e,ey,l,eH⟩ | ⟨EC,k,b,e,ey,eb,l,eH⟩
 ·subst ey eH
  obtain ⟨z,hd,vs,rel,dd⟩:=xr I.hok e
  have hz:vs.length≤sizeLine:=by rw [← rel.length];exact z
  have hl:(iT EC k v).length≤sizeLine:=by have:=eP EC k v;omega
  refine wpAny_setItem_pairs (hsz:=hz) (rH ry) dd fun h' dd' hs=>h _ ?_
  have he:∃ q,h'.get? a=some q:=let ⟨q,_,_,hq,_⟩:=dd';⟨q,hq⟩
  exact lG I (by rw [e];exact True.intro) hs he (u9 hl hd (rel.put k rv) dd')
 ·subst ey eH
  cases (show u=Value.ref b from ry)
  obtain ⟨z,hd,xs,rel,dd⟩:=xt I.hok e
  have hz:xs.length≤sizeLine:=by rw [← Dp rel];exact z
  have hl:(iT EC k v).length≤sizeLine:=by have:=eP EC k v;omega
  refine wpAny_setItem_heap (hsz:=hz) (tupleKind_room_in1 hu) (lF I.hok eb) dd fun h' dd' hs=>h _ ?_
  obtain ⟨q,es,ep,hq,h2,h3,h4,_,h5⟩:=dd'
  refine lG I (by rw [e];exact True.intro) hs ⟨q,hq⟩ ⟨hl,hd,_,(rel.put k eb rv).keeps fun c ys ec=>?_,q,es,ep,hq,h2,h3,h4,h5⟩
  rw [aM (uC ec e (fun z=>nomatch z))]
  exact ec
end
section
variable {X:Cx} {EA:List (Addr × Obj)} {σ:St} {H:Hp} {s:Shared} {a:Addr} {EC:List (Key × V)} {k:Key} {u:Value} {A:Around} {E:Value→Shared→Prop}
end
def lI (ty td:TE):TE:=fun σ H Q=>ty σ H fun y H1=>td σ H1 fun x H2=>∃ a o,x = .ref a∧uq H2 a y o∧Q (.bl (!o.isSome)) H2
def xu (td ty tv:TE):TS:=fun D σ H=>tv σ H fun v H1=>td σ H1 fun x H2=>ty σ H2 fun y H3=>∃ a H4,x = .ref a∧rJ H3 a y v H4∧D.nx σ H4
section
variable {X:Cx} {o i e value:Expr} {pos pos' tpos:Pos} {td ty tv:TE}
theorem lJ (hu:X.A.units+1 < cLine)(hi:PE X i ty)(ho:PE X o td):PC X .NotIn i o (lI ty td):=by
 intro EA s σ H Q I h
 refine thn (hi EA s σ H _ I h) fun iv s1 ⟨y,H1,I1,ry,q1⟩=>thn (ho EA s1 σ H1 _ I1 q1) fun u s2 zq70=>?_
 obtain ⟨x,H2,I2,rx,a,ov,ex,g,q2⟩:=zq70
 subst ex
 obtain rfl:u=Value.ref a:=rx
 exact rK hu I2 g ry fun s3 I3=>⟨.bl (!ov.isSome),H2,I3,rfl,q2⟩
theorem rL (hu:X.A.units+1 < cLine)(ho:PE X o td)(hi:PE X i ty)(hv:PE X value tv)(hs:swapsWith value (some (.Subscript o i pos')) pos.line X.env=pure false) :
  PS X (.Assign [.Subscript o i pos'] value pos) (xu td ty tv):=by
 intro EA s σ H D I h
 refine wpAny_Assign_Subscript (thn (hv EA s σ H _ I h) fun r s1 ⟨v,H1,I1,rv,q1⟩=>thn (ho EA s1 σ H1 _ I1 q1) fun u s2 ⟨x,H2,I2,rx,q2⟩=>thn (hi EA s2 σ H2 _ I2 q2) fun iv s3 zq71=>?_) hs
 obtain ⟨y,H3,I3,ry,a,H4,ex,g,q3⟩:=zq71
 subst ex
 obtain rfl:u=Value.ref a:=rx
 exact lH hu I3 g ry rv fun s4 I4=>⟨σ,H4,I4,q3⟩
end
theorem o4 {P:Program}{w:World}{H:Hp}(h:Heap)(hb:sysModules < h.objs.size):bS P w H (h.push { cls:=.type "dict",data:=.dict #[] }) h.objs.size (.dK []) :=
 ⟨Ay _,beq_eq_false_iff_ne.mpr (Ne.symm (AJ hb)),[],.nil,Heap.DictOf.new h⟩
def u_:TE:=fun _ H Q=>∀ p,H p=none→Q (.ref p) (upd H p (.dK []))
section
variable {X:Cx} {pos:Pos}
theorem o5:PE X (.Dict [] [] pos) u_:=fun EA s σ H Q I h =>
 wpAny_Dict_empty ⟨.ref s.heap.objs.size,_,I.laid (a:=s.heap.objs.size) (o:=.dK []) (t':=s.toks) (fun _ _ q=>zM _ q) (zU _) (o4 s.heap I.big),rfl,h _ (I.hok.fresh (zU _))⟩
end
section
variable {X:Cx} {EA:List (Addr × Obj)} {σ:St} {H:Hp} {s:Shared} {a:Addr} {y d:V} {u r:Value} {o:Option V} {A:Around} {E:Value→Shared→Prop}
end
section
variable {X:Cx} {o e f:Expr} {apos ER:Pos} {td ty tx:TE}
end
section
variable {X:Cx} {EA:List (Addr × Obj)} {σ:St} {H:Hp} {s:Shared} {a:Addr} {EC:List (Key × V)} {A:Around} {E:Value→Shared→Prop}
end
section
variable {X:Cx} {EA:List (Addr × Obj)} {σ:St} {H:Hp} {s:Shared} {a:Addr} {y:V} {u:Value} {A:Around} {E:Value→Shared→Prop}
end
end L2
namespace Att
open PySem PySem.W PySem.Calls PyProof.Rows
theorem eQ {P:Params}{h:Heap}:∀ (ns:List Int) (vs:List Value),WellAll P h vs (ns.map WData.int)→IntsAre vs ns:=by
 intro ns
 induction ns with
 | nil =>
  intro vs w
  rw [DP] at w
  cases w
  exact .nil
 | cons n ns ih =>
  intro vs w
  rw [AA] at w
  cases w with
  | cons a b =>
   cases a
   exact .cons _ _ (ih _ b)
theorem lK {l:OpenLaw}{n:Nat}(hn:l.most=some n){P:Params}{h:Heap}{args:List WData}{vals:List Value}
  (hpre:l.row.toRowW.claim.pre args=true) (hwl:WellAll P h vals args) :
  ∃ a vs ns,vals=[Value.ref a]∧args=[WData.list (ns.map WData.int)]∧h.get? a=some { cls:=.type "list",data:=.seq vs.toArray }∧IntsAre vs ns∧ns.length≤n:=by
 have hsh:WShape.hasAll [] args [.list .int]=true:=(pre_splitW hpre).1
 have hc:l.pre.holds [] { args:=args }=true:=(pre_splitW hpre).2
 obtain ⟨d,r,rfl,h1,h2⟩:=hasAllW_cons hsh
 obtain rfl:=hasAllW_nil h2
 obtain ⟨xs,rfl,h3⟩:=hasW_list h1
 obtain ⟨ns,rfl⟩:=items_int h3
 have hlen:ns.length≤n:=by
  unfold OpenLaw.pre at hc
  have h4:(WTm.not (.lt (.lit (.int (n:Int))) (.len (.arg 0)))).holds [] { args:=[.list (ns.map .int)] }=true:=by
   have h4:=(holds_andW hc).1
   rw [hn] at h4
   exact h4
  have h5:=condW_of h4 (w_not (w_lt w_lit (w_len_list (w_arg rfl))))
  rw [zV] at h5
  refine Nat.le_of_not_lt fun q=>?_
  have q':(n:Int) < ((ns.length:Nat):Int):=by omega
  first
   | (rw [zQ q'] at h5;exact absurd h5 (by decide))
   | (simp at h5;omega)
 cases hwl with
 | cons w1 w2 =>
  cases w2
  cases w1 with
  | list ho hall=>exact ⟨_,_,ns,rfl,rfl,ho,eQ ns _ hall,hlen⟩
theorem lL (l:OpenLaw)(args:List WData):l.row.toRowW.claim.post args (.bool true) args=true :=
 postW_of (r:=l.row.toRowW) (X:=(true == true))
  (show WShape.has [] (.bool true) .bool=true by first | rfl | decide | simp [WShape.has,WShape.arms,WShape.armsAll])
  (show (WTm.eq .res (.lit (.bool true))).value [] { args:=args,res:=some (.bool true),after:=args }=some (.bool (true == true)) from w_eq_bool (w_res rfl) w_lit) rfl
theorem attach_call {l:OpenLaw}{n:Nat}{q:Program}{loose:List Str}{XP:(Str→Option Value)→Heap→Prop}{YP:World→Heap→Prop}{d:DefRec}
  (hn:l.most=some n) (hdf:d.params.defaults=[])
  (call:∀ (w:World) (s₀ s₁:Shared) (mg mb:Str→Option Value) (fa:Addr) (o:Obj) (pm cd doc:Value) (a:Addr) (vs:List Value) (ns:List Int),
   Ground q loose [] XP w s₀ mg mb s₁.heap→YP w s₁.heap →
   s₁.heap.get? fa=some o→o.data = .func (docDef d.name d.params d.body d.scope pm cd doc)→s₁.heap.CodeRec cd d.name→mg d.name=some (.ref fa) →
   s₁.heap.get? a=some { cls:=.type "list",data:=.seq vs.toArray }→IntsAre vs ns→ns.length≤n→s₁.gens=#[] →
   codeAny (model l.prog w) callerA (.call (.ref fa) ⟨[.ref a],[]⟩) (fun r s'=>r = .ok (.ret (.bool true))∧OldK s₁.heap s'.heap∧s'.os=s₁.os∧AllBare s'.gens) s₁) :
  WalkO q loose XP YP l.row.toRowW d [] (fun f vs=>PySem.call f vs):=by
 intro w s₀ s₁ mg mb G Y fa o pm cd doc dV kV ho hd hcd hD hmg hg args vals as hpre hlay hrd hwl hlo
 obtain rfl:dV = .none:=Dflts.none hD hdf
 obtain rfl:kV = .none:=Dflts.noKw hD
 obtain ⟨a,vs,ns,rfl,rfl,hobj,hints,hlen⟩:=lK hn hpre hwl
 refine enter_call (Dd (call w s₀ s₁ mg mb fa o pm cd doc a vs ns G Y ho (fd_plain hd) hcd hmg hobj hints hlen hg) fun r s' hq=>?_)
 obtain ⟨rfl,h2,h3,h4⟩:=hq
 exact ⟨.inl ⟨.bool true,.bool true,[],rfl,fun _=>rfl,.bool true,lL l _,fun _=>⟨List.Pairwise.nil,fun _ hm=>(nomatch hm)⟩⟩,h2,h3,h4⟩
section
variable {prog:Program} {w:World} {A:Around} {E:Value→Shared→Prop} {s:Shared} {K:Frag}
end
end Att
namespace L2
open PySem PySem.Spec PyProof.Rows
theorem ia:∀ {vs:List Value} {ns:List Int},IntsAre vs ns→bh (ns.map V.int) vs
 | _,_,.nil=>.nil
 | _,_,.cons n t h=>.cons ⟨t,rfl⟩ (ia h)
def xv (H:Hp):Prop:=∀ b,H b=none ∨ ∃ o xs,H b=some (.frz o (.lst xs))
theorem o6 {P:Program}{w:World}{K:PySem.W.Frag}{mg mb:Str→Option Value}{CX:CXT}{k:Nat}{fa a:Addr}{fd:FuncData}{x:Str}{sp:Sp}{s₁:Shared}{vs:List Value}{ns:List Int}
  (KX:K.In s₁.heap) (hns:s₁.heap.Ns mainGlobals mg) (hb:s₁.heap.Ns builtinsNs mb) (hbb:∀ x:Str,x ≠ "__name__"→mb x=bootBuiltins x) (hlim:s₁.heap.NoLimit) (hg:s₁.gens=#[])
  (ha:s₁.heap.get? a=some { cls:=.type "list",data:=.seq vs.toArray }) (hi:IntsAre vs ns) (hl:ns.length≤sizeLine) (hr:fD k callerA)
  (F:∀ base:Heap,K.In base→base.Ns mainGlobals mg→kl P w K mg base CX k fa fd [x] sp) (hbind:∀ (s:Shared) (u:Value),BindsTo s fd ⟨[u],[]⟩ [(x,u)])
  (hsp:∀ H:Hp,xv H→SqL K H a (ns.map V.int)→sp [.ref a] H (fun v _=>v = .bl true) fun _ _ _=>False)
  (hCX:∀ H e s',CX [] H s₁ (fun _ _ _=>False) e s'→False) :
  codeAny (model P w) callerA (.call (.ref fa) ⟨[.ref a],[]⟩) (fun r s'=>r = .ok (.ret (.bool true))∧OldK s₁.heap s'.heap∧s'.os=s₁.os∧AllBare s'.gens) s₁:=by
 have rv:=ia hi
 have lenV:=hi.length
 -- from an abstract heap in which nothing but the script may be tracked
 have core:∀ H:Hp,xv H→SqL K H a (ns.map V.int)→HOk P w H s₁.heap→(∀ b,H b≠none→b=a)→(H a≠none→K.lookup a=none) →
   codeAny (model P w) callerA (.call (.ref fa) ⟨[.ref a],[]⟩) (fun r s'=>r = .ok (.ret (.bool true))∧OldK s₁.heap s'.heap∧s'.os=s₁.os∧AllBare s'.gens) s₁:=by
  intro H hO hS hok hA hK
  have base_of:∀ {b:Addr} {o:Obj},s₁.heap.get? b=some o→H b=none→(oI s₁.heap H).get? b=some o:=fun e n=>oJ e n
  have noA:∀ {b:Addr} {o:Obj} {es:Array DictEntry} {ep:Nat},s₁.heap.get? b=some o→o.data = .dict es ep→H b=none:=fun {b o es ep} e d=>by
   cases q:H b with
   | none=>rfl
   | some u =>
    have e':b=a:=hA b (by rw [q];simp)
    subst e'
    rw [ha] at e;cases e
    have d':Data.seq vs.toArray _=Data.dict es ep:=d
    cases d'
  have nsK:∀ {b:Addr} {m:Str→Option Value},s₁.heap.Ns b m→(oI s₁.heap H).Ns b m:=fun {b m} ⟨o,es,ep,e,d,r⟩=>⟨o,es,ep,base_of e (noA e d),d,r⟩
  have hKb:K.In (oI s₁.heap H):=fun b o e=>base_of (KX b o e) (by
   cases q:H b with
   | none=>rfl
   | some u =>
    have e':b=a:=hA b (by rw [q];simp)
    subst e'
    rw [hK (by rw [q];simp)] at e;cases e)
  have hM:Mod K mg (oI s₁.heap H):=⟨hKb,nsK hns,⟨mb,nsK hb,hbb⟩,let ⟨mc,h1,h2⟩:=hlim;⟨mc,nsK h1,h2⟩⟩
  have e0:wV P w K mg (oI s₁.heap H) callerA [] s₁ H:=⟨rfl,hM,fun b o e=>rb e,Nat.le_of_eq (kT _ _),trivial,fun b hb=>absurd (show b∈([]:List Addr) from hb) (by simp),hok,.of_eq hg⟩
  refine Dd ((F _ hKb (nsK hns)).run callerA [] s₁ H ⟨[.ref a],[]⟩ [.ref a] [.ref a] _ _ hr e0 (hbind s₁ (.ref a)) (.cons rfl .nil) (hsp H hO hS)) fun r s' h=>?_
  cases r with
  | error e=>exact (hCX H e s' h).elim
  | ok fl =>
   cases fl with
   | next=>exact False.elim h
   | brk=>exact False.elim h
   | cont=>exact False.elim h
   | ret u =>
    obtain ⟨v,H',os,bare,un,hok',r',q⟩:=h
    have q':v = .bl true:=q
    subst q'
    obtain rfl:u=Value.bool true:=r'
    refine ⟨rfl,OldK.of_keep fun b o e=>?_,os,bare⟩
    cases q:H b with
    | none=>exact un.keep b o e q (by intro z;exact absurd (show b∈([]:List Addr) from z) (by simp)) (by simp)
    | some u =>
     rcases hO b with z | ⟨ob,xs,z⟩
     ·rw [q] at z;cases z
     ·have z2:=un.frzs b ob _ z
      obtain ⟨e1,_⟩:=hok b _ z
      obtain ⟨e2,_⟩:=hok' b _ z2
      rw [e] at e1;cases e1
      exact e2
 cases hk:K.lookup a with
 | some o =>
  -- the script is one of the module's own objects
  have e:=KX a o hk
  rw [ha] at e
  cases e
  refine core (fun _=>none) (fun _=>.inl rfl) (.inr ⟨_,vs.toArray,_,hk,rfl,rfl,rfl,by rw [z8,lenV];exact hl,by simpa using rv⟩) (fun b u z=>by have z':(none:Option HO)=some u:=z;cases z') (fun b z=>absurd rfl z) fun z=>absurd rfl z
 | none =>
  refine core (fun b=>if b=a then some (.frz { cls:=.type "list",data:=.seq vs.toArray } (.lst (ns.map V.int))) else none) (fun b=>?_) (.inl (.inr ⟨{ cls:=.type "list",data:=.seq vs.toArray },if_pos rfl⟩)) (fun b u z=>?_) (fun b z=>?_) fun _=>hk
  ·by_cases hb:b=a
   ·exact .inr ⟨_,_,if_pos hb⟩
   ·exact .inl (if_neg hb)
  ·by_cases hb:b=a
   ·have z':=(if_pos hb).symm.trans z
    cases z'
    subst hb
    exact ⟨ha,by rw [zV];exact hl,vs,_,rv,ha⟩
   ·have z':=(if_neg hb).symm.trans z
    cases z'
  ·by_cases hb:b=a
   ·exact hb
   ·exact absurd (if_neg hb) z
theorem lM {l:PySem.W.OpenLaw}{n k:Nat}{q:Program}{loose:List Str}{XP:(Str→Option Value)→Heap→Prop}{YP:World→Heap→Prop}{d:DefRec}{K:Params→PySem.W.Frag}{CX:World→CXT}{sp:World→Sp}{x:Str}
  (hn:l.most=some n) (hn2:n≤sizeLine) (hdf:d.params.defaults=[]) (hr:fD k callerA)
  (hY:∀ (w:World) (h:Heap),YP w h→(K w.params).In h)
  (F:∀ (w:World) (mg:Str→Option Value) (fa:Addr) (h:Heap),(K w.params).In h→h.Ns mainGlobals mg→mg d.name=some (.ref fa) →
   ∃ fd:FuncData,(∀ (s:Shared) (u:Value),BindsTo s fd ⟨[u],[]⟩ [(x,u)]) ∧
    ∀ base:Heap,(K w.params).In base→base.Ns mainGlobals mg→kl l.prog w (K w.params) mg base (CX w) k fa fd [x] (sp w))
  (hsp:∀ (w:World) (H:Hp) (a:Addr) (ns:List Int),ns.length≤n→xv H→SqL (K w.params) H a (ns.map V.int)→sp w [.ref a] H (fun v _=>v = .bl true) fun _ _ _=>False)
  (hCX:∀ (w:World) (H:Hp) (s:Shared) (e:Value) (s':Shared),CX w [] H s (fun _ _ _=>False) e s'→False) :
  PySem.W.WalkO q loose XP YP l.row.toRowW d [] (fun f vs=>PySem.call f vs):=by
 refine Att.attach_call hn hdf fun w s₀ s₁ mg mb fa o pm cd doc a vs ns G Y ho hd hcd hmg hobj hints hlen hg=>?_
 have KX:=hY w _ Y
 obtain ⟨fd,hb,hF⟩:=F w mg fa _ KX G.T.g hmg
 exact o6 KX G.T.g G.T.b G.T.builtins G.T.nolimit hg hobj hints (AO hlen hn2) hr hF hb (fun H hO hS=>hsp w H a ns hlen hO hS) fun H e s'=>hCX w H s₁ e s'
end L2
/- THE LAST THEOREM (shape;LID,My.* are yours):
  My.Adr: a structure of the addresses that your layer names (classes,functions);My.Txt K t: a structure (Prop) of the equations over K;
  My.txt_mk:{K} {implicit addresses ..} (e1:nsIn K mainGlobals "law" = some (some (.ref f))) (e2:K.lookup f=some ⟨oc,od,.func (fnOf "law" "law" params body scope dV kV doc pm an EJ ct),sl⟩) (e3:codeIn K EJ "law" = true) ..:∃ t,My.Txt K t
set_option maxRecDepth 100000 in
set_option maxHeartbeats 0 in
theorem PySem.Challenge.cw_LID_holds : PySem.Challenge.rw_LID.Holds := by
 w_on;o_law;k_head;(case hw=>w_witness2)
 k_fill
 refine L2.lM (l:=PySem.Challenge.rw_LID) (n:=63) (k:=40) (x:="script") (CX:=fun w=>..) (sp:=fun _=>My.sp_law) rfl (by decide) rfl ⟨rfl,by decide,by decide⟩ (fun w h Y=>PySem.W.kIn_of Y) ?F ?S ?C
 case F =>
  intro w mg fa h KX G hmg
  have T:∃ t,My.Txt (L2.KOf KX) t:=by
   dsimp only [L2.KOf]                          -- K must stand as «<heap const> w.params» for k_is
   refine' My.txt_mk ?e1 ?e2 ?e3 ..
   (case e1=>PySem.W.k_is)                    -- in the order: a name -> EB address -> EB object -> EB parts
   (case e2=>PySem.W.k_is)
   ..
  obtain ⟨t,T⟩:=T
  have e0:=hmg.symm.trans (CQ KX G T.law)
  cases e0                                       -- fa is the law's own address
  exact ⟨_,fun s u=>.of_eq rfl,fun base kb nb=>My.law_fn T kb nb⟩     -- if «.of_eq rfl» comes too early: refine' ⟨_,?b,fun base kb nb=>My.law_fn T kb nb⟩;exact fun s u=>.of_eq rfl
 case S=>exact fun w H a ns hl hO hS=>..
 case C=>exact ..
(the tactic k_is has no namespace: write k_is) -/
namespace L2
open PySem PySem.Spec PyProof.Rows
def bX (s:Stmt):Arguments:=match s with
 | .FunctionDef _ a _ _ _ _ _ _ _ _=>a
 | _=>{ posonlyargs:=[],args:=[],vararg:=none,kwonlyargs:=[],kw_defaults:=[],kwarg:=none,defaults:=[] }
def bH (s:Stmt):List Stmt:=match s with
 | .FunctionDef _ _ b _ _ _ _ _ _ _=>b
 | _=>[]
def ak (s:Stmt):Scope:=match s with
 | .FunctionDef _ _ _ _ _ _ sc _ _ _=>sc
 | _=>{ kind:=.function,names:=[],isGenerator:=false,isCoroutine:=false }
abbrev CX0:CXT:=fun _ _ _ _ _ _=>False
abbrev E0:XK:=fun _ _ _=>False
theorem xw {X:Cx}:ll CX0 X E0:=fun _ _ _ _ _ _ _ h=>h.elim
structure Fun (K:PySem.W.Frag) (x qual:Str) (st:Stmt) (f:Addr) (fd:FuncData):Prop where
 ex:∃ (oc:Value) (od:Option Addr) (kV doc pm:Value) (an:Option Addr) (EJ ct:Value) (osl:Array (Option Value)),
  fd=PySem.W.fnOf x qual (bX st) (bH st) (ak st) .none kV doc pm an EJ ct∧K.lookup f=some ⟨oc,od,.func fd,osl⟩∧PySem.W.codeIn K EJ qual=true
 kp:PySem.W.keepIn K (.ref f)=true
section
variable {P:Program} {w:World} {K:PySem.W.Frag} {mg:Str→Option Value} {base:Heap}
theorem Fun.ok {x qual:Str}{st:Stmt}{f:Addr}{fd:FuncData}{N ps:List Str}{k:Nat}{sp:Sp}(F:Fun K x qual st f fd)(S:aD N ps (ak st))(len:∀ vs H Q E,sp vs H Q E→vs.length=ps.length)
  (hbody:∀ (EJ:Value) (A:Around) (outer:List Env) (s:Shared) (H:Hp) (vs:List V) (Q:VK) (E:XK),fD k (A.deeper (envOfC qual (ak st) s.heap.objs.size f EJ))→sp vs H Q E →
   ∃ t,PSs (rB CX0 P w K mg base N qual (ak st) f EJ A outer s H E).nox (bH st) t∧t { nx:=fun _ H'=>Q .non H',rt:=Q } (start N vs) H):kl P w K mg base CX0 (k+1) f fd ps sp:=by
 obtain ⟨oc,od,kV,doc,pm,an,EJ,ct,osl,rfl,lk,hcd⟩:=F.ex
 refine xo lk hcd S len fun A outer s H vs Q E hr hsp=>?_
 obtain ⟨t,h,q⟩:=hbody EJ A outer s H vs Q E hr hsp
 exact ⟨t,h.nox,q⟩
theorem Fun.binds {x qual:Str}{st:Stmt}{f:Addr}{fd:FuncData}{ps:List Str}(F:Fun K x qual st f fd)
  (h:∀ (kV doc pm:Value) (an:Option Addr) (EJ ct:Value) (us:List Value),us.length=ps.length→bindArgs (PySem.W.fnOf x qual (bX st) (bH st) (ak st) .none kV doc pm an EJ ct) ⟨us,[]⟩=pure (ps.zip us)):km K fd ps []:=by
 obtain ⟨oc,od,kV,doc,pm,an,EJ,ct,osl,rfl,lk,hcd⟩:=F.ex
 exact .all (h kV doc pm an EJ ct)
theorem qA {x qual:Str}{st:Stmt}{f:Addr}{oc:Value}{od an:Option Addr}{osl:Array (Option Value)}{kV doc pm EJ ct:Value}(l:K.lookup f=some ⟨oc,od,.func (PySem.W.fnOf x qual (bX st) (bH st) (ak st) .none kV doc pm an EJ ct),osl⟩)
  (c:PySem.W.codeIn K EJ qual=true) (k:PySem.W.keepIn K (.ref f)=true):Fun K x qual st f (PySem.W.fnOf x qual (bX st) (bH st) (ak st) .none kV doc pm an EJ ct):=⟨⟨oc,od,kV,doc,pm,an,EJ,ct,osl,rfl,l,c⟩,k⟩
end
theorem rM {A:Around}{k:Nat}(hr:fD k A):A.units+1 < cLine:=Nat.lt_of_le_of_lt (Nat.add_le_add_left (by decide:1≤64) _) hr.units
section
variable {X:Cx}
theorem pv (i:Nat){x:Str}{pos:Pos}(hN:X.N[i]? = some x:=by rfl)(hv:Vis X.env.scope x:=by first | exact Or.inl rfl | exact Or.inr (Or.inl rfl) | exact Or.inr (Or.inr rfl))(hd:(x == ("__debug__":Str))=false:=by decide)
  (hcd:(x == ("__classdict__":Str))=false:=by decide):PE X (.Name x pos) (wY i):=uD hN hv hd hcd
end
theorem ur {A B:Prop}(h:B):if false=true then A else B:=by
 rw [if_neg An]
 exact h
theorem xx {A B:Prop}(h:A):if true=true then A else B:=by
 rw [if_pos rfl]
 exact h
theorem iU {c A B:Prop}[Decidable c](h1:c→A)(h2:¬ c→B):if c then A else B:=by
 by_cases h:c
 ·rw [if_pos h]
  exact h1 h
 ·rw [if_neg h]
  exact h2 h
def aE (H H':Hp):Prop:=∀ b o,H b=some o→H' b=some o
theorem aE.refl (H:Hp):aE H H:=fun _ _ h=>h
theorem aE.trans {H H1 H2:Hp}(a:aE H H1)(b:aE H1 H2):aE H H2:=fun c o h=>b c o (a c o h)
theorem aE.free {H H':Hp}(e:aE H H'){l:Addr}(h:H' l=Option.none):H l=Option.none:=by
 cases q:H l with
 | none=>rfl
 | some o =>
  rw [e l o q] at h
  cases h
section
variable {κ:Type} [DecidableEq κ]
end
def jA (cells:List (Str × Addr)):List (Str × NameKind)→List (Str × Addr)→List (Str × Addr)
 | [],acc=>acc
 | (x,k)::r,acc=>if k == NameKind.free then jA cells r ((x,(cells.lookup x).getD 0)::acc) else jA cells r acc
theorem fW {cells:List (Str × Addr)}{p:Str × Addr}:∀ {names:List (Str × NameKind)} {acc:List (Str × Addr)},p∈jA cells names acc→p∈acc ∨ ((p.1,NameKind.free)∈names∧p.2=(cells.lookup p.1).getD 0)
 | [],_,h=>.inl h
 | (x,k)::r,acc,h=>by
  unfold jA at h
  by_cases hk:(k == NameKind.free)=true
  ·rw [if_pos hk] at h
   have ek:k=NameKind.free:=by simpa using hk
   subst ek
   rcases fW h with h | ⟨h,e⟩
   ·rcases Ae.mp h with h | h
    ·subst h
     exact .inr ⟨zX,rfl⟩
    ·exact .inl h
   ·exact .inr ⟨zO _ h,e⟩
  ·rw [if_neg hk] at h
   rcases fW h with h | ⟨h,e⟩
   ·exact .inl h
   ·exact .inr ⟨zO _ h,e⟩
theorem fX {cells:List (Str × Addr)}{p:Str × Addr}:∀ {names:List (Str × NameKind)} {acc:List (Str × Addr)},p∈acc→p∈jA cells names acc
 | [],_,h=>h
 | (x,k)::r,acc,h=>by
  unfold jA
  split
  ·exact fX (zO _ h)
  ·exact fX h
theorem fY {cells:List (Str × Addr)}{x:Str}:∀ {names:List (Str × NameKind)} {acc:List (Str × Addr)},(x,NameKind.free)∈names→(x,(cells.lookup x).getD 0)∈jA cells names acc
 | [],_,h=>by simp at h
 | (y,k)::r,acc,h=>by
  unfold jA
  rcases Ae.mp h with h | h
  ·have e1:x=y:=Af Prod.fst h
   have e2:NameKind.free=k:=Af Prod.snd h
   subst e1 e2
   rw [if_pos (by simp)]
   exact fX zX
  ·split
   ·exact fY h
   ·exact fY h
theorem dC {x:Str}{c:Addr}:∀ {l:List (Str × Addr)},(x,c)∈l→∃ d,l.lookup x=some d
 | [],h=>by simp at h
 | (y,d)::r,h=>by
  rw [CL]
  by_cases e:(x == y)=true
  ·rw [e];exact ⟨d,rfl⟩
  ·have e':(x == y)=false:=by simpa using e
   rw [e']
   rcases Ae.mp h with h | h
   ·have:x=y:=Af Prod.fst h
    exact absurd (by simpa using this) e
   ·exact dC h
theorem f_ {env:Env}{scope:Scope}(h:∀ y∈scope.names,y.2=NameKind.free→∃ c,env.cells.lookup y.1=some c):closureFor scope env=pure (jA env.cells scope.names []):=by
 have all:∀ (names:List (Str × NameKind)) (acc:List (Str × Addr)),(∀ y∈names,y.2=NameKind.free→∃ c,env.cells.lookup y.1=some c) →
   (forIn names acc (fun (p:Str × NameKind) (r:List (Str × Addr))=>(if (p.2 == NameKind.free)=true then (do let a ← cellOf env p.1;pure (ForInStep.yield ((p.1,a)::r))) else pure (ForInStep.yield r):Sem (ForInStep (List (Str × Addr))))))=(pure (jA env.cells names acc):Sem (List (Str × Addr))):=by
  intro names
  induction names with
  | nil=>intro acc _;rfl
  | cons p r ih =>
   intro acc hh
   obtain ⟨x,k⟩:=p
   have hr:∀ y∈r,y.2=NameKind.free→∃ c,env.cells.lookup y.1=some c:=fun y hy=>hh y (zO _ hy)
   rw [DQ]
   unfold jA
   by_cases hk:(k == NameKind.free)=true
   ·obtain ⟨c,hc⟩:=hh (x,k) zX (by simpa using hk)
    have hc:env.cells.lookup x=some c:=hc
    have ec:cellOf env x=pure c:=by
     unfold cellOf
     rw [hc]
    simp only [hk,BI,ec,pure_bind,hc,Option.getD_some]
    exact ih _ hr
   ·simp only [hk,A6,pure_bind]
    exact ih _ hr
 have e:=all scope.names [] h
 unfold closureFor
 simp only [bind_pure]
 exact e
def va (scope sc:Scope)(NB own:List Str)(cap:List Nat)(N:List Str):Bool :=
 (scope.kind == .function) && (sc.kind == .function) &&
 (scope.names.all fun y=>match y.2 with
  | .cell=>false
  | .free=>sc.names.lookup y.1 == some NameKind.cell
  | .local=>scope.names.lookup y.1 == some NameKind.local
  | _=>true) &&
 (own.all fun x=>scope.names.lookup x == some NameKind.local && scope.names.all fun y=>!(y.1 == x) || y.2 == NameKind.local) &&
 (NB == own++cap.map fun i=>N.getD i "") && (cap.all fun i=>decide (i < N.length) && scope.names.lookup (N.getD i "") == some NameKind.free)
structure Blk (X:Cx) (scope:Scope) (NB own:List Str) (cap:List Nat):Prop where
 kind:scope.kind = .function
 outk:X.env.scope.kind = .function
 nocell:∀ y∈scope.names,y.2 ≠ .cell
 free:∀ y∈scope.names,y.2 = .free→X.env.kindOf y.1=some .cell
 names:∀ y∈scope.names,y.2 = .local→scope.names.lookup y.1=some .local
 owns:∀ x∈own,∀ y∈scope.names,y.1=x→y.2 = .local
 nb:NB=own++cap.map fun i=>X.N.getD i ""
 caps:∀ i∈cap,i < X.N.length∧scope.names.lookup (X.N.getD i "")=some .free
theorem ib {X:Cx}{scope sc:Scope}{NB own:List Str}{cap:List Nat}(hs:X.env.scope=sc)(h:va scope sc NB own cap X.N=true):Blk X scope NB own cap:=by
 unfold va at h
 simp only [A_] at h
 obtain ⟨⟨⟨⟨⟨h1,h2⟩,h3⟩,h4⟩,h5⟩,h6⟩:=h
 rw [Ca] at h3 h4 h6
 subst hs
 refine ⟨by simpa using h1,by simpa using h2,fun y hy e=>?_,fun y hy e=>?_,fun y hy e=>?_,fun x hx y hy e=>?_,by simpa using h5,fun i hi=>?_⟩
 ·have:=h3 y hy
  rw [e] at this
  exact absurd this (by simp)
 ·have:=h3 y hy
  rw [e] at this
  show X.env.scope.names.lookup y.1=some .cell
  simpa using this
 ·have:=h3 y hy
  rw [e] at this
  simpa using this
 ·have:=h4 x hx
  simp only [A_,Ca] at this
  have q:=this.2 y hy
  subst e
  simpa using q
 ·have:=h6 i hi
  simp only [A_] at this
  exact ⟨B3 this.1,by simpa using this.2⟩
def cxB (X:Cx)(NB own:List Str)(scope:Scope)(C:Addr)(fp:List Addr)(s₀:Shared)(H₀:Hp):Cx where
 prog:=X.prog
 w:=X.w
 K:=X.K
 mg:=X.mg
 base:=X.base
 A:=X.A
 N:=NB
 s₀:=s₀
 H₀:=H₀
 env:=compEnvC scope (jA X.env.cells scope.names []) C X.env
 outer:=X.stack
 stack:=X.stack
 ex:=fp
 fn:=fun x=>own.contains x
 calm:=X.calm
 pn:=[]
 xe:=fun _ _=>False
theorem cM {env:Env}{x:Str}{k:NameKind}(hk:k = .cell ∨ k = .free):∀ {names:List (Str × NameKind)},(∀ y∈names,y.2 ≠ .cell) →
  (names.map fun (n,k)=>if (k == NameKind.free && env.scope.kind == .function && env.kindOf n == some .cell) then (n,NameKind.cell) else (n,k)).lookup x=some k→(x,NameKind.free)∈names
 | [],_,h=>by simp at h
 | (n,q)::r,hn,h=>by
  have ih:=@cM env x k hk r fun y hy=>hn y (zO _ hy)
  rw [AA,CL] at h
  have key:(if (q == NameKind.free && env.scope.kind == .function && env.kindOf n == some .cell)=true then (n,NameKind.cell) else (n,q)).1=n:=by split <;> rfl
  by_cases e:(x == n)=true
  ·have en:x=n:=by simpa using e
   subst en
   by_cases hq:q = .free
   ·subst hq;exact zX
   ·have hqf:(q == NameKind.free)=false:=by simpa using hq
    simp only [hqf,AH,Ac,A6,beq_self_eq_true] at h
    have h':q=k:=zP h
    rcases hk with z | z
    ·exact absurd (h'.trans z) (hn (x,q) zX)
    ·exact absurd (h'.trans z) hq
  ·have e':(x == n)=false:=by simpa using e
   refine zO _ (ih ?_)
   have e2:(x == (if (q == NameKind.free && env.scope.kind == .function && env.kindOf n == some .cell)=true then (n,NameKind.cell) else (n,q)).1)=false:=by rw [key];exact e'
   rw [e2] at h
   exact h
theorem eR {env:Env}{x:Str}(hk:env.scope.kind = .function)(hc:env.kindOf x=some .cell):∀ {names:List (Str × NameKind)},names.lookup x=some .free →
  (names.map fun (n,k)=>if (k == NameKind.free && env.scope.kind == .function && env.kindOf n == some .cell) then (n,NameKind.cell) else (n,k)).lookup x=some .cell
 | [],h=>by simp at h
 | (n,q)::r,h=>by
  have ih:=@eR env x hk hc r
  rw [CL] at h
  rw [AA,CL]
  by_cases e:(x == n)=true
  ·have en:x=n:=by simpa using e
   subst en
   rw [e] at h
   have hq:q = .free:=zP h
   subst hq
   simp [hk,hc]
  ·have e':(x == n)=false:=by simpa using e
   rw [e'] at h
   have key:(if (q == NameKind.free && env.scope.kind == .function && env.kindOf n == some .cell)=true then (n,NameKind.cell) else (n,q)).1=n:=by split <;> rfl
   have e2:(x == (if (q == NameKind.free && env.scope.kind == .function && env.kindOf n == some .cell)=true then (n,NameKind.cell) else (n,q)).1)=false:=by rw [key];exact e'
   rw [e2]
   exact ih h
def stB (own:List Str)(cap:List Nat)(σ:St):St:=(own.map fun _=>none)++cap.map fun i=>(σ[i]?).getD none
section
variable {X:Cx} {EA:List (Addr × Obj)} {σ:St} {H:Hp} {s:Shared} {scope:Scope} {NB own:List Str} {cap:List Nat} {fp:List Addr} {C:Addr}
theorem Blk.cells (B:Blk X scope NB own cap)(ok:X.Ok){x:Str}{c:Addr}(h:(jA X.env.cells scope.names []).lookup x=some c):X.env.cells.lookup x=some c∧(x,NameKind.free)∈scope.names:=by
 rcases fW (Be h) with q | ⟨q,e⟩
 ·simp at q
 ·obtain ⟨d,hd⟩:=ok.has x (.inl (B.free (x,.free) q rfl))
  have e:c=(X.env.cells.lookup x).getD 0:=e
  rw [hd] at e
  refine ⟨?_,q⟩
  rw [hd,e];rfl
theorem Blk.cell (B:Blk X scope NB own cap)(ok:X.Ok){x:Str}(h:(x,NameKind.free)∈scope.names):∃ c,(jA X.env.cells scope.names []).lookup x=some c:=dC (fY h)
theorem Blk.start (B:Blk X scope NB own cap)(I:Inv X EA σ H s)(hf:∀ b∈fp,k0 X EA H b)(hfs:∀ b∈fp,∃ o,s.heap.get? b=some o){h':Heap}{tk:Nat}{m:Str→Option Value}(hC:s.heap.objs.size≤C)
  (k:∀ b o,s.heap.get? b=some o→h'.get? b=some o) (hn:h'.Ns C m) :
  Inv (cxB X NB own scope C fp s H) [] (stB own cap σ) H { s with heap:=h',toks:=tk }:=by
 have hlen:NB.length=own.length+cap.length:=by rw [B.nb];simp
 have okB:(cxB X NB own scope C fp s H).Ok:=by
  refine ⟨I.ok.mod,B.kind,I.ok.glob,I.ok.blt,hC,fun x y c h1 h2=>I.ok.inj x y c (B.cells I.ok h1).1 (B.cells I.ok h2).1,fun x hx=>?_,fun x c h1 h2=>?_,I.ok.hd,I.ok.frames,.inl rfl,fun b hb=>⟨?_,fun x c h=>?_⟩,I.bs,AO I.ok.bsz I.sz,fun b o e hb=>?_,fun b hb z=>?_,I.stack,I.stkFree⟩
  ·have:(x,NameKind.free)∈scope.names:=by
    rcases hx with z | z
    ·exact cM (.inl rfl) B.nocell z
    ·exact cM (.inr rfl) B.nocell z
   exact B.cell I.ok this
  ·have hx:x∈own:=by simpa [cxB] using h1
   have q:=B.owns x hx _ (B.cells I.ok h2).2 rfl
   exact absurd q (by simp)
  ·obtain ⟨o,e⟩:=hfs b hb
   exact AJ (Am (z7 e) hC)
  ·exact (hf b hb).2.2.2.2.1 x c (B.cells I.ok h).1
  ·have hb:b∈fp:=hb
   rcases (hf b hb).2.2.2.1 with z | z
   ·exact I.ok.noex b o e z
   ·exact absurd (Am (z7 e) (AO I.ok.bsz z)) (AZ _)
  ·rcases Ae.mp (I.stkSub b z) with z | z
   ·exact (hf b hb).2.1 z
   ·exact (hf b hb).2.2.1 z
 refine ⟨okB,rfl,I.bare,Un.kept k,⟨m,hn,fun i x v e1 e2 e3=>?_⟩,fun x c h=>?_,I.hok.fresh hC,fun x c h=>I.freeC x c (B.cells I.ok h).1,fun p hp=>absurd (show p∈([]:List (Addr × Obj)) from hp) (by simp),I.hok.kept k,?_⟩
 ·have e1:NB[i]? = some x:=e1
  have hi:¬ i < own.length:=fun hi=>by
   unfold stB at e2
   rw [AV (by simpa using hi),Az] at e2
   cases q:own[i]? <;> rw [q] at e2 <;> cases e2
  unfold stB at e2
  rw [Al (by simpa using hi),Az] at e2
  rw [B.nb,Al (by omega),Az] at e1
  simp only [zV] at e2
  cases q:cap[i - own.length]? with
  | none=>rw [q] at e1;cases e1
  | some j =>
   rw [q] at e1 e2
   have ex:X.N.getD j "" = x:=zP e1
   have ev:(σ[j]?).getD none=some v:=zP e2
   obtain ⟨hj,hjf⟩:=B.caps j (AF q)
   rw [ex] at hjf
   have hN:X.N[j]? = some x:=by rw [← ex,Ag,fu hj];rfl
   have hσ:σ[j]? = some (some v):=by
    cases z:σ[j]? with
    | none=>rw [z] at ev;cases ev
    | some u=>rw [z] at ev;exact Af some ev
   have hmem:(x,NameKind.free)∈scope.names:=Be hjf
   have hkc:=B.free _ hmem rfl
   obtain ⟨m0,hn0,hl⟩:=I.loc
   obtain ⟨u,r,l⟩:=hl j x v hN hσ (.inr (.inl hkc))
   refine ⟨u,r,.inr ⟨.inl (eR B.outk hkc hjf),?_⟩⟩
   obtain ⟨c,hc⟩:=B.cell I.ok hmem
   refine ⟨c,hc,?_⟩
   rcases l with ⟨z,_⟩ | ⟨_,c',hc',⟨oc,hoc,hd⟩⟩
   ·rw [show X.env.kindOf x=some .cell from hkc] at z;cases z
   ·have:=(B.cells I.ok hc).1
    rw [hc'] at this
    have:c'=c:=zP this
    subst this
    exact ⟨oc,k _ _ hoc,hd⟩
 ·obtain ⟨v,oc,hoc,hd⟩:=I.cell x c (B.cells I.ok h).1
  exact ⟨v,oc,k _ _ hoc,hd⟩
 ·show (stB own cap σ).length=NB.length
  unfold stB
  rw [hlen];simp
theorem Blk.done (B:Blk X scope NB own cap)(I:Inv X EA σ H s)(hf:∀ b∈fp,k0 X EA H b){σB:St}{H':Hp}{s':Shared}{h'':Heap}{D:Addr}{ys:List V}{EB:List Value}{n:Nat}(hC:s.heap.objs.size≤C)(hD:s.heap.objs.size≤D)(hDC:D≠C)
  (J:Inv (cxB X NB own scope C fp s H) [] σB H' s') (hn:H' D=none) (e:s'.heap.get? D=some { cls:=.type "list",data:=.seq EB.toArray n }) (hv:bh ys EB) (hz:ys.length≤sizeLine)
  (sb:Heap.SameBut C s'.heap h''):Inv X EA σ (upd H' D (.lst ys)) { s' with heap:=h'' }:=by
 have un:Un (frs X.stack) fp H H' s.heap s'.heap:=J.base
 have neC:∀ {b o},s.heap.get? b=some o→b≠C:=fun q=>AJ (Am (z7 q) hC)
 have neD:∀ {b o},s.heap.get? b=some o→b≠D:=fun q=>AJ (Am (z7 q) hD)
 have hCn:H' C=none:=J.free
 refine I.call' (s':={ s' with heap:=h'' }) (ch:=fp) J.os ⟨fun b o q n hb hx=>?_,fun b o q n hb hx=>?_,fun b o q n hx=>?_,fun b o q hx=>?_,fun b xs q=>?_,fun b o u q=>?_,fun b ps q=>?_⟩ (fun b u q=>?_) J.bare fun b hb=>?_
 ·exact (sb.2 b (neC q)).trans (un.keep b o q n hb hx)
 ·obtain ⟨sl,r⟩:=un.slot b o q n hb hx
  exact ⟨sl,(sb.2 b (neC q)).trans r⟩
 ·rw [aM (neD q)]
  exact un.free b o q n hx
 ·obtain ⟨o',r⟩:=un.there b o q hx
  exact ⟨o',(sb.2 b (neC q)).trans r⟩
 ·have r:=un.tups b xs q
  rw [aM (au r hn)]
  exact r
 ·have r:=un.frzs b o u q
  rw [aM (au r hn)]
  exact r
 ·obtain ⟨more,r⟩:=un.tbls b ps q
  exact ⟨more,by rw [aM (au r hn)];exact r⟩
 ·by_cases hb:b=D
  ·subst hb
   rw [ag] at q
   cases q
   exact ⟨hz,EB,n,hv,(sb.2 b hDC).trans e⟩
  ·rw [aM hb] at q
   refine (J.hok b u q).stay (fun c v hc r=>(sb.2 c ?_).trans r) (fun c r=>?_) fun c xs r=>?_
   ·rcases hc with z | z
    ·rw [z];exact au q hCn
    ·exact au z hCn
   ·rw [aM (au r hn)];exact r
   ·rw [aM (au r hn)];exact r
 ·obtain ⟨_,f1,_,f3,f4,f5⟩:=hf b hb
  exact ⟨f3,f1,f4,f5⟩
end
def PIf (X:Cx)(ifs:List Expr)(t:TT):Prop :=
 ∀ (EA:List (Addr × Obj)) (s:Shared) (σ:St) (H:Hp) (Q:Bool→Hp→Prop),Inv X EA σ H s→t σ H Q →
  wpAny (model X.prog X.w) X.A (forIn ifs true fun c r=>if r=true then do let ok ← isTrue c X.env (eval c X.env);pure (ForInStep.yield ok) else pure (ForInStep.yield r)) (TP X EA σ Q) X.xe s
def zh:TT:=fun _ H Q=>Q true H
theorem dD {X:Cx}:PIf X [] zh:=fun _ _ _ H _ I h=>wpAny_tests_nil ⟨H,I,h⟩
section
variable {prog:Program} {w:World} {A:Around} {R:Result→Shared→Prop} {s:Shared}
abbrev noE:Value→Shared→Prop:=fun _ _=>False
theorem lN {elt tg iter:Expr}{ifs:List Expr}{scope:Scope}{pos:Pos}{it acc:Value}{env:Env}(I:Nat→Shared→Prop)
  (turn:∀ n s,I n s→wpAny (model prog w) A (pyNext it) (fun r s₁=>match r with
   | none=>R (.ok .next) s₁
   | some v=>wpAny (model prog w) A (letOwnedTupleGo tg it v) (fun _ s₀=>wpAny (model prog w) A (assign tg env v) (fun _ s₂ =>
     wpAny (model prog w) A (forIn ifs true fun c r=>if r=true then do let ok ← isTrue c env (eval c env);pure (ForInStep.yield ok) else pure (ForInStep.yield r)) (fun ok s₃ =>
      if ok=true then wpAny (model prog w) A (eval elt env) (fun x s₄=>wpAny (model prog w) A (call (.builtin "list.append") [acc,x]) (fun _ s₅=>∃ m,m < n∧I m s₅) noE s₄) noE s₃
      else ∃ m,m < n∧I m s₃) noE s₂) noE s₀) noE s₁) noE s)
  (n:Nat) (h:I n s):codeAny (model prog w) A (.compLoop (.ListComp elt [⟨tg,iter,ifs,0⟩] scope pos) 0 it acc env) R s:=by
 refine codeAny_loop rfl I (fun n s hI=>?_) n h
 show wpAny _ A ((compTurn (.ListComp elt [⟨tg,iter,ifs,0⟩] scope pos) 0 it acc env).onRaise (fun x=>do noteFrame x env;theTreesLotGoes x)) _ _ s
 refine wpAny_noted ?_
 rw [compTurn_list]
 refine zK (wpAny_standAt (zK (BR (turn n s hI) (fun r s₁ h₁=>?_) fun _ _ z=>False.elim z)))
 cases r with
 | none=>exact Ab h₁
 | some v =>
  refine zK (BR h₁ (fun _ s₀ h₀=>zK (BR h₀ (fun _ s₂ h₂=>zK (BR h₂ (fun ok s₃ h₃=>?_) fun _ _ z=>False.elim z)) fun _ _ z=>False.elim z)) fun _ _ z=>False.elim z)
  cases ok with
  | false=>exact Ab ⟨rfl,h₃⟩
  | true=>exact zK (zK (BR h₃ (fun x s₄ h₄=>zK (BR h₄ (fun _ s₅ h₅=>Ab (Ab ⟨rfl,h₅⟩)) fun _ _ z=>False.elim z)) fun _ _ z=>False.elim z))
end
def vb (own:List Str)(cap:List Nat)(g:TG)(ti:TT)(te:TE)(Q:VK)(σ:St)(J:It)(H1:Hp):Prop:=∃ W:Nat→Nat→List V→St→Hp→Prop,(∃ m,W 0 m [] (stB own cap σ) H1)∧∀ i m ys σ H,W i m ys σ H →
 (J.stop i H∧ys.length≤sizeLine∧∀ D,H D=none→Q (.ref D) (upd H D (.lst ys))) ∨
 (J.go i H∧ys.length < sizeLine∧∀ x H',J.yld i H x H'→g x σ H' fun σ2 H2=>ti σ2 H2 fun b H3=>if b=true then te σ2 H3 fun y H4=>∃ m',m' < m∧W (i+1) m' (ys++[y]) σ2 H4 else ∃ m',m' < m∧W (i+1) m' ys σ2 H3)
def rN (own:List Str)(cap:List Nat)(wi:TI)(g:TG)(ti:TT)(te:TE):TE:=fun σ H Q=>wi σ H fun J H1=>vb own cap g ti te Q σ J H1
theorem jB {X:Cx}{pos2:Pos}{use:Option (Value→Sem Unit)}{QQ:Value→Shared→Prop}{EA:List (Addr × Obj)}{s:Shared}{σ:St}{H:Hp}{Q:VK}{elt iter tg:Expr}{ifs:List Expr}{scope:Scope}{pos:Pos}{NB own:List Str}{cap:List Nat}{wi:TI}{g:TG}{ti:TT}{te:TE}(B:Blk X scope NB own cap)(hc:X.calm=true)(hi:PI X tg iter wi)
  (hg:∀ C fp s₀ H₀,PG (cxB X NB own scope C fp s₀ H₀) tg g) (ht:∀ C fp s₀ H₀,PIf (cxB X NB own scope C fp s₀ H₀) ifs ti) (he:∀ C fp s₀ H₀,PE (cxB X NB own scope C fp s₀ H₀) elt te)
  (hs:∀ x,foldedSetIterable iter X.env x=pure x) (I0:Inv X EA σ H s) (h:rN own cap wi g ti te σ H Q)
  (fin:∀ (fp:List Addr) (C:Addr) (s2 s4:Shared) (H2 H3:Hp) (σ3:St) (EB:List Value) (ys:List V) (k:Nat),Inv X EA σ H2 s2→(∀ b∈fp,k0 X EA H2 b)→s2.heap.objs.size≤C→s2.heap.objs.size≠C→Inv (cxB X NB own scope C fp s2 H2) [] σ3 H3 s4→H3 s2.heap.objs.size=none→s4.heap.get? s2.heap.objs.size=some { cls:=.type "list",data:=.seq EB.toArray k }→bh ys EB→ys.length≤sizeLine→Q (.ref s2.heap.objs.size) (upd H3 s2.heap.objs.size (.lst ys)) →
   compPost (model X.prog X.w) X.A X.xe use QQ (.ref s2.heap.objs.size) C (.ok .next) s4):wpAny (model X.prog X.w) X.A (comprehension (.ListComp elt [⟨tg,iter,ifs,0⟩] scope pos) scope X.env pos2 (newList []) false (eval iter X.env) use) QQ X.xe s:=by
 have hclos:=f_ (env:=X.env) (scope:=scope) fun y hy e=>I0.ok.has y.1 (.inl (B.free y hy e))
 refine wpAny_comprehension_free (use:=use) rfl hs hclos B.kind B.names (thn (hi EA s σ H _ I0 h) fun v s1 h1=>thn h1 fun itv s2 h2=>?_)
 obtain ⟨it,fp,tn,J,H2,rfl,I,T,E1,f2,W,⟨m0,w0⟩,turn⟩:=h2
 refine CS ?_
 refine wpAny_newFunctionEnv B.nocell (by intro y hy;simp at hy) (fun h₁ hns₁ hsb₁=>?_) B.kind
 dsimp only at hns₁ hsb₁ ⊢
 generalize hP:s2.heap.push { cls:=.type "list",dict:=none,data:=.seq ([]:List Value).toArray }=P at hns₁ hsb₁ ⊢
 have hC:P.objs.size=s2.heap.objs.size+1:=by rw [← hP,B7]
 have hDC:s2.heap.objs.size≠P.objs.size:=by rw [hC];exact AJ (BB _)
 have EZ:s2.heap.objs.size≤P.objs.size:=by rw [hC];exact Dq _
 have old:∀ b o,s2.heap.get? b=some o→h₁.get? b=some o:=fun b o e=>by
  refine (hsb₁.2 b ?_).trans (zM _ (hP ▸ zM _ e))
  exact AJ (Am (z7 e) EZ)
 have hD:h₁.get? s2.heap.objs.size=some { cls:=.type "list",data:=.seq ([]:List Value).toArray 0 }:=by
  refine (hsb₁.2 _ hDC).trans (zM _ ?_)
  rw [← hP]
  exact z_ _ rfl
 have hfs:∀ b∈fp,∃ o,s2.heap.get? b=some o:=fun b hb=>let ⟨o,e,_⟩:=T.obj _ _ E1 b hb;⟨o,e⟩
 have st4:tn 0 h₁:=T.keep _ _ _ E1 fun b _ o e=>old b o e
 generalize htk:s2.toks+([]:List (Str × Value)).length=tk4
 have I4:=B.start (C:=P.objs.size) (tk:=tk4) I f2 hfs EZ old hns₁
 have fOk:∀ {H':Hp} {b:Addr} {ob:Obj},b∈fp→H' b=none→k0 (cxB X NB own scope P.objs.size fp s2 H2) [(s2.heap.objs.size,ob)] H' b:=fun {H' b ob} hb hn=>by
  obtain ⟨o,e⟩:=hfs b hb
  refine ⟨hn,(I4.ok.exf b hb).1,I4.ok.exfs b hb,.inl hb,(I4.ok.exf b hb).2,fun p hp=>?_⟩
  have ep:p=(s2.heap.objs.size,ob):=zJ.mp (show p∈[(s2.heap.objs.size,ob)] from hp)
  rw [ep]
  exact fun z=>absurd (z7 e) (by rw [← z];exact AZ _)
 have dnf:s2.heap.objs.size∉frs X.stack:=fun z=>by
  rcases Ae.mp (I.stkSub _ z) with z | z
  ·exact absurd I.lt (by rw [← z];exact AZ _)
  ·exact I.nofs (zU _) z
 have I3D:∀ {σ3:St} {H3:Hp} {s3:Shared} {EB:List Value} {k:Nat},Inv (cxB X NB own scope P.objs.size fp s2 H2) [] σ3 H3 s3→s3.heap.get? s2.heap.objs.size=some { cls:=.type "list",data:=.seq EB.toArray k }→H3 s2.heap.objs.size=none →
   Inv (cxB X NB own scope P.objs.size fp s2 H2) [(s2.heap.objs.size,{ cls:=.type "list",data:=.seq EB.toArray k })] σ3 H3 s3:=fun I3 e n=>I3.pins_of fun p hp=>by
  have ep:=zJ.mp hp
  subst ep
  exact ⟨e,n,hDC,dnf,fun v z=>by cases z⟩
 have ndf:s2.heap.objs.size∉fp:=fun z=>by
  obtain ⟨o,e⟩:=hfs _ z
  exact absurd (z7 e) (AZ _)
 have nCD:∀ x c,(cxB X NB own scope P.objs.size fp s2 H2).env.cells.lookup x=some c→c≠s2.heap.objs.size:=fun x c e z=>by
  obtain ⟨v,o,ho,_⟩:=I.cell x c (B.cells I.ok e).1
  rw [z] at ho
  exact absurd (z7 ho) (AZ _)
 have loop:∀ s₃:Shared,s₃ = { s2 with heap:=h₁,toks:=tk4 }→codeAny (model X.prog X.w) X.A (.compLoop (.ListComp elt [⟨tg,iter,ifs,0⟩] scope pos) 0 (.ref it) (.ref s2.heap.objs.size) (cxB X NB own scope P.objs.size fp s2 H2).env)
   (compPost (model X.prog X.w) X.A X.xe use QQ (.ref s2.heap.objs.size) P.objs.size) s₃:=by
  rintro s₃ rfl
  refine lN (fun n s'=>∃ i σB H' ys EB k,Inv (cxB X NB own scope P.objs.size fp s2 H2) [] σB H' s'∧tn i s'.heap∧(∀ b∈fp,H' b=none)∧s'.heap.get? s2.heap.objs.size=some { cls:=.type "list",data:=.seq (EB:List Value).toArray k }∧bh ys EB∧H' s2.heap.objs.size=none∧W i n ys σB H') ?_ m0
   ⟨0,stB own cap σ,H2,[],[],0,I4,st4,fun b hb=>(f2 b hb).1,hD,.nil,I.hok.fresh (zU _),w0⟩
  rintro n s3 ⟨i,σ3,H3,ys,EB,k,I3,st3,fr3,hD3,rv,hn3,w3⟩
  rcases turn i n ys σ3 H3 w3 with ⟨stop,hz,q⟩ | ⟨go,hz,step⟩
  ·refine thn (T.done (cxB X NB own scope P.objs.size fp s2 H2) rfl rfl rfl hc i _ s3 σ3 H3 noE (I3D I3 hD3 hn3) (fun b hb=>fOk hb (fr3 b hb)) st3 stop) fun r s4 zq1=>?_
   obtain ⟨hr,I4'⟩:=zq1
   subst hr
   have hD4:s4.heap.get? s2.heap.objs.size=some { cls:=.type "list",data:=.seq (EB:List Value).toArray k }:=(I4'.pin (s2.heap.objs.size,_) (z6 _ (zJ.mpr rfl))).1
   have I5:Inv (cxB X NB own scope P.objs.size fp s2 H2) [] σ3 H3 s4:=I4'.pins_of fun p hp=>absurd (show p∈([]:List (Addr × Obj)) from hp) (by simp)
   exact fin fp _ s2 s4 H2 H3 σ3 EB ys k I f2 EZ hDC I5 hn3 hD4 rv hz (q _ hn3)
  ·refine thn (T.item (cxB X NB own scope P.objs.size fp s2 H2) rfl rfl rfl hc i _ s3 σ3 H3 noE (I3D I3 hD3 hn3) (fun b hb=>fOk hb (fr3 b hb)) st3 go) fun r s4 zq2=>?_
   obtain ⟨u,hr,h4⟩:=zq2
   subst hr
   refine thn h4 fun _ s5 zq3=>?_
   obtain ⟨x,H5,I5,r5,y5,st5,fr5⟩:=zq3
   have I5':=I5.pinned (fun b hb=>fOk hb (fr5 b hb)) (T.obj _ _ st5)
   refine thn (hg _ fp s2 H2 _ s5 σ3 H5 x u _ I5' r5 (step x H5 y5)) fun _ s6 zq4=>?_
   obtain ⟨σ6,H6,I6,q6⟩:=zq4
   refine thn (ht _ fp s2 H2 _ s6 σ6 H6 _ I6 q6) fun b s7 zq5=>?_
   obtain ⟨H7,I7,q7⟩:=zq5
   have pinned:∀ {σ8:St} {H8:Hp} {s8:Shared},Inv (cxB X NB own scope P.objs.size fp s2 H2) ([(s2.heap.objs.size,{ cls:=.type "list",data:=.seq (EB:List Value).toArray k })]++g8 fp s5.heap) σ8 H8 s8 →
     tn (i+1) s8.heap∧(∀ b∈fp,H8 b=none)∧s8.heap.get? s2.heap.objs.size=some { cls:=.type "list",data:=.seq (EB:List Value).toArray k }∧H8 s2.heap.objs.size=none:=fun {σ8 H8 s8} I8=>by
    refine ⟨T.keep _ _ _ st5 fun b hb o e=>(I8.pin (b,o) (z6 _ (z6 _ (cW hb e)))).1,fun b hb=>?_,?_,?_⟩
    ·obtain ⟨o,e,d⟩:=T.obj _ _ st5 b hb
     exact (I8.pin (b,o) (z6 _ (z6 _ (cW hb e)))).2.1
    ·exact (I8.pin (s2.heap.objs.size,_) (z6 _ (Aj _ (zJ.mpr rfl)))).1
    ·exact (I8.pin (s2.heap.objs.size,_) (z6 _ (Aj _ (zJ.mpr rfl)))).2.1
   have nopin:∀ {pp:List (Addr × Obj)} {σ8:St} {H8:Hp} {s8:Shared},Inv (cxB X NB own scope P.objs.size fp s2 H2) pp σ8 H8 s8→Inv (cxB X NB own scope P.objs.size fp s2 H2) [] σ8 H8 s8:=fun I8=>I8.pins_of fun p hp=>absurd (show p∈([]:List (Addr × Obj)) from hp) (by simp)
   cases b with
   | false =>
    rw [if_neg An] at q7 ⊢
    obtain ⟨m',hm,w7⟩:=q7
    obtain ⟨p1,p2,p3,p4⟩:=pinned I7
    exact ⟨m',hm,i+1,σ6,H7,ys,EB,k,nopin I7,p1,p2,p3,rv,p4,w7⟩
   | true =>
    rw [if_pos rfl] at q7 ⊢
    refine thn (he _ fp s2 H2 _ s7 σ6 H7 _ I7 q7) fun yv s8 zq6=>?_
    obtain ⟨y,H8,I8,r8,m',hm,w8⟩:=zq6
    obtain ⟨p1,p2,p3,p4⟩:=pinned I8
    refine DV F.slot_list_append ⟨_,p3,rfl⟩ F.entry_list_append (F.args_list_append_2 _ _) (PySem.list_append s2.heap.objs.size EB.toArray k yv (by rw [z8,← rv.length];omega)) ⟨p3,?_⟩
    have q:=PySem.IsL.update p3 fun a=>a.push yv
    have ea:EB.toArray.push yv=(EB++[yv]).toArray:=by simp
    rw [ea] at q
    have I9:Inv (cxB X NB own scope P.objs.size fp s2 H2) [] σ6 H8 { s8 with heap:=s8.heap.update s2.heap.objs.size (Obj.mapSeq fun a=>a.push yv),toks:=s8.toks } :=
     (nopin I8).turned (it:=s2.heap.objs.size) (fun b o hb e=>(AL s8.heap _ (Ne.symm hb)).trans e) p4 hDC (.inr (zU _)) (fun x c e=>nCD x c e) fun p hp=>absurd (show p∈([]:List (Addr × Obj)) from hp) (by simp)
    refine ⟨m',hm,i+1,σ6,H8,ys++[y],EB++[yv],_,I9,?_,p2,q,rv.append (.cons r8 .nil),p4,w8⟩
    refine T.keep _ _ _ p1 fun b hb o e=>(AL s8.heap _ ?_).trans e
    intro z
    rw [z] at ndf
    exact ndf hb
 exact codeAny_compStart_list (loop _ rfl) (T.self X.A 0 _ _ _ st4 (loop _ rfl))
theorem gf {X:Cx}{elt iter tg:Expr}{ifs:List Expr}{scope:Scope}{pos:Pos}{NB own:List Str}{cap:List Nat}{wi:TI}{g:TG}{ti:TT}{te:TE}(B:Blk X scope NB own cap)(hc:X.calm=true)(hi:PI X tg iter wi)
  (hg:∀ C fp s₀ H₀,PG (cxB X NB own scope C fp s₀ H₀) tg g) (ht:∀ C fp s₀ H₀,PIf (cxB X NB own scope C fp s₀ H₀) ifs ti) (he:∀ C fp s₀ H₀,PE (cxB X NB own scope C fp s₀ H₀) elt te)
  (hs:∀ x,foldedSetIterable iter X.env x=pure x:=by intro _;rfl):PE X (.ListComp elt [⟨tg,iter,ifs,0⟩] scope pos) (rN own cap wi g ti te):=by
 intro EA s σ H Q I0 h
 rw [eval_ListComp]
 refine jB (use:=none) (QQ:=EP X EA σ Q) B hc hi hg ht he hs I0 h fun fp C s2 s4 H2 H3 σ3 EB ys k I f2 EZ hDC I5 hn3 hD4 rv hz q=>?_
 obtain ⟨mC,hnC,_⟩:=I5.loc
 exact ⟨mC,hnC,fun h'' sb=>⟨.ref s2.heap.objs.size,_,B.done I f2 EZ (zU _) hDC I5 hn3 hD4 rv hz sb,rfl,q⟩⟩
theorem eS {own:List Str}{cap:List Nat}{J:It}{g:TG}{ti:TT}{te:TE}{σ:St}{H:Hp}{Q:VK}(n:Nat)(Pv:Nat→List V→St→Hp→Prop)(h0:Pv 0 [] (stB own cap σ) H)(hz:∀ i ys σ H,i≤n→Pv i ys σ H→ys.length≤i)(hn:n≤sizeLine)
  (hgo:∀ i ys σ H,i < n→Pv i ys σ H→J.go i H) (hst:∀ ys σ H,Pv n ys σ H→J.stop n H)
  (hs:∀ i ys σ H x H' (N:List V→St→Hp→Prop),i < n→Pv i ys σ H→J.yld i H x H'→(∀ ys' σ' H'',Pv (i+1) ys' σ' H''→N ys' σ' H'')→g x σ H' fun σ2 H2=>ti σ2 H2 fun b H3=>if b=true then te σ2 H3 fun y H4=>N (ys++[y]) σ2 H4 else N ys σ2 H3)
  (hd:∀ ys σ H D,Pv n ys σ H→H D=none→Q (.ref D) (upd H D (.lst ys))) :
  vb own cap g ti te Q σ J H:=by
 refine ⟨fun i m ys σ H=>m=n - i∧i≤n∧Pv i ys σ H,⟨n,by simp,Ay _,h0⟩,?_⟩
 rintro i m ys σ H ⟨rfl,hi,p⟩
 have hl:=hz i ys σ H hi p
 by_cases EH:i < n
 ·refine .inr ⟨hgo i ys σ H EH p,by omega,fun x H' y=>?_⟩
  exact hs i ys σ H x H' (fun ys' σ' H''=>∃ m',m' < n - i∧m'=n - (i+1)∧i+1≤n∧Pv (i+1) ys' σ' H'') EH p y fun ys' σ' H'' q=>⟨n - (i+1),by omega,rfl,EH,q⟩
 ·have e:i=n:=by omega
  subst e
  exact .inl ⟨hst ys σ H p,by omega,fun D hD=>hd ys σ H D p hD⟩
def Its (z:Str):It:=⟨fun i _=>i < z.cps.size,fun i H x H'=>H'=H∧∃ c,z.cps[i]? = some c∧x = .str ⟨#[c]⟩,fun i _=>i=z.cps.size⟩
theorem cq {P:Program}{w:World}{K:PySem.W.Frag}{tg:Expr}{it n:Nat}{Pv:Nat→Value→Prop}{st:Nat→Heap→Prop}{J:It}{T:String}{fl:Nat→Array Value}
  (W:∀ A:Around,A.handled=none→Walks P w A it [it] [it] n Pv st) (hst:∀ i h,st i h→∃ o,h.get? it=some o∧o.cls = .type T∧o.data = .fields (fl i))
  (hT:["enumerate","zip","dict_itemiterator","dict_reverseitemiterator","odict_iterator","itertools.zip_longest","itertools.pairwise"].contains T=false)
  (hgo:∀ i H,J.go i H→i < n) (hstop:∀ i H,J.stop i H→i=n) (hy:∀ i H u,J.go i H→Pv i u→∃ x,bC x u∧J.yld i H x H)
  (hself:∀ (A:Around) (i:Nat) (s:Shared) (Q:Value→Shared→Prop) (E:Value→Shared→Prop),st i s.heap→Q (.ref it) s→wpAny (model P w) A (pyIter (.ref it)) Q E s):uI P w K tg J [it] it st where
 mem:=by simp
 obj:=fun i h s b hb=>by
  have e:b=it:=by simpa using hb
  subst e
  obtain ⟨o,e,c,d⟩:=hst i h s
  exact ⟨o,e,fun v z=>by rw [d] at z;cases z⟩
 keep:=fun i h h' s k=>(W {} rfl).frame i h h' s k
 item:=by
  intro X hP hw hK hc i EA s σ H E I hf s0 hg
  subst hP hw hK
  obtain ⟨f0,f1,f2,f3,f4,f5⟩:=hf it (by simp)
  refine (W X.A (I.ok.hd hc)).item i s _ _ (hgo i H hg) s0 fun v h' tk hv st' kk=>?_
  have I1:Inv X EA σ H { s with heap:=h',toks:=tk }:=I.turned (fun b o hb e=>kk b o (by simpa using hb) e) f0 f1 f3 f4 f5
  obtain ⟨o,e,c,d⟩:=hst _ _ st'
  obtain ⟨x,rx,yx⟩:=hy i H v hg hv
  exact ⟨v,rfl,oQ (s:={ s with heap:=h',toks:=tk }) e c d hT ⟨x,H,I1,rx,yx,st',fun b hb=>(hf b hb).1⟩⟩
 done:=by
  intro X hP hw hK hc i EA s σ H E I hf s0 hg
  subst hP hw hK
  obtain ⟨f0,f1,f2,f3,f4,f5⟩:=hf it (by simp)
  have e:=hstop i H hg
  subst e
  exact (W X.A (I.ok.hd hc)).done s _ _ s0 fun h' tk kk=>⟨rfl,I.turned (fun b o hb e=>kk b o (by simpa using hb) e) f0 f1 f3 f4 f5⟩
 self:=hself
section
variable {X:Cx} {tg:Expr}
def zi (tl:TE):TI:=fun σ H R=>tl σ H fun x H1=>∃ z,x = .str z∧R (Its z) H1
theorem lO {z:Str}{i:Nat}{H:Hp}{u:Value}(h:SignAt z i u):∃ x,bC x u∧(Its z).yld i H x H:=by
 obtain ⟨c,t,e,rfl⟩:=h
 exact ⟨.str ⟨#[c]⟩,⟨t,rfl⟩,rfl,c,e,rfl⟩
theorem jC {l:Expr}{tl:TE}(hl:PE X l tl):PI X tg l (zi tl):=by
 intro EA s σ H R I h
 refine thn (hl EA s σ H _ I h) fun v s1 zq1=>?_
 obtain ⟨x,H1,I1,r1,q1⟩:=zq1
 obtain ⟨z,rfl,q⟩:=q1
 obtain ⟨t,rfl⟩:=r1
 have fp:∀ b∈[s1.heap.objs.size],k0 X EA H1 b:=fun b hb=>by
  have e:b=s1.heap.objs.size:=by simpa using hb
  subst e
  exact I1.fpOk (zU _) (I1.hok.fresh (zU _))
 cases ha:z.cps.all (· < 128)
 ·refine wpAny_pyIter_wide ha ⟨s1.heap.objs.size,[s1.heap.objs.size],_,Its z,H1,rfl,I1.kept (t':=s1.toks) fun b o e=>zM _ e,
   cq (T:="str_iterator") (fl:=fun i=>#[.str z t,.int i 0]) (fun A hh=>Walks.strWide hh _ z t) (fun i h st=>st) (by decide) (fun i H g=>g) (fun i H g=>g) (fun i H u _ hu=>lO hu) (fun A i s Q E st h=>wpAny_pyIter_striter_wide st h),⟨_,z_ _ rfl,rfl,rfl⟩,fp,q⟩
 ·refine wpAny_pyIter_ascii ha ⟨s1.heap.objs.size,[s1.heap.objs.size],_,Its z,H1,rfl,I1.kept (t':=s1.toks) fun b o e=>zM _ e,
   cq (T:="str_ascii_iterator") (fl:=fun i=>#[.str z t,.int i 0]) (fun A hh=>Walks.strAscii hh _ z t) (fun i h st=>st) (by decide) (fun i H g=>g) (fun i H g=>g) (fun i H u _ hu=>lO hu) (fun A i s Q E st h=>wpAny_pyIter_striter_ascii st h),⟨_,z_ _ rfl,rfl,rfl⟩,fp,q⟩
inductive yO (x:V)(lo:Option Int)(hi:Option Int)(H:Hp)(Q:VK):Prop
 | mk:∀ z,(x = .str z)→(z.length≤sizeLine)→(Q (.str (Txt.slice z lo hi)) H)→yO x lo hi H Q
theorem cN:SlR X yO:=by
 intro EA s σ H x v vl vu lo hi sl Q I rx hs pl pu h
 obtain ⟨z,rfl,hz,q⟩:=h
 obtain ⟨t,rfl⟩:=rx
 have fin:∀ (lo hi:Option Int),Q (.str (Txt.slice z lo hi)) H→∀ t' k,EP X EA σ Q (.str (Txt.slice z lo hi) t') { s with toks:=k }:=fun lo hi q t' k=>⟨.str _,H,I.tok _,⟨_,rfl⟩,q⟩
 refine ⟨"str",_,F.slot_str_getitem.lookup,CW _ _ _,?_⟩
 cases pl with
 | none =>
  cases pu with
  | none=>exact Bn (l:=none) (u:=none) (st:=none) hs rfl (Co ⟨AO (CF z _ _) hz,fun t' k=>fin _ _ q t' k⟩)
  | int j uj=>exact Bn (l:=none) (u:=some (j,uj)) (st:=none) hs rfl (Co ⟨AO (CF z _ _) hz,fun t' k=>fin _ _ q t' k⟩)
 | int i ui =>
  cases pu with
  | none=>exact Bn (l:=some (i,ui)) (u:=none) (st:=none) hs rfl (Co ⟨AO (CF z _ _) hz,fun t' k=>fin _ _ q t' k⟩)
  | int j uj=>exact Bn (l:=some (i,ui)) (u:=some (j,uj)) (st:=none) hs rfl (Co ⟨AO (CF z _ _) hz,fun t' k=>fin _ _ q t' k⟩)
inductive qB (x:V)(vs:List V)(H:Hp)(Q:VK):Prop
 | mk:∀ z,(x = .str z)→(vs=[])→(z.length≤5592405)→(Q (.str (Txt.upper z)) H)→qB x vs H Q
inductive qC (x:V)(vs:List V)(H:Hp)(Q:VK):Prop
 | mk:∀ z,(x = .str z)→(vs=[])→(z.length≤5592405)→(Q (.str (Txt.lower z)) H)→qC x vs H Q
theorem o7:MtR X "str.upper" qB:=by
 intro EA s σ H x vs v us Q I rx rv h
 obtain ⟨z,rfl,rfl,hz,q⟩:=h
 obtain ⟨t,rfl⟩:=rx
 cases rv
 exact SCL.upper hz fun _=>⟨.str _,H,I.tok _,⟨_,rfl⟩,q⟩
theorem o8:MtR X "str.lower" qC:=by
 intro EA s σ H x vs v us Q I rx rv h
 obtain ⟨z,rfl,rfl,hz,q⟩:=h
 obtain ⟨t,rfl⟩:=rx
 cases rv
 exact SCL.lower hz fun _=>⟨.str _,H,I.tok _,⟨_,rfl⟩,q⟩
theorem fG:∀ {ys:List Str} {us:List Value},bh (ys.map V.str) us→StrsAre us ys
 | [],_,r=>by
  rw [DP] at r
  cases r
  exact .nil
 | y::ys,us,r=>by
  rw [AA] at r
  cases r with
  | cons r1 r2 =>
   obtain ⟨t,e⟩:=r1
   subst e
   exact .cons y t (fG r2)
inductive vc (K:PySem.W.Frag)(x:V)(vs:List V)(H:Hp)(Q:VK):Prop
 | mk:∀ z p ys,(x = .str z)→(vs=[.ref p])→(SqL K H p (ys.map V.str))→((ys.map (·.length)).sum+ys.length*z.length≤16777216)→(Q (.str (Txt.join z ys)) H)→vc K x vs H Q
theorem eU:MtR X "str.join" (vc X.K):=by
 intro EA s σ H x vs v us Q I rx rv h
 obtain ⟨z,p,ys,rfl,rfl,hq,hz,q⟩:=h
 obtain ⟨t,rfl⟩:=rx
 obtain ⟨u,rfl,ru⟩:=c6 rv
 cases ru
 obtain ⟨EB,r,pl,_⟩:=I.list hq
 exact join_list pl.isList (by simpa using fG r) hz fun t' k=>⟨.str _,H,I.tok _,⟨_,rfl⟩,q⟩
inductive d6  (x:V)(y:V)(H:Hp)(Q:VK):Prop
 | mk:∀ z n,(x = .str z)→(y = .int n)→(MulOk z n)→(Q (.str (Txt.mul z n)) H)→d6 x y H Q
theorem fH:OpR X (binaryOp .Mult) d6:=by
 intro EA s σ H x y v u Q I rx ry h
 obtain ⟨z,n,rfl,rfl,hz,q⟩:=h
 obtain ⟨t,rfl⟩:=rx
 obtain ⟨t',rfl⟩:=ry
 exact SB.mul hz fun t' k=>⟨.str _,H,I.tok _,⟨_,rfl⟩,q⟩
end
theorem rO {z:Str}{g:TG}{tb:TS}{D:iM}{σ:St}{H:Hp}(Pv:Nat→St→Hp→Prop)(h0:Pv 0 σ H)
  (hs:∀ i c σ H,z.cps[i]? = some c→Pv i σ H→g (.str ⟨#[c]⟩) σ H fun σ2 H2=>tb { D with nx:=Pv (i+1),ct:=Pv (i+1),bk:=D.nx } σ2 H2) (hd:∀ σ H,Pv z.cps.size σ H→D.nx σ H) :
  ∃ W:Nat→Nat→St→Hp→Prop,(∃ m,W 0 m σ H)∧∀ i m σ H,W i m σ H →
   ((Its z).stop i H∧D.nx σ H) ∨ ((Its z).go i H∧∃ N:St→Hp→Prop,(∀ σ' H',N σ' H'→∃ m',m' < m∧W (i+1) m' σ' H')∧∀ x H',(Its z).yld i H x H'→g x σ H' fun σ2 H2=>tb { D with nx:=N,ct:=N,bk:=D.nx } σ2 H2):=by
 refine ⟨fun i m σ H=>m=z.cps.size - i∧i≤z.cps.size∧Pv i σ H,⟨z.cps.size,by simp,Ay _,h0⟩,?_⟩
 rintro i m σ H ⟨rfl,hi,p⟩
 by_cases EH:i < z.cps.size
 ·refine .inr ⟨EH,Pv (i+1),fun σ' H' p'=>⟨z.cps.size - (i+1),by omega,rfl,EH,p'⟩,fun x H' y=>?_⟩
  obtain ⟨e,c,hc,ex⟩:=y
  subst e ex
  exact hs i c σ _ hc p
 ·have e:i=z.cps.size:=by omega
  subst e
  exact .inl ⟨rfl,hd σ H p⟩
end L2
namespace PySem
open Sem (wp)
open Builtin Builtin.SmallTypes
namespace F
theorem lookup_str_reversed:typeLookup (.type "str") "__reversed__" = pure none:=by rw [C0,BZ]; kernel_rfl
theorem gg:Slot "reversed" "__init__" "object.__init__" :=
 .of (owner:="object") (n:="__init__") (by rw [C0,BZ];kernel_rfl) (by decide +kernel) (by decide +kernel) (by decide +kernel)
  (by first | exact .inl (by decide +kernel) | exact .inr (by decide +kernel)) (by rw [Dk];kernel_rfl)
theorem called_rvs:TypeCalled "reversed" "reversed.__new__" "object.__init__" :=
 ⟨by decide +kernel,create_reversed,⟨_,_,mro_reversed⟩,made_reversed,plain_reversed_new,sub_reversed_self,gg⟩
end F
set_option maxHeartbeats 1000000 in
theorem lP (x:Str)(t:Tok):Meets (Builtin.«reversed.__new__» ⟨[.type "reversed",.str x t],[]⟩) (fun _ R s=>¬ (x.length:Int)≥2 ^ 63 ∧
   ∀ tk,R (.ok (.ret (.ref s.heap.objs.size))) { s with heap:=s.heap.push { cls:=.type "reversed",data:=.fields #[.str x t,rawInt ((x.length:Int) - 1)] },toks:=tk }) :=
 .of_wp fun prog w A R s h=>by
  obtain ⟨hx,h⟩:=h
  unfold Builtin.«reversed.__new__»
  refine zK (C1 (newClass_reversed _) ?_)
  try dsimp only
  refine zK (C1 (a:=()) (by first | rfl | kernel_rfl) ?_)
  refine zK (C1 (a:=()) (by first | rfl | kernel_rfl) ?_)
  try dsimp only
  refine zK (wpAny_specialOf (CW s x t) F.lookup_str_reversed ?_)
  try dsimp only
  refine zK ?_
  have hl:=F.slot_str_getitem.lookup
  have hT:=CW s x t
  have hD:isSubtype (.type "str") (.type "dict")=pure false:=by rw [Dk];kernel_rfl
  repeat (any_goals (first | assumption | refine PySem.P.len_str hx ?_ | wp_step))
  exact ⟨_,rfl,h _⟩
def Heap.IsRvs (h:Heap)(a:Addr)(x:Str)(t:Tok)(i:Int):Prop:=∃ o,h.get? a=some o∧o.cls = .type "reversed"∧o.data = .fields #[.str x t,rawInt i]
theorem Heap.IsRvs.typeIs {s:Shared}{a:Addr}{x:Str}{t:Tok}{i:Int}(y:s.heap.IsRvs a x t i):s.TypeIs (.ref a) "reversed":=let ⟨o,ho,hc,_⟩:=y; ⟨o,ho,hc⟩
namespace F
theorem slot_rvs_next:Slot "reversed" "__next__" "reversed.__next__" :=
 .of (owner:="reversed") (n:="__next__") (by rw [C0,BZ];kernel_rfl) (by decide +kernel) (by decide +kernel) (by decide +kernel)
  (by first | exact .inl (by decide +kernel) | exact .inr (by decide +kernel)) (by rw [Dk];kernel_rfl)
theorem entry_rvs_next:entryFor table "reversed.__next__" = some Builtin.«reversed.__next__»:=entryFor_of_tree (by kernel_rfl)
theorem args_rvs_next (a:Value):argsOk "reversed.__next__" ⟨[a],[]⟩:=by unfold argsOk; kernel_rfl
theorem slot_rvs_iter:Slot "reversed" "__iter__" "reversed.__iter__" :=
 .of (owner:="reversed") (n:="__iter__") (by rw [C0,BZ];kernel_rfl) (by decide +kernel) (by decide +kernel) (by decide +kernel)
  (by first | exact .inl (by decide +kernel) | exact .inr (by decide +kernel)) (by rw [Dk];kernel_rfl)
theorem args_rvs_iter (a:Value):argsOk "reversed.__iter__" ⟨[a],[]⟩:=by unfold argsOk; kernel_rfl
theorem entry_rvs_iter:entryFor table "reversed.__iter__" = some Builtin.«dict_keyiterator.__iter__» :=
 entryFor_alias (id':="dict_keyiterator.__iter__") (by kernel_rfl) rfl (by decide +kernel) (by kernel_rfl)
end F
section
variable {prog:Program} {w:World} {A:Around} {E:Value→Shared→Prop} {s:Shared} {x:Str} {t:Tok}
theorem ie {Q:Value→Shared→Prop}(hx:¬ (x.length:Int)≥2 ^ 63)
  (h:∀ tk,Q (.ref s.heap.objs.size) { s with heap:=s.heap.push { cls:=.type "reversed",data:=.fields #[.str x t,rawInt ((x.length:Int) - 1)] },toks:=tk }):wpAny (model prog w) A (call (.type "reversed") [.str x t]) Q E s :=
 callType_new F.called_rvs (by decide) (F.typeCall_reversed_1 _) (F.newCall_reversed_1 _) (fun obj=>F.args_object_init_2 obj _) F.entry_reversed_new (lP x t) ⟨hx,fun tk=>⟨⟨_,z_ _ rfl,rfl⟩,h tk⟩⟩
theorem gh {it:Addr}{i:Int}{Q:Value→Shared→Prop}(hit:s.heap.IsRvs it x t i)(h:Q (.ref it) s):wpAny (model prog w) A (pyIter (.ref it)) Q E s:=by
 refine wpAny_pyIter_slot hit.typeIs F.slot_rvs_iter (Cb F.slot_rvs_iter hit.typeIs F.entry_rvs_iter ?_ (F.args_rvs_iter _))
 show wpAny _ _ (ret (.ref it)) _ _ s
 exact Ab ⟨_,rfl,"reversed",_,hit.typeIs,F.slot_rvs_next.lookup,h⟩
theorem gi {it:Addr}{i:Nat}{c:Nat}{Q:Option Value→Shared→Prop}(hit:s.heap.IsRvs it x t (i:Int))(hx:x.cps[i]? = some c)(h63:(i:Int) < 2 ^ 63)
  (hQ:∀ h' tk u,h'.IsRvs it x t ((i:Int) - 1)→Heap.SameBut it s.heap h'→Q (some (.str ⟨#[c]⟩ u)) { s with heap:=h',toks:=tk }):wpAny (model prog w) A (pyNext (.ref it)) Q E s:=by
 obtain ⟨o,ho,hc,hd⟩:=id hit
 unfold pyNext
 refine zK (Dr (wpAny_callSpecial?_slot (name:=Str.ofString "__next__") hit.typeIs F.slot_rvs_next
  (Cb F.slot_rvs_next hit.typeIs F.entry_rvs_next ?_ (F.args_rvs_next _))))
 unfold Builtin.«reversed.__next__»
 refine zK (C1 (a:=(Value.ref it,[])) rfl ?_)
 try dsimp only
 refine zK (Ds ho hd (x:=.str x t) rfl ?_)
 refine zK (Ds ho hd (x:=rawInt (i:Int)) rfl ?_)
 show wpAny _ _ (if (i:Int) < 0 then _ else _) _ _ s
 rw [if_neg (by omega)]
 refine zK (wpAny_specialOf (CW s x t) F.slot_str_getitem.lookup ?_)
 show wpAny _ _ (if (some (Value.builtin "str.__getitem__")).isNone=true then _ else _) _ _ s
 rw [if_neg (by decide)]
 refine zK (wpAny_mkInt ?_)
 have EH:i < x.length:=by
  have:=Bz.mp hx
  exact this.1
 refine zK (Dr (PySem.P.getItem_str (c:=c) ?_ ?_ ?_))
 ·have e1:decide ((i:Int) < -(2 ^ 63:Int))=false:=zH (by omega)
  have e2:decide ((i:Int)≥2 ^ 63)=false:=zH (by omega)
  rw [e1,e2,D0]
 ·rw [PySem.StrLaws.seqIndex_nonneg (by omega) (by omega)]
  simpa using hx
 try dsimp only
 refine zK (Ds ho hd (x:=rawInt (i:Int)) rfl ?_)
 show wpAny _ _ (setField (.ref it) 1 (rawInt ((i:Int) - 1)) >>= _) _ _ _
 refine zK (DX ho hd (by simp) ?_)
 refine Ab ⟨_,rfl,Ab (hQ _ _ _ ?_ (C2 ..))⟩
 exact ⟨_,BX _ ho (Obj.isFreed_of_fields (Cp hd _)),(Obj.cls_mapFields ..).trans hc,by
  rw [Cp hd];simp⟩
theorem ig {it:Addr}{Q:Option Value→Shared→Prop}(hh:A.handled=none)(hit:s.heap.IsRvs it x t (-1))
  (hQ:∀ h',(∀ b o,b≠it→s.heap.get? b=some o→h'.get? b=some o)→Q none { s with heap:=h' }):wpAny (model prog w) A (pyNext (.ref it)) Q E s:=by
 obtain ⟨o,ho,hc,hd⟩:=id hit
 unfold pyNext
 refine zK (Dr (wpAny_callSpecial?_slot (name:=Str.ofString "__next__") hit.typeIs F.slot_rvs_next
  (Cb F.slot_rvs_next hit.typeIs F.entry_rvs_next ?_ (F.args_rvs_next _))))
 unfold Builtin.«reversed.__next__»
 refine zK (C1 (a:=(Value.ref it,[])) rfl ?_)
 try dsimp only
 refine zK (Ds ho hd (x:=.str x t) rfl ?_)
 refine zK (Ds ho hd (x:=rawInt (-1)) rfl ?_)
 show wpAny _ _ (if (-1:Int) < 0 then _ else _) _ _ s
 rw [if_pos (by decide)]
 refine zK (BU ?_)
 refine zK ?_
 show wpAny _ _ (setField (.ref it) 1 (rawInt (-1)) >>= fun _=>setField (.ref it) 0 .none) _ _ s
 refine zK (DX ho hd (by simp) ?_)
 have ho2:=BX (Obj.mapFields fun a=>a.setIfInBounds 1 (rawInt (-1))) ho (Obj.isFreed_of_fields (Cp hd _))
 have hd2:=Cp hd fun a=>a.setIfInBounds 1 (rawInt (-1))
 refine DX ho2 hd2 (by simp) ?_
 generalize hh2:(s.heap.update it _).update it _=h2
 have kk:∀ b o,b≠it→s.heap.get? b=some o→h2.get? b=some o:=fun b o hb e=>by
  rw [← hh2]
  exact (AL _ _ (Ne.symm hb)).trans ((AL _ _ (Ne.symm hb)).trans e)
 have hz:A.in1.handled=none:=hh
 have sub:=isSubtype_stop
 repeat (any_goals (first | assumption | wp_step))
 unfold raiseNew
 refine zK (wpAny_handled ?_)
 rw [hz]
 refine zK (Ab (wpAny_throw ?_))
 refine zK (wpAny_isInstance (T:="StopIteration") (b:=true) ?_ sub (Ab (hQ _ fun b o hb e=>?_)))
 ·exact ⟨_,z_ _ rfl,rfl⟩
 exact zM _ (zM _ (kk b o hb e))
theorem lQ (hh:A.handled=none)(it:Addr)(x:Str)(t:Tok)(h63:(x.cps.size:Int) < 2 ^ 63) :
  Walks prog w A it [it] [it] x.cps.size (fun i v=>∃ c u,x.cps[x.cps.size - 1 - i]? = some c∧v = .str ⟨#[c]⟩ u) (fun i h=>i≤x.cps.size∧h.IsRvs it x t ((x.cps.size:Int) - 1 - (i:Int))) where
 sub:=fun _ hb=>hb
 frame:=fun _ _ _ st hk=>let ⟨l,o,ho,r⟩:=st;⟨l,o,hk it (by simp) o ho,r⟩
 item:=fun i s Q E hi y hQ=>by
  have e:(x.cps.size:Int) - 1 - (i:Int)=((x.cps.size - 1 - i:Nat):Int):=by omega
  have hit:=y.2
  rw [e] at hit
  have hx:x.cps[x.cps.size - 1 - i]? = some (x.cps[x.cps.size - 1 - i]'(by omega)):=Array.getElem?_eq_getElem (by omega)
  refine gi hit hx (by omega) fun h' tk u hit' E5=>?_
  have e2:((x.cps.size - 1 - i:Nat):Int) - 1=(x.cps.size:Int) - 1 - ((i+1:Nat):Int):=by omega
  rw [e2] at hit'
  exact hQ _ h' tk ⟨_,u,hx,rfl⟩ ⟨hi,hit'⟩ fun b o hb eo=>E5.extBut b o (fun h=>hb (by simp [h])) eo
 done:=fun s Q E y hQ=>by
  have e:(x.cps.size:Int) - 1 - (x.cps.size:Int) = -1:=by omega
  have hit:=y.2
  rw [e] at hit
  exact ig hh hit fun h' he'=>hQ h' s.toks fun b o hb eo=>he' b o (fun h=>hb (by simp [h])) eo
 self:=fun _ _ _ _ y hQ=>gh y.2 hQ
end
end PySem
namespace L2
open PySem PySem.Spec PyProof.Rows
def xy (z:Str):It:=⟨fun i _=>i < z.cps.size,fun i H x H'=>H'=H∧∃ c,z.cps[z.cps.size - 1 - i]? = some c∧x = .str ⟨#[c]⟩,fun i _=>i=z.cps.size⟩
section
variable {X:Cx} {tg:Expr}
def xA (ta:TA):TI:=fun σ H R=>ta σ H fun vs H1=>∃ z,vs=[.str z]∧z.length≤sizeLine∧R (xy z) H1
theorem rP {a:Expr}{ta:TA}{p pos:Pos}(hg:Gl X "reversed")(hm:X.mg "reversed" = none)(hb:bootBuiltins "reversed" = some (.type "reversed"))(ha:PA X [a] ta)(hs:starEach [a] X.env=[(false,eval a X.env)]:=by rfl) :
  PI X tg (.Call (.Name "reversed" p) [a] [] pos) (xA ta):=by
 intro EA s σ H R I h
 refine Call_ (g7 I hg hm hb (Bw (thn (ha pos EA s σ H _ I h) fun us s1 zq1=>?_) hs rfl))
 obtain ⟨vs,H1,I1,r1,q1⟩:=zq1
 obtain ⟨z,rfl,hz,q⟩:=q1
 obtain ⟨u,rfl,t,rfl⟩:=c6 r1
 have hn:=dw
 have hsz:z.cps.size=z.length:=rfl
 refine ie (by omega) fun tk=>?_
 have hit:Heap.IsRvs (s1.heap.push { cls:=.type "reversed",data:=.fields #[.str z t,rawInt ((z.length:Int) - 1)] }) s1.heap.objs.size z t ((z.length:Int) - 1):=⟨_,z_ _ rfl,rfl,rfl⟩
 refine gh (s:={ s1 with heap:=s1.heap.push { cls:=.type "reversed",data:=.fields #[.str z t,rawInt ((z.length:Int) - 1)] },toks:=tk }) hit ?_
 refine ⟨s1.heap.objs.size,[s1.heap.objs.size],_,xy z,H1,rfl,I1.kept (t':=tk) fun b o e=>zM _ e,
  cq (T:="reversed") (fl:=fun i=>#[.str z t,rawInt ((z.cps.size:Int) - 1 - (i:Int))]) (fun A hh=>lQ hh _ z t (by omega)) (fun i h st=>st.2) (by decide) (fun i H g=>g) (fun i H g=>g)
   (fun i H u _ ⟨c,t',e,eu⟩=>⟨.str ⟨#[c]⟩,⟨t',eu⟩,rfl,c,e,rfl⟩) (fun A i s Q E st h=>gh st.2 h),⟨Ay _,by simpa [hsz] using hit⟩,fun b hb=>?_,q⟩
 have e:b=s1.heap.objs.size:=by simpa using hb
 subst e
 exact I1.fpOk (zU _) (I1.hok.fresh (zU _))
structure DTx (K:PySem.W.Frag) (w:World) (a:Addr):Prop where
 ob:∃ (es:Array DictEntry) (n:Nat),K.lookup a=some ⟨.type "dict",none,.dict es n,#[]⟩∧PySem.W.KeysLit w.params es.toList
theorem o9 {a:Addr}(D:DTx X.K X.w a):IxR X (fun x y H Q=>∃ z z' t,x = .ref a∧y = .str z∧PySem.W.nsIn X.K a z=some (some (.str z' t))∧Q (.str z') H):=by
 intro value slice EA s σ H x y v u Q I rx ry h hs
 obtain ⟨z,z',t',rfl,rfl,e,q⟩:=h
 cases rx
 obtain ⟨t,rfl⟩:=ry
 obtain ⟨es,n,hl,hk⟩:=D.ob
 obtain ⟨m,F⟩:=I.fr
 exact PySem.W.topItem_K F I.ok.mod.kin hl hk e ⟨.str z',H,I.tok _,⟨_,rfl⟩,q⟩ hs
def o_ (K:PySem.W.Frag)(a:Addr)(Q:VK):V→Hp→Prop:=fun y H1=>∃ z z' t,y = .str z∧PySem.W.nsIn K a z=some (some (.str z' t))∧Q (.str z') H1
def xB (K:PySem.W.Frag)(a:Addr)(ti:TE):TE:=fun σ H Q=>ti σ H (o_ K a Q)
theorem rQ {K:PySem.W.Frag}{w:World}{a:Addr}{x:Str}{i:Expr}{ti:TE}{p pos:Pos}(D:DTx K w a)(hK:X.K=K)(hw:X.w=w)(hg:Gl X x)(hm:X.mg x=some (.ref a))(hi:PE X i ti)(hs:ly i)
  (hd:(x == ("__debug__":Str))=false:=by decide):PE X (.Subscript (.Name x p) i pos) (xB K a ti):=by
 subst hK hw
 intro EA s σ H Q I h
 refine Subscript_ (iP I hg hm (thn (hi EA s σ H _ I h) fun u s2 zq2=>?_) hd)
 obtain ⟨y,H2,I2,ry,z,z',t',e1,e2,q⟩:=zq2
 exact o9 D _ _ EA s2 σ H2 (.ref a) y (.ref a) u Q I2 rfl ry ⟨z,z',t',rfl,e1,e2,q⟩ (hs _ _)
end
end L2
namespace Wd
abbrev L:=Fin 12
def inv (x:L):L:=if h:x.val < 6 then ⟨x.val+6,by omega⟩ else ⟨x.val - 6,by omega⟩
theorem aC:∀ x:L,inv (inv x)=x:=by decide
theorem dE:∀ x:L,inv x≠x:=by decide
def bk (w:List L):List L:=(w.map inv).reverse
theorem xC (w:List L):bk (bk w)=w:=by
 unfold bk
 rw [List.map_reverse,List.reverse_reverse,BE]
 have:(inv ∘ inv)=id:=funext fun x=>aC x
 rw [this,List.map_id]
theorem bf (w:List L):(bk w).length=w.length:=by simp [bk]
theorem dg (x:L):bk [x]=[inv x]:=rfl
def push (st:List L)(x:L):List L:=match st with
 | []=>[x]
 | y::r=>if y=inv x then r else x::y::r
def Rd:List L→Prop
 | []=>True
 | [_]=>True
 | x::y::r=>y≠inv x∧Rd (y::r)
theorem Rd.tail:∀ {x:L} {r:List L},Rd (x::r)→Rd r
 | _,[],_=>trivial
 | _,_::_,h=>h.2
def rep:Nat→List L→List L
 | 0,_=>[]
 | n+1,w=>rep n w++w
theorem gj (w:List L):∀ n,rep n w++w=w++rep n w
 | 0=>by simp [rep]
 | n+1=>by
  show (rep n w++w)++w=w++(rep n w++w)
  rw [← zR,← gj w n]
theorem dQ (w:List L):∀ n,(rep n w).length=n*w.length
 | 0=>by simp [rep]
 | n+1=>by
  show (rep n w++w).length=_
  rw [zI,dQ w n,Nat.succ_mul]
def pw (w:List L)(n:Int):List L:=rep n.natAbs (if n < 0 then bk w else w)
end Wd
namespace L2
open PySem PySem.Spec PyProof.Rows Wd
def cp (x:L):Nat:=if x.val < 6 then 97+x.val else 59+x.val
theorem rR:∀ x:L,cp x < 128:=by decide
theorem qD:∀ x y:L,cp x=cp y→x=y:=by decide
def toS (w:List L):Str:=⟨(w.map cp).toArray⟩
def tx (w:List L):V:=.str (toS w)
theorem bY (w:List L):(toS w).cps.toList=w.map cp:=by simp [toS]
theorem af (w:List L):(toS w).length=w.length:=by simp [toS,Str.length]
theorem bx (w:List L):(toS w).cps.size=w.length:=by simp [toS]
theorem fI (u v:List L):toS u++toS v=toS (u++v):=by
 apply Str.ext'
 rw [Str.cps_append]
 simp [toS]
theorem dR:∀ {u v:List L},u.map cp=v.map cp→u=v
 | [],[],_=>rfl
 | [],_::_,h=>by simp at h
 | _::_,[],h=>by simp at h
 | x::u,y::v,h=>by
  simp only [AA,DR] at h
  rw [qD x y h.1,dR h.2]
theorem lS {u v:List L}(h:toS u=toS v):u=v:=by
 have:(toS u).cps.toList=(toS v).cps.toList:=by rw [h]
 rw [bY,bY] at this
 exact dR this
theorem jD {u v:List L}(h:tx u=tx v):u=v:=lS (V.str.inj h)
theorem qE (u v:List L):decide (tx u=tx v)=decide (u=v):=by
 by_cases h:u=v
 ·subst h;simp
 ·rw [zH h,zH fun e=>h (jD e)]
theorem rS:toS [0,1,2,3,4,5]=("abcdef":Str):=by decide +kernel
theorem big:toS [6,7,8,9,10,11]=("ABCDEF":Str):=by decide +kernel
theorem dS {w:List L}{i c:Nat}(h:(toS w).cps[i]? = some c):∃ x,w[i]? = some x∧(⟨#[c]⟩:Str)=toS [x]:=by
 have h:((w.map cp).toArray)[i]? = some c:=h
 rw [List.getElem?_toArray,Az] at h
 cases e:w[i]? with
 | none=>rw [e] at h;cases h
 | some x =>
  rw [e] at h
  have:cp x=c:=zP h
  exact ⟨x,rfl,by rw [← this];rfl⟩
theorem cu {w:List L}{k:Nat}{x:L}{i:Int}(hk:i=(k:Int))(h:w[k]? = some x):atI (toS w).cps.toList i=some (cp x):=by
 subst hk
 rw [bY]
 obtain ⟨hl,e⟩:=zN.mp h
 unfold atI ixN
 rw [if_pos (by omega),if_pos (by rw [zV];omega)]
 show (w.map cp)[((k:Nat):Int).toNat]? = _
 rw [AM,Az,h]
 rfl
def pb (w:List L)(lo hi:Option Int):List L:=(w.drop (HT.sIx w.length 0 lo)).take (HT.sIx w.length w.length hi - HT.sIx w.length 0 lo)
theorem rT (lo hi:Option Int)(n:Nat):Builtin.Str.strSliceIndices lo hi 1 n=(List.range (HT.sIx n n hi - HT.sIx n 0 lo)).map (fun k=>HT.sIx n 0 lo+k):=by
 have cl:∀ v:Int,max (0:Int) (min (if v < 0 then v+(n:Int) else v) (n:Int))=(((if v < 0 then (v+(n:Int)).toNat else min v.toNat n):Nat):Int):=fun v=>by
  by_cases hv:v < 0
  ·simp only [if_pos hv];omega
  ·simp only [if_neg hv];omega
 have fin:∀ a b:Nat,sliceRange (a:Int) (b:Int) 1=(List.range (b - a)).map (fun k=>a+k):=fun a b=>by
  unfold sliceRange
  simp only [show ((1:Int) > 0)=True from by simp,BI]
  by_cases EH:(a:Int) < b
  ·have e3:(((b:Int) - a+1 - 1) / 1).toNat=b - a:=by first | omega | (simp;done) | (simp;omega)
   simp only [EH,BI,e3]
   exact List.map_congr_left fun k _=>by omega
  ·have:b - a=0:=by omega
   simp [EH,this]
 unfold Builtin.Str.strSliceIndices
 simp only [show ((1:Int) > 0)=True from by simp,BI]
 cases lo with
 | none =>
  cases hi with
  | none=>exact fin 0 n
  | some j=>simp only [cl];exact fin 0 _
 | some i =>
  cases hi with
  | none=>simp only [cl];exact fin _ n
  | some j=>simp only [cl];exact fin _ _
theorem bp (w:List L)(lo hi:Option Int):Txt.slice (toS w) lo hi=toS (pb w lo hi):=by
 have h1:=HT.qx w.length 0 (Ay _) lo
 have h2:=HT.qx w.length w.length (zU _) hi
 unfold Txt.slice
 rw [rT,af]
 split
 ·rename_i h
  have hl:HT.sIx w.length w.length hi - HT.sIx w.length 0 lo=w.length:=by simpa using h
  have e:pb w lo hi=w:=by
   unfold pb
   rw [hl]
   have ha:HT.sIx w.length 0 lo=0 ∨ w.length=0:=by omega
   rcases ha with ha | ha
   ·rw [ha,CD,CM]
   ·have:w=[]:=A7 ha
    subst this
    simp
  rw [e]
 ·apply Str.ext'
  show (List.filterMap _ _).toArray=_
  have e:=StrLaws.picks (w.map cp) (HT.sIx w.length w.length hi - HT.sIx w.length 0 lo) (HT.sIx w.length 0 lo)
  by_cases hle:HT.sIx w.length 0 lo≤HT.sIx w.length w.length hi
  ·have e:=e (by rw [zV];omega)
   have e2:(fun k:Nat=>(toS w).cps[k]?)=fun k:Nat=>(w.map cp)[k]?:=funext fun k=>by simp [toS]
   rw [e2,e]
   simp [toS,pb,List.map_take,List.map_drop]
  ·have z:HT.sIx w.length w.length hi - HT.sIx w.length 0 lo=0:=by omega
   rw [z]
   simp [toS,pb,z]
theorem d7 (w:List L){n:Int}(h:0≤n):pb w none (some n)=w.take n.toNat:=by
 obtain ⟨k,rfl⟩:=AR h
 unfold pb
 rw [HT.fQ,HT.fR,CD,D6,AM]
 by_cases hk:k≤w.length
 ·rw [Nat.min_eq_left hk]
 ·rw [Nat.min_eq_right (by omega),CM,AB (by omega)]
theorem jE (w:List L){n:Int}(h:0≤n):pb w (some n) none=w.drop n.toNat:=by
 obtain ⟨k,rfl⟩:=AR h
 unfold pb
 rw [HT.fQ,HT.fR,AM]
 by_cases hk:k≤w.length
 ·rw [Nat.min_eq_left hk,AB (by rw [Bl];omega)]
 ·rw [Nat.min_eq_right (by omega),DC,By (by omega)]
  simp
theorem lU (w:List L):Txt.upper (toS w)=⟨((w.map cp).map up1).toArray⟩:=by
 rw [upper_ascii fun c hc=>by rw [bY] at hc;obtain ⟨x,_,rfl⟩:=AE.mp hc;exact rR x]
 simp [toS]
theorem lV (w:List L):Txt.lower (toS w)=⟨((w.map cp).map lo1).toArray⟩:=by
 rw [lower_ascii fun c hc=>by rw [bY] at hc;obtain ⟨x,_,rfl⟩:=AE.mp hc;exact rR x]
 simp [toS]
theorem xD:∀ x:L,x.val < 6→up1 (cp x)=cp (inv x):=by decide
theorem xE:∀ x:L,¬ x.val < 6→lo1 (cp x)=cp (inv x):=by decide
theorem lX {x:L}(h:x.val < 6):Txt.upper (toS [x])=toS [inv x]:=by
 rw [lU]
 show (⟨#[up1 (cp x)]⟩:Str)=⟨#[cp (inv x)]⟩
 rw [xD x h]
theorem lY {x:L}(h:¬ x.val < 6):Txt.lower (toS [x])=toS [inv x]:=by
 rw [lV]
 show (⟨#[lo1 (cp x)]⟩:Str)=⟨#[cp (inv x)]⟩
 rw [xE x h]
theorem pe:∀ w:List L,Txt.join ("":Str) (w.map fun x=>toS [x])=toS w:=by
 intro w
 have e0:("":Str)=Str.empty:=by decide +kernel
 unfold Txt.join
 rw [StrLaws.glued_eq_join,e0]
 induction w with
 | nil=>rfl
 | cons x r ih =>
  cases r with
  | nil=>rfl
  | cons y r =>
   show toS [x]++Str.empty++Str.join Str.empty ((y::r).map fun x=>toS [x])=_
   rw [ih,Str.append_empty,fI]
   rfl
theorem rV (w:List L):((w.map fun x=>toS [x]).map (·.length)).sum=w.length:=by
 induction w with
 | nil=>rfl
 | cons x r ih =>
  simp only [AA,List.sum_cons,AC]
  rw [ih,af]
  simp only [Aq]
  omega
theorem d8 (w:List L):∀ (n:Nat) (acc:Array Nat),(List.replicate n (toS w).cps).foldl (· ++ ·) acc=acc++((rep n w).map cp).toArray
 | 0,acc=>by simp [rep]
 | n+1,acc=>by
  rw [List.replicate_succ,List.foldl_cons,d8 w n]
  show _=acc++((rep n w++w).map cp).toArray
  rw [gj]
  simp [toS]
theorem lZ:∀ n,rep n ([]:List L)=[]
 | 0=>rfl
 | n+1=>by show rep n []++[]=[];rw [lZ n];rfl
theorem l6 (w:List L)(n:Int):Txt.mul (toS w) n=toS (rep n.toNat w):=by
 unfold Txt.mul
 by_cases h1:n < 1
 ·rw [if_pos h1]
  have:n.toNat=0:=by omega
  rw [this]
  rfl
 ·rw [if_neg h1]
  split
  ·rename_i h
   rw [af] at h
   simp only [Bool.or_eq_true,D3] at h
   rcases h with h | h
   ·subst h
    show toS w=toS (rep 1 w)
    show toS w=toS ([]++w)
    rfl
   ·have:w=[]:=A7 h
    subst this
    rw [lZ]
  ·apply Str.ext'
   show (List.replicate n.toNat (toS w).cps).foldl (· ++ ·) #[]=_
   rw [d8]
   simp [toS]
theorem ik (w:List L){n:Int}(h1:-1000000≤n)(h2:n≤1000)(hw:w.length≤10000):MulOk (toS w) n:=by
 refine ⟨?_,fun hn _=>?_,fun hn _=>?_⟩
 ·have e1:decide (n < -(2 ^ 63:Int))=false:=zH (by omega)
  have e2:decide (n≥2 ^ 63)=false:=zH (by omega)
  rw [e1,e2,D0]
 ·rw [af]
  have hn1:1≤n:=by omega
  have q:(9223372036854775:Int)≤(2 ^ 63 - 1) / n:=by
   rw [Int.le_ediv_iff_mul_le (by omega)]
   omega
  omega
 ·rw [af]
  unfold Builtin.Str.tooLong
  have e:sizeLine=16777216:=DZ
  obtain ⟨k,rfl⟩:=AR (show 0≤n by omega)
  have hk:k≤1000:=by omega
  rw [AM]
  have q:w.length*k≤10000*1000:=Nat.mul_le_mul hw hk
  exact zH (by omega)
structure Fnc (P:Program) (w:World) (K:PySem.W.Frag) (mg:Str→Option Value) (base:Heap) (x:Str) (ps:List Str) (k:Nat) (sp:Sp):Prop where
 ex:∃ (f:Addr) (fd:FuncData),mg x=some (.ref f)∧PySem.W.keepIn K (.ref f)=true∧km K fd ps []∧kl P w K mg base CX0 k f fd ps sp
theorem aA {X:Cx}{x:Str}{ps:List Str}{k j:Nat}{sp:Sp}{e:Expr}{es:List Expr}{t:TA}{p pos:Pos}(F:Fnc X.prog X.w X.K X.mg X.base x ps j sp)(hr:fD k X.A)(hj:j≤k)(hg:Gl X x)(ha:PA X (e::es) t)
  (hdb:(x == ("__debug__":Str))=false:=by decide) (he:starEach (e::es) X.env=(false,eval e X.env)::starEach es X.env:=by rfl) (hpl:(backTo pos (starEach es X.env)).any (·.1)=false:=by rfl) :
  PE X (.Call (.Name x p) (e::es) [] pos) (uQ sp [] E0 t):=by
 obtain ⟨f,fd,hm,hk,hb,F⟩:=F.ex
 exact rA F (hr.mono hj) hg hm hk hb .nil xw ha hdb he hpl
structure Df (K:PySem.W.Frag) (mg:Str→Option Value) (x:Str) (st:Stmt):Prop where
 ex:∃ (f:Addr) (fd:FuncData),mg x=some (.ref f)∧Fun K x x st f fd
theorem Df.ok {P:Program}{w:World}{K:PySem.W.Frag}{mg:Str→Option Value}{base:Heap}{x:Str}{st:Stmt}{N ps:List Str}{k:Nat}{sp:Sp}(D:Df K mg x st)(S:aD N ps (ak st))
  (hb:∀ (kV doc pm:Value) (an:Option Addr) (EJ ct:Value) (us:List Value),us.length=ps.length→bindArgs (PySem.W.fnOf x x (bX st) (bH st) (ak st) .none kV doc pm an EJ ct) ⟨us,[]⟩=pure (ps.zip us))
  (len:∀ vs H Q E,sp vs H Q E→vs.length=ps.length)
  (hbody:∀ (f:Addr) (EJ:Value) (A:Around) (outer:List Env) (s:Shared) (H:Hp) (vs:List V) (Q:VK) (E:XK),fD k (A.deeper (envOfC x (ak st) s.heap.objs.size f EJ))→sp vs H Q E →
   ∃ t,PSs (rB CX0 P w K mg base N x (ak st) f EJ A outer s H E).nox (bH st) t∧t { nx:=fun _ H'=>Q .non H',rt:=Q } (start N vs) H):Fnc P w K mg base x ps (k+1) sp:=by
 obtain ⟨f,fd,hm,F⟩:=D.ex
 exact ⟨f,fd,hm,F.kp,F.binds hb,F.ok S len fun EJ A outer s H vs Q E hr h=>hbody f EJ A outer s H vs Q E hr h⟩
def bq (d:Addr)(H H':Hp):Prop:=∀ b o,b≠d→H b=some o→H' b=some o
theorem bq.refl (d:Addr)(H:Hp):bq d H H:=fun _ _ _ h=>h
theorem bq.trans {d:Addr}{H H1 H2:Hp}(a:bq d H H1)(b:bq d H1 H2):bq d H H2:=fun c o n h=>b c o n (a c o n h)
theorem aE.b {d:Addr}{H H':Hp}(a:aE H H'):bq d H H':=fun b o _ h=>a b o h
theorem aE.new {H:Hp}{a:Addr}{o:HO}(h:H a=none):aE H (upd H a o):=fun b u e=>by rw [aM (au e h)]; exact e
theorem bq.upd {d:Addr}{H:Hp}{o:HO}:bq d H (upd H d o):=fun b u n e=>by rw [aM n]; exact e
theorem aE.then {H H1:Hp}{a:Addr}{o:HO}(s:aE H H1)(h:H1 a=none):aE H (L2.upd H1 a o):=s.trans (aE.new h)
def kS (x:Str):Key:=.inr x
theorem rX {ns:List Int}(h:ns≠[])(i:Int):∃ n:Int,atI (ns.map V.int) (i % ((ns.map V.int).length:Int))=some (.int n):=by
 have hl:0 < ns.length:=Av.mpr h
 rw [zV]
 have h0:=Ad i (show (ns.length:Int)≠0 by omega)
 have h1:=zY i (show (0:Int) < ns.length by omega)
 obtain ⟨k,hk⟩:=AR h0
 rw [hk] at h1 ⊢
 have hk':k < ns.length:=by omega
 refine ⟨ns[k],?_⟩
 unfold atI ixN
 rw [if_pos (by omega),if_pos (by rw [zV];omega)]
 show (ns.map V.int)[((k:Nat):Int).toNat]? = _
 rw [AM,Az,fu hk']
 rfl
section
variable {P:Program} {w:World} {H:Hp} {h:Heap}
end
section
variable {X:Cx}
end
end L2
namespace Kx
open PySem PySem.Spec PyProof.Rows L2 Wd
theorem vd:bootBuiltins "list" = some (.type "list"):=by kernel_rfl
theorem xF:bootBuiltins "abs" = some (.builtin "abs"):=by kernel_rfl
theorem ve:bootBuiltins "max" = some (.builtin "max"):=by kernel_rfl
theorem vf:bootBuiltins "min" = some (.builtin "min"):=by kernel_rfl
theorem ph:bootBuiltins "sorted" = some (.builtin "sorted"):=by kernel_rfl
theorem l7:bootBuiltins "tuple" = some (.type "tuple"):=by kernel_rfl
theorem kr:bootBuiltins "reversed" = some (.type "reversed"):=by kernel_rfl
structure Bt (K:PySem.W.Frag) (w:World) (mg:Str→Option Value) (aB:Addr):Prop where
 len:mg "len" = none
 repr:mg "repr" = none
 abs:mg "abs" = none
 max:mg "max" = none
 int:mg "int" = none
 list:mg "list" = none
 range:mg "range" = none
 reversed:mg "reversed" = none
 min:mg "min" = none
 sorted:mg "sorted" = none
 tuple:mg "tuple" = none
 isinstance:mg "isinstance" = none
 all:mg "all" = none
 str:mg "str" = none
 zip:mg "zip" = none
 mgB:mg "BACKS" = some (.ref aB)
 dB:DTx K w aB
 gB:∀ x:L,∃ t,PySem.W.nsIn K aB (toS [x])=some (some (.str (toS [inv x]) t))
theorem dp {H:Hp}{d:Addr}{EC kvs':List (Key × V)}{k:Str}{v:V}(h:H d=some (.dK EC))(hl:EC.length < sizeLine)(e:iT EC (kS k) v=kvs'):rJ H d (.str k) v (upd H d (.dK kvs')):=by
 have q:=rJ.k (k:=kS k) (v:=v) h hl
 rw [e] at q
 exact q
theorem xG {ns:List Int}(h:ns.length≤63):jx (ns.map V.int) none (some 63)=ns.map V.int:=by
 unfold jx
 have e:HT.sIx (ns.map V.int).length (ns.map V.int).length (some 63)=(ns.map V.int).length:=by
  have:=HT.fR (ns.map V.int).length (ns.map V.int).length 63
  rw [show ((63:Nat):Int)=63 from rfl] at this
  rw [this,zV]
  omega
 rw [e,HT.fQ,CD,D6,CM]
def bD (w:List L):List V:=w.map fun x=>tx [x]
theorem cY (w:List L):bD w=(w.map fun x=>toS [x]).map V.str:=by unfold bD; rw [BE]; rfl
theorem cb (w:List L)(x:L):bD w++[tx [x]]=bD (w++[x]):=by unfold bD; rw [AU]; rfl
theorem a8 (w:List L):(bD w).length=w.length:=by unfold bD; rw [zV]
theorem cf (w:List L):V.str (Txt.join ("":Str) (w.map fun x=>toS [x]))=tx w:=Af V.str (pe w)
theorem cg (w:List L)(h:w.length≤1000000):((w.map fun x=>toS [x]).map (·.length)).sum+(w.map fun x=>toS [x]).length*("":Str).length≤16777216:=by
 have e:("":Str).length=0:=by decide +kernel
 rw [e,rV]
 omega
theorem aX:sizeLine=16777216:=DZ
inductive kN (vs:List V)(H:Hp)(Q:VK)(EM:XK):Prop
 | mk:∀ w,(vs=[tx w])→(w.length≤5000)→(∀ H',aE H H'→Q (tx (bk w)) H')→kN vs H Q EM
theorem eV (u v:List L):V.str (toS u++toS v)=tx (u++v):=Af V.str (fI u v)
def sg (m:Int):List L:=([0,1,2,3,4,5]:List L).take m.toNat++([6,7,8,9,10,11]:List L).take m.toNat
theorem l8 {m:Int}(h1:1≤m)(h2:m≤6):(sg m).length=2*m.toNat:=by
 unfold sg
 rw [zI,z9,z9]
 simp only [AC,A4]
 omega
theorem pj {m:Int}(h1:1≤m):V.str (Txt.slice ("abcdef":Str) none (some m)++Txt.slice ("ABCDEF":Str) none (some m))=tx (sg m):=by
 rw [← rS,← big,bp,bp,d7 _ (by omega),d7 _ (by omega),eV]
 rfl
theorem il:("abcdef":Str).length=6:=by decide +kernel
theorem l_:("ABCDEF":Str).length=6:=by decide +kernel
theorem ma (u:List L){i:Nat}{y:L}(hi:i < u.length)(h:u[u.length - 1 - i]? = some y):(bk u)[i]? = some (inv y):=by
 unfold bk
 rw [CG (by rw [zV];exact hi),zV,Az,h]
 rfl
theorem cO {u:List L}{i:Nat}{x:L}(h:u[i]? = some x):u.take (i+1)=u.take i++[x]:=by
 obtain ⟨hl,e⟩:=zN.mp h
 rw [CA,h]
 rfl
theorem jF {c:Bool}{A B:Prop}(hc:c=true)(h:A):if c=true then A else B:=by rw [if_pos hc]; exact h
theorem jG {c:Bool}{A B:Prop}(hc:c=false)(h:B):if c=true then A else B:=by rw [hc]; exact ur h
theorem sm6:∀ j:Fin 6,([0,1,2,3,4,5]:List L)[j.val]? = some ⟨j.val,D5 j.isLt (by decide)⟩:=by decide
end Kx
namespace L2
open PySem PySem.Spec PyProof.Rows Wd
section
variable {X:Cx} {tg:Expr}
inductive qF (x:V)(vs:List V)(H:Hp)(Q:VK):Prop
 | mk:∀ z y,(x = .str z)→(vs=[.str y])→(Q (.int (Txt.count z y)) H)→qF x vs H Q
theorem jH:MtR X "str.count" qF:=by
 intro EA s σ H x vs v us Q I rx rv h
 obtain ⟨z,y,rfl,rfl,q⟩:=h
 obtain ⟨t,rfl⟩:=rx
 obtain ⟨u1,rfl,⟨t1,rfl⟩⟩:=c6 rv
 exact SC.count ⟨.int _,H,I.tok _,⟨_,rfl⟩,q⟩
end
section
variable {X:Cx} {o e:Expr} {es:List Expr} {to:TE} {t:TA} {name:Str} {apos ER:Pos} {T id:String} {r:V→List V→Hp→VK→Prop} {K:PySem.W.Frag}
theorem me (hK:X.K=K)(pa:PlainAttrs T)(slot:Slot T name id)(hty:typeOf (.builtin id)=pure (.type "method_descriptor"))(hm:MtR X id r)(ho:PE X o to)
  (E4:attributeBase o name X.env (eval o X.env)=eval o X.env:=by rfl) (E3:(apos.endLine == ER.line)=true:=by rfl):PE X (.Call (.Attribute o name apos) [] [] ER) (yM K T r to):=by
 subst hK
 exact qz pa slot hty hm ho E4 E3
theorem mf (hK:X.K=K)(pa:PlainAttrs T)(slot:Slot T name id)(hty:typeOf (.builtin id)=pure (.type "method_descriptor"))(hm:MtR X id r)(ho:PE X o to)(ha:PA X (e::es) t)
  (E4:attributeBase o name X.env (eval o X.env)=eval o X.env:=by rfl)
  (hfew:((backTo ER (starEach (e::es) X.env)).all (fun x=>!x.1) && (backToKw ER (keywordEach [] X.env)).all (fun x=>x.1.isSome)
   && decide ((e::es).length+([]:List Keyword).length+(if ([]:List Keyword).isEmpty then 0 else 1) < 30))=true:=by rfl)
  (E3:(apos.endLine == ER.line)=true:=by rfl) (hs:starEach (e::es) X.env=(false,eval e X.env)::starEach es X.env:=by rfl) (hplain:(backTo ER (starEach es X.env)).any (·.1)=false:=by rfl) :
  PE X (.Call (.Attribute o name apos) (e::es) [] ER) (tBM K T r to t):=by
 subst hK
 exact cH pa slot hty hm ho ha E4 hfew E3 hs hplain
end
theorem cP (s:Str)(c limit:Nat):∀ (n lo:Nat) (st:Array Nat × Nat),st.2≤lo→st.1.size+n≤limit→lo+n=s.length+1 →
  (forIn (List.range' lo n) st (StrLaws.occBody s ⟨#[c]⟩ s.length limit)).run.fst.size=st.1.size+(s.cps.toList.drop lo).count c
 | 0,lo,st,_,_,hl=>by
  have:s.cps.toList.drop lo=[]:=By (by simp [Str.length] at hl ⊢;omega)
  rw [this]
  rfl
 | n+1,lo,st,h1,h2,hl=>by
  rw [List.range'_succ,DQ]
  unfold StrLaws.occBody
  have key:=StrLaws.subAt_one s c lo
  by_cases hc:s.cps.toList[lo]? = some c
  ·obtain ⟨k1,k2⟩:=key.mpr hc
   rw [if_pos ⟨⟨⟨by omega,h1⟩,k1⟩,k2⟩]
   have ih:=cP s c limit n (lo+1) (st.1.push lo,lo+(⟨#[c]⟩:Str).length) (zU _) (by rw [Array.size_push];omega) (by omega)
   obtain ⟨EH,ev⟩:=zN.mp hc
   have ed:(s.cps.toList.drop lo).count c=(s.cps.toList.drop (lo+1)).count c+1:=by rw [AI EH,ev,List.count_cons_self]
   rw [ed]
   refine Eq.trans ih ?_
   rw [Array.size_push]
   omega
  ·have hn:¬ ((((st.1.size < limit∧st.2≤lo)∧lo+(⟨#[c]⟩:Str).length≤s.length)∧Builtin.Str.subAt s ⟨#[c]⟩ lo=true)):=fun z=>hc (key.mp ⟨z.1.2,z.2⟩)
   rw [if_neg hn]
   have ih:=cP s c limit n (lo+1) (st.1,st.2) (by show st.2≤lo+1;omega) (by show st.1.size+n≤limit;omega) (by omega)
   have ed:(s.cps.toList.drop lo).count c=(s.cps.toList.drop (lo+1)).count c:=by
    by_cases EH:lo < s.cps.toList.length
    ·have ne:¬ s.cps.toList[lo]=c:=fun e=>hc (by rw [fu EH,e])
     rw [AI EH,List.count_cons_of_ne ne]
    ·rw [By (by omega),By (by omega)]
   rw [ed]
   exact ih
theorem ip (w:List L)(x:L):Txt.count (toS w) (toS [x])=((w.count x:Nat):Int):=by
 unfold Txt.count
 have q:=cP (toS w) (cp x) ((toS w).length+1) ((toS w).length+1) 0 (#[],0) (zU _) (by simp) (by omega)
 rw [show toS [x]=(⟨#[cp x]⟩:Str) from rfl,StrLaws.occ_eq]
 rw [zL,D6,q,CD,bY]
 have:(w.map cp).count (cp x)=w.count x:=by
  clear q
  induction w with
  | nil=>rfl
  | cons y r ih =>
   rw [AA,List.count_cons,List.count_cons,ih]
   by_cases e:y=x
   ·subst e;simp
   ·have e2:¬ cp y=cp x:=fun z=>e (qD y x z)
    simp [e,e2]
 rw [this]
 simp
section
variable {X:Cx}
inductive qG (x:V)(vs:List V)(H:Hp)(Q:VK):Prop
 | mk:∀ z y i rest,(x = .str z)→(vs=[.str y])→(Builtin.Str.occurrences z y 0 z.length 1=i::rest)→(Q (.int (i:Nat)) H)→qG x vs H Q
theorem cZ:MtR X "str.index" qG:=by
 intro EA s σ H x vs v us Q I rx rv h
 obtain ⟨z,y,i,rest,rfl,rfl,ho,q⟩:=h
 obtain ⟨t,rfl⟩:=rx
 obtain ⟨u1,rfl,⟨t1,rfl⟩⟩:=c6 rv
 exact SC.index ho ⟨.int _,H,I.tok _,⟨_,rfl⟩,q⟩
def zj (z:Str):List V:=z.cps.toList.map fun c=>.str ⟨#[c]⟩
end
end L2
namespace PySem
open Sem (wp)
section
variable {prog:Program} {w:World} {A:Around} {E:Value→Shared→Prop} {s:Shared} {z TI TO i1 i2:Addr} {x y:Str} {t u:Tok} {k c d:Nat} {a b:Value}
end
end PySem
namespace PySem
end PySem
namespace L2
open PySem PySem.Spec PyProof.Rows
section
variable {X:Cx}
end
end L2
namespace L2
open PySem PySem.Spec PyProof.Rows Wd
def mh:Expr→Bool
 | .Starred _ _=>false
 | _=>true
theorem rY {e:Expr}(h:mh e=true)(es:List Expr)(env:Env):starEach (e::es) env=(false,eval e env)::starEach es env:=by
 cases e <;> first | rfl | cases h
theorem oG {X:Cx}{e:Expr}{es:List Expr}{te:TE}{t:TA}(ha:PE X e te)(hr:PA X es t)(h:mh e=true:=by rfl):PA X (e::es) (uP te t):=aa ha hr (rY h _ _)
def xH:List Str:=([0,1,2,3,4,5,6,7,8,9,10,11]:List L).map fun x=>toS [x]
end L2
namespace Kx
open PySem PySem.Spec PyProof.Rows L2 Wd
theorem asc (u:List L):(toS u).cps.all (· < 128)=true:=by
 rw [← Array.all_toList,bY,Ca]
 intro c hc
 obtain ⟨x,_,rfl⟩:=AE.mp hc
 exact zQ (rR x)
end Kx
namespace L2
open PySem PySem.Spec PyProof.Rows Wd
section
variable {X:Cx}
inductive qH (x:V)(y:V)(H:Hp)(Q:VK):Prop
 | mk:∀ a b xs,(x = .ref a)→(y = .ref b)→(H a=some (.lst xs))→(H b=some (.lst []))→(Q (.bl (!xs.isEmpty)) H)→qH x y H Q
theorem iq (hu:X.A.units+64 < cLine):OpR X (compareOp .NotEq) qH:=by
 intro EA s σ H x y v u Q I rx ry h
 obtain ⟨a,b,xs,rfl,rfl,ha,hb,q⟩:=h
 cases rx
 cases ry
 obtain ⟨EB,n,rv,ea,_⟩:=I.lst ha
 obtain ⟨E2,n2,rv2,eb,_⟩:=I.lst hb
 cases rv2
 have hla:s.heap.IsList a EB.toArray:=⟨_,ea,rfl,_,rfl⟩
 have hlb:s.heap.IsList b ([]:List Value).toArray:=⟨_,eb,rfl,_,rfl⟩
 cases xs with
 | nil =>
  cases rv
  refine EqBoolInt.of_rcne (SeqAt.RcNeAt.lists (e:=fun _=>true) hla hlb rfl (by omega) (fun j hj=>by simp at hj)) ?_
  exact ⟨.bl false,H,I,rfl,q⟩
 | cons z r =>
  cases rv with
  | cons r1 r2 =>
   refine EqBoolInt.of_rcne (SeqAt.RcNeAt.lists_lengths hla hlb (by simp) (by omega)) ?_
   exact ⟨.bl true,H,I,rfl,q⟩
end
end L2
namespace Kx
open PySem PySem.Spec PyProof.Rows L2 Wd
theorem s12:toS [0,1,2,3,4,5,6,7,8,9,10,11]=("abcdefABCDEF":Str):=by decide +kernel
end Kx
namespace L2
open PySem PySem.Spec PyProof.Rows Wd
theorem none_of {H H1:Hp}{a:Addr}(s:aE H H1)(h:H1 a=none):H a=none:=by
 cases e:H a with
 | none=>rfl
 | some o=>rw [s _ _ e] at h;cases h
end L2
namespace L2
open PySem PySem.Spec PyProof.Rows
theorem rZ {X:Cx}{i:Nat}{y:Str}{py spos:Pos}{elt iter tg:Expr}{ifs:List Expr}{scope:Scope}{pos:Pos}{NB own:List Str}{cap:List Nat}{wi:TI}{g:TG}{ti:TT}{te:TE}(hN:X.N.Nodup)(hi0:X.N[i]? = some y)(hx:Loc X.env.scope y)(B:Blk X scope NB own cap)(hc:X.calm=true)(hi:PI X tg iter wi)
  (hg:∀ C fp s₀ H₀,PG (cxB X NB own scope C fp s₀ H₀) tg g) (ht:∀ C fp s₀ H₀,PIf (cxB X NB own scope C fp s₀ H₀) ifs ti) (he:∀ C fp s₀ H₀,PE (cxB X NB own scope C fp s₀ H₀) elt te)
  (hs:∀ x,foldedSetIterable iter X.env x=pure x:=by intro _;rfl) (hsw:swapsWith (.ListComp elt [⟨tg,iter,ifs,0⟩] scope pos) (some (.Name y py)) spos.line X.env=pure true:=by rfl) (hf:X.fn y=true ∨ X.env.scope.names.lookup y=some .local:=by first | exact .inl rfl | exact .inr rfl | assumption):PS X (.Assign [.Name y py] (.ListComp elt [⟨tg,iter,ifs,0⟩] scope pos) spos) (w_ (rN own cap wi g ti te) (oP i)):=by
 intro EA s σ H DD I0 h
 rw [exec_Assign_Name_used _ _ _ _ hsw]
 refine zK (wpAny_standAt (zK ?_))
 show wpAny _ X.A (do let _ ← comprehension (.ListComp elt [⟨tg,iter,ifs,0⟩] scope pos) scope X.env _ (newList []) false (eval iter X.env) (some (assign (.Name y py) X.env))) _ _ s
 refine zK (BR (jB (use:=some (assign (.Name y py) X.env)) (QQ:=fun _ s'=>SP X EA DD .next s') (pos:=pos) B hc hi hg ht he hs I0 h fun fp C s2 s4 H2 H3 σ3 EB ys k I f2 EZ hDC I5 hn3 hD4 rv hz q=>?_) (fun _ s' hq=>Ab (Ab hq)) fun _ _ e=>e)
 obtain ⟨mC,hnC,_⟩:=I5.loc
 have I6:Inv X EA σ (upd H3 s2.heap.objs.size (.lst ys)) s4:=B.done (h'':=s4.heap) I f2 EZ (zU _) hDC I5 hn3 hD4 rv hz ⟨rfl,fun _ _=>rfl⟩
 obtain ⟨oC,es,ep,hoC,hdC,rC⟩:=hnC
 have hCn:(upd H3 s2.heap.objs.size (.lst ys)) C=none:=by rw [aM hDC.symm];exact I5.free
 have nL:C≠X.env.locals:=fun z=>absurd I.lt (by rw [← z];exact Nat.not_lt.mpr EZ)
 have I7:Inv X (EA++[(C,oC)]) σ (upd H3 s2.heap.objs.size (.lst ys)) s4:=I6.pins_of fun p hp=>by
  rcases z3.mp hp with z | z
  ·exact I6.pin p (z6 _ z)
  ·have ep:=zJ.mp z
   subst ep
   exact ⟨hoC,hCn,nL,I.nofs EZ,fun v z=>by rw [hdC] at z;cases z⟩
 refine thn (aV (pos:=py) hN hi0 hx hf (EA++[(C,oC)]) s4 σ _ (.ref s2.heap.objs.size) (.ref s2.heap.objs.size) (fun σ' H'=>DD.nx σ' H'∧H'=upd H3 s2.heap.objs.size (.lst ys)) I7 rfl ⟨q,rfl⟩) fun _ s5 zq2=>?_
 obtain ⟨σ5,H5,I8,q5,e5⟩:=zq2
 subst e5
 have pC:=(I8.pin (C,oC) (z6 _ (z6 _ (zJ.mpr rfl)))).1
 refine ⟨mC,⟨oC,es,ep,pC,hdC,rC⟩,fun h'' sb=>⟨σ5,_,?_,q5⟩⟩
 have I9:Inv X EA σ5 (upd H3 s2.heap.objs.size (.lst ys)) s5:=I8.pins_of fun p hp=>I8.pin p (z6 _ (Aj _ hp))
 refine I9.turned (t':=s5.toks) (it:=C) (fun b o hb e=>(sb.2 b hb).trans e) hCn nL (.inr (AO I.sz EZ)) (fun x c e z=>?_) fun p hp z=>?_
 ·obtain ⟨v,o,ho,_⟩:=I.cell x c e
  exact absurd (z7 ho) (by rw [z];exact Nat.not_lt.mpr EZ)
 ·exact absurd (z7 (I.pin p hp).1) (by rw [z];exact Nat.not_lt.mpr EZ)
end L2
namespace L2
open PySem PySem.Spec PyProof.Rows Wd
section
variable {X:Cx}
inductive mi (x:V)(vs:List V)(H:Hp)(Q:VK):Prop
 | mk:∀ l xs i y,(x = .ref l)→(vs=[.int i,y])→(H l=some (.lst xs))→(0≤i)→(i≤xs.length)→(xs.length < sizeLine)→(Q .non (upd H l (.lst (xs.take i.toNat++y::xs.drop i.toNat))))→mi x vs H Q
theorem mj:MtM X "list.insert" mi:=by
 intro EA s σ H x vs v us Q I rx rv h
 obtain ⟨l,xs,i,y,rfl,rfl,hH,h0,h1,hz,q⟩:=h
 cases rx
 obtain ⟨u1,u2,rfl,⟨t1,rfl⟩,r2⟩:=rn rv
 obtain ⟨z,EB,n,r,hl,e⟩:=I.lstM hH
 have hn:=dw
 have hfit:Builtin.List.listFitsIndex i=true:=by
  unfold Builtin.List.listFitsIndex
  rw [A_,Bs,Bs]
  constructor <;> omega
 refine DV Dn ⟨_,e,rfl⟩ PySem.F.entry_list_insert (PySem.F.args_list_insert_3 _ _ _) (PySem.AutoSeq1.list_insert_list_int_val_1 l EB.toArray n i t1 u2 (by simp [hfit]) (by rw [z8];omega)) ⟨e,?_⟩
 refine ⟨.non,_,I.lset (its':=EB.take i.toNat++u2::EB.drop i.toNat) hH e ?_ ((r.take _).append (.cons r2 (r.drop _))) ?_,rfl,q⟩
 ·have hm:min i.toNat EB.length=i.toNat:=by omega
  simp only [z8,if_neg (show ¬ i < 0 by omega),hm]
  apply DE.mp
  simp
  exact AB (by rw [Bl];exact zU _)
 ·rw [zI,AC,z9,Bl]
  omega
def vg (z:Str):Str:=Txt.sliceBy z none none (-1,0)
def xI (te ts:TE):TE:=fun σ H Q=>te σ H fun x H1=>ts σ H1 fun k H2=>∃ z,x = .str z∧k = .int (-1)∧z.length≤sizeLine∧Q (.str (vg z)) H2
theorem r6 {e st:Expr}{te ts:TE}{pos p2:Pos}(he:PE X e te)(hs:PE X st ts):PE X (.Subscript e (.Slice none none (some st) p2) pos) (xI te ts):=by
 intro EA s σ H Q I h
 refine Subscript_ (thn (he EA s σ H _ I h) fun v s1 zq1=>?_)
 obtain ⟨x,H1,I1,r1,q1⟩:=zq1
 refine wpAny_Slice ?_
 rw [evalPart_none]
 refine Ab ?_
 refine Ab ?_
 rw [evalPart_some]
 refine thn (hs EA s1 σ H1 _ I1 q1) fun vs s3 zq2=>?_
 obtain ⟨k,H3,I3,r3,z,ez,ek,hz,q3⟩:=zq2
 subst ez ek
 obtain ⟨t,rfl⟩:=r1
 obtain ⟨tk,rfl⟩:=r3
 have I4:Inv X EA σ H3 { s3 with heap:=s3.heap.push { cls:=.type "slice",data:=.fields #[.none,.none,.int (-1) tk] } }:=I3.kept (t':=s3.toks) fun b ob q=>zM _ q
 show wpAny (model X.prog X.w) X.A (subscriptTail e (.Slice none none (some st) p2) (.str z t) (.ref s3.heap.objs.size)) (EP X EA σ Q) X.xe { s3 with heap:=s3.heap.push { cls:=.type "slice",data:=.fields #[.none,.none,.int (-1) tk] } }
 refine tail_any (ops:=[.ref s3.heap.objs.size,.str z t]) (CW _ _ _) F.slot_str_getitem.lookup ?_ (by with_unfolding_all rfl)
 exact Bn (l:=none) (u:=none) (st:=some (-1,tk)) ⟨_,z_ _ rfl,rfl,rfl⟩ rfl (Co ⟨AO (Txt.sliceBy_le z none none (-1,tk) (by show (-1:Int)≠0;decide)) hz,fun t' k=>⟨.str _,H3,I4.tok _,⟨_,rfl⟩,q3⟩⟩)
theorem ml {i o:Expr}{ty td:TE}{pos:Pos}(hu:X.A.units+1 < cLine)(hi:PE X i ty)(ho:PE X o td)(h1:behindInMarks .NotIn o=false):PT X (.Compare i [.NotIn] [o] pos) (tB (lI ty td)):=uE (lJ hu hi ho) h1
theorem pk (u:List L):vg (toS u)=toS u.reverse:=by
 have h:(vg (toS u)).cps.toList=(toS u.reverse).cps.toList:=by
  unfold vg
  rw [step_rev_list,bY,af]
  apply List.ext_getElem?
  intro i
  rw [Az]
  by_cases hi:i < u.length
  ·rw [List.getElem?_range hi,Az,CG hi]
   have e:(toS u).cps.getD (u.length - 1 - i) 0=cp u[u.length - 1 - i]:=by
    simp [toS,Array.getD,show u.length - 1 - i < u.length by omega]
   rw [fu (show u.length - 1 - i < u.length by omega)]
   exact Af some e
  ·rw [B0 (by simpa using hi),B0 (by simp;omega)]
   rfl
 cases hr:vg (toS u) with
 | mk c=>
  rw [hr] at h
  have:c=(toS u.reverse).cps:=DE.mp h
  rw [this]
end
end L2
namespace L2
open PySem PySem.Spec PyProof.Rows
section
variable {X:Cx}
theorem c0 {i j:Int}{EB:List Value}(r:bh [.int i,.int j] EB):∃ t u,EB=[.int i t,.int j u]:=by
 obtain ⟨u1,u2,rfl,⟨t1,rfl⟩,⟨t2,rfl⟩⟩:=rn r
 exact ⟨t1,t2,rfl⟩
def nAt (i j:Int)(k:Nat):Int:=if k=0 then i else j
inductive dF (K:PySem.W.Frag)(xs:List V)(H:Hp)(Q:VK):Prop
 | mk:∀ p i j,(xs=[.ref p])→(SqT K H p [.int i,.int j])→(Q (.int (if j < i then j else i)) H)→dF K xs H Q
theorem iV (hc:X.calm=true):di X (.builtin "min") (dF X.K):=by
 intro EA s σ H xs us Q I r h
 obtain ⟨p,i,j,rfl,hq,q⟩:=h
 obtain ⟨u,rfl,ru⟩:=c6 r
 cases ru
 obtain ⟨EB,rv,ht,_⟩:=I.tuple hq
 obtain ⟨t,u,rfl⟩:=c0 rv
 have EH:p < s.heap.objs.size:=by obtain ⟨_,e,_⟩:=ht;exact z7 e
 refine call_min_walk (C_ ht ?_)
 refine ⟨_,_,_,_,_,_,fun a b=>decide (nAt i j a < nAt i j b),rfl,Walks.tuple (A:=X.A.in1) (I.ok.hd hc) _ p (AJ EH) _,⟨⟨_,z_ _ rfl,rfl,rfl⟩,ht.push _⟩,fun b hb=>?_,?_,?_,fun v h' tk hP hk=>?_⟩
 ·show b < (s.heap.push _).objs.size
  rw [B7]
  rcases Ae.mp hb with e | hb
  ·rw [e];exact BB _
  ·rw [zJ.mp hb];exact B4 EH
 ·exact CN 1
 ·refine CmpOf.ints_lt (nAt i j) fun a v hv=>?_
  match a,hv with
  | 0,hv=>exact ⟨t,(zP hv).symm⟩
  | 1,hv=>exact ⟨u,(zP hv).symm⟩
  | (a+2),hv=>simp at hv
 ·have old:∀ b o,s.heap.get? b=some o→h'.get? b=some o:=fun b o e=>hk b o (fun z=>by rw [zJ.mp z] at e;exact absurd (z7 e) (AZ _)) (zM _ e)
  have hP:[Value.int i t,Value.int j u].toArray[if decide (j < i)=true then 1 else 0]? = some v:=hP
  by_cases h:j < i
  ·rw [if_pos (zQ h)] at hP
   rw [if_pos h] at q
   exact ⟨.int j,H,I.kept old,⟨u,(zP hP).symm⟩,q⟩
  ·rw [zH h] at hP
   rw [if_neg h] at q
   exact ⟨.int i,H,I.kept old,⟨t,(zP hP).symm⟩,q⟩
inductive dG (K:PySem.W.Frag)(xs:List V)(H:Hp)(Q:VK):Prop
 | mk:∀ p i j,(xs=[.ref p])→(SqT K H p [.int i,.int j])→(Q (.int (if j > i then j else i)) H)→dG K xs H Q
theorem iW (hc:X.calm=true):di X (.builtin "max") (dG X.K):=by
 intro EA s σ H xs us Q I r h
 obtain ⟨p,i,j,rfl,hq,q⟩:=h
 obtain ⟨u,rfl,ru⟩:=c6 r
 cases ru
 obtain ⟨EB,rv,ht,_⟩:=I.tuple hq
 obtain ⟨t,u,rfl⟩:=c0 rv
 have EH:p < s.heap.objs.size:=by obtain ⟨_,e,_⟩:=ht;exact z7 e
 refine call_max_walk (C_ ht ?_)
 refine ⟨_,_,_,_,_,_,fun a b=>decide (nAt i j a > nAt i j b),rfl,Walks.tuple (A:=X.A.in1) (I.ok.hd hc) _ p (AJ EH) _,⟨⟨_,z_ _ rfl,rfl,rfl⟩,ht.push _⟩,fun b hb=>?_,?_,?_,fun v h' tk hP hk=>?_⟩
 ·show b < (s.heap.push _).objs.size
  rw [B7]
  rcases Ae.mp hb with e | hb
  ·rw [e];exact BB _
  ·rw [zJ.mp hb];exact B4 EH
 ·exact CN 1
 ·refine CmpOf.ints_gt (nAt i j) fun a v hv=>?_
  match a,hv with
  | 0,hv=>exact ⟨t,(zP hv).symm⟩
  | 1,hv=>exact ⟨u,(zP hv).symm⟩
  | (a+2),hv=>simp at hv
 ·have old:∀ b o,s.heap.get? b=some o→h'.get? b=some o:=fun b o e=>hk b o (fun z=>by rw [zJ.mp z] at e;exact absurd (z7 e) (AZ _)) (zM _ e)
  have hP:[Value.int i t,Value.int j u].toArray[if decide (j > i)=true then 1 else 0]? = some v:=hP
  by_cases h:j > i
  ·rw [if_pos (zQ h)] at hP
   rw [if_pos h] at q
   exact ⟨.int j,H,I.kept old,⟨u,(zP hP).symm⟩,q⟩
  ·rw [zH h] at hP
   rw [if_neg h] at q
   exact ⟨.int i,H,I.kept old,⟨t,(zP hP).symm⟩,q⟩
end
end L2
namespace Wd
structure Srf (u:List L):Prop where
 ne:u≠[]
 nd:u.Nodup
 iv:∀ x∈u,inv x∈u
 le:u.length≤12
theorem Srf.pos {u:List L}(S:Srf u):0 < u.length:=Av.mpr S.ne
def b9 (u:List L)(g:Nat):L:=u.getD ((g+1) % u.length) 0
def br (u:List L)(g:Nat):Nat:=u.idxOf (inv (b9 u g))
theorem bK {u:List L}(S:Srf u)(g:Nat):u[(g+1) % u.length]? = some (b9 u g):=by
 have h:=Nat.mod_lt (g+1) S.pos
 unfold b9
 rw [Ag,fu h]
 rfl
theorem cv {u:List L}(S:Srf u)(g:Nat):b9 u g∈u:=AF (bK S g)
theorem bV {u:List L}(S:Srf u)(g:Nat):br u g < u.length:=Bx (S.iv _ (cv S g))
structure Sn (u:List L) (S:List Nat):Prop where
 nd:S.Nodup
 lt:∀ g∈S,g < u.length
theorem mn:∀ (n:Nat) (S:List Nat),S.Nodup→(∀ g∈S,g < n)→S.length≤n
 | 0,S,_,h=>by
  cases S with
  | nil=>exact zU _
  | cons a r=>exact absurd (h a zX) (DS _)
 | n+1,S,nd,h=>by
  by_cases hn:n∈S
  ·have q:=mn n (S.erase n) (nd.erase n) fun g hg=>by
    have:=(List.Nodup.mem_erase_iff nd).mp hg
    have:=h g this.2
    omega
   rw [Cf hn] at q
   omega
  ·have q:=mn n S nd fun g hg=>by
    have h1:=h g hg
    have h2:g≠n:=fun e=>hn (e ▸ hg)
    omega
   omega
theorem Sn.le {u:List L}{S:List Nat}(h:Sn u S):S.length≤u.length:=mn _ _ h.nd h.lt
theorem Sn.snoc {u:List L}{S:List Nat}(h:Sn u S){g:Nat}(hg:g < u.length)(hn:g∉S):Sn u (S++[g]):=by
 refine ⟨?_,fun x hx=>?_⟩
 ·rw [Bu]
  refine ⟨h.nd,by simp,fun a ha b hb e=>?_⟩
  rw [zJ] at hb
  subst hb
  exact hn (e ▸ ha)
 ·rcases z3.mp hx with h1 | h1
  ·exact h.lt x h1
  ·rw [zJ] at h1
   exact h1 ▸ hg
theorem Sn.nil (u:List L):Sn u []:=⟨A9,fun _ h=>absurd h (by simp)⟩
def mq (u:List L):Nat→Nat→List Nat→List L→List Nat × List L
 | 0,_,S,w=>(S,w)
 | n+1,g,S,w=>if g∈S then (S,w) else mq u n (br u g) (S++[g]) (w++[b9 u g])
def wk (u:List L)(g:Nat)(S:List Nat)(w:List L):List Nat × List L:=mq u (u.length+1 - S.length) g S w
theorem mw {u:List L}{g:Nat}{S:List Nat}{w:List L}(h:g∈S):wk u g S w=(S,w):=by
 unfold wk
 cases u.length+1 - S.length with
 | zero=>rfl
 | succ n=>unfold mq;rw [if_pos h]
theorem jI {u:List L}{g:Nat}{S:List Nat}{w:List L}(hs:Sn u S)(hg:g < u.length)(h:g∉S):wk u g S w=wk u (br u g) (S++[g]) (w++[b9 u g]):=by
 have h1:=(hs.snoc hg h).le
 rw [zI,Aq] at h1
 unfold wk
 rw [zI,Aq]
 have e:u.length+1 - S.length=(u.length+1 - (S.length+1))+1:=by omega
 rw [e]
 show (if g∈S then (S,w) else _)=_
 rw [if_neg h]
def ck (u:List L):Nat→List Nat × List (List L)
 | 0=>([],[])
 | i+1=>if i∈(ck u i).1 then ck u i else ((wk u i (ck u i).1 []).1,(ck u i).2++[(wk u i (ck u i).1 []).2])
theorem mz (u:List L):∀ i,(ck u i).2.length≤i
 | 0=>zU _
 | i+1=>by
  have:=mz u i
  unfold ck
  split
  ·omega
  ·show ((ck u i).2++[_]).length≤i+1
   rw [zI,Aq]
   omega
theorem eW {u:List L}{i:Nat}(h:i∈(ck u i).1):ck u (i+1)=ck u i:=by
 show (if _ then _ else _)=_
 rw [if_pos h]
theorem dU {u:List L}{i:Nat}(h:i∉(ck u i).1):ck u (i+1)=((wk u i (ck u i).1 []).1,(ck u i).2++[(wk u i (ck u i).1 []).2]):=by
 show (if _ then _ else _)=_
 rw [if_neg h]
def fam (k:Nat):List L:=(List.range k).flatMap fun j=>if h:j < 6 then [⟨j,by omega⟩,⟨j+6,by omega⟩] else []
theorem ir:∀ k:Fin 7,(fam k.val).Nodup∧(∀ x∈fam k.val,inv x∈fam k.val)∧(fam k.val).length=2*k.val:=by decide
theorem pq {k:Nat}(h:k < 6):fam (k+1)=fam k++[⟨k,by omega⟩,⟨k+6,by omega⟩]:=by
 unfold fam
 rw [DT,C3]
 simp [h]
theorem vh {k:Nat}{u:List L}(h1:1≤k)(h6:k≤6)(p:u.Perm (fam k)):Srf u:=by
 obtain ⟨a,b,c⟩:=ir ⟨k,by omega⟩
 have hl:=p.length_eq
 have c:(fam k).length=2*k:=c
 refine ⟨fun e=>?_,(p.nodup_iff).mpr a,fun x hx=>p.mem_iff.mpr (b x (p.mem_iff.mp hx)),by omega⟩
 subst e
 rw [c] at hl
 simp at hl
 omega
theorem px {u v:List L}(x:L)(i:Nat)(p:u.Perm v):(u.take i++x::u.drop i).Perm (v++[x]):=by
 refine List.perm_middle.trans ?_
 rw [Ak]
 exact ((List.Perm.cons x p).trans (List.perm_append_singleton x v).symm)
def hol (u:List L):List (List L):=(ck u u.length).2
end Wd
namespace Kx
open PySem PySem.Spec PyProof.Rows L2 Wd
theorem mB (u:List L)(x:L)(i:Nat):StrLaws.At (toS u) (toS [x]) (toS u).length i ↔ u[i]? = some x:=by
 unfold StrLaws.At
 rw [af,af,StrLaws.subAt_eq,af,bY,bY,D3,← List.map_drop,← List.map_take]
 simp only [Aq]
 constructor
 ·rintro ⟨h1,h2⟩
  have h2:=dR h2
  have:(u.drop i).take 1=[u[i]]:=by rw [AI (by omega)];rfl
  rw [this] at h2
  rw [fu (by omega)]
  exact Af some (Bo h2).1
 ·intro h
  obtain ⟨hl,e⟩:=zN.mp h
  refine ⟨by omega,?_⟩
  rw [AI hl,e]
  rfl
theorem fJ {u:List L}{x:L}(h:x∈u):∃ rest,Builtin.Str.occurrences (toS u) (toS [x]) 0 (toS u).length 1=u.idxOf x::rest:=by
 have EH:=Bx h
 have hx:u[u.idxOf x]? = some x:=by rw [fu EH];exact Af some (Bk EH)
 rcases StrLaws.occ_head (toS u) (toS [x]) 1 (zU 1) with ⟨h0,hn⟩ | ⟨i,r,h0,hi,hn⟩
 ·exact absurd ((mB u x _).mpr hx) (hn _)
 ·refine ⟨r,?_⟩
  rw [h0]
  have hi:=(mB u x i).mp hi
  have:i=u.idxOf x:=by
   rcases Nat.lt_trichotomy i (u.idxOf x) with h1 | h1 | h1
   ·have q:=List.not_of_lt_findIdx (p:=(· == x)) h1
    obtain ⟨hl,e⟩:=zN.mp hi
    exact absurd (D3.mpr e) (by simpa using q)
   ·exact h1
   ·exact absurd ((mB u x _).mpr hx) (hn _ h1)
  rw [this]
theorem vi (x:L):(!(Builtin.Str.occurrences ("ABCDEF":Str) (toS [x]) 0 ("ABCDEF":Str).length 1).isEmpty)=decide (¬ x.val < 6):=by
 have q:∀ x:L,decide (cp x∈("ABCDEF":Str).cps.toList)=decide (¬ x.val < 6):=by decide +kernel
 have h:=StrLaws.found_one ("ABCDEF":Str) (cp x)
 rw [q] at h
 exact h
structure Tp (H:Hp) (d c:Addr):Prop where
 ex:∃ (i l t:Int) (ns:List Int),H d=some (.lst [.ref c,.int i,.int l,.int t])∧H c=some (.lst (ns.map V.int))∧c≠d∧ns.length≤63
theorem Tp.same {H H':Hp}{d c:Addr}(F:Tp H d c)(s:aE H H'):Tp H' d c:=by
 obtain ⟨i,l,t,ns,h1,h2,h3,h4⟩:=F.ex
 exact ⟨i,l,t,ns,s _ _ h1,s _ _ h2,h3,h4⟩
theorem Tp.new {H:Hp}{d c a:Addr}{o:HO}(F:Tp H d c)(h:H a=none):Tp (upd H a o) d c:=F.same (aE.new h)
theorem Tp.ne {H:Hp}{d c a:Addr}(F:Tp H d c)(h:H a=none):a≠d:=by
 obtain ⟨i,l,t,ns,h1,h2,h3,h4⟩:=F.ex
 exact (au h1 h).symm
theorem Tp.nec {H:Hp}{d c a:Addr}(F:Tp H d c)(h:H a=none):a≠c:=by
 obtain ⟨i,l,t,ns,h1,h2,h3,h4⟩:=F.ex
 exact (au h2 h).symm
theorem Tp.but {H H':Hp}{d c a:Addr}(F:Tp H d c)(h1:a≠d)(h2:a≠c)(s:bq a H H'):Tp H' d c:=by
 obtain ⟨i,l,t,ns,g1,g2,g3,g4⟩:=F.ex
 exact ⟨i,l,t,ns,s _ _ h1.symm g1,s _ _ h2.symm g2,g3,g4⟩
theorem none_of {H H':Hp}{a:Addr}(s:aE H H')(h:H' a=none):H a=none:=by
 cases e:H a with
 | none=>rfl
 | some o=>exact absurd (s _ _ e) (by rw [h];intro z;cases z)
inductive dW (vs:List V)(H:Hp)(Q:VK)(EM:XK):Prop
 | mk:∀ (d c:Addr) (m:Int),(vs=[.ref d,.int m])→(Tp H d c)→(0 < m)→(m < 1000000)→(∀ (r:Int) (H':Hp),0≤r→r < m→Tp H' d c→bq d H H'→Q (.int r) H')→dW vs H Q EM
inductive mD (K:PySem.W.Frag)(vs:List V)(H:Hp)(Q:VK)(EM:XK):Prop
 | mk:∀ (a:Addr) (ns:List Int),(vs=[.ref a])→(SqL K H a (ns.map V.int))→(ns.length≤63)→(∀ (d c:Addr) (H':Hp),H d=none→H c=none→Tp H' d c→aE H H'→Q (.ref d) H')→mD K vs H Q EM
def sk (S:List Nat):List (Key × V):=S.map fun g:Nat=>(Sum.inl (g:Int),V.bl true)
theorem mE (S:List Nat)(g:Nat):(jz (sk S) (Sum.inl (g:Int))).isSome=decide (g∈S):=by
 rw [← eD]
 unfold sk
 rw [List.any_map,Ap,List.any_eq_true,zT]
 constructor
 ·rintro ⟨x,hx,e⟩
  have e:(Sum.inl (x:Int):Key)=Sum.inl (g:Int):=B3 e
  have e:=Sum.inl.inj e
  have:x=g:=by omega
  exact this ▸ hx
 ·intro h
  exact ⟨g,h,zQ rfl⟩
theorem vj {S:List Nat}{g:Nat}(h:g∉S):iT (sk S) (Sum.inl (g:Int)) (V.bl true)=sk (S++[g]):=by
 have e:=mE S g
 rw [zH h] at e
 rw [o3 _ (by cases h:jz (sk S) (Sum.inl (g:Int)) with | none=>rfl | some v=>rw [h] at e;cases e)]
 unfold sk
 rw [AU]
 rfl
theorem vk (S:List Nat):(sk S).length=S.length:=by unfold sk; rw [zV]
inductive mF (vs:List V)(H:Hp)(Q:VK)(EM:XK):Prop
 | mk:∀ (u:List L) (g:Nat) (a:Addr) (S:List Nat),(vs=[tx u,.int g,.ref a])→(Srf u)→(g < u.length)→(Sn u S)→(H a=some (.dK (sk S)))→(∀ H',H' a=some (.dK (sk (wk u g S []).1))→Sn u (wk u g S []).1→bq a H H'→Q (tx (wk u g S []).2) H')→mF vs H Q EM
inductive iX (vs:List V)(H:Hp)(Q:VK)(EM:XK):Prop
 | mk:∀ u,(vs=[tx u])→(Srf u)→(∀ (l:Addr) (H':Hp),H l=none→H' l=some (.lst ((hol u).map tx))→aE H H'→Q (.ref l) H')→iX vs H Q EM
theorem r9 (u:List L)(i:Nat):((ck u i).2.map tx).length≤i:=by
 rw [zV]
 exact mz u i
theorem bg6:∀ j:Fin 6,([6,7,8,9,10,11]:List L)[j.val]? = some ⟨j.val+6,by omega⟩:=by decide
theorem sm_at {i:Nat}(h:i < 6):atI ("abcdef":Str).cps.toList (i:Int)=some (cp ⟨i,by omega⟩):=by
 rw [← rS]
 exact cu (k:=i) rfl (sm6 ⟨i,h⟩)
theorem xJ {i:Nat}(h:i < 6):atI ("ABCDEF":Str).cps.toList (i:Int)=some (cp ⟨i+6,by omega⟩):=by
 rw [← big]
 exact cu (k:=i) rfl (bg6 ⟨i,h⟩)
theorem pz (W:List L)(x:L)(n:Nat):(bD W).take n++tx [x]::(bD W).drop n=bD (W.take n++x::W.drop n):=by
 unfold bD
 simp
end Kx
namespace Wd
structure SK (u:List L) (k:Nat):Prop where
 pm:u.Perm (fam k)
 lo:1≤k
 hi:k≤6
theorem SK.srf {u:List L}{k:Nat}(h:SK u k):Srf u:=vh h.lo h.hi h.pm
theorem r_ {k:Nat}(h:k≤6):(fam k).length=2*k:=(ir ⟨k,by omega⟩).2.2
theorem SK.len {u:List L}{k:Nat}(h:SK u k):u.length=2*k:=by rw [h.pm.length_eq,r_ h.hi]
theorem se:∀ (k:Fin 7) (x:L),x∈fam k.val ↔ x.val % 6 < k.val:=by decide
theorem SK.mem {u:List L}{k:Nat}(h:SK u k)(x:L):x∈u ↔ x.val % 6 < k:=by
 rw [h.pm.mem_iff]
 exact se ⟨k,by have:=h.hi;omega⟩ x
theorem mG:∀ x:L,(inv x).val % 6=x.val % 6:=by decide
theorem cj {u:List L}(nd:u.Nodup){i:Nat}{x:L}(h:u[i]? = some x):u.idxOf x=i:=by
 obtain ⟨hi,e⟩:=zN.mp h
 subst e
 exact List.Nodup.idxOf_getElem nd i hi
theorem gk {u:List L}{x:L}(h:x∈u):u[u.idxOf x]? = some x:=by
 have EH:=Bx h
 rw [fu EH]
 exact Af some (Bk EH)
theorem aF {u:List L}{x:L}(h:x∈u):u.idxOf x < u.length:=Bx h
theorem aJ {u:List L}{x y:L}(hx:x∈u)(hy:y∈u)(h:u.idxOf x=u.idxOf y):x=y:=by
 have h1:=gk hx
 have h2:=gk hy
 rw [h,h2] at h1
 exact (zP h1).symm
def rfI (u:List L)(a b:L):Int:=((u.idxOf b:Int) - (u.idxOf a:Int)) % (u.length:Int)
theorem sf {n a b:Nat}(ha:a < n)(hb:b < n):((b:Int) - (a:Int)) % (n:Int)=if a≤b then (b:Int) - a else (b:Int) - a+n:=by
 split
 ·exact AW (by omega) (by omega)
 ·have:(b:Int) - a=((b:Int) - a+n)+(n:Int)*(-1):=by omega
  rw [this,C7,AW (by omega) (by omega)]
  omega
theorem aG {u:List L}{a b:L}(ha:a∈u)(hb:b∈u):rfI u a b=if u.idxOf a≤u.idxOf b then (u.idxOf b:Int) - (u.idxOf a:Int) else (u.idxOf b:Int) - (u.idxOf a:Int)+(u.length:Int):=sf (aF ha) (aF hb)
def ic (u:List L)(x z:L):Int:=if rfI u x z < rfI u x (inv x) then 1 else 0
def sd (u:List L)(x y:L):Int:=ic u x y - ic u x (inv y)
structure qI (u:List L) (x y:L):Prop where
 mx:x∈u
 mX:inv x∈u
 my:y∈u
 mY:inv y∈u
 n1:u.idxOf x≠u.idxOf (inv x)
 n2:u.idxOf x≠u.idxOf y
 n3:u.idxOf x≠u.idxOf (inv y)
 n4:u.idxOf (inv x)≠u.idxOf y
 n5:u.idxOf (inv x)≠u.idxOf (inv y)
 n6:u.idxOf y≠u.idxOf (inv y)
theorem gp {u:List L}(U:Srf u){x y:L}(hx:x∈u)(hy:y∈u)(h1:x≠y)(h2:x≠inv y):qI u x y:=by
 have hX:=U.iv x hx
 have hY:=U.iv y hy
 refine ⟨hx,hX,hy,hY,fun e=>dE x (aJ hx hX e).symm,fun e=>h1 (aJ hx hy e),fun e=>h2 (aJ hx hY e),fun e=>h2 ?_,fun e=>h1 ?_,fun e=>dE y (aJ hy hY e).symm⟩
 ·rw [← aJ hX hy e,aC]
 ·have:=Af inv (aJ hX hY e)
  rw [aC,aC] at this
  exact this
theorem qI.swap {u:List L}{x y:L}(F:qI u x y):qI u y x:=⟨F.my,F.mY,F.mx,F.mX,F.n6,F.n2.symm,F.n4.symm,F.n3.symm,F.n5.symm,F.n1⟩
theorem gq {u:List L}{x y:L}(F:qI u x y):sd u y x = - sd u x y:=by
 have a1:=aF F.mx
 have a2:=aF F.mX
 have a3:=aF F.my
 have a4:=aF F.mY
 have n1:=F.n1;have n2:=F.n2;have n3:=F.n3;have n4:=F.n4;have n5:=F.n5;have n6:=F.n6
 unfold sd ic
 rw [aG F.mx F.my,aG F.mx F.mX,aG F.mx F.mY,aG F.my F.mx,aG F.my F.mY,aG F.my F.mX]
 generalize u.idxOf x=a at *
 generalize u.idxOf (inv x)=b at *
 generalize u.idxOf y=c at *
 generalize u.idxOf (inv y)=d at *
 generalize u.length=n at *
 grind
def psd (u:List L)(x y:L):Int :=
 if (decide (min (u.idxOf x) (u.idxOf (inv x)) < u.idxOf y∧u.idxOf y < max (u.idxOf x) (u.idxOf (inv x))) != decide (min (u.idxOf x) (u.idxOf (inv x)) < u.idxOf (inv y)∧u.idxOf (inv y) < max (u.idxOf x) (u.idxOf (inv x))))=true
 then (if rfI u x (inv y) < rfI u x y then -1 else 1) else 0
theorem vm {u:List L}{x y:L}(F:qI u x y):psd u x y=sd u x y:=by
 have a1:=aF F.mx
 have a2:=aF F.mX
 have a3:=aF F.my
 have a4:=aF F.mY
 have n1:=F.n1;have n2:=F.n2;have n3:=F.n3;have n4:=F.n4;have n5:=F.n5;have n6:=F.n6
 unfold psd sd ic
 rw [aG F.mx F.my,aG F.mx F.mX,aG F.mx F.mY]
 generalize u.idxOf x=a at *
 generalize u.idxOf (inv x)=b at *
 generalize u.idxOf y=c at *
 generalize u.idxOf (inv y)=d at *
 generalize u.length=n at *
 grind
def bo:Nat→(Nat→Int)→Int
 | 0,_=>0
 | n+1,f=>bo n f+f n
theorem aL {f g:Nat→Int}:∀ (n:Nat),(∀ i,i < n→f i=g i)→bo n f=bo n g
 | 0,_=>rfl
 | n+1,h=>by
  show bo n f+f n=bo n g+g n
  rw [aL n fun i hi=>h i (by omega),h n (by omega)]
theorem bE {f:Nat→Int}(n:Nat)(h:∀ i,i < n→f i=0):bo n f=0:=by
 rw [aL n h]
 clear h
 induction n with
 | zero=>rfl
 | succ n ih =>
  show bo n (fun _=>0)+0=0
  rw [ih]
  rfl
theorem bW (f g:Nat→Int):∀ n,bo n (fun i=>f i+g i)=bo n f+bo n g
 | 0=>rfl
 | n+1=>by
  show bo n (fun i=>f i+g i)+(f n+g n)=(bo n f+f n)+(bo n g+g n)
  rw [bW f g n]
  omega
theorem gr (f:Nat→Int):∀ n,bo n (fun i=>- f i) = - bo n f
 | 0=>rfl
 | n+1=>by
  show bo n (fun i=>- f i) + - f n = - (bo n f+f n)
  rw [gr f n]
  omega
theorem gs (c:Int)(f:Nat→Int):∀ n,bo n (fun i=>c*f i)=c*bo n f
 | 0=>by
  show (0:Int)=c*0
  rw [Dg]
 | n+1=>by
  show bo n (fun i=>c*f i)+c*f n=c*(bo n f+f n)
  rw [gs c f n,Int.mul_add]
theorem eX (f:Nat→Nat→Int)(m:Nat):∀ n,bo n (fun x=>bo m fun y=>f x y)=bo m (fun y=>bo n fun x=>f x y)
 | 0=>(bE m fun _ _=>rfl).symm
 | n+1=>by
  show bo n (fun x=>bo m fun y=>f x y)+bo m (fun y=>f n y)=bo m (fun y=>bo n (fun x=>f x y)+f n y)
  rw [eX f m n,bW]
theorem dm {f:Nat→Int}{j:Nat}:∀ (n:Nat),j < n→(∀ i,i < n→i≠j→f i=0)→bo n f=f j
 | 0,h,_=>absurd h (DS _)
 | n+1,h,hz=>by
  show bo n f+f n=f j
  by_cases e:j=n
  ·subst e
   rw [bE j fun i hi=>hz i (by omega) (by omega),Dh]
  ·rw [dm n (by omega) fun i hi=>hz i (by omega),hz n (by omega) (fun e'=>e e'.symm),BK]
theorem iu (g:Nat→Nat→Int):∀ k,bo k (fun x=>bo (k - (x+1)) fun j=>g x (x+1+j)+g (x+1+j) x)=bo k (fun x=>bo k fun y=>if x=y then 0 else g x y)
 | 0=>rfl
 | k+1=>by
  have e1:bo (k+1) (fun x=>bo (k+1 - (x+1)) fun j=>g x (x+1+j)+g (x+1+j) x)=bo k (fun x=>bo (k - (x+1)) fun j=>g x (x+1+j)+g (x+1+j) x)+bo k (fun x=>g x k+g k x):=by
   show bo k (fun x=>bo (k+1 - (x+1)) fun j=>g x (x+1+j)+g (x+1+j) x)+bo (k+1 - (k+1)) _=_
   rw [Di]
   show _+0=_
   rw [BK,← bW]
   refine aL k fun x hx=>?_
   have e:k+1 - (x+1)=(k - (x+1))+1:=by omega
   rw [e]
   show _+(g x (x+1+(k - (x+1)))+g (x+1+(k - (x+1))) x)=_
   rw [show x+1+(k - (x+1))=k by omega]
  have e2:bo (k+1) (fun x=>bo (k+1) fun y=>if x=y then 0 else g x y)=bo k (fun x=>bo k fun y=>if x=y then 0 else g x y)+bo k (fun x=>g x k+g k x):=by
   show bo k (fun x=>bo k (fun y=>if x=y then 0 else g x y)+(if x=k then 0 else g x k))+(bo k (fun y=>if k=y then 0 else g k y)+(if k=k then 0 else g k k))=_
   rw [bW,if_pos rfl,BK,bW]
   rw [aL (f:=fun x=>if x=k then 0 else g x k) (g:=fun x=>g x k) k fun x hx=>if_neg (by omega)]
   rw [aL (f:=fun y=>if k=y then 0 else g k y) (g:=fun y=>g k y) k fun y hy=>if_neg (by omega)]
   exact Dt _ _ _
  rw [e1,e2,iu g k]
def lt6 (j:Nat):L:=if h:j < 12 then ⟨j,h⟩ else 0
def dfi (w:List L)(x:L):Int:=((w.count x:Nat):Int) - ((w.count (inv x):Nat):Int)
def trm (u w1 w2:List L)(x y:Nat):Int:=sd u (lt6 x) (lt6 y)*(dfi w1 (lt6 x)*dfi w2 (lt6 y) - dfi w1 (lt6 y)*dfi w2 (lt6 x))
def bal (u:List L)(k:Nat)(w1 w2:List L):Int:=bo k fun x=>bo (k - (x+1)) fun j=>trm u w1 w2 x (x+1+j)
def wgt (u:List L)(k:Nat)(w1 w2:List L):Int:=bo k fun x=>bo k fun y=>if x=y then 0 else dfi w1 (lt6 x)*dfi w2 (lt6 y)*sd u (lt6 x) (lt6 y)
theorem gu {j:Nat}(h:j < 6):(lt6 j).val=j:=by
 unfold lt6
 rw [dif_pos (by omega)]
theorem mH:∀ x:L,x.val < 6→(inv x).val=x.val+6:=by decide
theorem SK.four {u:List L}{k:Nat}(h:SK u k){x y:Nat}(hx:x < k)(hy:y < k)(hn:x≠y):qI u (lt6 x) (lt6 y):=by
 have h6:=h.hi
 have vx:=gu (show x < 6 by omega)
 have vy:=gu (show y < 6 by omega)
 refine gp h.srf ((h.mem _).mpr (by rw [vx];omega)) ((h.mem _).mpr (by rw [vy];omega)) (fun e=>hn ?_) (fun e=>?_)
 ·rw [← vx,← vy,e]
 ·have:=mH (lt6 y) (by omega)
  rw [← e] at this
  omega
theorem mI {u:List L}{k:Nat}(h:SK u k)(w1 w2:List L):bal u k w1 w2=wgt u k w1 w2:=by
 unfold bal wgt
 rw [← iu (fun x y=>dfi w1 (lt6 x)*dfi w2 (lt6 y)*sd u (lt6 x) (lt6 y)) k]
 refine aL k fun x hx=>aL _ fun j hj=>?_
 have:=gq (h.four hx (show x+1+j < k by omega) (by omega))
 unfold trm
 rw [this]
 generalize sd u (lt6 x) (lt6 (x+1+j))=s
 grind
theorem pA (u:List L)(k:Nat)(w1 w2:List L):bal u k w2 w1 = - bal u k w1 w2:=by
 unfold bal
 rw [← gr]
 refine aL k fun x hx=>?_
 rw [← gr]
 refine aL _ fun j hj=>?_
 unfold trm
 grind
theorem iY (v w:List L)(x:L):dfi (v++w) x=dfi v x+dfi w x:=by
 unfold dfi
 rw [List.count_append,List.count_append]
 omega
theorem iZ (x:L):dfi [] x=0:=rfl
theorem pB (u:List L)(k:Nat)(w:List L):bal u k w w=0:=by
 unfold bal
 refine bE k fun x hx=>bE _ fun j hj=>?_
 unfold trm
 grind
theorem si (u:List L)(k:Nat)(w:List L):bal u k [] w=0:=by
 unfold bal
 refine bE k fun x hx=>bE _ fun j hj=>?_
 unfold trm
 rw [iZ,iZ]
 grind
theorem sj (u:List L)(k:Nat)(w1 w2 w3:List L):bal u k w1 (w2++w3)=bal u k w1 w2+bal u k w1 w3:=by
 unfold bal
 rw [← bW]
 refine aL k fun x hx=>?_
 rw [← bW]
 refine aL _ fun j hj=>?_
 unfold trm
 rw [iY,iY]
 grind
def tau (u:List L)(y l:L):Int:=if l=y ∨ l=inv y then 0 else ic u y (inv l) - ic u y l
def fv (u:List L)(y:L):List L→Int
 | []=>0
 | l::w=>tau u y l+fv u y w
theorem iw (u:List L)(y l:L):∀ w,fv u y (w++[l])=fv u y w+tau u y l
 | []=>by
  show tau u y l+0=0+tau u y l
  omega
 | x::w=>by
  show tau u y x+fv u y (w++[l])=(tau u y x+fv u y w)+tau u y l
  rw [iw u y l w]
  omega
def bg (u:List L)(y:L)(g:Nat):Int:=ic u y (u.getD g 0)
theorem cw {u:List L}{g:Nat}(h:g < u.length):u[g]? = some (u.getD g 0):=by
 rw [Ag,fu h]
 rfl
theorem pD {u:List L}(U:Srf u){y:L}(hy:y∈u){g:Nat}(hg:g < u.length):tau u y (b9 u g)=bg u y (br u g) - bg u y g:=by
 have hY:=U.iv y hy
 have hp:=U.pos
 have m1:u.getD g 0∈u:=AF (cw hg)
 have i1:u.idxOf (u.getD g 0)=g:=cj U.nd (cw hg)
 have m2:=cv U g
 have i2:u.idxOf (b9 u g)=(g+1) % u.length:=cj U.nd (bK U g)
 have m3:=U.iv _ m2
 have e3:u.getD (br u g) 0=inv (b9 u g):=by
  have:=cw (bV U g)
  rw [show u[br u g]? = some (inv (b9 u g)) from gk m3] at this
  exact (zP this).symm
 have q:(g+1) % u.length=if g+1=u.length then 0 else g+1:=by
  split
  ·rename_i h
   rw [h,CH]
  ·exact Ba (by omega)
 have a1:=aF hy
 have a2:=aF hY
 have n1:u.idxOf y≠u.idxOf (inv y):=fun e=>dE y (aJ hy hY e).symm
 unfold bg
 rw [e3]
 unfold tau
 by_cases h1:b9 u g=y
 ·rw [if_pos (.inl h1),h1]
  rw [h1,q] at i2
  unfold ic
  rw [aG hy hY,aG hy m1,i1]
  generalize u.idxOf y=a at *
  generalize u.idxOf (inv y)=b at *
  generalize u.length=n at *
  grind
 ·by_cases h2:b9 u g=inv y
  ·rw [if_pos (.inr h2),h2,aC]
   rw [h2,q] at i2
   unfold ic
   rw [aG hy hY,aG hy m1,aG hy hy,i1]
   generalize u.idxOf y=a at *
   generalize u.idxOf (inv y)=b at *
   generalize u.length=n at *
   grind
  ·rw [if_neg (fun z=>z.elim h1 h2)]
   have k1:u.idxOf (b9 u g)≠u.idxOf y:=fun e=>h1 (aJ m2 hy e)
   have k2:u.idxOf (b9 u g)≠u.idxOf (inv y):=fun e=>h2 (aJ m2 hY e)
   have e:ic u y (b9 u g)=ic u y (u.getD g 0):=by
    rw [q] at i2
    unfold ic
    rw [aG hy hY,aG hy m1,aG hy m2,i1]
    generalize u.idxOf (b9 u g)=c at *
    generalize u.idxOf y=a at *
    generalize u.idxOf (inv y)=b at *
    generalize u.length=n at *
    grind
   rw [e]
theorem gz {u:List L}(U:Srf u){g h:Nat}(hg:g < u.length)(hh:h < u.length)(e:br u g=br u h):g=h:=by
 have e1:=aJ (U.iv _ (cv U g)) (U.iv _ (cv U h)) e
 have e1:b9 u g=b9 u h:=by
  have:=Af inv e1
  rw [aC,aC] at this
  exact this
 have i1:u.idxOf (b9 u g)=(g+1) % u.length:=cj U.nd (bK U g)
 have i2:u.idxOf (b9 u h)=(h+1) % u.length:=cj U.nd (bK U h)
 have q:∀ g,g < u.length→(g+1) % u.length=if g+1=u.length then 0 else g+1:=fun g hg=>by
  split
  ·rename_i h
   rw [h,CH]
  ·exact Ba (by omega)
 rw [e1,i2,q g hg,q h hh] at i1
 split at i1 <;> split at i1 <;> omega
def ku (u:List L)(S:List Nat):Prop:=∀ z,z < u.length→br u z∈S→z∈S
structure Way (u:List L) (g0:Nat) (P:List Nat) (g:Nat):Prop where
 ex:(P=[]∧g=g0) ∨ ∃ (Q:List Nat) (z:Nat),P=Q++[z]∧g=br u z∧P.head? = some g0∧∀ s∈P,s=g0 ∨ ∃ q∈Q,br u q=s
theorem Way.snoc {u:List L}{g0 g:Nat}{P:List Nat}(W:Way u g0 P g):Way u g0 (P++[g]) (br u g):=by
 refine ⟨.inr ⟨P,g,rfl,rfl,?_,fun s hs=>?_⟩⟩
 ·rcases W.ex with ⟨rfl,rfl⟩ | ⟨Q,z,rfl,rfl,h,_⟩
  ·rfl
  ·rw [List.head?_append,h]
   rfl
 ·rcases W.ex with ⟨rfl,rfl⟩ | ⟨Q,z,rfl,rfl,h,hq⟩
  ·have:s=g:=by simpa using hs
   exact .inl this
  ·rcases z3.mp hs with hs | hs
   ·rcases hq s hs with e | ⟨q,hq1,hq2⟩
    ·exact .inl e
    ·exact .inr ⟨q,Aj _ hq1,hq2⟩
   ·have:s=br u z:=by simpa using hs
    exact .inr ⟨z,by simp,this.symm⟩
theorem mJ {u:List L}(U:Srf u){S0:List Nat}{g0:Nat}(hw:ku u S0)(h0:g0∉S0)(y:L)(hy:y∈u):∀ (m:Nat) (g:Nat) (P:List Nat) (w:List L),u.length - (S0++P).length≤m→Sn u (S0++P)→g < u.length→Way u g0 P g →
  ku u (wk u g (S0++P) w).1∧fv u y (wk u g (S0++P) w).2=fv u y w+bg u y g0 - bg u y g:=by
 intro m
 induction m with
 | zero =>
  intro g P w hm hs hg W
  by_cases h:g∈S0++P
  ·exact stop U hw h0 hs hg W h w
  ·have:=(hs.snoc hg h).le
   rw [zI,Aq] at this
   omega
 | succ m ih =>
  intro g P w hm hs hg W
  by_cases h:g∈S0++P
  ·exact stop U hw h0 hs hg W h w
  ·rw [jI hs hg h,zR]
   have E5:=hs.snoc hg h
   rw [zR] at E5
   obtain ⟨a1,a2⟩:=ih (br u g) (P++[g]) (w++[b9 u g]) (by simp only [zI,Aq] at hm ⊢;omega) E5 (bV U g) W.snoc
   refine ⟨a1,?_⟩
   rw [a2,iw,pD U hy hg]
   omega
where
 stop {u:List L} (U:Srf u) {S0:List Nat} {g0:Nat} (hw:ku u S0) (h0:g0∉S0) {y:L} {g:Nat} {P:List Nat} (hs:Sn u (S0++P)) (hg:g < u.length) (W:Way u g0 P g) (h:g∈S0++P) (w:List L) :
   ku u (wk u g (S0++P) w).1∧fv u y (wk u g (S0++P) w).2=fv u y w+bg u y g0 - bg u y g:=by
  rw [mw h]
  show ku u (S0++P)∧fv u y w=_
  rcases W.ex with ⟨rfl,rfl⟩ | ⟨Q,z,rfl,rfl,hh,hq⟩
  ·rw [AY] at h
   exact absurd h h0
  ·have hz:z < u.length:=hs.lt z (by simp)
   have nd:=hs.nd
   rw [Bu] at nd
   obtain ⟨nd1,nd2,nd3⟩:=nd
   rw [Bu] at nd2
   obtain ⟨nd4,nd5,nd6⟩:=nd2
   have e0:br u z=g0:=by
    rcases z3.mp h with h | h
    ·exact absurd rfl (nd3 z (hw z hz h) z (by simp))
    ·rcases hq _ h with e | ⟨q,q1,q2⟩
     ·exact e
     ·have:=gz U (hs.lt q (by simp [q1])) hz q2
      exact absurd rfl (nd6 q q1 q (by simp [this]))
   refine ⟨fun a ha hs2=>?_,by rw [e0];omega⟩
   rcases z3.mp hs2 with hs2 | hs2
   ·exact Aj _ (hw a ha hs2)
   ·rcases hq _ hs2 with e | ⟨q,q1,q2⟩
    ·have:=gz U ha hz (e.trans e0.symm)
     subst this
     simp
    ·have:=gz U (hs.lt q (by simp [q1])) ha q2
     subst this
     simp [q1]
theorem mK {u:List L}(U:Srf u):∀ (m g:Nat) (S:List Nat) (w:List L),u.length - S.length≤m→Sn u S→g < u.length→Sn u (wk u g S w).1
 | 0,g,S,w,hm,hs,hg=>by
  by_cases h:g∈S
  ·rw [mw h]
   exact hs
  ·have:=(hs.snoc hg h).le
   rw [zI,Aq] at this
   omega
 | m+1,g,S,w,hm,hs,hg=>by
  by_cases h:g∈S
  ·rw [mw h]
   exact hs
  ·rw [jI hs hg h]
   exact mK U m _ _ _ (by simp only [zI,Aq];omega) (hs.snoc hg h) (bV U g)
theorem mL {u:List L}(U:Srf u){y:L}(hy:y∈u):∀ i,i≤u.length→Sn u (ck u i).1∧ku u (ck u i).1∧∀ w∈(ck u i).2,fv u y w=0
 | 0,_=>⟨Sn.nil u,fun z _ h=>absurd h (by simp [ck]),fun w h=>absurd h (by simp [ck])⟩
 | i+1,hi=>by
  obtain ⟨h1,h2,h3⟩:=mL U hy i (by omega)
  by_cases h:i∈(ck u i).1
  ·rw [eW h]
   exact ⟨h1,h2,h3⟩
  ·rw [dU h]
   have q:=mJ U (S0:=(ck u i).1) (g0:=i) h2 h y hy _ i [] [] (zU _) (by rw [AY];exact h1) (by omega) ⟨.inl ⟨rfl,rfl⟩⟩
   rw [AY] at q
   refine ⟨mK U _ i _ [] (zU _) h1 (by omega),q.1,fun w hw=>?_⟩
   rcases z3.mp hw with hw | hw
   ·exact h3 w hw
   ·rw [zJ] at hw
    subst hw
    rw [q.2]
    show 0+_ - _=(0:Int)
    omega
theorem d9 {u:List L}(U:Srf u):∀ (n g:Nat) (S:List Nat) (w:List L),(∀ l∈w,l∈u)→∀ l∈(mq u n g S w).2,l∈u
 | 0,_,_,_,h=>h
 | n+1,g,S,w,h=>by
  unfold mq
  split
  ·exact h
  ·refine d9 U n _ _ _ fun l hl=>?_
   rcases z3.mp hl with hl | hl
   ·exact h l hl
   ·rw [zJ] at hl
    exact hl ▸ cv U g
theorem bO {u:List L}(U:Srf u):∀ i,∀ w∈(ck u i).2,∀ l∈w,l∈u
 | 0,w,h=>absurd h (by simp [ck])
 | i+1,w,h=>by
  by_cases hi:i∈(ck u i).1
  ·rw [eW hi] at h
   exact bO U i w h
  ·rw [dU hi] at h
   rcases z3.mp h with h | h
   ·exact bO U i w h
   ·rw [zJ] at h
    subst h
    exact d9 U _ _ _ [] (fun l hl=>absurd hl (by simp))
theorem gC (l x:L):dfi [l] x=(if l=x then 1 else 0) - (if l=inv x then 1 else 0):=by
 have c:∀ a b:L,(([a].count b:Nat):Int)=if a=b then 1 else 0:=fun a b=>by
  rw [List.count_singleton]
  by_cases h:a=b
  ·rw [if_pos h,h]
   simp
  ·rw [if_neg h]
   simp [h]
 unfold dfi
 rw [c,c]
theorem i3:∀ l:L,l=lt6 (l.val % 6) ∨ l=inv (lt6 (l.val % 6)):=by decide
theorem i4:∀ (l:L) (x:Fin 6),x.val≠l.val % 6→l≠lt6 x.val∧l≠inv (lt6 x.val):=by decide
theorem jJ:∀ l:L,¬ (l=lt6 (l.val % 6)∧l=inv (lt6 (l.val % 6))):=by decide
theorem xK {u:List L}{k:Nat}(h:SK u k){y:Nat}(hy:y < k){l:L}(hl:l∈u):bo k (fun x=>if x=y then 0 else dfi [l] (lt6 x)*sd u (lt6 x) (lt6 y))=tau u (lt6 y) l:=by
 have h6:=h.hi
 have hj:=(h.mem l).mp hl
 rw [dm k hj]
 ·unfold tau
  by_cases e:l.val % 6=y
  ·subst e
   rw [if_pos rfl,if_pos (i3 l)]
  ·rw [if_neg e]
   have q:=i4 l ⟨y,by omega⟩ (fun z=>e z.symm)
   rw [if_neg (fun z=>z.elim q.1 q.2),gC]
   have F:=h.four hj hy e
   have an:=gq F.swap
   rcases i3 l with e1 | e1
   ·have e2:¬ l=inv (lt6 (l.val % 6)):=fun z=>jJ l ⟨e1,z⟩
    rw [if_pos e1,if_neg e2,an,← e1]
    unfold sd
    omega
   ·have e2:¬ l=lt6 (l.val % 6):=fun z=>jJ l ⟨z,e1⟩
    have e3:lt6 (l.val % 6)=inv l:=by rw [e1,aC,← e1]
    rw [if_neg e2,if_pos e1,an,e3]
    unfold sd
    rw [aC]
    omega
 ·intro i hi hn
  by_cases e:i=y
  ·rw [if_pos e]
  ·rw [if_neg e,gC]
   have q:=i4 l ⟨i,by omega⟩ hn
   rw [if_neg q.1,if_neg q.2]
   omega
theorem z_all {u:List L}{k:Nat}(h:SK u k){y:Nat}(hy:y < k):∀ w:List L,(∀ l∈w,l∈u)→bo k (fun x=>if x=y then 0 else dfi w (lt6 x)*sd u (lt6 x) (lt6 y))=fv u (lt6 y) w
 | [],_=>bE k fun x _=>by
  split
  ·rfl
  ·rw [iZ,Int.zero_mul]
 | l::w,hw=>by
  have ih:=z_all h hy w fun z hz=>hw z (zO _ hz)
  show _=tau u (lt6 y) l+fv u (lt6 y) w
  rw [← ih,← xK h hy (hw l zX),← bW]
  refine aL k fun x _=>?_
  have e:dfi (l::w) (lt6 x)=dfi [l] (lt6 x)+dfi w (lt6 x):=iY [l] w (lt6 x)
  rw [e]
  split
  ·rfl
  ·rw [Int.add_mul]
theorem pF {u:List L}{k:Nat}(h:SK u k){w:List L}(hw:w∈hol u)(v:List L):bal u k w v=0:=by
 rw [mI h]
 unfold wgt
 rw [eX]
 refine bE k fun y hy=>?_
 have h6:=h.hi
 have my:lt6 y∈u:=(h.mem _).mpr (by rw [gu (by omega)];omega)
 have z:=z_all h hy w (bO h.srf _ w hw)
 rw [(mL h.srf my u.length (zU _)).2.2 w hw] at z
 have e:bo k (fun x=>if x=y then 0 else dfi w (lt6 x)*dfi v (lt6 y)*sd u (lt6 x) (lt6 y))=dfi v (lt6 y)*bo k (fun x=>if x=y then 0 else dfi w (lt6 x)*sd u (lt6 x) (lt6 y)):=by
  rw [← gs]
  refine aL k fun x _=>?_
  split
  ·rw [Dg]
  ·grind
 rw [e,z,Dg]
end Wd
namespace L2
open PySem PySem.Spec PyProof.Rows
section
variable {prog:Program} {w:World} {A:Around} {E:Value→Shared→Prop} {s:Shared}
end
section
variable {X:Cx}
def zk (ta tb:TE):TE:=fun σ H Q=>ta σ H fun x H1=>∃ z,x = .str z∧z.length≤sizeLine∧(if ((z.length:Int) != 0)=true then Q (.str z) H1 else tb σ H1 Q)
theorem vn {a b:Expr}{rest:List Expr}{ta tb:TE}{pos:Pos}(ha:PE X a ta)(hb:PE X (.BoolOp .Or (b::rest) pos) tb):PE X (.BoolOp .Or (a::b::rest) pos) (zk ta tb):=by
 intro EA s σ H Q I h
 refine BoolOp_or (thn (ha EA s σ H _ I h) fun v s1 zq1=>?_)
 obtain ⟨x,H1,I1,r1,z,ez,hz,q1⟩:=zq1
 subst ez
 refine thn (qw EA s1 σ H1 (.str z) v (fun c H'=>if c=true then Q (.str z) H' else tb σ H' Q) I1 r1 ⟨_,⟨hz,rfl⟩,q1⟩) fun c s2 zq2=>?_
 obtain ⟨H2,I2,q2⟩:=zq2
 cases c with
 | false=>exact hb EA s2 σ H2 Q I2 (by simpa using q2)
 | true=>exact ⟨.str z,H2,I2,r1,by simpa using q2⟩
end
end L2
namespace PySem
open Sem (wp)
open AutoSeq1 (wpAny_loadPart')
section
variable {prog:Program} {w:World} {A:Around} {E:Value→Shared→Prop} {s:Shared}
end
end PySem
namespace L2
open PySem PySem.Spec PyProof.Rows Wd
section
variable {X:Cx}
end
end L2
namespace PySem
open Sem (wp)
section
variable {prog:Program} {w:World} {A:Around} {E:Value→Shared→Prop} {s:Shared} {z TI TO i1 i2:Addr} {k n1 n2:Nat} {a b:Value} {fp1 fp2:List Addr} {P1 P2:Nat→Value→Prop} {S1 S2:Nat→Heap→Prop}
end
end PySem
namespace PySem
end PySem
namespace L2
open PySem PySem.Spec PyProof.Rows Wd
section
variable {X:Cx}
end
end L2
namespace Kx
open PySem PySem.Spec PyProof.Rows L2 Wd
def jn (yl:List Nat):List (List Nat)→List Nat
 | []=>[]
 | [p]=>p
 | p::q::r=>p++yl++jn yl (q::r)
def Gd (c:Nat):Prop:=(48≤c∧c≤57) ∨ 65≤c
end Kx
namespace L2
open PySem PySem.Spec PyProof.Rows Wd
section
variable {X:Cx} {tg:Expr}
end
end L2
namespace Kx
open PySem PySem.Spec PyProof.Rows L2 Wd
def dV:V→PyData
 | .int i=>.int i
 | .str z=>.str z
 | _=>.none
end Kx
namespace L2
open PySem PySem.Spec PyProof.Rows
section
variable {X:Cx}
end
end L2
namespace Kx
open PySem PySem.Spec PyProof.Rows L2 Wd
def zG (k:Nat):List L:=(List.range k).map lt6++bk ((List.range k).map lt6)
end Kx
namespace Tv
open PySem PyProof.Rows
theorem ao {σ:Type}{M:Model}{A:Around}{E:Value→Shared→Prop}{s:Shared}{α:Type}{c:Prop}[Decidable c]{x y:StateT σ Sem α}{Q:α→σ→Prop}{st:σ}(h:c)(p:wpS M A E s x Q st):wpS M A E s (if c then x else y) Q st:=by
 rw [if_pos h];exact p
theorem aq {σ:Type}{M:Model}{A:Around}{E:Value→Shared→Prop}{s:Shared}{α:Type}{c:Prop}[Decidable c]{x y:StateT σ Sem α}{Q:α→σ→Prop}{st:σ}(h:¬ c)(p:wpS M A E s y Q st):wpS M A E s (if c then x else y) Q st:=by
 rw [if_neg h];exact p
def kof (κ:KeyKind)(p:Keyed):κ.α:=(κ.keyOf p.1).getD κ.dflt
def Gd (κ:KeyKind)(p:Keyed):Prop:=∃ a,κ.keyOf p.1=some a
theorem Gd.eq {κ:KeyKind}{p:Keyed}(h:Gd κ p):κ.keyOf p.1=some (kof κ p):=by
 obtain ⟨a,e⟩:=h
 unfold kof
 rw [e]
 rfl
structure TB (kd:SortKind) (st:SortSt):Prop where
 kind:kindOf st=kd
 failed:failedOf st=none
def Lt1 (κ:KeyKind)(prog:Program)(w:World)(A:Around)(s:Shared)(kd:SortKind):Prop:=∀ (E:Value→Shared→Prop) (x y:Value) (a b:κ.α) (Q:Bool→Shared→Prop),κ.keyOf x=some a→κ.keyOf y=some b→Q (κ.blt a b) s→wpAny (model prog w) A (keyLt' kd x y) Q E s
def gal:Bool→Keyed→Array Keyed→Nat→Nat→Nat→StateT SortSt Sem (Option Nat):=sortPriv% PySem.Builtin.gallop
def gbd (lf:Bool)(key:Keyed)(arr:Array Keyed)(b i:Nat):StateT SortSt Sem (Option Bool):=do
 let it ← elem' arr (b+i)
 if lf then lt' it key else return (← lt' key it).map (!·)
def wW (lf:Bool)(key:Keyed)(arr:Array Keyed)(b n d0 u0:Nat):StateT SortSt Sem (Option Nat):=do
 let mut dn:=d0
 let mut up:=u0
 for _ in [0:n] do
  if dn≥up then break
  let md:=dn+(up - dn) / 2
  let some mr ← gbd lf key arr b md | return none
  if mr then dn:=md+1 else up:=md
 return some up
theorem vo (lf:Bool)(key:Keyed)(arr:Array Keyed)(b n h:Nat):gal lf key arr b n h=(do
 let mut la:=0
 let mut of:=1
 let some rt ← gbd lf key arr b h | return none
 if rt then
  for _ in [0:n] do
   if of≥n - h then break
   let some mr ← gbd lf key arr b (h+of) | return none
   if !mr then break
   la:=of
   of:=2*of+1
  wW lf key arr b n (h+la+1) (h+min of (n - h))
 else
  for _ in [0:n] do
   if of≥h+1 then break
   let some fd ← gbd lf key arr b (h - of) | return none
   if fd then break
   la:=of
   of:=2*of+1
  wW lf key arr b n (h+1 - min of (h+1)) (h - la)):=rfl
section
variable {prog:Program} {w:World} {A:Around} {E:Value→Shared→Prop} {s:Shared} {κ:KeyKind} {kd:SortKind}
theorem ix {st:SortSt}{x y:Keyed}{Q:Option Bool→SortSt→Prop}(hO:Lt1 κ prog w A s kd)(hB:TB kd st)(hx:Gd κ x)(hy:Gd κ y)(h:Q (some (κ.blt (kof κ x) (kof κ y))) st):wpS (model prog w) A E s (lt' x y) Q st:=by
 rw [lt'_eq]
 refine zW (C4 ?_)
 rw [hB.kind]
 refine zW (DW (Dr (hO _ x.1 y.1 _ _ _ hx.eq hy.eq ⟨rfl,?_⟩)))
 exact zZ h
def bdB (κ:KeyKind)(lf:Bool)(key:κ.α)(x:κ.α):Bool:=if lf then κ.blt x key else !κ.blt key x
theorem sq {st:SortSt}{lf:Bool}{key p:Keyed}{arr:Array Keyed}{b i:Nat}{Q:Option Bool→SortSt→Prop}(hO:Lt1 κ prog w A s kd)(hB:TB kd st)(hk:Gd κ key)(e:arr[b+i]? = some p)(hp:Gd κ p)
  (h:Q (some (bdB κ lf (kof κ key) (kof κ p))) st):wpS (model prog w) A E s (gbd lf key arr b i) Q st:=by
 unfold gbd
 rw [elem'_eq,e]
 refine zW (zZ ?_)
 unfold bdB at h
 cases lf with
 | true=>exact ix hO hB hp hk h
 | false=>exact zW (ix hO hB hk hp (zZ h))
theorem i5 {st:SortSt}{lf:Bool}{key:Keyed}{arr:Array Keyed}{b n h:Nat}{Q:Option Nat→SortSt→Prop}(hO:Lt1 κ prog w A s kd)(hB:TB kd st)(hk:Gd κ key)(B:Nat→Bool)(hh:h < n)
  (at_:∀ i,i < n→∃ p,arr[b+i]? = some p∧Gd κ p∧bdB κ lf (kof κ key) (kof κ p)=B i) (mono:∀ i j,i≤j→j < n→B j=true→B i=true)
  (hq:∀ k,k≤n→(∀ i,i < k→B i=true)→(∀ i,k≤i→i < n→B i=false)→Q (some k) st):wpS (model prog w) A E s (gal lf key arr b n h) Q st:=by
 have ask:∀ {i:Nat} {R:Option Bool→SortSt→Prop},i < n→R (some (B i)) st→wpS (model prog w) A E s (gbd lf key arr b i) R st:=fun {i R} hi r=>by
  obtain ⟨p,e,g,eb⟩:=at_ i hi
  exact sq hO hB hk e g (by rw [eb];exact r)
 have no:∀ i j,i≤j→j < n→B i=false→B j=false:=fun i j EK hj e=>by
  cases ej:B j with
  | false=>rfl
  | true=>rw [mono i j EK hj ej] at e;cases e
 -- the last part
 have fin:∀ dn up,dn≤up→up≤n→(∀ i,i < dn→B i=true)→(∀ i,up≤i→i < n→B i=false)→wpS (model prog w) A E s (wW lf key arr b n dn up) Q st:=by
  intro dn up h1 h2 h3 h4
  unfold wW
  refine zW (Bp (AQ (I:=fun x c st'=>st'=st∧∃ dn up,c=(none,dn,up)∧dn≤up∧up≤n∧up - dn≤n - x∧(∀ i,i < dn→B i=true)∧(∀ i,up≤i→i < n→B i=false))
   (Q:=fun c st'=>st'=st∧∃ k,c=(none,k,k)∧k≤n∧(∀ i,i < k→B i=true)∧(∀ i,k≤i→i < n→B i=false)) ?step ?fin ⟨rfl,dn,up,rfl,h1,h2,by omega,h3,h4⟩) ?post)
  case post =>
   rintro c st' ⟨rfl,k,rfl,a1,a2,a3⟩
   exact zZ (hq k a1 a2 a3)
  case fin =>
   rintro c st' ⟨rfl,dn,up,rfl,a1,a2,a3,a4,a5⟩
   have:dn=up:=by omega
   subst this
   exact ⟨rfl,dn,rfl,a2,a4,a5⟩
  case step =>
   rintro x c st' _ hx ⟨rfl,dn,up,rfl,a1,a2,a3,a4,a5⟩
   dsimp only
   by_cases hd:dn≥up
   ·refine ao hd ?_
    have:dn=up:=by omega
    subst this
    exact zZ ⟨rfl,dn,rfl,a2,a4,a5⟩
   ·refine aq hd ?_
    refine zW (ask (by omega) ?_)
    cases eb:B (dn+(up - dn) / 2) with
    | true =>
     simp only [BI]
     exact zZ ⟨rfl,dn+(up - dn) / 2+1,up,rfl,by omega,a2,by omega,fun i hi=>mono i _ (by omega) (by omega) eb,a5⟩
    | false =>
     simp only [Ac,A6]
     exact zZ ⟨rfl,dn,dn+(up - dn) / 2,rfl,by omega,by omega,by omega,a4,fun i hi1 hi2=>no _ i (by omega) hi2 eb⟩
 rw [vo]
 refine zW (ask hh ?_)
 cases eh:B h with
 | true =>
  dsimp only
  refine ao rfl ?_
  refine zW (Bp (AQ (I:=fun x c st'=>st'=st∧∃ la of,c=(none,la,of)∧la < of∧x+1≤of∧h+la < n∧B (h+la)=true)
   (Q:=fun c st'=>st'=st∧∃ la of,c=(none,la,of)∧la < of∧h+la < n∧B (h+la)=true∧(of≥n - h ∨ (h+of < n∧B (h+of)=false))) ?step ?fin ⟨rfl,0,1,rfl,by omega,by omega,by omega,eh⟩) ?post)
  case post =>
   rintro c st' ⟨rfl,la,of,rfl,a1,a2,a3,a4⟩
   dsimp only
   refine fin (h+la+1) (h+min of (n - h)) (by omega) (by omega) (fun i hi=>mono i _ (by omega) a2 a3) fun i hi1 hi2=>?_
   rcases a4 with a4 | ⟨a4,a5⟩
   ·omega
   ·exact no _ i (by omega) hi2 a5
  case fin =>
   rintro c st' ⟨rfl,la,of,rfl,a1,a2,a3,a4⟩
   exact ⟨rfl,la,of,rfl,a1,a3,a4,.inl (by omega)⟩
  case step =>
   rintro x c st' _ hx ⟨rfl,la,of,rfl,a1,a2,a3,a4⟩
   dsimp only
   by_cases ho:of≥n - h
   ·refine ao ho ?_
    exact zZ ⟨rfl,la,of,rfl,a1,a3,a4,.inl ho⟩
   ·refine aq ho ?_
    refine zW (ask (by omega) ?_)
    cases eb:B (h+of) with
    | true =>
     simp only [CT,Ac,A6]
     exact zZ ⟨rfl,of,2*of+1,rfl,by omega,by omega,by omega,eb⟩
    | false =>
     simp only [Bool.not_false,BI]
     exact zZ ⟨rfl,la,of,rfl,a1,a3,a4,.inr ⟨by omega,eb⟩⟩
 | false =>
  dsimp only
  refine aq An ?_
  refine zW (Bp (AQ (I:=fun x c st'=>st'=st∧∃ la of,c=(none,la,of)∧la < of∧x+1≤of∧la≤h∧B (h - la)=false)
   (Q:=fun c st'=>st'=st∧∃ la of,c=(none,la,of)∧la < of∧la≤h∧B (h - la)=false∧(of≥h+1 ∨ (of≤h∧B (h - of)=true))) ?step ?fin ⟨rfl,0,1,rfl,by omega,by omega,by omega,eh⟩) ?post)
  case post =>
   rintro c st' ⟨rfl,la,of,rfl,a1,a2,a3,a4⟩
   dsimp only
   refine fin (h+1 - min of (h+1)) (h - la) (by omega) (by omega) (fun i hi=>?_) fun i hi1 hi2=>no _ i hi1 hi2 a3
   rcases a4 with a4 | ⟨a4,a5⟩
   ·omega
   ·exact mono i _ (by omega) (by omega) a5
  case fin =>
   rintro c st' ⟨rfl,la,of,rfl,a1,a2,a3,a4⟩
   exact ⟨rfl,la,of,rfl,a1,a3,a4,.inl (by omega)⟩
  case step =>
   rintro x c st' _ hx ⟨rfl,la,of,rfl,a1,a2,a3,a4⟩
   dsimp only
   by_cases ho:of≥h+1
   ·refine ao ho ?_
    exact zZ ⟨rfl,la,of,rfl,a1,a3,a4,.inl ho⟩
   ·refine aq ho ?_
    refine zW (ask (by omega) ?_)
    cases eb:B (h - of) with
    | false =>
     simp only [Ac,A6]
     exact zZ ⟨rfl,of,2*of+1,rfl,by omega,by omega,by omega,eb⟩
    | true =>
     simp only [BI]
     exact zZ ⟨rfl,la,of,rfl,a1,a3,a4,.inr ⟨by omega,eb⟩⟩
end
def mlo:Array Keyed→Array Keyed→StateT SortSt Sem (Array Keyed):=sortPriv% PySem.Builtin.mergeLo
def smg:Nat→StateT SortSt Sem Unit:=sortPriv% PySem.Builtin.setMinGallop
abbrev mDn (a b o:Array Keyed)(i j:Nat):Array Keyed:=o++a.extract i a.size++b.extract j b.size
abbrev mLa (a b o:Array Keyed)(i j:Nat):Array Keyed:=o++b.extract j b.size++a.extract i a.size
theorem vp (a b:Array Keyed):mlo a b=(do
 rule "list.sort.merge-lo"
 let mut o:Array Keyed:=#[← elem' b 0]
 let mut i:=0
 let mut j:=1
 if j == b.size then return mDn a b o i j
 if i+1 == a.size then return mLa a b o i j
 let mut g:=gallopOf (← get)
 for _ in [0:a.size+b.size] do
  let mut p:=0
  let mut q:=0
  for _ in [0:a.size+b.size] do
   let some w ← lt' (← elem' b j) (← elem' a i) | return mDn a b o i j
   if w then
    o:=o.push (← elem' b j)
    j:=j+1
    q:=q+1
    p:=0
    if j == b.size then return mDn a b o i j
    if q≥g then break
   else
    o:=o.push (← elem' a i)
    i:=i+1
    p:=p+1
    q:=0
    if i+1 == a.size then return mLa a b o i j
    if p≥g then break
  rule "list.sort.gallop"
  g:=g+1
  for _ in [0:a.size+b.size] do
   if g > 1 then g:=g - 1
   smg g
   let some k ← gal false (← elem' b j) a i (a.size - i) 0 | return mDn a b o i j
   p:=k
   if k > 0 then
    o:=o++a.extract i (i+k)
    i:=i+k
    if i+1 == a.size then return mLa a b o i j
    if i == a.size then return mDn a b o i j
   o:=o.push (← elem' b j)
   j:=j+1
   if j == b.size then return mDn a b o i j
   let some k ← gal true (← elem' a i) b j (b.size - j) 0 | return mDn a b o i j
   q:=k
   if k > 0 then
    o:=o++b.extract j (j+k)
    j:=j+k
    if j == b.size then return mDn a b o i j
   o:=o.push (← elem' a i)
   i:=i+1
   if i+1 == a.size then return mLa a b o i j
   if p < 7 && q < 7 then break
  g:=g+1
  smg g
 unsupported "internal:list.sort.merge-bound"):=rfl
end Tv
namespace Tv
open PySem PyProof.Rows
variable {κ:KeyKind} {kd:SortKind}
def lek (κ:KeyKind)(x y:Keyed):Prop:=κ.kle (kof κ x) (kof κ y)
theorem dH {x y z:Keyed}(h:lek κ x y)(g:lek κ y z):lek κ x z:=BO h g
theorem pG (x:Keyed):lek κ x x:=A5 _
def Srt (κ:KeyKind)(l:List Keyed):Prop:=l.Pairwise (lek κ)
theorem Srt.drop {l:List Keyed}(h:Srt κ l)(i:Nat):Srt κ (l.drop i):=List.Pairwise.sublist (List.drop_sublist i l) h
theorem Srt.take {l:List Keyed}(h:Srt κ l)(i:Nat):Srt κ (l.take i):=List.Pairwise.sublist (List.take_sublist i l) h
def Lel (κ:KeyKind)(l m:List Keyed):Prop:=∀ x∈l,∀ y∈m,lek κ x y
theorem a_ {l m:List Keyed}:Srt κ (l++m) ↔ Srt κ l∧Srt κ m∧Lel κ l m:=List.pairwise_append
theorem Srt.at {l:List Keyed}(h:Srt κ l){i j:Nat}{x y:Keyed}(EK:i≤j)(hx:l[i]? = some x)(hy:l[j]? = some y):lek κ x y:=by
 by_cases e:i=j
 ·subst e
  rw [hx] at hy
  cases hy
  exact pG _
 ·obtain ⟨h1,e1⟩:=zN.mp hx
  obtain ⟨h2,e2⟩:=zN.mp hy
  have:=Bf.mp h i j h1 h2 (by omega)
  rw [e1,e2] at this
  exact this
theorem bP {l:List Keyed}{i:Nat}{x:Keyed}(h:l[i]? = some x):l.drop i=x::l.drop (i+1):=by
 obtain ⟨h1,e1⟩:=zN.mp h
 rw [AI h1,e1]
theorem a9 {l:List Keyed}{i:Nat}{x:Keyed}(h:l[i]? = some x):l.take (i+1)=l.take i++[x]:=by
 rw [CA,h]
 rfl
structure Mc (κ:KeyKind) (A B O:List Keyed) (i j:Nat):Prop where
 pm:O.Perm (A.take i++B.take j)
 so:Srt κ O
 la:Lel κ O (A.drop i)
 lb:Lel κ O (B.drop j)
 hi:i≤A.length
 hj:j≤B.length
theorem Mc.pushA {A B O:List Keyed}{i j:Nat}(M:Mc κ A B O i j)(sA:Srt κ A){x:Keyed}(h:A[i]? = some x)(hx:Lel κ [x] (B.drop j)):Mc κ A B (O++[x]) (i+1) j:=by
 have ed:=bP h
 have sd:=sA.drop i
 rw [ed] at sd
 have sd':=BW.mp sd
 refine ⟨?_,a_.mpr ⟨M.so,Du _ _,fun o ho y hy=>?_⟩,fun o ho y hy=>?_,fun o ho y hy=>?_,(zN.mp h).1,M.hj⟩
 ·rw [a9 h]
  refine (M.pm.append_right [x]).trans ?_
  rw [zR,zR]
  exact Bh _ A8
 ·rw [zJ] at hy
  subst hy
  exact M.la o ho _ (by rw [ed];exact zX)
 ·rcases z3.mp ho with ho | ho
  ·exact M.la o ho y (by rw [ed];exact zO _ hy)
  ·rw [zJ] at ho
   subst ho
   exact sd'.1 y hy
 ·rcases z3.mp ho with ho | ho
  ·exact M.lb o ho y hy
  ·exact hx o ho y hy
theorem Mc.pushB {A B O:List Keyed}{i j:Nat}(M:Mc κ A B O i j)(sB:Srt κ B){x:Keyed}(h:B[j]? = some x)(hx:Lel κ [x] (A.drop i)):Mc κ A B (O++[x]) i (j+1):=by
 have ed:=bP h
 have sd:=sB.drop j
 rw [ed] at sd
 have sd':=BW.mp sd
 refine ⟨?_,a_.mpr ⟨M.so,Du _ _,fun o ho y hy=>?_⟩,fun o ho y hy=>?_,fun o ho y hy=>?_,M.hi,(zN.mp h).1⟩
 ·rw [a9 h]
  refine (M.pm.append_right [x]).trans ?_
  rw [zR]
 ·rw [zJ] at hy
  subst hy
  exact M.lb o ho _ (by rw [ed];exact zX)
 ·rcases z3.mp ho with ho | ho
  ·exact M.la o ho y hy
  ·exact hx o ho y hy
 ·rcases z3.mp ho with ho | ho
  ·exact M.lb o ho y (by rw [ed];exact zO _ hy)
  ·rw [zJ] at ho
   subst ho
   exact sd'.1 y hy
theorem Mc.pushAs {A B O:List Keyed}{i j:Nat}(M:Mc κ A B O i j)(sA:Srt κ A):∀ k,i+k≤A.length→Lel κ ((A.drop i).take k) (B.drop j)→Mc κ A B (O++(A.drop i).take k) (i+k) j
 | 0,_,_=>by simpa using M
 | k+1,hk,hl=>by
  have EH:i+k < A.length:=by omega
  have e:(A.drop i)[k]? = some A[i+k]:=by rw [AN,fu EH]
  have et:(A.drop i).take (k+1)=(A.drop i).take k++[A[i+k]]:=a9 e
  rw [et] at hl ⊢
  have ih:=Mc.pushAs M sA k (by omega) fun x hx=>hl x (Aj _ hx)
  have:=ih.pushA sA (fu EH) fun x hx=>hl x (z6 _ hx)
  rw [zR] at this
  exact this
theorem Mc.pushBs {A B O:List Keyed}{i j:Nat}(M:Mc κ A B O i j)(sB:Srt κ B):∀ k,j+k≤B.length→Lel κ ((B.drop j).take k) (A.drop i)→Mc κ A B (O++(B.drop j).take k) i (j+k)
 | 0,_,_=>by simpa using M
 | k+1,hk,hl=>by
  have EH:j+k < B.length:=by omega
  have e:(B.drop j)[k]? = some B[j+k]:=by rw [AN,fu EH]
  have et:(B.drop j).take (k+1)=(B.drop j).take k++[B[j+k]]:=a9 e
  rw [et] at hl ⊢
  have ih:=Mc.pushBs M sB k (by omega) fun x hx=>hl x (Aj _ hx)
  have:=ih.pushB sB (fu EH) fun x hx=>hl x (z6 _ hx)
  rw [zR] at this
  exact this
def Mg (κ:KeyKind)(A B R:List Keyed):Prop:=R.Perm (A++B)∧Srt κ R
theorem Mc.perm {A B O:List Keyed}{i j:Nat}(M:Mc κ A B O i j):(O++(A.drop i++B.drop j)).Perm (A++B):=by
 have h1:(O++(A.drop i++B.drop j)).Perm ((A.take i++B.take j)++(A.drop i++B.drop j)):=M.pm.append_right _
 refine h1.trans ?_
 have h2:((A.take i++B.take j)++(A.drop i++B.drop j)).Perm ((A.take i++A.drop i)++(B.take j++B.drop j)):=by
  rw [zR,zR]
  refine Bh _ ?_
  rw [← zR,← zR]
  exact Cv _ A8
 rw [Ak,Ak] at h2
 exact h2
theorem Mc.done {A B O:List Keyed}{i j:Nat}(M:Mc κ A B O i j)(sA:Srt κ A)(sB:Srt κ B)(h:i=A.length ∨ j=B.length):Mg κ A B (O++A.drop i++B.drop j):=by
 refine ⟨by rw [zR];exact M.perm,?_⟩
 rw [zR]
 refine a_.mpr ⟨M.so,a_.mpr ⟨sA.drop i,sB.drop j,fun x hx y hy=>?_⟩,fun o ho y hy=>?_⟩
 ·rcases h with h | h
  ·subst h;rw [DC] at hx;cases hx
  ·subst h;rw [DC] at hy;cases hy
 ·rcases z3.mp hy with hy | hy
  ·exact M.la o ho y hy
  ·exact M.lb o ho y hy
theorem Mc.last {A B O:List Keyed}{i j:Nat}(M:Mc κ A B O i j)(sA:Srt κ A)(sB:Srt κ B)(h:i+1=A.length)(hl:∀ z,A[A.length - 1]? = some z→Lel κ B [z]):Mg κ A B (O++B.drop j++A.drop i):=by
 have EH:i < A.length:=by omega
 have ed:A.drop i=[A[i]]:=by rw [bP (fu EH),BV (by omega)]
 refine ⟨?_,?_⟩
 ·refine List.Perm.trans ?_ M.perm
  rw [zR]
  exact Bh _ A8
 ·rw [zR]
  refine a_.mpr ⟨M.so,a_.mpr ⟨sB.drop j,sA.drop i,fun x hx y hy=>?_⟩,fun o ho y hy=>?_⟩
  ·rw [ed] at hy
   exact hl A[i] (by rw [show A.length - 1=i by omega];exact fu EH) x (Bm hx) y hy
  ·rcases z3.mp hy with hy | hy
   ·exact M.lb o ho y hy
   ·exact M.la o ho y hy
theorem jK (a b o:Array Keyed)(i j:Nat):(mDn a b o i j).toList=o.toList++a.toList.drop i++b.toList.drop j:=by
 simp [mDn,A0,AB]
theorem jL (a b o:Array Keyed)(i j:Nat):(mLa a b o i j).toList=o.toList++b.toList.drop j++a.toList.drop i:=by
 simp [mLa,A0,AB]
theorem jM (a:Array Keyed)(i k:Nat):(a.extract i (i+k)).toList=(a.toList.drop i).take k:=by
 simp [A0,List.take_drop]
theorem jN {lf:Bool}{key x y:κ.α}(h:κ.kle x y)(hb:bdB κ lf key y=true):bdB κ lf key x=true:=by
 unfold bdB at hb ⊢
 cases lf with
 | true=>exact KeyOrd.klt_of_kle_of_klt h hb
 | false =>
  have hb:(!κ.blt key y)=true:=hb
  have hy:κ.kle y key:=by show κ.blt key y=false;simpa using hb
  have:=BO h hy
  show (!κ.blt key x)=true
  have this:κ.blt key x=false:=this
  rw [this]
  rfl
end Tv
namespace Tv
open PySem PyProof.Rows
section
variable {prog:Program} {w:World} {A:Around} {E:Value→Shared→Prop} {s:Shared} {κ:KeyKind} {kd:SortKind}
structure Ok (kd:SortKind) (st st':SortSt):Prop where
 tb:TB kd st'
 ar:arrOf st'=arrOf st
 pd:pendingOf st'=pendingOf st
theorem Ok.refl {st:SortSt}(h:TB kd st):Ok kd st st:=⟨h,rfl,rfl⟩
theorem gD {st st':SortSt}{g:Nat}{Q:Unit→SortSt→Prop}(h:Ok kd st st')(q:∀ ED,Ok kd st ED→Q () ED):wpS (model prog w) A E s (smg g) Q st':=by
 refine Cg (q _ ⟨⟨h.tb.kind,h.tb.failed⟩,h.ar,h.pd⟩)
theorem aN {st:SortSt}{arr:Array Keyed}{i:Nat}{x:Keyed}{Q:Keyed→SortSt→Prop}(e:arr.toList[i]? = some x)(h:Q x st):wpS (model prog w) A E s (elem' arr i) Q st:=by
 have e':arr[i]? = some x:=by simpa using e
 rw [elem'_eq,e']
 exact zZ h
theorem jO {st:SortSt}{lf:Bool}{key:Keyed}{arr:Array Keyed}{i:Nat}{Q:Option Nat→SortSt→Prop}(hO:Lt1 κ prog w A s kd)(hB:TB kd st)(hk:Gd κ key)(hg:∀ x∈arr.toList,Gd κ x)(sa:Srt κ arr.toList)(hi:i < arr.size)
  (hq:∀ k,i+k≤arr.size→(∀ x∈(arr.toList.drop i).take k,bdB κ lf (kof κ key) (kof κ x)=true)→(∀ x∈arr.toList.drop (i+k),bdB κ lf (kof κ key) (kof κ x)=false)→Q (some k) st) :
  wpS (model prog w) A E s (gal lf key arr i (arr.size - i) 0) Q st:=by
 have hl:arr.toList.length=arr.size:=zL
 refine i5 hO hB hk (fun t=>match arr.toList[i+t]? with | some p=>bdB κ lf (kof κ key) (kof κ p) | none=>false) (by omega) (fun t ht=>?_) (fun t u htu hu hb=>?_) (fun k hk' h1 h2=>hq k (by omega) (fun x hx=>?_) fun x hx=>?_)
 ·have EH:i+t < arr.toList.length:=by omega
  have e:=fu EH
  refine ⟨arr.toList[i+t],by simpa using e,hg _ (AD EH),?_⟩
  rw [e]
 ·have h1:i+t < arr.toList.length:=by omega
  have h2:i+u < arr.toList.length:=by omega
  have e1:=fu h1
  have e2:=fu h2
  rw [e2] at hb
  rw [e1]
  exact jN (sa.at (by omega) e1 e2) hb
 ·obtain ⟨t,e⟩:=A2 hx
  have ht:t < k:=by
   have:=(zN.mp e).1
   rw [z9] at this
   omega
  rw [Cq,if_pos ht,AN] at e
  have:=h1 t ht
  rw [e] at this
  exact this
 ·obtain ⟨t,e⟩:=A2 hx
  rw [AN] at e
  have EH:=(zN.mp e).1
  have:=h2 (k+t) (by omega) (by omega)
  rw [show i+(k+t)=i+k+t by omega,e] at this
  exact this
theorem not_lt {x y:Keyed}(h:κ.blt (kof κ x) (kof κ y)=false):lek κ y x:=h
theorem pH {x y:Keyed}(h:κ.blt (kof κ x) (kof κ y)=true):lek κ x y:=B5 h
theorem eY {l:List Keyed}(sl:Srt κ l){i:Nat}{x y:Keyed}(e:l[i]? = some y)(h:lek κ x y):Lel κ [x] (l.drop i):=fun z hz t ht=>by
 rw [zJ] at hz
 subst hz
 rw [bP e] at ht
 rcases Ae.mp ht with rfl | ht
 ·exact h
 ·have sd:=sl.drop i
  rw [bP e] at sd
  exact dH h ((BW.mp sd).1 t ht)
abbrev MSt:=Option (Array Keyed) × Array Keyed × Nat × Nat × Nat × Nat × Nat
def jp3 (a b:Array Keyed)(i g p q:Nat)(o:Array Keyed)(j:Nat):StateT SortSt Sem (ForInStep MSt):=do
 let e ← elem' a i
 if (i+1+1 == a.size)=true then pure (.done (some (mLa a b (o.push e) (i+1) j),o.push e,i+1,j,g,p,q))
 else if (decide (p < 7) && decide (q < 7))=true then pure (.done (none,o.push e,i+1,j,g,p,q)) else pure (.yield (none,o.push e,i+1,j,g,p,q))
def jp2 (a b:Array Keyed)(j g p q:Nat)(o:Array Keyed)(i:Nat):StateT SortSt Sem (ForInStep MSt):=do
 let e ← elem' b j
 if (j+1 == b.size)=true then pure (.done (some (mDn a b (o.push e) i (j+1)),o.push e,i,j+1,g,p,q))
 else do
  let f ← elem' a i
  let y ← gal true f b (j+1) (b.size - (j+1)) 0
  match y with
  | some k=>if k > 0 then (if (j+1+k == b.size)=true then pure (.done (some (mDn a b (o.push e++b.extract (j+1) (j+1+k)) i (j+1+k)),o.push e++b.extract (j+1) (j+1+k),i,j+1+k,g,p,k)) else jp3 a b i g p k (o.push e++b.extract (j+1) (j+1+k)) (j+1+k)) else jp3 a b i g p k (o.push e) (j+1)
  | _=>pure (.done (some (mDn a b (o.push e) i (j+1)),o.push e,i,j+1,g,p,q))
def jp1 (a b:Array Keyed)(o:Array Keyed)(i j p q g:Nat):StateT SortSt Sem (ForInStep MSt):=do
 smg g
 let e ← elem' b j
 let y ← gal false e a i (a.size - i) 0
 match y with
 | some k=>if k > 0 then (if (i+k+1 == a.size)=true then pure (.done (some (mLa a b (o++a.extract i (i+k)) (i+k) j),o++a.extract i (i+k),i+k,j,g,k,q)) else if (i+k == a.size)=true then pure (.done (some (mDn a b (o++a.extract i (i+k)) (i+k) j),o++a.extract i (i+k),i+k,j,g,k,q)) else jp2 a b j g k q (o++a.extract i (i+k)) (i+k)) else jp2 a b j g k q o i
 | _=>pure (.done (some (mDn a b o i j),o,i,j,g,p,q))
def Pst (κ:KeyKind)(a b:Array Keyed)(x:Nat)(st:SortSt)(r:ForInStep MSt)(st':SortSt):Prop:=match r with
 | .done c=>((∃ r z,c=(some r,z)∧Mg κ a.toList b.toList r.toList) ∨ ∃ o i j g p q,c=(none,o,i,j,g,p,q)∧Mc κ a.toList b.toList o.toList i j∧i+1 < a.size∧j < b.size∧x+2≤i+j)∧Ok kd st st'
 | .yield c=>∃ o i j g p q,c=(none,o,i,j,g,p,q)∧Mc κ a.toList b.toList o.toList i j∧i+1 < a.size∧j < b.size∧x+2≤i+j∧Ok kd st st'
structure Two (κ:KeyKind) (a b:Array Keyed):Prop where
 ga:∀ x∈a.toList,Gd κ x
 gb:∀ x∈b.toList,Gd κ x
 sa:Srt κ a.toList
 sb:Srt κ b.toList
 hl:∀ z,a.toList[a.size - 1]? = some z→Lel κ b.toList [z]
theorem Two.atA {a b:Array Keyed}(T:Two κ a b){i:Nat}(hi:i < a.size):∃ x,a.toList[i]? = some x∧Gd κ x:=⟨a.toList[i]'(by rw [zL]; exact hi),fu (by rw [zL]; exact hi),T.ga _ (AD _)⟩
theorem Two.atB {a b:Array Keyed}(T:Two κ a b){i:Nat}(hi:i < b.size):∃ x,b.toList[i]? = some x∧Gd κ x:=⟨b.toList[i]'(by rw [zL]; exact hi),fu (by rw [zL]; exact hi),T.gb _ (AD _)⟩
theorem Two.dn {a b:Array Keyed}(T:Two κ a b){o:Array Keyed}{i j:Nat}(M:Mc κ a.toList b.toList o.toList i j)(h:i=a.size ∨ j=b.size):Mg κ a.toList b.toList (mDn a b o i j).toList:=by
 rw [jK]
 exact M.done T.sa T.sb (by rw [zL,zL];exact h)
theorem Two.ls {a b:Array Keyed}(T:Two κ a b){o:Array Keyed}{i j:Nat}(M:Mc κ a.toList b.toList o.toList i j)(h:i+1=a.size):Mg κ a.toList b.toList (mLa a b o i j).toList:=by
 rw [jL]
 exact M.last T.sa T.sb (by rw [zL];exact h) (by rw [zL];exact T.hl)
theorem mM {st st':SortSt}{a b o:Array Keyed}{i j g p q x:Nat}{xa:Keyed}(T:Two κ a b)(M:Mc κ a.toList b.toList o.toList i j)(hi:i+1 < a.size)(hj:j < b.size)(hx:x+2≤i+j)(ok:Ok kd st st')(EY:a.toList[i]? = some xa)(hle:Lel κ [xa] (b.toList.drop j)) :
  wpS (model prog w) A E s (jp3 a b i g p q o j) (Pst (kd:=kd) κ a b x st) st':=by
 unfold jp3
 refine zW (aN EY ?_)
 have M':Mc κ a.toList b.toList (o.push xa).toList (i+1) j:=by rw [BJ];exact M.pushA T.sa EY hle
 by_cases hia:i+1+1=a.size
 ·refine ao (by simpa using hia) ?_
  exact zZ ⟨.inl ⟨_,_,rfl,T.ls M' hia⟩,ok⟩
 ·refine aq (by simpa using hia) ?_
  by_cases hpq:(decide (p < 7) && decide (q < 7))=true
  ·refine ao hpq ?_
   exact zZ ⟨.inr ⟨_,_,_,_,_,_,rfl,M',by omega,hj,by omega⟩,ok⟩
  ·refine aq hpq ?_
   exact zZ ⟨_,_,_,_,_,_,rfl,M',by omega,hj,by omega,ok⟩
theorem eF {x y:Keyed}:bdB κ false (kof κ x) (kof κ y)=true→lek κ y x:=fun h=>by
 unfold bdB at h
 have h:(!κ.blt (kof κ x) (kof κ y))=true:=h
 show κ.blt (kof κ x) (kof κ y)=false
 simpa using h
theorem eZ {x y:Keyed}:bdB κ false (kof κ x) (kof κ y)=false→lek κ x y:=fun h=>by
 unfold bdB at h
 have h:(!κ.blt (kof κ x) (kof κ y))=false:=h
 exact pH (by simpa using h)
theorem i6 {x y:Keyed}:bdB κ true (kof κ x) (kof κ y)=true→lek κ y x:=fun h=>pH h
theorem gE {x y:Keyed}:bdB κ true (kof κ x) (kof κ y)=false→lek κ x y:=fun h=>h
theorem mN {st st':SortSt}{a b o:Array Keyed}{i j g p q x:Nat}{xb:Keyed}(hO:Lt1 κ prog w A s kd)(T:Two κ a b)(M:Mc κ a.toList b.toList o.toList i j)(hi:i+1 < a.size)(hj:j < b.size)(hx:x+2≤i+j)(ok:Ok kd st st')(EX:b.toList[j]? = some xb)(hle:Lel κ [xb] (a.toList.drop i)) :
  wpS (model prog w) A E s (jp2 a b j g p q o i) (Pst (kd:=kd) κ a b x st) st':=by
 have la:a.toList.length=a.size:=zL
 have lb:b.toList.length=b.size:=zL
 unfold jp2
 refine zW (aN EX ?_)
 have M':Mc κ a.toList b.toList (o.push xb).toList i (j+1):=by rw [BJ];exact M.pushB T.sb EX hle
 by_cases hjb:j+1=b.size
 ·refine ao (by simpa using hjb) ?_
  exact zZ ⟨.inl ⟨_,_,rfl,T.dn M' (.inr hjb)⟩,ok⟩
 refine aq (by simpa using hjb) ?_
 obtain ⟨xa,EY,gxa⟩:=T.atA (i:=i) (by omega)
 refine zW (aN EY (zW (jO hO ok.tb gxa T.gb T.sb (by omega) fun k hk t1 t2=>?_)))
 dsimp only
 have MB:Mc κ a.toList b.toList ((o.push xb).toList++(b.toList.drop (j+1)).take k) i (j+1+k):=M'.pushBs T.sb k (by omega) fun z hz=>eY T.sa EY (i6 (t1 z hz)) z (zJ.mpr rfl)
 have rest:Lel κ [xa] (b.toList.drop (j+1+k)):=fun z hz y hy=>by
  rw [zJ] at hz
  subst hz
  exact gE (t2 y hy)
 by_cases hk0:k > 0
 ·refine ao hk0 ?_
  have MB':Mc κ a.toList b.toList (o.push xb++b.extract (j+1) (j+1+k)).toList i (j+1+k):=by rw [C5,jM];exact MB
  by_cases hje:j+1+k=b.size
  ·refine ao (by simpa using hje) ?_
   exact zZ ⟨.inl ⟨_,_,rfl,T.dn MB' (.inr hje)⟩,ok⟩
  ·refine aq (by simpa using hje) ?_
   exact mM T MB' hi (by omega) (by omega) ok EY rest
 ·refine aq hk0 ?_
  have:k=0:=by omega
  subst this
  exact mM T M' hi (by omega) (by omega) ok EY rest
theorem mO {st st':SortSt}{a b o:Array Keyed}{i j g p q x:Nat}(hO:Lt1 κ prog w A s kd)(T:Two κ a b)(M:Mc κ a.toList b.toList o.toList i j)(hi:i+1 < a.size)(hj:j < b.size)(hx:x+2≤i+j)(ok:Ok kd st st') :
  wpS (model prog w) A E s (jp1 a b o i j p q g) (Pst (kd:=kd) κ a b x st) st':=by
 have la:a.toList.length=a.size:=zL
 have lb:b.toList.length=b.size:=zL
 unfold jp1
 refine zW (gD ok fun st3 ok3=>?_)
 obtain ⟨xb,EX,gxb⟩:=T.atB hj
 refine zW (aN EX (zW (jO hO ok3.tb gxb T.ga T.sa (by omega) fun k hk t1 t2=>?_)))
 dsimp only
 have MA:Mc κ a.toList b.toList (o.toList++(a.toList.drop i).take k) (i+k) j:=M.pushAs T.sa k (by omega) fun z hz=>eY T.sb EX (eF (t1 z hz)) z (zJ.mpr rfl)
 have rest:Lel κ [xb] (a.toList.drop (i+k)):=fun z hz y hy=>by
  rw [zJ] at hz
  subst hz
  exact eZ (t2 y hy)
 by_cases hk0:k > 0
 ·refine ao hk0 ?_
  have MA':Mc κ a.toList b.toList (o++a.extract i (i+k)).toList (i+k) j:=by rw [C5,jM];exact MA
  by_cases h1:i+k+1=a.size
  ·refine ao (by simpa using h1) ?_
   exact zZ ⟨.inl ⟨_,_,rfl,T.ls MA' h1⟩,ok3⟩
  ·refine aq (by simpa using h1) ?_
   by_cases h2:i+k=a.size
   ·refine ao (by simpa using h2) ?_
    exact zZ ⟨.inl ⟨_,_,rfl,T.dn MA' (.inl h2)⟩,ok3⟩
   ·refine aq (by simpa using h2) ?_
    exact mN hO T MA' (by omega) hj (by omega) ok3 EX rest
 ·refine aq hk0 ?_
  have:k=0:=by omega
  subst this
  exact mN hO T M hi hj hx ok3 EX rest
abbrev TS (α:Type):=StateT SortSt Sem α
abbrev T6:=Option (Array Keyed) × Array Keyed × Nat × Nat × Nat × Nat
abbrev T5:=Option (Array Keyed) × Array Keyed × Nat × Nat × Nat
def mBe {α:Type}(c:Option (Array Keyed) × α):TS (Array Keyed):=match c.1 with
 | some r=>pure r
 | none=>unsupported "internal:list.sort.merge-bound"
def mB1 (a b:Array Keyed)(g:Nat):T6→TS (ForInStep T6):=fun (_,o,i,j,p,q)=>do
 let y ← elem' b j
 let x ← elem' a i
 let w ← lt' y x
 match w with
 | some w =>
  if w=true then do
   let e ← elem' b j
   if (j+1 == b.size)=true then pure (.done (some (mDn a b (o.push e) i (j+1)),o.push e,i,j+1,0,q+1))
   else if q+1≥g then pure (.done (none,o.push e,i,j+1,0,q+1)) else pure (.yield (none,o.push e,i,j+1,0,q+1))
  else do
   let e ← elem' a i
   if (i+1+1 == a.size)=true then pure (.done (some (mLa a b (o.push e) (i+1) j),o.push e,i+1,j,p+1,0))
   else if p+1≥g then pure (.done (none,o.push e,i+1,j,p+1,0)) else pure (.yield (none,o.push e,i+1,j,p+1,0))
 | _=>pure (.done (some (mDn a b o i j),o,i,j,p,q))
def mB3 (a b:Array Keyed):MSt→TS (ForInStep MSt):=fun (_,o,i,j,g,p,q)=>if g > 1 then jp1 a b o i j p q (g - 1) else jp1 a b o i j p q g
def mB2 (a b:Array Keyed)(g:Nat):T6→TS (ForInStep T5)
 | (some r,o,i,j,_)=>pure (.done (some r,o,i,j,g))
 | (none,o,i,j,p,q)=>do
  rule "list.sort.gallop"
  match ← forIn [0:a.size+b.size] ((none,o,i,j,g+1,p,q):MSt) fun _ d=>mB3 a b d with
  | (some r,o,i,j,g,_)=>pure (.done (some r,o,i,j,g))
  | (none,o,i,j,g,_)=>do
   smg (g+1)
   pure (.yield (none,o,i,j,g+1))
def mB0 (a b:Array Keyed):T5→TS (ForInStep T5):=fun (_,o,i,j,g)=>do
 let d ← forIn [0:a.size+b.size] ((none,o,i,j,0,0):T6) fun _ d=>mB1 a b g d
 mB2 a b g d
theorem su (a b:Array Keyed):mlo a b=(do
 rule "list.sort.merge-lo"
 let e ← elem' b 0
 if (1 == b.size)=true then pure (mDn a b #[e] 0 1)
 else if (0+1 == a.size)=true then pure (mLa a b #[e] 0 1)
 else do
  let st ← get
  let c ← forIn [0:a.size+b.size] ((none,#[e],0,1,gallopOf st):T5) fun _ c=>mB0 a b c
  mBe c):=by
 rw [vp]
 refine Af (bind _) (funext fun u=>Af (bind _) (funext fun e=>Af (ite _ _) (Af (ite _ _) (Af (bind _) (funext fun st=>?_)))))
 refine congr (Af bind (Af (forIn _ _) (funext fun x=>funext fun c=>?_))) (funext fun c=>?_)
 ·refine congr (Af bind (Af (forIn _ _) (funext fun y=>funext fun d=>rfl))) (funext fun d=>?_)
  rcases d with ⟨_ | r,d⟩
  ·refine Af (bind _) (funext fun u=>?_)
   refine congr (Af bind (Af (forIn _ _) (funext fun y=>funext fun d=>rfl))) (funext fun d=>?_)
   rcases d with ⟨_ | r,d⟩ <;> rfl
  ·rfl
 ·rcases c with ⟨_ | r,c⟩ <;> rfl
theorem sv {st:SortSt}{a b:Array Keyed}{Q:Array Keyed→SortSt→Prop}(hO:Lt1 κ prog w A s kd)(hB:TB kd st)(ga:∀ x∈a.toList,Gd κ x)(gb:∀ x∈b.toList,Gd κ x)(sa:Srt κ a.toList)(sb:Srt κ b.toList)(h0:0 < a.size)(h1:0 < b.size)
  (hf:∀ x y,a.toList[0]? = some x→b.toList[0]? = some y→lek κ y x) (hl:∀ z,a.toList[a.size - 1]? = some z→Lel κ b.toList [z])
  (hq:∀ r st',Ok kd st st'→Mg κ a.toList b.toList r.toList→Q r st'):wpS (model prog w) A E s (mlo a b) Q st:=by
 have la:a.toList.length=a.size:=zL
 have lb:b.toList.length=b.size:=zL
 have hl:∀ z,a.toList[a.toList.length - 1]? = some z→Lel κ b.toList [z]:=by rw [la];exact hl
 have atA:∀ {i:Nat},i < a.size→∃ x,a.toList[i]? = some x∧Gd κ x:=fun {i} hi=>⟨a.toList[i]'(by omega),fu (by omega),ga _ (AD _)⟩
 have atB:∀ {i:Nat},i < b.size→∃ x,b.toList[i]? = some x∧Gd κ x:=fun {i} hi=>⟨b.toList[i]'(by omega),fu (by omega),gb _ (AD _)⟩
 rw [su]
 refine zW (DW (BU ⟨rfl,?_⟩))
 obtain ⟨y0,ey0,gy0⟩:=atB h1
 obtain ⟨x0,ex0,gx0⟩:=atA h0
 refine zW (aN ey0 ?_)
 have M0:Mc κ a.toList b.toList [y0] 0 1:=by
  have:Mc κ a.toList b.toList ([]++[y0]) 0 (0+1):=Mc.pushB (O:=[]) (i:=0) (j:=0) ⟨B8 _,.nil,(fun x hx=>by cases hx),(fun x hx=>by cases hx),Ay _,Ay _⟩ sb ey0 (eY sa ex0 (hf _ _ ex0 ey0))
  exact this
 have dn:∀ {o:Array Keyed} {i j:Nat},Mc κ a.toList b.toList o.toList i j→(i=a.size ∨ j=b.size)→Mg κ a.toList b.toList (mDn a b o i j).toList:=fun M h=>by rw [jK];exact M.done sa sb (by rw [la,lb];exact h)
 have ls:∀ {o:Array Keyed} {i j:Nat},Mc κ a.toList b.toList o.toList i j→i+1=a.size→Mg κ a.toList b.toList (mLa a b o i j).toList:=fun M h=>by rw [jL];exact M.last sa sb (by rw [la];exact h) hl
 by_cases hb1:1=b.size
 ·refine ao (by simpa using hb1) ?_
  exact zZ (hq _ _ (.refl hB) (dn (o:=#[y0]) M0 (.inr hb1)))
 refine aq (by simpa using hb1) ?_
 by_cases ha1:0+1=a.size
 ·refine ao (by simpa using ha1) ?_
  exact zZ (hq _ _ (.refl hB) (ls (o:=#[y0]) M0 ha1))
 refine aq (by simpa using ha1) ?_
 refine zW (C4 ?_)
 refine zW (Bp (AQ (I:=fun x c st'=>∃ o i j g,c=(none,o,i,j,g)∧Mc κ a.toList b.toList o.toList i j∧i+1 < a.size∧j < b.size∧x+1≤i+j∧Ok kd st st')
  (Q:=fun c st'=>∃ r z,c=(some r,z)∧Mg κ a.toList b.toList r.toList∧Ok kd st st') ?step ?fin ⟨#[y0],0,1,_,rfl,M0,by omega,by omega,by omega,.refl hB⟩) ?post)
 case post =>
  rintro c st' ⟨r,z,rfl,m,ok⟩
  unfold mBe
  exact zZ (hq _ _ ok m)
 case fin =>
  rintro c st' ⟨o,i,j,g,rfl,M,hi,hj,hx,ok⟩
  omega
 case step =>
  rintro x c st1 _ hx ⟨o,i,j,g,rfl,M,hi,hj,EK,ok1⟩
  unfold mB0
  dsimp only
  refine zW (Bp (AQ (I:=fun y c st'=>st'=st1∧∃ o i j p q,c=(none,o,i,j,p,q)∧Mc κ a.toList b.toList o.toList i j∧i+1 < a.size∧j < b.size∧x+1+y≤i+j)
   (Q:=fun c st'=>st'=st1∧((∃ r z,c=(some r,z)∧Mg κ a.toList b.toList r.toList) ∨ ∃ o i j p q,c=(none,o,i,j,p,q)∧Mc κ a.toList b.toList o.toList i j∧i+1 < a.size∧j < b.size∧x+2≤i+j)) ?step1 ?fin1 ⟨rfl,o,i,j,0,0,rfl,M,hi,hj,by omega⟩) ?post1)
  case fin1 =>
   rintro c st' ⟨rfl,o,i,j,p,q,rfl,M,hi,hj,hy⟩
   exact ⟨rfl,.inr ⟨o,i,j,p,q,rfl,M,hi,hj,by omega⟩⟩
  case step1 =>
   rintro y c st' _ hy ⟨rfl,o,i,j,p,q,rfl,M,hi,hj,EK⟩
   unfold mB1
   dsimp only
   obtain ⟨xb,EX,gxb⟩:=atB hj
   obtain ⟨xa,EY,gxa⟩:=atA (i:=i) (by omega)
   refine zW (aN EX (zW (aN EY (zW (ix hO ok1.tb gxb gxa ?_)))))
   cases eb:κ.blt (kof κ xb) (kof κ xa) with
   | true =>
    simp only [BI]
    refine zW (aN EX ?_)
    have M':Mc κ a.toList b.toList (o.push xb).toList i (j+1):=by rw [BJ];exact M.pushB sb EX (eY sa EY (pH eb))
    by_cases hjb:j+1=b.size
    ·refine ao (by simpa using hjb) ?_
     exact zZ ⟨rfl,.inl ⟨_,_,rfl,dn M' (.inr hjb)⟩⟩
    ·refine aq (by simpa using hjb) ?_
     by_cases hqg:q+1≥g
     ·refine ao hqg ?_
      exact zZ ⟨rfl,.inr ⟨_,_,_,_,_,rfl,M',hi,by omega,by omega⟩⟩
     ·refine aq hqg ?_
      exact zZ ⟨rfl,_,_,_,_,_,rfl,M',hi,by omega,by omega⟩
   | false =>
    simp only [Ac,A6]
    refine zW (aN EY ?_)
    have M':Mc κ a.toList b.toList (o.push xa).toList (i+1) j:=by rw [BJ];exact M.pushA sa EY (eY sb EX (not_lt eb))
    by_cases hia:i+1+1=a.size
    ·refine ao (by simpa using hia) ?_
     exact zZ ⟨rfl,.inl ⟨_,_,rfl,ls M' hia⟩⟩
    ·refine aq (by simpa using hia) ?_
     by_cases hpg:p+1≥g
     ·refine ao hpg ?_
      exact zZ ⟨rfl,.inr ⟨_,_,_,_,_,rfl,M',by omega,hj,by omega⟩⟩
     ·refine aq hpg ?_
      exact zZ ⟨rfl,_,_,_,_,_,rfl,M',by omega,hj,by omega⟩
  case post1 =>
   rintro c st' ⟨rfl,⟨r,z,rfl,m⟩ | ⟨o,i,j,p,q,rfl,M,hi,hj,EK⟩⟩
   ·exact zZ ⟨r,_,rfl,m,ok1⟩
   unfold mB2
   dsimp only
   refine zW (DW (BU ⟨rfl,?_⟩))
   refine zW (Bp (AQ (I:=fun y c st'=>∃ o i j g p q,c=(none,o,i,j,g,p,q)∧Mc κ a.toList b.toList o.toList i j∧i+1 < a.size∧j < b.size∧x+2≤i+j∧Ok kd st st')
    (Q:=fun c st'=>((∃ r z,c=(some r,z)∧Mg κ a.toList b.toList r.toList) ∨ ∃ o i j g p q,c=(none,o,i,j,g,p,q)∧Mc κ a.toList b.toList o.toList i j∧i+1 < a.size∧j < b.size∧x+2≤i+j)∧Ok kd st st') ?step2 ?fin2 ⟨o,i,j,_,p,q,rfl,M,hi,hj,EK,ok1⟩) ?post2)
   case fin2 =>
    rintro c st' ⟨o,i,j,g,p,q,rfl,M,hi,hj,EK,ok⟩
    exact ⟨.inr ⟨o,i,j,g,p,q,rfl,M,hi,hj,EK⟩,ok⟩
   case post2 =>
    rintro c st' ⟨⟨r,z,rfl,m⟩ | ⟨o,i,j,g,p,q,rfl,M,hi,hj,EK⟩,ok⟩
    ·exact zZ ⟨r,_,rfl,m,ok⟩
    ·dsimp only
     exact zW (gD ok fun ED ok'=>zZ ⟨o,i,j,_,rfl,M,hi,hj,by omega,ok'⟩)
   case step2 =>
    rintro y c E1 _ hy ⟨o,i,j,g,p,q,rfl,M,hi,hj,EK,ok2⟩
    change wpS _ _ _ _ (if g > 1 then jp1 a b o i j p q (g - 1) else jp1 a b o i j p q g) _ _
    refine Bp (Q:=Pst (kd:=kd) κ a b x st) ?_ fun r st' h=>?_
    rotate_left
    ·cases r with
     | done c=>exact h
     | yield c=>exact h
    by_cases hg:g > 1
    ·refine ao hg ?_
     exact mO hO ⟨ga,gb,sa,sb,by rw [← la];exact hl⟩ M hi hj EK ok2
    ·refine aq hg ?_
     exact mO hO ⟨ga,gb,sa,sb,by rw [← la];exact hl⟩ M hi hj EK ok2
end
end Tv
namespace Tv
open PySem PyProof.Rows
def mhi:Array Keyed→Array Keyed→StateT SortSt Sem (Array Keyed):=sortPriv% PySem.Builtin.mergeHi
abbrev hDn (a b o:Array Keyed)(i j:Nat):Array Keyed:=a.extract 0 i++b.extract 0 j++o.reverse
abbrev hFb (a b o:Array Keyed)(i j:Nat):Array Keyed:=b.extract 0 j++a.extract 0 i++o.reverse
theorem vq (a b:Array Keyed):mhi a b=(do
 rule "list.sort.merge-hi"
 let mut i:=a.size - 1
 let mut j:=b.size
 let mut o:Array Keyed:=#[← elem' a i]
 if i == 0 then return hDn a b o i j
 if j == 1 then return hFb a b o i j
 let mut g:=gallopOf (← get)
 for _ in [0:a.size+b.size] do
  let mut p:=0
  let mut q:=0
  for _ in [0:a.size+b.size] do
   let some w ← lt' (← elem' b (j - 1)) (← elem' a (i - 1)) | return hDn a b o i j
   if w then
    i:=i - 1
    o:=o.push (← elem' a i)
    p:=p+1
    q:=0
    if i == 0 then return hDn a b o i j
    if p≥g then break
   else
    j:=j - 1
    o:=o.push (← elem' b j)
    q:=q+1
    p:=0
    if j == 1 then return hFb a b o i j
    if q≥g then break
  rule "list.sort.gallop"
  g:=g+1
  for _ in [0:a.size+b.size] do
   if g > 1 then g:=g - 1
   smg g
   let some t ← gal false (← elem' b (j - 1)) a 0 i (i - 1) | return hDn a b o i j
   let k:=i - t
   p:=k
   if k > 0 then
    o:=o++(a.extract t i).reverse
    i:=t
    if i == 0 then return hDn a b o i j
   j:=j - 1
   o:=o.push (← elem' b j)
   if j == 1 then return hFb a b o i j
   let some t ← gal true (← elem' a (i - 1)) b 0 j (j - 1) | return hDn a b o i j
   let k:=j - t
   q:=k
   if k > 0 then
    o:=o++(b.extract t j).reverse
    j:=t
    if j == 1 then return hFb a b o i j
    if j == 0 then return hDn a b o i j
   i:=i - 1
   o:=o.push (← elem' a i)
   if i == 0 then return hDn a b o i j
   if p < 7 && q < 7 then break
  g:=g+1
  smg g
 unsupported "internal:list.sort.merge-bound"):=rfl
variable {κ:KeyKind} {kd:SortKind}
structure Mh (κ:KeyKind) (A B R:List Keyed) (i j:Nat):Prop where
 pm:R.Perm (A.drop i++B.drop j)
 so:Srt κ R
 la:Lel κ (A.take i) R
 lb:Lel κ (B.take j) R
 hi:i≤A.length
 hj:j≤B.length
theorem Mh.pushA {A B R:List Keyed}{i j:Nat}(M:Mh κ A B R (i+1) j)(sA:Srt κ A){x:Keyed}(h:A[i]? = some x)(hx:Lel κ (B.take j) [x]):Mh κ A B (x::R) i j:=by
 have et:=a9 h
 have st:=sA.take (i+1)
 rw [et] at st
 have st':=a_.mp st
 refine ⟨?_,BW.mpr ⟨fun y hy=>M.la x (by rw [et];simp) y hy,M.so⟩,fun y hy z hz=>?_,fun y hy z hz=>?_,by have:=M.hi;omega,M.hj⟩
 ·rw [bP h,List.cons_append]
  exact M.pm.cons x
 ·rcases Ae.mp hz with rfl | hz
  ·exact st'.2.2 y hy _ (by simp)
  ·exact M.la y (by rw [et];exact Aj _ hy) z hz
 ·rcases Ae.mp hz with rfl | hz
  ·exact hx y hy _ (by simp)
  ·exact M.lb y hy z hz
theorem Mh.pushB {A B R:List Keyed}{i j:Nat}(M:Mh κ A B R i (j+1))(sB:Srt κ B){x:Keyed}(h:B[j]? = some x)(hx:Lel κ (A.take i) [x]):Mh κ A B (x::R) i j:=by
 have et:=a9 h
 have st:=sB.take (j+1)
 rw [et] at st
 have st':=a_.mp st
 refine ⟨?_,BW.mpr ⟨fun y hy=>M.lb x (by rw [et];simp) y hy,M.so⟩,fun y hy z hz=>?_,fun y hy z hz=>?_,M.hi,by have:=M.hj;omega⟩
 ·rw [bP h]
  exact (M.pm.cons x).trans List.perm_middle.symm
 ·rcases Ae.mp hz with rfl | hz
  ·exact hx y hy _ (by simp)
  ·exact M.la y hy z hz
 ·rcases Ae.mp hz with rfl | hz
  ·exact st'.2.2 y hy _ (by simp)
  ·exact M.lb y (by rw [et];exact Aj _ hy) z hz
theorem Mh.pushAs {A B R:List Keyed}{t j:Nat}(sA:Srt κ A):∀ k,Mh κ A B R (t+k) j→Lel κ (B.take j) ((A.drop t).take k)→Mh κ A B ((A.drop t).take k++R) t j
 | 0,M,_=>by simpa using M
 | k+1,M,hl=>by
  have EH:t+k < A.length:=by have:=M.hi;omega
  have e:(A.drop t)[k]? = some A[t+k]:=by rw [AN,fu EH]
  have et:(A.drop t).take (k+1)=(A.drop t).take k++[A[t+k]]:=a9 e
  rw [et] at hl ⊢
  have M1:Mh κ A B (A[t+k]::R) (t+k) j:=Mh.pushA M sA (fu EH) fun y hy z hz=>hl y hy z (z6 _ hz)
  have:=Mh.pushAs sA k M1 fun y hy z hz=>hl y hy z (Aj _ hz)
  rw [zR]
  exact this
theorem Mh.pushBs {A B R:List Keyed}{t i:Nat}(sB:Srt κ B):∀ k,Mh κ A B R i (t+k)→Lel κ (A.take i) ((B.drop t).take k)→Mh κ A B ((B.drop t).take k++R) i t
 | 0,M,_=>by simpa using M
 | k+1,M,hl=>by
  have EH:t+k < B.length:=by have:=M.hj;omega
  have e:(B.drop t)[k]? = some B[t+k]:=by rw [AN,fu EH]
  have et:(B.drop t).take (k+1)=(B.drop t).take k++[B[t+k]]:=a9 e
  rw [et] at hl ⊢
  have M1:Mh κ A B (B[t+k]::R) i (t+k):=Mh.pushB M sB (fu EH) fun y hy z hz=>hl y hy z (z6 _ hz)
  have:=Mh.pushBs sB k M1 fun y hy z hz=>hl y hy z (Aj _ hz)
  rw [zR]
  exact this
theorem Mh.perm {A B R:List Keyed}{i j:Nat}(M:Mh κ A B R i j):(A.take i++B.take j++R).Perm (A++B):=by
 have h1:(A.take i++B.take j++R).Perm (A.take i++B.take j++(A.drop i++B.drop j)):=M.pm.append_left _
 refine h1.trans ?_
 have h2:((A.take i++B.take j)++(A.drop i++B.drop j)).Perm ((A.take i++A.drop i)++(B.take j++B.drop j)):=by
  rw [zR,zR]
  refine Bh _ ?_
  rw [← zR,← zR]
  exact Cv _ A8
 rw [Ak,Ak] at h2
 exact h2
theorem Mh.done {A B R:List Keyed}{i j:Nat}(M:Mh κ A B R i j)(sA:Srt κ A)(sB:Srt κ B)(h:i=0 ∨ j=0):Mg κ A B (A.take i++B.take j++R):=by
 refine ⟨M.perm,a_.mpr ⟨a_.mpr ⟨sA.take i,sB.take j,fun x hx y hy=>?_⟩,M.so,fun o ho y hy=>?_⟩⟩
 ·rcases h with h | h
  ·subst h;simp at hx
  ·subst h;simp at hy
 ·rcases z3.mp ho with ho | ho
  ·exact M.la o ho y hy
  ·exact M.lb o ho y hy
theorem Mh.first {A B R:List Keyed}{i j:Nat}(M:Mh κ A B R i j)(sA:Srt κ A)(sB:Srt κ B)(h:j=1)(hf:∀ z,B[0]? = some z→Lel κ [z] A):Mg κ A B (B.take j++A.take i++R):=by
 refine ⟨List.Perm.trans (Cv _ A8) M.perm,a_.mpr ⟨a_.mpr ⟨sB.take j,sA.take i,fun x hx y hy=>?_⟩,M.so,fun o ho y hy=>?_⟩⟩
 ·subst h
  cases B with
  | nil=>simp at hx
  | cons z B =>
   have hx:x=z:=by simpa using hx
   subst hx
   exact hf x rfl x (by simp) y (A3 hy)
 ·rcases z3.mp ho with ho | ho
  ·exact M.lb o ho y hy
  ·exact M.la o ho y hy
theorem pI (a b o:Array Keyed)(i j:Nat):(hDn a b o i j).toList=a.toList.take i++b.toList.take j++o.toList.reverse:=by
 simp [hDn,A0]
theorem pJ (a b o:Array Keyed)(i j:Nat):(hFb a b o i j).toList=b.toList.take j++a.toList.take i++o.toList.reverse:=by
 simp [hFb,A0]
theorem mP (a:Array Keyed)(t i:Nat):((a.extract t i).reverse).toList.reverse=(a.toList.drop t).take (i - t):=by
 simp [A0]
section
variable {prog:Program} {w:World} {A:Around} {E:Value→Shared→Prop} {s:Shared}
theorem jP {st:SortSt}{lf:Bool}{key:Keyed}{arr:Array Keyed}{n:Nat}{Q:Option Nat→SortSt→Prop}(hO:Lt1 κ prog w A s kd)(hB:TB kd st)(hk:Gd κ key)(hg:∀ x∈arr.toList,Gd κ x)(sa:Srt κ arr.toList)(hn:0 < n)(hna:n≤arr.size)
  (hq:∀ k,k≤n→(∀ x∈arr.toList.take k,bdB κ lf (kof κ key) (kof κ x)=true)→(∀ x∈(arr.toList.drop k).take (n - k),bdB κ lf (kof κ key) (kof κ x)=false)→Q (some k) st) :
  wpS (model prog w) A E s (gal lf key arr 0 n (n - 1)) Q st:=by
 have hl:arr.toList.length=arr.size:=zL
 refine i5 hO hB hk (fun t=>match arr.toList[t]? with | some p=>bdB κ lf (kof κ key) (kof κ p) | none=>false) (by omega) (fun t ht=>?_) (fun t u htu hu hb=>?_) (fun k hk' h1 h2=>hq k (by omega) (fun x hx=>?_) fun x hx=>?_)
 ·have EH:t < arr.toList.length:=by omega
  have e:=fu EH
  refine ⟨arr.toList[t],by rw [D7];simpa using e,hg _ (AD EH),?_⟩
  rw [e]
 ·have h1:t < arr.toList.length:=by omega
  have h2:u < arr.toList.length:=by omega
  have e1:=fu h1
  have e2:=fu h2
  rw [e2] at hb
  rw [e1]
  exact jN (sa.at (by omega) e1 e2) hb
 ·obtain ⟨t,e⟩:=A2 hx
  have ht:t < k:=by
   have:=(zN.mp e).1
   rw [z9] at this
   omega
  rw [Cq,if_pos ht] at e
  have:=h1 t ht
  rw [e] at this
  exact this
 ·obtain ⟨t,e⟩:=A2 hx
  have ht:t < n - k:=by
   have:=(zN.mp e).1
   rw [z9] at this
   omega
  rw [Cq,if_pos ht,AN] at e
  have:=h2 (k+t) (by omega) (by omega)
  rw [e] at this
  exact this
theorem gF {l:List Keyed}(sl:Srt κ l){i:Nat}{x y:Keyed}(e:l[i]? = some y)(h:lek κ y x):Lel κ (l.take (i+1)) [x]:=fun z hz t ht=>by
 rw [zJ] at ht
 subst ht
 rw [a9 e] at hz
 rcases z3.mp hz with hz | hz
 ·have st:=sl.take (i+1)
  rw [a9 e] at st
  exact dH ((a_.mp st).2.2 z hz y (by simp)) h
 ·rw [zJ] at hz
  subst hz
  exact h
structure kO (κ:KeyKind) (a b:Array Keyed):Prop where
 ga:∀ x∈a.toList,Gd κ x
 gb:∀ x∈b.toList,Gd κ x
 sa:Srt κ a.toList
 sb:Srt κ b.toList
 hf:∀ z,b.toList[0]? = some z→Lel κ [z] a.toList
theorem kO.atA {a b:Array Keyed}(T:kO κ a b){i:Nat}(hi:i < a.size):∃ x,a.toList[i]? = some x∧Gd κ x:=⟨a.toList[i]'(by rw [zL]; exact hi),fu (by rw [zL]; exact hi),T.ga _ (AD _)⟩
theorem kO.atB {a b:Array Keyed}(T:kO κ a b){i:Nat}(hi:i < b.size):∃ x,b.toList[i]? = some x∧Gd κ x:=⟨b.toList[i]'(by rw [zL]; exact hi),fu (by rw [zL]; exact hi),T.gb _ (AD _)⟩
theorem kO.dn {a b:Array Keyed}(T:kO κ a b){o:Array Keyed}{i j:Nat}(M:Mh κ a.toList b.toList o.toList.reverse i j)(h:i=0 ∨ j=0):Mg κ a.toList b.toList (hDn a b o i j).toList:=by
 rw [pI]
 exact M.done T.sa T.sb h
theorem kO.fb {a b:Array Keyed}(T:kO κ a b){o:Array Keyed}{i j:Nat}(M:Mh κ a.toList b.toList o.toList.reverse i j)(h:j=1):Mg κ a.toList b.toList (hFb a b o i j).toList:=by
 rw [pJ]
 exact M.first T.sa T.sb h T.hf
theorem eI (o:Array Keyed)(x:Keyed):(o.push x).toList.reverse=x::o.toList.reverse:=by simp
theorem mQ (o:Array Keyed)(a:Array Keyed)(t i:Nat):(o++(a.extract t i).reverse).toList.reverse=(a.toList.drop t).take (i - t)++o.toList.reverse:=by
 rw [C5,List.reverse_append,mP]
abbrev HSt:=Option (Array Keyed) × Nat × Nat × Array Keyed × Nat × Nat × Nat
def hq3 (a b:Array Keyed)(i g p q j:Nat)(o:Array Keyed):StateT SortSt Sem (ForInStep HSt):=do
 let e ← elem' a (i - 1)
 if (i - 1 == 0)=true then pure (.done (some (hDn a b (o.push e) (i - 1) j),i - 1,j,o.push e,g,p,q))
 else if (decide (p < 7) && decide (q < 7))=true then pure (.done (none,i - 1,j,o.push e,g,p,q)) else pure (.yield (none,i - 1,j,o.push e,g,p,q))
def hq2 (a b:Array Keyed)(j g p q i:Nat)(o:Array Keyed):StateT SortSt Sem (ForInStep HSt):=do
 let e ← elem' b (j - 1)
 if (j - 1 == 1)=true then pure (.done (some (hFb a b (o.push e) i (j - 1)),i,j - 1,o.push e,g,p,q))
 else do
  let f ← elem' a (i - 1)
  let y ← gal true f b 0 (j - 1) (j - 1 - 1)
  match y with
  | some t=>if j - 1 - t > 0 then (if (t == 1)=true then pure (.done (some (hFb a b (o.push e++(b.extract t (j - 1)).reverse) i t),i,t,o.push e++(b.extract t (j - 1)).reverse,g,p,j - 1 - t)) else if (t == 0)=true then pure (.done (some (hDn a b (o.push e++(b.extract t (j - 1)).reverse) i t),i,t,o.push e++(b.extract t (j - 1)).reverse,g,p,j - 1 - t)) else hq3 a b i g p (j - 1 - t) t (o.push e++(b.extract t (j - 1)).reverse)) else hq3 a b i g p (j - 1 - t) (j - 1) (o.push e)
  | _=>pure (.done (some (hDn a b (o.push e) i (j - 1)),i,j - 1,o.push e,g,p,q))
def hq1 (a b:Array Keyed)(i j:Nat)(o:Array Keyed)(p q g:Nat):StateT SortSt Sem (ForInStep HSt):=do
 smg g
 let e ← elem' b (j - 1)
 let y ← gal false e a 0 i (i - 1)
 match y with
 | some t=>if i - t > 0 then (if (t == 0)=true then pure (.done (some (hDn a b (o++(a.extract t i).reverse) t j),t,j,o++(a.extract t i).reverse,g,i - t,q)) else hq2 a b j g (i - t) q t (o++(a.extract t i).reverse)) else hq2 a b j g (i - t) q i o
 | _=>pure (.done (some (hDn a b o i j),i,j,o,g,p,q))
def Hst (κ:KeyKind)(a b:Array Keyed)(x:Nat)(st:SortSt)(r:ForInStep HSt)(st':SortSt):Prop:=match r with
 | .done c=>((∃ r z,c=(some r,z)∧Mg κ a.toList b.toList r.toList) ∨ ∃ i j o g p q,c=(none,i,j,o,g,p,q)∧Mh κ a.toList b.toList o.toList.reverse i j∧0 < i∧1 < j∧x+2+i+j≤a.size+b.size)∧Ok kd st st'
 | .yield c=>∃ i j o g p q,c=(none,i,j,o,g,p,q)∧Mh κ a.toList b.toList o.toList.reverse i j∧0 < i∧1 < j∧x+2+i+j≤a.size+b.size∧Ok kd st st'
theorem mR {st st':SortSt}{a b o:Array Keyed}{i j g p q x:Nat}{xa:Keyed}(T:kO κ a b)(M:Mh κ a.toList b.toList o.toList.reverse i j)(hi:0 < i)(hj:1 < j)(hx:x+2+i+j≤a.size+b.size)(ok:Ok kd st st')(EY:a.toList[i - 1]? = some xa)(hle:Lel κ (b.toList.take j) [xa]) :
  wpS (model prog w) A E s (hq3 a b i g p q j o) (Hst (kd:=kd) κ a b x st) st':=by
 unfold hq3
 refine zW (aN EY ?_)
 have M':Mh κ a.toList b.toList (o.push xa).toList.reverse (i - 1) j:=by
  rw [eI]
  exact Mh.pushA (by rw [show i - 1+1=i by omega];exact M) T.sa EY hle
 by_cases h0:i - 1=0
 ·refine ao (by simpa using h0) ?_
  exact zZ ⟨.inl ⟨_,_,rfl,T.dn M' (.inl h0)⟩,ok⟩
 ·refine aq (by simpa using h0) ?_
  by_cases hpq:(decide (p < 7) && decide (q < 7))=true
  ·refine ao hpq ?_
   exact zZ ⟨.inr ⟨_,_,_,_,_,_,rfl,M',by omega,hj,by omega⟩,ok⟩
  ·refine aq hpq ?_
   exact zZ ⟨_,_,_,_,_,_,rfl,M',by omega,hj,by omega,ok⟩
theorem mS {st st':SortSt}{a b o:Array Keyed}{i j g p q x:Nat}{xb:Keyed}(hO:Lt1 κ prog w A s kd)(T:kO κ a b)(M:Mh κ a.toList b.toList o.toList.reverse i j)(hi:0 < i)(hj:1 < j)(hx:x+2+i+j≤a.size+b.size)(ok:Ok kd st st')(EX:b.toList[j - 1]? = some xb)(hle:Lel κ (a.toList.take i) [xb]) :
  wpS (model prog w) A E s (hq2 a b j g p q i o) (Hst (kd:=kd) κ a b x st) st':=by
 have la:a.toList.length=a.size:=zL
 have lb:b.toList.length=b.size:=zL
 have hia:=M.hi
 have hjb:=M.hj
 unfold hq2
 refine zW (aN EX ?_)
 have M':Mh κ a.toList b.toList (o.push xb).toList.reverse i (j - 1):=by
  rw [eI]
  exact Mh.pushB (by rw [show j - 1+1=j by omega];exact M) T.sb EX hle
 by_cases h1:j - 1=1
 ·refine ao (by simpa using h1) ?_
  exact zZ ⟨.inl ⟨_,_,rfl,T.fb M' h1⟩,ok⟩
 refine aq (by simpa using h1) ?_
 obtain ⟨xa,EY,gxa⟩:=T.atA (i:=i - 1) (by omega)
 refine zW (aN EY (zW (jP hO ok.tb gxa T.gb T.sb (by omega) (by omega) fun t ht t1 t2=>?_)))
 dsimp only
 have up:Lel κ (b.toList.take t) [xa]:=fun z hz y hy=>by
  rw [zJ] at hy
  subst hy
  exact i6 (t1 z hz)
 have MB:Mh κ a.toList b.toList ((b.toList.drop t).take (j - 1 - t)++(o.push xb).toList.reverse) i t:=Mh.pushBs T.sb (j - 1 - t) (by rw [show t+(j - 1 - t)=j - 1 by omega];exact M') fun y hy z hz=>by
  have:=gF T.sa EY (gE (t2 z hz))
  rw [show i - 1+1=i by omega] at this
  exact this y hy z (by simp)
 by_cases hk0:j - 1 - t > 0
 ·refine ao hk0 ?_
  have MB':Mh κ a.toList b.toList (o.push xb++(b.extract t (j - 1)).reverse).toList.reverse i t:=by rw [mQ];exact MB
  by_cases ht1:t=1
  ·refine ao (by simpa using ht1) ?_
   exact zZ ⟨.inl ⟨_,_,rfl,T.fb MB' ht1⟩,ok⟩
  ·refine aq (by simpa using ht1) ?_
   by_cases ht0:t=0
   ·refine ao (by simpa using ht0) ?_
    exact zZ ⟨.inl ⟨_,_,rfl,T.dn MB' (.inr ht0)⟩,ok⟩
   ·refine aq (by simpa using ht0) ?_
    exact mR T MB' hi (by omega) (by omega) ok EY up
 ·refine aq hk0 ?_
  have:t=j - 1:=by omega
  subst this
  exact mR T M' hi (by omega) (by omega) ok EY up
theorem mT {st st':SortSt}{a b o:Array Keyed}{i j g p q x:Nat}(hO:Lt1 κ prog w A s kd)(T:kO κ a b)(M:Mh κ a.toList b.toList o.toList.reverse i j)(hi:0 < i)(hj:1 < j)(hx:x+2+i+j≤a.size+b.size)(ok:Ok kd st st') :
  wpS (model prog w) A E s (hq1 a b i j o p q g) (Hst (kd:=kd) κ a b x st) st':=by
 have la:a.toList.length=a.size:=zL
 have lb:b.toList.length=b.size:=zL
 have hia:=M.hi
 have hjb:=M.hj
 unfold hq1
 refine zW (gD ok fun st3 ok3=>?_)
 obtain ⟨xb,EX,gxb⟩:=T.atB (i:=j - 1) (by omega)
 refine zW (aN EX (zW (jP hO ok3.tb gxb T.ga T.sa hi (by omega) fun t ht t1 t2=>?_)))
 dsimp only
 have up:Lel κ (a.toList.take t) [xb]:=fun z hz y hy=>by
  rw [zJ] at hy
  subst hy
  exact eF (t1 z hz)
 have MA:Mh κ a.toList b.toList ((a.toList.drop t).take (i - t)++o.toList.reverse) t j:=Mh.pushAs T.sa (i - t) (by rw [show t+(i - t)=i by omega];exact M) fun y hy z hz=>by
  have:=gF T.sb EX (eZ (t2 z hz))
  rw [show j - 1+1=j by omega] at this
  exact this y hy z (by simp)
 by_cases hk0:i - t > 0
 ·refine ao hk0 ?_
  have MA':Mh κ a.toList b.toList (o++(a.extract t i).reverse).toList.reverse t j:=by rw [mQ];exact MA
  by_cases ht0:t=0
  ·refine ao (by simpa using ht0) ?_
   exact zZ ⟨.inl ⟨_,_,rfl,T.dn MA' (.inl ht0)⟩,ok3⟩
  ·refine aq (by simpa using ht0) ?_
   exact mS hO T MA' (by omega) hj (by omega) ok3 EX up
 ·refine aq hk0 ?_
  have:t=i:=by omega
  subst this
  exact mS hO T M hi hj hx ok3 EX up
abbrev H6:=Option (Array Keyed) × Nat × Nat × Array Keyed × Nat × Nat
abbrev H5:=Option (Array Keyed) × Nat × Nat × Array Keyed × Nat
def hB1 (a b:Array Keyed)(g:Nat):H6→TS (ForInStep H6):=fun (_,i,j,o,p,q)=>do
 let y ← elem' b (j - 1)
 let x ← elem' a (i - 1)
 let w ← lt' y x
 match w with
 | some w =>
  if w=true then do
   let e ← elem' a (i - 1)
   if (i - 1 == 0)=true then pure (.done (some (hDn a b (o.push e) (i - 1) j),i - 1,j,o.push e,p+1,0))
   else if p+1≥g then pure (.done (none,i - 1,j,o.push e,p+1,0)) else pure (.yield (none,i - 1,j,o.push e,p+1,0))
  else do
   let e ← elem' b (j - 1)
   if (j - 1 == 1)=true then pure (.done (some (hFb a b (o.push e) i (j - 1)),i,j - 1,o.push e,0,q+1))
   else if q+1≥g then pure (.done (none,i,j - 1,o.push e,0,q+1)) else pure (.yield (none,i,j - 1,o.push e,0,q+1))
 | _=>pure (.done (some (hDn a b o i j),i,j,o,p,q))
def hB3 (a b:Array Keyed):HSt→TS (ForInStep HSt):=fun (_,i,j,o,g,p,q)=>if g > 1 then hq1 a b i j o p q (g - 1) else hq1 a b i j o p q g
def hB2 (a b:Array Keyed)(g:Nat):H6→TS (ForInStep H5)
 | (some r,i,j,o,_)=>pure (.done (some r,i,j,o,g))
 | (none,i,j,o,p,q)=>do
  rule "list.sort.gallop"
  match ← forIn [0:a.size+b.size] ((none,i,j,o,g+1,p,q):HSt) fun _ d=>hB3 a b d with
  | (some r,i,j,o,g,_)=>pure (.done (some r,i,j,o,g))
  | (none,i,j,o,g,_)=>do
   smg (g+1)
   pure (.yield (none,i,j,o,g+1))
def hB0 (a b:Array Keyed):H5→TS (ForInStep H5):=fun (_,i,j,o,g)=>do
 let d ← forIn [0:a.size+b.size] ((none,i,j,o,0,0):H6) fun _ d=>hB1 a b g d
 hB2 a b g d
theorem sH (a b:Array Keyed):mhi a b=(do
 rule "list.sort.merge-hi"
 let e ← elem' a (a.size - 1)
 if (a.size - 1 == 0)=true then pure (hDn a b #[e] (a.size - 1) b.size)
 else if (b.size == 1)=true then pure (hFb a b #[e] (a.size - 1) b.size)
 else do
  let st ← get
  let c ← forIn [0:a.size+b.size] ((none,a.size - 1,b.size,#[e],gallopOf st):H5) fun _ c=>hB0 a b c
  mBe c):=by
 rw [vq]
 refine Af (bind _) (funext fun u=>Af (bind _) (funext fun e=>Af (ite _ _) (Af (ite _ _) (Af (bind _) (funext fun st=>?_)))))
 refine congr (Af bind (Af (forIn _ _) (funext fun x=>funext fun c=>?_))) (funext fun c=>?_)
 ·refine congr (Af bind (Af (forIn _ _) (funext fun y=>funext fun d=>rfl))) (funext fun d=>?_)
  rcases d with ⟨_ | r,d⟩
  ·refine Af (bind _) (funext fun u=>?_)
   refine congr (Af bind (Af (forIn _ _) (funext fun y=>funext fun d=>rfl))) (funext fun d=>?_)
   rcases d with ⟨_ | r,d⟩ <;> rfl
  ·rfl
 ·rcases c with ⟨_ | r,c⟩ <;> rfl
theorem sI {st:SortSt}{a b:Array Keyed}{Q:Array Keyed→SortSt→Prop}(hO:Lt1 κ prog w A s kd)(hB:TB kd st)(T:kO κ a b)(h0:0 < a.size)(h1:0 < b.size)
  (hl:∀ z,a.toList[a.size - 1]? = some z→Lel κ b.toList [z])
  (hq:∀ r st',Ok kd st st'→Mg κ a.toList b.toList r.toList→Q r st'):wpS (model prog w) A E s (mhi a b) Q st:=by
 have la:a.toList.length=a.size:=zL
 have lb:b.toList.length=b.size:=zL
 rw [sH]
 refine zW (DW (BU ⟨rfl,?_⟩))
 obtain ⟨z0,ez0,gz0⟩:=T.atA (i:=a.size - 1) (by omega)
 refine zW (aN ez0 ?_)
 have M0:Mh κ a.toList b.toList (#[z0]:Array Keyed).toList.reverse (a.size - 1) b.size:=by
  have:Mh κ a.toList b.toList [z0] (a.size - 1) b.size:=Mh.pushA (R:=[]) (by
   rw [show a.size - 1+1=a.size by omega]
   refine ⟨?_,.nil,(fun x hx y hy=>by cases hy),(fun x hx y hy=>by cases hy),by omega,by omega⟩
   rw [BV (by omega),BV (by omega)]
   exact B8 _) T.sa ez0 (by rw [AB (by omega)];exact hl _ ez0)
  exact this
 by_cases ha1:a.size - 1=0
 ·refine ao (by simpa using ha1) ?_
  exact zZ (hq _ _ (.refl hB) (T.dn M0 (.inl ha1)))
 refine aq (by simpa using ha1) ?_
 by_cases hb1:b.size=1
 ·refine ao (by simpa using hb1) ?_
  exact zZ (hq _ _ (.refl hB) (T.fb M0 hb1))
 refine aq (by simpa using hb1) ?_
 refine zW (C4 ?_)
 refine zW (Bp (AQ (I:=fun x c st'=>∃ i j o g,c=(none,i,j,o,g)∧Mh κ a.toList b.toList o.toList.reverse i j∧0 < i∧1 < j∧x+1+i+j≤a.size+b.size∧Ok kd st st')
  (Q:=fun c st'=>∃ r z,c=(some r,z)∧Mg κ a.toList b.toList r.toList∧Ok kd st st') ?step ?fin ⟨_,_,_,_,rfl,M0,by omega,by omega,by omega,.refl hB⟩) ?post)
 case post =>
  rintro c st' ⟨r,z,rfl,m,ok⟩
  unfold mBe
  exact zZ (hq _ _ ok m)
 case fin =>
  rintro c st' ⟨i,j,o,g,rfl,M,hi,hj,hx,ok⟩
  omega
 case step =>
  rintro x c st1 _ hx ⟨i,j,o,g,rfl,M,hi,hj,EK,ok1⟩
  unfold hB0
  dsimp only
  refine zW (Bp (AQ (I:=fun y c st'=>st'=st1∧∃ i j o p q,c=(none,i,j,o,p,q)∧Mh κ a.toList b.toList o.toList.reverse i j∧0 < i∧1 < j∧x+1+y+i+j≤a.size+b.size)
   (Q:=fun c st'=>st'=st1∧((∃ r z,c=(some r,z)∧Mg κ a.toList b.toList r.toList) ∨ ∃ i j o p q,c=(none,i,j,o,p,q)∧Mh κ a.toList b.toList o.toList.reverse i j∧0 < i∧1 < j∧x+2+i+j≤a.size+b.size)) ?step1 ?fin1 ⟨rfl,i,j,o,0,0,rfl,M,hi,hj,by omega⟩) ?post1)
  case fin1 =>
   rintro c st' ⟨rfl,i,j,o,p,q,rfl,M,hi,hj,hy⟩
   exact ⟨rfl,.inr ⟨i,j,o,p,q,rfl,M,hi,hj,by omega⟩⟩
  case step1 =>
   rintro y c st' _ hy ⟨rfl,i,j,o,p,q,rfl,M,hi,hj,EK⟩
   unfold hB1
   dsimp only
   have hia:=M.hi
   have hjb:=M.hj
   obtain ⟨xb,EX,gxb⟩:=T.atB (i:=j - 1) (by omega)
   obtain ⟨xa,EY,gxa⟩:=T.atA (i:=i - 1) (by omega)
   refine zW (aN EX (zW (aN EY (zW (ix hO ok1.tb gxb gxa ?_)))))
   cases eb:κ.blt (kof κ xb) (kof κ xa) with
   | true =>
    simp only [BI]
    refine zW (aN EY ?_)
    have M':Mh κ a.toList b.toList (o.push xa).toList.reverse (i - 1) j:=by
     rw [eI]
     refine Mh.pushA (by rw [show i - 1+1=i by omega];exact M) T.sa EY ?_
     have:=gF T.sb EX (pH eb)
     rwa [show j - 1+1=j by omega] at this
    by_cases hi0:i - 1=0
    ·refine ao (by simpa using hi0) ?_
     exact zZ ⟨rfl,.inl ⟨_,_,rfl,T.dn M' (.inl hi0)⟩⟩
    ·refine aq (by simpa using hi0) ?_
     by_cases hpg:p+1≥g
     ·refine ao hpg ?_
      exact zZ ⟨rfl,.inr ⟨_,_,_,_,_,rfl,M',by omega,hj,by omega⟩⟩
     ·refine aq hpg ?_
      exact zZ ⟨rfl,_,_,_,_,_,rfl,M',by omega,hj,by omega⟩
   | false =>
    simp only [Ac,A6]
    refine zW (aN EX ?_)
    have M':Mh κ a.toList b.toList (o.push xb).toList.reverse i (j - 1):=by
     rw [eI]
     refine Mh.pushB (by rw [show j - 1+1=j by omega];exact M) T.sb EX ?_
     have:=gF T.sa EY (not_lt eb)
     rwa [show i - 1+1=i by omega] at this
    by_cases hj1:j - 1=1
    ·refine ao (by simpa using hj1) ?_
     exact zZ ⟨rfl,.inl ⟨_,_,rfl,T.fb M' hj1⟩⟩
    ·refine aq (by simpa using hj1) ?_
     by_cases hqg:q+1≥g
     ·refine ao hqg ?_
      exact zZ ⟨rfl,.inr ⟨_,_,_,_,_,rfl,M',hi,by omega,by omega⟩⟩
     ·refine aq hqg ?_
      exact zZ ⟨rfl,_,_,_,_,_,rfl,M',hi,by omega,by omega⟩
  case post1 =>
   rintro c st' ⟨rfl,⟨r,z,rfl,m⟩ | ⟨i,j,o,p,q,rfl,M,hi,hj,EK⟩⟩
   ·exact zZ ⟨r,_,rfl,m,ok1⟩
   unfold hB2
   dsimp only
   refine zW (DW (BU ⟨rfl,?_⟩))
   refine zW (Bp (AQ (I:=fun y c st'=>∃ i j o g p q,c=(none,i,j,o,g,p,q)∧Mh κ a.toList b.toList o.toList.reverse i j∧0 < i∧1 < j∧x+2+i+j≤a.size+b.size∧Ok kd st st')
    (Q:=fun c st'=>((∃ r z,c=(some r,z)∧Mg κ a.toList b.toList r.toList) ∨ ∃ i j o g p q,c=(none,i,j,o,g,p,q)∧Mh κ a.toList b.toList o.toList.reverse i j∧0 < i∧1 < j∧x+2+i+j≤a.size+b.size)∧Ok kd st st') ?step2 ?fin2 ⟨i,j,o,_,p,q,rfl,M,hi,hj,EK,ok1⟩) ?post2)
   case fin2 =>
    rintro c st' ⟨i,j,o,g,p,q,rfl,M,hi,hj,EK,ok⟩
    exact ⟨.inr ⟨i,j,o,g,p,q,rfl,M,hi,hj,EK⟩,ok⟩
   case post2 =>
    rintro c st' ⟨⟨r,z,rfl,m⟩ | ⟨i,j,o,g,p,q,rfl,M,hi,hj,EK⟩,ok⟩
    ·exact zZ ⟨r,_,rfl,m,ok⟩
    ·dsimp only
     exact zW (gD ok fun ED ok'=>zZ ⟨i,j,o,_,rfl,M,hi,hj,by omega,ok'⟩)
   case step2 =>
    rintro y c E1 _ hy ⟨i,j,o,g,p,q,rfl,M,hi,hj,EK,ok2⟩
    change wpS _ _ _ _ (if g > 1 then hq1 a b i j o p q (g - 1) else hq1 a b i j o p q g) _ _
    refine Bp (Q:=Hst (kd:=kd) κ a b x st) ?_ fun r st' h=>?_
    rotate_left
    ·cases r with
     | done c=>exact h
     | yield c=>exact h
    by_cases hg:g > 1
    ·refine ao hg ?_
     exact mT hO T M hi hj EK ok2
    ·refine aq hg ?_
     exact mT hO T M hi hj EK ok2
end
end Tv
namespace Tv
open PySem PyProof.Rows
variable {κ:KeyKind} {kd:SortKind}
def SrI (κ:KeyKind)(xs:Array Keyed)(lo hi:Nat):Prop:=∀ i j,lo≤i→i≤j→j < hi→κ.kle (KK κ xs i) (KK κ xs j)
def NiI (κ:KeyKind)(xs:Array Keyed)(lo hi:Nat):Prop:=∀ i j,lo≤i→i≤j→j < hi→κ.kle (KK κ xs j) (KK κ xs i)
structure Rp (lo hi:Nat) (xs ys:Array Keyed):Prop where
 pm:ys.Perm xs
 out:∀ k,(k < lo ∨ hi≤k)→ys[k]? = xs[k]?
theorem Rp.refl (lo hi:Nat)(xs:Array Keyed):Rp lo hi xs xs:=⟨DU _,fun _ _=>rfl⟩
theorem Rp.trans {lo hi:Nat}{xs ys zs:Array Keyed}(h:Rp lo hi xs ys)(g:Rp lo hi ys zs):Rp lo hi xs zs:=⟨g.pm.trans h.pm,fun k hk=>(g.out k hk).trans (h.out k hk)⟩
theorem Rp.size {lo hi:Nat}{xs ys:Array Keyed}(h:Rp lo hi xs ys):ys.size=xs.size:=h.pm.size_eq
theorem Rp.mirror {lo hi i j:Nat}{xs:Array Keyed}(h1:lo≤i)(h2:j≤hi)(hj:j≤xs.size):Rp lo hi xs (mirror xs i j ((j - i) / 2)):=by
 refine ⟨mirror_perm _ _ _ _,fun k hk=>?_⟩
 rw [getElem?_mirror_all hj,if_neg (by omega)]
theorem Rp.bubble {lo hi src d:Nat}{xs:Array Keyed}(h1:lo+d≤src)(h2:src < hi)(hs:src < xs.size):Rp lo hi xs (bubble xs src d):=by
 refine ⟨bubble_perm _ _ _,fun k hk=>?_⟩
 rw [getElem?_bubble hs d (by omega),if_neg (by omega),if_neg (by omega)]
structure Rs (kd:SortKind) (κ:KeyKind) (lo hi:Nat) (st st':SortSt):Prop where
 tb:TB kd st'
 pd:pendingOf st'=pendingOf st
 gd:∀ x∈(arrOf st').toList,Gd κ x
 rp:Rp lo hi (arrOf st) (arrOf st')
theorem Rs.refl {lo hi:Nat}{st:SortSt}(h:TB kd st)(g:∀ x∈(arrOf st).toList,Gd κ x):Rs kd κ lo hi st st:=⟨h,rfl,g,.refl _ _ _⟩
theorem Rs.arr {lo hi:Nat}{st st':SortSt}(h:Rs kd κ lo hi st st'){ys:Array Keyed}(r:Rp lo hi (arrOf st') ys):Rs kd κ lo hi st (setArr st' ys) :=
 ⟨⟨h.tb.kind,h.tb.failed⟩,h.pd,fun x hx=>h.gd x ((BA.mp r.pm).mem_iff.mp hx),h.rp.trans r⟩
theorem vr {xs:Array Keyed}(g:∀ x∈xs.toList,Gd κ x){i:Nat}(hi:i < xs.size):∃ x p,xs[i]? = some (x,p)∧κ.keyOf x=some (KK κ xs i):=by
 have e:xs[i]? = some xs[i]:=D8 xs i hi
 refine ⟨xs[i].1,xs[i].2,e,?_⟩
 have:=(g xs[i] (by simp)).eq
 rw [this]
 unfold KK kof
 rw [e]
section
variable {prog:Program} {w:World} {A:Around} {E:Value→Shared→Prop} {s:Shared}
theorem dX {st:SortSt}{i j:Nat}{Q:Option Bool→SortSt→Prop}(hO:Lt1 κ prog w A s kd)(hB:TB kd st)(g:∀ x∈(arrOf st).toList,Gd κ x)(hi:i < (arrOf st).size)(hj:j < (arrOf st).size)
  (h:Q (some (κ.blt (KK κ (arrOf st) i) (KK κ (arrOf st) j))) st):wpS (model prog w) A E s (ltAt' i j) Q st:=by
 obtain ⟨x,p,e1,k1⟩:=vr g hi
 obtain ⟨y,q,e2,k2⟩:=vr g hj
 have hx:Gd κ (x,p):=⟨_,k1⟩
 have hy:Gd κ (y,q):=⟨_,k2⟩
 rw [ltAt'_eq]
 refine zW (C4 ?_)
 show wpS _ _ _ _ (do let x ← elem' (arrOf st) i;let y ← elem' (arrOf st) j;lt' x y) Q st
 rw [elem'_eq,elem'_eq,e1,e2]
 refine zW (zZ (zW (zZ (ix hO hB hx hy ?_))))
 have a1:kof κ (x,p)=_:=zP (hx.eq.symm.trans k1)
 have a2:kof κ (y,q)=_:=zP (hy.eq.symm.trans k2)
 rw [a1,a2]
 exact h
def xM (lo a nr:Nat):StateT SortSt Sem (Option Nat):=do
 let mut n:=a
 for _ in [a:nr] do
  let some sm ← ltAt' (lo+n) (lo+n - 1) | return none
  if sm then break
  n:=n+1
 return some n
def sJ (lo a nr:Nat):StateT SortSt Sem (Option Nat):=do
 reverseSlice' lo (lo+a)
 xM lo a nr
def xN (lo a nr:Nat):StateT SortSt Sem (Option Nat):=do
 rule "list.sort.descending-run"
 let mut n:=a+1
 let mut e:=0
 for _ in [a+1:nr] do
  let some sm ← ltAt' (lo+n) (lo+n - 1) | return none
  if sm then
   if e > 0 then reverseSlice' (lo+n - (e+1)) (lo+n)
   e:=0
  else
   let some lg ← ltAt' (lo+n - 1) (lo+n) | return none
   if lg then break
   e:=e+1
  n:=n+1
 if e > 0 then reverseSlice' (lo+n - (e+1)) (lo+n)
 sJ lo n nr
theorem mU {xs:Array Keyed}{lo x:Nat}(a1:SrI κ xs lo (lo+x))(h1:1≤x)(e:κ.blt (KK κ xs (lo+x)) (KK κ xs (lo+x - 1))=false):SrI κ xs lo (lo+(x+1)):=fun i j hi EK hj=>by
 by_cases q:j < lo+x
 ·exact a1 i j hi EK q
 ·have:j=lo+x:=by omega
  subst this
  by_cases q2:i=lo+x
  ·subst q2;exact A5 _
  ·exact BO (a1 i (lo+x - 1) hi (by omega) (by omega)) e
theorem pK {st:SortSt}{lo a nr:Nat}{Q:Option Nat→SortSt→Prop}(hO:Lt1 κ prog w A s kd)(hB:TB kd st)(g:∀ x∈(arrOf st).toList,Gd κ x)(h1:1≤a)(h2:a≤nr)(h3:lo+nr≤(arrOf st).size)(hs:SrI κ (arrOf st) lo (lo+a))
  (h:∀ n,a≤n→n≤nr→SrI κ (arrOf st) lo (lo+n)→Q (some n) st):wpS (model prog w) A E s (xM lo a nr) Q st:=by
 unfold xM
 refine zW (Bp (AQ (I:=fun x c st'=>st'=st∧c=(none,x)∧SrI κ (arrOf st) lo (lo+x))
  (Q:=fun c st'=>st'=st∧∃ n,c=(none,n)∧a≤n∧n≤nr∧SrI κ (arrOf st) lo (lo+n)∧(n=nr ∨ κ.klt (KK κ (arrOf st) (lo+n)) (KK κ (arrOf st) (lo+n - 1)))) ?step ?fin ⟨rfl,rfl,hs⟩) ?post)
 case fin =>
  rintro c st' ⟨rfl,rfl,a1⟩
  have e:max a nr=nr:=by omega
  rw [e] at a1 ⊢
  exact ⟨rfl,nr,rfl,by omega,zU _,a1,.inl rfl⟩
 case step =>
  rintro x c st' hx1 hx2 ⟨rfl,rfl,a1⟩
  dsimp only
  refine zW (dX hO hB g (by omega) (by omega) ?_)
  cases e:κ.blt (KK κ (arrOf st') (lo+x)) (KK κ (arrOf st') (lo+x - 1)) with
  | true =>
   simp only [BI]
   exact zZ ⟨rfl,x,rfl,hx1,by omega,a1,.inr e⟩
  | false =>
   simp only [Ac,A6]
   exact zZ ⟨rfl,rfl,mU a1 (by omega) e⟩
 case post =>
  rintro c st' ⟨rfl,n,rfl,a1,a2,a3,a4⟩
  exact zZ (h n a1 a2 a3)
theorem iy {st st':SortSt}{lo a nr:Nat}{Q:Option Nat→SortSt→Prop}(hO:Lt1 κ prog w A s kd)(R:Rs kd κ lo (lo+nr) st st')(h1:1≤a)(h2:a≤nr)(h3:lo+nr≤(arrOf st).size)(hs:NiI κ (arrOf st') lo (lo+a))
  (h:∀ n ED,1≤n→n≤nr→Rs kd κ lo (lo+nr) st ED→SrI κ (arrOf ED) lo (lo+n)→Q (some n) ED):wpS (model prog w) A E s (sJ lo a nr) Q st':=by
 have hz:=R.rp.size
 unfold sJ
 refine zW (wpS_reverse ?_)
 have R':Rs kd κ lo (lo+nr) st (setArr st' (mirror (arrOf st') lo (lo+a) ((lo+a - lo) / 2))):=R.arr (Rp.mirror (zU _) (by omega) (by omega))
 refine pK hO R'.tb R'.gd h1 h2 (by rw [R'.rp.size];exact h3) (fun i j hi EK hj=>?_) fun n a1 a2 a3=>h n _ (by omega) a2 R' a3
 show κ.kle (KK κ (mirror (arrOf st') lo (lo+a) ((lo+a - lo) / 2)) i) (KK κ (mirror (arrOf st') lo (lo+a) ((lo+a - lo) / 2)) j)
 rw [KK_mirror (by omega),KK_mirror (by omega),if_pos (by omega),if_pos (by omega)]
 exact hs _ _ (by omega) (by omega) (by omega)
theorem jQ {st st':SortSt}{lo a nr:Nat}{Q:Option Nat→SortSt→Prop}(hO:Lt1 κ prog w A s kd)(R:Rs kd κ lo (lo+nr) st st')(h2:a+1≤nr)(h3:lo+nr≤(arrOf st).size)(hs:NiI κ (arrOf st') lo (lo+(a+1)))
  (h:∀ n ED,1≤n→n≤nr→Rs kd κ lo (lo+nr) st ED→SrI κ (arrOf ED) lo (lo+n)→Q (some n) ED):wpS (model prog w) A E s (xN lo a nr) Q st':=by
 unfold xN
 refine zW (DW (BU ⟨rfl,?_⟩))
 dsimp only
 refine zW (Bp (AQ (I:=fun x c ED=>∃ e,c=(none,x,e)∧Rs kd κ lo (lo+nr) st ED∧NiI κ (arrOf ED) lo (lo+x)∧e+1≤x∧∀ i,lo+x - (e+1)≤i→i < lo+x→KK κ (arrOf ED) i=KK κ (arrOf ED) (lo+x - 1))
  (Q:=fun c ED=>∃ x e,c=(none,x,e)∧a+1≤x∧x≤nr∧Rs kd κ lo (lo+nr) st ED∧NiI κ (arrOf ED) lo (lo+x)∧e+1≤x∧∀ i,lo+x - (e+1)≤i→i < lo+x→KK κ (arrOf ED) i=KK κ (arrOf ED) (lo+x - 1)) ?step ?fin ⟨0,rfl,R,hs,by omega,fun i h1 h2=>by congr 1;omega⟩) ?post)
 case fin =>
  rintro c ED ⟨e,rfl,R,hs,he,hk⟩
  have ex:max (a+1) nr=nr:=by omega
  rw [ex] at hs he hk ⊢
  exact ⟨nr,e,rfl,h2,zU _,R,hs,he,hk⟩
 case post =>
  rintro c ED ⟨x,e,rfl,hx1,hx2,R,hs,he,hk⟩
  have hz:=R.rp.size
  dsimp only
  by_cases h0:e > 0
  ·refine ao h0 ?_
   refine zW (wpS_reverse ?_)
   refine iy hO (R.arr (Rp.mirror (by omega) (by omega) (by omega))) (by omega) hx2 h3 (fun i j hi EK hj=>?_) h
   show κ.kle (KK κ (mirror (arrOf ED) _ _ _) j) (KK κ (mirror (arrOf ED) _ _ _) i)
   rw [Cr (by omega) hk,Cr (by omega) hk]
   exact hs i j hi EK hj
  ·refine aq h0 ?_
   exact iy hO R (by omega) hx2 h3 hs h
 case step =>
  rintro x c ED hx1 hx2 ⟨e,rfl,R,hs,he,hk⟩
  have hz:=R.rp.size
  dsimp only
  refine zW (dX hO R.tb R.gd (by omega) (by omega) ?_)
  cases e1:κ.blt (KK κ (arrOf ED) (lo+x)) (KK κ (arrOf ED) (lo+x - 1)) with
  | true =>
   simp only [BI]
   have nx:∀ xs:Array Keyed,(∀ k,KK κ xs k=KK κ (arrOf ED) k)→NiI κ xs lo (lo+(x+1)):=fun xs ek i j hi EK hj=>by
    rw [ek,ek]
    by_cases q:j < lo+x
    ·exact hs i j hi EK q
    ·have:j=lo+x:=by omega
     subst this
     by_cases q2:i=lo+x
     ·subst q2;exact A5 _
     ·exact BO (B5 e1) (hs i (lo+x - 1) hi (by omega) (by omega))
   by_cases h0:e > 0
   ·refine ao h0 ?_
    exact zW (wpS_reverse (zZ ⟨0,rfl,R.arr (Rp.mirror (by omega) (by omega) (by omega)),nx _ (Cr (by omega) hk),by omega,fun i h1 h2=>by congr 1;omega⟩))
   ·refine aq h0 ?_
    exact zZ ⟨0,rfl,R,nx _ fun _=>rfl,by omega,fun i h1 h2=>by congr 1;omega⟩
  | false =>
   simp only [Ac,A6]
   refine zW (dX hO R.tb R.gd (by omega) (by omega) ?_)
   cases e2:κ.blt (KK κ (arrOf ED) (lo+x - 1)) (KK κ (arrOf ED) (lo+x)) with
   | true =>
    simp only [BI]
    exact zZ ⟨x,e,rfl,hx1,by omega,R,hs,he,hk⟩
   | false =>
    simp only [Ac,A6]
    have ee:KK κ (arrOf ED) (lo+x)=KK κ (arrOf ED) (lo+x - 1):=KeyOrd.kle_antisymm e2 e1
    refine zZ ⟨e+1,rfl,R,fun i j hi EK hj=>?_,by omega,fun i h1 h2=>?_⟩
    ·by_cases q:j < lo+x
     ·exact hs i j hi EK q
     ·have:j=lo+x:=by omega
      subst this
      by_cases q2:i=lo+x
      ·subst q2;exact A5 _
      ·rw [ee];exact hs i (lo+x - 1) hi (by omega) (by omega)
    ·rw [show lo+(x+1) - 1=lo+x by omega]
     by_cases q:i=lo+x
     ·subst q;rfl
     ·rw [ee];exact hk i (by omega) (by omega)
theorem pL {st:SortSt}{lo nr:Nat}{Q:Option Nat→SortSt→Prop}(hO:Lt1 κ prog w A s kd)(hB:TB kd st)(g:∀ x∈(arrOf st).toList,Gd κ x)(h1:1≤nr)(h3:lo+nr≤(arrOf st).size)
  (h:∀ n st',1≤n→n≤nr→Rs kd κ lo (lo+nr) st st'→SrI κ (arrOf st') lo (lo+n)→Q (some n) st'):wpS (model prog w) A E s (countRun' lo nr) Q st:=by
 have R:Rs kd κ lo (lo+nr) st st:=.refl hB g
 rw [countRun'_eq]
 change wpS _ _ _ _ (do
  let mut n:=1
  for _ in [1:nr] do
   let some sm ← ltAt' (lo+n) (lo+n - 1) | return none
   if sm then break
   n:=n+1
  if n == nr then return some n
  if n > 1 then
   let some rs ← ltAt' lo (lo+n - 1) | return none
   if rs then return some n
   reverseSlice' lo (lo+n)
  xN lo n nr) _ _
 refine zW (Bp (AQ (I:=fun x c st'=>st'=st∧c=(none,x)∧SrI κ (arrOf st) lo (lo+x))
  (Q:=fun c st'=>st'=st∧∃ n,c=(none,n)∧1≤n∧n≤nr∧SrI κ (arrOf st) lo (lo+n)∧(n=nr ∨ κ.klt (KK κ (arrOf st) (lo+n)) (KK κ (arrOf st) (lo+n - 1)))) ?step ?fin ⟨rfl,rfl,fun i j hi EK hj=>by have:i=j:=(by omega);subst this;exact A5 _⟩) ?post)
 case fin =>
  rintro c st' ⟨rfl,rfl,a1⟩
  have e:max 1 nr=nr:=by omega
  rw [e] at a1 ⊢
  exact ⟨rfl,nr,rfl,by omega,zU _,a1,.inl rfl⟩
 case step =>
  rintro x c st' hx1 hx2 ⟨rfl,rfl,a1⟩
  dsimp only
  refine zW (dX hO hB g (by omega) (by omega) ?_)
  cases e:κ.blt (KK κ (arrOf st') (lo+x)) (KK κ (arrOf st') (lo+x - 1)) with
  | true =>
   simp only [BI]
   exact zZ ⟨rfl,x,rfl,hx1,by omega,a1,.inr e⟩
  | false =>
   simp only [Ac,A6]
   exact zZ ⟨rfl,rfl,mU a1 (by omega) e⟩
 rintro c st' ⟨rfl,n,rfl,a1,a2,a3,a4⟩
 dsimp only
 by_cases hn:n=nr
 ·refine ao (by simpa using hn) ?_
  exact zZ (h n st' a1 a2 R a3)
 ·refine aq (by simpa using hn) ?_
  have lt:κ.klt (KK κ (arrOf st') (lo+n)) (KK κ (arrOf st') (lo+n - 1)):=a4.resolve_left hn
  by_cases hg:n > 1
  ·refine ao hg ?_
   refine zW (dX hO hB g (by omega) (by omega) ?_)
   cases e:κ.blt (KK κ (arrOf st') lo) (KK κ (arrOf st') (lo+n - 1)) with
   | true =>
    simp only [BI]
    exact zZ (h n st' a1 a2 R a3)
   | false =>
    simp only [Ac,A6]
    refine zW (wpS_reverse ?_)
    have same:∀ i,lo≤i→i < lo+n→KK κ (arrOf st') i=KK κ (arrOf st') (lo+n - 1):=fun i hi1 hi2=>by
     have b1:=a3 i (lo+n - 1) hi1 (by omega) (by omega)
     have b2:=a3 lo i (zU _) hi1 hi2
     exact KeyOrd.kle_antisymm b1 (BO e b2)
    refine jQ hO (R.arr (Rp.mirror (zU _) (by omega) (by omega))) (by omega) h3 (fun i j hi EK hj=>?_) h
    show κ.kle (KK κ (mirror (arrOf st') _ _ _) j) (KK κ (mirror (arrOf st') _ _ _) i)
    rw [Cr (by omega) same,Cr (by omega) same]
    by_cases q:j < lo+n
    ·rw [same i hi (by omega),same j (by omega) q]
     exact A5 _
    ·have:j=lo+n:=by omega
     subst this
     by_cases q2:i=lo+n
     ·subst q2;exact A5 _
     ·rw [same i hi (by omega)]
      exact B5 lt
  ·refine aq hg ?_
   have:n=1:=by omega
   subst this
   refine jQ hO R (by omega) h3 (fun i j hi EK hj=>?_) h
   by_cases q2:i=j
   ·subst q2;exact A5 _
   ·have e1:i=lo:=by omega
    have e2:j=lo+1:=by omega
    subst e1 e2
    exact B5 lt
end
end Tv
namespace Tv
open PySem PyProof.Rows
variable {κ:KeyKind} {kd:SortKind}
section
variable {prog:Program} {w:World} {A:Around} {E:Value→Shared→Prop} {s:Shared}
theorem pM {st:SortSt}{lo n ok:Nat}{Q:Bool→SortSt→Prop}(hO:Lt1 κ prog w A s kd)(hB:TB kd st)(g:∀ x∈(arrOf st).toList,Gd κ x)(hn:lo+n≤(arrOf st).size)(hok:ok≤n)(hs:SrI κ (arrOf st) lo (lo+ok))
  (h:∀ st',Rs kd κ lo (lo+n) st st'→SrI κ (arrOf st') lo (lo+n)→Q true st'):wpS (model prog w) A E s (binarySort' lo n ok) Q st:=by
 rw [binarySort'_eq]
 refine zW (Bp (AQ (I:=fun y c st'=>c=(none,())∧Rs kd κ lo (lo+n) st st'∧SrI κ (arrOf st') lo (lo+min y n))
  (Q:=fun c st'=>c=(none,())∧Rs kd κ lo (lo+n) st st'∧SrI κ (arrOf st') lo (lo+n)) ?step ?fin ?init) ?post)
 case post =>
  rintro c st' ⟨rfl,R,E5⟩
  exact zZ (h st' R E5)
 case init =>
  refine ⟨rfl,.refl hB g,fun i j hi EK hj=>?_⟩
  by_cases e:i=j
  ·subst e;exact A5 _
  ·exact hs i j hi EK (by omega)
 case fin =>
  rintro c st' ⟨hc,R,E5⟩
  rw [show min (max (max ok 1) n) n=n by omega] at E5
  exact ⟨hc,R,E5⟩
 case step =>
  rintro y c st' hy1 hy2 ⟨rfl,R,E5⟩
  have hz:=R.rp.size
  rw [show min y n=y by omega] at E5
  refine zW (Bp (AQ (I:=fun x c ED=>ED=st'∧∃ l r,c=(none,l,r)∧l≤r∧r≤y∧r - l≤y - x ∧
    (∀ i,lo≤i→i < lo+l→κ.kle (KK κ (arrOf st') i) (KK κ (arrOf st') (lo+y)))∧(∀ i,lo+r≤i→i < lo+y→κ.klt (KK κ (arrOf st') (lo+y)) (KK κ (arrOf st') i)))
   (Q:=fun c ED=>ED=st'∧∃ l r,c=(none,l,r)∧l≤y ∧
    (∀ i,lo≤i→i < lo+l→κ.kle (KK κ (arrOf st') i) (KK κ (arrOf st') (lo+y)))∧(∀ i,lo+l≤i→i < lo+y→κ.klt (KK κ (arrOf st') (lo+y)) (KK κ (arrOf st') i))) ?istep ?ifin ?iinit) ?ipost)
  case iinit=>exact ⟨rfl,0,y,rfl,by omega,by omega,by omega,fun i h1 h2=>by omega,fun i h1 h2=>by omega⟩
  case ifin =>
   rintro c ED ⟨rfl,l,r,rfl,q1,q2,q3,q4,q5⟩
   have:l=r:=by omega
   subst this
   exact ⟨rfl,l,l,rfl,q2,q4,q5⟩
  case istep =>
   rintro x c ED _ hx ⟨rfl,l,r,rfl,q1,q2,q3,q4,q5⟩
   dsimp only
   by_cases hge:l≥r
   ·refine ao hge ?_
    have:l=r:=by omega
    subst this
    exact zZ ⟨rfl,l,l,rfl,q2,q4,q5⟩
   ·refine aq hge ?_
    refine zW (dX hO R.tb R.gd (by omega) (by omega) ?_)
    cases e:κ.blt (KK κ (arrOf ED) (lo+y)) (KK κ (arrOf ED) (lo+(l+r) / 2)) with
    | true =>
     simp only [BI]
     refine zZ ⟨rfl,l,(l+r) / 2,rfl,by omega,by omega,by omega,q4,fun i h1 h2=>?_⟩
     exact KeyOrd.klt_of_klt_of_kle e (E5 _ _ (by omega) h1 h2)
    | false =>
     simp only [Ac,A6]
     refine zZ ⟨rfl,(l+r) / 2+1,r,rfl,by omega,by omega,by omega,fun i h1 h2=>?_,q5⟩
     exact BO (E5 i (lo+(l+r) / 2) h1 (by omega) (by omega)) (show κ.kle _ _ from e)
  case ipost =>
   rintro c ED ⟨rfl,l,r,rfl,hl,q4,q5⟩
   show wpS _ _ _ _ (do moveDown' (lo+y) (lo+l);pure (ForInStep.yield (none,()))) _ _
   rw [moveDown'_eq]
   have hk:lo+y < (arrOf ED).size:=by omega
   refine zW (Cg (zZ ⟨rfl,R.arr (Rp.bubble (by omega) (by omega) hk),?_⟩))
   rw [show min (y+1) n=y+1 by omega]
   intro i j hi EK hj
   show κ.kle (KK κ (bubble (arrOf ED) (lo+y) (lo+y - (lo+l))) i) (KK κ (bubble (arrOf ED) (lo+y) (lo+y - (lo+l))) j)
   rw [KK_bubble hk (by omega),KK_bubble hk (by omega),show lo+y - (lo+y - (lo+l))=lo+l by omega]
   repeat' split
   all_goals first
    | (exfalso;omega)
    | exact A5 _
    | exact q4 _ (by omega) (by omega)
    | exact B5 (q5 _ (by omega) (by omega))
    | exact E5 _ _ (by omega) (by omega) (by omega)
end
theorem mV:∀ (r:List Keyed) (z b:Nat) (arr:Array Keyed) (X Y Z:List Keyed),arr.toList=X++(Y++Z)→X.length=z+b→Y.length=r.length →
  ((r.zipIdx b).foldl (fun a (p,j)=>a.setIfInBounds (z+j) p) arr).toList=X++(r++Z)
 | [],z,b,arr,X,Y,Z,e,h1,h2=>by
  rw [Ct.mp h2] at e
  exact e
 | p::r,z,b,arr,X,Y,Z,e,h1,h2=>by
  cases Y with
  | nil=>simp at h2
  | cons y Y =>
   rw [DF,List.foldl_cons]
   have:=mV r z (b+1) (arr.setIfInBounds (z+b) p) (X++[p]) Y Z (by
    rw [C8,e,← h1,List.set_append_right _ _ (zU _),Di]
    simp) (by simp [h1];omega) (by simpa using h2)
   rw [this]
   simp
def mAt (i:Nat):StateT SortSt Sem Bool:=do
 let u ← get
 let (some (za,la,pw),some (zb,lb,_)):=((pendingOf u)[i]?,(pendingOf u)[i+1]?) | unsupported "internal:list.sort.pending"
 set (setPending u (((pendingOf u).setIfInBounds i (za,la+lb,pw)).eraseIdxIfInBounds (i+1)))
 let some c ← gal false (← elem' (arrOf u) zb) (arrOf u) za la 0 | return false
 let (za,la):=(za+c,la - c)
 if la == 0 then return true
 let some lb ← gal true (← elem' (arrOf u) (za+la - 1)) (arrOf u) zb lb (lb - 1) | return false
 if lb == 0 then return true
 let x:=(arrOf u).extract za zb
 let y:=(arrOf u).extract zb (zb+lb)
 let out ← if la≤lb then mlo x y else mhi x y
 modify fun v=>setArr v (out.toList.zipIdx.foldl (fun a (p,j)=>a.setIfInBounds (za+j) p) (arrOf v))
 return (failedOf (← get)).isNone
theorem vt (i:Nat):mergeAt' i=mAt i:=rfl
end Tv
namespace Tv
open PySem PyProof.Rows
variable {κ:KeyKind} {kd:SortKind}
section
variable {prog:Program} {w:World} {A:Around} {E:Value→Shared→Prop} {s:Shared}
end
end Tv
namespace HT
open PySem PySem.Spec PyProof.Rows
section
variable {prog:Program} {w:World} {A:Around} {E:Value→Shared→Prop} {s:Shared}
end
end HT
namespace L2
open PySem PySem.Spec PyProof.Rows Wd
end L2
namespace PySem
open Sem (wp)
section
variable {prog:Program} {w:World} {A:Around} {E:Value→Shared→Prop} {s:Shared}
def ddp (val:Nat→Str):Nat→List Str
 | 0=>[]
 | i+1=>if val i∈ddp val i then ddp val i else ddp val i++[val i]
theorem mZ (val:Nat→Str):∀ i,(ddp val i).length≤i
 | 0=>zU _
 | i+1=>by
  have ih:=mZ val i
  unfold ddp
  split
  ·omega
  ·rw [zI,Aq];omega
section
variable {R:Result→Shared→Prop} {I:Addr} {fp wr:List Addr} {G:Array GenState→Array GenState→Prop} {n:Nat} {P:Nat→Value→Prop} {St:Nat→Shared→Prop}
end
abbrev sob (led:Bool):Obj:={ cls:=.type "set",dict:=none,data:=.set #[] 0 (.fresh 0 0 led) }
end
def pN (xs:Array Nat):Prop:=∀ (i j a b:Nat),i < j→xs[i]? = some a→xs[j]? = some b→a < b
theorem gG {xs:Array Nat}{j:Nat}(hr:pN xs):∀ (f lo hi:Nat),hi - lo≤f→lo≤hi→hi≤xs.size→(∀ i a,i < lo→xs[i]? = some a→a < j)→(∀ i a,hi≤i→xs[i]? = some a→j≤a) →
  SetTable.below.go xs j f lo hi≤xs.size∧(∀ i a,i < SetTable.below.go xs j f lo hi→xs[i]? = some a→a < j)∧∀ i a,SetTable.below.go xs j f lo hi≤i→xs[i]? = some a→j≤a
 | 0,lo,hi,h,h1,h2,l,u=>by
  have e:lo=hi:=by omega
  unfold SetTable.below.go
  exact ⟨by omega,l,by rw [e];exact u⟩
 | f+1,lo,hi,h,h1,h2,l,u=>by
  unfold SetTable.below.go
  by_cases EH:lo < hi
  ·rw [if_pos EH]
   have hm:(lo+hi) / 2 < xs.size:=by omega
   have em:xs[(lo+hi) / 2]? = some xs[(lo+hi) / 2]:=D8 xs _ hm
   have eg:xs.getD ((lo+hi) / 2) j=xs[(lo+hi) / 2]:=by simp [Array.getD,hm]
   dsimp only
   rw [eg]
   split
   ·rename_i hx
    refine gG hr f _ _ (by omega) (by omega) h2 (fun i a hi' e=>?_) u
    by_cases q:i=(lo+hi) / 2
    ·subst q;rw [em] at e;cases e;exact hx
    ·exact D5 (hr i _ _ _ (by omega) e em) hx
   ·rename_i hx
    refine gG hr f _ _ (by omega) (by omega) (by omega) l (fun i a hi' e=>?_)
    by_cases q:i=(lo+hi) / 2
    ·subst q;rw [em] at e;cases e;omega
    ·have:=hr _ i _ _ (show (lo+hi) / 2 < i by omega) em e
     omega
  ·rw [if_neg EH]
   have e:lo=hi:=by omega
   exact ⟨by omega,l,by rw [e];exact u⟩
theorem pO {xs:Array Nat}(hr:pN xs)(j:Nat):SetTable.below xs j≤xs.size∧(∀ i a,i < SetTable.below xs j→xs[i]? = some a→a < j)∧∀ i a,SetTable.below xs j≤i→xs[i]? = some a→j≤a :=
 gG hr xs.size 0 xs.size (by omega) (Ay _) (zU _) (fun i a h=>absurd h (DS _)) fun i a h e=>by
  have:=(Bz.mp e).1
  omega
theorem pN.put {xs:Array Nat}(hr:pN xs){j:Nat}(hn:xs[SetTable.below xs j]? ≠ some j):pN (SetTable.insertAt xs (SetTable.below xs j) j):=by
 obtain ⟨h1,h2,h3⟩:=pO hr j
 have hl:(SetTable.insertAt xs (SetTable.below xs j) j).toList=xs.toList.take (SetTable.below xs j)++j::xs.toList.drop (SetTable.below xs j):=by
  unfold SetTable.insertAt
  simp [A0,AB]
 have at_:∀ k,(SetTable.insertAt xs (SetTable.below xs j) j)[k]? = if k < SetTable.below xs j then xs[k]? else if k=SetTable.below xs j then some j else xs[k - 1]?:=fun k=>by
  rw [← Au,hl]
  have z:(xs.toList.take (SetTable.below xs j)).length=SetTable.below xs j:=by rw [z9,zL];omega
  by_cases q1:k < SetTable.below xs j
  ·rw [if_pos q1,AV (by omega),Cq,if_pos q1,Au]
  ·rw [if_neg q1,Al (by omega),z]
   by_cases q2:k=SetTable.below xs j
   ·rw [if_pos q2,q2,Di]
    rfl
   ·rw [if_neg q2]
    obtain ⟨m,hm⟩:∃ m,k - SetTable.below xs j=m+1:=⟨k - SetTable.below xs j - 1,by omega⟩
    rw [hm,List.getElem?_cons_succ,AN,Au]
    congr 1
    omega
 intro i k a b hik ea eb
 rw [at_] at ea eb
 have ne:∀ m c,SetTable.below xs j≤m→xs[m]? = some c→j < c:=fun m c hm e=>by
  have l:=h3 m c hm e
  by_cases q:m=SetTable.below xs j
  ·subst q
   have:c≠j:=fun z=>hn (by rw [e,z])
   omega
  ·have hb:SetTable.below xs j < xs.size:=by have:=(Bz.mp e).1;omega
   have e0:xs[SetTable.below xs j]? = some xs[SetTable.below xs j]:=D8 xs _ hb
   have:=h3 _ _ (zU _) e0
   have:=hr _ m _ _ (by omega) e0 e
   omega
 split at ea
 ·rename_i c1
  split at eb
  ·exact hr i k a b hik ea eb
  ·split at eb
   ·cases eb;exact h2 i a c1 ea
   ·have:=h2 i a c1 ea
    have:=ne (k - 1) b (by omega) eb
    omega
 ·split at ea
  ·cases ea
   rw [if_neg (by omega),if_neg (by omega)] at eb
   exact ne (k - 1) b (by omega) eb
  ·rw [if_neg (by omega),if_neg (by omega)] at eb
   exact hr (i - 1) (k - 1) a b (by omega) ea eb
theorem kx (n:Nat):pN (Array.range n):=fun i j a b h ea eb=>by
 rw [Array.getElem?_range] at ea eb
 split at ea <;> split at eb <;> simp_all
theorem pP:pN #[]:=fun i j a b h ea=>by simp at ea
theorem fK {t:SetTable}(hd:t.dummies=#[])(g:Nat→Int)(h:Int):∀ (f:Nat) (p:SetTable.Probe) (j:Nat) (d:Option Nat),p.dummy=none→SetTable.probe.go t g h f p=some (.empty j d)→d=none∧t.slot j = .empty
 | 0,p,j,d,_,e=>by unfold SetTable.probe.go at e;cases e
 | f+1,p,j,d,hp,e=>by
  unfold SetTable.probe.go at e
  have hh:∀ x,SetTable.has t.dummies x=false:=fun x=>by rw [hd];unfold SetTable.has;simp
  have hs:∀ x,t.slot x ≠ .dummy:=fun x=>by
   unfold SetTable.slot
   dsimp only
   rw [hh]
   simp only [Ac,A6]
   split
   ·exact fun z=>by cases z
   ·exact fun z=>by cases z
  cases hq:t.slot p.j with
  | empty =>
   rw [hq] at e
   cases e
   exact ⟨hp,hq⟩
  | dummy=>exact absurd hq (hs _)
  | live i =>
   rw [hq] at e
   have ad:(t.advance p).dummy=none:=by
    unfold SetTable.advance
    split
    ·exact hp
    ·exact hp
   dsimp only at e
   split at e
   ·cases e
   ·exact fK hd g h f _ j d ad e
theorem pQ {t:SetTable}(hd:t.dummies=#[]){h:Int}{j:Nat}{b:Bool}(e:t.freeSlot h=some (j,b)):t.place[SetTable.below t.place j]? ≠ some j:=by
 unfold SetTable.freeSlot SetTable.probe at e
 split at e
 ·rename_i k d hq
  obtain ⟨rfl,hs⟩:=fK hd _ _ _ _ k d rfl hq
  cases e
  intro z
  unfold SetTable.slot at hs
  simp only [DB] at z
  dsimp only at hs
  rw [z] at hs
  simp at hs
 ·cases e
abbrev ldr (w:World):Bool:=!w.params.followText "set-order"
theorem ky {t:SetTable}{es:Array (Int × Value)}{h:Int}{x:Value}:(layNew t es h x).2.1.led=t.led:=by
 unfold layNew
 split
 ·dsimp only
  unfold SetTable.orStandIn
  split
  ·rfl
  ·rfl
 ·rfl
theorem kz {t t':SetTable}{hs:Array Int}{w:Nat}{order:Array Nat}(h:t.relaid hs w=some (t',order)):t'.led=t.led:=by
 unfold SetTable.relaid SetTable.laid at h
 cases hq:SetTable.layClean (SetTable.sizeAbove w - 1) hs with
 | none=>rw [hq] at h;cases h
 | some o=>rw [hq] at h;cases h;rfl
theorem iz {t:SetTable}{es:Array (Int × Value)}{w:Nat}:(relayAll t es w).2.1.led=t.led:=by
 unfold relayAll
 split
 ·rename_i t' order he
  dsimp only
  split
  ·exact kz he
  ·rfl
 ·rfl
def Tk (t:SetTable):Prop:=t.dummies=#[]∧pN t.place
theorem c4 {t:SetTable}{n:Nat}:Tk (t.standIn n):=⟨rfl,kx n⟩
theorem m7 {t:SetTable}{es:Array (Int × Value)}{h:Int}{x:Value}(k:Tk t):Tk (layNew t es h x).2.1:=by
 unfold layNew
 split
 ·rename_i j d hq
  dsimp only
  unfold SetTable.orStandIn
  split
  ·refine ⟨?_,k.2.put (pQ k.1 hq)⟩
   have:SetTable.has t.dummies j=false:=by rw [k.1];unfold SetTable.has;simp
   show (if SetTable.has t.dummies j=true then _ else t.dummies)=#[]
   rw [this]
   simpa using k.1
  ·exact c4
 ·exact c4
theorem m8 (n:Nat)(f:Nat→Option Nat):pN ((((List.range n).filterMap fun j=>(f j).map (j,·)).map (·.1)).toArray):=by
 have key:((((List.range n).filterMap fun j=>(f j).map (j,·)).map (·.1))).Pairwise (· < ·):=by
  rw [List.pairwise_map]
  refine List.Pairwise.filterMap _ (fun a a' EH b hb b' hb'=>?_) List.pairwise_lt_range
  cases h1:f a with
  | none=>rw [h1] at hb;simp at hb
  | some x =>
   rw [h1] at hb
   cases h2:f a' with
   | none=>rw [h2] at hb';simp at hb'
   | some x' =>
    rw [h2] at hb'
    simp at hb hb'
    rw [← hb,← hb']
    exact EH
 intro i j a b EK ea eb
 rw [List.getElem?_toArray] at ea eb
 obtain ⟨h1,e1⟩:=zN.mp ea
 obtain ⟨h2,e2⟩:=zN.mp eb
 rw [← e1,← e2]
 exact Bf.mp key i j h1 h2 EK
theorem i7 {t:SetTable}{es:Array (Int × Value)}{w:Nat}:Tk (relayAll t es w).2.1:=by
 unfold relayAll
 split
 ·rename_i t' order he
  dsimp only
  split
  ·unfold SetTable.relaid SetTable.laid at he
   cases hq:SetTable.layClean (SetTable.sizeAbove w - 1) (es.map (·.1)) with
   | none=>rw [hq] at he;cases he
   | some o=>rw [hq] at he;cases he;exact ⟨rfl,m8 _ _⟩
  ·exact c4
 ·exact c4
section
variable {K:Type} [DecidableEq K] {prog:Program} {w:World} {knd:KeyKind prog w K} {A:Around} {E:Value→Shared→Prop} {s:Shared}
def kA {K:Type}[DecidableEq K]{prog:Program}{w:World}(knd:KeyKind prog w K)(h:Heap)(a:Addr)(dl:List K):Prop :=
 ∃ o es ep t,h.get? a=some o∧o.ExactSet∧o.data = .set es ep t∧ElemsOf knd es.toList∧(∀ k,k∈dl ↔ ∃ e∈es.toList,knd.is k e.2=true)∧es.size < scanBound∧t.fits es.size=true∧es.size=dl.length∧Tk t∧t.led=ldr w
theorem vv {a:Addr}{o:Obj}{es EL:Array (Int × Value)}{ep:Nat}{t t2:SetTable}{dl:List K}(ho:s.heap.get? a=some o)(hex:o.ExactSet)(hd:o.data = .set es ep t)(hel:ElemsOf knd EL.toList)
  (hm:∀ k,k∈dl ↔ ∃ e∈EL.toList,knd.is k e.2=true) (hb:EL.size < scanBound) (hf:t2.fits EL.size=true) (hn:EL.size=dl.length) (hp:Tk t2) (hld:t2.led=ldr w) :
  (s.heap.update a (Obj.putSet EL t2)).get? a=some { o with data:=.set EL (ep+1) t2 }∧kA knd (s.heap.update a (Obj.putSet EL t2)) a dl:=by
 have hg:(s.heap.update a (Obj.putSet EL t2)).get? a=some { o with data:=.set EL (ep+1) t2 }:=by
  have q:=BX (Obj.putSet EL t2) ho (by rw [putSet_of EL t2 hd];rfl)
  rwa [putSet_of EL t2 hd] at q
 exact ⟨hg,_,EL,ep+1,t2,hg,hex,rfl,hel,hm,hb,hf,hn,hp,hld⟩
theorem xO {a:Addr}{dl:List K}{z:K}{v:Value}{Q:Bool→Shared→Prop}(hkey:knd.is z v=true)(hsc:v.scannable=true)(hS:kA knd s.heap a dl)(hroom:dl.length+1 < scanBound)
  (h:∀ h' b,Heap.SameBut a s.heap h'→kA knd h' a (if z∈dl then dl else dl++[z])→Q b { s with heap:=h' }) :
  wpAny (model prog w) A (setAddHashed a v (knd.hash z)) Q E s:=by
 obtain ⟨o,es,ep,t,ho,hex,hd,hel,hm,hb,hf,hn,hpl,hld⟩:=hS
 unfold setAddHashed setAddHashedIn
 refine BD (zK (wpAny_setState_of ho hd hf ?_))
 dsimp only
 rw [byScan_of (knd:=knd) hsc hb hel]
 simp only [↓reduceIte]
 unfold setAddByScan
 refine zK (zK (BU (zK (wpAny_setScan_of (knd:=knd) hkey ho hd hf hel ?_))))
 cases hr:List.findIdx? (fun e=>knd.is z e.2) es.toList with
 | some j =>
  dsimp only
  obtain ⟨hj,hpj,_⟩:=List.findIdx?_eq_some_iff_getElem.mp hr
  have hz:z∈dl:=(hm z).mpr ⟨es.toList[j],AD hj,hpj⟩
  refine Ab (Ab ?_)
  have q:=h s.heap false (Heap.SameBut.refl a s.heap) (by rw [if_pos hz];exact ⟨o,es,ep,t,ho,hex,hd,hel,hm,hb,hf,hn,hpl,hld⟩)
  have e:s={ s with heap:=s.heap }:=by cases s;rfl
  rw [e];exact q
 | none =>
  dsimp only
  have hz:z∉dl:=fun hz=>by
   obtain ⟨e,he,hp⟩:=(hm z).mp hz
   have q:=List.findIdx?_eq_none_iff.mp hr e he
   rw [hp] at q
   cases q
  have hq:∀ h',Heap.SameBut a s.heap h'→kA knd h' a (dl++[z])→Q true { s with heap:=h' }:=fun h' sb hs=>h h' true sb (by rw [if_neg hz];exact hs)
  have E6:=layNew_perm t es (knd.hash z) v
  have hfits:=layNew_fits t es (knd.hash z) v
  have hoff:=m7 (es:=es) (h:=knd.hash z) (x:=v) hpl
  have hl1:(layNew t es (knd.hash z) v).2.1.led=ldr w:=ky.trans hld
  generalize hL:layNew t es (knd.hash z) v=L at E6 hfits hoff hl1 ⊢
  obtain ⟨EL,t1,wasDummy,gave⟩:=L
  dsimp only at E6 hfits hoff hl1 ⊢
  rw [BJ] at E6
  have hel1:ElemsOf knd EL.toList:=(hel.push hkey hsc).perm E6
  have hm1:∀ k,k∈dl++[z] ↔ ∃ e∈EL.toList,knd.is k e.2=true:=fun k=>by
   rw [← mem_push_iff (knd:=knd) (S:=fun k=>decide (k∈dl)) hkey (fun k=>by rw [zT];exact hm k) E6 k]
   simp
  have hsz1:EL.size=(dl++[z]).length:=by rw [← zL,E6.length_eq,zI,zL,hn,zI];rfl
  have hb1:EL.size < scanBound:=by rw [hsz1,zI];exact hroom
  have tail:∀ t2:SetTable,Tk t2→t2.led=ldr w→t2.fits EL.size=true→wpAny (model prog w) A (do
    storeSet a EL t2
    if (!wasDummy && t2.tooFull)=true then do
      (match (relayAll t2 EL (SetTable.grown EL.size)).2.2 with | true=>rule "set.scan.the-table-gave-way" | false=>pure ())
      storeSet a (relayAll t2 EL (SetTable.grown EL.size)).1 (relayAll t2 EL (SetTable.grown EL.size)).2.1
      pure (some true)
     else pure (some true)) (fun r s'=>wpAny (model prog w) A (match r with | some added=>pure added | none=>setAddHashedIn a v (knd.hash z) 99999) Q E s') E s:=fun t2 hp2 hd2 hf2=>by
   refine zK (wpAny_storeSet_of ho hd ?_ (fits_of_scanBound hb1))
   obtain ⟨ho1,hS1⟩:=vv ho hex hd hel1 hm1 hb1 hf2 hsz1 hp2 hd2
   have hsb1:=C2 s.heap a (Obj.putSet EL t2)
   split
   ·have hp:=relayAll_perm t2 EL (SetTable.grown EL.size)
    have hfr:=relayAll_fits t2 EL (SetTable.grown EL.size)
    have hof:=i7 (t:=t2) (es:=EL) (w:=SetTable.grown EL.size)
    have hof2:=(iz (t:=t2) (es:=EL) (w:=SetTable.grown EL.size)).trans hd2
    generalize relayAll t2 EL (SetTable.grown EL.size)=Rl at hp hfr hof hof2 ⊢
    obtain ⟨es2,t3,gave2⟩:=Rl
    dsimp only at hp hfr hof hof2 ⊢
    have hsz:es2.size=EL.size:=by rw [← zL,hp.length_eq,zL]
    have go:wpAny (model prog w) A (storeSet a es2 t3 >>= fun _=>pure (some true)) (fun r s'=>wpAny (model prog w) A (match r with | some added=>pure added | none=>setAddHashedIn a v (knd.hash z) 99999) Q E s') E { s with heap:=s.heap.update a (Obj.putSet EL t2) }:=by
     refine zK (wpAny_storeSet_of ho1 rfl ?_ (fits_of_scanBound (by rw [hsz];exact hb1)))
     obtain ⟨_,hS2⟩:=vv (s:={ s with heap:=s.heap.update a (Obj.putSet EL t2) }) ho1 hex rfl (hel1.perm hp) (fun k=>(hm1 k).trans ⟨fun zq2=>(by obtain ⟨e,he,q⟩:=zq2;exact ⟨e,hp.mem_iff.mpr he,q⟩),fun zq1=>(by obtain ⟨e,he,q⟩:=zq1;exact ⟨e,hp.mem_iff.mp he,q⟩)⟩) (by rw [hsz];exact hb1) hfr (hsz.trans hsz1) hof hof2
     exact Ab (Ab (hq _ (hsb1.trans (C2 _ a _)) hS2))
    cases gave2
    ·exact zK (Ab go)
    ·exact zK (BU go)
   ·exact Ab (Ab (hq _ hsb1 hS1))
  have rest:wpAny (model prog w) A (do
    let byValue ← if t1.plain=true then hashByValue 8 v else pure true
    storeSet a EL (if byValue=true then t1 else { t1 with plain:=false })
    if (!wasDummy && (if byValue=true then t1 else { t1 with plain:=false }:SetTable).tooFull)=true then do
      (match (relayAll (if byValue=true then t1 else { t1 with plain:=false }) EL (SetTable.grown EL.size)).2.2 with | true=>rule "set.scan.the-table-gave-way" | false=>pure ())
      storeSet a (relayAll (if byValue=true then t1 else { t1 with plain:=false }) EL (SetTable.grown EL.size)).1 (relayAll (if byValue=true then t1 else { t1 with plain:=false }) EL (SetTable.grown EL.size)).2.1
      pure (some true)
     else pure (some true)) (fun r s'=>wpAny (model prog w) A (match r with | some added=>pure added | none=>setAddHashedIn a v (knd.hash z) 99999) Q E s') E s:=by
   by_cases hp1:t1.plain=true
   ·rw [if_pos hp1]
    refine zK ?_
    rw [hashByValue_scannable 8 hsc]
    refine Ab ?_
    cases plainKind v
    ·exact tail { t1 with plain:=false } hoff hl1 (SetTable.fits_plain_off hfits)
    ·exact tail t1 hoff hl1 hfits
   ·rw [if_neg hp1]
    refine zK (Ab ?_)
    exact tail t1 hoff hl1 hfits
  cases gave
  ·exact zK (Ab rest)
  ·exact zK (BU rest)
theorem kA.at {h h':Heap}{a:Addr}{dl:List K}(hS:kA knd h a dl)(k:∀ o,h.get? a=some o→h'.get? a=some o):kA knd h' a dl:=by
 obtain ⟨o,es,ep,t,ho,r⟩:=hS
 exact ⟨o,es,ep,t,k o ho,r⟩
section
variable {R:Result→Shared→Prop} {I:Addr} {fp wr:List Addr} {G:Array GenState→Array GenState→Prop} {n:Nat} {P:Nat→Value→Prop} {St:Nat→Shared→Prop}
theorem xP (dd:Nat→List K)(W:WalksS prog w A.in1 I fp wr G n P St)(S:Addr)(hSf:S∉fp)(val:Nat→K)(d1:∀ i,val i∈dd i→dd (i+1)=dd i)(d2:∀ i,val i∉dd i→dd (i+1)=dd i++[val i])(hl:∀ i,(dd i).length≤i)(hval:∀ i v,P i v→knd.is (val i) v=true∧v.scannable=true)(hb:n+1 < scanBound) :
  ∀ (k i:Nat) (s:Shared),n - i=k→i≤n→St i s→kA knd s.heap S (dd i)→(∀ s',Moved (S::wr) G s s'→kA knd s'.heap S (dd n)→R (.ok (.ret .none)) s') →
   codeAny (model prog w) A (.builtin "set.update.loop" ⟨[.ref S,.ref I],[]⟩) R s:=by
 have nw:S∉wr:=fun q=>hSf (W.sub _ q)
 have sub:∀ b∈wr,b∈S::wr:=fun b q=>zO _ q
 intro k
 induction k with
 | zero =>
  intro i s hk hi st hS hR
  obtain rfl:i=n:=by omega
  refine B2 B9 ?_
  rw [CO Bq _]
  show wpAny _ A.in1 (pyNext (.ref I) >>= _) _ _ s
  refine zK (W.done s _ _ st fun s' mv=>?_)
  show wpAny _ A.in1 (ret Value.none) _ _ s'
  exact Ab (hR s' (mv.mono sub) (hS.at fun o q=>mv.heap S o nw q))
 | succ k ih =>
  intro i s hk hi st hS hR
  have EH:i < n:=by omega
  refine B2 B9 ?_
  rw [CO Bq _]
  show wpAny _ A.in1 (pyNext (.ref I) >>= _) _ _ s
  refine zK (W.item i s _ _ EH st fun v s' hP st' mv=>?_)
  obtain ⟨hk,hsc⟩:=hval i v hP
  have hS':kA knd s'.heap S (dd i):=hS.at fun o q=>mv.heap S o nw q
  show wpAny _ A.in1 (holding [v] (setAdd S v) >>= _) _ _ s'
  refine zK (BD ?_)
  unfold setAdd
  refine BD (zK (knd.pyHash (k:=val i) hk ?_))
  have hl:=hl i
  refine xO (s:={ s' with toks:=s'.toks+1 }) hk hsc hS' (by omega) fun h' b sb hS2=>?_
  refine Ab ⟨plainId_quiet Bq _,ih (i+1) _ (by omega) EH (W.frame _ s' _ _ st' (Dq _) fun c hc o q=>?_) (by split at hS2;(rw [d1 i ‹_›];exact hS2);(rw [d2 i ‹_›];exact hS2)) fun s'' mv2 hS3=>?_⟩
  ·rw [sb.2 c (fun e:c=S=>hSf (e ▸ hc))];exact q
  ·refine hR s'' (Moved.trans W.gtrans ((mv.mono sub).then_heap (Dq _) fun c o hc q=>?_) mv2) hS3
   rw [sb.2 c (fun e:c=S=>hc (e ▸ zX))];exact q
end
theorem gH (a:Value){Q₁:Value→Shared→Prop}(q:Q₁ (.ref s.heap.objs.size) { s with heap:=s.heap.push (sob (ldr w)) }) :
  codeAny (model prog w) A (.call (.builtin "set.__new__") ⟨[.type "set",a],[]⟩) (wants Q₁ E) s:=by
 refine codeAny_of_tree ?_
 show wpAny _ A.in1 (do checkBuiltinCall "set.__new__" ⟨[.type "set",a],[]⟩;again (.builtin "set.__new__" ⟨[.type "set",a],[]⟩)) _ _ s
 refine zK (C1 (F.newCall_set_1 a) (Ab ⟨plainId_quiet F.plain_set_new _,B2 F.entry_set_new ?_⟩))
 rw [CO F.plain_set_new _]
 unfold Builtin.«set.__new__» Builtin.Frozenset.newClass
 have hsub:=sub_set_self
 obtain ⟨hp,gn,dr,tk,os⟩:=s
 dsimp only
 wp_walk
 refine wpAny_askSetting (Ab ?_)
 dsimp only
 simp only [newObj]
 exact zK (wpAny_alloc (Ab (Ab q)))
abbrev vw (prog:Program)(w:World)(h:Heap)(a:Addr)(dl:List Str):Prop:=kA (strKind prog w) h a dl
end
section
variable {prog:Program} {w:World} {A:Around} {E:Value→Shared→Prop} {s:Shared}
end
end PySem
namespace Tv
open PySem PyProof.Rows
variable {κ:KeyKind} {kd:SortKind}
theorem Lel.sym_take {l:List Keyed}(h:Srt κ l)(i:Nat):Lel κ (l.take i) (l.drop i):=by
 have:Srt κ (l.take i++l.drop i):=by rw [Ak];exact h
 exact (a_.mp this).2.2
theorem Lel.memL {l l' m:List Keyed}(h:Lel κ l m)(hs:∀ x∈l',x∈l):Lel κ l' m:=fun x hx y hy=>h x (hs x hx) y hy
theorem Lel.memR {l m m':List Keyed}(h:Lel κ l m)(hs:∀ x∈m',x∈m):Lel κ l m':=fun x hx y hy=>h x hx y (hs y hy)
theorem Lel.mid {l m:List Keyed}{x:Keyed}(h:Lel κ l [x])(g:Lel κ [x] m):Lel κ l m:=fun a ha b hb=>dH (h a ha x (zJ.mpr rfl)) (g x (zJ.mpr rfl) b hb)
theorem gI {l:List Keyed}{x:Keyed}(h:Srt κ l)(e:l[0]? = some x):Lel κ [x] l:=fun a ha y hy=>by
 rw [zJ] at ha
 subst ha
 obtain ⟨i,hi⟩:=A2 hy
 exact h.at (Ay _) e hi
theorem m9 {l:List Keyed}{x:Keyed}(h:Srt κ l)(e:l[l.length - 1]? = some x):Lel κ l [x]:=fun a ha y hy=>by
 rw [zJ] at hy
 subst hy
 obtain ⟨i,hi⟩:=A2 ha
 have:=(zN.mp hi).1
 exact h.at (by omega) hi e
theorem sL {l m n:List Keyed}:Lel κ (l++m) n ↔ Lel κ l n∧Lel κ m n :=
 ⟨fun h=>⟨h.memL fun x hx=>Aj _ hx,h.memL fun x hx=>z6 _ hx⟩,fun h x hx=>(z3.mp hx).elim (h.1 x) (h.2 x)⟩
theorem jR {l m n:List Keyed}:Lel κ l (m++n) ↔ Lel κ l m∧Lel κ l n :=
 ⟨fun h=>⟨h.memR fun x hx=>Aj _ hx,h.memR fun x hx=>z6 _ hx⟩,fun h x hx y hy=>(z3.mp hy).elim (h.1 x hx y) (h.2 x hx y)⟩
theorem vz {A B r:List Keyed}{c m:Nat}{b0 al:Keyed}(sA:Srt κ A)(sB:Srt κ B)(e0:B[0]? = some b0)(el:A[A.length - 1]? = some al)
  (h1:Lel κ (A.take c) [b0]) (h2:Lel κ [al] (B.drop m)) (M:Mg κ (A.drop c) (B.take m) r):Mg κ A B (A.take c++(r++B.drop m)):=by
 have mm:∀ x,x∈r ↔ x∈A.drop c++B.take m:=fun x=>M.1.mem_iff
 refine ⟨?_,a_.mpr ⟨sA.take c,a_.mpr ⟨M.2,sB.drop m,?_⟩,jR.mpr ⟨?_,?_⟩⟩⟩
 ·have:(A.take c++(r++B.drop m)).Perm (A.take c++((A.drop c++B.take m)++B.drop m)):=Bh _ (M.1.append_right _)
  refine this.trans (List.Perm.of_eq ?_)
  rw [zR,← zR,Ak,Ak]
 ·refine Lel.memL (l:=A.drop c++B.take m) (sL.mpr ⟨?_,Lel.sym_take sB m⟩) fun x hx=>(mm x).mp hx
  exact Lel.mid ((m9 sA el).memL fun x hx=>Bm hx) h2
 ·refine Lel.memR (m:=A.drop c++B.take m) (jR.mpr ⟨Lel.sym_take sA c,?_⟩) fun x hx=>(mm x).mp hx
  exact Lel.mid h1 ((gI sB e0).memR fun x hx=>A3 hx)
 ·exact Lel.mid h1 ((gI sB e0).memR fun x hx=>Bm hx)
section
variable {prog:Program} {w:World} {A:Around} {E:Value→Shared→Prop} {s:Shared}
theorem sM {st u:SortSt}{Q:PUnit→SortSt→Prop}(h:Q ⟨⟩ u):wpS (model prog w) A E s (set u:StateT SortSt Sem PUnit) Q st:=by
 unfold wpS
 rw [StateT.run_set]
 exact Ab ⟨rfl,h⟩
theorem jS {st:SortSt}{lf:Bool}{key:Keyed}{arr:Array Keyed}{P M S:List Keyed}{z n h:Nat}{Q:Option Nat→SortSt→Prop}(hO:Lt1 κ prog w A s kd)(hB:TB kd st)(hk:Gd κ key)(hg:∀ x∈arr.toList,Gd κ x)(ea:arr.toList=P++(M++S))(lp:P.length=z)(ln:M.length=n)(sa:Srt κ M)(hh:h < n)
  (hq:∀ k,k≤n→(∀ x∈M.take k,bdB κ lf (kof κ key) (kof κ x)=true)→(∀ x∈M.drop k,bdB κ lf (kof κ key) (kof κ x)=false)→Q (some k) st) :
  wpS (model prog w) A E s (gal lf key arr z n h) Q st:=by
 have ga:∀ i,i < n→arr[z+i]? = M[i]?:=fun i hi=>by
  rw [← Au,ea,Al (by omega),AV (by omega)]
  congr 1
  omega
 have gm:∀ x∈M,Gd κ x:=fun x hx=>hg x (by rw [ea];exact z6 _ (Aj _ hx))
 refine i5 hO hB hk (fun t=>match M[t]? with | some p=>bdB κ lf (kof κ key) (kof κ p) | none=>false) hh (fun t ht=>?_) (fun t u htu hu hb=>?_) (fun k hk' h1 h2=>hq k hk' (fun x hx=>?_) fun x hx=>?_)
 ·have EH:t < M.length:=by omega
  have e:=fu EH
  exact ⟨M[t],by rw [ga t ht,e],gm _ (AD _),by rw [e]⟩
 ·have e1:=fu (l:=M) (i:=t) (by omega)
  have e2:=fu (l:=M) (i:=u) (by omega)
  rw [e1]
  rw [e2] at hb
  have le:=sa.at htu e1 e2
  dsimp only at hb ⊢
  cases lf with
  | true=>exact KeyOrd.klt_of_kle_of_klt le hb
  | false =>
   have le2:=dH le (eF hb)
   show (!κ.blt _ _)=true
   rw [show κ.blt (kof κ key) (kof κ M[t])=false from le2]
   rfl
 ·obtain ⟨i,hi⟩:=A2 hx
  have l1:=(zN.mp hi).1
  rw [z9] at l1
  rw [AX (by omega)] at hi
  have:=h1 i (by omega)
  rw [hi] at this
  exact this
 ·obtain ⟨i,hi⟩:=A2 hx
  rw [AN] at hi
  have l1:=(zN.mp hi).1
  have:=h2 (k+i) (by omega) (by omega)
  rw [hi] at this
  exact this
theorem m_ {arr:Array Keyed}{P M S:List Keyed}{i j:Nat}(e:arr.toList=P++(M++S))(h1:P.length=i)(h2:j=i+M.length):(arr.extract i j).toList=M:=by
 rw [A0,e,List.extract_eq_drop_take,← h1,List.drop_left,h2,← h1,BL,List.take_left]
theorem sN {st:SortSt}{i z na nb pw pw2:Nat}{P Aa B S:List Keyed}{Q:Bool→SortSt→Prop}(hO:Lt1 κ prog w A s kd)(hB:TB kd st)(g:∀ x∈(arrOf st).toList,Gd κ x)(e1:(pendingOf st)[i]? = some (z,na,pw))(e2:(pendingOf st)[i+1]? = some (z+na,nb,pw2))
  (ea:(arrOf st).toList=P++(Aa++(B++S))) (lp:P.length=z) (la:Aa.length=na) (lb:B.length=nb) (h0:0 < na) (h1:0 < nb) (sA:Srt κ Aa) (sB:Srt κ B)
  (h:∀ st' R,TB kd st'→pendingOf st'=((pendingOf st).setIfInBounds i (z,na+nb,pw)).eraseIdxIfInBounds (i+1)→(arrOf st').toList=P++(R++S)→Mg κ Aa B R→Q true st'):wpS (model prog w) A E s (mergeAt' i) Q st:=by
 have eb:(arrOf st).toList=(P++Aa)++(B++S):=by rw [ea,zR]
 rw [vt]
 unfold mAt
 refine zW (C4 ?_)
 rw [e1,e2]
 dsimp only
 refine zW (sM ?_)
 have hB':TB kd (setPending st (((pendingOf st).setIfInBounds i (z,na+nb,pw)).eraseIdxIfInBounds (i+1))):=⟨hB.kind,hB.failed⟩
 generalize hst':setPending st (((pendingOf st).setIfInBounds i (z,na+nb,pw)).eraseIdxIfInBounds (i+1))=st' at hB' ⊢
 have hp':pendingOf st'=((pendingOf st).setIfInBounds i (z,na+nb,pw)).eraseIdxIfInBounds (i+1):=by rw [← hst']
 have har:arrOf st'=arrOf st:=by rw [← hst']
 obtain ⟨b0,eb0⟩:∃ b0,B[0]? = some b0:=⟨_,fu (by omega)⟩
 obtain ⟨al,eal⟩:∃ al,Aa[Aa.length - 1]? = some al:=⟨_,fu (by omega)⟩
 have gA:∀ x∈Aa,Gd κ x:=fun x hx=>g x (by rw [ea];simp [hx])
 have gB:∀ x∈B,Gd κ x:=fun x hx=>g x (by rw [ea];simp [hx])
 have x0:(arrOf st).toList[z+na]? = some b0:=by
  rw [eb,Al (by simp;omega),AV (by simp;omega)]
  rw [show z+na - (P++Aa).length=0 by simp;omega]
  exact eb0
 have xl:(arrOf st).toList[z+na - 1]? = some al:=by
  rw [ea,Al (by omega),AV (by omega)]
  rw [show z+na - 1 - P.length=Aa.length - 1 by omega]
  exact eal
 refine zW (aN x0 ?_)
 refine zW (jS hO hB' (gB b0 (AF eb0)) g ea lp la sA h0 fun c hc t1 t2=>?_)
 dsimp only
 have k1:Lel κ (Aa.take c) [b0]:=fun x hx y hy=>by
  rw [zJ] at hy
  subst hy
  exact eF (t1 x hx)
 have k2:Lel κ [b0] (Aa.drop c):=fun x hx y hy=>by
  rw [zJ] at hx
  subst hx
  exact eZ (t2 y hy)
 by_cases hc0:na - c=0
 ·refine ao (by simpa using hc0) ?_
  have:Aa.take c=Aa:=AB (by omega)
  rw [this] at k1
  exact zZ (h st' (Aa++B) hB' hp' (by rw [har,ea,zR]) ⟨B8 _,a_.mpr ⟨sA,sB,k1.mid (gI sB eb0)⟩⟩)
 ·refine aq (by simpa using hc0) ?_
  rw [show z+c+(na - c) - 1=z+na - 1 by omega]
  refine zW (aN xl ?_)
  refine zW (jS hO hB' (gA al (AF eal)) g eb (by simp;omega) lb sB (by omega) fun m hm u1 u2=>?_)
  dsimp only
  have k3:Lel κ (B.take m) [al]:=fun x hx y hy=>by
   rw [zJ] at hy
   subst hy
   exact i6 (u1 x hx)
  have k4:Lel κ [al] (B.drop m):=fun x hx y hy=>by
   rw [zJ] at hx
   subst hx
   exact gE (u2 y hy)
  by_cases hm0:m=0
  ·refine ao (by simpa using hm0) ?_
   subst hm0
   exact zZ (h st' (Aa++B) hB' hp' (by rw [har,ea,zR]) ⟨B8 _,a_.mpr ⟨sA,sB,(m9 sA eal).mid k4⟩⟩)
  ·refine aq (by simpa using hm0) ?_
   have ec:(arrOf st).toList=(P++Aa.take c)++(Aa.drop c++(B++S)):=by
    rw [ea]
    conv=>lhs;rw [← Ak c Aa]
    simp only [zR]
   have ed:(arrOf st).toList=(P++Aa)++(B.take m++(B.drop m++S)):=by
    rw [eb]
    conv=>lhs;rw [← Ak m B]
    simp only [zR]
   have ex:((arrOf st).extract (z+c) (z+na)).toList=Aa.drop c:=m_ ec (by simp;omega) (by simp;omega)
   have ey:((arrOf st).extract (z+na) (z+na+m)).toList=B.take m:=m_ ed (by simp;omega) (by simp;omega)
   have sx:((arrOf st).extract (z+c) (z+na)).size=na - c:=by rw [← zL,ex];simp;omega
   have sy:((arrOf st).extract (z+na) (z+na+m)).size=m:=by rw [← zL,ey];simp;omega
   generalize (arrOf st).extract (z+c) (z+na)=x at ex sx ⊢
   generalize (arrOf st).extract (z+na) (z+na+m)=y at ey sy ⊢
   have ga:∀ t∈x.toList,Gd κ t:=fun t ht=>gA t (by rw [ex] at ht;exact Bm ht)
   have gb:∀ t∈y.toList,Gd κ t:=fun t ht=>gB t (by rw [ey] at ht;exact A3 ht)
   have sx':Srt κ x.toList:=by rw [ex];exact sA.drop c
   have sy':Srt κ y.toList:=by rw [ey];exact sB.take m
   have y0:y.toList[0]? = some b0:=by rw [ey,AX (by omega)];exact eb0
   have xn:x.toList[x.size - 1]? = some al:=by
    rw [ex,AN,sx,show c+(na - c - 1)=Aa.length - 1 by omega]
    exact eal
   have fin:∀ (r:Array Keyed) (E1:SortSt),Ok kd st' E1→Mg κ x.toList y.toList r.toList→wpS (model prog w) A E s (do
     modify fun v=>setArr v (r.toList.zipIdx.foldl (fun a (p,j)=>a.setIfInBounds (z+c+j) p) (arrOf v))
     return (failedOf (← get)).isNone:StateT SortSt Sem Bool) Q E1:=fun r E1 ok M=>by
    rw [ex,ey] at M
    have lr:r.toList.length=(Aa.drop c++B.take m).length:=M.1.length_eq
    refine zW (Cg ?_)
    refine zW (C4 ?_)
    refine zZ ?_
    have hf:failedOf (setArr E1 (r.toList.zipIdx.foldl (fun a (p,j)=>a.setIfInBounds (z+c+j) p) (arrOf E1)))=none:=ok.tb.failed
    rw [hf]
    refine h _ (Aa.take c++(r.toList++B.drop m)) ⟨ok.tb.kind,ok.tb.failed⟩ (ok.pd.trans hp') ?_ (vz sA sB eb0 eal k1 k4 M)
    show (r.toList.zipIdx.foldl (fun a (p,j)=>a.setIfInBounds (z+c+j) p) (arrOf E1)).toList=_
    rw [mV r.toList (z+c) 0 (arrOf E1) (P++Aa.take c) (Aa.drop c++B.take m) (B.drop m++S) (by
     rw [ok.ar,har,ea]
     conv=>lhs;rw [← Ak c Aa,← Ak m B]
     simp only [zR]) (by simp;omega) lr.symm]
    simp only [zR]
   by_cases hle:na - c≤m
   ·refine ao hle ?_
    refine zW (sv hO hB' ga gb sx' sy' (by omega) (by omega) (fun p q hp hq=>?_) (fun t ht=>?_) fun r E1 ok M=>fin r E1 ok M)
    ·rw [y0] at hq
     cases hq
     rw [ex] at hp
     exact k2 _ (zJ.mpr rfl) _ (AF hp)
    ·rw [xn] at ht
     cases ht
     rw [ey]
     exact k3
   ·refine aq hle ?_
    refine zW (sI hO hB' ⟨ga,gb,sx',sy',fun t ht=>?_⟩ (by omega) (by omega) (fun t ht=>?_) fun r E1 ok M=>fin r E1 ok M)
    ·rw [y0] at ht
     cases ht
     rw [ex]
     exact k2
    ·rw [xn] at ht
     cases ht
     rw [ey]
     exact k3
end
end Tv
namespace Tv
open PySem PyProof.Rows
variable {κ:KeyKind} {kd:SortKind}
def PdL (κ:KeyKind):Nat→List (Nat × Nat × Nat)→List (List Keyed)→Prop
 | _,[],[]=>True
 | z,p::ps,r::rs=>p.1=z∧p.2.1=r.length∧0 < r.length∧Srt κ r∧PdL κ (z+r.length) ps rs
 | _,_,_=>False
theorem PdL.app:∀ {p q:List (Nat × Nat × Nat)} {z:Nat} {rs:List (List Keyed)},PdL κ z (p++q) rs→∃ r1 r2,rs=r1++r2∧r1.length=p.length∧PdL κ z p r1∧PdL κ (z+r1.flatten.length) q r2
 | [],q,z,rs,h=>⟨[],rs,rfl,rfl,trivial,h⟩
 | _::_,q,z,[],h=>h.elim
 | _::p,q,z,r::rs,h=>by
  obtain ⟨a1,a2,a3,a4,a5⟩:=h
  obtain ⟨r1,r2,e,l,b1,b2⟩:=PdL.app a5
  refine ⟨r::r1,r2,by rw [e];rfl,by simp [l],⟨a1,a2,a3,a4,b1⟩,?_⟩
  rw [Bv,zI,← D2]
  exact b2
theorem PdL.join:∀ {p q:List (Nat × Nat × Nat)} {z:Nat} {r1 r2:List (List Keyed)},PdL κ z p r1→PdL κ (z+r1.flatten.length) q r2→PdL κ z (p++q) (r1++r2)
 | [],q,z,[],r2,_,h=>h
 | [],q,z,_::_,r2,h,_=>h.elim
 | _::_,q,z,[],r2,h,_=>h.elim
 | _::p,q,z,r::r1,r2,h,g=>by
  obtain ⟨a1,a2,a3,a4,a5⟩:=h
  rw [Bv,zI,← D2] at g
  exact ⟨a1,a2,a3,a4,PdL.join a5 g⟩
theorem PdL.len:∀ {p:List (Nat × Nat × Nat)} {z:Nat} {rs:List (List Keyed)},PdL κ z p rs→p.length≤rs.flatten.length
 | [],z,[],_=>Ay _
 | [],z,_::_,h=>h.elim
 | _::_,z,[],h=>h.elim
 | _::p,z,r::rs,h=>by
  obtain ⟨a1,a2,a3,a4,a5⟩:=h
  have:=PdL.len a5
  rw [Bv,zI,AC]
  omega
theorem PdL.same:∀ {p q:List (Nat × Nat × Nat)} {z:Nat} {rs:List (List Keyed)},PdL κ z p rs→q.map (fun t=>(t.1,t.2.1))=p.map (fun t=>(t.1,t.2.1))→PdL κ z q rs
 | [],[],z,rs,h,_=>h
 | [],_::_,z,rs,_,e=>by simp at e
 | _::_,[],z,rs,_,e=>by simp at e
 | _::_,_::_,z,[],h,_=>h.elim
 | x::p,y::q,z,r::rs,h,e=>by
  obtain ⟨a1,a2,a3,a4,a5⟩:=h
  simp only [AA,DR,Prod.mk.injEq] at e
  exact ⟨e.1.1.trans a1,e.1.2.trans a2,a3,a4,PdL.same a5 e.2⟩
theorem nc {f:Nat × Nat × Nat→Nat × Nat × Nat}(hf:∀ t,(f t).1=t.1∧(f t).2.1=t.2.1):∀ (l:List (Nat × Nat × Nat)) (i:Nat),(l.modify i f).map (fun t=>(t.1,t.2.1))=l.map (fun t=>(t.1,t.2.1))
 | [],i=>by cases i <;> rfl
 | x::l,0=>by
  show ((f x).1,(f x).2.1)::_=_
  rw [(hf x).1,(hf x).2]
  rfl
 | x::l,i+1=>by
  show (x.1,x.2.1)::(l.modify i f).map _=_
  rw [nc hf l i]
  rfl
theorem ng {xs:Array Keyed}{i:Nat}{x:Keyed}(h:xs.toList[i]? = some x):KK κ xs i=kof κ x:=by
 rw [Au] at h
 unfold KK kof
 rw [h]
structure Iv (kd:SortKind) (κ:KeyKind) (a0:Array Keyed) (st:SortSt) (lo:Nat):Prop where
 tb:TB kd st
 pm:(arrOf st).Perm a0
 ex:∃ rs T,(arrOf st).toList=rs.flatten++T∧rs.flatten.length=lo∧PdL κ 0 (pendingOf st).toList rs
theorem Iv.gd {a0:Array Keyed}{st:SortSt}{lo:Nat}(I:Iv kd κ a0 st lo)(h0:KeysOf κ a0):∀ x∈(arrOf st).toList,Gd κ x:=fun x hx=>h0 x ((BA.mp I.pm).mem_iff.mp hx)
theorem Iv.part {a0:Array Keyed}{st st':SortSt}{lo hi:Nat}(I:Iv kd κ a0 st lo)(R:Rs kd κ lo hi st st'):Iv kd κ a0 st' lo:=by
 obtain ⟨rs,T,e,l,p⟩:=I.ex
 refine ⟨R.tb,R.rp.pm.trans I.pm,rs,(arrOf st').toList.drop lo,?_,l,by rw [R.pd];exact p⟩
 have:(arrOf st').toList.take lo=rs.flatten:=by
  have e2:(arrOf st).toList.take lo=rs.flatten:=by rw [e,← l,List.take_left]
  rw [← e2]
  apply List.ext_getElem?
  intro k
  by_cases hk:k < lo
  ·rw [AX hk,AX hk,Au,Au,R.rp.out k (.inl hk)]
  ·rw [B0 (by rw [z9];omega),B0 (by rw [z9];omega)]
 rw [← this,Ak]
theorem Iv.mod {a0:Array Keyed}{st:SortSt}{lo i:Nat}(I:Iv kd κ a0 st lo){f:Nat × Nat × Nat→Nat × Nat × Nat}(hf:∀ t,(f t).1=t.1∧(f t).2.1=t.2.1):Iv kd κ a0 (setPending st ((pendingOf st).modify i f)) lo:=by
 obtain ⟨rs,T,e,l,p⟩:=I.ex
 refine ⟨⟨I.tb.kind,I.tb.failed⟩,I.pm,rs,T,e,l,?_⟩
 show PdL κ 0 ((pendingOf st).modify i f).toList rs
 rw [Array.toList_modify]
 exact p.same (nc hf _ _)
theorem Iv.push {a0:Array Keyed}{st:SortSt}{lo n w:Nat}(I:Iv kd κ a0 st lo)(hn:0 < n)(hz:lo+n≤(arrOf st).size)(hs:SrI κ (arrOf st) lo (lo+n)):Iv kd κ a0 (setPending st ((pendingOf st).push (lo,n,w))) (lo+n):=by
 obtain ⟨rs,T,e,l,p⟩:=I.ex
 have lT:lo+T.length=(arrOf st).size:=by rw [← zL,e,zI,l]
 have ln:(T.take n).length=n:=by rw [z9];omega
 have at_:∀ i x,T[i]? = some x→KK κ (arrOf st) (lo+i)=kof κ x:=fun i x hx=>ng (by rw [e,Al (by omega),← l,BL];exact hx)
 refine ⟨⟨I.tb.kind,I.tb.failed⟩,I.pm,rs++[T.take n],T.drop n,?_,?_,?_⟩
 ·show (arrOf st).toList=_
  rw [e,BM,Cw,zR,Ak]
 ·rw [BM,Cw,zI,l,ln]
 ·show PdL κ 0 ((pendingOf st).push (lo,n,w)).toList _
  rw [BJ]
  refine PdL.join p ⟨by rw [l];omega,ln.symm,by omega,?_,trivial⟩
  refine Bf.mpr fun i j hi hj EK=>?_
  rw [z9] at hi hj
  rw [List.getElem_take,List.getElem_take]
  have:=hs (lo+i) (lo+j) (by omega) (by omega) (by omega)
  rw [at_ i _ (fu (by omega)),at_ j _ (fu (by omega))] at this
  exact this
theorem vA {l:List (Nat × Nat × Nat)}{i:Nat}(h:i+1 < l.length):∃ p x y q,l=p++x::y::q∧p.length=i:=by
 refine ⟨l.take i,l[i],l[i+1],l.drop (i+2),?_,by rw [z9];omega⟩
 conv=>lhs;rw [← Ak i l]
 rw [AI (by omega),AI h]
section
variable {prog:Program} {w:World} {A:Around} {E:Value→Shared→Prop} {s:Shared}
theorem e8 {a0:Array Keyed}{st:SortSt}{lo i:Nat}{Q:Bool→SortSt→Prop}(hO:Lt1 κ prog w A s kd)(h0:KeysOf κ a0)(I:Iv kd κ a0 st lo)(hi:i+1 < (pendingOf st).size)
  (h:∀ st',Iv kd κ a0 st' lo→(pendingOf st').size+1=(pendingOf st).size→(∀ k,lo≤k→(arrOf st')[k]? = (arrOf st)[k]?)→Q true st'):wpS (model prog w) A E s (mergeAt' i) Q st:=by
 obtain ⟨rs,T,e,l,p⟩:=I.ex
 obtain ⟨p1,x,y,p2,ep,lp⟩:=vA (l:=(pendingOf st).toList) (i:=i) (by rw [zL];exact hi)
 rw [ep] at p
 obtain ⟨r1,r2,er,_,P1,P2⟩:=p.app
 match r2,P2,er with
 | A1::B1::r2,P2,er =>
  obtain ⟨x1,x2,x3,x4,y1,y2,y3,y4,P3⟩:=P2
  obtain ⟨xa,xb,xc⟩:=x
  obtain ⟨ya,yb,yc⟩:=y
  dsimp only at x1 x2 y1 y2
  subst er
  have ea:(arrOf st).toList=r1.flatten++(A1++(B1++(r2.flatten++T))):=by
   rw [e]
   simp only [BM,Bv,zR]
  have e1:(pendingOf st)[i]? = some (r1.flatten.length,A1.length,xc):=by
   rw [← Au,ep,Al (by omega),lp,Di,x1,x2,D7]
   rfl
  have e2:(pendingOf st)[i+1]? = some (r1.flatten.length+A1.length,B1.length,yc):=by
   rw [← Au,ep,Al (by omega),lp,BL,y1,y2,D7]
   rfl
  refine sN hO I.tb (I.gd h0) e1 e2 ea rfl rfl rfl x3 y3 x4 y4 fun st' R t1 t2 t3 M=>?_
  have lR:R.length=A1.length+B1.length:=by rw [M.1.length_eq,zI]
  have ep':(pendingOf st').toList=p1++(r1.flatten.length,A1.length+B1.length,xc)::p2:=by
   rw [t2,Array.toList_eraseIdxIfInBounds,C8,ep,List.set_append_right _ _ (by omega),List.eraseIdx_append_of_length_le (by omega),lp,Di,BL]
   rfl
  have eT:(arrOf st').toList=(r1++R::r2).flatten++T:=by
   rw [t3]
   simp only [BM,Bv,zR]
  have lT:(r1++R::r2).flatten.length=lo:=by
   rw [← l]
   simp only [BM,Bv,zI,lR]
   omega
  refine h st' ⟨t1,?_,r1++R::r2,T,eT,lT,?_⟩ ?_ fun k hk=>?_
  ·refine Array.Perm.trans (BA.mpr ?_) I.pm
   rw [t3,ea,← zR A1]
   exact Bh _ (M.1.append_right _)
  ·rw [ep']
   refine PdL.join P1 ⟨by omega,lR.symm,by omega,M.2,?_⟩
   rw [lR,← D2]
   exact P3
  ·rw [← zL,← zL,ep',ep]
   simp only [zI,AC]
   omega
  ·rw [← Au,← Au,eT,e,Al (by omega),Al (by omega),lT,l]
theorem Iv.done {a0:Array Keyed}{st:SortSt}(I:Iv kd κ a0 st a0.size)(h:(pendingOf st).size≤1):SortedToK κ (arrOf st) a0.size:=by
 obtain ⟨rs,T,e,l,p⟩:=I.ex
 have hz:(arrOf st).toList.length=a0.size:=by rw [zL];exact I.pm.size_eq
 have hT:T=[]:=Ct.mp (by rw [e,zI,l] at hz;omega)
 subst hT
 rw [AY] at e
 rw [← zL] at h
 have sr:Srt κ (arrOf st).toList:=by
  rw [e]
  match (pendingOf st).toList,rs,p,h with
  | [],[],_,_=>exact List.Pairwise.nil
  | [_],[r],p,_=>rw [Cw];exact p.2.2.2.1
  | _::_::_,_,_,h=>simp at h
 intro i j EK hj
 have e1:=fu (l:=(arrOf st).toList) (i:=i) (by omega)
 have e2:=fu (l:=(arrOf st).toList) (i:=j) (by omega)
 rw [ng e1,ng e2]
 exact sr.at EK e1 e2
structure SB (kd:SortKind) (a0:Array Keyed) (st:SortSt):Prop where
 perm:(arrOf st).Perm a0
 kind:kindOf st=kd
 failed:failedOf st=none
 pend:pendingOf st=#[]
theorem pR {a0:Array Keyed}{st:SortSt}{Q:Unit→SortSt→Prop}(hO:Lt1 κ prog w A s kd)(h0:KeysOf κ a0)(hB:SB kd a0 st)
  (h:∀ st',(arrOf st').Perm a0→failedOf st'=none→SortedToK κ (arrOf st') a0.size→Q () st'):wpS (model prog w) A E s sortRuns' Q st:=by
 rw [sortRuns'_eq]
 refine zW (C4 ?_)
 dsimp only
 simp only [hB.perm.size_eq]
 refine zW (Bp (AQ
  (I:=fun x c st'=>∃ lo,c=(none,lo)∧x≤lo∧lo≤a0.size∧Iv kd κ a0 st' lo)
  (Q:=fun c st'=>c=(none,a0.size)∧Iv kd κ a0 st' a0.size) ?step ?fin ⟨0,rfl,zU _,Ay _,⟨hB.kind,hB.failed⟩,hB.perm,[],(arrOf st).toList,rfl,rfl,by rw [hB.pend];exact trivial⟩) ?post)
 case fin =>
  rintro c st' ⟨lo,rfl,h1,h2,I⟩
  have:lo=a0.size:=by omega
  subst this
  exact ⟨rfl,I⟩
 case step =>
  rintro x c st' hx1 hx2 ⟨lo,rfl,h1,h2,I⟩
  have hz:(arrOf st').size=a0.size:=I.pm.size_eq
  dsimp only
  by_cases hge:lo≥a0.size
  ·refine ao hge ?_
   have:lo=a0.size:=by omega
   subst this
   exact zZ ⟨rfl,I⟩
  ·refine aq hge ?_
   refine zW (pL hO I.tb (I.gd h0) (by omega) (by omega) fun n E1 n1 n2 R s2=>?_)
   have I2:=I.part R
   have hz2:(arrOf E1).size=a0.size:=I2.pm.size_eq
   dsimp only
   by_cases hm:n < minRun' a0.size a0.size 0
   ·refine ao hm ?_
    refine zW (DW (BU ⟨rfl,?_⟩))
    refine zW (pM hO I2.tb (I2.gd h0) (by omega) (by omega) s2 fun st3 R3 s3=>?_)
    simp only [CT,Ac,A6]
    have M1:1≤(min (a0.size - lo) (minRun' a0.size a0.size 0)):=by omega
    have M2:lo+(min (a0.size - lo) (minRun' a0.size a0.size 0))≤a0.size:=by omega
    have IX:=I2.part R3
    have S3:=s3
    refine zW (C4 ?_)
    cases (pendingOf st3).back? with
    | none=>exact zW (Cg (zZ ⟨lo+(min (a0.size - lo) (minRun' a0.size a0.size 0)),rfl,by omega,M2,IX.push M1 (by rw [IX.pm.size_eq];exact M2) S3⟩))
    | some t =>
     obtain ⟨a,b,c⟩:=t
     dsimp only
     refine zW (Bp (AQ (I:=fun _ c ES=>c=(none,())∧Iv kd κ a0 ES lo∧∀ k,lo≤k→(arrOf ES)[k]? = (arrOf st3)[k]?)
      (Q:=fun c ES=>c=(none,())∧Iv kd κ a0 ES lo∧∀ k,lo≤k→(arrOf ES)[k]? = (arrOf st3)[k]?) ?step1 (fun _ _ h=>h) ⟨rfl,IX,fun _ _=>rfl⟩) ?post1)
     case step1 =>
      rintro y c ES _ _ ⟨rfl,Iw,kw⟩
      refine zW (C4 ?_)
      by_cases hz:(pendingOf ES).size > 1
      ·rw [if_pos hz]
       cases e:(pendingOf ES)[(pendingOf ES).size - 2]? with
       | none=>exact zZ ⟨rfl,Iw,kw⟩
       | some t =>
        obtain ⟨a',b',c'⟩:=t
        dsimp only
        by_cases hp:c'≤power' a0.size (2*a+b) (2*a+b+b+(min (a0.size - lo) (minRun' a0.size a0.size 0))) a0.size
        ·refine ao hp ?_
         exact zZ ⟨rfl,Iw,kw⟩
        ·refine aq hp ?_
         refine zW (e8 hO h0 Iw (by omega) fun stq Iq _ k2=>?_)
         simp only [CT,Ac,A6]
         exact zZ ⟨rfl,Iq,fun k hk=>(k2 k hk).trans (kw k hk)⟩
      ·rw [if_neg hz]
       exact zZ ⟨rfl,Iw,kw⟩
     case post1 =>
      rintro c ES ⟨rfl,Iw,kw⟩
      dsimp only
      refine zW (Cg ?_)
      have J2:=Iw.mod (i:=(pendingOf ES).size - 1) (f:=fun t=>(t.1,t.2.1,power' a0.size (2*a+b) (2*a+b+b+(min (a0.size - lo) (minRun' a0.size a0.size 0))) a0.size)) fun t=>⟨rfl,rfl⟩
      refine zW (Cg (zZ ⟨lo+(min (a0.size - lo) (minRun' a0.size a0.size 0)),rfl,by omega,M2,J2.push M1 (by rw [J2.pm.size_eq];exact M2) fun i j hi EK hj=>?_⟩))
      show κ.kle (KK κ (arrOf ES) i) (KK κ (arrOf ES) j)
      rw [KK_congr (kw i (by omega)),KK_congr (kw j (by omega))]
      exact S3 i j hi EK hj
   ·refine aq hm ?_
    have M1:1≤n:=by omega
    have M2:lo+n≤a0.size:=by omega
    have IX:=I2
    have S3:=s2
    refine zW (C4 ?_)
    cases (pendingOf E1).back? with
    | none=>exact zW (Cg (zZ ⟨lo+n,rfl,by omega,M2,IX.push M1 (by rw [IX.pm.size_eq];exact M2) S3⟩))
    | some t =>
     obtain ⟨a,b,c⟩:=t
     dsimp only
     refine zW (Bp (AQ (I:=fun _ c ET=>c=(none,())∧Iv kd κ a0 ET lo∧∀ k,lo≤k→(arrOf ET)[k]? = (arrOf E1)[k]?)
      (Q:=fun c ET=>c=(none,())∧Iv kd κ a0 ET lo∧∀ k,lo≤k→(arrOf ET)[k]? = (arrOf E1)[k]?) ?step2 (fun _ _ h=>h) ⟨rfl,IX,fun _ _=>rfl⟩) ?post2)
     case step2 =>
      rintro y c ET _ _ ⟨rfl,Iw,kw⟩
      refine zW (C4 ?_)
      by_cases hz:(pendingOf ET).size > 1
      ·rw [if_pos hz]
       cases e:(pendingOf ET)[(pendingOf ET).size - 2]? with
       | none=>exact zZ ⟨rfl,Iw,kw⟩
       | some t =>
        obtain ⟨a',b',c'⟩:=t
        dsimp only
        by_cases hp:c'≤power' a0.size (2*a+b) (2*a+b+b+n) a0.size
        ·refine ao hp ?_
         exact zZ ⟨rfl,Iw,kw⟩
        ·refine aq hp ?_
         refine zW (e8 hO h0 Iw (by omega) fun stq Iq _ k2=>?_)
         simp only [CT,Ac,A6]
         exact zZ ⟨rfl,Iq,fun k hk=>(k2 k hk).trans (kw k hk)⟩
      ·rw [if_neg hz]
       exact zZ ⟨rfl,Iw,kw⟩
     case post2 =>
      rintro c ET ⟨rfl,Iw,kw⟩
      dsimp only
      refine zW (Cg ?_)
      have J2:=Iw.mod (i:=(pendingOf ET).size - 1) (f:=fun t=>(t.1,t.2.1,power' a0.size (2*a+b) (2*a+b+b+n) a0.size)) fun t=>⟨rfl,rfl⟩
      refine zW (Cg (zZ ⟨lo+n,rfl,by omega,M2,J2.push M1 (by rw [J2.pm.size_eq];exact M2) fun i j hi EK hj=>?_⟩))
      show κ.kle (KK κ (arrOf ET) i) (KK κ (arrOf ET) j)
      rw [KK_congr (kw i (by omega)),KK_congr (kw j (by omega))]
      exact S3 i j hi EK hj
 case post =>
  rintro c st' ⟨rfl,I⟩
  dsimp only
  refine zW (Bp (AQ (I:=fun x c ED=>c=(none,())∧Iv kd κ a0 ED a0.size∧((pendingOf ED).size+x≤a0.size ∨ (pendingOf ED).size≤1))
   (Q:=fun c ED=>c=(none,())∧Iv kd κ a0 ED a0.size∧(pendingOf ED).size≤1) ?_ ?_ ⟨rfl,I,?_⟩) ?_)
  ·rintro x c ED _ hx ⟨rfl,I',hp⟩
   refine zW (C4 ?_)
   by_cases h1:(pendingOf ED).size≤1
   ·refine ao h1 ?_
    exact zZ ⟨rfl,I',h1⟩
   ·refine aq h1 ?_
    refine zW (e8 hO h0 I' (have pick:∀ (b:Bool) (n:Nat),1 < n→(if b=true then n - 2 - 1 else n - 2)+1 < n:=(fun b n hn=>by cases b <;> simp <;> omega);pick _ _ (by omega)) fun E1 I2 z2 _=>?_)
    simp only [CT,Ac,A6]
    exact zZ ⟨rfl,I2,.inl (by omega)⟩
  ·rintro c ED ⟨rfl,I',hp⟩
   exact ⟨rfl,I',by omega⟩
  ·obtain ⟨rs,T,e,l,p⟩:=I.ex
   have:=p.len
   rw [zL,l] at this
   exact .inl (by omega)
  ·rintro c ED ⟨rfl,I',hp⟩
   exact zZ (h ED I'.pm I'.tb.failed (I'.done hp))
end
end Tv
namespace Tv
open PySem PyProof.Rows
variable {κ:KeyKind} {kd:SortKind}
section
variable {prog:Program} {w:World} {A:Around} {E:Value→Shared→Prop} {s:Shared}
theorem pS {a:Addr}{EB:List Value}{m:Nat}{P:Fin→Shared→Prop}(at_:s.heap.get? a=some (seqObj "list" EB.toArray m))(g:KeysOf κ (pairsOf EB))
  (hO:Lt1 κ prog w A { s with heap:=((s.heap.update a (Obj.mapSeq fun _=>#[])).push (seqObj "tuple" EB.toArray 0)).push (seqObj "list" #[] 0) } kd) (one:∀ x y r,EB=x::y::r→∀ (Q:SortKind→Shared→Prop),Q kd { s with heap:=((s.heap.update a (Obj.mapSeq fun _=>#[])).push (seqObj "tuple" EB.toArray 0)).push (seqObj "list" #[] 0) }→wpAny (model prog w) A (keyKind' (x::y::r).toArray) Q E { s with heap:=((s.heap.update a (Obj.mapSeq fun _=>#[])).push (seqObj "tuple" EB.toArray 0)).push (seqObj "list" #[] 0) }) (lim:EB.length≤sizeLine)
  (q:∀ st:SortSt,(arrOf st).Perm (pairsOf EB)→SortedToK κ (arrOf st) (pairsOf EB).size→P (.done (.ret .none)) { s with heap:=sortedHeap s.heap a EB ((arrOf st).map (·.2)) }) :
  wpAny (model prog w) A (Builtin.«list.sort» ⟨[.ref a],[]⟩) P E s:=by
 have la:=z7 at_
 have lz:EB.toArray.size=EB.length:=by simp
 rw [list_sort_plain]
 refine zK (CI at_ rfl (zK (Dv at_ rfl ?_ (by rw [lz];exact lim))))
 obtain ⟨n1,at1⟩:∃ n1,(s.heap.update a (Obj.mapSeq fun _=>#[])).get? a=some (seqObj "list" #[] n1):=⟨_,get?_update_seq at_ fun _=>#[]⟩
 refine zK (seqEpoch_at at1 rfl (zK (wpAny_newTuple (zK (CS (BD ?_))))))
 have at2:(((s.heap.update a (Obj.mapSeq fun _=>#[])).push (seqObj "tuple" EB.toArray 0)).push (seqObj "list" #[] 0)).get? a=some (seqObj "list" #[] n1) :=
  zM _ (zM _ at1)
 show wpAny (model prog w) A _ P E { s with heap:=((s.heap.update a (Obj.mapSeq fun _=>#[])).push (seqObj "tuple" EB.toArray 0)).push (seqObj "list" #[] 0) }
 dsimp only
 by_cases two:EB.toArray.size < 2
 ·rw [if_pos two,if_pos two]
  refine zK (Ab ?_)
  rw [StateT.run_pure]
  refine zK (Ab ?_)
  dsimp only
  have zz:((EB.toArray.zip EB.toArray).map (·.2)).size≤sizeLine+1:=by
   rw [Array.size_map]
   show (pairsOf EB).size≤_
   rw [pairsOf_size]
   omega
  refine zK (seqEpoch_at at2 rfl (zK (Dv at2 rfl ?_ (hsz2:=zz))))
  simp only [bne_self_eq_false,Ac,A6]
  refine Ab (q (SortSt.mk' general' (EB.toArray.zip EB.toArray) #[] 7 none) (DU _) fun i j EK hj=>?_)
  rw [pairsOf_size] at hj
  have:i=j:=by omega
  subst this
  exact A5 _
 ·rw [if_neg two,if_neg two]
  obtain ⟨x,y,r,rfl⟩:∃ x y r,EB=x::y::r:=by
   match EB,lz,two with
   | [],_,t=>exact absurd (by simp) t
   | [_],_,t=>exact absurd (by simp) t
   | x::y::r,_,_=>exact ⟨x,y,r,rfl⟩
  refine zK (one _ _ _ rfl _ (zK (BR (pR (κ:=κ) hO (a0:=pairsOf (x::y::r)) (st:=SortSt.mk' kd ((x::y::r).toArray.zip (x::y::r).toArray) #[] 7 none)
   (Q:=fun _ st=>(arrOf st).Perm (pairsOf (x::y::r))∧failedOf st=none∧SortedToK κ (arrOf st) (pairsOf (x::y::r)).size) g ⟨DU _,rfl,rfl,rfl⟩ fun st c1 c2 c3=>⟨c1,c2,c3⟩) ?_ fun _ _ e=>e)))
  rintro ⟨⟨⟩,st⟩ s2 ⟨rfl,c1,c2,c3⟩
  dsimp only
  have zz:((arrOf st).map (·.2)).size≤sizeLine+1:=by
   rw [Array.size_map,c1.size_eq,pairsOf_size]
   omega
  refine zK (seqEpoch_at at2 rfl (zK (Dv at2 rfl ?_ (hsz2:=zz))))
  rw [c2]
  simp only [bne_self_eq_false,Ac,A6]
  exact Ab (q st c1 c3)
end
end Tv
namespace Ts
open PySem PyProof.Rows
section
variable {κ:KeyKind} {prog:Program} {w:World} {A:Around} {E:Value→Shared→Prop} {s:Shared}
end
end Ts
namespace Wd
section
variable {α:Type}
def Adj:List α→α→α→Prop
 | a::b::t,x,y=>(x=a∧y=b) ∨ Adj (b::t) x y
 | _,_,_=>False
theorem dY {a b:α}{t:List α}{x y:α}:Adj (a::b::t) x y ↔ (x=a∧y=b) ∨ Adj (b::t) x y:=Iff.rfl
theorem i8 {a x y:α}:Adj [a] x y ↔ False:=Iff.rfl
theorem e9:∀ (l:List α) (c:α) (m:List α) (x y:α),Adj (l++c::m) x y ↔ Adj (l++[c]) x y ∨ Adj (c::m) x y
 | [],c,m,x,y=>by simp [i8]
 | [a],c,m,x,y=>by
  show Adj (a::c::m) x y ↔ Adj [a,c] x y ∨ _
  rw [dY,dY,i8]
  simp
 | a::b::l,c,m,x,y=>by
  have ih:=e9 (b::l) c m x y
  show Adj (a::b::(l++c::m)) x y ↔ Adj (a::b::(l++[c])) x y ∨ _
  rw [dY,dY]
  have ih:Adj (b::(l++c::m)) x y ↔ Adj (b::(l++[c])) x y ∨ Adj (c::m) x y:=ih
  rw [ih,or_assoc]
theorem nh:∀ {l:List α} {x y:α},Adj l x y→x∈l∧y∈l
 | [],_,_,h=>h.elim
 | [a],_,_,h=>h.elim
 | a::b::t,x,y,h=>by
  rcases h with ⟨rfl,rfl⟩ | h
  ·simp
  ·have:=nh h
   exact ⟨zO _ this.1,zO _ this.2⟩
theorem e_:∀ {l:List α} {x y:α},Adj l x y→∃ s t,l=s++x::y::t
 | [],_,_,h=>h.elim
 | [a],_,_,h=>h.elim
 | a::b::t,x,y,h=>by
  rcases h with ⟨rfl,rfl⟩ | h
  ·exact ⟨[],t,rfl⟩
  ·obtain ⟨s,t',e⟩:=e_ h
   exact ⟨a::s,t',by rw [e];rfl⟩
theorem jT {s t:List α}{x y:α}:Adj (s++x::y::t) x y:=by
 rw [e9]
 exact .inr (.inl ⟨rfl,rfl⟩)
theorem ni {β:Type}(f:α→β):∀ {l:List α} {x y:β},Adj (l.map f) x y→∃ a b,Adj l a b∧x=f a∧y=f b
 | [],_,_,h=>h.elim
 | [a],_,_,h=>h.elim
 | a::b::t,x,y,h=>by
  rcases h with ⟨rfl,rfl⟩ | h
  ·exact ⟨a,b,.inl ⟨rfl,rfl⟩,rfl,rfl⟩
  ·obtain ⟨a',b',h',e1,e2⟩:=ni f (l:=b::t) h
   exact ⟨a',b',.inr h',e1,e2⟩
theorem sO {l:List α}{a b:α}(h:Adj l a b):Adj l.reverse b a:=by
 obtain ⟨s,t,rfl⟩:=e_ h
 have:(s++a::b::t).reverse=t.reverse++b::a::s.reverse:=by simp
 rw [this]
 exact jT
def Nx:List α→α→α→Prop
 | [],_,_=>False
 | h::t,x,y=>Adj (h::t++[h]) x y
theorem fc:∀ (A B:List α) (x y:α),Nx (A++B) x y ↔ Nx (B++A) x y
 | [],B,x,y=>by simp
 | a::A,[],x,y=>by simp
 | a::A,b::B,x,y=>by
  show Adj (a::(A++b::B)++[a]) x y ↔ Adj (b::(B++a::A)++[b]) x y
  have e1:a::(A++b::B)++[a]=(a::A)++b::(B++[a]):=by simp
  have e2:b::(B++a::A)++[b]=(b::B)++a::(A++[b]):=by simp
  rw [e1,e2,e9 (a::A) b,e9 (b::B) a,or_comm]
  rfl
theorem qJ {w:List α}{x y:α}(h:Nx w x y):x∈w∧y∈w:=by
 cases w with
 | nil=>exact h.elim
 | cons a t =>
  have:=nh h
  simp at this ⊢
  exact ⟨by rcases this.1 with h | h | h <;> simp [h],by rcases this.2 with h | h | h <;> simp [h]⟩
theorem vB {β:Type}(f:α→β){w:List α}{x y:β}(h:Nx (w.map f) x y):∃ a b,Nx w a b∧x=f a∧y=f b:=by
 cases w with
 | nil=>exact h.elim
 | cons a t =>
  have h:Adj ((a::t++[a]).map f) x y:=by
   have h:Adj (f a::t.map f++[f a]) x y:=h
   simpa using h
  exact ni f h
theorem i9 {w:List α}{x:α}(h:x∈w):∃ A B,w=A++x::B:=by
 obtain ⟨A,B,e⟩:=List.append_of_mem h
 exact ⟨A,B,e⟩
theorem nj {x y:α}{t:List α}(nd:(x::t).Nodup):Nx (x::t) x y ↔ (t++[x]).head? = some y:=by
 cases t with
 | nil =>
  show Adj [x,x] x y ↔ _
  rw [dY,i8]
  simp [eq_comm]
 | cons b r =>
  show Adj (x::b::(r++[x])) x y ↔ _
  rw [dY]
  constructor
  ·rintro (⟨_,e⟩ | h)
   ·simp [e]
   ·exfalso
    have hx:x∉b::r:=(Ar.mp nd).1
    obtain ⟨s,t,e⟩:=e_ h
    have e:(b::r)++[x]=s++x::y::t:=e
    have h2:(s++x::y::t)=(s++[x])++(y::t):=by simp
    rcases List.append_eq_append_iff.mp e with ⟨a',e1,e2⟩ | ⟨c',e1,e2⟩
    ·have:=Af List.length e2
     simp only [zI,AC,A4] at this
     omega
    ·cases c' with
     | nil=>simp at e2
     | cons c c' =>
      have:c=x:=by
       have:=(Bo e2).1
       exact this.symm
      subst this
      exact hx (by rw [e1];simp)
  ·intro h
   simp at h
   exact .inl ⟨rfl,h.symm⟩
theorem xQ {w:List α}{x:α}(h:x∈w):∃ y,Nx w x y:=by
 obtain ⟨A,B,rfl⟩:=i9 h
 cases e:B++A with
 | nil=>exact ⟨x,(fc _ _ _ _).mpr (by show Adj (x::(B++A)++[x]) x x;rw [e];exact .inl ⟨rfl,rfl⟩)⟩
 | cons c r=>exact ⟨c,(fc _ _ _ _).mpr (by show Adj (x::(B++A)++[x]) x c;rw [e];exact .inl ⟨rfl,rfl⟩)⟩
theorem vC {A B:List α}(nd:(A++B).Nodup):(B++A).Nodup:=(A8.nodup_iff).mp nd
theorem vD {w:List α}{x y z:α}(nd:w.Nodup)(h1:Nx w x y)(h2:Nx w x z):y=z:=by
 obtain ⟨A,B,rfl⟩:=i9 (qJ h1).1
 have h1:=(fc _ _ _ _).mp h1
 have h2:=(fc _ _ _ _).mp h2
 have nd:(x::(B++A)).Nodup:=vC nd
 have h1:=(nj nd).mp h1
 have h2:=(nj nd).mp h2
 exact zP (h1.symm.trans h2)
theorem vE {w:List α}{x y:α}(h:Nx w x y):Nx w.reverse y x:=by
 cases w with
 | nil=>exact h.elim
 | cons a t =>
  have h:=sO (show Adj (a::t++[a]) x y from h)
  have e:(a::t++[a]).reverse=a::t.reverse++[a]:=by simp
  rw [e] at h
  have e2:(a::t).reverse=t.reverse++[a]:=by simp
  rw [e2,fc]
  exact h
theorem vF {w:List α}{x y:α}(h:Nx w.reverse y x):Nx w x y:=by
 have:=vE h
 rwa [List.reverse_reverse] at this
structure Cy (R:α→α→Prop) (w:List α):Prop where
 ne:w≠[]
 nd:w.Nodup
 st:∀ x y,Nx w x y→R x y
structure Dc (R:α→α→Prop) (u:List α) (Ws:List (List α)):Prop where
 cy:∀ w∈Ws,Cy R w
 pm:Ws.flatten.Perm u
end
def Rh (u:List L):L→L→Prop:=fun x y=>Nx u (inv x) y
theorem nq {u:List L}{k:Nat}{x y:L}(h1:u[k]? = some x)(h2:u[(k+1) % u.length]? = some y):Nx u x y:=by
 obtain ⟨hk,e1⟩:=zN.mp h1
 have e:u=u.take k++x::u.drop (k+1):=by
  rw [← e1,List.getElem_cons_drop,Ak]
 by_cases hl:k+1 < u.length
 ·rw [Ba hl] at h2
  obtain ⟨hk2,e2⟩:=zN.mp h2
  have e3:u.drop (k+1)=y::u.drop (k+2):=by rw [AI hk2,e2]
  rw [e,e3,fc]
  exact .inl ⟨rfl,rfl⟩
 ·have hl:k+1=u.length:=by omega
  rw [hl,CH] at h2
  have e3:u.drop (k+1)=[]:=By (by omega)
  rw [e,e3,fc]
  show Adj (x::(u.take k)++[x]) x y
  cases k with
  | zero =>
   rw [h1] at h2
   obtain rfl:=zP h2
   exact .inl ⟨rfl,rfl⟩
  | succ k =>
   cases u with
   | nil=>simp at hk
   | cons a t =>
    have:a=y:=by simpa using h2
    subst this
    exact .inl ⟨rfl,rfl⟩
theorem sP {u:List L}(S:Srf u)(g:Nat):Rh u (b9 u g) (b9 u (br u g)):=by
 have h:=bV S g
 refine nq (k:=br u g) ?_ (bK S _)
 rw [fu h]
 exact Af some (Bk h)
theorem vG {u:List L}(nd:u.Nodup){i j:Nat}{x:L}(h1:u[i]? = some x)(h2:u[j]? = some x):i=j:=by
 obtain ⟨hi,e1⟩:=zN.mp h1
 obtain ⟨hj,e2⟩:=zN.mp h2
 have p:=Bf.mp nd
 rcases Nat.lt_trichotomy i j with h | h | h
 ·exact absurd (e1.trans e2.symm) (p i j hi hj h)
 ·exact h
 ·exact absurd (e2.trans e1.symm) (p j i hj hi h)
theorem jU {u:List L}(S:Srf u){g h:Nat}(hg:g < u.length)(hh:h < u.length)(e:b9 u g=b9 u h):g=h:=by
 have:=vG S.nd (bK S g) (e ▸ bK S h)
 have e2:∀ g:Nat,g < u.length→(g+1) % u.length=if g+1=u.length then 0 else g+1:=fun g hg=>by
  split
  ·rename_i h
   rw [h,CH]
  ·exact Ba (by omega)
 rw [e2 g hg,e2 h hh] at this
 split at this <;> split at this <;> omega
theorem iA {u:List L}(S:Srf u){g h:Nat}(hg:g < u.length)(hh:h < u.length)(e:br u g=br u h):g=h:=by
 refine jU S hg hh ?_
 have a:=Bk (bV S g)
 have b:=Bk (bV S h)
 have:inv (b9 u g)=inv (b9 u h):=by
  rw [← a,← b]
  congr 1
 rw [← aC (b9 u g),this,aC]
def Row (u:List L)(C:List Nat)(g:Nat):Prop:=∀ a b,Adj (C++[g]) a b→b=br u a
theorem Row.on {u:List L}{C:List Nat}{g:Nat}(h:Row u C g):Row u (C++[g]) (br u g):=by
 intro a b q
 rw [zR] at q
 rcases (e9 C g [br u g] a b).mp q with q | q
 ·exact h a b q
 ·rcases q with ⟨rfl,rfl⟩ | q
  ·rfl
  ·exact q.elim
theorem Row.round {u:List L}(S:Srf u){C:List Nat}{g:Nat}(h:Row u C g)(nd:C.Nodup)(lt:∀ c∈C,c < u.length)(hg:g∈C):∃ r,C=g::r:=by
 obtain ⟨A,B,rfl⟩:=i9 hg
 rcases CJ A with rfl | ⟨A',p,e0⟩
 ·exact ⟨B,rfl⟩
 ·exfalso
  rw [CK] at e0
  subst e0
  have e1:g=br u p:=h p g (by
   have:A'++[p]++g::B++[g]=A'++p::g::(B++[g]):=by simp
   rw [this];exact jT)
  obtain ⟨M,z,e⟩:∃ M z,g::B=M++[z]:=by
   rcases CJ (g::B) with h | ⟨M,z,h⟩
   ·cases h
   ·exact ⟨M,z,by rw [h,CK]⟩
  have e2:g=br u z:=h z g (by
   have:A'++[p]++g::B++[g]=(A'++[p]++M)++z::g::[]:=by rw [e];simp
   rw [this];exact jT)
  have hz:z∈g::B:=by rw [e];simp
  have hpz:p=z:=iA S (lt p (by simp)) (lt z (by
   rw [z3];exact .inr hz)) (e1.symm.trans e2)
  subst hpz
  have:=Bu.mp nd
  exact this.2.2 p (by simp) p hz rfl
def J (u v:List L):Prop:=∀ x y,u.getLast? = some x→v.head? = some y→y≠inv x
theorem bF:∀ (u v:List L),Rd (u++v) ↔ Rd u∧Rd v∧J u v
 | [],v=>by
  constructor
  ·intro h
   exact ⟨trivial,h,fun x y hx=>by simp at hx⟩
  ·intro h
   exact h.2.1
 | [x],[]=>by
  constructor
  ·intro h
   exact ⟨trivial,trivial,fun x y _ hy=>by simp at hy⟩
  ·intro _
   exact trivial
 | [x],y::v=>by
  constructor
  ·intro h
   refine ⟨trivial,h.2,fun a b ha hb=>?_⟩
   have ha:x=a:=by simpa using ha
   have hb:y=b:=by simpa using hb
   subst ha hb
   exact h.1
  ·intro h
   exact ⟨h.2.2 x y rfl rfl,h.2.1⟩
 | x::y::u,v=>by
  have ih:=bF (y::u) v
  constructor
  ·intro h
   have h2:=ih.mp h.2
   refine ⟨⟨h.1,h2.1⟩,h2.2.1,fun a b ha hb=>h2.2.2 a b ?_ hb⟩
   rw [Dw] at ha
   exact ha
  ·intro h
   refine ⟨h.1.1,ih.mpr ⟨h.1.2,h.2.1,fun a b ha hb=>h.2.2 a b ?_ hb⟩⟩
   rw [Dw]
   exact ha
theorem vH {x y:L}(h:y=inv x):x=inv y:=by rw [h,aC]
theorem qK:∀ {w:List L},Rd w→Rd w.reverse
 | [],_=>trivial
 | x::w,h=>by
  rw [List.reverse_cons,bF]
  refine ⟨qK h.tail,trivial,fun a b ha hb=>?_⟩
  have hb:x=b:=by simpa using hb
  subst hb
  cases w with
  | nil=>simp at ha
  | cons y w =>
   have ha:y=a:=by simpa using ha
   subst ha
   intro e
   exact h.1 (vH e)
theorem xR {w:List L}(h:Rd w):Rd (bk w):=by
 have q:∀ w:List L,Rd w→Rd (w.map inv):=by
  intro w
  induction w with
  | nil=>intro _;trivial
  | cons x w ih =>
   intro h
   cases w with
   | nil=>trivial
   | cons y w=>exact ⟨fun e=>h.1 (by have e2:=Af inv e;rw [aC,aC] at e2;rw [e2]),ih h.2⟩
 exact qK (q w h)
structure Rnd (c:List L):Prop where
 ne:c≠[]
 rd:Rd c
 jn:J c c
theorem pT {r:List L}(h:r≠[])(n:Nat):(rep (n+1) r).head? = r.head?:=by
 show (rep n r++r).head? = _
 rw [gj]
 cases r with
 | nil=>exact absurd rfl h
 | cons x r=>rfl
theorem pU {r:List L}(h:r≠[])(n:Nat):(rep (n+1) r).getLast? = r.getLast?:=by
 show (rep n r++r).getLast? = _
 rw [List.getLast?_append]
 cases hr:r.getLast? with
 | none=>exact absurd (List.getLast?_eq_none_iff.mp hr) h
 | some x=>rfl
theorem jV {r:List L}{n:Nat}(h:Rnd (rep (n+1) r)):Rnd r:=by
 have hne:r≠[]:=by
  intro e
  subst e
  have:rep (n+1) ([]:List L)=[]:=by
   apply A7
   rw [dQ]
   rfl
  exact h.ne this
 have hr:Rd (rep n r++r):=h.rd
 rw [bF] at hr
 refine ⟨hne,hr.2.1,fun x y hx hy=>?_⟩
 exact h.jn x y (by rw [pU hne];exact hx) (by rw [pT hne];exact hy)
theorem qL {q:List L}(R:Rnd q):Rnd (bk q):=by
 refine ⟨fun e=>R.ne (by have:=Af bk e;rw [xC] at this;exact this),xR R.rd,fun x y hx hy=>?_⟩
 have hx:∃ a,q.head? = some a∧x=inv a:=by
  unfold bk at hx
  rw [List.getLast?_reverse,List.head?_map] at hx
  cases hq:q.head? with
  | none=>rw [hq] at hx;simp at hx
  | some a=>rw [hq] at hx;exact ⟨a,rfl,(zP hx).symm⟩
 have hy:∃ a,q.getLast? = some a∧y=inv a:=by
  unfold bk at hy
  rw [List.head?_reverse,List.getLast?_map] at hy
  cases hq:q.getLast? with
  | none=>rw [hq] at hy;simp at hy
  | some a=>rw [hq] at hy;exact ⟨a,rfl,(zP hy).symm⟩
 obtain ⟨a,ha,rfl⟩:=hx
 obtain ⟨b,hb,rfl⟩:=hy
 intro e
 have:=Af inv e
 rw [aC,aC] at this
 exact R.jn b a hb ha (by rw [this,aC])
end Wd
namespace L2
open PySem PySem.Spec PyProof.Rows Wd
def rnd (w:List L)(t:Nat):Nat:=((w.map cp)[t % w.length]?).getD 0
theorem rnd_at {w:List L}{t:Nat}{x:L}(h:(w++w)[t]? = some x):rnd w t=cp x:=by
 unfold rnd
 have hl:=(zN.mp h).1
 rw [zI] at hl
 by_cases c:t < w.length
 ·rw [Ba c,Az]
  rw [AV c] at h
  rw [h]
  rfl
 ·have e:t % w.length=t - w.length:=by
   rw [Nat.mod_eq_sub_mod (by omega),Ba (by omega)]
  rw [e,Az]
  rw [Al (by omega)] at h
  rw [h]
  rfl
end L2
namespace Wd
theorem pV {x:L}{r:List L}(h:Rnd (x::r)):Rnd (r++[x]):=by
 obtain ⟨_,h2,h3⟩:=h
 refine ⟨by simp,?_,?_⟩
 ·rw [bF]
  refine ⟨h2.tail,trivial,fun a b ha hb=>?_⟩
  have hb:x=b:=zP hb
  subst hb
  refine h3 a x ?_ rfl
  rw [List.getLast?_cons,ha]
  rfl
 ·intro a b ha hb
  have ha:x=a:=by simpa using ha
  subst ha
  cases r with
  | nil =>
   have hb:x=b:=zP hb
   subst hb
   exact fun e=>dE _ e.symm
  | cons y r =>
   have hb:y=b:=zP hb
   subst hb
   exact h2.1
end Wd
namespace L2
open PySem PySem.Spec PyProof.Rows Wd
end L2
namespace Wd
def Pre (u:List L)(S:List Nat):Prop:=∀ g∈S,∃ g'∈S,br u g'=g
theorem vI {u:List L}(U:Srf u){S0:List Nat}(pre:Pre u S0){g0:Nat}(h0:g0∉S0):∀ (k:Nat) (C:List Nat) (g:Nat),k+(S0++C).length=u.length+1→Sn u (S0++C)→g < u.length→Row u C g→((C=[]∧g=g0) ∨ ∃ r,C=g0::r) →
  ∃ C',wk u g (S0++C) (C.map (b9 u))=(S0++C',C'.map (b9 u))∧Sn u (S0++C')∧(∃ r,C'=g0::r)∧Row u C' g0:=by
 intro k
 induction k with
 | zero =>
  intro C g hk hs _ _ _
  have:=hs.le
  omega
 | succ k ih =>
  intro C g hk hs hg hr hh
  by_cases hm:g∈S0++C
  ·rw [mw hm]
   have nd:=Bu.mp hs.nd
   have hC:∃ r,C=g0::r:=by
    rcases hh with ⟨rfl,rfl⟩ | h
    ·exact absurd (by simpa using hm) h0
    ·exact h
   have hgC:g∈C:=by
    rcases z3.mp hm with h | h
    ·exfalso
     obtain ⟨g',h1,h2⟩:=pre g h
     obtain ⟨M,z,e⟩:∃ M z,C=M++[z]:=by
      obtain ⟨r,rfl⟩:=hC
      rcases CJ (g0::r) with h | ⟨M,z,h⟩
      ·cases h
      ·exact ⟨M,z,by rw [h,CK]⟩
     have e2:g=br u z:=hr z g (by
      have:C++[g]=M++z::g::[]:=by rw [e];simp
      rw [this];exact jT)
     have hz:z∈C:=by rw [e];simp
     have:=iA U (hs.lt g' (z3.mpr (.inl h1))) (hs.lt z (z3.mpr (.inr hz))) (h2.trans e2)
     exact nd.2.2 g' h1 z hz this
    ·exact h
   obtain ⟨r,e⟩:=Row.round U hr nd.2.1 (fun c hc=>hs.lt c (z3.mpr (.inr hc))) hgC
   obtain ⟨r',e'⟩:=hC
   have:g=g0:=by rw [e] at e';exact (Bo e').1
   subst this
   exact ⟨C,rfl,hs,⟨r,e⟩,hr⟩
  ·have E5:=hs.snoc hg hm
   rw [jI hs hg hm]
   have e1:S0++C++[g]=S0++(C++[g]):=zR ..
   have e2:C.map (b9 u)++[b9 u g]=(C++[g]).map (b9 u):=by simp
   rw [e1] at E5 ⊢
   rw [e2]
   refine ih (C++[g]) (br u g) ?_ E5 (bV U g) hr.on (.inr ?_)
   ·rw [← e1,zI,Aq]
    omega
   ·rcases hh with ⟨rfl,rfl⟩ | ⟨r,rfl⟩
    ·exact ⟨[],rfl⟩
    ·exact ⟨r++[g],rfl⟩
def Gc (u:List L)(C:List Nat):Prop:=∃ g r,C=g::r∧Row u C g
theorem Gc.st {u:List L}{C:List Nat}(h:Gc u C){a b:Nat}(n:Nx C a b):b=br u a:=by
 obtain ⟨g,r,rfl,h⟩:=h
 exact h a b n
theorem Gc.pre {u:List L}{C:List Nat}(h:Gc u C){g:Nat}(hg:g∈C):∃ g'∈C,br u g'=g:=by
 obtain ⟨y,hy⟩:=xQ (w:=C.reverse) (x:=g) (by simpa using hg)
 have hy:=vF hy
 exact ⟨y,(qJ hy).1,(h.st hy).symm⟩
structure HI (u:List L) (i:Nat) (Cs:List (List Nat)):Prop where
 s:(ck u i).1=Cs.flatten
 w:(ck u i).2=Cs.map (List.map (b9 u))
 sn:Sn u Cs.flatten
 gc:∀ C∈Cs,Gc u C
 al:∀ g,g < i→g∈Cs.flatten
theorem qM {u:List L}(U:Srf u):∀ i,i≤u.length→∃ Cs,HI u i Cs
 | 0,_=>⟨[],rfl,rfl,Sn.nil u,fun _ h=>absurd h (by simp),fun g h=>absurd h (by omega)⟩
 | i+1,hi=>by
  obtain ⟨Cs,h⟩:=qM U i (by omega)
  by_cases hm:i∈(ck u i).1
  ·refine ⟨Cs,by rw [eW hm];exact h.s,by rw [eW hm];exact h.w,h.sn,h.gc,fun g hg=>?_⟩
   by_cases e:g=i
   ·subst e
    rw [← h.s]
    exact hm
   ·exact h.al g (by omega)
  ·rw [h.s] at hm
   have pre:Pre u Cs.flatten:=fun g hg=>by
    obtain ⟨C,hC,hg⟩:=Cc.mp hg
    obtain ⟨g',h1,h2⟩:=(h.gc C hC).pre hg
    exact ⟨g',Cc.mpr ⟨C,hC,h1⟩,h2⟩
   have hle:=h.sn.le
   obtain ⟨C,e,hs,⟨r,hr⟩,hrow⟩:=vI U pre hm (u.length+1 - Cs.flatten.length) [] i (by rw [AY];omega) (by rw [AY];exact h.sn) (by omega) (fun a b q=>q.elim) (.inl ⟨rfl,rfl⟩)
   rw [AY] at e
   have e:wk u i Cs.flatten []=(Cs.flatten++C,C.map (b9 u)):=e
   have ho:ck u (i+1)=((wk u i (ck u i).1 []).1,(ck u i).2++[(wk u i (ck u i).1 []).2]):=dU (by rw [h.s];exact hm)
   rw [h.s,e,h.w] at ho
   have ef:(Cs++[C]).flatten=Cs.flatten++C:=by simp
   refine ⟨Cs++[C],by rw [ho,ef],by rw [ho];simp,by rw [ef];exact hs,fun D hD=>?_,fun g hg=>?_⟩
   ·rcases z3.mp hD with hD | hD
    ·exact h.gc D hD
    ·rw [zJ] at hD
     subst hD
     exact ⟨i,r,hr,hrow⟩
   ·rw [ef,z3]
    by_cases e:g=i
    ·subst e
     exact .inr (by rw [hr];simp)
    ·exact .inl (h.al g (by omega))
theorem xS {α:Type}[DecidableEq α]{a b:List α}(na:a.Nodup)(nb:b.Nodup)(h:∀ x,x∈a ↔ x∈b):a.Perm b:=by
 rw [List.perm_iff_count]
 intro x
 by_cases hx:x∈a
 ·rw [na.count,nb.count,if_pos hx,if_pos ((h x).mp hx)]
 ·rw [List.count_eq_zero.mpr hx,List.count_eq_zero.mpr (fun q=>hx ((h x).mpr q))]
theorem nt {α β:Type}(f:α→β):∀ {l:List α},l.Nodup→(∀ x∈l,∀ y∈l,f x=f y→x=y)→(l.map f).Nodup
 | [],_,_=>A9
 | a::t,nd,h=>by
  rw [AA,Ar]
  obtain ⟨h1,h2⟩:=Ar.mp nd
  refine ⟨fun q=>?_,nt f h2 fun x hx y hy=>h x (zO _ hx) y (zO _ hy)⟩
  obtain ⟨b,hb,e⟩:=AE.mp q
  have:=h b (zO _ hb) a zX e
  exact h1 (this ▸ hb)
theorem fL {u:List L}(U:Srf u):Dc (Rh u) u (hol u):=by
 obtain ⟨Cs,h⟩:=qM U u.length (zU _)
 have hw:hol u=Cs.map (List.map (b9 u)):=h.w
 rw [hw]
 have inj:∀ x∈Cs.flatten,∀ y∈Cs.flatten,b9 u x=b9 u y→x=y:=fun x hx y hy e=>jU U (h.sn.lt x hx) (h.sn.lt y hy) e
 refine ⟨fun w hw=>?_,?_⟩
 ·obtain ⟨C,hC,rfl⟩:=AE.mp hw
  have g:=h.gc C hC
  have sub:∀ x∈C,x∈Cs.flatten:=fun x hx=>Cc.mpr ⟨C,hC,hx⟩
  refine ⟨?_,nt _ (List.Sublist.nodup (List.sublist_flatten_of_mem hC) h.sn.nd) fun x hx y hy=>inj x (sub x hx) y (sub y hy),fun x y n=>?_⟩
  ·obtain ⟨g0,r,rfl,_⟩:=g
   simp
  ·obtain ⟨a,b,n',rfl,rfl⟩:=vB _ n
   obtain rfl:=g.st n'
   exact sP U a
 ·rw [← List.map_flatten]
  refine xS (nt _ h.sn.nd inj) U.nd fun x=>?_
  constructor
  ·intro hx
   obtain ⟨g,_,rfl⟩:=AE.mp hx
   exact cv U g
  ·intro hx
   obtain ⟨k,hk,e⟩:=List.mem_iff_getElem.mp hx
   have hp:=U.pos
   refine AE.mpr ⟨(k+u.length - 1) % u.length,h.al _ (Nat.mod_lt _ hp),?_⟩
   have e2:((k+u.length - 1) % u.length+1) % u.length=k:=by
    rw [Nat.mod_add_mod]
    have:k+u.length - 1+1=k+u.length:=by omega
    rw [this,Nat.add_mod_right]
    exact Ba hk
   have:=bK U ((k+u.length - 1) % u.length)
   rw [e2,fu hk,e] at this
   exact (zP this).symm
section
variable {α:Type}
end
end Wd
namespace PySem
end PySem
namespace L2
open PySem PySem.Spec PyProof.Rows Wd
section
variable {X:Cx}
end
end L2
namespace Wd
def img (ws:List (List L))(x:L):List L:=if x.val < 6 then ws.getD x.val [] else bk (ws.getD (x.val - 6) [])
def sub (ws:List (List L))(u:List L):List L:=u.flatMap (img ws)
theorem nu (x:L):(inv x).val=if x.val < 6 then x.val+6 else x.val - 6:=by unfold inv; split <;> rfl
def InM (n:Nat)(u:List L):Prop:=∀ x∈u,x.val % 6 < n
theorem InM.bk {n:Nat}{u:List L}(h:InM n u):InM n (bk u):=by
 intro x hx
 unfold Wd.bk at hx
 rw [List.mem_reverse,AE] at hx
 obtain ⟨y,hy,rfl⟩:=hx
 have h1:=h y hy
 have:=y.isLt
 rw [nu]
 split <;> omega
end Wd
namespace PySem
section
variable {prog:Program} {w:World} {A:Around} {E:Value→Shared→Prop}
end
end PySem
namespace L2
open PySem PySem.Spec PyProof.Rows Wd
section
variable {X:Cx} {pos:Pos}
end
section
variable {X:Cx}
end
theorem vJ:∀ i:_root_.Fin 6,("abcdef":Str).cps[i.val]? = some (cp ⟨i.val,by omega⟩):=by decide +kernel
theorem sm_at {i c:Nat}(h:("abcdef":Str).cps[i]? = some c):∃ x:L,x.val=i∧i < 6∧c=cp x:=by
 have hl:i < 6:=by
  obtain ⟨h1,_⟩:=Bz.mp h
  have:("abcdef":Str).cps.size=6:=by decide +kernel
  omega
 have:=vJ ⟨i,hl⟩
 rw [this] at h
 exact ⟨⟨i,by omega⟩,rfl,hl,(zP h).symm⟩
end L2
namespace Kx
open PySem PySem.Spec PyProof.Rows L2 Wd
end Kx
namespace Wd
end Wd
namespace L2
open PySem PySem.Spec PyProof.Rows Wd
section
variable {X:Cx}
end
end L2
namespace Kx
open PySem PySem.Spec PyProof.Rows L2 Wd
end Kx
namespace L2
open PySem PySem.Spec PyProof.Rows Wd
section
variable {X:Cx}
end
end L2
namespace L2
open PySem PySem.Spec PyProof.Rows
section
variable {prog:Program} {w:World} {A:Around} {E:Value→Shared→Prop} {s:Shared}
theorem pX {t b:Addr}{ws:List Value}{Q:Value→Shared→Prop}(ht:IsTup s.heap t ([]:List Value).toArray)(hb:IsTup s.heap b ws.toArray)(h1:Q (.ref b) s):wpAny (model prog w) A (binaryOp .Add (.ref t) (.ref b)) Q E s:=by
 obtain ⟨⟨c1,d1,o1,l1⟩,e1,g1,n,k1⟩:=id ht
 obtain ⟨⟨c2,d2,o2,l2⟩,e2,g2,n2,k2⟩:=id hb
 simp only at g1 k1 g2 k2
 subst g1 k1 g2 k2
 exact concat_meets ⟨_,e1,rfl⟩ ⟨_,e2,rfl⟩ DA seq_tuple_add Cu Cn (Ce _ _) (tuple_addW0 t b _ ws.toArray n n2 d1 d2 l1 l2 rfl) ⟨e1,e2,h1⟩
end
section
variable {X:Cx}
end
end L2
namespace L2
open PySem PySem.Spec PyProof.Rows Wd
section
variable {X:Cx}
inductive vK (x:V)(y:V)(H:Hp)(Q:VK):Prop
 | mk:∀ a b xs ys,(x = .ref a)→(y = .ref b)→(H a=some (.tup xs))→(H b=some (.tup ys))→(xs.length+ys.length≤sizeLine)→(∀ p H',aE H H'→H' p=some (.tup (xs++ys))→Q (.ref p) H')→vK x y H Q
theorem sQ:OpR X (binaryOp .Add) vK:=by
 intro EA s σ H x y v u Q I rx ry h
 obtain ⟨a,b,xs,ys,ex,ey,ha,hb,hz,q⟩:=h
 by_cases hx:xs=[]
 ·subst ex ey hx
  cases rx
  cases ry
  obtain ⟨EB,r1,p1,_⟩:=I.tuple (SqT.of ha)
  obtain ⟨E2,r2,p2,_⟩:=I.tuple (SqT.of hb)
  cases r1
  exact pX p1 p2 ⟨.ref b,H,I,rfl,q b H (aE.refl _) hb⟩
 ·exact rF EA s σ H x y v u Q I rx ry ⟨a,b,xs,ys,ex,ey,SqT.of ha,SqT.of hb,hx,hz,fun e=>q a H (aE.refl _) (by rw [e,AY];exact ha),fun _ p hp=>q p _ (aE.new hp) ag⟩
end
end L2
namespace Kx
open PySem PySem.Spec PyProof.Rows L2 Wd
end Kx
namespace L2
open PySem PySem.Spec PyProof.Rows Wd
section
variable {X:Cx}
end
end L2
namespace Wd
def nm (N:List L)(x:L):L:=if x.val < 6 then N.getD x.val 0 else inv (N.getD (x.val - 6) 0)
end Wd
namespace L2
open PySem PySem.Spec PyProof.Rows Wd
theorem fe {α β:Type}(f:α→β){zs ys:List β}(p:ys.Perm zs):∀ W:List α,ys=W.map f→∃ V:List α,V.Perm W∧zs=V.map f:=by
 induction p with
 | nil =>
  intro W e
  exact ⟨W,.refl _,e⟩
 | cons x _ ih =>
  intro W e
  cases W with
  | nil=>cases e
  | cons w W =>
   obtain ⟨e1,e2⟩:=Bo e
   obtain ⟨V,h1,h2⟩:=ih W e2
   exact ⟨w::V,h1.cons w,by rw [h2,e1];rfl⟩
 | swap x y l =>
  intro W e
  match W,e with
  | a::b::W,e =>
   obtain ⟨e1,e2⟩:=Bo e
   obtain ⟨e2,e3⟩:=Bo e2
   exact ⟨b::a::W,List.Perm.swap a b W,by rw [e1,e2,e3];rfl⟩
 | trans _ _ ih1 ih2 =>
  intro W e
  obtain ⟨V,h1,h2⟩:=ih1 W e
  obtain ⟨V2,h3,h4⟩:=ih2 V h2
  exact ⟨V2,h3.trans h1,h4⟩
section
variable {X:Cx}
end
end L2
namespace Kx
open PySem PySem.Spec PyProof.Rows L2 Wd
end Kx
namespace L2
open PySem PySem.Spec PyProof.Rows
theorem ff (val:Nat→Str):∀ i,(ddp val i).Nodup
 | 0=>by unfold ddp;exact A9
 | i+1=>by
  unfold ddp
  split
  ·exact ff val i
  ·rename_i h
   exact Bu.mpr ⟨ff val i,Ar.mpr ⟨Ax,A9⟩,fun a ha b hb e=>h (by rw [zJ] at hb;subst hb;subst e;exact ha)⟩
theorem nv (val:Nat→Str)(z:Str):∀ i,z∈ddp val i ↔ ∃ j,j < i∧val j=z
 | 0=>by unfold ddp;simp
 | i+1=>by
  have ih:=nv val z i
  unfold ddp
  split
  ·rename_i h
   rw [ih]
   constructor
   ·rintro ⟨j,hj,e⟩;exact ⟨j,by omega,e⟩
   ·rintro ⟨j,hj,e⟩
    by_cases q:j=i
    ·subst q
     rw [← e]
     rw [e] at h ⊢
     exact ih.mp h
    ·exact ⟨j,by omega,e⟩
  ·rw [z3,ih,zJ]
   constructor
   ·rintro (⟨j,hj,e⟩ | e)
    ·exact ⟨j,by omega,e⟩
    ·exact ⟨i,by omega,e.symm⟩
   ·rintro ⟨j,hj,e⟩
    by_cases q:j=i
    ·subst q;exact .inr e.symm
    ·exact .inl ⟨j,by omega,e⟩
theorem cQ:∀ {dl zs:List Str},dl.Nodup→(∀ k∈dl,k∈zs)→zs.length≤dl.length→zs.Perm dl
 | [],zs,_,_,h=>by rw [Ct.mp (Nat.le_zero.mp h)]
 | d::dl,zs,nd,m,h=>by
  have hd:=m d zX
  have p:=List.perm_cons_erase hd
  refine p.trans (List.Perm.cons _ ?_)
  obtain ⟨n1,n2⟩:=Ar.mp nd
  refine cQ n2 (fun k hk=>?_) ?_
  ·have:=m k (zO _ hk)
   exact (List.mem_erase_of_ne (fun e=>n1 (by rw [← e];exact hk))).mpr this
  ·rw [Cf hd]
   simp at h
   omega
section
variable {prog:Program} {w:World} {A:Around} {E:Value→Shared→Prop} {s:Shared}
end
section
variable {X:Cx}
def StO (P:Program)(w:World)(a:Addr)(dl:List Str):HO:=.ext fun h=>vw P w h a dl
theorem vw.lay {P:Program}{w:World}{H:Hp}{h:Heap}{a:Addr}{dl:List Str}(x:vw P w h a dl):bS P w H h a (StO P w a dl):=by
 refine ⟨x,?_,fun h1 h2 y k=>y.at k⟩
 obtain ⟨o,_,_,_,e,_⟩:=x
 exact ⟨o,e⟩
end
section
variable {prog:Program} {w:World} {A:Around} {E:Value→Shared→Prop} {s:Shared}
end
section
variable {X:Cx}
end
end L2
namespace Ts
open PySem PyProof.Rows
def iOf:Value→Int
 | .int x _=>x
 | _=>0
theorem jW:∀ (vs:List Value),(∀ v,v∈vs→∃ x t,v = .int x t)→IntsAre vs (vs.map iOf)
 | [],_=>.nil
 | v::vs,h=>by
  obtain ⟨x,t,rfl⟩:=h v (zX ..)
  exact .cons x t (jW vs fun u hu=>h u (zO _ hu))
end Ts
namespace L2
open PySem PySem.Spec PyProof.Rows Wd Ts
section
variable {prog:Program} {w:World} {A:Around} {E:Value→Shared→Prop} {s:Shared}
theorem i_ {l:Addr}{vs:List Value}{Q:List Value→Shared→Prop}(hl:s.heap.IsTuple l vs.toArray)
  (h:Q vs { s with heap:=(s.heap.push (seqObj "list" #[] 0)).update s.heap.objs.size (Obj.mapSeq (· ++ vs.toArray)) }) (hsz:vs.length≤sizeLine:=by size_fits) :
  wpAny (model prog w) A (collect (.ref l)) Q E s:=by
 obtain ⟨o,ho,hc,n,hd⟩:=id hl
 unfold collect
 refine zK (wpAny_runValue (B2 entry_proto_collect' ?_))
 show wpAny _ _ (do again (.builtin "list.__iadd__" ⟨[← newList [],.ref l],[]⟩)) _ _ s
 refine zK (CS (Ab ⟨Code.quiet_builtin _ (by decide +kernel),B2 entry_list_iadd' ?_⟩))
 show wpAny _ _ (Builtin.List.listExtendWith (.ref s.heap.objs.size) (.ref l) (.ref s.heap.objs.size)) _ _ { s with heap:=s.heap.push (seqObj "list" #[] 0) }
 unfold Builtin.List.listExtendWith
 have ho':(s.heap.push (seqObj "list" #[] 0)).get? l=some o:=zM _ ho
 refine zK (wpAny_typeOf (T:="tuple") ⟨o,ho',hc⟩ ?_)
 have ht:(Value.type "tuple" == Value.type "tuple")=true:=by rfl
 rw [if_pos (by rw [ht];simp)]
 refine zK (CI ho' hd ?_)
 refine zK (CI (xs:=#[]) (n:=0) (z_ _ rfl) rfl ?_)
 rw [if_neg (by simp)]
 refine zK (Dv (xs:=#[]) (n:=0) (z_ _ rfl) rfl ?_ (Ay _) (by show (#[]++vs.toArray).size≤sizeLine+1;simp only [Array.size_append,z8,A4];omega))
 refine Ab ?_
 show wpAny (model prog w) A (do
   let o ← load s.heap.objs.size
   match o.data with
   | .seq xs _=>pure xs.toList
   | _=>unsupported "internal:collect") Q E { s with heap:=(s.heap.push (seqObj "list" #[] 0)).update s.heap.objs.size (Obj.mapSeq (· ++ vs.toArray)) }
 refine zK (wpAny_load (get?_update_seq (z_ _ rfl) _) ?_)
 show wpAny _ _ (pure ((#[]:Array Value)++vs.toArray).toList) Q E _
 rw [show ((#[]:Array Value)++vs.toArray).toList=vs by simp]
 exact Ab h
end
section
variable {X:Cx}
end
end L2
namespace Tv
open PySem PyProof.Rows
def Pq (h:Heap)(v:Value)(i j:Int):Prop:=∃ (a:Addr) (o:Obj) (t u:Tok) (n:Nat),v = .ref a∧h.get? a=some o∧o.cls = .type "tuple"∧o.data = .seq #[.int i t,.int j u] n
inductive Kn where
 | i
 | s
 | p
def Kn.R:Kn→Heap→Value→List Int→Prop
 | .i,_,v,a=>∃ i t,v = .int i t∧a=[i]
 | .s,_,v,a=>∃ (x:Str) (t:Tok),v = .str x t∧a=x.cps.toList.map Int.ofNat
 | .p,h,v,a=>∃ i j,Pq h v i j∧a=[i,j]
theorem ny {x y:List Nat}(h:x.map Int.ofNat=y.map Int.ofNat):x=y:=(List.map_inj_right (fun _ _ e=>Dx e)).mp h
theorem Kn.one {k:Kn}{h:Heap}{v:Value}{a b:List Int}(x:k.R h v a)(y:k.R h v b):a=b:=by
 cases k with
 | i =>
  obtain ⟨i,t,rfl,rfl⟩:=x
  obtain ⟨j,u,e,rfl⟩:=y
  cases e
  rfl
 | s =>
  obtain ⟨i,t,rfl,rfl⟩:=x
  obtain ⟨j,u,e,rfl⟩:=y
  cases e
  rfl
 | p =>
  obtain ⟨i,j,⟨c,o,t,u,n,rfl,e,_,d⟩,rfl⟩:=x
  obtain ⟨k,l,⟨c',o',t',u',n',e0,e',_,d'⟩,rfl⟩:=y
  cases e0
  rw [e] at e'
  cases e'
  rw [d] at d'
  injection d' with d1 _
  have d1:=Af Array.toList d1
  simp only [DR,Value.int.injEq,D9] at d1
  rw [d1.1.1,d1.2.1]
structure kD (prog:Program) (w:World) (A:Around) (k:Kn):Prop where
 eq:∀ {s:Shared} {E:Value→Shared→Prop} {v u:Value} {a b:List Int} {Q:Bool→Shared→Prop},k.R s.heap v a→k.R s.heap u b→Q (decide (a=b)) s→wpAny (model prog w) A (eqBool v u) Q E s
 lt:∀ {s:Shared} {E:Value→Shared→Prop} {c:Bool} {v u:Value} {a b:List Int} {Q:Bool→Shared→Prop},(c=true→k ≠ .p)→k.R s.heap v a→k.R s.heap u b→a≠b→Q (decide (a < b)) s→wpAny (model prog w) A (oneLt' c v u) Q E s
section
variable {prog:Program} {w:World} {A:Around} {E:Value→Shared→Prop} {s:Shared}
theorem zl:kD prog w A .i:=by
 refine ⟨fun {s E v u a b Q} x y q=>?_,fun {s E c v u a b Q} _ x y ne q=>?_⟩
 ·obtain ⟨i,t,rfl,rfl⟩:=x
  obtain ⟨j,t',rfl,rfl⟩:=y
  refine wpAny_eqBool_int ?_
  have:decide ([i]=[j])=(i == j):=by rw [Ap];simp
  rwa [this] at q
 ·obtain ⟨i,t,rfl,rfl⟩:=x
  obtain ⟨j,t',rfl,rfl⟩:=y
  have:decide ([i] < [j])=decide (i < j):=by
   rw [Ap,zT,zT,Bi]
   exact ⟨fun h=>h.elim id fun h=>absurd h.2 (DY _),.inl⟩
  rw [this] at q
  cases c with
  | true=>exact oneLt_int q
  | false =>
   rw [oneLt'_eq]
   simp only [Ac,A6]
   show wpAny _ _ (compareOp .Lt (.int i t) (.int j t') >>= _) Q E s
   exact zK (wpAny_lt_int (Bd q))
theorem qN:∀ (x y:List Nat),x.map Int.ofNat < y.map Int.ofNat ↔ x < y
 | [],[]=>by simp
 | [],_::_=>by simp
 | _::_,[]=>by simp
 | a::x,b::y=>by
  rw [AA,AA,Bi,Bi,qN x y]
  constructor
  ·rintro (h | ⟨h,g⟩)
   ·exact .inl (Int.ofNat_lt.mp h)
   ·exact .inr ⟨Dx h,g⟩
  ·rintro (h | ⟨h,g⟩)
   ·exact .inl (Int.ofNat_lt.mpr h)
   ·exact .inr ⟨Af _ h,g⟩
theorem zm:kD prog w A .s:=by
 refine ⟨fun {s E v u a b Q} x y q=>?_,fun {s E c v u a b Q} _ x y ne q=>?_⟩
 ·obtain ⟨x,t,rfl,rfl⟩:=x
  obtain ⟨y,t',rfl,rfl⟩:=y
  refine wpAny_eqBool_str ?_
  have:decide (x.cps.toList.map Int.ofNat=y.cps.toList.map Int.ofNat)=decide (x=y):=by
   rw [Ap,zT,zT]
   refine ⟨fun h=>?_,fun h=>by rw [h]⟩
   have:=DE.mp (ny h)
   cases x;cases y;simp_all
  rwa [this] at q
 ·obtain ⟨x,t,rfl,rfl⟩:=x
  obtain ⟨y,t',rfl,rfl⟩:=y
  have:decide (x.cps.toList.map Int.ofNat < y.cps.toList.map Int.ofNat)=decide (x.cps.toList < y.cps.toList):=by
   rw [Ap,zT,zT,qN]
  rw [this] at q
  cases c with
  | true=>exact oneLt_str q
  | false =>
   rw [oneLt'_eq]
   simp only [Ac,A6]
   show wpAny _ _ (compareOp .Lt (.str x t) (.str y t') >>= _) Q E s
   exact zK (PyProof.Rows.lt_str (Bd q))
end
inductive FlR (h:Heap):List Kn→List Value→List (List Int)→Prop
 | nil:FlR h [] [] []
 | cons {k:Kn} {ks:List Kn} {v:Value} {vs:List Value} {a:List Int} {as:List (List Int)} (x:k.R h v a) (r:FlR h ks vs as):FlR h (k::ks) (v::vs) (a::as)
theorem FlR.one {h:Heap}{ks:List Kn}{vs:List Value}{as:List (List Int)}(x:FlR h ks vs as):∀ {bs:List (List Int)},FlR h ks vs bs→as=bs:=by
 induction x with
 | nil=>intro bs y;cases y;rfl
 | cons x r ih=>intro bs y;cases y with | cons y q=>rw [Kn.one x y,ih q]
theorem FlR.len {h:Heap}{ks:List Kn}{vs us:List Value}{as bs:List (List Int)}(x:FlR h ks vs as):FlR h ks us bs→vs.length=us.length:=by
 induction x generalizing us bs with
 | nil=>intro y;cases y;rfl
 | cons x r ih=>intro y;cases y with | cons y q=>rw [AC,AC,ih q]
theorem FlR.stay {h h':Heap}(k:∀ b o,h.get? b=some o→o.cls = .type "tuple"→h'.get? b=some o){ks:List Kn}{vs:List Value}{as:List (List Int)}(x:FlR h ks vs as):FlR h' ks vs as:=by
 induction x with
 | nil=>exact .nil
 | @cons kn ks v vs a as x r ih =>
  refine .cons ?_ ih
  cases kn with
  | i=>exact x
  | s=>exact x
  | p =>
   obtain ⟨i,j,⟨c,o,t,u,n,e0,e,hc,d⟩,ea⟩:=x
   exact ⟨i,j,⟨c,o,t,u,n,e0,k _ _ e hc,hc,d⟩,ea⟩
abbrev dh:=List (List Int)
def Kd (f:Kn)(sh:List Int→List Kn)(h:Heap)(v:Value)(k:dh):Prop:=∃ (a:Addr) (o:Obj) (vs:List Value) (n:Nat),v = .ref a∧h.get? a=some o∧o.cls = .type "tuple"∧o.data = .seq vs.toArray n∧FlR h (f::sh (k.headD [])) vs k
theorem Kd.one {f:Kn}{sh:List Int→List Kn}{h:Heap}{v:Value}{k l:dh}(x:Kd f sh h v k)(y:Kd f sh h v l):k=l:=by
 obtain ⟨a,o,vs,n,rfl,e,_,d,g⟩:=x
 obtain ⟨a',o',vs',n',e0,e',_,d',g'⟩:=y
 cases e0
 rw [e] at e'
 cases e'
 rw [d] at d'
 injection d' with d1 _
 have d1:=Af Array.toList d1
 simp only at d1
 subst d1
 cases g with
 | cons x r =>
  cases g' with
  | cons y q =>
   have e1:=Kn.one x y
   subst e1
   exact Af _ (FlR.one r q)
open Classical in
def uu (f:Kn)(sh:List Int→List Kn)(h:Heap)(v:Value):Option dh:=if hx:∃ p:dh,Kd f sh h v p then some (Classical.choose hx) else none
theorem Kd.of {f:Kn}{sh:List Int→List Kn}{h:Heap}{v:Value}{k:dh}(x:Kd f sh h v k):uu f sh h v=some k:=by
 unfold uu
 rw [dif_pos ⟨k,x⟩]
 exact Af some ((Classical.choose_spec (⟨k,x⟩:∃ p:dh,Kd f sh h v p)).one x)
theorem Kd.is {f:Kn}{sh:List Int→List Kn}{h:Heap}{v:Value}{k:dh}(e:uu f sh h v=some k):Kd f sh h v k:=by
 unfold uu at e
 split at e
 ·rename_i hx
  cases e
  exact Classical.choose_spec hx
 ·cases e
theorem Kd.stay {f:Kn}{sh:List Int→List Kn}{h h':Heap}{v:Value}{k:dh}(kp:∀ b o,h.get? b=some o→o.cls = .type "tuple"→h'.get? b=some o)(x:Kd f sh h v k):Kd f sh h' v k:=by
 obtain ⟨a,o,vs,n,e0,e,c,d,g⟩:=x
 exact ⟨a,o,vs,n,e0,kp _ _ e c,c,d,g.stay kp⟩
@[reducible] noncomputable def kdK (f:Kn) (sh:List Int→List Kn) (h:Heap):KeyKind where
 α:=dh
 blt a b:=decide (a < b)
 irrefl a:=by simpa using DY a
 trans a b c h1 h2:=by simp only [Bs] at *;exact List.lt_trans h1 h2
 negTrans a b c h:=by
  simp only [Bs] at *
  by_cases hab:a < b
  ·exact .inl hab
  ·exact .inr (List.lt_of_le_of_lt (List.not_lt.mp hab) h)
 total a b h1 h2:=by simp only [Dy] at *;exact List.le_antisymm (List.not_lt.mp h2) (List.not_lt.mp h1)
 keyOf v:=uu f sh h v
 dflt:=[]
def kF (b:Bool)(L:List ((Value × Value) × Nat))(z:Bool):Sem Bool:=do
 for ((p,q),i) in L do
  if !(← eqBool p q) then return ← oneLt' (b && i == 0) p q
 return z
theorem nz (b:Bool)(x y:Value):keyLt' (tuples' b) x y=(do
  let xs ← Builtin.List.listItems x;let ys ← Builtin.List.listItems y
  kF b (xs.toList.zip ys.toList).zipIdx (decide (xs.size < ys.size))):=rfl
theorem nA (b z:Bool)(p q:Value)(i:Nat)(L:List ((Value × Value) × Nat)):kF b (((p,q),i)::L) z=(eqBool p q >>= fun r=>if r then kF b L z else oneLt' (b && i == 0) p q):=by
 unfold kF
 rw [DQ]
 simp only [bind_assoc]
 congr 1
 funext r
 cases r <;> simp
theorem nD {a b:List Int}{as bs:dh}:decide (a::as < b::bs)=if a=b then decide (as < bs) else decide (a < b):=by
 rw [Ap,zT,Bi]
 by_cases e:a=b
 ·rw [if_pos e,zT]
  subst e
  exact ⟨fun h=>h.elim (fun h=>absurd h (DY _)) fun h=>h.2,fun h=>.inr ⟨rfl,h⟩⟩
 ·rw [if_neg e,zT]
  exact ⟨fun h=>h.elim id fun h=>absurd h.1 e,.inl⟩
section
variable {prog:Program} {w:World} {A:Around} {E:Value→Shared→Prop} {s:Shared}
theorem xT {b:Bool}{ks:List Kn}{vs:List Value}{as:dh}(ok:∀ k∈ks,kD prog w A k)(x:FlR s.heap ks vs as):∀ {us:List Value} {bs:dh} {m:Nat} {Q:Bool→Shared→Prop},(m=0→b=true→∀ k r,ks=k::r→k ≠ .p)→FlR s.heap ks us bs→Q (decide (as < bs)) s→wpAny (model prog w) A (kF b ((vs.zip us).zipIdx m) false) Q E s:=by
 induction x with
 | nil =>
  intro us bs m Q _ y q
  cases y
  exact Ab (by simpa using q)
 | @cons k ks v vs a as x r ih =>
  intro us bs m Q hp y q
  cases y with
  | @cons _ _ u us c bs y r2 =>
  rw [Bj,DF,nA]
  have K:=ok k zX
  rw [nD] at q
  refine zK (K.eq x y ?_)
  by_cases e:a=c
  ·rw [zQ e,if_pos rfl]
   rw [if_pos e] at q
   exact ih (fun k hk=>ok k (zO _ hk)) (fun z=>by omega) r2 q
  ·rw [zH e,if_neg (by decide)]
   rw [if_neg e] at q
   refine K.lt (fun z=>?_) x y e q
   have z:(b && (m == 0))=true:=z
   rw [A_] at z
   exact hp (by simpa using z.2) z.1 _ _ rfl
theorem xU {f:Kn}{sh:List Int→List Kn}{b:Bool}{x y:Value}{k l:dh}{Q:Bool→Shared→Prop}(hf:f ≠ .p)(okf:kD prog w A f)(ok:∀ a,∀ k∈sh a,kD prog w A k)(hx:Kd f sh s.heap x k)(hy:Kd f sh s.heap y l)(h:Q (decide (k < l)) s) :
  wpAny (model prog w) A (keyLt' (tuples' b) x y) Q E s:=by
 obtain ⟨a,o,vs,n,rfl,e,_,d,g⟩:=hx
 obtain ⟨a',o',us,n',rfl,e',_,d',g'⟩:=hy
 rw [nz]
 refine zK (CI e d (zK (CI e' d' ?_)))
 cases g with
 | @cons _ _ v vs a as x r =>
 cases g' with
 | @cons _ _ u us c bs y r2 =>
 show wpAny _ _ (kF b ((v::vs).zip (u::us)).zipIdx _) Q E s
 rw [Bj,DF,nA]
 rw [nD] at h
 refine zK (okf.eq x y ?_)
 by_cases e2:a=c
 ·subst e2
  rw [zQ rfl,if_pos rfl]
  rw [if_pos rfl] at h
  have hz:decide ((v::vs).toArray.size < (u::us).toArray.size)=false:=by
   have:=r.len r2
   simp [this]
  rw [hz]
  exact xT (ok _) r (fun z=>by omega) r2 h
 ·rw [zH e2,if_neg (by decide)]
  rw [if_neg e2] at h
  exact okf.lt (fun _=>hf) x y e2 h
theorem nG {α β:Type}{g:α→Sem β}{f:α→β}:∀ {vs:List α} {Q:List β→Shared→Prop},(∀ v∈vs,∀ Q:β→Shared→Prop,Q (f v) s→wpAny (model prog w) A (g v) Q E s)→Q (vs.map f) s→wpAny (model prog w) A (vs.mapM g) Q E s
 | [],Q,_,h=>by rw [List.mapM_nil];exact Ab h
 | v::vs,Q,hg,h=>by
  rw [List.mapM_cons]
  refine zK (hg v zX _ (zK (nG (fun u hu=>hg u (zO _ hu)) (Ab ?_))))
  exact h
def kG (h:Heap):Value→Option Value:=fun v=>match v with
 | .ref a=>match h.get? a with
  | some o=>match o.data with
   | .seq xs _=>xs[0]?
   | _=>none
  | none=>none
 | _=>none
theorem sR {f:Kn}{sh:List Int→List Kn}{vs:List Value}(hf:f ≠ .p)(hv:∀ v∈vs,∃ k,Kd f sh s.heap v k)(ne:vs≠[]){Q:SortKind→Shared→Prop}(h:Q (tuples' true) s):wpAny (model prog w) A (keyKind' vs.toArray) Q E s:=by
 rw [keyKind'_eq,List.mapM_toArray]
 show wpAny _ _ ((List.toArray <$> vs.mapM firstOfTuple') >>= _) Q E s
 have hq:∀ v∈vs,∃ a o xs n x c,v = .ref a∧s.heap.get? a=some o∧o.cls = .type "tuple"∧o.data = .seq (x::xs:List Value).toArray n∧kG s.heap v=some x∧f.R s.heap x c:=fun v hv'=>by
  obtain ⟨k,a,o,us,n,rfl,e,hc,d,g⟩:=hv v hv'
  cases g with
  | @cons _ _ x xs c as q r =>
   refine ⟨a,o,xs,n,x,c,rfl,e,hc,d,?_,q⟩
   unfold kG
   dsimp only
   rw [e]
   dsimp only
   rw [d]
   rfl
 refine zK (wpAny_map (nG (f:=kG s.heap) (fun v hv' Q' q=>?_) ?_))
 ·obtain ⟨a,o,xs,n,x,c,rfl,e,hc,d,ef,_⟩:=hq v hv'
  show wpAny _ _ (typeOf (.ref a) >>= fun ty=>if (ty != Value.type "tuple")=true then pure none else (do let xs ← Builtin.List.listItems (.ref a);pure xs[0]?)) Q' E s
  refine zK (wpAny_typeOf (T:="tuple") ⟨o,e,hc⟩ ?_)
  have ht:(Value.type "tuple" != Value.type "tuple")=false:=by rfl
  rw [ht]
  simp only [Ac,A6]
  refine zK (CI e d (Ab ?_))
  rw [ef] at q
  exact q
 ·have h1:((vs.map (kG s.heap)).toArray.all (·.isSome))=true:=by
   simp only [List.all_toArray,List.all_map,Ca]
   intro v hv'
   obtain ⟨_,_,_,_,x,_,_,_,_,_,ef,_⟩:=hq v hv'
   show (kG s.heap v).isSome=true
   rw [ef]
   rfl
  rw [if_pos h1]
  refine zK (BU ?_)
  obtain ⟨T,hTn,hT⟩:∃ T:Value,(T != Value.type "tuple")=true∧((vs.map (kG s.heap)).filterMap id).mapM typeOf=pure (((vs.map (kG s.heap)).filterMap id).map fun _=>T):=by
   clear h1 ne hv h
   cases f with
   | p=>exact absurd rfl hf
   | i =>
    refine ⟨.type "int",rfl,mapM_typeOf_ints (ns:=((vs.map (kG s.heap)).filterMap id).map Ts.iOf) ?_⟩
    refine Ts.jW _ fun x hx=>?_
    obtain ⟨y,hy,e⟩:=Da.mp hx
    obtain ⟨v,hv',rfl⟩:=AE.mp hy
    obtain ⟨_,_,_,_,x',_,_,_,_,_,ef,i,t,rfl,_⟩:=hq v hv'
    rw [ef] at e
    cases e
    exact ⟨i,t,rfl⟩
   | s =>
    refine ⟨.type "str",rfl,?_⟩
    obtain ⟨ns,hI⟩:∃ ns,StrsAre ((vs.map (kG s.heap)).filterMap id) ns:=by
     induction vs with
     | nil=>exact ⟨[],.nil⟩
     | cons v r ih =>
      obtain ⟨_,_,_,_,x',_,_,_,_,_,ef,i,t,rfl,_⟩:=hq v zX
      obtain ⟨ns,q⟩:=ih fun u hu=>hq u (zO _ hu)
      refine ⟨i::ns,?_⟩
      rw [AA,ef]
      exact .cons i t q
    exact mapM_typeOf_strs hI
  have e2:(vs.map (kG s.heap)).toArray.filterMap id=((vs.map (kG s.heap)).filterMap id).toArray:=by simp
  rw [e2,oneTypeOnly'_eq,List.mapM_toArray,hT]
  simp only [map_pure,pure_bind]
  have ne2:(vs.map (kG s.heap)).filterMap id≠[]:=by
   cases vs with
   | nil=>exact absurd rfl ne
   | cons v r =>
    obtain ⟨_,_,_,_,x',_,_,_,_,_,ef,_⟩:=hq v zX
    rw [AA,ef]
    simp
  generalize (vs.map (kG s.heap)).filterMap id=fs at ne2
  cases fs with
  | nil=>exact absurd rfl ne2
  | cons x r =>
   have h0:(List.map (fun _=>T) (x::r)).toArray[0]? = some T:=by simp
   have hall:((List.map (fun _=>T) (x::r)).toArray.all fun y=>y == T)=true:=by
    simp only [List.all_toArray,List.all_map,Ca]
    intro _ _
    exact beq_self_eq_true T
   rw [h0]
   simp only [hall,BI,pure_bind]
   refine Ab ?_
   rw [show Option.any (fun x=>x != Value.type "tuple") (some T)=true from hTn]
   exact h
end
end Tv
namespace Tv
open PySem PyProof.Rows
def qle (k l:dh):Prop:=¬ l < k
theorem fg {α:Type}:∀ (l:List α),l.zip l=l.map fun x=>(x,x)
 | []=>rfl
 | x::r=>by rw [Bj,fg r];rfl
section
variable {prog:Program} {w:World} {A:Around} {E:Value→Shared→Prop} {s:Shared}
end
end Tv
namespace L2
open PySem PySem.Spec PyProof.Rows Wd Tv
section
variable {X:Cx}
theorem dZ:∀ {as:List Addr} {us:List Value},bh (as.map V.ref) us→us=as.map Value.ref
 | [],_,.nil=>rfl
 | a::as,_,.cons r t=>by cases r;rw [dZ t];rfl
theorem fM:∀ (as:List Addr),bh (as.map V.ref) (as.map Value.ref)
 | []=>.nil
 | a::as=>.cons rfl (fM as)
inductive FlQ (H:Hp):List Kn→List V→dh→Prop
 | nil:FlQ H [] [] []
 | i {ks:List Kn} {xs:List V} {as:dh} (i:Int) (r:FlQ H ks xs as):FlQ H (.i::ks) (.int i::xs) ([i]::as)
 | s {ks:List Kn} {xs:List V} {as:dh} (x:Str) (r:FlQ H ks xs as):FlQ H (.s::ks) (.str x::xs) (x.cps.toList.map Int.ofNat::as)
 | p {ks:List Kn} {xs:List V} {as:dh} {b:Addr} {i j:Int} (p:H b=some (.tup [.int i,.int j])) (r:FlQ H ks xs as):FlQ H (.p::ks) (.ref b::xs) ([i,j]::as)
def KdQ (f:Kn)(sh:List Int→List Kn)(H:Hp)(a:Addr)(k:dh):Prop:=∃ xs,H a=some (.tup xs)∧FlQ H (f::sh (k.headD [])) xs k
theorem vL {EA:List (Addr × Obj)}{σ:St}{H:Hp}{s:Shared}(I:Inv X EA σ H s){ks:List Kn}{xs:List V}{as:dh}(f:FlQ H ks xs as):∀ {us:List Value},bh xs us→FlR s.heap ks us as:=by
 induction f with
 | nil=>intro us r;cases r;exact .nil
 | i i f ih =>
  intro us r
  cases r with
  | cons r1 r2 =>
   obtain ⟨t,rfl⟩:=r1
   exact .cons ⟨i,t,rfl,rfl⟩ (ih r2)
 | s x f ih =>
  intro us r
  cases r with
  | cons r1 r2 =>
   obtain ⟨t,rfl⟩:=r1
   exact .cons ⟨x,t,rfl,rfl⟩ (ih r2)
 | @p ks xs as b i j p f ih =>
  intro us r
  cases r with
  | cons r1 r2 =>
   cases r1
   obtain ⟨EB,r,pl,_⟩:=I.tuple (SqT.of p)
   obtain ⟨u1,u2,rfl,⟨t,rfl⟩,⟨u,rfl⟩⟩:=rn r
   obtain ⟨o,e,c,n,d⟩:=pl
   exact .cons ⟨i,j,⟨b,o,t,u,n,rfl,e,c,d⟩,rfl⟩ (ih r2)
theorem vM {EA:List (Addr × Obj)}{σ:St}{H:Hp}{s:Shared}(I:Inv X EA σ H s){f:Kn}{sh:List Int→List Kn}{a:Addr}{k:dh}(h:KdQ f sh H a k):Kd f sh s.heap (.ref a) k:=by
 obtain ⟨xs,h1,h2⟩:=h
 obtain ⟨EB,r,pl,_⟩:=I.tuple (SqT.of h1)
 obtain ⟨o,e,c,n,d⟩:=pl
 exact ⟨a,o,EB,n,rfl,e,c,d,vL I h2 r⟩
end
end L2
namespace Tv
open PySem PyProof.Rows
section
variable {prog:Program} {w:World} {A:Around} {E:Value→Shared→Prop} {s:Shared}
theorem pY {f:Kn}{sh:List Int→List Kn}{zs0:List (Addr × dh)}{h:Heap}(hp:∀ z∈zs0,Kd f sh h (.ref z.1) z.2){xs:Array Keyed}(pm:xs.Perm (pairsOf (zs0.map fun z=>Value.ref z.1)))(hs:SortedToK (kdK f sh h) xs (pairsOf (zs0.map fun z=>Value.ref z.1)).size) :
  ∃ zs:List (Addr × dh),zs.Perm zs0∧(xs.map (·.2)).toList=zs.map (fun z=>Value.ref z.1)∧(zs.map (·.2)).Pairwise qle:=by
 have hl:xs.toList.Perm (zs0.map fun z=>(Value.ref z.1,Value.ref z.1)):=by
  have:=BA.mp pm
  rw [pairsOf_toList,fg,BE] at this
  exact this
 obtain ⟨zs,h1,h2⟩:=L2.fe (fun z:Addr × dh=>((Value.ref z.1,Value.ref z.1):Keyed)) hl.symm zs0 rfl
 refine ⟨zs,h1,?_,?_⟩
 ·rw [Array.toList_map,h2,BE]
  rfl
 ·have hz:zs.length=xs.size:=by rw [← zL,h2,zV]
  rw [Bf]
  intro i j hi hj EK
  rw [zV] at hi hj
  have q:=hs i j (DN EK) (by rw [← pm.size_eq];omega)
  have key:∀ k (hk:k < zs.length),KK (kdK f sh h) xs k=zs[k].2:=fun k hk=>by
   unfold KK
   have e:xs[k]? = some (Value.ref zs[k].1,Value.ref zs[k].1):=by
    rw [← Au,h2,Az,fu hk]
    rfl
   rw [e]
   show ((uu f sh h (.ref zs[k].1)).getD [])=_
   rw [(hp _ (h1.mem_iff.mp (AD hk))).of]
   rfl
  rw [key i hi,key j hj] at q
  rw [DG,DG]
  exact of_decide_eq_false q
theorem qO {f:Kn}{sh:List Int→List Kn}(hf:f ≠ .p)(okf:kD prog w A f)(ok:∀ a,∀ k∈sh a,kD prog w A k){a:Addr}{zs0:List (Addr × dh)}{m:Nat}{P:Fin→Shared→Prop}(at_:s.heap.get? a=some (seqObj "list" (zs0.map fun z=>Value.ref z.1).toArray m))(hp:∀ z∈zs0,Kd f sh s.heap (.ref z.1) z.2)(lim:zs0.length≤sizeLine)
  (q:∀ (out:Array Value) (zs:List (Addr × dh)),zs.Perm zs0→out.toList=zs.map (fun z=>Value.ref z.1)→(zs.map (·.2)).Pairwise qle→P (.done (.ret .none)) { s with heap:=sortedHeap s.heap a (zs0.map fun z=>Value.ref z.1) out }) :
  wpAny (model prog w) A (Builtin.«list.sort» ⟨[.ref a],[]⟩) P E s:=by
 have la:=z7 at_
 -- the pairs stay while the list is empty
 have stay:∀ z∈zs0,Kd f sh (((s.heap.update a (Obj.mapSeq fun _=>#[])).push (seqObj "tuple" (zs0.map fun z=>Value.ref z.1).toArray 0)).push (seqObj "list" #[] 0)) (.ref z.1) z.2:=fun z hz=>by
  refine Kd.stay (fun b o g c=>?_) (hp z hz)
  have hba:b≠a:=fun x=>by
   subst x
   rw [at_] at g
   rw [← zP g] at c
   simp [seqObj] at c
  exact zM _ (zM _ ((AL _ _ (Ne.symm hba)).trans g))
 refine pS (κ:=kdK f sh (((s.heap.update a (Obj.mapSeq fun _=>#[])).push (seqObj "tuple" (zs0.map fun z=>Value.ref z.1).toArray 0)).push (seqObj "list" #[] 0))) (kd:=tuples' true) at_ ?_ ?_ ?_ (by rw [zV];exact lim) ?_
 ·intro p hp'
  rw [pairsOf_toList,fg,BE] at hp'
  obtain ⟨z,hz,rfl⟩:=AE.mp hp'
  exact ⟨_,(stay z hz).of⟩
 ·intro E' x y ka kb Q' hx hy hq
  exact xU hf okf ok (Kd.is hx) (Kd.is hy) hq
 ·intro x y r e Q' hq
  refine sR (f:=f) (sh:=sh) hf (fun v hv=>?_) (by simp) hq
  rw [← e] at hv
  obtain ⟨z,hz,rfl⟩:=AE.mp hv
  exact ⟨_,stay z hz⟩
 ·intro st c1 c2
  obtain ⟨zs,h1,h2,h3⟩:=pY stay c1 c2
  exact q _ zs h1 h2 h3
theorem nH {f:Kn}{sh:List Int→List Kn}(hf:f ≠ .p)(okf:∀ A':Around,A'.units≤A.units+8→kD prog w A' f)(ok:∀ A':Around,A'.units≤A.units+8→∀ a,∀ k∈sh a,kD prog w A' k){l:Addr}{zs0:List (Addr × dh)}{Q:Value→Shared→Prop}(hl:s.heap.IsList l (zs0.map fun z=>Value.ref z.1).toArray ∨ s.heap.IsTuple l (zs0.map fun z=>Value.ref z.1).toArray)(hp:∀ z∈zs0,Kd f sh s.heap (.ref z.1) z.2)(lim:zs0.length≤sizeLine)
  (q:∀ (out:Array Value) (zs:List (Addr × dh)),zs.Perm zs0→out.toList=zs.map (fun z=>Value.ref z.1)→(zs.map (·.2)).Pairwise qle→Q (.ref (s.heap.objs.size+1)) { s with heap:=sortedAll s.heap (zs0.map fun z=>Value.ref z.1) out }) :
  wpAny (model prog w) A (call (.builtin "sorted") [.ref l]) Q E s:=by
 have lim':(zs0.map fun z=>Value.ref z.1).length≤sizeLine:=by rw [zV];exact lim
 refine Calls.call_function_entry kind_sorted plain_sorted entry_sorted (args_sorted1 _) ?_
 unfold Builtin.«sorted»
 rcases hl with hl | hl
 ·refine zK (m:=checkCount "sorted" 1 1 _) (Ab (zK (collect_list hl (zK (CS ?_)) (hsz:=lim'))))
  have z1:((s.heap.push (seqObj "list" #[] 0)).update s.heap.objs.size (Obj.mapSeq (· ++ (zs0.map fun z=>Value.ref z.1).toArray))).objs.size=s.heap.objs.size+1:=(Heap.size_update ..).trans (size_push' ..)
  have g:(((s.heap.push (seqObj "list" #[] 0)).update s.heap.objs.size (Obj.mapSeq (· ++ (zs0.map fun z=>Value.ref z.1).toArray))).push (seqObj "list" (zs0.map fun z=>Value.ref z.1).toArray 0)).get? (s.heap.objs.size+1)=some (seqObj "list" (zs0.map fun z=>Value.ref z.1).toArray 0):=z1 ▸ z_ _ rfl
  have old:∀ b o,s.heap.get? b=some o→(((s.heap.push (seqObj "list" #[] 0)).update s.heap.objs.size (Obj.mapSeq (· ++ (zs0.map fun z=>Value.ref z.1).toArray))).push (seqObj "list" (zs0.map fun z=>Value.ref z.1).toArray 0)).get? b=some o:=fun b o e =>
   zM _ ((AL _ _ (D4 (z7 e))).trans (zM _ e))
  show wpAny _ _ _ _ _ { s with heap:=((s.heap.push (seqObj "list" #[] 0)).update s.heap.objs.size (Obj.mapSeq (· ++ (zs0.map fun z=>Value.ref z.1).toArray))).push (seqObj "list" (zs0.map fun z=>Value.ref z.1).toArray 0) }
  rw [z1]
  refine zK (BD (Cb slot_list_sort ⟨_,g,rfl⟩ entry_list_sort (qO (f:=f) (sh:=sh) hf (okf _ (by show A.units+1+1≤_;omega)) (ok _ (by show A.units+1+1≤_;omega)) (zs0:=zs0) g (fun z hz=>(hp z hz).stay fun b o e _=>old b o e) lim fun out zs h1 h2 h3=>⟨_,rfl,?_⟩) (args_list_sort _)))
  exact Ab ⟨_,rfl,q _ zs h1 h2 h3⟩
 ·refine zK (m:=checkCount "sorted" 1 1 _) (Ab (zK (L2.i_ hl (zK (CS ?_)) (hsz:=lim'))))
  have z1:((s.heap.push (seqObj "list" #[] 0)).update s.heap.objs.size (Obj.mapSeq (· ++ (zs0.map fun z=>Value.ref z.1).toArray))).objs.size=s.heap.objs.size+1:=(Heap.size_update ..).trans (size_push' ..)
  have g:(((s.heap.push (seqObj "list" #[] 0)).update s.heap.objs.size (Obj.mapSeq (· ++ (zs0.map fun z=>Value.ref z.1).toArray))).push (seqObj "list" (zs0.map fun z=>Value.ref z.1).toArray 0)).get? (s.heap.objs.size+1)=some (seqObj "list" (zs0.map fun z=>Value.ref z.1).toArray 0):=z1 ▸ z_ _ rfl
  have old:∀ b o,s.heap.get? b=some o→(((s.heap.push (seqObj "list" #[] 0)).update s.heap.objs.size (Obj.mapSeq (· ++ (zs0.map fun z=>Value.ref z.1).toArray))).push (seqObj "list" (zs0.map fun z=>Value.ref z.1).toArray 0)).get? b=some o:=fun b o e =>
   zM _ ((AL _ _ (D4 (z7 e))).trans (zM _ e))
  show wpAny _ _ _ _ _ { s with heap:=((s.heap.push (seqObj "list" #[] 0)).update s.heap.objs.size (Obj.mapSeq (· ++ (zs0.map fun z=>Value.ref z.1).toArray))).push (seqObj "list" (zs0.map fun z=>Value.ref z.1).toArray 0) }
  rw [z1]
  refine zK (BD (Cb slot_list_sort ⟨_,g,rfl⟩ entry_list_sort (qO (f:=f) (sh:=sh) hf (okf _ (by show A.units+1+1≤_;omega)) (ok _ (by show A.units+1+1≤_;omega)) (zs0:=zs0) g (fun z hz=>(hp z hz).stay fun b o e _=>old b o e) lim fun out zs h1 h2 h3=>⟨_,rfl,?_⟩) (args_list_sort _)))
  exact Ab ⟨_,rfl,q _ zs h1 h2 h3⟩
end
end Tv
namespace L2
open PySem PySem.Spec PyProof.Rows Wd Tv
section
variable {X:Cx}
inductive bQ (f:Kn)(sh:List Int→List Kn)(K:PySem.W.Frag)(xs:List V)(H:Hp)(Q:VK):Prop
 | mk:∀ (l:Addr) (zs0:List (Addr × dh)),(xs=[.ref l])→(SqL K H l ((zs0.map (·.1)).map V.ref) ∨ SqT K H l ((zs0.map (·.1)).map V.ref))→(∀ z∈zs0,KdQ f sh H z.1 z.2) →
   (∀ (p:Addr) (zs:List (Addr × dh)),H p=none→zs.Perm zs0→(zs.map (·.2)).Pairwise qle→Q (.ref p) (upd H p (.lst ((zs.map (·.1)).map V.ref))))→bQ f sh K xs H Q
theorem gJ {f:Kn}{sh:List Int→List Kn}{K:PySem.W.Frag}(hf:f ≠ .p)(okf:∀ A:Around,A.units≤X.A.units+8→kD X.prog X.w A f)(ok:∀ A:Around,A.units≤X.A.units+8→∀ a,∀ k∈sh a,kD X.prog X.w A k)(hK:X.K=K):di X (.builtin "sorted") (bQ f sh K):=by
 subst hK
 intro EA s σ H xs us Q I r h
 obtain ⟨l,zs0,rfl,hq,hp,q⟩:=h
 obtain ⟨u,rfl,ru⟩:=c6 r
 cases ru
 have em:∀ zs:List (Addr × dh),(zs.map (·.1)).map Value.ref=zs.map fun z=>Value.ref z.1:=fun zs=>by rw [BE];rfl
 obtain ⟨pl,hz⟩:(s.heap.IsList l (zs0.map fun z=>Value.ref z.1).toArray ∨ s.heap.IsTuple l (zs0.map fun z=>Value.ref z.1).toArray)∧((zs0.map (·.1)).map V.ref).length≤sizeLine:=by
  rcases hq with hq | hq
  ·obtain ⟨EB,rv,pl,hz⟩:=I.list hq
   rw [dZ rv,em] at pl
   exact ⟨.inl pl.isList,hz⟩
  ·obtain ⟨EB,rv,pl,hz⟩:=I.tuple hq
   rw [dZ rv,em] at pl
   exact ⟨.inr pl,hz⟩
 rw [zV,zV] at hz
 refine nH hf okf ok pl (fun z hz'=>vM I (hp z hz')) hz fun out zs h1 h2 h3=>?_
 obtain ⟨e,he⟩:=sortedAll_at s.heap (zs0.map fun z=>Value.ref z.1) out
 have I2:Inv X EA σ (upd H (s.heap.objs.size+1) (.lst ((zs.map (·.1)).map V.ref))) { s with heap:=sortedAll s.heap (zs0.map fun z=>Value.ref z.1) out,toks:=s.toks } :=
  I.laid (fun b o e=>sortedAll_old e) (Dq _) ⟨by rw [zV,zV,h1.length_eq];exact hz,out.toList,e,by rw [h2,← em];exact fM _,by simpa [seqObj] using he⟩
 exact ⟨.ref (s.heap.objs.size+1),_,I2,rfl,q _ zs (I.hok.fresh (Dq _)) h1 h3⟩
end
end L2
namespace Tv
open PySem PyProof.Rows
theorem zo {prog:Program}{w:World}{A:Around}(hu:A.units+8 < cLine):kD prog w A .p:=by
 refine ⟨fun {s E v u a b Q} x y q=>?_,fun {s E c v u a b Q} hc x y ne q=>?_⟩
 ·obtain ⟨i,j,⟨a,o,t,t',n,rfl,e,hc,d⟩,rfl⟩:=x
  obtain ⟨k,l,⟨a2,o2,t2,t2',n2,rfl,e2,hc2,d2⟩,rfl⟩:=y
  have rd:∀ {a:Addr} {o:Obj} {t t':Tok} {n:Nat} {i j:Int},s.heap.get? a=some o→o.cls = .type "tuple"→o.data = .seq #[.int i t,.int j t'] n→Reads s.heap (.ref a) (.tuple [.int i,.int j]) []:=fun g1 g2 g3=>.tuple g1 g2 g3 (.cons (as:=[]) (bs:=[]) (.int _ _) (.cons (as:=[]) (bs:=[]) (.int _ _) .nil))
  refine SeqAt.eqAt_reads _ _ A s _ _ _ _ (rd e hc d) (rd e2 hc2 d2) rfl rfl (by show A.units+min 1 1 < cLine;omega) prog w E _ ?_
  have eq:PyData.eqv (.tuple [.int i,.int j]) (.tuple [.int k,.int l])=((i == k) && ((j == l) && true)):=rfl
  rw [eq]
  have:decide ([i,j]=[k,l])=((i == k) && ((j == l) && true)):=by
   rw [Ap]
   simp
  rwa [this] at q
 ·obtain ⟨i,j,⟨a,o,t,t',n,rfl,e,hc1,d⟩,rfl⟩:=x
  obtain ⟨k,l,⟨a2,o2,t2,t2',n2,rfl,e2,hc2,d2⟩,rfl⟩:=y
  have hb:c=false:=by
   cases c with
   | true=>exact absurd rfl (hc rfl)
   | false=>rfl
  rw [hb,oneLt'_eq]
  simp only [Ac,A6]
  refine zK (HT.fF ⟨o,e,hc1,n,d⟩ ⟨o2,e2,hc2,n2,d2⟩ (.cons _ _ (.cons _ _ .nil)) (.cons _ _ (.cons _ _ .nil)) (by omega) (Bd ?_))
  have:HT.bJ [i,j] [k,l]=decide ([i,j] < [k,l]):=by
   rw [Ap,zT,Bi,Bi,HT.bM,HT.bM]
   by_cases c1:i=k
   ·have c2:¬ j=l:=fun z=>ne (by rw [c1,z])
    rw [if_pos c1,if_neg c2,zT]
    exact ⟨fun h=>.inr ⟨c1,.inl h⟩,fun h=>h.elim (fun h=>by omega) fun h=>h.2.elim id fun h=>absurd h.1 c2⟩
   ·rw [if_neg c1,zT]
    exact ⟨.inl,fun h=>h.elim id fun h=>absurd h.1 c1⟩
  rw [this]
  exact q
theorem qP {prog:Program}{w:World}{A:Around}(hu:A.units+8 < cLine):∀ k,kD prog w A k
 | .i=>zl
 | .s=>zm
 | .p=>zo hu
end Tv
namespace L2
open PySem PySem.Spec PyProof.Rows Wd Tv
theorem fw {X:Cx}{f:Kn}{sh:List Int→List Kn}{K:PySem.W.Frag}(hf:f ≠ .p)(hu:X.A.units+64 < cLine)(hK:X.K=K):di X (.builtin "sorted") (bQ f sh K):=gJ hf (fun A h=>qP (by omega) f) (fun A h _ k _=>qP (by omega) k) hK
end L2
namespace L2
open PySem PySem.Spec PyProof.Rows
section
variable {X:Cx}
open Classical in
end
end L2
namespace HT
open PySem PyProof.Rows
theorem p0 (A:Around)(s:Shared)(a:Int)(t:Tok)(c:Int)(u:Tok)(prog:Program)(w:World)(E:Value→Shared→Prop)(Q:Value→Shared→Prop)(h:Q (.bool (decide (c < a))) s) :
  wpAny (model prog w) A (richCompare .Gt (.int a t) (.int c u)) Q E s :=
 (PyProof.Rows.gt_int (by exact h):wpAny (model prog w) A (compareOp .Gt (.int a t) (.int c u)) Q E s)
section
open PySem.SeqAt
open PySem.AutoSeq1 (wpAny_loadPart')
open PySem.MeetsSeq PySem.MeetsSeq2 PySem.MeetsSeq3
theorem gK (l b:Addr)(items EF:Array Value)(n n2:Nat)(dd dd2:Option Addr)(sl sl2:Array (Option Value))(ns ms:List Int)(hi:IntsAre items.toList ns)(hj:IntsAre EF.toList ms) :
  Meets (Builtin.«tuple.__gt__» ⟨[.ref l,.ref b],[]⟩)
   (fun _ R s=>s.heap.get? l=some { cls:=.type "tuple",dict:=dd,data:=.seq items n,slots:=sl }∧s.heap.get? b=some { cls:=.type "tuple",dict:=dd2,data:=.seq EF n2,slots:=sl2 } ∧
    R (.ok (.ret (.bool (bJ ms ns)))) s) :=
 .of_wp fun prog w A R s h=>by
  obtain ⟨hp,g,d,tk,os⟩:=s;obtain ⟨hl,hb,h⟩:=h
  have f2:=Dm
  have z1:items.size=ns.length:=by rw [← hi.length];simp
  have z2:EF.size=ms.length:=by rw [← hj.length];simp
  wp_walk using wpAny_loadPart' hl,wpAny_loadPart' hb,wpAny_forIn_list _ (fun rest b s'=>b.1=none∧s'=⟨hp,g,d,tk,os⟩∧∃ (vs ws:List Value) (ns' ms':List Int),rest=vs.zip ws ∧
   IntsAre vs ns'∧IntsAre ws ms'∧ns'.length+EF.size=ms'.length+items.size∧R (.ok (.ret (.bool (bJ ms' ns')))) ⟨hp,g,d,tk,os⟩) _
  case turn =>
   rintro ⟨y,x⟩ rest b s' ⟨hb',rfl,vs,ws,ns',ms',hz,hvi,hwi,hlen,hR⟩
   cases hvi with
   | nil=>rw [List.zip_nil_left] at hz;cases hz
   | cons a t hvi' =>
    cases hwi with
    | nil=>rw [List.zip_nil_right] at hz;cases hz
    | cons c u hwi' =>
     rw [Bj] at hz
     injection hz with hyx hrest
     injection hyx with hy hx
     subst hy hx
     rw [bM] at hR
     simp only [AC] at hlen
     obtain ⟨e,he,hiff⟩:=jw A.in1 ⟨hp,g,d,tk,os⟩ a t c u
     refine zK (he prog w _ _ ?_)
     cases e with
     | true =>
      rw [if_pos (hiff.mp rfl).symm] at hR
      wp_walk
      exact ⟨rfl,rfl,_,_,_,_,hrest,hvi',hwi',by omega,hR⟩
     | false =>
      rw [if_neg (fun q=>absurd (hiff.mpr q.symm) An)] at hR
      have hri:=p0 A.in1 ⟨hp,g,d,tk,os⟩ a t c u prog w
      wp_walk using hri
      exact ⟨_,rfl,by simpa using hR⟩
  case fin =>
   rintro ⟨b1,b2⟩ s' ⟨hb',rfl,vs,ws,ns',ms',hz,hvi,hwi,hlen,hR⟩
   simp only at hb'
   subst hb'
   have hv:bJ ms' ns'=decide (EF.size < items.size):=by
    cases hvi with
    | nil =>
     cases hwi with
     | nil =>
      simp only [A4] at hlen
      rw [cn]
      exact (zH (by omega)).symm
     | cons c u hw =>
      simp only [A4,AC] at hlen
      rw [c9]
      exact (zH (by omega)).symm
    | cons a t hv =>
     cases hwi with
     | nil =>
      simp only [A4,AC] at hlen
      rw [c8]
      exact (zQ (by omega)).symm
     | cons c u hw =>
      rw [Bj] at hz
      cases hz
   rw [hv] at hR
   wp_walk
   exact ⟨_,rfl,by simpa [Builtin.Tuple.tupleCompareSizes] using hR⟩
  case h =>
   exact ⟨rfl,rfl,items.toList,EF.toList,ns,ms,rfl,hi,hj,by omega,h⟩
end
section
variable {prog:Program} {w:World} {A:Around} {E:Value→Shared→Prop} {s:Shared}
theorem kH {l b:Addr}{items EF:Array Value}{ns ms:List Int}{Q:Value→Shared→Prop}(hl:IsTup s.heap l items)(hb:IsTup s.heap b EF)(hi:IntsAre items.toList ns)(hj:IntsAre EF.toList ms)
  (hu:A.units < cLine) (h:Q (.bool (bJ ms ns)) s):wpAny (model prog w) A (richCompare .Gt (.ref l) (.ref b)) Q E s:=by
 obtain ⟨⟨cls,dd,data,sl⟩,ho,hc,n,hd⟩:=id hl
 obtain ⟨⟨cls2,dd2,data2,sl2⟩,ho2,hc2,n2,hd2⟩:=id hb
 simp only at hc hd hc2 hd2
 subst hc hd hc2 hd2
 exact richCompare_meets_room (op:=.Gt) ⟨_,ho,rfl⟩ ⟨_,ho2,rfl⟩ PySem.F.slot_tuple_gt PySem.F.entry_tuple_gt (PySem.F.args_tuple_gt_2 _ _) (gK l b items EF n n2 dd dd2 sl sl2 ns ms hi hj)
  ⟨ho,ho2,show Value.bool (bJ ms ns)≠Value.notImplemented∧Q (.bool (bJ ms ns)) s from ⟨(fun x=>nomatch x),h⟩⟩ hu
end
end HT
namespace L2
open PySem PySem.Spec PyProof.Rows
section
variable {X:Cx}
end
end L2
namespace PySem
open Sem (wp)
section
variable {K:Type} [DecidableEq K] {prog:Program} {w:World} {knd:KeyKind prog w K} {A:Around} {E:Value→Shared→Prop} {s:Shared}
set_option maxHeartbeats 3200000 in
theorem kI (dd:Nat→List K){z:Str}{zt:Tok}{val:Nat→K}{Q:Value→Shared→Prop}(hh:A.handled=none)(hl:z.cps.all (· < 128)=true)(d0:dd 0=[])(d1:∀ i,val i∈dd i→dd (i+1)=dd i)(d2:∀ i,val i∉dd i→dd (i+1)=dd i++[val i])(dl:∀ i,(dd i).length≤i)(hval:∀ (i:Nat) (v:Value),(∃ c u,z.cps[i]? = some c∧v = .str ⟨#[c]⟩ u)→knd.is (val i) v=true∧v.scannable=true)(hb:z.cps.size+1 < scanBound)
  (h:∀ (h':Heap) (tk:Nat),kA knd h' s.heap.objs.size (dd z.cps.size)→(∀ b o,b < s.heap.objs.size→s.heap.get? b=some o→h'.get? b=some o)→Q (.ref s.heap.objs.size) { s with heap:=h',toks:=tk }) :
  wpAny (model prog w) A (call (.type "set") [.str z zt]) Q E s:=by
 obtain ⟨c,tl,hmro⟩:=F.called_set.mro
 have hmade:=F.called_set.made
 have hsub:=F.called_set.sub
 refine wpAny_call (codeAny_of_tree ?_)
 show wpAny _ _ (callAny (.type "set") _) _ _ _
 refine Ab ⟨Code.quiet_builtin _ (by decide +kernel),B2 F.entry_type_call ?_⟩
 rw [Around.under_plain (weight_type_call_type "set" [.str z zt] []) rfl]
 have x1:=F.called_set.notType
 have x2:=F.called_set.canCreate
 have x3:=F.typeCall_set_1 (.str z zt)
 repeat (any_goals (first | assumption | wp_step))
 refine Dd (gH (.str z zt) (E:=E) (Q₁:=fun ob s1=>ob = .ref s.heap.objs.size∧s1={ s with heap:=s.heap.push (sob (ldr w)) }) ⟨rfl,rfl⟩) fun r s1 hr=>?_
 cases r with
 | error e=>exact hr
 | ok fl =>
  cases fl with
  | ret ob =>
   obtain ⟨rfl,rfl⟩:=hr
   have gS:(s.heap.push (sob (ldr w))).get? s.heap.objs.size=some (sob (ldr w)):=z_ _ rfl
   have hT:Shared.TypeIs { s with heap:=s.heap.push (sob (ldr w)) } (.ref s.heap.objs.size) "set":=⟨_,gS,rfl⟩
   have x4:=F.called_set.init.lookup
   have x5:=F.called_set.init.bind (.ref s.heap.objs.size)
   repeat (any_goals (first | assumption | wp_step))
   refine Dd (codeAny_call_builtin (R:=wants (fun r s2=>r = .none∧∃ h' tk,s2={ s with heap:=h',toks:=tk }∧kA knd h' s.heap.objs.size (dd z.cps.size)∧(∀ b o,b < s.heap.objs.size→s.heap.get? b=some o→h'.get? b=some o)) E) F.called_set.init.plain F.entry_set_init (check_set_init_1 hT ?_)) fun r2 s2 hr2=>?_
   ·have y1:=F.sub_str_set
    have y2:=F.sub_str_frozenset
    have y3:(Value.type "str" == Value.type "dict")=false:=by decide
    unfold Builtin.«set.__init__» noKeywords Builtin.Frozenset.updateFrom
    generalize hPI:pyIter=PI
    wp_walk
    subst hPI
    refine wpAny_pyIter_ascii hl (zK (wpAny_runValue ?_))
    have z1:(s.heap.push (sob (ldr w))).objs.size=s.heap.objs.size+1:=B7 ..
    have nf:s.heap.objs.size∉[(s.heap.push (sob (ldr w))).objs.size]:=by
     rw [z1];simp only [zJ]
     exact AJ (BB _)
    refine xP dd ((Walks.strAscii (by simp [hh]) _ z zt).toS) s.heap.objs.size nf val d1 d2 dl hval hb (z.cps.size - 0) 0 _ (by omega) (Ay _) ⟨_,z_ _ rfl,rfl,rfl⟩ ?s0 ?rr
    case s0=>exact ⟨_,#[],0,_,zM _ gS,⟨rfl,rfl,rfl⟩,rfl,fun e he=>by simp at he,fun k=>by rw [d0];simp,by decide,by rfl,by rw [d0];rfl,⟨rfl,pP⟩,rfl⟩
    case rr =>
     intro s' mv hS'
     obtain ⟨h',g',d',tk',os'⟩:=s'
     obtain rfl:g'=s.gens:=mv.gens
     obtain rfl:d'=s.drawn:=mv.drawn
     obtain rfl:os'=s.os:=mv.os
     show wpAny _ _ _ _ _ _
     refine Ab ?_
     show wpAny _ _ (ret Value.none) _ _ _
     refine Ab ⟨rfl,h',tk',rfl,hS',fun b o EH e=>mv.heap b o ?_ (zM _ (zM _ e))⟩
     simp only [Ae,zJ,Ax,BN,not_or]
     exact ⟨AJ EH,by rw [z1];exact AJ (B4 EH)⟩
   ·cases r2 with
    | error e=>exact hr2
    | ok fl2 =>
     cases fl2 with
     | ret r =>
      obtain ⟨rfl,h',tk,rfl,hS',hk'⟩:=hr2
      repeat (any_goals (first | assumption | wp_step))
      exact h _ _ hS' hk'
     | _=>exact hr2.elim
  | _=>exact hr.elim
end
end PySem
namespace L2
open PySem PySem.Spec PyProof.Rows Wd
section
variable {X:Cx}
inductive dI (P:PySem.Program)(w:PySem.World)(xs:List V)(H:Hp)(Q:VK):Prop
 | mk:∀ (a:Addr) (dl:List Str),(xs=[.ref a])→(H a=some (StO P w a dl))→(Q (.int (dl.length:Int)) H)→dI P w xs H Q
theorem ja:di X (.builtin "len") (dI X.prog X.w):=by
 intro EA s σ H xs us Q I r h
 obtain ⟨a,dl,rfl,ha,q⟩:=h
 obtain ⟨u,rfl,ru⟩:=c6 r
 cases ru
 have hS:vw X.prog X.w s.heap a dl:=(I.hok a _ ha).1
 obtain ⟨o,es,ep,t,ho,hex,hd,hel,hm,hb,hf,hn,hpl,hld⟩:=hS
 have hb:es.size < 4096:=hb
 refine call_len_set ho hex hd hf (by omega) ?_
 rw [hn]
 exact ⟨.int (dl.length:Int),H,(I.tok _).tok _,⟨_,rfl⟩,q⟩
inductive dJ (K:PySem.W.Frag)(xs:List V)(H:Hp)(Q:VK):Prop
 | mk:∀ p i j,(xs=[.ref p])→(SqL K H p [.int i,.int j])→(Q (.int (if j < i then j else i)) H)→dJ K xs H Q
theorem jb (hc:X.calm=true):di X (.builtin "min") (dJ X.K):=by
 intro EA s σ H xs us Q I r h
 obtain ⟨p,i,j,rfl,hq,q⟩:=h
 obtain ⟨u,rfl,ru⟩:=c6 r
 cases ru
 obtain ⟨EB,rv,pl,_⟩:=I.list hq
 have ht:=pl.isList
 obtain ⟨t,u,rfl⟩:=c0 rv
 have EH:p < s.heap.objs.size:=by obtain ⟨_,e,_⟩:=ht;exact z7 e
 refine call_min_walk (Dl ht ?_)
 refine ⟨_,_,_,_,_,_,fun a b=>decide (nAt i j a < nAt i j b),rfl,Walks.list (A:=X.A.in1) (I.ok.hd hc) _ p (AJ EH) _,⟨⟨_,z_ _ rfl,rfl,rfl⟩,ht.push _⟩,fun b hb=>?_,?_,?_,fun v h' tk hP hk=>?_⟩
 ·show b < (s.heap.push _).objs.size
  rw [B7]
  rcases Ae.mp hb with e | hb
  ·rw [e];exact BB _
  ·rw [zJ.mp hb];exact B4 EH
 ·exact CN 1
 ·refine CmpOf.ints_lt (nAt i j) fun a v hv=>?_
  match a,hv with
  | 0,hv=>exact ⟨t,(zP hv).symm⟩
  | 1,hv=>exact ⟨u,(zP hv).symm⟩
  | (a+2),hv=>simp at hv
 ·have old:∀ b o,s.heap.get? b=some o→h'.get? b=some o:=fun b o e=>hk b o (fun z=>by rw [zJ.mp z] at e;exact absurd (z7 e) (AZ _)) (zM _ e)
  have hP:[Value.int i t,Value.int j u].toArray[if decide (j < i)=true then 1 else 0]? = some v:=hP
  by_cases h:j < i
  ·rw [if_pos (zQ h)] at hP
   rw [if_pos h] at q
   exact ⟨.int j,H,I.kept old,⟨u,(zP hP).symm⟩,q⟩
  ·rw [zH h] at hP
   rw [if_neg h] at q
   exact ⟨.int i,H,I.kept old,⟨t,(zP hP).symm⟩,q⟩
inductive dM (K:PySem.W.Frag)(xs:List V)(H:Hp)(Q:VK):Prop
 | mk:∀ p i j,(xs=[.ref p])→(SqL K H p [.int i,.int j])→(Q (.int (if j > i then j else i)) H)→dM K xs H Q
theorem jc (hc:X.calm=true):di X (.builtin "max") (dM X.K):=by
 intro EA s σ H xs us Q I r h
 obtain ⟨p,i,j,rfl,hq,q⟩:=h
 obtain ⟨u,rfl,ru⟩:=c6 r
 cases ru
 obtain ⟨EB,rv,pl,_⟩:=I.list hq
 have ht:=pl.isList
 obtain ⟨t,u,rfl⟩:=c0 rv
 have EH:p < s.heap.objs.size:=by obtain ⟨_,e,_⟩:=ht;exact z7 e
 refine call_max_walk (Dl ht ?_)
 refine ⟨_,_,_,_,_,_,fun a b=>decide (nAt i j a > nAt i j b),rfl,Walks.list (A:=X.A.in1) (I.ok.hd hc) _ p (AJ EH) _,⟨⟨_,z_ _ rfl,rfl,rfl⟩,ht.push _⟩,fun b hb=>?_,?_,?_,fun v h' tk hP hk=>?_⟩
 ·show b < (s.heap.push _).objs.size
  rw [B7]
  rcases Ae.mp hb with e | hb
  ·rw [e];exact BB _
  ·rw [zJ.mp hb];exact B4 EH
 ·exact CN 1
 ·refine CmpOf.ints_gt (nAt i j) fun a v hv=>?_
  match a,hv with
  | 0,hv=>exact ⟨t,(zP hv).symm⟩
  | 1,hv=>exact ⟨u,(zP hv).symm⟩
  | (a+2),hv=>simp at hv
 ·have old:∀ b o,s.heap.get? b=some o→h'.get? b=some o:=fun b o e=>hk b o (fun z=>by rw [zJ.mp z] at e;exact absurd (z7 e) (AZ _)) (zM _ e)
  have hP:[Value.int i t,Value.int j u].toArray[if decide (j > i)=true then 1 else 0]? = some v:=hP
  by_cases h:j > i
  ·rw [if_pos (zQ h)] at hP
   rw [if_pos h] at q
   exact ⟨.int j,H,I.kept old,⟨u,(zP hP).symm⟩,q⟩
  ·rw [zH h] at hP
   rw [if_neg h] at q
   exact ⟨.int i,H,I.kept old,⟨t,(zP hP).symm⟩,q⟩
inductive yP (K:PySem.W.Frag)(x:V)(y:V)(H:Hp)(Q:VK):Prop
 | mk:∀ a b ns ms,(x = .ref a)→(y = .ref b)→(SqT K H a (ns.map V.int))→(SqT K H b (ms.map V.int))→(Q (.bl (HT.bJ ms ns)) H)→yP K x y H Q
theorem vN {K:PySem.W.Frag}(hK:X.K=K)(hu:X.A.units+64 < cLine):OpR X (compareOp .Gt) (yP K):=by
 subst hK
 intro EA s σ H x y v u Q I rx ry h
 obtain ⟨a,b,ns,ms,rfl,rfl,ha,hb,q⟩:=h
 cases rx
 cases ry
 obtain ⟨EB,r1,p1,_⟩:=I.tuple ha
 obtain ⟨E2,r2,p2,_⟩:=I.tuple hb
 have i1:IntsAre EB.toArray.toList ns:=cX r1
 have i2:IntsAre E2.toArray.toList ms:=cX r2
 exact HT.kH p1 p2 i1 i2 (by omega) ⟨.bl (HT.bJ ms ns),H,I,rfl,q⟩
inductive cR (P:PySem.Program)(w:PySem.World)(xs:List V)(H:Hp)(Q:VK):Prop
 | mk:∀ (u:List L),(xs=[tx u])→(u.length≤4000)→(∀ (p:Addr) (dl:List Str),H p=none→dl.Nodup→(∀ z,z∈dl ↔ ∃ x∈u,z=toS [x])→Q (.ref p) (upd H p (StO P w p dl)))→cR P w xs H Q
theorem gL (hc:X.calm=true):di X (.type "set") (cR X.prog X.w):=by
 intro EA s σ H xs us Q I r h
 obtain ⟨v,rfl,hz,q⟩:=h
 obtain ⟨u,rfl,ru⟩:=c6 r
 obtain ⟨zt,rfl⟩:=ru
 have hsz:(toS v).cps.size=v.length:=bx v
 have hval:∀ (i:Nat) (x:Value),(∃ c u,(toS v).cps[i]? = some c∧x = .str ⟨#[c]⟩ u)→∃ t,x = .str (toS [v.getD i 0]) t:=fun i x ⟨c,u,hc,e⟩=>by
  obtain ⟨y,hy,ey⟩:=dS hc
  refine ⟨u,?_⟩
  rw [e,ey,Ag,hy]
  rfl
 refine kI (knd:=strKind X.prog X.w) (val:=fun i=>toS [v.getD i 0]) (ddp fun i=>toS [v.getD i 0]) (I.ok.hd hc) (Kx.asc v) (by unfold ddp;rfl) (fun i m=>by rw [ddp,if_pos m]) (fun i m=>by rw [ddp,if_neg m]) (mZ _) (fun i x e=>by obtain ⟨t,rfl⟩:=hval i x e;exact ⟨strKind_is _ _ _ _,rfl⟩) (by rw [hsz];show _ < 4096;omega) fun h' tk hS k=>?_
 refine ⟨.ref s.heap.objs.size,_,I.laid (fun b o e=>k b o (z7 e) e) (zU _) (vw.lay hS),rfl,q _ _ (I.hok.fresh (zU _)) (ff _ _) fun z=>?_⟩
 rw [nv,hsz]
 constructor
 ·rintro ⟨j,hj,rfl⟩
  refine ⟨v[j],AD hj,?_⟩
  show toS [v.getD j 0]=_
  rw [Ag,fu hj]
  rfl
 ·rintro ⟨x,hx,rfl⟩
  obtain ⟨j,hj,rfl⟩:=List.getElem_of_mem hx
  refine ⟨j,hj,?_⟩
  show toS [v.getD j 0]=_
  rw [Ag,fu hj]
  rfl
end
end L2
namespace L2
open PySem PySem.Spec PyProof.Rows
theorem sS {X:Cx}{K:PySem.W.Frag}(hK:X.K=K)(hu:X.A.units < cLine):OpR X (compareOp .Lt) (xq K):=by subst hK; exact uW hu
end L2
namespace Kx
open PySem PySem.Spec PyProof.Rows L2 Wd Tv
theorem xV:bootBuiltins "set" = some (.type "set"):=by kernel_rfl
theorem bZ {n:Nat}(h:n≤16777216):n≤sizeLine:=by rw [aX]; exact h
theorem uv {t u:TS}{D:iM}{σ:L2.St}{H:Hp}(h:t D σ H):cJ t u D σ true H:=xx h
theorem p5 {t u:TS}{D:iM}{σ:L2.St}{H:Hp}(h:u D σ H):cJ t u D σ false H:=ur h
theorem zp {u:TT}{σ:L2.St}{Q:Bool→Hp→Prop}{H:Hp}(h:u σ H Q):qm u σ Q false H:=ur h
theorem xW {ta tb:TE}{σ:L2.St}{Q:VK}{H:Hp}(h:ta σ H Q):kZ ta tb σ Q true H:=xx h
theorem xX {ta tb:TE}{σ:L2.St}{Q:VK}{H:Hp}(h:tb σ H Q):kZ ta tb σ Q false H:=ur h
theorem nkT {Q:Bool→Hp→Prop}{H:Hp}(h:Q false H):kX Q true H:=h
theorem lt0 {n c:Nat}(h:n+64 < c):n < c:=by omega
def atZ (w:List L)(j:Int):L:=w.getD (j % (w.length:Int)).toNat 0
def sgZ (w:List L)(p wy k:Int):L:=if wy=1 then atZ w (p+wy*k) else inv (atZ w (p+wy*k))
theorem fh {w:List L}(j:Int):atZ w (j+(w.length:Int))=atZ w j:=by
 unfold atZ
 rw [Int.add_emod_right]
theorem qQ {w:List L}{wy:Int}(hw:wy=1 ∨ wy = -1)(p k:Int):sgZ w p wy (k+(w.length:Int))=sgZ w p wy k:=by
 unfold sgZ
 rcases hw with rfl | rfl
 ·rw [if_pos rfl,if_pos rfl,← fh (p+1*k)]
  congr 1
  omega
 ·rw [if_neg (by decide),if_neg (by decide),← fh (p + -1*(k+(w.length:Int)))]
  congr 2
  omega
theorem jX {f g:Int→L}{a b:Int}(ha:0 < a)(hb:0 < b)(pf:∀ k,f (k+a)=f k)(pg:∀ k,g (k+b)=g k)(h:∀ k,0≤k→k < a+b→f k=g k):f (-1)=g (-1):=by
 have e1:=pf (-1)
 have e2:=h (-1+a) (by omega) (by omega)
 have e3:=pg (-1+a)
 have e4:=h (-1+a+b) (by omega) (by omega)
 have e5:=pf (-1+b)
 have e6:=h (-1+b) (by omega) (by omega)
 have e7:=pg (-1)
 rw [← e1,e2,← e3,← e4,show -1+a+b = -1+b+a by omega,e5,e6,e7]
def frN (f g:Int→L):Nat→Nat→Nat
 | k,0=>k
 | k,b+1=>if f k=g k then frN f g (k+1) b else k
theorem cS (f g:Int→L):∀ (b k:Nat),k≤frN f g k b∧frN f g k b≤k+b∧(∀ j:Nat,k≤j→j < frN f g k b→f j=g j)∧(frN f g k b < k+b→f (frN f g k b)≠g (frN f g k b))
 | 0,k=>⟨zU _,zU _,fun j h1 h2=>absurd h2 (by show ¬ j < k;omega),fun h=>absurd h (by show ¬ k < k+0;omega)⟩
 | b+1,k=>by
  unfold frN
  by_cases e:f k=g k
  ·rw [if_pos e]
   obtain ⟨h1,h2,h3,h4⟩:=cS f g b (k+1)
   refine ⟨by omega,by omega,fun j hj hl=>?_,fun h=>h4 (by omega)⟩
   by_cases hk:j=k
   ·rw [hk];exact e
   ·exact h3 j (by omega) hl
  ·rw [if_neg e]
   exact ⟨zU _,by omega,fun j h1 h2=>by omega,fun _=>e⟩
def ptB (u:List L)(f g:Int→L)(n:Nat):Bool:=decide (0 < n) && (decide (f (-1)≠g (-1)) && (decide (f n≠g n) && (decide (rfI u (inv (f ((n:Int) - 1))) (f n) < rfI u (inv (f ((n:Int) - 1))) (g n)) == decide (rfI u (f 0) (inv (f (-1))) < rfI u (f 0) (inv (g (-1)))))))
theorem dN {u:List L}{f g:Int→L}{n:Nat}(h:f (-1)=g (-1)):ptB u f g n=false:=by
 unfold ptB
 rw [zH (p:=f (-1)≠g (-1)) (fun z=>z h),AH,BS]
theorem qR {w v:List L}(hw:w≠[])(hv:v≠[]){p q wy:Int}(hy:wy=1 ∨ wy = -1)(h:sgZ w p 1 (-1)≠sgZ v q wy (-1)):frN (sgZ w p 1) (sgZ v q wy) 0 (w.length+v.length) < w.length+v.length∧sgZ w p 1 (frN (sgZ w p 1) (sgZ v q wy) 0 (w.length+v.length))≠sgZ v q wy (frN (sgZ w p 1) (sgZ v q wy) 0 (w.length+v.length)):=by
 have l1:=Av.mpr hw
 have l2:=Av.mpr hv
 obtain ⟨_,h2,h3,h4⟩:=cS (sgZ w p 1) (sgZ v q wy) (w.length+v.length) 0
 generalize frN (sgZ w p 1) (sgZ v q wy) 0 (w.length+v.length)=n at h2 h3 h4 ⊢
 by_cases c:n < w.length+v.length
 ·exact ⟨c,h4 (by omega)⟩
 ·refine absurd (jX (f:=sgZ w p 1) (g:=sgZ v q wy) (a:=(w.length:Int)) (b:=(v.length:Int)) (by omega) (by omega) (qQ (.inl rfl) p) (qQ hy q) fun k hk hl=>?_) h
  obtain ⟨m,rfl⟩:=AR hk
  exact h3 m (Ay _) (by omega)
theorem sT {w:List L}(h:Rd w){a:Nat}(ha:a+1 < w.length):w[a+1]≠inv w[a]:=by
 have e:w=w.take (a+1)++w.drop (a+1):=(Ak _ _).symm
 rw [e] at h
 obtain ⟨_,_,j⟩:=(bF _ _).mp h
 refine j _ _ ?_ ?_
 ·rw [B_,z9,show min (a+1) w.length - 1=a by omega,AX (by omega),fu (by omega)]
 ·rw [Cz,AN,fu (by omega)]
theorem rnd_at {w:List L}(R:Rnd w)(j:Int):atZ w (j+1)≠inv (atZ w j):=by
 have l1:=Av.mpr R.ne
 have e0:=Ad j (show (w.length:Int)≠0 by omega)
 have e1:=zY j (show (0:Int) < (w.length:Int) by omega)
 obtain ⟨a,ha⟩:=AR e0
 have hal:a < w.length:=by omega
 have ea:atZ w j=w[a]:=by
  unfold atZ
  rw [ha,Ag,AM,fu hal]
  rfl
 rw [ea]
 by_cases c:a+1 < w.length
 ·have e2:(j+1) % (w.length:Int)=((a+1:Nat):Int):=by
   rw [Br,ha,show (1:Int) % (w.length:Int)=1 from AW (by omega) (by omega)]
   exact AW (by omega) (by omega)
  have e3:atZ w (j+1)=w[a+1]:=by
   unfold atZ
   rw [e2,Ag,AM,fu c]
   rfl
  rw [e3]
  exact sT R.rd c
 ·have e2:(j+1) % (w.length:Int)=0:=by
   have:j+1=(w.length:Int)*(j / (w.length:Int))+(w.length:Int):=by
    have:=Int.mul_ediv_add_emod j (w.length:Int)
    omega
   rw [this,Int.add_emod_right,Int.mul_emod_right]
  have e3:atZ w (j+1)=w[0]:=by
   unfold atZ
   rw [e2,Ag,show (0:Int).toNat=0 from rfl,fu l1]
   rfl
  rw [e3]
  have hl:w.getLast? = some w[a]:=by
   rw [B_,show w.length - 1=a by omega,fu hal]
  have hh:w.head? = some w[0]:=by rw [Cz,fu l1]
  exact R.jn _ _ hl hh
theorem nI {w:List L}(R:Rnd w){p q:Int}{n:Nat}(hn:0 < n)(h:∀ j:Nat,j < n→sgZ w p 1 j=sgZ w q (-1) j)(hq:(q - n+1) % (w.length:Int)=p % (w.length:Int)):False:=by
 have at_mod:∀ {i j:Int},i % (w.length:Int)=j % (w.length:Int)→atZ w i=atZ w j:=fun e=>by unfold atZ;rw [e]
 have key:∀ j:Nat,j < n→atZ w (p+j)=inv (atZ w (p+(n:Int) - 1 - j)):=fun j hj=>by
  have:=h j hj
  unfold sgZ at this
  rw [if_pos rfl,if_neg (by decide)] at this
  rw [show p+(j:Int)=p+1*(j:Int) by omega,this]
  congr 1
  refine at_mod ?_
  have e:q + -1*(j:Int)=(q - n+1)+((n:Int) - 1 - j):=by omega
  rw [e,Br,hq,← Br]
  congr 1
  omega
 by_cases c:n % 2=1
 ·obtain ⟨r,hr⟩:∃ r,n=2*r+1:=⟨n / 2,by omega⟩
  have:=key r (by omega)
  rw [show p+(n:Int) - 1 - (r:Int)=p+r by omega] at this
  exact dE _ this.symm
 ·obtain ⟨r,hr⟩:∃ r,n=2*(r+1):=⟨n / 2 - 1,by omega⟩
  have:=key (r+1) (by omega)
  rw [show p+(n:Int) - 1 - ((r+1:Nat):Int)=p+r by omega,show p+((r+1:Nat):Int)=(p+r)+1 by omega] at this
  exact rnd_at R _ this
abbrev P2:=Int × Int
inductive Lk where
 | b (s t:P2)
 | a (s t:P2) (n:Nat)
 | g (s t:P2) (n:Nat)
def cB:List Int:=("beside":Str).cps.toList.map Int.ofNat
def cA:List Int:=("along":Str).cps.toList.map Int.ofNat
def cG:List Int:=("against":Str).cps.toList.map Int.ofNat
theorem zq:cB≠cA:=by decide +kernel
theorem zr:cB≠cG:=by decide +kernel
def pZ (s:P2):List Int:=[s.1,s.2]
def Lk.key:Lk→dh
 | .b s t=>[cB,pZ s,pZ t]
 | .a s t n=>[cA,pZ s,pZ t,[(n:Int)]]
 | .g s t n=>[cG,pZ s,pZ t,[(n:Int)]]
def shL:List Int→List Kn:=fun x=>if x=cB then [.p,.p] else [.p,.p,.i]
abbrev Sp2 (H:Hp)(a:Addr)(s:P2):Prop:=H a=some (.tup [.int s.1,.int s.2])
def sU (H:Hp)(r:Addr):Lk→Prop
 | .b s t=>∃ a c,H r=some (.tup [.str "beside",.ref a,.ref c])∧Sp2 H a s∧Sp2 H c t
 | .a s t n=>∃ a c,H r=some (.tup [.str "along",.ref a,.ref c,.int (n:Nat)])∧Sp2 H a s∧Sp2 H c t
 | .g s t n=>∃ a c,H r=some (.tup [.str "against",.ref a,.ref c,.int (n:Nat)])∧Sp2 H a s∧Sp2 H c t
theorem sU.to {H H':Hp}{r:Addr}{k:Lk}(h:sU H r k)(s:∀ b ys,H b=some (.tup ys)→H' b=some (.tup ys)):sU H' r k:=by
 cases k with
 | b _ _=>obtain ⟨a,c,h1,h2,h3⟩:=h;exact ⟨a,c,s _ _ h1,s _ _ h2,s _ _ h3⟩
 | a _ _ _=>obtain ⟨a,c,h1,h2,h3⟩:=h;exact ⟨a,c,s _ _ h1,s _ _ h2,s _ _ h3⟩
 | g _ _ _=>obtain ⟨a,c,h1,h2,h3⟩:=h;exact ⟨a,c,s _ _ h1,s _ _ h2,s _ _ h3⟩
theorem sU.kd {H:Hp}{r:Addr}{k:Lk}(h:sU H r k):KdQ .s shL H r k.key:=by
 cases k with
 | b s t =>
  obtain ⟨a,c,h1,h2,h3⟩:=h
  refine ⟨_,h1,?_⟩
  show FlQ H (.s::shL cB) _ [cB,pZ s,pZ t]
  unfold shL
  rw [if_pos rfl]
  exact .s _ (.p h2 (.p h3 .nil))
 | a s t n =>
  obtain ⟨a,c,h1,h2,h3⟩:=h
  refine ⟨_,h1,?_⟩
  show FlQ H (.s::shL cA) _ [cA,pZ s,pZ t,[(n:Int)]]
  unfold shL
  rw [if_neg zq.symm]
  exact .s _ (.p h2 (.p h3 (.i _ .nil)))
 | g s t n =>
  obtain ⟨a,c,h1,h2,h3⟩:=h
  refine ⟨_,h1,?_⟩
  show FlQ H (.s::shL cG) _ [cG,pZ s,pZ t,[(n:Int)]]
  unfold shL
  rw [if_neg zr.symm]
  exact .s _ (.p h2 (.p h3 (.i _ .nil)))
def LkA (H:Hp)(zs:List (Addr × Lk)):Prop:=∀ z∈zs,sU H z.1 z.2
theorem LkA.to {H H':Hp}{zs:List (Addr × Lk)}(h:LkA H zs)(s:∀ b ys,H b=some (.tup ys)→H' b=some (.tup ys)):LkA H' zs:=fun z hz=>(h z hz).to s
theorem LkA.same {H H':Hp}{zs:List (Addr × Lk)}(h:LkA H zs)(s:aE H H'):LkA H' zs:=h.to fun _ _ e=>s _ _ e
theorem LkA.app {H:Hp}{zs ys:List (Addr × Lk)}(h:LkA H zs)(g:LkA H ys):LkA H (zs++ys):=fun z hz=>(z3.mp hz).elim (h z) (g z)
def ltP (s t:P2):Bool:=HT.bJ [s.1,s.2] [t.1,t.2]
theorem gM {s t:P2}:ltP s t=true ↔ s.1 < t.1 ∨ (s.1=t.1∧s.2 < t.2):=by
 unfold ltP
 rw [HT.bM,HT.bM,HT.cn]
 by_cases e1:s.1=t.1
 ·rw [if_pos e1]
  by_cases e2:s.2=t.2
  ·rw [if_pos e2]
   simp only [Ac,false_iff,not_or,not_and]
   omega
  ·rw [if_neg e2,zT]
   omega
 ·rw [if_neg e1,zT]
  omega
def cx (u:List L)(a b c d:L):Bool:=decide ([a,b,c,d].Nodup) && (decide (rfI u a c < rfI u a b) != decide (rfI u a d < rfI u a b))
def wyZ (W:List (List L))(i:Int):List L:=W.getD i.toNat []
def fZ (W:List (List L))(s:P2)(wy:Int):Int→L:=sgZ (wyZ W s.1) s.2 wy
def nZ (W:List (List L))(s t:P2)(wy:Int):Nat:=frN (fZ W s 1) (fZ W t wy) 0 ((wyZ W s.1).length+(wyZ W t.1).length)
def vO (u:List L)(W:List (List L))(s t:P2):List Lk:=if ltP s t && cx u (inv (fZ W s 1 0)) (fZ W s 1 1) (inv (fZ W t 1 0)) (fZ W t 1 1) then [.b s t] else []
def vP (u:List L)(W:List (List L))(s t:P2):List Lk:=if ltP s t && ptB u (fZ W s 1) (fZ W t 1) (nZ W s t 1) then [.a s t (nZ W s t 1)] else []
def kJ (W:List (List L))(s t:P2)(n:Nat):P2:=(t.1,(t.2 - (n:Int)+1) % ((wyZ W t.1).length:Int))
def kP (u:List L)(W:List (List L))(s t:P2):List Lk:=if ltP s (kJ W s t (nZ W s t (-1))) && ptB u (fZ W s 1) (fZ W t (-1)) (nZ W s t (-1)) then [.g s t (nZ W s t (-1))] else []
structure WyR (n:Nat) (W:List (List L)):Prop where
 le:W.length≤4
 lo:1≤W.length
 ws:∀ w∈W,Rnd w∧w.length≤30∧InM n w
structure WyA (n:Nat) (W:List (List L)) (H:Hp) (a:Addr):Prop where
 at_:H a=some (.tup (W.map tx))
 ok:WyR n W
theorem WyA.same {n:Nat}{W:List (List L)}{H H':Hp}{a:Addr}(h:WyA n W H a)(s:aE H H'):WyA n W H' a:=⟨s _ _ h.at_,h.ok⟩
def okP (W:List (List L))(s:P2):Prop:=0≤s.1∧s.1 < (W.length:Int)∧0≤s.2∧s.2 < ((wyZ W s.1).length:Int)
theorem WyR.get {n:Nat}{W:List (List L)}(h:WyR n W){i:Int}(h0:0≤i)(h1:i < (W.length:Int)):wyZ W i∈W∧atI (W.map tx) i=some (tx (wyZ W i))∧Rnd (wyZ W i)∧(wyZ W i).length≤30∧0 < (wyZ W i).length∧InM n (wyZ W i):=by
 obtain ⟨m,rfl⟩:=AR h0
 have hm:m < W.length:=by omega
 have e:wyZ W (m:Int)=W[m]:=by
  unfold wyZ
  rw [AM,Ag,fu hm]
  rfl
 rw [e]
 have hmem:=AD hm
 obtain ⟨a,b,c⟩:=h.ws _ hmem
 exact ⟨hmem,eM (j:=m) (by rw [Az,fu hm];rfl),a,b,Av.mpr a.ne,c⟩
theorem cC {w:List L}(h:0 < w.length)(j:Int):atZ w j∈w:=by
 have e0:=Ad j (show (w.length:Int)≠0 by omega)
 have e1:=zY j (show (0:Int) < (w.length:Int) by omega)
 unfold atZ
 rw [Ag,fu (show (j % (w.length:Int)).toNat < w.length by omega)]
 exact AD _
theorem jd {n:Nat}{w:List L}(h:0 < w.length)(hi:InM n w)(p wy k:Int):(sgZ w p wy k).val % 6 < n:=by
 unfold sgZ
 have:=hi _ (cC h (p+wy*k))
 split
 ·exact this
 ·rw [nu]
  have:=(atZ w (p+wy*k)).isLt
  split <;> omega
theorem p6 {n:Nat}{u:List L}{W:List (List L)}(hW:WyR n W){s t:P2}(hs:okP W s)(ht:okP W t)(hb:fZ W s 1 (-1)≠fZ W t (-1) (-1)):(if ltP (kJ W s t (nZ W s t (-1))) s then [] else if ptB u (fZ W s 1) (fZ W t (-1)) (nZ W s t (-1)) then [Lk.g s t (nZ W s t (-1))] else [])=kP u W s t:=by
 unfold kP
 by_cases c1:ltP (kJ W s t (nZ W s t (-1))) s=true
 ·rw [if_pos c1]
  have:ltP s (kJ W s t (nZ W s t (-1)))=false:=by
   rw [Do]
   intro z
   rw [gM] at c1 z
   omega
  rw [this,AH,if_neg (by decide)]
 ·rw [if_neg c1]
  by_cases c2:ltP s (kJ W s t (nZ W s t (-1)))=true
  ·rw [c2,AK]
  ·have e:s=kJ W s t (nZ W s t (-1)):=by
    have c1:¬ (ltP (kJ W s t (nZ W s t (-1))) s=true):=c1
    rw [gM] at c1 c2
    exact Cd (by omega) (by omega)
   have:ptB u (fZ W s 1) (fZ W t (-1)) (nZ W s t (-1))=false:=by
    rw [Do]
    intro z
    unfold ptB at z
    rw [A_,zT] at z
    obtain ⟨hn,_⟩:=z
    have e1:s.1=t.1:=by
     have:=Af Prod.fst e
     exact this
    have e2:s.2=(t.2 - (nZ W s t (-1):Nat)+1) % ((wyZ W t.1).length:Int):=Af Prod.snd e
    obtain ⟨_,_,R,_,lp,_⟩:=hW.get hs.1 hs.2.1
    refine nI (w:=wyZ W s.1) (p:=s.2) (q:=t.2) R hn (fun j hj=>?_) ?_
    ·have:=(cS (fZ W s 1) (fZ W t (-1)) ((wyZ W s.1).length+(wyZ W t.1).length) 0).2.2.1 j (Ay _) hj
     unfold fZ at this
     rw [← e1] at this
     exact this
    ·rw [← e1] at e2
     rw [e2,Int.emod_emod_of_dvd _ (Int.dvd_refl _)]
   rw [this,BS]
def lkZ (u:List L)(W:List (List L))(s t:P2):List Lk:=vO u W s t++(vP u W s t++kP u W s t)
def oH (u:List L)(W:List (List L))(i j:Int)(p:Nat)(m:Nat):List Lk:=(List.range m).flatMap fun q:Nat=>lkZ u W (i,(p:Int)) (j,(q:Int))
def iB (u:List L)(W:List (List L))(i j:Int)(m:Nat):List Lk:=(List.range m).flatMap fun p:Nat=>oH u W i j p (wyZ W j).length
theorem jY (u:List L)(W:List (List L))(i j:Int)(p m:Nat):oH u W i j p (m+1)=oH u W i j p m++lkZ u W (i,(p:Int)) (j,(m:Int)):=by
 unfold oH
 rw [DT,C3]
 simp
theorem jZ (u:List L)(W:List (List L))(i j:Int)(m:Nat):iB u W i j (m+1)=iB u W i j m++oH u W i j m (wyZ W j).length:=by
 unfold iB
 rw [DT,C3]
 simp
theorem vQ (u:List L)(W:List (List L))(s t:P2):(lkZ u W s t).length≤3:=by
 unfold lkZ vO vP kP
 rw [zI,zI]
 have h:∀ (b:Bool) (x:Lk),(if b=true then [x] else []).length≤1:=fun b x=>by cases b <;> simp
 have h1:=h (ltP s t && cx u (inv (fZ W s 1 0)) (fZ W s 1 1) (inv (fZ W t 1 0)) (fZ W t 1 1)) (.b s t)
 have h2:=h (ltP s t && ptB u (fZ W s 1) (fZ W t 1) (nZ W s t 1)) (.a s t (nZ W s t 1))
 have h3:=h (ltP s (kJ W s t (nZ W s t (-1))) && ptB u (fZ W s 1) (fZ W t (-1)) (nZ W s t (-1))) (.g s t (nZ W s t (-1)))
 omega
theorem je (u:List L)(W:List (List L))(i j:Int)(p:Nat):∀ m,(oH u W i j p m).length≤3*m
 | 0=>zU _
 | m+1=>by
  have:=je u W i j p m
  have:=vQ u W (i,(p:Int)) (j,(m:Int))
  rw [jY,zI]
  omega
theorem nJ (u:List L)(W:List (List L))(i j:Int){b:Nat}(hb:(wyZ W j).length≤b):∀ m,(iB u W i j m).length≤3*b*m
 | 0=>zU _
 | m+1=>by
  have:=nJ u W i j hb m
  have:=je u W i j m (wyZ W j).length
  rw [jZ,zI,Nat.mul_add,Nat.mul_one]
  omega
abbrev Wk3 (H:Hp)(x:Addr)(s:P2)(wy:Int):Prop:=H x=some (.tup [.int s.1,.int s.2,.int wy])
inductive wX (vs:List V)(H:Hp)(Q:VK)(EM:XK):Prop
 | mk:∀ (u:List L) (k:Nat) (a b:L),(vs=[tx u,tx [a],tx [b]])→SK u k→a∈u→b∈u→Q (.int (rfI u a b)) H→wX vs H Q EM
inductive sV (vs:List V)(H:Hp)(Q:VK)(EM:XK):Prop
 | mk:∀ (u:List L) (k:Nat) (s a b:L),(vs=[tx u,tx [s],tx [a],tx [b]])→SK u k→s∈u→a∈u→b∈u→(∀ H',aE H H'→Q (.bl (decide (rfI u s a < rfI u s b))) H')→sV vs H Q EM
inductive iC (vs:List V)(H:Hp)(Q:VK)(EM:XK):Prop
 | mk:∀ (a x:Addr) (n:Nat) (W:List (List L)) (s:P2) (wy k:Int),(vs=[.ref a,.ref x,.int k])→WyA n W H a→Wk3 H x s wy→0≤s.1→s.1 < (W.length:Int)→(wy=1 ∨ wy = -1)→(∀ H',aE H H'→Q (tx [fZ W s wy k]) H')→iC vs H Q EM
inductive j3 (vs:List V)(H:Hp)(Q:VK)(EM:XK):Prop
 | mk:∀ (a x y:Addr) (n:Nat) (W:List (List L)) (s t:P2) (wy:Int),(vs=[.ref a,.ref x,.ref y])→WyA n W H a→Wk3 H x s 1→Wk3 H y t wy→okP W s→okP W t→(wy=1 ∨ wy = -1)→(∀ H',aE H H'→Q (.int ((if fZ W s 1 (-1)=fZ W t wy (-1) then 0 else nZ W s t wy:Nat):Int)) H')→j3 vs H Q EM
def iD (u:List L)(f g:Int→L)(n:Nat):Bool:=decide (0 < n) && (decide (rfI u (inv (f ((n:Int) - 1))) (f n) < rfI u (inv (f ((n:Int) - 1))) (g n)) == decide (rfI u (f 0) (inv (f (-1))) < rfI u (f 0) (inv (g (-1)))))
inductive j4 (vs:List V)(H:Hp)(Q:VK)(EM:XK):Prop
 | mk:∀ (u:List L) (a x y:Addr) (n m:Nat) (W:List (List L)) (s t:P2) (wy:Int),(vs=[tx u,.ref a,.ref x,.ref y,.int (m:Nat)])→SK u n→WyA n W H a→Wk3 H x s 1→Wk3 H y t wy→okP W s→okP W t→(wy=1 ∨ wy = -1)→(∀ H',aE H H'→Q (.bl (iD u (fZ W s 1) (fZ W t wy) m)) H')→j4 vs H Q EM
inductive xY (vs:List V)(H:Hp)(Q:VK)(EM:XK):Prop
 | mk:∀ (a x:Addr) (n:Nat) (W:List (List L)) (s:P2),(vs=[.ref a,.ref x])→WyA n W H a→Sp2 H x s→okP W s→(∀ H',aE H H'→Q (tx [inv (fZ W s 1 0),fZ W s 1 1]) H')→xY vs H Q EM
inductive p7 (r:List L→List (List L)→P2→P2→List Lk)(vs:List V)(H:Hp)(Q:VK)(EM:XK):Prop
 | mk:∀ (u:List L) (a x y:Addr) (n:Nat) (W:List (List L)) (s t:P2),(vs=[tx u,.ref a,.ref x,.ref y])→SK u n→WyA n W H a→Sp2 H x s→Sp2 H y t→okP W s→okP W t →
  (∀ (l:Addr) (zs:List (Addr × Lk)) (H':Hp),H l=none→aE H H'→H' l=some (.lst ((zs.map (·.1)).map V.ref))→LkA H' zs→zs.map (·.2)=r u W s t→Q (.ref l) H')→p7 r vs H Q EM
def vR (u:List L)(W:List (List L))(s t:P2):List Lk:=if cx u (inv (fZ W s 1 0)) (fZ W s 1 1) (inv (fZ W t 1 0)) (fZ W t 1 1) then [.b s t] else []
def sW (u:List L)(W:List (List L))(s t:P2):List Lk:=if ptB u (fZ W s 1) (fZ W t 1) (nZ W s t 1) then [.a s t (nZ W s t 1)] else []
def uw (u:List L)(W:List (List L))(s t:P2):List Lk:=kP u W s t++(if ltP s t then sW u W s t++vR u W s t else [])
theorem nK (u:List L)(W:List (List L))(s t:P2):(uw u W s t).Perm (lkZ u W s t):=by
 unfold uw lkZ vP vO sW vR
 cases ltP s t with
 | true =>
  rw [if_pos rfl,AK,AK]
  refine A8.trans ?_
  rw [← zR]
  exact (A8).append_right _
 | false =>
  rw [if_neg (by decide),AH,AH,if_neg (by decide),if_neg (by decide)]
  simp
inductive gN (vs:List V)(H:Hp)(Q:VK)(EM:XK):Prop
 | mk:∀ (u:List L) (a:Addr) (n:Nat) (W:List (List L)) (i j:Int),(vs=[tx u,.ref a,.int i,.int j])→SK u n→WyA n W H a→0≤i→i < (W.length:Int)→0≤j→j < (W.length:Int) →
  (∀ (l:Addr) (zs:List (Addr × Lk)) (H':Hp),H l=none→aE H H'→H' l=some (.lst ((zs.map (·.1)).map V.ref))→LkA H' zs→(zs.map (·.2)).Perm (iB u W i j (wyZ W i).length)→((zs.map (·.2)).map Lk.key).Pairwise qle→Q (.ref l) H')→gN vs H Q EM
theorem fx {n:Nat}{u:List L}(U:SK u n){W:List (List L)}(hW:WyR n W){s:P2}(os:okP W s)(wy k:Int):fZ W s wy k∈u∧inv (fZ W s wy k)∈u:=by
 obtain ⟨_,_,_,_,lp,hi⟩:=hW.get os.1 os.2.1
 have:=jd lp hi s.2 wy k
 exact ⟨(U.mem _).mpr this,(U.mem _).mpr (by rw [mG];exact this)⟩
theorem sX {u:List L}{f g:Int→L}{n:Nat}(h:f (-1)≠g (-1))(h':f n≠g n):iD u f g n=ptB u f g n:=by
 unfold iD ptB
 rw [zQ h,zQ h',AK,AK]
theorem qS {u:List L}{f g:Int→L}:iD u f g 0=false:=rfl
theorem j5 {n:Nat}{u:List L}{W:List (List L)}(hW:WyR n W){s t:P2}(os:okP W s)(ot:okP W t){wy:Int}(hwy:wy=1 ∨ wy = -1):iD u (fZ W s 1) (fZ W t wy) (if fZ W s 1 (-1)=fZ W t wy (-1) then 0 else nZ W s t wy)=ptB u (fZ W s 1) (fZ W t wy) (nZ W s t wy):=by
 by_cases e:fZ W s 1 (-1)=fZ W t wy (-1)
 ·rw [if_pos e,qS,dN e]
 ·rw [if_neg e]
  obtain ⟨_,_,Rw,_⟩:=hW.get os.1 os.2.1
  obtain ⟨_,_,Rv,_⟩:=hW.get ot.1 ot.2.1
  exact sX e (qR Rw.ne Rv.ne hwy e).2
theorem xZ (a b:Bool):(a == b)=decide (V.bl a=V.bl b):=by cases a <;> cases b <;> rfl
theorem iE {H H4:Hp}{Q:VK}{r:List Lk}{l:Addr}(q:aE H H4)(hl:H4 l=none)(k:∀ (l:Addr) (zs:List (Addr × Lk)) (H':Hp),H l=none→aE H H'→H' l=some (.lst ((zs.map (·.1)).map V.ref))→LkA H' zs→zs.map (·.2)=r→Q (.ref l) H')(e:r=[]):Q (.ref l) (upd H4 l (.lst [])) :=
 k l [] _ (q.free hl) (q.trans (aE.new hl)) ag (fun _ h=>absurd h (by simp)) e.symm
theorem jf {H H4:Hp}{Q:VK}{r:List Lk}{m:Lk}{l c:Addr}{ys:List V}(q:aE H H4)(hc:H4 c=none)(hl:(upd H4 c (.tup ys)) l=none)(hm:sU (upd H4 c (.tup ys)) c m)(k:∀ (l:Addr) (zs:List (Addr × Lk)) (H':Hp),H l=none→aE H H'→H' l=some (.lst ((zs.map (·.1)).map V.ref))→LkA H' zs→zs.map (·.2)=r→Q (.ref l) H')(e:r=[m]):Q (.ref l) (upd (upd H4 c (.tup ys)) l (.lst [.ref c])):=by
 have q1:=q.trans (aE.new (o:=.tup ys) hc)
 refine k l [(c,m)] _ (q1.free hl) (q1.trans (aE.new hl)) ag (fun z h=>?_) e.symm
 rw [zJ.mp h]
 exact hm.to fun _ _ e=>aE.new hl _ _ e
theorem fi {H H2:Hp}{l:Addr}{o:HO}(s:aE H H2)(h:H l=none):aE H (upd H2 l o):=fun b u e=>by rw [aM (au e h)]; exact s b u e
theorem gO {H:Hp}{l:Addr}{xs:List V}{o:HO}(h:H l=some (.lst xs)):∀ b ys,H b=some (.tup ys)→(upd H l o) b=some (.tup ys):=fun b ys e=>by
 have:b≠l:=fun z=>by rw [z,h] at e;cases e
 rw [aM this]
 exact e
theorem gP (xs ys:List (Addr × Lk)):((xs.map (·.1)).map V.ref)++((ys.map (·.1)).map V.ref)=((xs++ys).map (·.1)).map V.ref:=by rw [AU,AU]
theorem zu {w:List L}{j:Int}(h:0 < (w.length:Int)):atI (toS w).cps.toList (j % (w.length:Int))=some (cp (atZ w j)):=by
 have e0:=Ad j (show (w.length:Int)≠0 by omega)
 have e1:=zY j h
 refine cu (k:=(j % (w.length:Int)).toNat) (by omega) ?_
 unfold atZ
 rw [Ag,fu (show (j % (w.length:Int)).toNat < w.length by omega)]
 rfl
theorem nM {F:List L}{x:L}(h:F.head? = some x):atI (bD F) 0=some (tx [x]):=by
 cases F with
 | nil=>simp at h
 | cons z r =>
  have:z=x:=zP h
  subst this
  unfold atI ixN bD
  rw [if_pos (by decide),if_pos (by simp)]
  rfl
theorem p8 {f g:Int→L}{N i:Nat}(h:∀ j:Nat,j < i→f j=g j)(hi:i≤N)(he:i=N ∨ f i≠g i):frN f g 0 N=i:=by
 obtain ⟨_,h2,h3,h4⟩:=cS f g N 0
 generalize frN f g 0 N=n at h2 h3 h4 ⊢
 by_cases c:n < i
 ·exact absurd (h n c) (h4 (by omega))
 ·by_cases c2:i < n
  ·rcases he with rfl | he
   ·omega
   ·exact absurd (h3 i (Ay _) c2) he
  ·omega
theorem sg1 {w:List L}(p:Int)(k:Int):sgZ w p 1 k=atZ w (p+k):=by
 unfold sgZ
 rw [if_pos rfl,Int.one_mul]
theorem zw {a b c d:L}{dl:List Str}(nd:dl.Nodup)(hm:∀ z,z∈dl ↔ ∃ x∈[a,b,c,d],z=toS [x]):decide ((dl.length:Int) < 4)=!decide ([a,b,c,d].Nodup):=by
 by_cases h:[a,b,c,d].Nodup
 ·rw [zQ h]
  refine zH ?_
  have nd2:([a,b,c,d].map fun x=>toS [x]).Nodup:=List.Pairwise.map _ (fun x y n e=>n (Bo (lS e)).1) h
  have p:([a,b,c,d].map fun x=>toS [x]).Perm dl:=(C9 nd2 nd).mpr fun z=>by
   rw [hm,AE]
   exact ⟨fun ⟨x,h1,h2⟩=>⟨x,h1,h2.symm⟩,fun ⟨x,h1,h2⟩=>⟨x,h1,h2.symm⟩⟩
  have:=p.length_eq
  rw [zV] at this
  have:dl.length=4:=this.symm
  omega
 ·rw [zH h]
  refine zQ ?_
  have key:∀ x y z:L,(∀ v∈[a,b,c,d],v∈[x,y,z])→(dl.length:Int) < 4:=fun x y z hs=>by
   apply Classical.byContradiction
   intro n
   have:=(cQ (zs:=[toS [x],toS [y],toS [z]]) nd (fun k hk=>by
    obtain ⟨v,hv,rfl⟩:=(hm k).mp hk
    have:=hs v hv
    simp only [Ae,Ax,BN] at this ⊢
    rcases this with rfl | rfl | rfl
    ·exact .inl rfl
    ·exact .inr (.inl rfl)
    ·exact .inr (.inr rfl)) (by show 3≤_;omega)).length_eq
   have:3=dl.length:=this
   omega
  simp only [Ar,Ae,Ax,BN,CB,A9,D9,not_or] at h
  by_cases e1:a=b
  ·exact key b c d (by intro v hv;simp only [Ae,Ax,BN] at hv ⊢;rw [e1] at hv;rcases hv with h | h | h | h <;> simp [h])
  by_cases e2:a=c
  ·exact key b c d (by intro v hv;simp only [Ae,Ax,BN] at hv ⊢;rw [e2] at hv;rcases hv with h | h | h | h <;> simp [h])
  by_cases e3:a=d
  ·exact key b c d (by intro v hv;simp only [Ae,Ax,BN] at hv ⊢;rw [e3] at hv;rcases hv with h | h | h | h <;> simp [h])
  by_cases e4:b=c
  ·exact key a c d (by intro v hv;simp only [Ae,Ax,BN] at hv ⊢;rw [e4] at hv;rcases hv with h | h | h | h <;> simp [h])
  by_cases e5:b=d
  ·exact key a c d (by intro v hv;simp only [Ae,Ax,BN] at hv ⊢;rw [e5] at hv;rcases hv with h | h | h | h <;> simp [h])
  by_cases e6:c=d
  ·exact key a b d (by intro v hv;simp only [Ae,Ax,BN] at hv ⊢;rw [e6] at hv;rcases hv with h | h | h | h <;> simp [h])
  exact absurd ⟨⟨e1,e2,e3⟩,⟨e4,e5⟩,e6⟩ h
def Cyc (w:List L):Prop:=Wd.Rd w∧J w w
theorem Cyc.rnd {w:List L}(h:Cyc w)(n:w≠[]):Rnd w:=⟨n,h.1,h.2⟩
theorem sY:Cyc []:=⟨trivial,fun x y h=>by simp at h⟩
theorem gQ (x:L):Rnd [x]:=⟨by simp,trivial,fun a b ha hb=>by
 have ha:x=a:=by simpa using ha
 have hb:x=b:=by simpa using hb
 subst ha hb
 exact fun e=>dE _ e.symm⟩
theorem sZ {V:List L}{x:L}(h:Wd.Rd V)(g:∀ y,V.getLast? = some y→x≠inv y):Wd.Rd (V++[x]):=by
 rw [bF]
 refine ⟨h,trivial,fun a b ha hb=>?_⟩
 have hb:x=b:=by simpa using hb
 rw [← hb]
 exact g a ha
theorem vS {x y:L}{mid:List L}(h:Wd.Rd (x::(mid++[y]))):Wd.Rd mid:=((bF _ _).mp h.tail).1
theorem s_ {x y:L}{mid:List L}(h:Wd.Rd (x::(mid++[y])))(g:x≠inv y):Cyc (x::(mid++[y])):=⟨h,fun a b ha hb=>by
 have e:x::(mid++[y])=(x::mid)++[y]:=rfl
 rw [e,List.getLast?_append,List.getLast?_singleton] at ha
 have ha:y=a:=by simpa using ha
 have hb:x=b:=by simpa using hb
 rw [← ha,← hb]
 exact g⟩
theorem tf {w:List L}(h:¬ 1 < w.length):Cyc w:=by
 match w,h with
 | [],_=>exact sY
 | [x],_=>exact ⟨(gQ x).rd,(gQ x).jn⟩
 | x::y::r,h=>simp at h
theorem tj {v:List L}{n:Nat}(h:Cyc (rep n v))(hn:rep n v≠[]):Cyc v:=by
 cases n with
 | zero=>exact absurd rfl hn
 | succ n=>exact ⟨(jV (h.rnd hn)).rd,(jV (h.rnd hn)).jn⟩
theorem iF {w:List L}(h:Rnd w):∀ a,Rnd (w.drop a++w.take a)
 | 0=>by rw [CD,List.take_zero,AY];exact h
 | a+1=>by
  have ih:=iF h a
  by_cases c:a < w.length
  ·have e1:w.drop a=w[a]::w.drop (a+1):=AI c
   have e2:w.take (a+1)=w.take a++[w[a]]:=by rw [CA,fu c];rfl
   rw [e1,List.cons_append] at ih
   rw [e2,← zR]
   exact pV ih
  ·rw [BV (by omega),AB (by omega)] at ih ⊢
   exact ih
def GR (n b:Nat)(w:List L):Prop:=Rnd w∧w.length≤b∧InM n w
theorem GR.bk {n b:Nat}{w:List L}(h:GR n b w):GR n b (bk w):=⟨qL h.1,by rw [bf]; exact h.2.1,InM.bk h.2.2⟩
theorem GR.turn {n b:Nat}{w:List L}(h:GR n b w)(a:Nat):GR n b (w.drop a++w.take a):=by
 refine ⟨iF h.1 a,by rw [zI,Bl,z9];have:=h.2.1;omega,fun x hx=>?_⟩
 rcases z3.mp hx with hx | hx
 ·exact h.2.2 x (Bm hx)
 ·exact h.2.2 x (A3 hx)
theorem GR.le {n b c:Nat}{w:List L}(h:GR n b w)(g:b≤c):GR n c w:=⟨h.1,AO h.2.1 g,h.2.2⟩
theorem vT {w:List L}:(∀ a (h:a+1 < w.length),w[a+1]≠inv w[a])→Wd.Rd w:=by
 induction w with
 | nil=>intro _;trivial
 | cons x r ih =>
  intro h
  cases r with
  | nil=>trivial
  | cons y r =>
   refine ⟨h 0 (by simp),ih fun a ha=>?_⟩
   exact h (a+1) (by simp at ha ⊢;omega)
theorem fj {w:List L}{a:Nat}(h:a < w.length):atZ w (a:Int)=w[a]:=by
 unfold atZ
 rw [AW (by omega) (by omega),AM,Ag,fu h]
 rfl
theorem vU {w:List L}(hne:w≠[])(h:∀ k:Nat,k < w.length→atZ w (k:Int)≠inv (atZ w ((k:Int) - 1))):Rnd w:=by
 have l1:=Av.mpr hne
 refine ⟨hne,vT fun a ha=>?_,fun x y hx hy=>?_⟩
 ·have:=h (a+1) ha
  rw [fj ha,show ((a+1:Nat):Int) - 1=(a:Int) by omega,fj (by omega)] at this
  exact this
 ·have:=h 0 l1
  have e:atZ w (((0:Nat):Int) - 1)=w[w.length - 1]:=by
   rw [← fh,show ((0:Nat):Int) - 1+(w.length:Int)=((w.length - 1:Nat):Int) by omega]
   exact fj (by omega)
  rw [e,fj l1] at this
  rw [B_,fu (show w.length - 1 < w.length by omega)] at hx
  rw [Cz,fu l1] at hy
  rw [← zP hx,← zP hy]
  exact this
def qT:Sp:=fun vs H Q _=>∃ (d c:Addr) (m:Int),vs=[.ref d,.int m]∧Tp H d c∧1≤m∧m≤6∧∀ (u:List L) (k:Nat) (H':Hp),SK u k→(k:Int)≤m→Tp H' d c→bq d H H'→Q (tx u) H'
inductive gR (vs:List V)(H:Hp)(Q:VK)(EM:XK):Prop
 | mk:∀ u,(vs=[tx u])→(u.length≤60)→(∀ (v:List L) (H':Hp),v.length≤u.length→(∀ x∈v,x∈u)→Cyc v→aE H H'→Q (tx v) H')→gR vs H Q EM
inductive gT (vs:List V)(H:Hp)(Q:VK)(EM:XK):Prop
 | mk:∀ u,(vs=[tx u])→(u.length≤60)→(∀ (v:List L),v.length≤u.length→(∀ x∈v,x∈u)→(Cyc u→Cyc v)→Q (tx v) H)→gT vs H Q EM
inductive gU (vs:List V)(H:Hp)(Q:VK)(EM:XK):Prop
 | mk:∀ (d c:Addr) (m:Nat) (n:Int),(vs=[.ref d,.int (m:Int),.int n])→(Tp H d c)→(1≤m)→(m≤6)→(1≤n)→(n≤30)→(∀ (v:List L) (H':Hp),GR m n.toNat v→Tp H' d c→bq d H H'→Q (tx v) H')→gU vs H Q EM
theorem cT {x y:L}(n:x≠y):inv x≠inv y:=fun e=>n (by have:=Af inv e; rwa [aC,aC] at this)
structure Wlk (u:List L) (f:Int→L):Prop where
 m:∀ k,f k∈u
 i:∀ k,inv (f k)∈u
 st:∀ k,f (k+1)≠inv (f k)
theorem Wlk.st' {u:List L}{f:Int→L}(h:Wlk u f)(k:Int):f k≠inv (f (k - 1)):=by
 have:=h.st (k - 1)
 rwa [show k - 1+1=k by omega] at this
theorem Wlk.s0 {u:List L}{f:Int→L}(h:Wlk u f):f 0≠inv (f (-1)):=by
 have:=h.st (-1)
 rwa [show (-1:Int)+1=0 from rfl] at this
theorem cD {n:Nat}{u:List L}(U:SK u n){w:List L}(R:Rnd w)(hi:InM n w){wy:Int}(hw:wy=1 ∨ wy = -1)(p:Int):Wlk u (sgZ w p wy):=by
 have lp:=Av.mpr R.ne
 refine ⟨fun k=>(U.mem _).mpr (jd lp hi p wy k),fun k=>(U.mem _).mpr (by rw [mG];exact jd lp hi p wy k),fun k=>?_⟩
 unfold sgZ
 rcases hw with rfl | rfl
 ·rw [if_pos rfl,if_pos rfl,show p+1*(k+1)=(p+1*k)+1 by omega]
  exact rnd_at R _
 ·rw [if_neg (by decide),if_neg (by decide),aC]
  have:=rnd_at R (p + -1*(k+1))
  rw [show p + -1*(k+1)+1=p + -1*k by omega] at this
  exact this.symm
theorem fk {f g:Int→L}{N:Nat}:∀ j:Nat,j < frN f g 0 N→f j=g j:=fun j hj=>(cS f g N 0).2.2.1 j (Ay _) hj
theorem j6 {α β:Type}{f g:α→List β}:∀ {l:List α},(∀ x∈l,f x=g x)→l.flatMap f=l.flatMap g
 | [],_=>rfl
 | x::l,h=>by rw [B6,B6,h x zX,j6 fun y hy=>h y (zO _ hy)]
def prs (m n:Nat):List P2:=(List.range m).flatMap fun p:Nat=>(List.range n).map fun q:Nat=>((p:Int),(q:Int))
theorem aP {m n:Nat}{s:P2}:s∈prs m n ↔ 0≤s.1∧s.1 < (m:Int)∧0≤s.2∧s.2 < (n:Int):=by
 unfold prs
 rw [List.mem_flatMap]
 constructor
 ·rintro ⟨p,hp,h⟩
  obtain ⟨q,hq,rfl⟩:=AE.mp h
  rw [Dj] at hp hq
  show 0≤(p:Int)∧(p:Int) < (m:Int)∧0≤(q:Int)∧(q:Int) < (n:Int)
  omega
 ·rintro ⟨h1,h2,h3,h4⟩
  refine ⟨s.1.toNat,Dj.mpr (by omega),AE.mpr ⟨s.2.toNat,Dj.mpr (by omega),Cd ?_ ?_⟩⟩
  ·show ((s.1.toNat:Nat):Int)=s.1
   omega
  ·show ((s.2.toNat:Nat):Int)=s.2
   omega
theorem nN {β:Type}{g:Nat→List β}(h1:∀ p,(g p).Nodup)(h2:∀ p q x,x∈g p→x∈g q→p=q):∀ {l:List Nat},l.Nodup→(l.flatMap g).Nodup
 | [],_=>A9
 | p::l,h=>by
  rw [Ar] at h
  rw [B6,Bu]
  refine ⟨h1 p,nN h1 h2 h.2,fun x hx y hy e=>?_⟩
  subst e
  obtain ⟨q,hq,hy⟩:=List.mem_flatMap.mp hy
  exact h.1 (h2 p q x hx hy ▸ hq)
theorem bR (m n:Nat):(prs m n).Nodup:=by
 refine nN (fun p=>?_) (fun p q x h1 h2=>?_) List.nodup_range
 ·refine List.Pairwise.map _ (fun a b h e=>h ?_) List.nodup_range
  exact Dx (Af Prod.snd e)
 ·obtain ⟨a,_,rfl⟩:=AE.mp h1
  obtain ⟨b,_,e⟩:=AE.mp h2
  exact (Dx (Af Prod.fst e)).symm
theorem tm {l:List P2}:∀ {k:List P2},k.Nodup→(∀ x∈k,x∈l)→k.length≤l.length:=by
 intro k
 induction k generalizing l with
 | nil=>intro _ _;exact Ay _
 | cons x k ih =>
  intro nd h
  rw [Ar] at nd
  have hx:=h x zX
  have:=ih (l:=l.erase x) nd.2 fun y hy=>(List.mem_erase_of_ne (fun e=>nd.1 (by rw [← e];exact hy))).mpr (h y (zO _ hy))
  rw [Cf hx] at this
  have:=List.length_pos_of_mem hx
  show k.length+1≤_
  omega
theorem iG {k l:List P2}{g h:P2→Bool}(nd:k.Nodup)(a b:P2→P2)(H:∀ x∈k,g x=true→a x∈l∧h (a x)=true∧b (a x)=x):k.countP g≤l.countP h:=by
 rw [CU,CU,← zV (f:=a)]
 have q:∀ x∈k.filter g,x∈k∧g x=true:=fun x hx=>Bg.mp hx
 refine tm ?_ fun y hy=>?_
 ·have nf:(k.filter g).Nodup:=CP _ nd
  revert nf q
  generalize k.filter g=z
  induction z with
  | nil=>intro _ _;exact A9
  | cons x z ih =>
   intro q nf
   rw [Ar] at nf
   rw [AA,Ar]
   refine ⟨fun hm=>?_,ih (fun y hy=>q y (zO _ hy)) nf.2⟩
   obtain ⟨y,hy,e⟩:=AE.mp hm
   obtain ⟨h1,h2⟩:=q x zX
   obtain ⟨h3,h4⟩:=q y (zO _ hy)
   have e1:=(H x h1 h2).2.2
   have e2:=(H y h3 h4).2.2
   rw [← e,e2] at e1
   exact nf.1 (e1 ▸ hy)
 ·obtain ⟨x,hx,rfl⟩:=AE.mp hy
  obtain ⟨h1,h2⟩:=q x hx
  exact Bg.mpr ⟨(H x h1 h2).1,(H x h1 h2).2.1⟩
theorem jg {g h1 h2:P2→Bool}:∀ {l:List P2},(∀ x∈l,g x=(h1 x || h2 x)∧¬ (h1 x=true∧h2 x=true))→l.countP g=l.countP h1+l.countP h2
 | [],_=>rfl
 | x::l,H=>by
  have ih:=jg (l:=l) fun y hy=>H y (zO _ hy)
  obtain ⟨e,n⟩:=H x zX
  rw [BC,BC,BC,ih,e]
  cases c1:h1 x <;> cases c2:h2 x
  ·rfl
  ·simp
   omega
  ·simp
   omega
  ·exact absurd ⟨c1,c2⟩ n
def hF (u w v:List L)(s:P2):Bool:=cx u (inv (sgZ w s.1 1 0)) (sgZ w s.1 1 1) (inv (sgZ v s.2 1 0)) (sgZ v s.2 1 1)
def nW (w v:List L)(wy:Int)(s:P2):Nat:=frN (sgZ w s.1 1) (sgZ v s.2 wy) 0 (w.length+v.length)
def hP (u w v:List L)(wy:Int)(s:P2):Bool:=ptB u (sgZ w s.1 1) (sgZ v s.2 wy) (nW w v wy s)
def NN (u w v:List L):Nat:=(prs w.length v.length).countP (hF u w v)+((prs w.length v.length).countP (hP u w v 1)+(prs w.length v.length).countP (hP u w v (-1)))
theorem nO (w:List L){p q:Int}(h:p % (w.length:Int)=q % (w.length:Int))(wy:Int):sgZ w p wy=sgZ w q wy:=by
 funext k
 have e:atZ w (p+wy*k)=atZ w (q+wy*k):=by
  unfold atZ
  rw [Br,h,← Br]
 unfold sgZ
 rw [e]
theorem p9 {u w v:List L}{s t:P2}(h1:s.1 % (w.length:Int)=t.1 % (w.length:Int))(h2:s.2 % (v.length:Int)=t.2 % (v.length:Int))(wy:Int):hF u w v s=hF u w v t∧hP u w v wy s=hP u w v wy t∧nW w v wy s=nW w v wy t:=by
 unfold hF hP nW
 rw [nO w h1 1,nO v h2 1,nO v h2 wy]
 exact ⟨rfl,rfl,rfl⟩
theorem vV {u:List L}{e x y:L}(he:e∈u)(hx:x∈u)(hy:y∈u)(h:rfI u e x=rfI u e y):x=y:=by
 refine aJ hx hy ?_
 have a1:=aF he
 have a2:=aF hx
 have a3:=aF hy
 rw [aG he hx,aG he hy] at h
 generalize u.idxOf e=a at *
 generalize u.idxOf x=b at *
 generalize u.idxOf y=c at *
 generalize u.length=n at *
 grind
theorem j7 {u:List L}{e x y:L}(he:e∈u)(hx:x∈u)(hy:y∈u)(n:x≠y):decide (rfI u e y < rfI u e x)=!decide (rfI u e x < rfI u e y):=by
 have:rfI u e x≠rfI u e y:=fun z=>n (vV he hx hy z)
 rw [← decide_not,BP]
 omega
theorem yQ (a b:Bool):((!a) == !b)=(a == b):=by cases a <;> cases b <;> rfl
theorem qU {u:List L}{f g:Int→L}(F:Wlk u f)(G:Wlk u g){n:Nat}(h:∀ j:Nat,j < n→f j=g j):ptB u g f n=ptB u f g n:=by
 unfold ptB
 by_cases hn:0 < n
 ·have e0:f 0=g 0:=h 0 hn
  have e1:f ((n:Int) - 1)=g ((n:Int) - 1):=by
   have:=h (n - 1) (by omega)
   rwa [show ((n - 1:Nat):Int)=(n:Int) - 1 by omega] at this
  have q:∀ x y:L,decide (y≠x)=decide (x≠y):=fun x y=>by
   rw [BP]
   exact ⟨fun z e=>z e.symm,fun z e=>z e.symm⟩
  rw [q (f (-1)) (g (-1)),q (f n) (g n)]
  by_cases c1:f (-1)=g (-1)
  ·rw [zH (p:=f (-1)≠g (-1)) (fun z=>z c1),AH,AH]
  by_cases c2:f n=g n
  ·rw [zH (p:=f n≠g n) (fun z=>z c2),AH,AH]
  rw [← e0,← e1,j7 (F.i _) (F.m _) (G.m _) c2,j7 (F.m _) (F.i _) (G.i _) (cT c1),yQ]
 ·rw [zH hn,AH,AH]
theorem nP (f g:Int→L):∀ b k,frN g f k b=frN f g k b
 | 0,_=>rfl
 | b+1,k=>by
  unfold frN
  by_cases e:f k=g k
  ·rw [if_pos e,if_pos e.symm]
   exact nP f g b _
  ·rw [if_neg e,if_neg (fun z=>e z.symm)]
theorem p_ {u:List L}(nd:u.Nodup){a b c d:L}(ha:a∈u)(hb:b∈u)(hc:c∈u)(hd:d∈u):cx u c d a b=cx u a b c d∧cx u b a c d=cx u a b c d:=by
 have i:∀ {x y:L},x∈u→y∈u→(x=y ↔ u.idxOf x=u.idxOf y):=fun hx hy=>⟨fun e=>by rw [e],fun e=>aJ hx hy e⟩
 have a1:=aF ha
 have a2:=aF hb
 have a3:=aF hc
 have a4:=aF hd
 unfold cx
 simp only [Ar,Ae,Ax,BN,not_or,CB,A9,D9]
 simp only [i ha hb,i ha hc,i ha hd,i hb hc,i hb hd,i hc hd,i hc ha,i hd ha,i hc hb,i hd hb,i hb ha]
 rw [aG ha hc,aG ha hb,aG ha hd,aG hc ha,aG hc hd,aG hc hb,aG hb hc,aG hb ha,aG hb hd]
 generalize u.idxOf a=x1 at *
 generalize u.idxOf b=x2 at *
 generalize u.idxOf c=x3 at *
 generalize u.idxOf d=x4 at *
 generalize u.length=n at *
 constructor <;> grind
structure Wo (n:Nat) (w:List L):Prop where
 r:Rnd w
 i:InM n w
theorem Wo.lp {n:Nat}{w:List L}(h:Wo n w):0 < w.length:=Av.mpr h.r.ne
theorem iH {n:Nat}{u w v:List L}(U:SK u n)(A:Wo n w)(B:Wo n v)(p q:Int):hP u v w 1 (q,p)=hP u w v 1 (p,q):=by
 unfold hP nW
 show ptB u (sgZ v q 1) (sgZ w p 1) (frN (sgZ v q 1) (sgZ w p 1) 0 (v.length+w.length))=ptB u (sgZ w p 1) (sgZ v q 1) (frN (sgZ w p 1) (sgZ v q 1) 0 (w.length+v.length))
 rw [Nat.add_comm v.length,nP]
 exact qU (cD U A.r A.i (.inl rfl) p) (cD U B.r B.i (.inl rfl) q) fk
theorem jh {n:Nat}{u w v:List L}(U:SK u n)(A:Wo n w)(B:Wo n v){p q:Int}(h:hP u w v (-1) (p,q)=true):hP u v w (-1) (q - (nW w v (-1) (p,q):Nat)+1,p+(nW w v (-1) (p,q):Nat) - 1)=true∧nW v w (-1) (q - (nW w v (-1) (p,q):Nat)+1,p+(nW w v (-1) (p,q):Nat) - 1)=nW w v (-1) (p,q):=by
 have F:=cD U A.r A.i (.inl rfl) p
 have G:=cD U B.r B.i (.inr rfl) q
 have hle:nW w v (-1) (p,q)≤w.length+v.length:=by
  have:=(cS (sgZ w p 1) (sgZ v q (-1)) (w.length+v.length) 0).2.1
  unfold nW
  show frN (sgZ w p 1) (sgZ v q (-1)) 0 (w.length+v.length)≤_
  omega
 have al:∀ j:Nat,j < nW w v (-1) (p,q)→sgZ w p 1 j=sgZ v q (-1) j:=fun j hj=>fk (N:=w.length+v.length) j hj
 have h:ptB u (sgZ w p 1) (sgZ v q (-1)) (nW w v (-1) (p,q))=true:=h
 generalize hm:nW w v (-1) (p,q)=m at *
 have ef:∀ k:Int,sgZ v (q - (m:Nat)+1) 1 k=inv (sgZ v q (-1) ((m:Int) - 1 - k)):=fun k=>by
  unfold sgZ
  rw [if_pos rfl,if_neg (by decide),aC]
  congr 1
  omega
 have eg:∀ k:Int,sgZ w (p+(m:Nat) - 1) (-1) k=inv (sgZ w p 1 ((m:Int) - 1 - k)):=fun k=>by
  unfold sgZ
  rw [if_pos rfl,if_neg (by decide)]
  congr 2
  omega
 unfold ptB at h
 simp only [A_,zT] at h
 obtain ⟨h0,h1,h2,h3⟩:=h
 have e0:sgZ w p 1 0=sgZ v q (-1) 0:=al 0 h0
 have e1:sgZ w p 1 ((m:Int) - 1)=sgZ v q (-1) ((m:Int) - 1):=by
  have:=al (m - 1) (by omega)
  rwa [show ((m - 1:Nat):Int)=(m:Int) - 1 by omega] at this
 have en:nW v w (-1) (q - (m:Nat)+1,p+(m:Nat) - 1)=m:=by
  refine p8 (fun j hj=>?_) (by omega) (.inr ?_)
  ·show sgZ v (q - (m:Nat)+1) 1 j=sgZ w (p+(m:Nat) - 1) (-1) j
   rw [ef,eg]
   have:=al (m - 1 - j) (by omega)
   rw [show ((m - 1 - j:Nat):Int)=(m:Int) - 1 - j by omega] at this
   rw [this]
  ·show sgZ v (q - (m:Nat)+1) 1 m≠sgZ w (p+(m:Nat) - 1) (-1) m
   rw [ef,eg,show (m:Int) - 1 - m = -1 by omega]
   exact (cT h1).symm
 refine ⟨?_,en⟩
 unfold hP
 rw [en]
 show ptB u (sgZ v (q - (m:Nat)+1) 1) (sgZ w (p+(m:Nat) - 1) (-1)) m=true
 unfold ptB
 rw [ef,ef,ef,ef,eg,eg,show (m:Int) - 1 - -1=m by omega,show (m:Int) - 1 - m = -1 by omega,show (m:Int) - 1 - ((m:Int) - 1)=0 by omega,show (m:Int) - 1 - 0=(m:Int) - 1 by omega,aC,aC,aC]
 rw [zQ h0,zQ (p:=inv (sgZ v q (-1) m)≠inv (sgZ w p 1 m)) (cT h2).symm,zQ (p:=inv (sgZ v q (-1) (-1))≠inv (sgZ w p 1 (-1))) (cT h1).symm,AK,AK,AK]
 rw [← e0,← e1,j7 (F.m 0) (F.i (-1)) (G.i (-1)) (cT h1),j7 (F.i _) (F.m m) (G.m m) h2,yQ]
 rw [D3] at h3 ⊢
 exact h3.symm
def oth (w v:List L)(s:P2):P2:=((s.2 - (nW w v (-1) s:Nat)+1) % (v.length:Int),(s.1+(nW w v (-1) s:Nat) - 1) % (w.length:Int))
theorem dO (a n:Int):a % n % n=a % n:=Int.emod_emod_of_dvd _ (Int.dvd_refl _)
theorem qV {w v:List L}(hw:0 < w.length)(hv:0 < v.length)(s:P2):oth w v s∈prs v.length w.length:=by
 refine aP.mpr ⟨Ad _ (by omega),zY _ (by omega),Ad _ (by omega),zY _ (by omega)⟩
theorem dq {n:Nat}{u w v:List L}(U:SK u n)(A:Wo n w)(B:Wo n v){s:P2}(hs:s∈prs w.length v.length)(h:hP u w v (-1) s=true):hP u v w (-1) (oth w v s)=true∧nW v w (-1) (oth w v s)=nW w v (-1) s∧oth v w (oth w v s)=s:=by
 obtain ⟨p,q⟩:=s
 obtain ⟨h1,h2⟩:=jh U A B h
 have hm:=p9 (u:=u) (w:=v) (v:=w) (s:=oth w v (p,q)) (t:=(q - (nW w v (-1) (p,q):Nat)+1,p+(nW w v (-1) (p,q):Nat) - 1)) (dO _ _) (dO _ _) (-1)
 have en:nW v w (-1) (oth w v (p,q))=nW w v (-1) (p,q):=by rw [hm.2.2,h2]
 refine ⟨by rw [hm.2.1];exact h1,en,?_⟩
 obtain ⟨a1,a2,a3,a4⟩:=aP.mp hs
 show ((((oth w v (p,q)).2 - (nW v w (-1) (oth w v (p,q)):Nat)+1) % (w.length:Int)),(((oth w v (p,q)).1+(nW v w (-1) (oth w v (p,q)):Nat) - 1) % (v.length:Int)))=(p,q)
 rw [en]
 unfold oth
 refine Cd ?_ ?_
 ·show (((p+(nW w v (-1) (p,q):Nat) - 1) % (w.length:Int)) - (nW w v (-1) (p,q):Nat)+1) % (w.length:Int)=p
  rw [show ((p+(nW w v (-1) (p,q):Nat) - 1) % (w.length:Int)) - (nW w v (-1) (p,q):Nat)+1=((p+(nW w v (-1) (p,q):Nat) - 1) % (w.length:Int))+(1 - (nW w v (-1) (p,q):Nat)) by omega,CC,show p+(nW w v (-1) (p,q):Nat) - 1+(1 - (nW w v (-1) (p,q):Nat))=p by omega]
  exact AW a1 a2
 ·show (((q - (nW w v (-1) (p,q):Nat)+1) % (v.length:Int))+(nW w v (-1) (p,q):Nat) - 1) % (v.length:Int)=q
  rw [show ((q - (nW w v (-1) (p,q):Nat)+1) % (v.length:Int))+(nW w v (-1) (p,q):Nat) - 1=((q - (nW w v (-1) (p,q):Nat)+1) % (v.length:Int))+((nW w v (-1) (p,q):Nat) - 1) by omega,CC,show q - (nW w v (-1) (p,q):Nat)+1+((nW w v (-1) (p,q):Nat) - 1)=q by omega]
  exact AW a3 a4
def sw (s:P2):P2:=(s.2,s.1)
theorem tp {m n:Nat}{s:P2}(h:s∈prs m n):sw s∈prs n m:=by
 obtain ⟨a1,a2,a3,a4⟩:=aP.mp h
 exact aP.mpr ⟨a3,a4,a1,a2⟩
theorem vW {n:Nat}{u w v:List L}(U:SK u n)(A:Wo n w)(B:Wo n v)(s:P2):hF u v w (sw s)=hF u w v s:=by
 have F:=cD U A.r A.i (.inl rfl) s.1
 have G:=cD U B.r B.i (.inl rfl) s.2
 exact (p_ U.srf.nd (F.i _) (F.m _) (G.i _) (G.m _)).1
theorem vX {n:Nat}{u w v:List L}(U:SK u n)(A:Wo n w)(B:Wo n v):(prs w.length v.length).countP (hP u w v 1)≤(prs v.length w.length).countP (hP u v w 1) :=
 iG (bR _ _) sw sw fun s hs h=>⟨tp hs,by show hP u v w 1 (s.2,s.1)=true;rw [iH U A B];exact h,rfl⟩
theorem qa {n:Nat}{u w v:List L}(U:SK u n)(A:Wo n w)(B:Wo n v):(prs w.length v.length).countP (hP u w v (-1))≤(prs v.length w.length).countP (hP u v w (-1)) :=
 iG (bR _ _) (oth w v) (oth v w) fun s hs h=>⟨qV A.lp B.lp s,(dq U A B hs h).1,(dq U A B hs h).2.2⟩
theorem ji {k l:List P2}{g h:P2→Bool}(nk:k.Nodup)(nl:l.Nodup)(a b:P2→P2)(H:∀ x∈k,a x∈l∧b (a x)=x∧h (a x)=g x)(H':∀ y∈l,b y∈k∧a (b y)=y):k.countP g=l.countP h:=by
 refine Nat.le_antisymm (iG nk a b fun x hx e=>⟨(H x hx).1,by rw [(H x hx).2.2];exact e,(H x hx).2.1⟩) (iG nl b a fun y hy e=>?_)
 obtain ⟨h1,h2⟩:=H' y hy
 refine ⟨h1,?_,h2⟩
 have:=(H _ h1).2.2
 rw [h2] at this
 rw [← this]
 exact e
theorem bI {m:Nat}{p c:Int}(h0:0≤p)(h1:p < (m:Int)):((p+c) % (m:Int) + -c) % (m:Int)=p:=by
 rw [CC,show p+c + -c=p by omega]
 exact AW h0 h1
theorem nQ {w:List L}(hw:0 < w.length)(j:Int):atZ (bk w) j=inv (atZ w (-1 - j)):=by
 have e0:=Ad j (show (w.length:Int)≠0 by omega)
 have e1:=zY j (show (0:Int) < (w.length:Int) by omega)
 have e2:(-1 - j) % (w.length:Int)=(w.length:Int) - 1 - j % (w.length:Int):=by
  have:-1 - j=((w.length:Int) - 1 - j % (w.length:Int))+(w.length:Int)*(-1 - j / (w.length:Int)):=by
   have:=Int.mul_ediv_add_emod j (w.length:Int)
   rw [Int.mul_sub]
   omega
  rw [this,C7]
  exact AW (by omega) (by omega)
 unfold atZ
 rw [e2,bf]
 have hy:w[w.length - 1 - (j % (w.length:Int)).toNat]? = some (w.getD ((w.length:Int) - 1 - j % (w.length:Int)).toNat 0):=by
  rw [show w.length - 1 - (j % (w.length:Int)).toNat=((w.length:Int) - 1 - j % (w.length:Int)).toNat by omega]
  exact cw (by omega)
 rw [Ag,ma w (by omega) hy]
 rfl
theorem x6 {w:List L}(hw:0 < w.length)(p:Int):sgZ (bk w) p 1=sgZ w (-1 - p) (-1):=by
 funext k
 unfold sgZ
 rw [if_pos rfl,if_neg (by decide),nQ hw]
 congr 2
 omega
theorem Wo.bk {n:Nat}{w:List L}(h:Wo n w):Wo n (bk w):=⟨qL h.r,InM.bk h.i⟩
theorem eJ {m:Nat}{p c:Int}(h0:0≤p)(h1:p < (m:Int)):(c - (c - p) % (m:Int)) % (m:Int)=p:=by
 rw [Int.sub_emod_emod,show c - (c - p)=p by omega]
 exact AW h0 h1
theorem bkA {n:Nat}{u w v:List L}(U:SK u n)(A:Wo n w)(B:Wo n v):(prs w.length v.length).countP (hP u (bk w) v 1)=(prs w.length v.length).countP (hP u w v (-1)):=by
 have e1:(prs w.length v.length).countP (hP u (bk w) v 1)=(prs v.length w.length).countP (hP u v w (-1)):=by
  refine ji (bR _ _) (bR _ _) (fun s=>(s.2,(-1 - s.1) % (w.length:Int))) (fun s=>((-1 - s.2) % (w.length:Int),s.1)) (fun s hs=>?_) (fun s hs=>?_)
  ·obtain ⟨a1,a2,a3,a4⟩:=aP.mp hs
   refine ⟨aP.mpr ⟨a3,a4,Ad _ (by omega),zY _ (by omega)⟩,Cd (eJ a1 a2) rfl,?_⟩
   rw [(p9 (u:=u) (w:=v) (v:=w) (s:=(s.2,(-1 - s.1) % (w.length:Int))) (t:=(s.2,-1 - s.1)) rfl (dO _ _) (-1)).2.1]
   unfold hP nW
   show ptB u (sgZ v s.2 1) (sgZ w (-1 - s.1) (-1)) (frN (sgZ v s.2 1) (sgZ w (-1 - s.1) (-1)) 0 (v.length+w.length))=ptB u (sgZ (bk w) s.1 1) (sgZ v s.2 1) (frN (sgZ (bk w) s.1 1) (sgZ v s.2 1) 0 ((bk w).length+v.length))
   rw [x6 A.lp,bf,Nat.add_comm v.length,nP]
   exact qU (cD U A.r A.i (.inr rfl) _) (cD U B.r B.i (.inl rfl) _) fk
  ·obtain ⟨a1,a2,a3,a4⟩:=aP.mp hs
   exact ⟨aP.mpr ⟨Ad _ (by omega),zY _ (by omega),a1,a2⟩,Cd rfl (eJ a3 a4)⟩
 rw [e1]
 exact Nat.le_antisymm (qa U B A) (qa U A B)
theorem nR (u:List L)(W:List (List L))(i j:Int)(m:Nat):iB u W i j m=(prs m (wyZ W j).length).flatMap fun x=>lkZ u W (i,x.1) (j,x.2):=by
 unfold iB prs oH
 rw [List.flatMap_assoc]
 refine j6 fun p _=>?_
 rw [List.flatMap_map]
theorem nS {F:P2→List Lk}{h1 h2 h3:P2→Bool}:∀ {l:List P2},(∀ x∈l,(F x).length=(h1 x).toNat+((h2 x).toNat+(h3 x).toNat))→(l.flatMap F).length=l.countP h1+(l.countP h2+l.countP h3)
 | [],_=>rfl
 | x::l,H=>by
  have ih:=nS (l:=l) fun y hy=>H y (zO _ hy)
  have:=H x zX
  rw [B6,zI,ih,this,BC,BC,BC]
  cases h1 x <;> cases h2 x <;> cases h3 x <;> simp <;> omega
theorem d3 (b:Bool)(x:Lk):(if b=true then [x] else []).length=b.toNat:=by cases b <;> rfl
theorem qW {u:List L}{W:List (List L)}{i j:Int}(h:i < j):(iB u W i j (wyZ W i).length).length=NN u (wyZ W i) (wyZ W j):=by
 rw [nR]
 refine nS fun x _=>?_
 have l1:∀ q r:Int,ltP (i,q) (j,r)=true:=fun q r=>gM.mpr (.inl h)
 unfold lkZ vO vP kP kJ
 rw [l1,l1,AK,AK,AK,zI,zI,d3,d3,d3]
 rfl
theorem vY {n:Nat}{g:P2→Bool}(h0:∀ s:P2,s.1=s.2→g s=false)(hs:∀ s,g (sw s)=g s):2*(prs n n).countP (fun s=>decide (s.1 < s.2) && g s)=(prs n n).countP g:=by
 have e1:(prs n n).countP g=(prs n n).countP (fun s=>decide (s.1 < s.2) && g s)+(prs n n).countP (fun s=>decide (s.2 < s.1) && g s):=jg fun s _=>by
  rcases Int.lt_trichotomy s.1 s.2 with h | h | h
  ·rw [zQ h,zH (show ¬ s.2 < s.1 by omega)]
   simp
  ·rw [h0 s h]
   simp
  ·rw [zQ h,zH (show ¬ s.1 < s.2 by omega)]
   simp
 have e2:(prs n n).countP (fun s=>decide (s.1 < s.2) && g s)=(prs n n).countP (fun s=>decide (s.2 < s.1) && g s):=ji (bR _ _) (bR _ _) sw sw (fun s h=>⟨tp h,rfl,by show (decide (s.1 < s.2) && g (sw s))=_;rw [hs]⟩) (fun s h=>⟨tp h,rfl⟩)
 omega
theorem vZ {n:Nat}{u:List L}(U:SK u n){W:List (List L)}{i:Int}(A:Wo n (wyZ W i)):2*(iB u W i i (wyZ W i).length).length=NN u (wyZ W i) (wyZ W i):=by
 have e:(iB u W i i (wyZ W i).length).length=(prs (wyZ W i).length (wyZ W i).length).countP (fun s=>decide (s.1 < s.2) && hF u (wyZ W i) (wyZ W i) s)+((prs (wyZ W i).length (wyZ W i).length).countP (fun s=>decide (s.1 < s.2) && hP u (wyZ W i) (wyZ W i) 1 s)+(prs (wyZ W i).length (wyZ W i).length).countP (fun s=>decide (s.1 < (oth (wyZ W i) (wyZ W i) s).1) && hP u (wyZ W i) (wyZ W i) (-1) s)):=by
  rw [nR]
  refine nS fun x _=>?_
  have l1:∀ q r:Int,ltP (i,q) (i,r)=decide (q < r):=fun q r=>by
   rw [Ap,gM,zT]
   show i < i ∨ (i=i∧q < r) ↔ _
   omega
  unfold lkZ vO vP kP kJ
  rw [l1,l1,zI,zI,d3,d3,d3]
  rfl
 generalize wyZ W i=w at *
 have f1:=vY (n:=w.length) (g:=hF u w w) (fun s h=>by
  unfold hF cx
  rw [h]
  have:¬ [inv (sgZ w s.2 1 0),sgZ w s.2 1 1,inv (sgZ w s.2 1 0),sgZ w s.2 1 1].Nodup:=by simp
  rw [zH this,AH]) (fun s=>vW U A A s)
 have f2:=vY (n:=w.length) (g:=hP u w w 1) (fun s h=>by
  unfold hP
  rw [h]
  exact dN rfl) (fun s=>iH U A A s.1 s.2)
 have f3:(prs w.length w.length).countP (hP u w w (-1))=(prs w.length w.length).countP (fun s=>decide (s.1 < (oth w w s).1) && hP u w w (-1) s)+(prs w.length w.length).countP (fun s=>decide ((oth w w s).1 < s.1) && hP u w w (-1) s):=jg fun s hs=>by
  rcases Int.lt_trichotomy s.1 (oth w w s).1 with h | h | h
  ·rw [zQ h,zH (show ¬ (oth w w s).1 < s.1 by omega)]
   simp
  ·have:hP u w w (-1) s=false:=by
    rw [Do]
    intro z
    unfold hP ptB at z
    rw [A_,zT] at z
    refine nI (w:=w) (p:=s.1) (q:=s.2) A.r z.1 (fun j hj=>fk (N:=w.length+w.length) j hj) ?_
    have a:=aP.mp hs
    rw [AW a.1 a.2.1,h]
    rfl
   rw [this]
   simp
  ·rw [zQ h,zH (show ¬ s.1 < (oth w w s).1 by omega)]
   simp
 have f4:∀ (c d:Int→Int→Bool),(∀ a b,c a b=d b a)→(prs w.length w.length).countP (fun s=>c s.1 (oth w w s).1 && hP u w w (-1) s)≤(prs w.length w.length).countP (fun s=>d s.1 (oth w w s).1 && hP u w w (-1) s):=fun c d hcd=>iG (bR _ _) (oth w w) (oth w w) fun s hs h=>by
  rw [A_] at h
  obtain ⟨q1,q2,q3⟩:=dq U A A hs h.2
  refine ⟨qV A.lp A.lp s,?_,q3⟩
  rw [q3,q1,Bool.and_true,← hcd]
  exact h.1
 have f5:=f4 (fun a b=>decide (a < b)) (fun a b=>decide (b < a)) fun _ _=>rfl
 have f6:=f4 (fun a b=>decide (b < a)) (fun a b=>decide (a < b)) fun _ _=>rfl
 rw [e]
 unfold NN
 omega
theorem tq {u:List L}(U:Srf u){y l:L}(hy:y∈u)(hl:l∈u):tau u (inv y) l = - tau u y l:=by
 unfold tau
 rw [aC]
 by_cases h:l=y ∨ l=inv y
 ·rw [if_pos h,if_pos h.symm]
  rfl
 ·rw [if_neg h,if_neg (fun z=>h z.symm)]
  have n1:y≠l:=fun e=>h (.inl e.symm)
  have n2:y≠inv l:=fun e=>h (.inr (by rw [e,aC]))
  have F:=gp U hy hl n1 n2
  have G:=gp U (U.iv y hy) hl (fun e=>n2 (by rw [← e,aC])) (cT n1)
  have a1:=gq F
  have a2:=gq G
  unfold sd at a1 a2
  rw [aC] at a2
  omega
theorem j8 {u:List L}(U:Srf u){y:L}(hy:y∈u):∀ {w:List L},(∀ l∈w,l∈u)→fv u (inv y) w = - fv u y w
 | [],_=>rfl
 | l::w,h=>by
  show tau u (inv y) l+fv u (inv y) w = -(tau u y l+fv u y w)
  rw [tq U hy (h l zX),j8 U hy fun z hz=>h z (zO _ hz)]
  omega
theorem tu {u:List L}{k:Nat}(h:SK u k){b:L}(hb:b∈u){w:List L}(hw:∀ l∈w,l∈u):bal u k w [b]=fv u b w:=by
 have h6:=h.hi
 have hj:=(h.mem b).mp hb
 rw [mI h]
 unfold wgt
 rw [eX,aL (g:=fun y=>dfi [b] (lt6 y)*fv u (lt6 y) w) k fun y hy=>by
  rw [← z_all h hy w hw,← gs]
  refine aL k fun x _=>?_
  split
  ·rw [Dg]
  ·grind]
 rw [dm k hj fun i hi hn=>by
  have q:=i4 b ⟨i,by omega⟩ hn
  rw [gC,if_neg q.1,if_neg q.2]
  omega]
 have my:lt6 (b.val % 6)∈u:=(h.mem _).mpr (by rw [gu (by omega)];omega)
 rw [gC]
 rcases i3 b with e | e
 ·have e2:¬ b=inv (lt6 (b.val % 6)):=fun z=>jJ b ⟨e,z⟩
  rw [if_pos e,if_neg e2,← e]
  omega
 ·have e2:¬ b=lt6 (b.val % 6):=fun z=>jJ b ⟨z,e⟩
  rw [if_neg e2,if_pos e]
  have:=j8 h.srf my hw
  rw [← e] at this
  omega
def sm {α:Type}(h:α→Int):List α→Int
 | []=>0
 | x::l=>h x+sm h l
theorem bL {α:Type}{g h:α→Int}:∀ {l:List α},(∀ x∈l,g x=h x)→sm g l=sm h l
 | [],_=>rfl
 | x::l,H=>by
  show g x+sm g l=h x+sm h l
  rw [H x zX,bL fun y hy=>H y (zO _ hy)]
theorem cE {α:Type}(g h:α→Int):∀ l:List α,sm (fun x=>g x+h x) l=sm g l+sm h l
 | []=>rfl
 | x::l=>by
  show g x+h x+sm (fun x=>g x+h x) l=(g x+sm g l)+(h x+sm h l)
  rw [cE g h l]
  omega
theorem fm {α:Type}(c:Int)(h:α→Int):∀ l:List α,sm (fun x=>c*h x) l=c*sm h l
 | []=>(Dg c).symm
 | x::l=>by
  show c*h x+sm (fun x=>c*h x) l=c*(h x+sm h l)
  rw [fm c h l,Int.mul_add]
theorem nT {α:Type}:∀ l:List α,sm (fun _=>(0:Int)) l=0
 | []=>rfl
 | x::l=>by show 0+sm (fun _=>(0:Int)) l=0;rw [nT l];rfl
theorem qX {α:Type}(h:α→Int):∀ k l:List α,sm h (k++l)=sm h k+sm h l
 | [],l=>(Dh _).symm
 | x::k,l=>by
  show h x+sm h (k++l)=(h x+sm h k)+sm h l
  rw [qX h k l,Dt]
theorem nU {α β:Type}(h:β→Int)(g:α→List β):∀ l:List α,sm h (l.flatMap g)=sm (fun x=>sm h (g x)) l
 | []=>rfl
 | x::l=>by
  rw [B6,qX,nU h g l]
  rfl
theorem iI {α β:Type}(h:β→Int)(f:α→β):∀ l:List α,sm h (l.map f)=sm (fun x=>h (f x)) l
 | []=>rfl
 | x::l=>by
  show h (f x)+sm h (l.map f)=h (f x)+sm (fun x=>h (f x)) l
  rw [iI h f l]
theorem nV {α β:Type}(g:α→β→Int)(k:List β):∀ l:List α,sm (fun x=>sm (fun y=>g x y) k) l=sm (fun y=>sm (fun x=>g x y) l) k
 | []=>(nT k).symm
 | x::l=>by
  show sm (fun y=>g x y) k+sm (fun x=>sm (fun y=>g x y) k) l=sm (fun y=>g x y+sm (fun x=>g x y) l) k
  rw [nV g k l,cE]
theorem tw {α:Type}(h:α→Int){k l:List α}(p:k.Perm l):sm h k=sm h l:=by
 induction p with
 | nil=>rfl
 | cons x _ ih=>show h x+_=h x+_;rw [ih]
 | swap x y l=>show h y+(h x+sm h l)=h x+(h y+sm h l);omega
 | trans _ _ a b=>exact a.trans b
theorem fo {α:Type}(h:α→Int)(A:α→Bool):∀ l:List α,sm (fun x=>if A x=true then h x else 0) l=sm h (l.filter A)
 | []=>rfl
 | x::l=>by
  show (if A x=true then h x else 0)+sm (fun x=>if A x=true then h x else 0) l=_
  rw [fo h A l]
  by_cases c:A x=true
  ·rw [if_pos c,List.filter_cons_of_pos c]
   rfl
  ·rw [if_neg c,List.filter_cons_of_neg c]
   omega
theorem nX {k l:List P2}(nk:k.Nodup)(nl:l.Nodup){A B:P2→Bool}(a b:P2→P2)(H:∀ x∈k,A x=true→a x∈l∧B (a x)=true∧b (a x)=x)(H':∀ y∈l,B y=true→b y∈k∧A (b y)=true∧a (b y)=y)(h:P2→Int):sm (fun y=>if B y=true then h y else 0) l=sm (fun x=>if A x=true then h (a x) else 0) k:=by
 rw [fo,fo,← iI h a]
 refine tw h ((C9 (CP _ nl) ?_).mpr fun y=>?_)
 ·have q:∀ x∈k.filter A,x∈k∧A x=true:=fun x hx=>Bg.mp hx
  have nf:(k.filter A).Nodup:=CP _ nk
  revert nf q
  generalize k.filter A=z
  induction z with
  | nil=>intro _ _;exact A9
  | cons x z ih =>
   intro q nf
   rw [Ar] at nf
   rw [AA,Ar]
   refine ⟨fun hm=>?_,ih (fun y hy=>q y (zO _ hy)) nf.2⟩
   obtain ⟨y,hy,e⟩:=AE.mp hm
   obtain ⟨h1,h2⟩:=q x zX
   obtain ⟨h3,h4⟩:=q y (zO _ hy)
   have e1:=(H x h1 h2).2.2
   have e2:=(H y h3 h4).2.2
   rw [← e,e2] at e1
   exact nf.1 (e1 ▸ hy)
 ·rw [AE]
  constructor
  ·intro hy
   obtain ⟨h1,h2⟩:=Bg.mp hy
   obtain ⟨h3,h4,h5⟩:=H' y h1 h2
   exact ⟨b y,Bg.mpr ⟨h3,h4⟩,h5⟩
  ·rintro ⟨x,hx,rfl⟩
   obtain ⟨h1,h2⟩:=Bg.mp hx
   obtain ⟨h3,h4,_⟩:=H x h1 h2
   exact Bg.mpr ⟨h3,h4⟩
def Rr (x:Int)(n:Nat):Prop:=x.natAbs≤2*n∧(x - 2*n) % 4=0
theorem Rr.add {x y:Int}{m n:Nat}(h:Rr x m)(g:Rr y n):Rr (x+y) (m+n):=by
 unfold Rr at *
 omega
theorem Rr.neg {x:Int}{m:Nat}(h:Rr x m):Rr (-x) m:=by
 unfold Rr at *
 omega
theorem x8 {h:P2→Int}{b:P2→Bool}:∀ {l:List P2},(∀ x∈l,Rr (h x) (b x).toNat)→Rr (sm h l) (l.countP b)
 | [],_=>⟨Ay _,rfl⟩
 | x::l,H=>by
  have:=(H x zX).add (x8 (l:=l) fun y hy=>H y (zO _ hy))
  rw [BC]
  show Rr (h x+sm h l) _
  rw [show l.countP b+(if b x=true then 1 else 0)=(b x).toNat+l.countP b by cases b x <;> simp <;> omega]
  exact this
theorem gX {m n:Nat}{h:P2→Int}(hp:∀ s t:P2,s.1 % (m:Int)=t.1 % (m:Int)→s.2 % (n:Int)=t.2 % (n:Int)→h s=h t)(c e:Int):sm (fun s=>h (s.1+c,s.2+e)) (prs m n)=sm h (prs m n):=by
 have q:=nX (k:=prs m n) (l:=prs m n) (bR _ _) (bR _ _) (A:=fun _=>true) (B:=fun _=>true) (fun s=>((s.1+c) % (m:Int),(s.2+e) % (n:Int))) (fun s=>((s.1 + -c) % (m:Int),(s.2 + -e) % (n:Int)))
  (fun s hs _=>by
   obtain ⟨a1,a2,a3,a4⟩:=aP.mp hs
   exact ⟨aP.mpr ⟨Ad _ (by omega),zY _ (by omega),Ad _ (by omega),zY _ (by omega)⟩,rfl,Cd (bI a1 a2) (bI a3 a4)⟩)
  (fun s hs _=>by
   obtain ⟨a1,a2,a3,a4⟩:=aP.mp hs
   refine ⟨aP.mpr ⟨Ad _ (by omega),zY _ (by omega),Ad _ (by omega),zY _ (by omega)⟩,rfl,Cd ?_ ?_⟩
   ·have:=bI (c:=-c) a1 a2
    rw [Dz] at this
    exact this
   ·have:=bI (c:=-e) a3 a4
    rw [Dz] at this
    exact this) h
 have q1:sm h (prs m n)=sm (fun s:P2=>h ((s.1+c) % (m:Int),(s.2+e) % (n:Int))) (prs m n):=q
 rw [q1]
 exact bL fun s _=>(hp _ _ (dO _ _) (dO _ _)).symm
theorem nY {m n:Nat}{h:P2→Bool}(hp:∀ s t:P2,s.1 % (m:Int)=t.1 % (m:Int)→s.2 % (n:Int)=t.2 % (n:Int)→h s=h t)(c e:Int):(prs m n).countP (fun s=>h (s.1+c,s.2+e))=(prs m n).countP h:=by
 refine ji (bR _ _) (bR _ _) (fun s=>((s.1+c) % (m:Int),(s.2+e) % (n:Int))) (fun s=>((s.1 + -c) % (m:Int),(s.2 + -e) % (n:Int))) (fun s hs=>?_) (fun s hs=>?_)
 ·obtain ⟨a1,a2,a3,a4⟩:=aP.mp hs
  exact ⟨aP.mpr ⟨Ad _ (by omega),zY _ (by omega),Ad _ (by omega),zY _ (by omega)⟩,Cd (bI a1 a2) (bI a3 a4),hp _ _ (dO _ _) (dO _ _)⟩
 ·obtain ⟨a1,a2,a3,a4⟩:=aP.mp hs
  refine ⟨aP.mpr ⟨Ad _ (by omega),zY _ (by omega),Ad _ (by omega),zY _ (by omega)⟩,Cd ?_ ?_⟩
  ·have:=bI (c:=-c) a1 a2
   rw [Dz] at this
   exact this
  ·have:=bI (c:=-e) a3 a4
   rw [Dz] at this
   exact this
def sgn (u:List L)(x y:L):Int:=if u.idxOf x < u.idxOf y then 1 else if u.idxOf y < u.idxOf x then -1 else 0
def ch (u:List L)(a b c d:L):Int:=sgn u a c - sgn u a d - sgn u b c+sgn u b d
theorem v3 (u:List L)(a b c d:L):ch u a b d c = - ch u a b c d:=by unfold ch; omega
theorem v5 {u:List L}(U:Srf u){l y:L}(hl:l∈u)(hy:y∈u):ch u (inv l) l (inv y) y=2*tau u y l:=by
 unfold tau
 by_cases h:l=y ∨ l=inv y
 ·rw [if_pos h]
  rcases h with rfl | rfl
  ·unfold ch sgn
   have n1:u.idxOf l≠u.idxOf (inv l):=fun e=>dE l (aJ hl (U.iv l hl) e).symm
   generalize u.idxOf l=a at *
   generalize u.idxOf (inv l)=b at *
   grind
  ·unfold ch sgn
   rw [aC]
   have n1:u.idxOf y≠u.idxOf (inv y):=fun e=>dE y (aJ hy (U.iv y hy) e).symm
   generalize u.idxOf y=a at *
   generalize u.idxOf (inv y)=b at *
   grind
 ·rw [if_neg h]
  have n1:y≠l:=fun e=>h (.inl e.symm)
  have n2:y≠inv l:=fun e=>h (.inr (by rw [e,aC]))
  have F:=gp U hy hl n1 n2
  have a1:=aF F.mx
  have a2:=aF F.mX
  have a3:=aF F.my
  have a4:=aF F.mY
  have n1:=F.n1;have n2:=F.n2;have n3:=F.n3;have n4:=F.n4;have n5:=F.n5;have n6:=F.n6
  unfold ch sgn ic
  rw [aG F.mx F.my,aG F.mx F.mX,aG F.mx F.mY]
  generalize u.idxOf y=a at *
  generalize u.idxOf (inv y)=b at *
  generalize u.idxOf l=c at *
  generalize u.idxOf (inv l)=d at *
  generalize u.length=n at *
  grind
theorem v7 {u:List L}{a b d:L}(ha:a∈u)(hb:b∈u)(hd:d∈u)(ab:a≠b)(ad:a≠d)(bd:b≠d):ch u a b a d=if rfI u a b < rfI u a d then 1 else -1:=by
 have a1:=aF ha
 have a2:=aF hb
 have a3:=aF hd
 have n1:u.idxOf a≠u.idxOf b:=fun e=>ab (aJ ha hb e)
 have n2:u.idxOf a≠u.idxOf d:=fun e=>ad (aJ ha hd e)
 have n3:u.idxOf b≠u.idxOf d:=fun e=>bd (aJ hb hd e)
 unfold ch sgn
 rw [aG ha hb,aG ha hd]
 generalize u.idxOf a=x at *
 generalize u.idxOf b=y at *
 generalize u.idxOf d=z at *
 generalize u.length=n at *
 grind
theorem v8 {u:List L}{a b c:L}(ha:a∈u)(hb:b∈u)(hc:c∈u)(ab:a≠b)(bc:b≠c)(ac:a≠c):ch u a b c b=if rfI u b a < rfI u b c then 1 else -1:=by
 have a1:=aF ha
 have a2:=aF hb
 have a3:=aF hc
 have n1:u.idxOf a≠u.idxOf b:=fun e=>ab (aJ ha hb e)
 have n2:u.idxOf b≠u.idxOf c:=fun e=>bc (aJ hb hc e)
 have n3:u.idxOf a≠u.idxOf c:=fun e=>ac (aJ ha hc e)
 unfold ch sgn
 rw [aG hb ha,aG hb hc]
 generalize u.idxOf a=x at *
 generalize u.idxOf b=y at *
 generalize u.idxOf c=z at *
 generalize u.length=n at *
 grind
theorem tD {u:List L}{a b c d:L}(ha:a∈u)(hb:b∈u)(hc:c∈u)(hd:d∈u):Rr (if [a,b,c,d].Nodup then ch u a b c d else 0) (cx u a b c d).toNat:=by
 by_cases h:[a,b,c,d].Nodup
 ·rw [if_pos h]
  unfold cx
  rw [zQ h,AK]
  simp only [Ar,Ae,Ax,BN,not_or] at h
  obtain ⟨⟨m1,m2,m3⟩,⟨m4,m5⟩,m6,_⟩:=h
  have a1:=aF ha
  have a2:=aF hb
  have a3:=aF hc
  have a4:=aF hd
  have n1:u.idxOf a≠u.idxOf b:=fun e=>m1 (aJ ha hb e)
  have n2:u.idxOf a≠u.idxOf c:=fun e=>m2 (aJ ha hc e)
  have n3:u.idxOf a≠u.idxOf d:=fun e=>m3 (aJ ha hd e)
  have n4:u.idxOf b≠u.idxOf c:=fun e=>m4 (aJ hb hc e)
  have n5:u.idxOf b≠u.idxOf d:=fun e=>m5 (aJ hb hd e)
  have n6:u.idxOf c≠u.idxOf d:=fun e=>m6 (aJ hc hd e)
  rw [aG ha hc,aG ha hb,aG ha hd]
  unfold ch sgn
  generalize u.idxOf a=x1 at *
  generalize u.idxOf b=x2 at *
  generalize u.idxOf c=x3 at *
  generalize u.idxOf d=x4 at *
  generalize u.length=n at *
  clear m1 m2 m3 m4 m5 m6 ha hb hc hd
  have key:∀ (p q:Prop) [Decidable p] [Decidable q] (x:Int),((p ↔ q)→x=0)→(¬ (p ↔ q)→x=2 ∨ x = -2)→Rr x (decide p != decide q).toNat:=fun p q _ _ x h1 h2=>by
   unfold Rr
   by_cases hp:p <;> by_cases hq:q <;> simp only [hp,hq,decide_true,decide_false] at *
   ·have:=h1 trivial;subst this;decide
   ·rcases h2 (by simp) with rfl | rfl <;> decide
   ·rcases h2 (by simp) with rfl | rfl <;> decide
   ·have:=h1 trivial;subst this;decide
  refine key _ _ _ ?_ ?_ <;> grind
 ·rw [if_neg h]
  unfold cx
  rw [zH h,AH]
  exact ⟨by decide,rfl⟩
theorem at_mod {w:List L}{i j:Int}(h:i % (w.length:Int)=j % (w.length:Int))(c:Int):atZ w (i+c)=atZ w (j+c):=by
 unfold atZ
 rw [Br,h,← Br]
theorem cU {w:List L}{i j:Int}(h:i % (w.length:Int)=j % (w.length:Int)):atZ w i=atZ w j:=by
 unfold atZ
 rw [h]
def c2 (u w v:List L)(s:P2):Int:=ch u (inv (atZ w s.1)) (atZ w (s.1+1)) (inv (atZ v s.2)) (atZ v (s.2+1))
theorem n8 (w:List L):(List.range w.length).map (fun p:Nat=>atZ w (p:Int))=w:=by
 refine List.ext_getElem (by simp) fun i h1 h2=>?_
 rw [DG,List.getElem_range]
 exact fj h2
theorem v9 (G:L→L→Int)(w v:List L):sm (fun s:P2=>G (atZ w s.1) (atZ v s.2)) (prs w.length v.length)=sm (fun a=>sm (fun b=>G a b) v) w:=by
 unfold prs
 rw [nU]
 conv=>rhs;rw [← n8 w,iI]
 refine bL fun p _=>?_
 rw [iI]
 conv=>rhs;rw [← n8 v,iI]
theorem n_ (u:List L)(y:L):∀ w,fv u y w=sm (fun a=>tau u y a) w
 | []=>rfl
 | l::w=>by show tau u y l+fv u y w=tau u y l+_;rw [n_ u y w]
theorem qY {u:List L}{k:Nat}(U:SK u k){w:List L}(hw:∀ l∈w,l∈u):∀ {v:List L},(∀ l∈v,l∈u)→bal u k w v=sm (fun b=>sm (fun a=>tau u b a) w) v
 | [],_=>by rw [pA,si];rfl
 | b::r,h=>by
  have e:=sj u k w [b] r
  rw [tu U (h b zX) hw,qY U hw fun x hx=>h x (zO _ hx),n_] at e
  exact e
theorem kK {u:List L}{k:Nat}(U:SK u k){w v:List L}(hw:∀ l∈w,l∈u)(hv:∀ l∈v,l∈u)(lw:0 < w.length)(lv:0 < v.length):sm (c2 u w v) (prs w.length v.length)=2*bal u k w v:=by
 have PA:∀ (g:L→L→Int),sm (fun s:P2=>g (atZ w s.1) (atZ v (s.2+1))) (prs w.length v.length)=sm (fun s:P2=>g (atZ w s.1) (atZ v s.2)) (prs w.length v.length):=fun g=>by
  have:=gX (m:=w.length) (n:=v.length) (h:=fun s:P2=>g (atZ w s.1) (atZ v s.2)) (fun s t h1 h2=>by show g _ _=g _ _;rw [cU h1,cU h2]) 0 1
  rw [← this]
  exact bL fun s _=>by rw [BK]
 have PB:∀ (g:L→L→Int),sm (fun s:P2=>g (atZ w (s.1+1)) (atZ v s.2)) (prs w.length v.length)=sm (fun s:P2=>g (atZ w s.1) (atZ v s.2)) (prs w.length v.length):=fun g=>by
  have:=gX (m:=w.length) (n:=v.length) (h:=fun s:P2=>g (atZ w s.1) (atZ v s.2)) (fun s t h1 h2=>by show g _ _=g _ _;rw [cU h1,cU h2]) 1 0
  rw [← this]
  exact bL fun s _=>by rw [BK]
 have PC:∀ (g:L→L→Int),sm (fun s:P2=>g (atZ w (s.1+1)) (atZ v (s.2+1))) (prs w.length v.length)=sm (fun s:P2=>g (atZ w s.1) (atZ v s.2)) (prs w.length v.length):=fun g=>gX (m:=w.length) (n:=v.length) (h:=fun s:P2=>g (atZ w s.1) (atZ v s.2)) (fun s t h1 h2=>by show g _ _=g _ _;rw [cU h1,cU h2]) 1 1
 have e1:sm (c2 u w v) (prs w.length v.length)=sm (fun s:P2=>sgn u (inv (atZ w s.1)) (inv (atZ v s.2))+((-1)*sgn u (inv (atZ w s.1)) (atZ v (s.2+1))+((-1)*sgn u (atZ w (s.1+1)) (inv (atZ v s.2))+sgn u (atZ w (s.1+1)) (atZ v (s.2+1))))) (prs w.length v.length):=bL fun s _=>by
  unfold c2 ch
  omega
 rw [e1,cE,cE,cE,fm,fm,PA (fun a b=>sgn u (inv a) b),PB (fun a b=>sgn u a (inv b)),PC (fun a b=>sgn u a b),← fm,← fm,← cE,← cE,← cE]
 rw [qY U hw hv,← nV,← v9 (fun a b=>tau u b a),← fm]
 refine bL fun s _=>?_
 rw [← v5 U.srf (hw _ (cC lw s.1)) (hv _ (cC lv s.2))]
 unfold ch
 omega
theorem oa {f g:Int→L}{a b:Nat}(ha:0 < a)(hb:0 < b)(pf:∀ k,f (k+(a:Int))=f k)(pg:∀ k,g (k+(b:Int))=g k)(h:f (-1)≠g (-1)):frN f g 0 (a+b) < a+b∧f (frN f g 0 (a+b))≠g (frN f g 0 (a+b)):=by
 obtain ⟨_,h2,h3,h4⟩:=cS f g (a+b) 0
 generalize frN f g 0 (a+b)=n at h2 h3 h4 ⊢
 by_cases c:n < a+b
 ·exact ⟨c,h4 (by omega)⟩
 ·refine absurd (jX (f:=f) (g:=g) (a:=(a:Int)) (b:=(b:Int)) (by omega) (by omega) pf pg fun k hk hl=>?_) h
  obtain ⟨m,rfl⟩:=AR hk
  exact h3 m (Ay _) (by omega)
def eA (w v:List L)(s:P2):Bool:=decide (atZ w s.1=atZ v s.2∧atZ w (s.1+1)≠atZ v (s.2+1))
def bA (w v:List L)(s:P2):Bool:=decide (atZ w (s.1+1)=atZ v (s.2+1)∧atZ w s.1≠atZ v s.2)
def nF (w v:List L)(s:P2):Nat:=nW w v 1 (s.1+1,s.2+1)
def nB (w v:List L)(s:P2):Nat:=frN (fun k=>atZ w (s.1 - k)) (fun k=>atZ v (s.2 - k)) 0 (w.length+v.length)
theorem j9 {u w v:List L}{s t:P2}(h1:s.1 % (w.length:Int)=t.1 % (w.length:Int))(h2:s.2 % (v.length:Int)=t.2 % (v.length:Int)):eA w v s=eA w v t∧bA w v s=bA w v t∧nB w v s=nB w v t∧nF w v s=nF w v t∧c2 u w v s=c2 u w v t:=by
 have q1:∀ c,(s.1+c) % (w.length:Int)=(t.1+c) % (w.length:Int):=fun c=>by rw [Br,h1,← Br]
 have q2:∀ c,(s.2+c) % (v.length:Int)=(t.2+c) % (v.length:Int):=fun c=>by rw [Br,h2,← Br]
 have e1:∀ c,atZ w (s.1+c)=atZ w (t.1+c):=fun c=>at_mod h1 c
 have e2:∀ c,atZ v (s.2+c)=atZ v (t.2+c):=fun c=>at_mod h2 c
 have e3:=cU h1
 have e4:=cU h2
 refine ⟨?_,?_,?_,?_,?_⟩
 ·unfold eA
  rw [e1,e2,e3,e4]
 ·unfold bA
  rw [e1,e2,e3,e4]
 ·unfold nB
  have f1:(fun k=>atZ w (s.1 - k))=fun k=>atZ w (t.1 - k):=by
   funext k
   exact e1 (-k)
  have f2:(fun k=>atZ v (s.2 - k))=fun k=>atZ v (t.2 - k):=by
   funext k
   exact e2 (-k)
  rw [f1,f2]
 ·exact (p9 (u:=u) (w:=w) (v:=v) (s:=(s.1+1,s.2+1)) (t:=(t.1+1,t.2+1)) (q1 1) (q2 1) 1).2.2
 ·unfold c2
  rw [e1,e2,e3,e4]
theorem oe {w v:List L}(lw:0 < w.length)(lv:0 < v.length){p q:Int}(h:bA w v (p,q)=true):∃ n:Nat,nF w v (p,q)=n∧0 < n∧n < w.length+v.length∧eA w v (p+n,q+n)=true∧nB w v (p+n,q+n)=n∧(∀ j:Nat,j < n→atZ w (p+1+j)=atZ v (q+1+j))∧atZ w (p+1+n)≠atZ v (q+1+n):=by
 unfold bA at h
 obtain ⟨h0,h1⟩:=B3 h
 dsimp only at h0 h1
 have pf:∀ (w:List L) (p k:Int),atZ w (p+(k+(w.length:Int)))=atZ w (p+k):=fun w p k=>by rw [← Dt];exact fh _
 have e:nF w v (p,q)=frN (fun k=>atZ w (p+1+k)) (fun k=>atZ v (q+1+k)) 0 (w.length+v.length):=by
  unfold nF nW
  congr 1
  ·funext k;exact sg1 _ _
  ·funext k;exact sg1 _ _
 obtain ⟨a1,a2⟩:=oa (f:=fun k=>atZ w (p+1+k)) (g:=fun k=>atZ v (q+1+k)) lw lv (fun k=>pf w (p+1) k) (fun k=>pf v (q+1) k) (by
  show atZ w (p+1 + -1)≠atZ v (q+1 + -1)
  rw [show p+1 + -1=p by omega,show q+1 + -1=q by omega]
  exact h1)
 have a3:∀ j:Nat,j < frN (fun k=>atZ w (p+1+k)) (fun k=>atZ v (q+1+k)) 0 (w.length+v.length)→atZ w (p+1+j)=atZ v (q+1+j):=fun j hj=>fk (f:=fun k=>atZ w (p+1+k)) (g:=fun k=>atZ v (q+1+k)) j hj
 generalize frN (fun k=>atZ w (p+1+k)) (fun k=>atZ v (q+1+k)) 0 (w.length+v.length)=n at *
 have hn:0 < n:=by
  apply Nat.pos_of_ne_zero
  intro z
  subst z
  refine a2 ?_
  show atZ w (p+1+(0:Nat))=atZ v (q+1+(0:Nat))
  rw [show p+1+((0:Nat):Int)=p+1 by omega,show q+1+((0:Nat):Int)=q+1 by omega]
  exact h0
 have l1:atZ w (p+n)=atZ v (q+n):=by
  have:=a3 (n - 1) (by omega)
  rwa [show p+1+((n - 1:Nat):Int)=p+n by omega,show q+1+((n - 1:Nat):Int)=q+n by omega] at this
 refine ⟨n,e,hn,a1,zQ ⟨l1,?_⟩,?_,a3,a2⟩
 ·show atZ w (p+n+1)≠atZ v (q+n+1)
  rw [show p+(n:Int)+1=p+1+n by omega,show q+(n:Int)+1=q+1+n by omega]
  exact a2
 ·refine p8 (fun j hj=>?_) (by omega) (.inr ?_)
  ·have:=a3 (n - 1 - j) (by omega)
   show atZ w (p+n - j)=atZ v (q+n - j)
   rwa [show p+1+((n - 1 - j:Nat):Int)=p+n - j by omega,show q+1+((n - 1 - j:Nat):Int)=q+n - j by omega] at this
  ·show atZ w (p+n - n)≠atZ v (q+n - n)
   rw [show p+(n:Int) - n=p by omega,show q+(n:Int) - n=q by omega]
   exact h1
theorem tE {w v:List L}(lw:0 < w.length)(lv:0 < v.length){p q:Int}(h:eA w v (p,q)=true):∃ n:Nat,nB w v (p,q)=n∧bA w v (p - n,q - n)=true∧nF w v (p - n,q - n)=n:=by
 unfold eA at h
 obtain ⟨h0,h1⟩:=B3 h
 dsimp only at h0 h1
 have pf:∀ (w:List L) (p k:Int),atZ w (p - (k+(w.length:Int)))=atZ w (p - k):=fun w p k=>by
  rw [← fh (p - (k+(w.length:Int)))]
  congr 1
  omega
 obtain ⟨a1,a2⟩:=oa (f:=fun k=>atZ w (p - k)) (g:=fun k=>atZ v (q - k)) lw lv (fun k=>pf w p k) (fun k=>pf v q k) (by
  show atZ w (p - -1)≠atZ v (q - -1)
  rw [show p - -1=p+1 by omega,show q - -1=q+1 by omega]
  exact h1)
 have a3:∀ j:Nat,j < frN (fun k=>atZ w (p - k)) (fun k=>atZ v (q - k)) 0 (w.length+v.length)→atZ w (p - j)=atZ v (q - j):=fun j hj=>fk (f:=fun k=>atZ w (p - k)) (g:=fun k=>atZ v (q - k)) j hj
 have e:nB w v (p,q)=frN (fun k=>atZ w (p - k)) (fun k=>atZ v (q - k)) 0 (w.length+v.length):=rfl
 generalize frN (fun k=>atZ w (p - k)) (fun k=>atZ v (q - k)) 0 (w.length+v.length)=n at *
 have hn:0 < n:=by
  apply Nat.pos_of_ne_zero
  intro z
  subst z
  refine a2 ?_
  show atZ w (p - (0:Nat))=atZ v (q - (0:Nat))
  rw [show p - ((0:Nat):Int)=p by omega,show q - ((0:Nat):Int)=q by omega]
  exact h0
 refine ⟨n,e,zQ ⟨?_,a2⟩,?_⟩
 ·have:=a3 (n - 1) (by omega)
  show atZ w (p - n+1)=atZ v (q - n+1)
  rwa [show p - ((n - 1:Nat):Int)=p - n+1 by omega,show q - ((n - 1:Nat):Int)=q - n+1 by omega] at this
 ·unfold nF nW
  refine p8 (fun j hj=>?_) (by omega) (.inr ?_)
  ·rw [sg1,sg1]
   have:=a3 (n - 1 - j) (by omega)
   show atZ w (p - n+1+j)=atZ v (q - n+1+j)
   rwa [show p - ((n - 1 - j:Nat):Int)=p - n+1+j by omega,show q - ((n - 1 - j:Nat):Int)=q - n+1+j by omega] at this
  ·rw [sg1,sg1]
   show atZ w (p - n+1+n)≠atZ v (q - n+1+n)
   rw [show p - (n:Int)+1+n=p+1 by omega,show q - (n:Int)+1+n=q+1 by omega]
   exact h1
theorem x9 (A B:Bool):Rr ((if A=true then (1:Int) else -1)+(if B=true then 1 else -1)) (A == B).toNat:=by
 unfold Rr
 cases A <;> cases B <;> decide
theorem og {k:Nat}{u w v:List L}(U:SK u k)(A:Wo k w)(B:Wo k v):Rr (sm (fun s=>(if eA w v s=true then c2 u w v s else 0)+(if bA w v s=true then c2 u w v s else 0)) (prs w.length v.length)) ((prs w.length v.length).countP (hP u w v 1)):=by
 have lw:=A.lp
 have lv:=B.lp
 have mk:∀ (x y:Int),(x % (w.length:Int),y % (v.length:Int))∈prs w.length v.length:=fun x y=>aP.mpr ⟨Ad _ (by omega),zY _ (by omega),Ad _ (by omega),zY _ (by omega)⟩
 have e1:=nX (k:=prs w.length v.length) (l:=prs w.length v.length) (bR _ _) (bR _ _) (A:=bA w v) (B:=eA w v) (fun s=>((s.1+(nF w v s:Nat)) % (w.length:Int),(s.2+(nF w v s:Nat)) % (v.length:Int))) (fun s=>((s.1 - (nB w v s:Nat)) % (w.length:Int),(s.2 - (nB w v s:Nat)) % (v.length:Int)))
  (fun s hs h=>by
   obtain ⟨a1,a2,a3,a4⟩:=aP.mp hs
   obtain ⟨n,n1,n2,n3,n4,n5,n6,n7⟩:=oe lw lv (p:=s.1) (q:=s.2) h
   have n1:nF w v s=n:=n1
   rw [n1]
   have q:=j9 (u:=u) (w:=w) (v:=v) (s:=((s.1+n) % (w.length:Int),(s.2+n) % (v.length:Int))) (t:=(s.1+n,s.2+n)) (dO _ _) (dO _ _)
   refine ⟨mk _ _,by rw [q.1];exact n4,?_⟩
   show ((_ - ((nB w v ((s.1+n) % (w.length:Int),(s.2+n) % (v.length:Int)):Nat):Int)) % (w.length:Int),(_ - ((nB w v ((s.1+n) % (w.length:Int),(s.2+n) % (v.length:Int)):Nat):Int)) % (v.length:Int))=s
   rw [q.2.2.1,n5]
   exact Cd (bI a1 a2) (bI a3 a4))
  (fun s hs h=>by
   obtain ⟨a1,a2,a3,a4⟩:=aP.mp hs
   obtain ⟨n,n1,n2,n3⟩:=tE lw lv (p:=s.1) (q:=s.2) h
   have n1:nB w v s=n:=n1
   rw [n1]
   have q:=j9 (u:=u) (w:=w) (v:=v) (s:=((s.1 - n) % (w.length:Int),(s.2 - n) % (v.length:Int))) (t:=(s.1 - n,s.2 - n)) (dO _ _) (dO _ _)
   refine ⟨mk _ _,by rw [q.2.1];exact n2,?_⟩
   show ((_+((nF w v ((s.1 - n) % (w.length:Int),(s.2 - n) % (v.length:Int)):Nat):Int)) % (w.length:Int),(_+((nF w v ((s.1 - n) % (w.length:Int),(s.2 - n) % (v.length:Int)):Nat):Int)) % (v.length:Int))=s
   rw [q.2.2.2.1,n3]
   have b1:=bI (c:=-(n:Int)) a1 a2
   have b2:=bI (c:=-(n:Int)) a3 a4
   rw [Dz] at b1 b2
   exact Cd b1 b2) (c2 u w v)
 rw [cE,e1,← cE,← nY (m:=w.length) (n:=v.length) (h:=hP u w v 1) (fun s t h1 h2=>(p9 h1 h2 1).2.1) 1 1]
 refine x8 fun s _=>?_
 obtain ⟨p,q⟩:=s
 by_cases h:bA w v (p,q)=true
 ·rw [if_pos h,if_pos h]
  obtain ⟨n,n1,n2,n3,n4,n5,n6,n7⟩:=oe lw lv h
  obtain ⟨h0,h1⟩:=B3 h
  dsimp only at h0 h1
  have am:∀ j,atZ w j∈u:=fun j=>(U.mem _).mpr (A.i _ (cC lw j))
  have bm:∀ j,atZ v j∈u:=fun j=>(U.mem _).mpr (B.i _ (cC lv j))
  have iv:=U.srf.iv
  have ln:atZ w (p+n)=atZ v (q+n):=by
   have:=n6 (n - 1) (by omega)
   rwa [show p+1+((n - 1:Nat):Int)=p+n by omega,show q+1+((n - 1:Nat):Int)=q+n by omega] at this
  have t1:c2 u w v (p,q)=if decide (rfI u (atZ w (p+1)) (inv (atZ w p)) < rfI u (atZ w (p+1)) (inv (atZ v q)))=true then 1 else -1:=by
   unfold c2
   rw [← h0,v8 (iv _ (am _)) (am _) (iv _ (bm _)) (rnd_at A.r p).symm (by rw [h0];exact rnd_at B.r q) (cT h1)]
   simp only [Bs]
  have t2:c2 u w v ((p+(nF w v (p,q):Nat)) % (w.length:Int),(q+(nF w v (p,q):Nat)) % (v.length:Int))=if decide (rfI u (inv (atZ w (p+n))) (atZ w (p+1+n)) < rfI u (inv (atZ w (p+n))) (atZ v (q+1+n)))=true then 1 else -1:=by
   rw [n1,(j9 (u:=u) (w:=w) (v:=v) (s:=((p+n) % (w.length:Int),(q+n) % (v.length:Int))) (t:=(p+n,q+n)) (dO _ _) (dO _ _)).2.2.2.2]
   unfold c2
   dsimp only
   rw [← ln,show p+(n:Int)+1=p+1+n by omega,show q+(n:Int)+1=q+1+n by omega]
   have r1:=rnd_at A.r (p+n)
   have r2:=rnd_at B.r (q+n)
   rw [show p+(n:Int)+1=p+1+n by omega] at r1
   rw [show q+(n:Int)+1=q+1+n by omega,← ln] at r2
   rw [v7 (iv _ (am _)) (am _) (bm _) r1.symm r2.symm n7]
   simp only [Bs]
  rw [t1,t2]
  have th:hP u w v 1 (p+1,q+1)=(decide (rfI u (inv (atZ w (p+n))) (atZ w (p+1+n)) < rfI u (inv (atZ w (p+n))) (atZ v (q+1+n))) == decide (rfI u (atZ w (p+1)) (inv (atZ w p)) < rfI u (atZ w (p+1)) (inv (atZ v q)))):=by
   unfold hP
   rw [show nW w v 1 (p+1,q+1)=n from n1]
   unfold ptB
   dsimp only
   rw [sg1,sg1,sg1,sg1,sg1,sg1]
   rw [show p+1 + -1=p by omega,show q+1 + -1=q by omega,show p+1+((n:Int) - 1)=p+n by omega,show p+1+(0:Int)=p+1 by omega]
   rw [zQ n2,zQ (p:=atZ w p≠atZ v q) h1,zQ (p:=atZ w (p+1+n)≠atZ v (q+1+n)) n7,AK,AK,AK]
  show Rr _ (hP u w v 1 (p+1,q+1)).toNat
  rw [th]
  exact x9 _ _
 ·rw [if_neg h,if_neg h]
  have:hP u w v 1 (p+1,q+1)=false:=by
   unfold hP
   dsimp only
   by_cases c:sgZ w (p+1) 1 (-1)=sgZ v (q+1) 1 (-1)
   ·exact dN c
   ·rw [sg1,sg1,show p+1 + -1=p by omega,show q+1 + -1=q by omega] at c
    have h0:atZ w (p+1)≠atZ v (q+1):=fun e=>h (zQ ⟨e,c⟩)
    have:nW w v 1 (p+1,q+1)=0:=by
     refine p8 (fun j hj=>absurd hj (by omega)) (Ay _) (.inr ?_)
     rw [sg1,sg1]
     show atZ w (p+1+(0:Nat))≠atZ v (q+1+(0:Nat))
     rw [show p+1+((0:Nat):Int)=p+1 by omega,show q+1+((0:Nat):Int)=q+1 by omega]
     exact h0
    rw [this]
    rfl
  show Rr _ (hP u w v 1 (p+1,q+1)).toNat
  rw [this]
  exact ⟨by decide,rfl⟩
def eG (w v:List L)(s:P2):Bool:=decide (inv (atZ w s.1)=atZ v (s.2+1)∧atZ w (s.1+1)≠inv (atZ v s.2))
def bG (w v:List L)(s:P2):Bool:=decide (atZ w (s.1+1)=inv (atZ v s.2)∧inv (atZ w s.1)≠atZ v (s.2+1))
theorem j_ {x y:L}:x=inv y ↔ inv x=y:=⟨fun e=>by rw [e,aC],fun e=>by rw [← e,aC]⟩
theorem x_ {n:Nat}{u w v:List L}(U:SK u n)(A:Wo n w)(B:Wo n v):(prs w.length v.length).countP (hP u w (bk v) 1)=(prs w.length v.length).countP (hP u w v (-1)):=by
 have a1:=vX U A B.bk
 have a2:=vX U B.bk A
 have a3:=bkA U B A
 have a4:=qa U A B
 have a5:=qa U B A
 rw [bf] at a1 a2
 omega
theorem oh {k:Nat}{u w v:List L}(U:SK u k)(A:Wo k w)(B:Wo k v):Rr (sm (fun s=>(if eG w v s=true then c2 u w v s else 0)+(if bG w v s=true then c2 u w v s else 0)) (prs w.length v.length)) ((prs w.length v.length).countP (hP u w v (-1))):=by
 have lw:=A.lp
 have lv:=B.lp
 have R:=og U A B.bk
 rw [bf,x_ U A B] at R
 have e:=nX (k:=prs w.length v.length) (l:=prs w.length v.length) (bR _ _) (bR _ _) (A:=fun _=>true) (B:=fun _=>true) (fun s=>(s.1,(-2 - s.2) % (v.length:Int))) (fun s=>(s.1,(-2 - s.2) % (v.length:Int)))
  (fun s hs _=>by
   obtain ⟨a1,a2,a3,a4⟩:=aP.mp hs
   exact ⟨aP.mpr ⟨a1,a2,Ad _ (by omega),zY _ (by omega)⟩,rfl,Cd rfl (eJ a3 a4)⟩)
  (fun s hs _=>by
   obtain ⟨a1,a2,a3,a4⟩:=aP.mp hs
   exact ⟨aP.mpr ⟨a1,a2,Ad _ (by omega),zY _ (by omega)⟩,rfl,Cd rfl (eJ a3 a4)⟩) (fun s=>(if eA w (bk v) s=true then c2 u w (bk v) s else 0)+(if bA w (bk v) s=true then c2 u w (bk v) s else 0))
 simp only [BI] at e
 rw [e] at R
 have R:=R.neg
 rw [show ∀ x:Int,-x=(-1)*x by intro x;omega,← fm] at R
 refine (Af (fun x=>Rr x _) (bL fun s _=>?_)).mp R
 have q:=j9 (u:=u) (w:=w) (v:=bk v) (s:=(s.1,(-2 - s.2) % (v.length:Int))) (t:=(s.1,-2 - s.2)) rfl (by rw [bf];exact dO _ _)
 rw [q.1,q.2.1,q.2.2.2.2]
 have b1:atZ (bk v) (-2 - s.2)=inv (atZ v (s.2+1)):=by
  rw [nQ lv]
  congr 2
  omega
 have b2:atZ (bk v) (-2 - s.2+1)=inv (atZ v s.2):=by
  rw [nQ lv]
  congr 2
  omega
 have f1:eA w (bk v) (s.1,-2 - s.2)=eG w v s:=by
  unfold eA eG
  dsimp only
  rw [b1,b2]
  exact BP.mpr ⟨fun ⟨x,y⟩=>⟨j_.mp x,y⟩,fun ⟨x,y⟩=>⟨j_.mpr x,y⟩⟩
 have f2:bA w (bk v) (s.1,-2 - s.2)=bG w v s:=by
  unfold bA bG
  dsimp only
  rw [b1,b2]
  refine BP.mpr ⟨fun ⟨x,y⟩=>⟨x,fun z=>y (j_.mpr z)⟩,fun ⟨x,y⟩=>⟨x,fun z=>y (j_.mp z)⟩⟩
 have f3:c2 u w (bk v) (s.1,-2 - s.2) = - c2 u w v s:=by
  unfold c2
  dsimp only
  rw [b1,b2,aC,v3]
 rw [f1,f2,f3]
 split <;> split <;> omega
theorem yd {k:Nat}{u w v:List L}(U:SK u k)(A:Wo k w)(B:Wo k v):Rr (2*bal u k w v) (NN u w v):=by
 have lw:=A.lp
 have lv:=B.lp
 have am:∀ j,atZ w j∈u:=fun j=>(U.mem _).mpr (A.i _ (cC lw j))
 have bm:∀ j,atZ v j∈u:=fun j=>(U.mem _).mpr (B.i _ (cC lv j))
 have iv:=U.srf.iv
 rw [← kK U (fun l hl=>(U.mem _).mpr (A.i l hl)) (fun l hl=>(U.mem _).mpr (B.i l hl)) lw lv]
 have R1:Rr (sm (fun s:P2=>if [inv (atZ w s.1),atZ w (s.1+1),inv (atZ v s.2),atZ v (s.2+1)].Nodup then c2 u w v s else 0) (prs w.length v.length)) ((prs w.length v.length).countP (hF u w v)):=x8 fun s _=>by
  have:=tD (u:=u) (iv _ (am s.1)) (am (s.1+1)) (iv _ (bm s.2)) (bm (s.2+1))
  unfold hF
  rw [sg1,sg1,sg1,sg1,BK,BK]
  exact this
 have R:=R1.add ((og U A B).add (oh U A B))
 rw [← cE,← cE] at R
 unfold NN
 refine (Af (fun x=>Rr x _) (bL fun s _=>?_)).mp R
 have n1:=rnd_at A.r s.1
 have n2:=rnd_at B.r s.2
 unfold eA bA eG bG c2
 have h1:∀ x y:L,x=y ↔ inv x=inv y:=fun x y=>⟨fun e=>by rw [e],fun e=>by rw [← aC x,e,aC]⟩
 rw [show (decide (atZ w s.1=atZ v s.2∧atZ w (s.1+1)≠atZ v (s.2+1)))=decide (inv (atZ w s.1)=inv (atZ v s.2)∧atZ w (s.1+1)≠atZ v (s.2+1)) by rw [BP,h1 (atZ w s.1)],show (decide (atZ w (s.1+1)=atZ v (s.2+1)∧atZ w s.1≠atZ v s.2))=decide (atZ w (s.1+1)=atZ v (s.2+1)∧inv (atZ w s.1)≠inv (atZ v s.2)) by rw [BP,ne_eq,h1 (atZ w s.1)]]
 generalize inv (atZ w s.1)=a at *
 generalize atZ w (s.1+1)=b at *
 generalize inv (atZ v s.2)=c at *
 generalize atZ v (s.2+1)=d at *
 simp only [Bs,Ar,Ae,Ax,BN,not_or,CB,A9,D9]
 have z1:a=c→b=d→ch u a b c d=0:=fun e1 e2=>by
  subst e1 e2
  unfold ch sgn
  grind
 have z2:a=d→b=c→ch u a b c d=0:=fun e1 e2=>by
  subst e1 e2
  unfold ch sgn
  grind
 generalize ch u a b c d=x at *
 clear R R1 am bm iv h1
 have n1':¬ a=b:=fun e=>n1 e.symm
 have n2':¬ c=d:=fun e=>n2 e.symm
 clear n1 n2
 by_cases e1:a=c <;> by_cases e2:b=d <;> by_cases e3:a=d <;> by_cases e4:b=c <;> simp_all
theorem v_ {k:Nat}{u w v:List L}(U:SK u k)(A:Wo k w)(B:Wo k v):((bal u k w v).natAbs:Int)≤NN u w v∧((NN u w v:Int) - bal u k w v) % 2=0:=by
 have R:=yd U A B
 unfold Rr at R
 omega
theorem kc {u h:List L}(U:Srf u)(hh:h∈hol u)(j:Int):u.idxOf (atZ h (j+1))=(u.idxOf (inv (atZ h j))+1) % u.length∧atZ h j∈u∧atZ h (j+1)∈u:=by
 have c:=(fL U).cy h hh
 have lp:0 < h.length:=Av.mpr c.ne
 have e0:=Ad j (show (h.length:Int)≠0 by omega)
 have e1:=zY j (show (0:Int) < (h.length:Int) by omega)
 have g1:h[(j % (h.length:Int)).toNat]? = some (atZ h j):=by
  unfold atZ
  exact cw (by omega)
 have g2:h[((j % (h.length:Int)).toNat+1) % h.length]? = some (atZ h (j+1)):=by
  have:((j % (h.length:Int)).toNat+1) % h.length=((j+1) % (h.length:Int)).toNat:=by
   have q:((((j % (h.length:Int)).toNat+1) % h.length:Nat):Int)=(j+1) % (h.length:Int):=by
    rw [Int.natCast_emod,show (((j % (h.length:Int)).toNat+1:Nat):Int)=j % (h.length:Int)+1 by omega,CC]
   omega
  rw [this]
  unfold atZ
  have:=zY (j+1) (show (0:Int) < (h.length:Int) by omega)
  have:=Ad (j+1) (show (h.length:Int)≠0 by omega)
  exact cw (by omega)
 have m1:atZ h j∈u:=(fL U).pm.mem_iff.mp (Cc.mpr ⟨h,hh,cC lp j⟩)
 have m2:atZ h (j+1)∈u:=(fL U).pm.mem_iff.mp (Cc.mpr ⟨h,hh,cC lp (j+1)⟩)
 have r:Nx u (inv (atZ h j)) (atZ h (j+1)):=c.st _ _ (nq g1 g2)
 have m3:=U.iv _ m1
 have lu:=aF m3
 have hg:u[(u.idxOf (inv (atZ h j))+1) % u.length]? = some (u.getD ((u.idxOf (inv (atZ h j))+1) % u.length) 0):=cw (Nat.mod_lt _ (by omega))
 have r2:=nq (gk m3) hg
 have e:=vD U.nd r r2
 refine ⟨?_,m1,m2⟩
 rw [← e] at hg
 exact cj U.nd hg
theorem oi {u h:List L}(U:Srf u)(hh:h∈hol u):Rnd h:=by
 have c:=(fL U).cy h hh
 refine vU c.ne fun k _=>?_
 obtain ⟨a,b,_⟩:=kc U hh ((k:Int) - 1)
 rw [show (k:Int) - 1+1=k by omega] at a
 intro e
 rw [e] at a
 have m:=U.iv _ b
 have l1:=aF m
 have n1:=aF b
 have:u.idxOf (inv (atZ h ((k:Int) - 1)))≠u.idxOf (atZ h ((k:Int) - 1)):=fun z=>dE _ (aJ m b z)
 have q:(u.idxOf (inv (atZ h ((k:Int) - 1)))+1) % u.length=if u.idxOf (inv (atZ h ((k:Int) - 1)))+1=u.length then 0 else u.idxOf (inv (atZ h ((k:Int) - 1)))+1:=by
  split
  ·rename_i z
   rw [z,CH]
  ·exact Ba (by omega)
 rw [q] at a
 split at a <;> omega
theorem c5 {u:List L}{a b d:L}(ha:a∈u)(hb:b∈u)(hd:d∈u)(h:u.idxOf b=(u.idxOf a+1) % u.length)(ad:a≠d)(bd:b≠d):rfI u a b < rfI u a d∧rfI u b d < rfI u b a:=by
 have a1:=aF ha
 have a2:=aF hb
 have a3:=aF hd
 have n2:u.idxOf a≠u.idxOf d:=fun e=>ad (aJ ha hd e)
 have n3:u.idxOf b≠u.idxOf d:=fun e=>bd (aJ hb hd e)
 have q:(u.idxOf a+1) % u.length=if u.idxOf a+1=u.length then 0 else u.idxOf a+1:=by
  split
  ·rename_i z
   rw [z,CH]
  ·exact Ba (by omega)
 rw [q] at h
 rw [aG ha hb,aG ha hd,aG hb hd,aG hb ha]
 generalize u.idxOf a=x at *
 generalize u.idxOf b=y at *
 generalize u.idxOf d=z at *
 generalize u.length=n at *
 grind
theorem oj {k:Nat}{u h v:List L}(U:SK u k)(hh:h∈hol u)(B:Wo k v):NN u h v=0:=by
 have R:=oi U.srf hh
 have hi:InM k h:=fun x hx=>(U.mem x).mp (bO U.srf _ h hh x hx)
 have lw:=Av.mpr R.ne
 have nx:=kc U.srf hh
 have iv:=U.srf.iv
 have z:∀ {l:List P2} {g:P2→Bool},(∀ s,g s=false)→l.countP g=0:=fun hg=>List.countP_eq_zero.mpr fun x _=>by rw [hg];decide
 have hf:∀ s,hF u h v s=false:=fun s=>by
  unfold hF cx
  have F:=cD U R hi (.inl rfl) s.1
  have G:=cD U B.r B.i (.inl rfl) s.2
  by_cases nd:[inv (sgZ h s.1 1 0),sgZ h s.1 1 1,inv (sgZ v s.2 1 0),sgZ v s.2 1 1].Nodup
  ·rw [zQ nd,AK]
   simp only [Ar,Ae,Ax,BN,not_or] at nd
   obtain ⟨⟨m1,m2,m3⟩,⟨m4,m5⟩,m6,_⟩:=nd
   have ad:u.idxOf (sgZ h s.1 1 1)=(u.idxOf (inv (sgZ h s.1 1 0))+1) % u.length:=by
    rw [sg1,sg1,BK]
    exact (nx s.1).1
   have q1:=(c5 (F.i 0) (F.m 1) (G.i 0) ad m2 m4).1
   have q2:=(c5 (F.i 0) (F.m 1) (G.m 1) ad m3 m5).1
   rw [zH (by omega),zH (by omega)]
   rfl
  ·rw [zH nd,AH]
 have hp:∀ wy:Int,(wy=1 ∨ wy = -1)→∀ s,hP u h v wy s=false:=fun wy hy s=>by
  unfold hP
  have F:=cD U R hi (.inl rfl) s.1
  have G:=cD U B.r B.i hy s.2
  have al:∀ j:Nat,j < nW h v wy s→sgZ h s.1 1 j=sgZ v s.2 wy j:=fun j hj=>fk (N:=h.length+v.length) j hj
  generalize nW h v wy s=n at al
  unfold ptB
  by_cases hn:0 < n
  ·have e0:sgZ h s.1 1 0=sgZ v s.2 wy 0:=al 0 hn
   have e1:sgZ h s.1 1 ((n:Int) - 1)=sgZ v s.2 wy ((n:Int) - 1):=by
    have:=al (n - 1) (by omega)
    rwa [show ((n - 1:Nat):Int)=(n:Int) - 1 by omega] at this
   by_cases c1:sgZ h s.1 1 (-1)=sgZ v s.2 wy (-1)
   ·rw [zH (p:=sgZ h s.1 1 (-1)≠sgZ v s.2 wy (-1)) (fun z=>z c1),AH,BS]
   by_cases c2:sgZ h s.1 1 n=sgZ v s.2 wy n
   ·rw [zH (p:=sgZ h s.1 1 n≠sgZ v s.2 wy n) (fun z=>z c2),AH,BS,BS]
   have d1:u.idxOf (sgZ h s.1 1 n)=(u.idxOf (inv (sgZ h s.1 1 ((n:Int) - 1)))+1) % u.length:=by
    have:=(nx (s.1+((n:Int) - 1))).1
    rw [sg1,sg1]
    rwa [show s.1+((n:Int) - 1)+1=s.1+n by omega] at this
   have d0:u.idxOf (sgZ h s.1 1 0)=(u.idxOf (inv (sgZ h s.1 1 (-1)))+1) % u.length:=by
    have:=(nx (s.1 + -1)).1
    rw [sg1,sg1]
    rwa [show s.1 + -1+1=s.1+0 by omega] at this
   have q1:=(c5 (F.i ((n:Int) - 1)) (F.m n) (G.m n) d1 (by rw [e1];exact (G.st' n).symm) c2).1
   have q0:=(c5 (F.i (-1)) (F.m 0) (G.i (-1)) d0 (cT c1) (by rw [e0];exact G.s0)).2
   rw [zQ q1,zH (p:=rfI u (sgZ h s.1 1 0) (inv (sgZ h s.1 1 (-1))) < rfI u (sgZ h s.1 1 0) (inv (sgZ v s.2 wy (-1)))) (by omega)]
   simp
  ·rw [zH hn,AH]
 unfold NN
 rw [z hf,z (hp 1 (.inl rfl)),z (hp (-1) (.inr rfl))]
end Kx
namespace PySem
end PySem
namespace L2
open PySem PySem.Spec PyProof.Rows Wd
section
variable {X:Cx}
end
end L2
namespace HT
open PySem PySem.Spec PyProof.Rows
section
variable {prog:Program} {w:World} {A:Around} {E:Value→Shared→Prop} {s:Shared}
end
end HT
namespace L2
open PySem PySem.Spec PyProof.Rows Wd
section
variable {X:Cx}
end
end L2
namespace L2
open PySem PySem.Spec PyProof.Rows
theorem Fnc.imp {P:Program}{w:World}{K:PySem.W.Frag}{mg:Str→Option Value}{base:Heap}{x:Str}{ps:List Str}{k:Nat}{sp sp':Sp}(F:Fnc P w K mg base x ps k sp)(h:∀ vs H Q E,sp' vs H Q E→sp vs H Q E):Fnc P w K mg base x ps k sp':=by
 obtain ⟨f,fd,a,b,c,d⟩:=F.ex
 exact ⟨f,fd,a,b,c,d.imp h⟩
end L2
namespace Kx
open PySem PySem.Spec PyProof.Rows L2 Wd Tv
def dif (u:List L)(x:L):Int:=((u.count x:Nat):Int) - ((u.count (inv x):Nat):Int)
@[irreducible] def sml (m:Int):List L:=([0,1,2,3,4,5]:List L).take m.toNat
theorem iJ {m:Int}(h:1≤m):Txt.slice ("abcdef":Str) none (some m)=toS (sml m):=by
 rw [← rS,bp,d7 _ (by omega)]
 unfold sml
 rfl
theorem kL {m:Int}:(sml m).length≤6:=by
 unfold sml
 rw [z9]
 exact Nat.min_le_right _ _
def qZ:Sp:=fun vs H Q _=>∃ (m:Int) (u:List L),vs=[.int m,tx u]∧1≤m∧m≤6∧u.length≤60∧∀ (t:Addr) (H':Hp),H' t=some (.tup ((sml m).map fun x=>V.int (dif u x)))→aE H H'→Q (.ref t) H'
theorem qb {α:Type}(g:L→α){ys:List L}{i:Nat}{x:L}(h:ys[i]? = some x):(ys.take i).map g++[g x]=(ys.take (i+1)).map g:=by
 rw [CA,h,AU]
 rfl
theorem jj {k x:Nat}(hk:k≤6)(hx:x < k):(sml (k:Int))[x]? = some (lt6 x):=by
 have q:∀ x:Fin 6,([0,1,2,3,4,5]:List L)[x.val]? = some (lt6 x.val):=by decide
 unfold sml
 rw [AX (by omega)]
 exact q ⟨x,by omega⟩
theorem tF {k:Nat}(hk:k≤6):(sml (k:Int)).length=k:=by
 unfold sml
 rw [z9]
 show min _ 6=k
 omega
def wa:Sp:=fun vs H Q _=>∃ (u:List L) (k:Nat),vs=[tx u]∧SK u k∧Q (tx (sml (k:Int))) H
def yR:Sp:=fun vs H Q _=>∃ (u:List L) (k:Nat) (a:L),vs=[tx u,tx [a]]∧SK u k∧a∈u∧∀ (p:Addr) (H':Hp),H' p=some (.tup [.int (u.idxOf a:Nat),.int (u.idxOf (inv a):Nat)])→aE H H'→Q (.ref p) H'
def ye (a b c d:Nat):Bool:=decide (min a b < c∧c < max a b) != decide (min a b < d∧d < max a b)
def wb:Sp:=fun vs H Q _=>∃ (p q:Addr) (a b c d:Nat),vs=[.ref p,.ref q]∧H p=some (.tup [.int (a:Int),.int (b:Int)])∧H q=some (.tup [.int (c:Int),.int (d:Int)])∧Q (.bl (ye a b c d)) H
def q9:Sp:=fun vs H Q _=>∃ (u:List L) (k:Nat) (x y:L),vs=[tx u,tx [x],tx [y]]∧SK u k∧qI u x y∧∀ H',aE H H'→Q (.int (sd u x y)) H'
def tG:Sp:=fun vs H Q _=>∃ (u w1 w2:List L) (k:Nat),vs=[tx u,tx w1,tx w2]∧SK u k∧w1.length≤60∧w2.length≤60∧∀ H',aE H H'→Q (.int (bal u k w1 w2)) H'
theorem qc (u:List L)(x y:L):-1≤sd u x y∧sd u x y≤1:=by
 unfold sd ic
 split <;> split <;> omega
theorem iK {w:List L}(x:L)(h:w.length≤60):-60≤dfi w x∧dfi w x≤60:=by
 have h1:=List.count_le_length (a:=x) (l:=w)
 have h2:=List.count_le_length (a:=inv x) (l:=w)
 unfold dfi
 omega
inductive gY (vs:List V)(H:Hp)(Q:VK)(EM:XK):Prop
 | mk:∀ (d c:Addr) (m:Nat) (n:Int),(vs=[.ref d,.int (m:Int),.int 3,.int n])→(Tp H d c)→(1≤m)→(m≤6)→(1≤n)→(n≤9)→(∀ (a:Addr) (W:List (List L)) (H':Hp),Tp H' d c→bq d H H'→H' a=some (.tup (W.map tx))→1≤W.length→W.length≤3→(∀ w∈W,GR m 9 w)→Q (.ref a) H')→gY vs H Q EM
inductive gZ (vs:List V)(H:Hp)(Q:VK)(EM:XK):Prop
 | mk:∀ (u:List L) (a:Addr) (n:Nat) (W:List (List L)) (i j:Int),(vs=[tx u,.ref a,.int i,.int j])→SK u n→WyA n W H a→0≤i→i≤j→j < (W.length:Int)→(∀ H',aE H H'→Q (.bl true) H')→gZ vs H Q EM
theorem WyR.wo {n:Nat}{W:List (List L)}(h:WyR n W){i:Int}(h0:0≤i)(h1:i < (W.length:Int)):Wo n (wyZ W i):=by
 obtain ⟨hm,_,R,_,_,I⟩:=h.get h0 h1
 exact ⟨R,I⟩
end Kx
namespace Kx
open PySem PySem.Spec PyProof.Rows L2 Wd
def top (i:Nat):Stmt:=PySem.Challenge.pw_ringwords_k46_whole_balance_and_links.main.body.getD i (.Pass ⟨0,0,0,0⟩)
theorem tH {α:Type}{us:List α}(h:us.length=1):∃ a0,us=[a0]:=by
 cases us with
 | nil=>cases h
 | cons a0 us =>
  cases us with
  | nil=>exact ⟨a0,rfl⟩
  | cons b us=>cases h
theorem ux {α:Type}{us:List α}(h:us.length=2):∃ a0 a1,us=[a0,a1]:=by
 cases us with
 | nil=>cases h
 | cons a0 us =>
  cases us with
  | nil=>cases h
  | cons a1 us =>
   cases us with
   | nil=>exact ⟨a0,a1,rfl⟩
   | cons b us=>cases h
theorem tI {α:Type}{us:List α}(h:us.length=3):∃ a0 a1 a2,us=[a0,a1,a2]:=by
 cases us with
 | nil=>cases h
 | cons a0 us =>
  cases us with
  | nil=>cases h
  | cons a1 us =>
   cases us with
   | nil=>cases h
   | cons a2 us =>
    cases us with
    | nil=>exact ⟨a0,a1,a2,rfl⟩
    | cons b us=>cases h
theorem q_ {α:Type}{us:List α}(h:us.length=4):∃ a0 a1 a2 a3,us=[a0,a1,a2,a3]:=by
 cases us with
 | nil=>cases h
 | cons a0 us =>
  cases us with
  | nil=>cases h
  | cons a1 us =>
   cases us with
   | nil=>cases h
   | cons a2 us =>
    cases us with
    | nil=>cases h
    | cons a3 us =>
     cases us with
     | nil=>exact ⟨a0,a1,a2,a3,rfl⟩
     | cons b us=>cases h
theorem zx {α:Type}{us:List α}(h:us.length=5):∃ a0 a1 a2 a3 a4,us=[a0,a1,a2,a3,a4]:=by
 cases us with
 | nil=>cases h
 | cons a0 us =>
  cases us with
  | nil=>cases h
  | cons a1 us =>
   cases us with
   | nil=>cases h
   | cons a2 us =>
    cases us with
    | nil=>cases h
    | cons a3 us =>
     cases us with
     | nil=>cases h
     | cons a4 us =>
      cases us with
      | nil=>exact ⟨a0,a1,a2,a3,a4,rfl⟩
      | cons b us=>cases h
section
variable {P:Program} {w:World} {K:PySem.W.Frag} {mg:Str→Option Value} {base:Heap} {aB:Addr}
abbrev om:Stmt:=top 30
theorem tJ:aD ["_law_script"] ["_law_script"] (ak om):=⟨rfl,rfl,rfl,by decide +kernel,rfl,by decide +kernel,by decide +kernel⟩
def _root_.D_ {a b c}:=@aj a b c
def _root_.Ea {a b c d}:=@aH a b c d
def _root_.Eb {a b c d}:=@bz a b c d
def _root_.Ec {a b c d e}:=@aa a b c d e
def _root_.Ed {a b c d e f g h i j}:=@aZ a b c d e f g h i j
def _root_.Ee {a b c}:=@bj a b c
theorem wc (D:Df K mg "_law_tape" om)(T:Bt K w mg aB):Fnc P w K mg base "_law_tape" ["_law_script"] 1 (mD K):=by
 have sc:=tJ
 refine D.ok sc (fun _ _ _ _ _ _ us hl=>by obtain ⟨_,rfl⟩:=tH hl;rfl) (fun vs H Q E h=>?_) (fun f EJ A outer s H vs Q E hr h=>?_)
 ·obtain ⟨a,ns,rfl,_⟩:=h
  rfl
 ·obtain ⟨a,ns,rfl,hS,hlen,k⟩:=h
  refine ⟨_,(D_ (Ea (Eb (Ec (@dz _ _ _ _ _ _ _ _ _ hV (by rfl) T.list vd (Ec (Ed fT (pv 0) bw (Ee ai)) ae) (by decide) (by decide) (by rfl) (by rfl)) (Ec ai (Ec ai (Ec ai ae))))))),?_⟩
  refine ⟨_,rfl,_,rfl,a,_,rfl,hS,fun q1 hq1=>?_⟩
  rw [xG hlen]
  have s2:aE H (upd H q1 (.lst (ns.map V.int))):=aE.new hq1
  have l2:(upd H q1 (.lst (ns.map V.int))) q1=some (.lst (ns.map V.int)):=ag
  generalize upd H q1 (.lst (ns.map V.int))=H2 at s2 l2 ⊢
  refine ⟨q1,_,rfl,.inl (SqL.of l2),fun q2 hq2=>?_⟩
  have s3:aE H2 (upd H2 q2 (.lst (ns.map V.int))):=aE.new hq2
  have l3:(upd H2 q2 (.lst (ns.map V.int))) q2=some (.lst (ns.map V.int)):=ag
  generalize upd H2 q2 (.lst (ns.map V.int))=H3 at s3 l3 ⊢
  refine ⟨(by show 4≤sizeLine;decide),fun d hd=>?_⟩
  have n1:=none_of s2 hq2
  have n0:=none_of s2 (none_of s3 hd)
  exact k d q2 _ n0 n1 ⟨0,0,0,ns,ag,(aE.new hd) _ _ l3,au l3 hd,hlen⟩ ((s2.trans s3).trans (aE.new hd))
abbrev oo:Stmt:=top 31
theorem tK:aD ["_law_tape_here","_law_many","_law_spot","_law_cell","_law_mixed","_law_found"] ["_law_tape_here","_law_many"] (ak oo):=⟨rfl,rfl,rfl,by decide +kernel,rfl,by decide +kernel,by decide +kernel⟩
def _root_.Ef {a b c d e}:=@ah a b c d e
def _root_.Eg {a b c d e f g h}:=@aK a b c d e f g h
def _root_.Eh {a b c d e f g}:=@aI a b c d e f g
def _root_.Ei {a b c d e f g h}:=@cF a b c d e f g h
def _root_.Ej {a b c d e f g h}:=@aO a b c d e f g h
def _root_.Ek {a b} (c) {d e f g}:=@av a b c d e f g
def _root_.El {a b c d e f g h i}:=@ay a b c d e f g h i
theorem wd (D:Df K mg "_law_draw" oo)(T:Bt K w mg aB):Fnc P w K mg base "_law_draw" ["_law_tape_here","_law_many"] 1 dW:=by
 have sc:=tK
 refine D.ok sc (fun _ _ _ _ _ _ us hl=>by obtain ⟨_,_,rfl⟩:=ux hl;rfl) (fun vs H Q E h=>?_) (fun f EJ A outer s H vs Q E hr h=>?_)
 ·obtain ⟨d,c,m,rfl,_⟩:=h
  rfl
 ·obtain ⟨d,c,m,rfl,F,m0,m1,k⟩:=h
  have hu:=rM hr
  refine ⟨_,(Ef (@jt _ _ _ _ _ _ (Eg b_ (Eh aW (pv 0) ai (fun _ _=>rfl)) ai) (@js _ _ _ _ _ _ _ (pv 0) ai eB (by intro _ ;rfl)) (by rfl) (by rfl) (by rfl)) (Ef (Ei (Ej du (Eh aW (pv 0) ai (fun _ _=>rfl)) ai (aU _)) (Ef (Ek (2) sc.nd rfl (Or.inl rfl) (Eh aW (pv 0) ai (fun _ _=>rfl))) (Ef (@jt _ _ _ _ _ _ (Eg b_ (pv 2) ai) (@js _ _ _ _ _ _ _ (pv 0) ai eB (by intro _ ;rfl)) (by rfl) (by rfl) (by rfl)) (Ef (Ek (3) sc.nd rfl (Or.inl rfl) ai) (Ef (Ei (Ej rk (El aQ (by rfl) T.len Ai (Ec (Eh aW (pv 0) ai (fun _ _=>rfl)) ae)) ai (aU _)) (D_ (Ek (3) sc.nd rfl (Or.inl rfl) (Eh aW (Eh aW (pv 0) ai (fun _ _=>rfl)) (Eg cK (pv 2) (El aQ (by rfl) T.len Ai (Ec (Eh aW (pv 0) ai (fun _ _=>rfl)) ae))) (fun _ _=>rfl)))) ba) (Ef (Ei (@PW.pt _ _ _ (@uF _ _ _ _ _ _ _ (Ej d_ (pv 3) (Eg uN ai ai) (aU _)) (@qo _ _ _ _ (Ej xk (pv 2) (El aQ (by rfl) T.len Ai (Ec (Eh aW (pv 0) ai (fun _ _=>rfl)) ae)) (aU _))))) (Ef (Ek (4) sc.nd rfl (Or.inl rfl) (Eg cK (Eg dt (Eg b_ (Eg cK (pv 3) ai) (Eg dt ai (Eh aW (pv 0) ai (fun _ _=>rfl)))) ai) ai)) (Ef (Ek (4) sc.nd rfl (Or.inl rfl) (Eg cK (Eg dt (Eg b_ (Eg dj (pv 4) ai) (Eg dt ai (Eh aW (pv 0) ai (fun _ _=>rfl)))) ai) ai)) (D_ (Ea (Eg cK (Eg dj (pv 4) ai) (pv 1)))))) ba) (D_ (@jt _ _ _ _ _ _ (pv 3) (@js _ _ _ _ _ _ _ (pv 0) ai eB (by intro _ ;rfl)) (by rfl) (by rfl) (by rfl)))))))) ba) (Ef (Ek (5) sc.nd rfl (Or.inl rfl) (Eg cK (Eh aW (pv 0) ai (fun _ _=>rfl)) (pv 1))) (Ef (@jt _ _ _ _ _ _ (Eg dj (Eh aW (pv 0) ai (fun _ _=>rfl)) (pv 1)) (@js _ _ _ _ _ _ _ (pv 0) ai eB (by intro _ ;rfl)) (by rfl) (by rfl) (by rfl)) (D_ (Ea (pv 5))))))),?_⟩
  obtain ⟨i,l,t,ns,hd,hc,dc,h63⟩:=F.ex
  have fin:∀ (r i' l' t':Int),0≤r→r < m→Q (.int r) (upd H d (.lst [.ref c,.int i',.int l',.int t'])):=fun r i' l' t' h0 h1 =>
   k r _ h0 h1 ⟨i',l',t',ns,ag,by rw [aM dc];exact hc,dc,h63⟩ bq.upd
  have c1:∀ o,(upd H d o) c=some (.lst (ns.map V.int)):=fun o=>by rw [aM dc];exact hc
  refine ⟨_,rfl,d,_,_,_,rfl,rfl,SqL.of hd,rfl,_,_,rfl,rfl,_,rfl,d,_,_,_,rfl,rfl,hd,rfl,?_⟩
  refine ⟨_,rfl,d,_,_,_,rfl,rfl,SqL.of ag,rfl,rfl,_,rfl,?_⟩
  refine iU (fun _=>?_) (fun _=>?_)
  rotate_left
  ·refine ⟨_,rfl,d,_,_,_,rfl,rfl,SqL.of ag,rfl,_,rfl,_,_,rfl,rfl,m0,?_⟩
   refine ⟨_,rfl,d,_,_,_,rfl,rfl,SqL.of ag,rfl,_,rfl,_,_,rfl,rfl,⟨m0,by omega⟩,_,rfl,d,_,_,_,rfl,rfl,ag,rfl,?_⟩
   refine ⟨_,rfl,?_⟩
   rw [dP]
   exact fin _ _ _ _ (Ad _ (by omega)) (zY _ m0)
  refine ⟨_,rfl,d,_,_,_,rfl,rfl,SqL.of ag,rfl,?_⟩
  refine ⟨_,rfl,_,_,rfl,rfl,_,rfl,d,_,_,_,rfl,rfl,ag,rfl,?_⟩
  rw [dP]
  refine ⟨_,rfl,d,_,_,_,rfl,rfl,SqL.of ag,rfl,c,_,rfl,.inl (SqL.of (c1 _)),_,_,rfl,rfl,_,rfl,?_⟩
  refine iU (fun h0=>?_) (fun h0=>?_)
  ·have hne:ns≠[]:=by
    intro e
    subst e
    simp at h0
   have hl0:(0:Int) < ((ns.map V.int).length:Int):=by
    rw [zV]
    have:=Av.mpr hne
    omega
   obtain ⟨n,hn⟩:=rX hne i
   refine ⟨_,rfl,d,_,_,_,rfl,rfl,SqL.of ag,rfl,_,rfl,_,rfl,d,_,_,_,rfl,rfl,SqL.of ag,rfl,c,_,rfl,.inl (SqL.of (c1 _)),_,_,rfl,rfl,hl0,c,_,_,_,rfl,rfl,SqL.of (c1 _),hn,?_⟩
   refine ⟨_,rfl,_,_,rfl,rfl,⟨by decide,by decide,by decide⟩,_,_,rfl,rfl,_,rfl,?_⟩
   refine iU (fun h1=>?_) (fun h1=>?_)
   ·refine ⟨_,rfl,_,_,rfl,rfl,(by show (0:Int) < 1000003;decide),_,rfl,d,_,_,_,rfl,rfl,SqL.of ag,rfl,_,_,rfl,rfl,.inl ⟨by decide,by decide⟩,_,_,rfl,rfl,_,_,rfl,rfl,.inr ⟨by decide,by decide⟩,_,_,rfl,rfl,(by show (0:Int) < 2147483647;decide),?_⟩
    refine ⟨_,rfl,_,_,rfl,rfl,⟨by decide,by decide⟩,_,rfl,d,_,_,_,rfl,rfl,SqL.of ag,rfl,_,_,rfl,rfl,.inl ⟨by decide,by decide⟩,_,_,rfl,rfl,_,_,rfl,rfl,.inr ⟨by decide,by decide⟩,_,_,rfl,rfl,(by show (0:Int) < 2147483587;decide),?_⟩
    refine ⟨_,rfl,_,_,rfl,rfl,⟨by decide,by decide⟩,_,rfl,_,_,rfl,rfl,m0,?_⟩
    exact fin _ _ _ _ (Ad _ (by omega)) (zY _ m0)
   ·refine ⟨_,rfl,_,rfl,d,_,_,_,rfl,rfl,SqL.of ag,rfl,c,_,rfl,.inl (SqL.of (c1 _)),_,_,rfl,rfl,_,rfl,?_⟩
    refine iU (fun h2=>?_) (fun h2=>?_)
    ·refine ⟨_,rfl,_,_,rfl,rfl,(by show (0:Int) < 1000003;decide),_,rfl,d,_,_,_,rfl,rfl,SqL.of ag,rfl,_,_,rfl,rfl,.inl ⟨by decide,by decide⟩,_,_,rfl,rfl,_,_,rfl,rfl,.inr ⟨by decide,by decide⟩,_,_,rfl,rfl,(by show (0:Int) < 2147483647;decide),?_⟩
     refine ⟨_,rfl,_,_,rfl,rfl,⟨by decide,by decide⟩,_,rfl,d,_,_,_,rfl,rfl,SqL.of ag,rfl,_,_,rfl,rfl,.inl ⟨by decide,by decide⟩,_,_,rfl,rfl,_,_,rfl,rfl,.inr ⟨by decide,by decide⟩,_,_,rfl,rfl,(by show (0:Int) < 2147483587;decide),?_⟩
     refine ⟨_,rfl,_,_,rfl,rfl,⟨by decide,by decide⟩,_,rfl,_,_,rfl,rfl,m0,?_⟩
     exact fin _ _ _ _ (Ad _ (by omega)) (zY _ m0)
    ·refine ⟨_,rfl,_,rfl,d,_,_,_,rfl,rfl,ag,rfl,?_⟩
     rw [dP]
     refine ⟨_,rfl,d,_,_,_,rfl,rfl,SqL.of ag,rfl,_,rfl,_,_,rfl,rfl,m0,?_⟩
     refine ⟨_,rfl,d,_,_,_,rfl,rfl,SqL.of ag,rfl,_,rfl,_,_,rfl,rfl,⟨m0,by omega⟩,_,rfl,d,_,_,_,rfl,rfl,ag,rfl,?_⟩
     refine ⟨_,rfl,?_⟩
     rw [dP]
     exact fin _ _ _ _ (Ad _ (by omega)) (zY _ m0)
  ·refine ⟨_,rfl,_,_,rfl,rfl,⟨by decide,by decide,by decide⟩,_,_,rfl,rfl,_,rfl,?_⟩
   refine iU (fun h1=>?_) (fun h1=>?_)
   ·refine ⟨_,rfl,_,_,rfl,rfl,(by show (0:Int) < 1000003;decide),_,rfl,d,_,_,_,rfl,rfl,SqL.of ag,rfl,_,_,rfl,rfl,.inl ⟨by decide,by decide⟩,_,_,rfl,rfl,_,_,rfl,rfl,.inr ⟨by decide,by decide⟩,_,_,rfl,rfl,(by show (0:Int) < 2147483647;decide),?_⟩
    refine ⟨_,rfl,_,_,rfl,rfl,⟨by decide,by decide⟩,_,rfl,d,_,_,_,rfl,rfl,SqL.of ag,rfl,_,_,rfl,rfl,.inl ⟨by decide,by decide⟩,_,_,rfl,rfl,_,_,rfl,rfl,.inr ⟨by decide,by decide⟩,_,_,rfl,rfl,(by show (0:Int) < 2147483587;decide),?_⟩
    refine ⟨_,rfl,_,_,rfl,rfl,⟨by decide,by decide⟩,_,rfl,_,_,rfl,rfl,m0,?_⟩
    exact fin _ _ _ _ (Ad _ (by omega)) (zY _ m0)
   ·refine ⟨_,rfl,_,rfl,d,_,_,_,rfl,rfl,SqL.of ag,rfl,c,_,rfl,.inl (SqL.of (c1 _)),_,_,rfl,rfl,_,rfl,?_⟩
    refine iU (fun h2=>?_) (fun h2=>?_)
    ·refine ⟨_,rfl,_,_,rfl,rfl,(by show (0:Int) < 1000003;decide),_,rfl,d,_,_,_,rfl,rfl,SqL.of ag,rfl,_,_,rfl,rfl,.inl ⟨by decide,by decide⟩,_,_,rfl,rfl,_,_,rfl,rfl,.inr ⟨by decide,by decide⟩,_,_,rfl,rfl,(by show (0:Int) < 2147483647;decide),?_⟩
     refine ⟨_,rfl,_,_,rfl,rfl,⟨by decide,by decide⟩,_,rfl,d,_,_,_,rfl,rfl,SqL.of ag,rfl,_,_,rfl,rfl,.inl ⟨by decide,by decide⟩,_,_,rfl,rfl,_,_,rfl,rfl,.inr ⟨by decide,by decide⟩,_,_,rfl,rfl,(by show (0:Int) < 2147483587;decide),?_⟩
     refine ⟨_,rfl,_,_,rfl,rfl,⟨by decide,by decide⟩,_,rfl,_,_,rfl,rfl,m0,?_⟩
     exact fin _ _ _ _ (Ad _ (by omega)) (zY _ m0)
    ·refine ⟨_,rfl,_,rfl,d,_,_,_,rfl,rfl,ag,rfl,?_⟩
     rw [dP]
     refine ⟨_,rfl,d,_,_,_,rfl,rfl,SqL.of ag,rfl,_,rfl,_,_,rfl,rfl,m0,?_⟩
     refine ⟨_,rfl,d,_,_,_,rfl,rfl,SqL.of ag,rfl,_,rfl,_,_,rfl,rfl,⟨m0,by omega⟩,_,rfl,d,_,_,_,rfl,rfl,ag,rfl,?_⟩
     refine ⟨_,rfl,?_⟩
     rw [dP]
     exact fin _ _ _ _ (Ad _ (by omega)) (zY _ m0)
abbrev oq:Stmt:=top 3
theorem tL:aD ["word"] ["word"] (ak oq):=⟨rfl,rfl,rfl,by decide +kernel,rfl,by decide +kernel,by decide +kernel⟩
def _root_.Em {a b c d e f g h i j k l}:=@cH a b c d e f g h i j k l
def _root_.En {a b} (c) {d}:=@aV a b c d
theorem we (D:Df K mg "back" oq)(T:Bt K w mg aB):Fnc P w K mg base "back" ["word"] 1 kN:=by
 have sc:=tL
 refine D.ok sc (fun _ _ _ _ _ _ us hl=>by obtain ⟨_,rfl⟩:=tH hl;rfl) (fun vs H Q E h=>?_) (fun f EJ A outer s H vs Q E hr h=>?_)
 ·obtain ⟨u,rfl,_⟩:=h
  rfl
 ·obtain ⟨u,rfl,hu,k⟩:=h
  have EW:=aX
  refine ⟨_,(D_ (Ea (Em Ao BF BG eU bT (Ec (@gf _ _ _ _ _ _ _ (["letter"]) (["letter"]) ([]) _ _ _ _ (@ib _ _ _ _ _ _ rfl (by kernel_rfl)) rfl (@rP _ _ _ _ _ _ rfl T.reversed kr (Ec (pv 0) ae) (by rfl)) (fun _ _ _ _=>En (0) (show (["letter"]:List Str).Nodup from by decide +kernel) rfl (Or.inl rfl)) (fun _ _ _ _=>dD) (fun _ _ _ _=>by (exact (@rQ _ _ _ _ _ _ _ _ _ T.dB rfl rfl rfl T.mgB (pv 0) (fun _ _=>rfl) (by decide)))) (by intro _ ;rfl)) ae)))),?_⟩
  refine ⟨rfl,_,rfl,_,rfl,(by rw [af];omega),?_⟩
  refine eS (own:=["letter"]) (cap:=[]) (J:=xy (toS u)) u.length (fun i ys σ H'=>H'=H∧ys=bD ((bk u).take i)∧∃ v,σ = [v]) ⟨rfl,rfl,none,rfl⟩ (fun i ys σ H' hi ⟨_,e,_⟩=>?_) (by omega) (fun i ys σ H' hi _=>?_) (fun ys σ H' _=>?_) ?_ ?_
  ·rw [e,a8,z9];omega
  ·show i < (toS u).cps.size;rw [bx];exact hi
  ·show _=(toS u).cps.size;rw [bx]
  ·rintro i ys σ H1 x H2 N hi ⟨rfl,rfl,v,rfl⟩ ⟨rfl,c,hc,rfl⟩ hN
   rw [bx] at hc
   obtain ⟨y,hy,e⟩:=dS hc
   obtain ⟨t,ht⟩:=T.gB y
   refine ⟨_,rfl,toS [y],toS [inv y],t,by rw [e],ht,hN _ _ _ ⟨rfl,?_,_,rfl⟩⟩
   rw [cO (ma u hi hy),← cb]
   rfl
  ·rintro ys σ H1 l ⟨rfl,rfl,v,rfl⟩ hl
   rw [AB (by rw [bf];exact zU _)]
   refine ⟨_,l,(bk u).map fun x=>toS [x],rfl,rfl,SqL.of (by rw [ag,cY]),cg _ (by rw [bf];omega),?_⟩
   rw [cf]
   exact k _ (aE.new hl)
abbrev jk:Stmt:=top 32
theorem qd:aD ["_law_word"] ["_law_word"] (ak jk):=⟨rfl,rfl,rfl,by decide +kernel,rfl,by decide +kernel,by decide +kernel⟩
def _root_.Eo {a b c d e f}:=@ft a b c d e f
def _root_.Ep {a b c d e f g h}:=@cV a b c d e f g h
theorem tM (D:Df K mg "_law_back" jk):Fnc P w K mg base "_law_back" ["_law_word"] 1 kN:=by
 have sc:=qd
 refine D.ok sc (fun _ _ _ _ _ _ us hl=>by obtain ⟨_,rfl⟩:=tH hl;rfl) (fun vs H Q E h=>?_) (fun f EJ A outer s H vs Q E hr h=>?_)
 ·obtain ⟨u,rfl,_⟩:=h
  rfl
 ·obtain ⟨u,rfl,hu,k⟩:=h
  have EW:=aX
  refine ⟨_,(D_ (Ea (Em Ao BF BG eU bT (Ec (@gf _ _ _ _ _ _ _ (["_law_sign"]) (["_law_sign"]) ([]) _ _ _ _ (@ib _ _ _ _ _ _ rfl (by kernel_rfl)) rfl (@jC _ _ _ _ (@r6 _ _ _ _ _ _ _ (pv 0) (Eo c7 ai))) (fun _ _ _ _=>En (0) (show (["_law_sign"]:List Str).Nodup from by decide +kernel) rfl (Or.inl rfl)) (fun _ _ _ _=>dD) (fun _ _ _ _=>by (exact (Ep (Ej lh (pv 0) bT rfl) (@me _ _ _ _ _ _ _ _ _ (K) rfl Ao PySem.F.slot_str_lower PySem.F.type_str_lower o8 (pv 0) (by rfl) (by rfl)) (@me _ _ _ _ _ _ _ _ _ (K) rfl Ao PySem.F.slot_str_upper PySem.F.type_str_upper o7 (pv 0) (by rfl) (by rfl))))) (by intro _ ;rfl)) ae)))),?_⟩
  refine ⟨rfl,_,rfl,_,rfl,toS u,rfl,rfl,(by rw [af];omega),?_⟩
  rw [pk]
  refine ⟨_,rfl,?_⟩
  refine eS (own:=["_law_sign"]) (cap:=[]) (J:=Its (toS u.reverse)) u.length (fun i ys σ H'=>H'=H∧ys=bD ((bk u).take i)∧∃ v,σ = [v]) ⟨rfl,rfl,none,rfl⟩ (fun i ys σ H' hi ⟨_,e,_⟩=>?_) (by omega) (fun i ys σ H' hi _=>?_) (fun ys σ H' _=>?_) ?_ ?_
  ·rw [e,a8,z9];omega
  ·show i < (toS u.reverse).cps.size;rw [bx,List.length_reverse];exact hi
  ·show _=(toS u.reverse).cps.size;rw [bx,List.length_reverse]
  ·rintro i ys σ H1 x H2 N hi ⟨rfl,rfl,v,rfl⟩ ⟨rfl,c,hc,rfl⟩ hN
   obtain ⟨y,hy,e⟩:=dS hc
   have hb:(bk u)[i]? = some (inv y):=ma u hi (by rw [CG hi] at hy;exact hy)
   refine ⟨_,rfl,_,_,rfl,rfl,_,rfl,?_⟩
   rw [e,vi]
   refine iU (fun h=>?_) (fun h=>?_)
   ·have h:¬ y.val < 6:=by simpa using h
    exact ⟨_,rfl,rfl,_,rfl,rfl,(by rw [af];show 1≤5592405;decide),hN _ _ _ ⟨rfl,by rw [lY h,cO hb,← cb];rfl,_,rfl⟩⟩
   ·have h:y.val < 6:=by simpa using h
    exact ⟨_,rfl,rfl,_,rfl,rfl,(by rw [af];show 1≤5592405;decide),hN _ _ _ ⟨rfl,by rw [lX h,cO hb,← cb];rfl,_,rfl⟩⟩
  ·rintro ys σ H1 l ⟨rfl,rfl,v,rfl⟩ hl
   rw [AB (by rw [bf];exact zU _)]
   refine ⟨_,l,(bk u).map fun x=>toS [x],rfl,rfl,SqL.of (by rw [ag,cY]),cg _ (by rw [bf];omega),?_⟩
   rw [cf]
   exact k _ (aE.new hl)
abbrev ou:Stmt:=top 18
theorem tN:aD ["ways","walk","step","way","letter"] ["ways","walk","step"] (ak ou):=⟨rfl,rfl,rfl,by decide +kernel,rfl,by decide +kernel,by decide +kernel⟩
def _root_.Er {a b c d e f g h i j k}:=@aA a b c d e f g h i j k
theorem wg (D:Df K mg "met" ou)(T:Bt K w mg aB)(EE:Fnc P w K mg base "back" ["word"] 1 kN):Fnc P w K mg base "met" ["ways","walk","step"] 2 iC:=by
 have sc:=tN
 refine D.ok sc (fun _ _ _ _ _ _ us hl=>by obtain ⟨_,_,_,rfl⟩:=tI hl;rfl) (fun vs H Q E h=>?_) (fun f EJ A outer s H vs Q E hr h=>?_)
 ·obtain ⟨a,x,n,W,s,wy,kk,rfl,_⟩:=h
  rfl
 ·obtain ⟨a,x,n,W,s,wy,kk,rfl,hW,hp,i0,i1,hwy,k⟩:=h
  have EW:=aX
  obtain ⟨_,hat,_,l30,lp,_⟩:=hW.ok.get i0 i1
  have k:∀ H',aE H H'→Q (tx [sgZ (wyZ W s.1) s.2 wy kk]) H':=k
  generalize wyZ W s.1=v at hat l30 lp k
  refine ⟨_,(Ef (Ek (3) sc.nd rfl (Or.inl rfl) (Eh aT (pv 0) (Eh aT (pv 1) ai (fun _ _=>rfl)) (fun _ _=>rfl))) (Ef (Ek (4) sc.nd rfl (Or.inl rfl) (Eh d5 (pv 3) (Eg cK (Eg b_ (Eh aT (pv 1) ai (fun _ _=>rfl)) (Eg dt (Eh aT (pv 1) ai (fun _ _=>rfl)) (pv 2))) (El az (by rfl) T.len Ai (Ec (pv 3) ae))) (fun _ _=>rfl))) (D_ (Ea (Ep (Ej du (Eh aT (pv 1) ai (fun _ _=>rfl)) ai (aU _)) (pv 4) (Er EE hr (by decide) rfl (Ec (pv 4) ae))))))),?_⟩
  refine ⟨_,rfl,_,rfl,x,_,_,_,rfl,rfl,SqT.of hp,rfl,a,_,_,_,rfl,rfl,SqT.of hW.at_,hat,?_⟩
  have cm:wU wy kk:=.inl ⟨by rcases hwy with rfl | rfl <;> decide,by rcases hwy with rfl | rfl <;> decide⟩
  refine ⟨_,rfl,_,rfl,x,_,_,_,rfl,rfl,SqT.of hp,rfl,_,rfl,x,_,_,_,rfl,rfl,SqT.of hp,rfl,_,rfl,_,_,rfl,rfl,cm,_,_,rfl,rfl,_,rfl,_,rfl,(by rw [af];omega),_,_,rfl,rfl,(by rw [af];omega),?_⟩
  rw [af]
  refine ⟨_,_,_,rfl,rfl,(by rw [af];omega),zu (by omega),?_⟩
  refine ⟨_,rfl,x,_,_,_,rfl,rfl,SqT.of hp,rfl,?_⟩
  refine ⟨rfl,_,rfl,?_⟩
  rcases hwy with rfl | rfl
  ·refine jF rfl ⟨_,rfl,?_⟩
   have:=k _ (aE.refl _)
   unfold sgZ at this
   rw [if_pos rfl] at this
   exact this
  ·refine jG rfl ⟨_,rfl,[atZ v (s.2 + -1*kk)],rfl,(by show 1≤_;decide),fun H' s'=>?_⟩
   have:=k _ s'
   unfold sgZ at this
   rw [if_neg (by decide)] at this
   exact this
abbrev yf:Stmt:=top 8
theorem yg:aD ["surface","start","end"] ["surface","start","end"] (ak yf):=⟨rfl,rfl,rfl,by decide +kernel,rfl,by decide +kernel,by decide +kernel⟩
theorem zy (D:Df K mg "round_from" yf)(T:Bt K w mg aB):Fnc P w K mg base "round_from" ["surface","start","end"] 1 wX:=by
 have sc:=yg
 refine D.ok sc (fun _ _ _ _ _ _ us hl=>by obtain ⟨_,_,_,rfl⟩:=tI hl;rfl) (fun vs H Q E h=>?_) (fun f EJ A outer s H vs Q E hr h=>?_)
 ·obtain ⟨u,k,a,b,rfl,_⟩:=h
  rfl
 ·obtain ⟨u,k,a,b,rfl,U,ha,hb,q⟩:=h
  have EW:=aX
  have hl:=U.len
  have h1:=U.lo
  have h6:=U.hi
  obtain ⟨r1,o1⟩:=fJ ha
  obtain ⟨r2,o2⟩:=fJ hb
  refine ⟨_,(D_ (Ea (Eg cK (Eg fy (Em Ao Bb Bc cZ (pv 0) (Ec (pv 2) ae)) (Em Ao Bb Bc cZ (pv 0) (Ec (pv 1) ae))) (El az (by rfl) T.len Ai (Ec (pv 0) ae))))),?_⟩
  refine ⟨_,rfl,rfl,_,rfl,_,_,_,r2,rfl,rfl,o2,_,rfl,rfl,_,rfl,_,_,_,r1,rfl,rfl,o1,_,_,rfl,rfl,_,rfl,_,rfl,(by rw [af];omega),_,_,rfl,rfl,(by rw [af];omega),?_⟩
  rw [af]
  exact q
abbrev tO:Stmt:=top 28
theorem wj:aD ["surface","start","end","other"] ["surface","start","end","other"] (ak tO):=⟨rfl,rfl,rfl,by decide +kernel,rfl,by decide +kernel,by decide +kernel⟩
def _root_.Es {a b c d e f g h}:=@dk a b c d e f g h
theorem yh (D:Df K mg "is_first" tO)(T:Bt K w mg aB)(F_rf:Fnc P w K mg base "round_from" ["surface","start","end"] 1 wX):Fnc P w K mg base "is_first" ["surface","start","end","other"] 2 sV:=by
 have sc:=wj
 refine D.ok sc (fun _ _ _ _ _ _ us hl=>by obtain ⟨_,_,_,_,rfl⟩:=q_ hl;rfl) (fun vs H Q E h=>?_) (fun f EJ A outer s H vs Q E hr h=>?_)
 ·obtain ⟨u,k,s,a,b,rfl,_⟩:=h
  rfl
 ·obtain ⟨u,kk,s,a,b,rfl,U,hs,ha,hb,k⟩:=h
  refine ⟨_,(D_ (Ea (Es d_ (Er F_rf hr (by decide) rfl (Ec (pv 0) (Ec (pv 1) (Ec (pv 2) ae)))) (Er F_rf hr (by decide) rfl (Ec (pv 0) (Ec (pv 1) (Ec (pv 3) ae)))) (aU _)))),?_⟩
  exact ⟨_,rfl,_,rfl,_,rfl,u,kk,s,a,rfl,U,hs,ha,_,rfl,_,rfl,_,rfl,u,kk,s,b,rfl,U,hs,hb,_,_,rfl,rfl,k _ (aE.refl _)⟩
abbrev yi:Stmt:=top 23
theorem yj:aD ["ways","strand","walk"] ["ways","strand"] (ak yi):=⟨rfl,rfl,rfl,by decide +kernel,rfl,by decide +kernel,by decide +kernel⟩
def _root_.Et {a b c d e}:=@bN a b c d e
theorem zA (D:Df K mg "chord_ends" yi)(T:Bt K w mg aB)(EE:Fnc P w K mg base "back" ["word"] 1 kN)(EI:Fnc P w K mg base "met" ["ways","walk","step"] 2 iC):Fnc P w K mg base "chord_ends" ["ways","strand"] 3 xY:=by
 have sc:=yj
 refine D.ok sc (fun _ _ _ _ _ _ us hl=>by obtain ⟨_,_,rfl⟩:=ux hl;rfl) (fun vs H Q E h=>?_) (fun f EJ A outer s H vs Q E hr h=>?_)
 ·obtain ⟨a,x,n,W,s,rfl,_⟩:=h
  rfl
 ·obtain ⟨a,x,n,W,s,rfl,hW,hx,ok,k⟩:=h
  have EW:=aX
  refine ⟨_,(Ef (Ek (2) sc.nd rfl (Or.inl rfl) (Et (Ec (Eh aT (pv 1) ai (fun _ _=>rfl)) (Ec (Eh aT (pv 1) ai (fun _ _=>rfl)) (Ec ai ae))))) (D_ (Ea (Eg bB (Er EE hr (by decide) rfl (Ec (Er EI hr (by decide) rfl (Ec (pv 0) (Ec (pv 2) (Ec ai ae)))) ae)) (Er EI hr (by decide) rfl (Ec (pv 0) (Ec (pv 2) (Ec ai ae)))))))),?_⟩
  refine ⟨_,rfl,x,_,_,_,rfl,rfl,SqT.of hx,rfl,_,rfl,x,_,_,_,rfl,rfl,SqT.of hx,rfl,(bZ (n:=3) (by decide)),fun p hp=>?_⟩
  have s1:aE H (upd H p (.tup [.int s.1,.int s.2,.int 1])):=aE.new hp
  have f1:(upd H p (.tup [.int s.1,.int s.2,.int 1])) p=some (.tup [.int s.1,.int s.2,.int 1]):=ag
  generalize upd H p (.tup [.int s.1,.int s.2,.int 1])=H1 at s1 f1 ⊢
  refine ⟨_,rfl,_,rfl,a,p,n,W,s,1,0,rfl,hW.same s1,f1,ok.1,ok.2.1,.inl rfl,fun H2 s2=>⟨[fZ W s 1 0],rfl,(by show 1≤_;decide),fun H3 s3=>?_⟩⟩
  have s13:=(s1.trans s2).trans s3
  refine ⟨_,rfl,_,rfl,a,p,n,W,s,1,1,rfl,hW.same s13,s3 _ _ (s2 _ _ f1),ok.1,ok.2.1,.inl rfl,fun H4 s4=>⟨_,_,rfl,rfl,(by rw [af,af,bf];show 1+1≤_;omega),?_⟩⟩
  rw [eV,dg]
  exact k _ (s13.trans s4)
abbrev tP:Stmt:=top 26
theorem wm:aD ["ways","one","other","many"] ["ways","one","other"] (ak tP):=⟨rfl,rfl,rfl,by decide +kernel,rfl,by decide +kernel,by decide +kernel⟩
theorem yk (D:Df K mg "stretch" tP)(T:Bt K w mg aB)(EI:Fnc P w K mg base "met" ["ways","walk","step"] 2 iC):Fnc P w K mg base "stretch" ["ways","one","other"] 3 j3:=by
 have sc:=wm
 refine D.ok sc (fun _ _ _ _ _ _ us hl=>by obtain ⟨_,_,_,rfl⟩:=tI hl;rfl) (fun vs H Q E h=>?_) (fun f EJ A outer s H vs Q E hr h=>?_)
 ·obtain ⟨a,x,y,n,W,s,t,wy,rfl,_⟩:=h
  rfl
 ·obtain ⟨a,x,y,n,W,s,t,wy,rfl,hW,hx,hy,os,ot,hwy,k⟩:=h
  have EW:=aX
  obtain ⟨_,_,Rw,lw30,lwp,_⟩:=hW.ok.get os.1 os.2.1
  obtain ⟨_,_,Rv,lv30,lvp,_⟩:=hW.ok.get ot.1 ot.2.1
  refine ⟨_,(Ef (Ei (Ej du (Er EI hr (by decide) rfl (Ec (pv 0) (Ec (pv 1) (Ec (Eo c7 ai) ae)))) (Er EI hr (by decide) rfl (Ec (pv 0) (Ec (pv 2) (Ec (Eo c7 ai) ae)))) (aU _)) (D_ (Ea ai)) ba) (Ef (Ek (3) sc.nd rfl (Or.inl rfl) ai) (Ef (@fO _ _ _ _ _ _ AG (Ej du (Er EI hr (by decide) rfl (Ec (pv 0) (Ec (pv 1) (Ec (pv 3) ae)))) (Er EI hr (by decide) rfl (Ec (pv 0) (Ec (pv 2) (Ec (pv 3) ae)))) (aU _)) (D_ (@qt _ _ (3) _ _ _ _ _ _ sc.nd rfl (Or.inl rfl) ai qu (by first | exact .inl rfl | exact .inr rfl | assumption)))) (D_ (Ea (pv 3)))))),?_⟩
  refine ⟨_,rfl,_,rfl,_,rfl,a,x,n,W,s,1,-1,rfl,hW,hx,os.1,os.2.1,.inl rfl,fun H1 s1=>?_⟩
  refine ⟨_,rfl,_,rfl,_,rfl,a,y,n,W,t,wy,-1,rfl,hW.same s1,s1 _ _ hy,ot.1,ot.2.1,hwy,fun H2 s2=>⟨rfl,_,rfl,?_⟩⟩
  have s12:=s1.trans s2
  rw [qE]
  by_cases e:fZ W s 1 (-1)=fZ W t wy (-1)
  ·rw [zQ (by rw [e])]
   refine uv ?_
   have:=k _ s12
   rw [if_pos e] at this
   exact this
  ·rw [zH (fun z=>e (Bo z).1)]
   refine p5 ?_
   rw [if_neg e] at k
   obtain ⟨hend,hne⟩:=qR Rw.ne Rv.ne hwy e
   obtain ⟨_,_,hal,_⟩:=cS (fZ W s 1) (fZ W t wy) ((wyZ W s.1).length+(wyZ W t.1).length) 0
   have hne:fZ W s 1 (nZ W s t wy)≠fZ W t wy (nZ W s t wy):=hne
   have hal:∀ j:Nat,0≤j→j < nZ W s t wy→fZ W s 1 j=fZ W t wy j:=hal
   refine ⟨fun m σ H'=>∃ i:Nat,σ = [some (.ref a),some (.ref x),some (.ref y),some (.int (i:Int))]∧i≤nZ W s t wy∧m=nZ W s t wy - i∧aE H H',⟨_,0,rfl,Ay _,rfl,s12⟩,?_⟩
   rintro m σ H3 ⟨i,rfl,hi,rfl,s3⟩
   refine ⟨_,rfl,_,rfl,_,rfl,a,x,n,W,s,1,(i:Int),rfl,hW.same s3,s3 _ _ hx,os.1,os.2.1,.inl rfl,fun H4 s4=>?_⟩
   refine ⟨_,rfl,_,rfl,_,rfl,a,y,n,W,t,wy,(i:Int),rfl,hW.same (s3.trans s4),(s3.trans s4) _ _ hy,ot.1,ot.2.1,hwy,fun H5 s5=>⟨rfl,_,rfl,?_⟩⟩
   have s35:=(s3.trans s4).trans s5
   rw [qE]
   by_cases c:i < nZ W s t wy
   ·refine iU (fun _=>?_) (fun z=>?_)
    ·refine ⟨_,fun σ' H' q=>q,?_⟩
     refine ⟨_,rfl,_,_,rfl,rfl,?_⟩
     exact ⟨_,Nat.sub_lt_sub_left c (BB i),i+1,(by rw [show (((i+1:Nat):Int))=(i:Int)+1 by omega];rfl),c,rfl,s35⟩
    ·rw [hal i (Ay _) c] at z
     simp at z
   ·obtain rfl:i=nZ W s t wy:=by omega
    refine iU (fun z=>?_) (fun _=>?_)
    ·exact absurd (by simpa using z) hne
    ·exact ⟨_,rfl,k _ s35⟩
abbrev ow:Stmt:=top 27
theorem tQ:aD ["surface","ways","one","other","many","end","ahead","begin"] ["surface","ways","one","other","many"] (ak ow):=⟨rfl,rfl,rfl,by decide +kernel,rfl,by decide +kernel,by decide +kernel⟩
theorem wq (D:Df K mg "is_parted" ow)(T:Bt K w mg aB)(EE:Fnc P w K mg base "back" ["word"] 1 kN)(EI:Fnc P w K mg base "met" ["ways","walk","step"] 2 iC)(F_fst:Fnc P w K mg base "is_first" ["surface","start","end","other"] 2 sV):Fnc P w K mg base "is_parted" ["surface","ways","one","other","many"] 3 j4:=by
 have sc:=tQ
 refine D.ok sc (fun _ _ _ _ _ _ us hl=>by obtain ⟨_,_,_,_,_,rfl⟩:=zx hl;rfl) (fun vs H Q E h=>?_) (fun f EJ A outer s H vs Q E hr h=>?_)
 ·obtain ⟨u,a,x,y,n,m,W,s,t,wy,rfl,_⟩:=h
  rfl
 ·obtain ⟨u,a,x,y,n,m,W,s,t,wy,rfl,U,hW,hx,hy,os,ot,hwy,k⟩:=h
  have one:1≤100000:=by decide
  refine ⟨_,(Ef (Ei (Ej du (pv 4) ai (aU _)) (D_ (Ea kg)) ba) (Ef (Ek (5) sc.nd rfl (Or.inl rfl) (Er EE hr (by decide) rfl (Ec (Er EI hr (by decide) rfl (Ec (pv 1) (Ec (pv 2) (Ec (Eg fy (pv 4) ai) ae)))) ae))) (Ef (Ek (6) sc.nd rfl (Or.inl rfl) (Er F_fst hr (by decide) rfl (Ec (pv 0) (Ec (pv 5) (Ec (Er EI hr (by decide) rfl (Ec (pv 1) (Ec (pv 2) (Ec (pv 4) ae)))) (Ec (Er EI hr (by decide) rfl (Ec (pv 1) (Ec (pv 3) (Ec (pv 4) ae)))) ae)))))) (Ef (Ek (7) sc.nd rfl (Or.inl rfl) (Er EI hr (by decide) rfl (Ec (pv 1) (Ec (pv 2) (Ec ai ae))))) (D_ (Ea (Es du (pv 6) (Er F_fst hr (by decide) rfl (Ec (pv 0) (Ec (pv 7) (Ec (Er EE hr (by decide) rfl (Ec (Er EI hr (by decide) rfl (Ec (pv 1) (Ec (pv 2) (Ec (Eo c7 ai) ae)))) ae)) (Ec (Er EE hr (by decide) rfl (Ec (Er EI hr (by decide) rfl (Ec (pv 1) (Ec (pv 3) (Ec (Eo c7 ai) ae)))) ae)) ae))))) (aU _)))))))),?_⟩
  refine ⟨_,rfl,rfl,_,rfl,?_⟩
  by_cases e:m=0
  ·subst e
   exact uv (k _ (aE.refl _))
  ·have ez:decide (V.int (m:Int)=V.int 0)=false:=zH (fun z=>e (by injection z with z;omega))
   rw [ez]
   refine p5 ?_
   have ws:=fun {H'} (q:aE H H')=>hW.same q
   refine ⟨_,rfl,_,rfl,_,rfl,_,_,rfl,rfl,a,x,n,W,s,1,_,rfl,hW,hx,os.1,os.2.1,.inl rfl,fun H1 s1=>?_⟩
   refine ⟨[fZ W s 1 ((m:Int) - 1)],rfl,(by show 1≤_;decide),fun H2 s2=>?_⟩
   rw [dg]
   have q2:=s1.trans s2
   refine ⟨_,rfl,_,rfl,_,rfl,_,rfl,_,rfl,a,x,n,W,s,1,_,rfl,ws q2,q2 _ _ hx,os.1,os.2.1,.inl rfl,fun H3 s3=>?_⟩
   have q3:=q2.trans s3
   refine ⟨_,rfl,_,rfl,_,rfl,a,y,n,W,t,wy,_,rfl,ws q3,q3 _ _ hy,ot.1,ot.2.1,hwy,fun H4 s4=>?_⟩
   have q4:=q3.trans s4
   refine ⟨u,n,_,_,_,rfl,U,(fx U hW.ok os 1 _).2,(fx U hW.ok os 1 _).1,(fx U hW.ok ot wy _).1,fun H5 s5=>?_⟩
   have q5:=q4.trans s5
   refine ⟨_,rfl,_,rfl,a,x,n,W,s,1,_,rfl,ws q5,q5 _ _ hx,os.1,os.2.1,.inl rfl,fun H6 s6=>?_⟩
   have q6:=q5.trans s6
   refine ⟨_,rfl,_,rfl,_,rfl,_,rfl,_,rfl,_,rfl,a,x,n,W,s,1,_,rfl,ws q6,q6 _ _ hx,os.1,os.2.1,.inl rfl,fun H7 s7=>?_⟩
   refine ⟨[fZ W s 1 (-1)],rfl,(by show 1≤_;decide),fun H8 s8=>?_⟩
   rw [dg]
   have q8:=(q6.trans s7).trans s8
   refine ⟨_,rfl,_,rfl,_,rfl,a,y,n,W,t,wy,_,rfl,ws q8,q8 _ _ hy,ot.1,ot.2.1,hwy,fun H9 s9=>?_⟩
   refine ⟨[fZ W t wy (-1)],rfl,(by show 1≤_;decide),fun H10 s10=>?_⟩
   rw [dg]
   have q10:=(q8.trans s9).trans s10
   refine ⟨u,n,_,_,_,rfl,U,(fx U hW.ok os 1 _).1,(fx U hW.ok os 1 _).2,(fx U hW.ok ot wy _).2,fun H11 s11=>?_⟩
   have:=k _ (q10.trans s11)
   unfold iD at this
   rw [zQ (show 0 < m by omega),AK] at this
   refine ⟨rfl,?_⟩
   refine cast (Af (fun b=>Q (.bl b) H11) ?_) this
   exact xZ _ _
abbrev tR:Stmt:=top 24
theorem wt:aD ["surface","ways","one","other","mine","theirs","many"] ["surface","ways","one","other"] (ak tR):=⟨rfl,rfl,rfl,by decide +kernel,rfl,by decide +kernel,by decide +kernel⟩
def _root_.Eu {a b c d e}:=@oG a b c d e
theorem ym (D:Df K mg "along_at" tR)(T:Bt K w mg aB)(E7:Fnc P w K mg base "stretch" ["ways","one","other"] 3 j3)(EU:Fnc P w K mg base "is_parted" ["surface","ways","one","other","many"] 3 j4):Fnc P w K mg base "along_at" ["surface","ways","one","other"] 4 (p7 sW):=by
 have sc:=wt
 refine D.ok sc (fun _ _ _ _ _ _ us hl=>by obtain ⟨_,_,_,_,rfl⟩:=q_ hl;rfl) (fun vs H Q E h=>?_) (fun f EJ A outer s H vs Q E hr h=>?_)
 ·obtain ⟨u,a,x,y,n,W,s,t,rfl,_⟩:=h
  rfl
 ·obtain ⟨u,a,x,y,n,W,s,t,rfl,U,hW,hx,hy,os,ot,k⟩:=h
  refine ⟨_,(Ef (Ek (4) sc.nd rfl (Or.inl rfl) (Et (Ec (Eh aT (pv 2) ai (fun _ _=>rfl)) (Ec (Eh aT (pv 2) ai (fun _ _=>rfl)) (Ec ai ae))))) (Ef (Ek (5) sc.nd rfl (Or.inl rfl) (Et (Ec (Eh aT (pv 3) ai (fun _ _=>rfl)) (Ec (Eh aT (pv 3) ai (fun _ _=>rfl)) (Ec ai ae))))) (Ef (Ek (6) sc.nd rfl (Or.inl rfl) (Er E7 hr (by decide) rfl (Ec (pv 1) (Ec (pv 4) (Ec (pv 5) ae))))) (D_ (Ea (Ep (@dy _ _ _ (Er EU hr (by decide) rfl (Eu (pv 0) (Eu (pv 1) (Eu (pv 4) (Eu (pv 5) (Eu (pv 6) ae)))))) (fun _=>rfl)) (Eb (Ec (Et (Ec bT (Ec (pv 2) (Ec (pv 3) (Ec (pv 6) ae))))) ae)) (Eb ae))))))),?_⟩
  refine ⟨_,rfl,x,_,_,_,rfl,rfl,SqT.of hx,rfl,_,rfl,x,_,_,_,rfl,rfl,SqT.of hx,rfl,(by show 3≤_;decide),fun p hp=>?_⟩
  have s1:aE H (upd H p (.tup [.int s.1,.int s.2,.int 1])):=aE.new hp
  have f1:(upd H p (.tup [.int s.1,.int s.2,.int 1])) p=some (.tup [.int s.1,.int s.2,.int 1]):=ag
  generalize upd H p (.tup [.int s.1,.int s.2,.int 1])=H1 at s1 f1 ⊢
  refine ⟨_,rfl,y,_,_,_,rfl,rfl,SqT.of (s1 _ _ hy),rfl,_,rfl,y,_,_,_,rfl,rfl,SqT.of (s1 _ _ hy),rfl,(by show 3≤_;decide),fun q hq=>?_⟩
  have s2:aE H1 (upd H1 q (.tup [.int t.1,.int t.2,.int 1])):=aE.new hq
  have f2:(upd H1 q (.tup [.int t.1,.int t.2,.int 1])) q=some (.tup [.int t.1,.int t.2,.int 1]):=ag
  generalize upd H1 q (.tup [.int t.1,.int t.2,.int 1])=H2 at s2 f2 ⊢
  have q2:=s1.trans s2
  refine ⟨_,rfl,_,rfl,_,rfl,a,p,q,n,W,s,t,1,rfl,hW.same q2,s2 _ _ f1,f2,os,ot,.inl rfl,fun H3 s3=>?_⟩
  have q3:=q2.trans s3
  refine ⟨_,rfl,_,rfl,_,rfl,_,rfl,_,rfl,u,a,p,q,n,_,W,s,t,1,rfl,U,hW.same q3,s3 _ _ (s2 _ _ f1),s3 _ _ f2,os,ot,.inl rfl,fun H4 s4=>⟨_,rfl,?_⟩⟩
  rw [j5 hW.ok os ot (.inl rfl)]
  have q4:=q3.trans s4
  by_cases c:ptB u (fZ W s 1) (fZ W t 1) (nZ W s t 1)=true
  ·have hb:¬ fZ W s 1 (-1)=fZ W t 1 (-1):=fun z=>by rw [dN z] at c;cases c
   rw [c,if_neg hb]
   refine xW ⟨_,rfl,_,rfl,_,rfl,(by show 4≤_;decide),fun r hr'=>⟨(by show 1≤_;decide),fun l hl=>?_⟩⟩
   refine jf (m:=.a s t (nZ W s t 1)) q4 hr' hl ⟨x,y,ag,(q4.trans (aE.new hr')) _ _ hx,(q4.trans (aE.new hr')) _ _ hy⟩ k ?_
   unfold sW
   rw [c]
   rfl
  ·rw [BQ] at c
   rw [c]
   refine xX ⟨(by show 0≤_;decide),fun l hl=>?_⟩
   refine iE q4 hl k ?_
   unfold sW
   rw [c]
   rfl
abbrev tT:Stmt:=top 25
theorem wu:aD ["surface","ways","one","other","mine","theirs","many"] ["surface","ways","one","other"] (ak tT):=⟨rfl,rfl,rfl,by decide +kernel,rfl,by decide +kernel,by decide +kernel⟩
theorem yn (D:Df K mg "against_at" tT)(T:Bt K w mg aB)(E7:Fnc P w K mg base "stretch" ["ways","one","other"] 3 j3)(EU:Fnc P w K mg base "is_parted" ["surface","ways","one","other","many"] 3 j4):Fnc P w K mg base "against_at" ["surface","ways","one","other"] 4 (p7 kP):=by
 have sc:=wu
 refine D.ok sc (fun _ _ _ _ _ _ us hl=>by obtain ⟨_,_,_,_,rfl⟩:=q_ hl;rfl) (fun vs H Q E h=>?_) (fun f EJ A outer s H vs Q E hr h=>?_)
 ·obtain ⟨u,a,x,y,n,W,s,t,rfl,_⟩:=h
  rfl
 ·obtain ⟨u,a,x,y,n,W,s,t,rfl,U,hW,hx,hy,os,ot,k⟩:=h
  have EW:=aX
  obtain ⟨_,hat,_,l30,lp,_⟩:=hW.ok.get ot.1 ot.2.1
  refine ⟨_,(Ef (Ek (4) sc.nd rfl (Or.inl rfl) (Et (Ec (Eh aT (pv 2) ai (fun _ _=>rfl)) (Ec (Eh aT (pv 2) ai (fun _ _=>rfl)) (Ec ai ae))))) (Ef (Ek (5) sc.nd rfl (Or.inl rfl) (Et (Ec (Eh aT (pv 3) ai (fun _ _=>rfl)) (Ec (Eh aT (pv 3) ai (fun _ _=>rfl)) (Ec (Eo c7 ai) ae))))) (Ef (Ek (6) sc.nd rfl (Or.inl rfl) (Er E7 hr (by decide) rfl (Ec (pv 1) (Ec (pv 4) (Ec (pv 5) ae))))) (Ef (Ei (Ej (@vN _ (K) rfl (by exact hr.units)) (pv 2) (Et (Ec (Eh aT (pv 3) ai (fun _ _=>rfl)) (Ec (Eg cK (Eg b_ (Eg fy (Eh aT (pv 3) ai (fun _ _=>rfl)) (pv 6)) ai) (El az (by rfl) T.len Ai (Ec (Eh aT (pv 1) (Eh aT (pv 3) ai (fun _ _=>rfl)) (fun _ _=>rfl)) ae))) ae))) (aU _)) (D_ (Ea (Eb ae))) ba) (D_ (Ea (Ep (@dy _ _ _ (Er EU hr (by decide) rfl (Eu (pv 0) (Eu (pv 1) (Eu (pv 4) (Eu (pv 5) (Eu (pv 6) ae)))))) (fun _=>rfl)) (Eb (Ec (Et (Ec bT (Ec (pv 2) (Ec (pv 3) (Ec (pv 6) ae))))) ae)) (Eb ae)))))))),?_⟩
  refine ⟨_,rfl,x,_,_,_,rfl,rfl,SqT.of hx,rfl,_,rfl,x,_,_,_,rfl,rfl,SqT.of hx,rfl,(by show 3≤_;decide),fun p hp=>?_⟩
  have s1:aE H (upd H p (.tup [.int s.1,.int s.2,.int 1])):=aE.new hp
  have f1:(upd H p (.tup [.int s.1,.int s.2,.int 1])) p=some (.tup [.int s.1,.int s.2,.int 1]):=ag
  generalize upd H p (.tup [.int s.1,.int s.2,.int 1])=H1 at s1 f1 ⊢
  refine ⟨_,rfl,y,_,_,_,rfl,rfl,SqT.of (s1 _ _ hy),rfl,_,rfl,y,_,_,_,rfl,rfl,SqT.of (s1 _ _ hy),rfl,_,rfl,(by show 3≤_;decide),fun q hq=>?_⟩
  have s2:aE H1 (upd H1 q (.tup [.int t.1,.int t.2,.int (-1)])):=aE.new hq
  have f2:(upd H1 q (.tup [.int t.1,.int t.2,.int (-1)])) q=some (.tup [.int t.1,.int t.2,.int (-1)]):=ag
  generalize upd H1 q (.tup [.int t.1,.int t.2,.int (-1)])=H2 at s2 f2 ⊢
  have q2:=s1.trans s2
  refine ⟨_,rfl,_,rfl,_,rfl,a,p,q,n,W,s,t,-1,rfl,hW.same q2,s2 _ _ f1,f2,os,ot,.inr rfl,fun H3 s3=>?_⟩
  have q3:=q2.trans s3
  have hy3:=q3 _ _ hy
  generalize hm:(if fZ W s 1 (-1)=fZ W t (-1) (-1) then 0 else nZ W s t (-1))=m
  refine ⟨_,rfl,_,rfl,y,_,_,_,rfl,rfl,SqT.of hy3,rfl,_,rfl,y,_,_,_,rfl,rfl,SqT.of hy3,rfl,_,rfl,_,_,rfl,rfl,_,_,rfl,rfl,_,rfl,_,rfl,y,_,_,_,rfl,rfl,SqT.of hy3,rfl,?_⟩
  refine ⟨a,_,_,_,rfl,rfl,SqT.of (q3 _ _ hW.at_),hat,_,rfl,(by rw [af];omega),_,_,rfl,rfl,(by rw [af];omega),(by show 2≤_;decide),fun r hr'=>?_⟩
  rw [af]
  have s4:aE H3 (upd H3 r (.tup [.int t.1,.int ((t.2 - (m:Int)+1) % ((wyZ W t.1).length:Int))])):=aE.new hr'
  have f4:(upd H3 r (.tup [.int t.1,.int ((t.2 - (m:Int)+1) % ((wyZ W t.1).length:Int))])) r=some (.tup [.int t.1,.int ((t.2 - (m:Int)+1) % ((wyZ W t.1).length:Int))]):=ag
  generalize upd H3 r (.tup [.int t.1,.int ((t.2 - (m:Int)+1) % ((wyZ W t.1).length:Int))])=H4 at s4 f4 ⊢
  have q4:=q3.trans s4
  refine ⟨x,r,[s.1,s.2],[t.1,(t.2 - (m:Int)+1) % ((wyZ W t.1).length:Int)],rfl,rfl,SqT.of (q4 _ _ hx),SqT.of f4,_,rfl,?_⟩
  have he:kP u W s t=if ltP (kJ W s t m) s then [] else if iD u (fZ W s 1) (fZ W t (-1)) m then [Lk.g s t m] else []:=by
   rw [← hm]
   by_cases e:fZ W s 1 (-1)=fZ W t (-1) (-1)
   ·rw [if_pos e,qS]
    unfold kP
    rw [dN e,BS,if_neg (by decide)]
    split <;> rfl
   ·rw [← p6 hW.ok os ot e,j5 hW.ok os ot (.inr rfl),if_neg e]
  show cJ _ _ _ _ (ltP (kJ W s t m) s) _
  by_cases c:ltP (kJ W s t m) s=true
  ·rw [c]
   rw [c] at he
   exact uv ⟨(by show 0≤_;decide),fun l hl=>iE q4 hl k he⟩
  ·rw [BQ] at c
   rw [c]
   rw [c] at he
   refine p5 ?_
   refine ⟨_,rfl,_,rfl,_,rfl,_,rfl,_,rfl,u,a,p,q,n,_,W,s,t,-1,rfl,U,hW.same q4,s4 _ _ (s3 _ _ (s2 _ _ f1)),s4 _ _ (s3 _ _ f2),os,ot,.inr rfl,fun H5 s5=>⟨_,rfl,?_⟩⟩
   have q5:=q4.trans s5
   by_cases c2:iD u (fZ W s 1) (fZ W t (-1)) m=true
   ·rw [c2]
    rw [c2] at he
    refine xW ⟨_,rfl,_,rfl,_,rfl,(by show 4≤_;decide),fun r hr'=>⟨(by show 1≤_;decide),fun l hl=>?_⟩⟩
    exact jf (m:=.g s t m) q5 hr' hl ⟨x,y,ag,(q5.trans (aE.new hr')) _ _ hx,(q5.trans (aE.new hr')) _ _ hy⟩ k he
   ·rw [BQ] at c2
    rw [c2]
    rw [c2] at he
    exact xX ⟨(by show 0≤_;decide),fun l hl=>iE q5 hl k he⟩
theorem ra {u:List L}{a b c:L}(ha:a∈u)(hb:b∈u)(hc:c∈u)(ab:a≠b)(ac:a≠c)(bc:b≠c):decide (rfI u a c < rfI u a b)=(decide (min (u.idxOf a) (u.idxOf b) < u.idxOf c∧u.idxOf c < max (u.idxOf a) (u.idxOf b)) != decide (u.idxOf b < u.idxOf a)):=by
 have inj:∀ {x y:L},x∈u→y∈u→x≠y→u.idxOf x≠u.idxOf y:=fun hx hy n e=>n (by
  have h1:=Bk (aF hx)
  have h2:=Bk (aF hy)
  rw [← h1,← h2]
  simp only [e])
 have n1:=inj ha hb ab
 have n2:=inj ha hc ac
 have n3:=inj hb hc bc
 have l1:=aF ha
 have l2:=aF hb
 have l3:=aF hc
 rw [aG ha hc,aG ha hb]
 by_cases o:u.idxOf b < u.idxOf a
 ·rw [zQ o,if_neg (show ¬ u.idxOf a≤u.idxOf b by omega),Ap,zT]
  rw [show ∀ x:Bool,(x != true)=!x by decide,Bool.not_eq_true',Dy]
  split <;> omega
 ·rw [zH o,if_pos (show u.idxOf a≤u.idxOf b by omega),Bool.bne_false,Ap,zT,zT]
  split <;> omega
theorem qe {u:List L}{a b c d:L}(ha:a∈u)(hb:b∈u)(hc:c∈u)(hd:d∈u)(h:[a,b,c,d].Nodup):cx u a b c d=(decide (min (u.idxOf a) (u.idxOf b) < u.idxOf c∧u.idxOf c < max (u.idxOf a) (u.idxOf b)) != decide (min (u.idxOf a) (u.idxOf b) < u.idxOf d∧u.idxOf d < max (u.idxOf a) (u.idxOf b))):=by
 unfold cx
 rw [zQ h,AK]
 simp only [Ar,Ae,Ax,BN,CB,A9,D9,not_or] at h
 obtain ⟨⟨e1,e2,e3⟩,⟨e4,e5⟩,e6⟩:=h
 rw [ra ha hb hc e1 e2 e4,ra ha hb hd e1 e3 e5]
 generalize decide (u.idxOf b < u.idxOf a)=z
 exact (show ∀ x y z:Bool,((x != z) != (y != z))=(x != y) by decide) _ _ _
inductive tU (vs:List V)(H:Hp)(Q:VK)(EM:XK):Prop
 | mk:∀ (p q:Addr) (a b c d:Nat),(vs=[.ref p,.ref q])→H p=some (.lst [.int a,.int b])→H q=some (.lst [.int c,.int d])→Q (.bl (decide (min a b < c∧c < max a b) != decide (min a b < d∧d < max a b))) H→tU vs H Q EM
abbrev tV:Stmt:=top 9
theorem wx:aD ["one","other","low","high"] ["one","other"] (ak tV):=⟨rfl,rfl,rfl,by decide +kernel,rfl,by decide +kernel,by decide +kernel⟩
def _root_.Ew {a b c d e f g h i j k l}:=@ei a b c d e f g h i j k l
theorem yo (D:Df K mg "are_met_by_turns" tV)(T:Bt K w mg aB):Fnc P w K mg base "are_met_by_turns" ["one","other"] 1 (fun vs H Q E=>wb vs H Q E ∨ tU vs H Q E):=by
 have sc:=wx
 refine D.ok sc (fun _ _ _ _ _ _ us hl=>by obtain ⟨_,_,rfl⟩:=ux hl;rfl) (fun vs H Q E h=>?_) (fun f EJ A outer s H vs Q E hr h=>?_)
 ·rcases h with h | h
  ·obtain ⟨p,q,a,b,c,d,rfl,_⟩:=h
   rfl
  ·obtain ⟨p,q,a,b,c,d,rfl,_⟩:=h
   rfl
 rcases h with h | h
 ·obtain ⟨p,q,a,b,c,d,rfl,hp,hq,k⟩:=h
  have EW:=aX
  refine ⟨_,(Ef (Ek (2) sc.nd rfl (Or.inl rfl) (El (@iV _ rfl) (by rfl) T.min vf (Ec (pv 0) ae))) (Ef (Ek (3) sc.nd rfl (Or.inl rfl) (El (@iW _ rfl) (by rfl) T.max ve (Ec (pv 0) ae))) (D_ (Ea (Es rj (Ew d_ d_ (pv 2) (Eh aT (pv 1) ai (fun _ _=>rfl)) (pv 3)) (Ew d_ d_ (pv 2) (Eh aT (pv 1) ai (fun _ _=>rfl)) (pv 3)) (aU _)))))),?_⟩
  refine ⟨_,rfl,p,_,_,rfl,SqT.of hp,?_⟩
  refine ⟨_,rfl,p,_,_,rfl,SqT.of hp,?_⟩
  have e1:(if (b:Int) < (a:Int) then (b:Int) else (a:Int))=((min a b:Nat):Int):=by split <;> omega
  have e2:(if (b:Int) > (a:Int) then (b:Int) else (a:Int))=((max a b:Nat):Int):=by split <;> omega
  rw [e1,e2]
  have fin:∀ v1 v2:Bool,v1=decide (min a b < c∧c < max a b)→v2=decide (min a b < d∧d < max a b)→Q (.bl (!decide (V.bl v1=V.bl v2))) H:=fun v1 v2 e1 e2=>by
   subst e1 e2
   have e:∀ x y:Bool,(!decide (V.bl x=V.bl y))=(x != y):=by intro x y;cases x <;> cases y <;> rfl
   rw [e]
   exact k
  refine ⟨_,rfl,_,rfl,q,_,_,_,rfl,rfl,SqT.of hq,rfl,_,_,rfl,rfl,_,rfl,?_⟩
  by_cases h1:min a b < c
  ·refine jF (zQ (by omega)) ⟨_,rfl,_,_,rfl,rfl,?_⟩
   refine ⟨_,rfl,_,rfl,q,_,_,_,rfl,rfl,SqT.of hq,rfl,_,_,rfl,rfl,_,rfl,?_⟩
   by_cases h2:min a b < d
   ·exact jF (zQ (by omega)) ⟨_,rfl,_,_,rfl,rfl,rfl,fin _ _ (by rw [Ap,zT,zT];omega) (by rw [Ap,zT,zT];omega)⟩
   ·exact jG (zH (by omega)) ⟨rfl,fin _ _ (by rw [Ap,zT,zT];omega) (zH (by omega)).symm⟩
  ·refine jG (zH (by omega)) ?_
   refine ⟨_,rfl,_,rfl,q,_,_,_,rfl,rfl,SqT.of hq,rfl,_,_,rfl,rfl,_,rfl,?_⟩
   by_cases h2:min a b < d
   ·exact jF (zQ (by omega)) ⟨_,rfl,_,_,rfl,rfl,rfl,fin _ _ (zH (by omega)).symm (by rw [Ap,zT,zT];omega)⟩
   ·exact jG (zH (by omega)) ⟨rfl,fin _ _ (zH (by omega)).symm (zH (by omega)).symm⟩
 ·obtain ⟨p,q,a,b,c,d,rfl,hp,hq,k⟩:=h
  have EW:=aX
  refine ⟨_,(Ef (Ek (2) sc.nd rfl (Or.inl rfl) (El (@jb _ rfl) (by rfl) T.min vf (Ec (pv 0) ae))) (Ef (Ek (3) sc.nd rfl (Or.inl rfl) (El (@jc _ rfl) (by rfl) T.max ve (Ec (pv 0) ae))) (D_ (Ea (Es rj (Ew d_ d_ (pv 2) (Eh aW (pv 1) ai (fun _ _=>rfl)) (pv 3)) (Ew d_ d_ (pv 2) (Eh aW (pv 1) ai (fun _ _=>rfl)) (pv 3)) (aU _)))))),?_⟩
  refine ⟨_,rfl,p,_,_,rfl,SqL.of hp,?_⟩
  refine ⟨_,rfl,p,_,_,rfl,SqL.of hp,?_⟩
  have e1:(if (b:Int) < (a:Int) then (b:Int) else (a:Int))=((min a b:Nat):Int):=by split <;> omega
  have e2:(if (b:Int) > (a:Int) then (b:Int) else (a:Int))=((max a b:Nat):Int):=by split <;> omega
  rw [e1,e2]
  have fin:∀ v1 v2:Bool,v1=decide (min a b < c∧c < max a b)→v2=decide (min a b < d∧d < max a b)→Q (.bl (!decide (V.bl v1=V.bl v2))) H:=fun v1 v2 e1 e2=>by
   subst e1 e2
   have e:∀ x y:Bool,(!decide (V.bl x=V.bl y))=(x != y):=by intro x y;cases x <;> cases y <;> rfl
   rw [e]
   exact k
  refine ⟨_,rfl,_,rfl,q,_,_,_,rfl,rfl,SqL.of hq,rfl,_,_,rfl,rfl,_,rfl,?_⟩
  by_cases h1:min a b < c
  ·refine jF (zQ (by omega)) ⟨_,rfl,_,_,rfl,rfl,?_⟩
   refine ⟨_,rfl,_,rfl,q,_,_,_,rfl,rfl,SqL.of hq,rfl,_,_,rfl,rfl,_,rfl,?_⟩
   by_cases h2:min a b < d
   ·exact jF (zQ (by omega)) ⟨_,rfl,_,_,rfl,rfl,rfl,fin _ _ (by rw [Ap,zT,zT];omega) (by rw [Ap,zT,zT];omega)⟩
   ·exact jG (zH (by omega)) ⟨rfl,fin _ _ (by rw [Ap,zT,zT];omega) (zH (by omega)).symm⟩
  ·refine jG (zH (by omega)) ?_
   refine ⟨_,rfl,_,rfl,q,_,_,_,rfl,rfl,SqL.of hq,rfl,_,_,rfl,rfl,_,rfl,?_⟩
   by_cases h2:min a b < d
   ·exact jF (zQ (by omega)) ⟨_,rfl,_,_,rfl,rfl,rfl,fin _ _ (zH (by omega)).symm (by rw [Ap,zT,zT];omega)⟩
   ·exact jG (zH (by omega)) ⟨rfl,fin _ _ (zH (by omega)).symm (zH (by omega)).symm⟩
abbrev tW:Stmt:=top 22
theorem wz:aD ["surface","ways","one","other","mine","theirs","places"] ["surface","ways","one","other"] (ak tW):=⟨rfl,rfl,rfl,by decide +kernel,rfl,by decide +kernel,by decide +kernel⟩
theorem yp (D:Df K mg "beside_at" tW)(T:Bt K w mg aB)(Tset:mg "set" = none)(F_ce:Fnc P w K mg base "chord_ends" ["ways","strand"] 3 xY)(E8:Fnc P w K mg base "are_met_by_turns" ["one","other"] 1 tU):Fnc P w K mg base "beside_at" ["surface","ways","one","other"] 4 (p7 vR):=by
 have sc:=wz
 refine D.ok sc (fun _ _ _ _ _ _ us hl=>by obtain ⟨_,_,_,_,rfl⟩:=q_ hl;rfl) (fun vs H Q E h=>?_) (fun f EJ A outer s H vs Q E hr h=>?_)
 ·obtain ⟨u,a,x,y,n,W,s,t,rfl,_⟩:=h
  rfl
 ·obtain ⟨u,a,x,y,n,W,s,t,rfl,U,hW,hx,hy,os,ot,k⟩:=h
  have EW:=aX
  have m1:=(fx U hW.ok os 1 0).2
  have m2:=(fx U hW.ok os 1 1).1
  have m3:=(fx U hW.ok ot 1 0).2
  have m4:=(fx U hW.ok ot 1 1).1
  have k:∀ (l:Addr) (zs:List (Addr × Lk)) (H':Hp),H l=none→aE H H'→H' l=some (.lst ((zs.map (·.1)).map V.ref))→LkA H' zs→zs.map (·.2)=(if cx u (inv (fZ W s 1 0)) (fZ W s 1 1) (inv (fZ W t 1 0)) (fZ W t 1 1) then [.b s t] else [])→Q (.ref l) H':=k
  refine ⟨_,(Ef (Ek (4) sc.nd rfl (Or.inl rfl) (Er F_ce hr (by decide) rfl (Ec (pv 1) (Ec (pv 2) ae)))) (Ef (Ek (5) sc.nd rfl (Or.inl rfl) (Er F_ce hr (by decide) rfl (Ec (pv 1) (Ec (pv 3) ae)))) (Ef (Ei (Ej d_ (El ja (by rfl) T.len Ai (Ec (@dz _ _ _ _ _ _ _ _ _ (@gL _ rfl) (by rfl) Tset xV (Ec (Eg bB (pv 4) (pv 5)) ae) (by decide) (by decide) (by rfl) (by rfl)) ae)) ai (aU _)) (D_ (Ea (Eb ae))) ba) (Ef (@rZ _ (6) _ _ _ _ _ _ _ _ _ (["end","surface"]) (["end"]) ([0]) _ _ _ _ sc.nd rfl (Or.inl rfl) (@ib _ _ _ _ _ _ rfl (by kernel_rfl)) rfl (@jC _ _ _ _ (Eg bB (pv 4) (pv 5))) (fun _ _ _ _=>En (0) (show (["end","surface"]:List Str).Nodup from by decide +kernel) rfl (Or.inl rfl)) (fun _ _ _ _=>dD) (fun _ _ _ _=>by (exact (@mf _ _ _ _ _ _ _ _ _ _ _ _ (K) rfl Ao Bb Bc cZ (pv 1) (Ec (pv 0) ae) (by rfl) (by rfl) (by rfl) (by rfl) (by rfl)))) (by intro _ ;rfl) (by rfl) (by first | exact .inl rfl | exact .inr rfl | assumption)) (D_ (Ea (Ep (@dy _ _ _ (Er E8 hr (by decide) rfl (Ec (Ed fT (pv 6) bw (Ee ai)) (Ec (Ed fT (pv 6) (Ee ai) bw) ae))) (fun _=>rfl)) (Eb (Ec (Et (Ec bT (Ec (pv 2) (Ec (pv 3) ae)))) ae)) (Eb ae)))))))),?_⟩
  refine ⟨_,rfl,_,rfl,a,x,n,W,s,rfl,hW,hx,os,fun H1 s1=>?_⟩
  refine ⟨_,rfl,_,rfl,a,y,n,W,t,rfl,hW.same s1,s1 _ _ hy,ot,fun H2 s2=>?_⟩
  have q2:=s1.trans s2
  generalize inv (fZ W s 1 0)=e1 at m1 k ⊢
  generalize fZ W s 1 1=e2 at m2 k ⊢
  generalize inv (fZ W t 1 0)=e3 at m3 k ⊢
  generalize fZ W t 1 1=e4 at m4 k ⊢
  refine ⟨_,rfl,_,rfl,_,_,rfl,rfl,(by rw [af,af];show 2+2≤_;omega),?_⟩
  rw [eV]
  refine ⟨[e1,e2,e3,e4],rfl,(by show 4≤4000;decide),fun p dl hp nd hm=>?_⟩
  refine ⟨p,dl,rfl,ag,_,_,rfl,rfl,_,rfl,?_⟩
  rw [zw nd hm]
  generalize hG:upd H2 p (StO _ _ p dl)=H3
  have q3:aE H H3:=hG ▸ q2.trans (aE.new hp)
  by_cases c:[e1,e2,e3,e4].Nodup
  ·rw [zQ c]
   refine p5 ?_
   have hall:∀ x∈[e1,e2,e3,e4],x∈u:=fun x hx=>by
    simp only [Ae,Ax,BN] at hx
    rcases hx with rfl | rfl | rfl | rfl <;> assumption
   have k4:=qe m1 m2 m3 m4 c
   refine ⟨_,rfl,_,rfl,_,_,rfl,rfl,(by rw [af,af];show 2+2≤_;omega),?_⟩
   rw [eV]
   refine ⟨_,rfl,?_⟩
   refine eS (own:=["end"]) (cap:=[0]) (J:=Its (toS [e1,e2,e3,e4])) 4 (fun i ys σ H'=>∃ v:Option V,σ = [v,some (tx u)]∧ys=(([e1,e2,e3,e4].take i).map fun x=>V.int (u.idxOf x:Nat))∧H'=H3) ⟨none,rfl,rfl,rfl⟩ (fun i ys σ H' hi ⟨v,_,e,_⟩=>?_) (by omega) (fun i ys σ H' hi _=>?_) (fun ys σ H' _=>?_) ?_ ?_
   ·rw [e,zV,z9];omega
   ·show i < (toS _).cps.size;rw [bx];exact hi
   ·show _=(toS _).cps.size;rw [bx];rfl
   ·rintro i ys σ H4 y H5 N hi ⟨v,rfl,rfl,rfl⟩ ⟨rfl,cc,hcc,rfl⟩ hN
    obtain ⟨z,hz,ez⟩:=dS hcc
    rw [ez]
    obtain ⟨r1,o1⟩:=fJ (hall z (AF hz))
    refine ⟨_,rfl,rfl,_,rfl,_,_,_,r1,rfl,rfl,o1,hN _ _ _ ⟨_,rfl,?_,rfl⟩⟩
    rw [cO hz,AU]
    rfl
   ·rintro ys σ H4 l ⟨v,rfl,rfl,rfl⟩ hl
    show iQ _ _ _ _ (upd H4 l (.lst [.int (u.idxOf e1:Nat),.int (u.idxOf e2:Nat),.int (u.idxOf e3:Nat),.int (u.idxOf e4:Nat)]))
    have s4:aE H4 (upd H4 l (.lst [.int (u.idxOf e1:Nat),.int (u.idxOf e2:Nat),.int (u.idxOf e3:Nat),.int (u.idxOf e4:Nat)])):=aE.new hl
    have f4:(upd H4 l (.lst [.int (u.idxOf e1:Nat),.int (u.idxOf e2:Nat),.int (u.idxOf e3:Nat),.int (u.idxOf e4:Nat)])) l=some (.lst [.int (u.idxOf e1:Nat),.int (u.idxOf e2:Nat),.int (u.idxOf e3:Nat),.int (u.idxOf e4:Nat)]):=ag
    generalize upd H4 l (.lst [.int (u.idxOf e1:Nat),.int (u.idxOf e2:Nat),.int (u.idxOf e3:Nat),.int (u.idxOf e4:Nat)])=H5 at s4 f4 ⊢
    refine ⟨_,rfl,_,rfl,l,_,rfl,SqL.of f4,fun p1 hp1=>?_⟩
    have s5:=aE.new (o:=.lst (jx [.int (u.idxOf e1:Nat),.int (u.idxOf e2:Nat),.int (u.idxOf e3:Nat),.int (u.idxOf e4:Nat)] none (some 2))) hp1
    have f5:(upd H5 p1 (.lst (jx [.int (u.idxOf e1:Nat),.int (u.idxOf e2:Nat),.int (u.idxOf e3:Nat),.int (u.idxOf e4:Nat)] none (some 2)))) p1=some (.lst [.int (u.idxOf e1:Nat),.int (u.idxOf e2:Nat)]):=ag
    generalize upd H5 p1 (.lst (jx [.int (u.idxOf e1:Nat),.int (u.idxOf e2:Nat),.int (u.idxOf e3:Nat),.int (u.idxOf e4:Nat)] none (some 2)))=H6 at s5 f5 ⊢
    refine ⟨_,rfl,_,rfl,l,_,rfl,SqL.of (s5 _ _ f4),fun p2 hp2=>?_⟩
    have s6:=aE.new (o:=.lst (jx [.int (u.idxOf e1:Nat),.int (u.idxOf e2:Nat),.int (u.idxOf e3:Nat),.int (u.idxOf e4:Nat)] (some 2) none)) hp2
    have f6:(upd H6 p2 (.lst (jx [.int (u.idxOf e1:Nat),.int (u.idxOf e2:Nat),.int (u.idxOf e3:Nat),.int (u.idxOf e4:Nat)] (some 2) none))) p2=some (.lst [.int (u.idxOf e3:Nat),.int (u.idxOf e4:Nat)]):=ag
    generalize upd H6 p2 (.lst (jx [.int (u.idxOf e1:Nat),.int (u.idxOf e2:Nat),.int (u.idxOf e3:Nat),.int (u.idxOf e4:Nat)] (some 2) none))=H7 at s6 f6 ⊢
    refine ⟨p1,p2,_,_,_,_,rfl,s6 _ _ f5,f6,_,rfl,?_⟩
    rw [← k4]
    have q7:=((q3.trans s4).trans s5).trans s6
    by_cases c2:cx u e1 e2 e3 e4=true
    ·rw [c2]
     rw [c2] at k
     refine xW ⟨_,rfl,_,rfl,(by show 3≤_;decide),fun r hr'=>⟨(by show 1≤_;decide),fun l hl=>?_⟩⟩
     exact jf (m:=.b s t) q7 hr' hl ⟨x,y,ag,(q7.trans (aE.new hr')) _ _ hx,(q7.trans (aE.new hr')) _ _ hy⟩ k rfl
    ·rw [BQ] at c2
     rw [c2]
     rw [c2] at k
     exact xX ⟨(by show 0≤_;decide),fun l hl=>iE q7 hl k rfl⟩
  ·rw [zH c]
   refine uv ⟨(by show 0≤_;decide),fun l hl=>iE q3 hl k ?_⟩
   unfold cx
   rw [zH c]
   rfl
abbrev tX:Stmt:=top 21
theorem wA:aD ["surface","ways","one","other","told"] ["surface","ways","one","other"] (ak tX):=⟨rfl,rfl,rfl,by decide +kernel,rfl,by decide +kernel,by decide +kernel⟩
def _root_.Ex {a b c d}:=@cI a b c d
theorem yq (D:Df K mg "links_at" tX)(T:Bt K w mg aB)(F_agn:Fnc P w K mg base "against_at" ["surface","ways","one","other"] 4 (p7 kP))(F_alg:Fnc P w K mg base "along_at" ["surface","ways","one","other"] 4 (p7 sW))(F_bes:Fnc P w K mg base "beside_at" ["surface","ways","one","other"] 4 (p7 vR)):Fnc P w K mg base "links_at" ["surface","ways","one","other"] 5 (p7 uw):=by
 have sc:=wA
 refine D.ok sc (fun _ _ _ _ _ _ us hl=>by obtain ⟨_,_,_,_,rfl⟩:=q_ hl;rfl) (fun vs H Q E h=>?_) (fun f EJ A outer s H vs Q E hr h=>?_)
 ·obtain ⟨u,a,x,y,n,W,s,t,rfl,_⟩:=h
  rfl
 ·obtain ⟨u,a,x,y,n,W,s,t,rfl,U,hW,hx,hy,os,ot,k⟩:=h
  have EW:=aX
  refine ⟨_,(Ef (Ek (4) sc.nd rfl (Or.inl rfl) (Er F_agn hr (by decide) rfl (Ec (pv 0) (Ec (pv 1) (Ec (pv 2) (Ec (pv 3) ae)))))) (Ef (Ei (Ej (sS (K:=K) rfl (by exact lt0 hr.units)) (pv 2) (pv 3) (aU _)) (Ef (Ex (Em AS Ci Cj eO (pv 4) (Ec (Er F_alg hr (by decide) rfl (Ec (pv 0) (Ec (pv 1) (Ec (pv 2) (Ec (pv 3) ae))))) ae))) (D_ (Ex (Em AS Ci Cj eO (pv 4) (Ec (Er F_bes hr (by decide) rfl (Ec (pv 0) (Ec (pv 1) (Ec (pv 2) (Ec (pv 3) ae))))) ae))))) ba) (D_ (Ea (pv 4))))),?_⟩
  refine ⟨_,rfl,_,rfl,_,rfl,_,rfl,u,a,x,y,n,W,s,t,rfl,U,hW,hx,hy,os,ot,fun l1 z1 H1 n1 s1 f1 k1 e1=>?_⟩
  refine ⟨_,rfl,_,rfl,x,y,[s.1,s.2],[t.1,t.2],rfl,rfl,SqT.of (s1 _ _ hx),SqT.of (s1 _ _ hy),_,rfl,?_⟩
  show cJ _ _ _ _ (ltP s t) _
  by_cases c:ltP s t=true
  ·rw [c]
   refine uv ?_
   have len:∀ {zs:List (Addr × Lk)} {r:List Lk} {m:Nat},zs.map (·.2)=r→r.length≤m→zs.length≤m:=fun e h=>by rw [← e,zV] at h;exact h
   have la1:z1.length≤1:=len e1 (by unfold kP;split <;> simp)
   refine ⟨_,rfl,.inl ⟨rfl,_,SqL.of f1⟩,_,rfl,_,rfl,_,rfl,_,rfl,u,a,x,y,n,W,s,t,rfl,U,hW.same s1,s1 _ _ hx,s1 _ _ hy,os,ot,fun l2 z2 H2 n2 s2 f2 k2 e2=>?_⟩
   have la2:z2.length≤1:=len e2 (by unfold sW;split <;> simp)
   have g1:=s2 _ _ f1
   refine ⟨l1,l2,_,_,rfl,rfl,g1,f2,(by simp only [zV];omega),?_⟩
   rw [gP]
   have s3:aE H (upd H2 l1 (.lst (((z1++z2).map (·.1)).map V.ref))):=fi (s1.trans s2) n1
   have f3:(upd H2 l1 (.lst (((z1++z2).map (·.1)).map V.ref))) l1=some (.lst (((z1++z2).map (·.1)).map V.ref)):=ag
   have k3:LkA (upd H2 l1 (.lst (((z1++z2).map (·.1)).map V.ref))) (z1++z2):=((k1.same s2).app k2).to (gO g1)
   generalize upd H2 l1 (.lst (((z1++z2).map (·.1)).map V.ref))=H3 at s3 f3 k3 ⊢
   refine ⟨_,rfl,.inl ⟨rfl,_,SqL.of f3⟩,_,rfl,_,rfl,_,rfl,_,rfl,u,a,x,y,n,W,s,t,rfl,U,hW.same s3,s3 _ _ hx,s3 _ _ hy,os,ot,fun l4 z4 H4 n4 s4 f4 k4 e4=>?_⟩
   have la4:z4.length≤1:=len e4 (by unfold vR;split <;> simp)
   have g3:=s4 _ _ f3
   refine ⟨l1,l4,_,_,rfl,rfl,g3,f4,(by simp only [zV,zI];omega),?_⟩
   rw [gP]
   refine ⟨_,rfl,k l1 (z1++z2++z4) _ n1 (fi (s3.trans s4) n1) ag (((k3.same s4).app k4).to (gO g3)) ?_⟩
   unfold uw
   rw [c,if_pos rfl,AU,AU,e1,e2,e4,zR]
  ·rw [BQ] at c
   rw [c]
   refine p5 ⟨_,rfl,k l1 z1 H1 n1 s1 f1 k1 ?_⟩
   unfold uw
   rw [c,e1]
   simp
abbrev jl:Stmt:=top 20
theorem qf:aD ["surface","ways","i","j","told","p","q"] ["surface","ways","i","j"] (ak jl):=⟨rfl,rfl,rfl,by decide +kernel,rfl,by decide +kernel,by decide +kernel⟩
def _root_.Ey {a b c d e f g h}:=@bU a b c d e f g h
def _root_.Ez {a b c d e f}:=@bu a b c d e f
theorem tY (D:Df K mg "links" jl)(T:Bt K w mg aB)(F_lat:Fnc P w K mg base "links_at" ["surface","ways","one","other"] 5 (p7 uw)):Fnc P w K mg base "links" ["surface","ways","i","j"] 6 gN:=by
 have sc:=qf
 refine D.ok sc (fun _ _ _ _ _ _ us hl=>by obtain ⟨_,_,_,_,rfl⟩:=q_ hl;rfl) (fun vs H Q E h=>?_) (fun f EJ A outer s H vs Q E hr h=>?_)
 ·obtain ⟨u,a,n,W,i,j,rfl,_⟩:=h
  rfl
 ·obtain ⟨u,a,n,W,i,j,rfl,U,hW,i0,i1,j0,j1,k⟩:=h
  have EW:=aX
  obtain ⟨_,ati,_,li,_,_⟩:=hW.ok.get i0 i1
  obtain ⟨_,atj,_,lj,_,_⟩:=hW.ok.get j0 j1
  refine ⟨_,(Ef (Ek (4) sc.nd rfl (Or.inl rfl) (Eb ae)) (Ef (Ey AG rfl (Ez rfl T.range (Ec (El az (by rfl) T.len Ai (Ec (Eh aT (pv 1) (pv 2) (fun _ _=>rfl)) ae)) ae)) (En (5) sc.nd rfl (Or.inl rfl)) (D_ (Ey AG rfl (Ez rfl T.range (Ec (El az (by rfl) T.len Ai (Ec (Eh aT (pv 1) (pv 3) (fun _ _=>rfl)) ae)) ae)) (En (6) sc.nd rfl (Or.inl rfl)) (D_ (Ex (Em AS Ci Cj eO (pv 4) (Ec (Er F_lat hr (by decide) rfl (Ec (pv 0) (Ec (pv 1) (Ec (Et (Ec (pv 2) (Ec (pv 5) ae))) (Ec (Et (Ec (pv 3) (Ec (pv 6) ae))) ae))))) ae))))))) (D_ (Ea (El (@fw _ (.s) (shL) _ (fun z=>by cases z) (by exact hr.units) rfl) (by rfl) T.sorted ph (Ec (pv 4) ae)))))),?_⟩
  refine ⟨(by show 0≤_;decide),fun l hl=>?_⟩
  have s0:aE H (upd H l (.lst [])):=aE.new hl
  have f0:(upd H l (.lst [])) l=some (.lst []):=ag
  generalize upd H l (.lst [])=H0 at s0 f0 ⊢
  refine ⟨_,rfl,_,rfl,a,_,_,_,rfl,rfl,SqT.of (s0 _ _ hW.at_),ati,_,rfl,(by rw [af];omega),_,rfl,?_⟩
  rw [af]
  refine ⟨by omega,by omega,?_⟩
  refine bb (lo:=0) (n:=((wyZ W i).length:Int).toNat) (fun m σ H'=>∃ (v1 v2:Option V) (zs:List (Addr × Lk)),σ = [some (tx u),some (.ref a),some (.int i),some (.int j),some (.ref l),v1,v2]∧aE H H'∧H' l=some (.lst ((zs.map (·.1)).map V.ref))∧LkA H' zs∧(zs.map (·.2)).Perm (iB u W i j m)) ⟨none,none,[],rfl,s0,f0,(fun _ h=>absurd h (by simp)),B8 _⟩ ?_ ?_
  ·rintro p σ H1 hp ⟨v1,v2,zs,rfl,s1,f1,k1,e1⟩
   have hp':p < (wyZ W i).length:=by omega
   refine ⟨_,rfl,_,rfl,a,_,_,_,rfl,rfl,SqT.of (s1 _ _ hW.at_),atj,_,rfl,(by rw [af];omega),_,rfl,?_⟩
   rw [af]
   refine ⟨by omega,by omega,?_⟩
   rw [show ((0:Int)+(p:Int))=(p:Int) by omega]
   refine bb (lo:=0) (n:=((wyZ W j).length:Int).toNat) (fun m σ H'=>∃ (v2:Option V) (zs:List (Addr × Lk)),σ = [some (tx u),some (.ref a),some (.int i),some (.int j),some (.ref l),some (.int (p:Int)),v2]∧aE H H'∧H' l=some (.lst ((zs.map (·.1)).map V.ref))∧LkA H' zs∧(zs.map (·.2)).Perm (iB u W i j p++oH u W i j p m)) ⟨v2,zs,rfl,s1,f1,k1,by rw [show oH u W i j p 0=[] from rfl,AY];exact e1⟩ ?_ ?_
   ·clear e1 k1 f1 s1 zs
    rintro q σ H2 hq ⟨v2,zs,rfl,s2,f2,k2,e2⟩
    have hq':q < (wyZ W j).length:=by omega
    rw [show ((0:Int)+(q:Int))=(q:Int) by omega]
    refine ⟨_,rfl,.inl ⟨rfl,_,SqL.of f2⟩,_,rfl,_,rfl,_,rfl,_,rfl,(by show 2≤_;decide),fun x hx=>?_⟩
    have s3:aE H2 (upd H2 x (.tup [.int i,.int (p:Int)])):=aE.new hx
    have f3:(upd H2 x (.tup [.int i,.int (p:Int)])) x=some (.tup [.int i,.int (p:Int)]):=ag
    generalize upd H2 x (.tup [.int i,.int (p:Int)])=H3 at s3 f3 ⊢
    refine ⟨_,rfl,_,rfl,(by show 2≤_;decide),fun y hy=>?_⟩
    have s4:aE H3 (upd H3 y (.tup [.int j,.int (q:Int)])):=aE.new hy
    have f4:(upd H3 y (.tup [.int j,.int (q:Int)])) y=some (.tup [.int j,.int (q:Int)]):=ag
    generalize upd H3 y (.tup [.int j,.int (q:Int)])=H4 at s4 f4 ⊢
    have s24:=s3.trans s4
    refine ⟨u,a,x,y,n,W,(i,(p:Int)),(j,(q:Int)),rfl,U,hW.same (s2.trans s24),s4 _ _ f3,f4,⟨i0,i1,by omega,by show (p:Int) < ((wyZ W i).length:Int);omega⟩,⟨j0,j1,by omega,by show (q:Int) < ((wyZ W j).length:Int);omega⟩,fun l5 z5 H5 n5 s5 f5 k5 e5=>?_⟩
    have s25:=s24.trans s5
    have g2:=s25 _ _ f2
    have ez:(z5.map (·.2)).Perm (lkZ u W (i,(p:Int)) (j,(q:Int))):=by rw [e5];exact nK _ _ _ _
    have en:((zs++z5).map (·.2)).Perm (iB u W i j p++oH u W i j p (q+1)):=by
     rw [AU,jY,← zR]
     exact e2.append ez
    have hlen:zs.length+z5.length≤3*30*p+3*(q+1):=by
     have h1:=en.length_eq
     rw [zV,zI,zI] at h1
     have h2:=nJ u W i j lj p
     have h3:=je u W i j p (q+1)
     omega
    refine ⟨l,l5,_,_,rfl,rfl,g2,f5,(by simp only [zV];omega),?_⟩
    rw [gP]
    exact ⟨_,zs++z5,rfl,fi (s2.trans s25) hl,ag,((k2.same s25).app k5).to (gO g2),en⟩
   ·clear e1 k1 f1 s1 zs
    rintro σ H2 ⟨v2,zs,rfl,s2,f2,k2,e2⟩
    refine ⟨_,_,zs,rfl,s2,f2,k2,?_⟩
    rw [jZ]
    exact e2
  ·rintro σ H1 ⟨v1,v2,zs,rfl,s1,f1,k1,e1⟩
   have em:zs.map (·.1)=(zs.map fun z=>(z.1,z.2.key)).map (·.1):=by rw [BE];rfl
   rw [em] at f1
   refine ⟨_,rfl,l,zs.map fun z=>(z.1,z.2.key),rfl,.inl (SqL.of f1),fun z hz=>?_,fun p ks hp pm pw=>?_⟩
   ·obtain ⟨y,hy,rfl⟩:=AE.mp hz
    exact (k1 y hy).kd
   ·obtain ⟨ys,h1,h2⟩:=fe (fun z:Addr × Lk=>(z.1,z.2.key)) pm.symm zs rfl
    have e2:ks.map (·.1)=ys.map (·.1):=by rw [h2,BE];rfl
    have e3:ks.map (·.2)=(ys.map (·.2)).map Lk.key:=by rw [h2,BE,BE];rfl
    rw [e2]
    rw [e3] at pw
    refine k p ys _ (s1.free hp) (s1.trans (aE.new hp)) ag (fun z hz=>?_) ((h1.map _).trans e1) pw
    exact (k1 z (h1.mem_iff.mp hz)).to fun b o e=>aE.new hp _ _ e
abbrev ox:Stmt:=top 5
theorem tZ:aD ["many","word"] ["many","word"] (ak ox):=⟨rfl,rfl,rfl,by decide +kernel,rfl,by decide +kernel,by decide +kernel⟩
theorem wB (D:Df K mg "sums" ox)(T:Bt K w mg aB)(EE:Fnc P w K mg base "back" ["word"] 1 kN)(S:∃ t,mg "SMALL" = some (.str "abcdef" t)):Fnc P w K mg base "sums" ["many","word"] 2 qZ:=by
 have sc:=tZ
 refine D.ok sc (fun _ _ _ _ _ _ us hl=>by obtain ⟨_,_,rfl⟩:=ux hl;rfl) (fun vs H Q E h=>?_) (fun f EJ A outer s H vs Q E hr h=>?_)
 ·obtain ⟨m,u,rfl,_⟩:=h
  rfl
 ·obtain ⟨m,u,rfl,m1,m2,hu,k⟩:=h
  obtain ⟨tS,mgS⟩:=S
  have EW:=aX
  have h6:=kL (m:=m)
  refine ⟨_,(D_ (Ea (@dz _ _ _ _ _ _ _ _ _ dA (by rfl) T.tuple l7 (Ec (@gf _ _ _ _ _ _ _ (["letter","word"]) (["letter"]) ([1]) _ _ _ _ (@ib _ _ _ _ _ _ rfl (by kernel_rfl)) rfl (@jC _ _ _ _ (Ed cN (@kW _ _ (.str "abcdef") _ _ rfl mgS ⟨_,rfl⟩ (by decide)) bw (Ee (pv 0)))) (fun _ _ _ _=>En (0) (show (["letter","word"]:List Str).Nodup from by decide +kernel) rfl (Or.inl rfl)) (fun _ _ _ _=>dD) (fun _ _ _ _=>by (exact Eg fy (by (exact (@mf _ _ _ _ _ _ _ _ _ _ _ _ (K) rfl Ao DK DM jH (pv 1) (Ec (pv 0) ae) (by rfl) (by rfl) (by rfl) (by rfl) (by rfl)))) (by (exact (@mf _ _ _ _ _ _ _ _ _ _ _ _ (K) rfl Ao DK DM jH (pv 1) (Ec (Er EE hr (by decide) rfl (Ec (pv 0) ae)) ae) (by rfl) (by rfl) (by rfl) (by rfl) (by rfl)))))) (by intro _ ;rfl)) ae) (by decide) (by decide) (by rfl) (by rfl)))),?_⟩
  refine ⟨_,rfl,_,rfl,_,rfl,(by rw [il];omega),?_⟩
  rw [iJ m1]
  refine ⟨_,rfl,?_⟩
  refine eS (own:=["letter"]) (cap:=[1]) (J:=Its (toS (sml m))) (sml m).length (fun i ys σ H'=>∃ v:Option V,σ = [v,some (tx u)]∧ys=((sml m).take i).map (fun x=>V.int (dif u x))∧aE H H') ⟨none,rfl,rfl,aE.refl _⟩ (fun i ys σ H' hi ⟨v,_,e,_⟩=>?_) (by omega) (fun i ys σ H' hi _=>?_) (fun ys σ H' _=>?_) ?_ ?_
  ·rw [e,zV,z9];omega
  ·show i < (toS _).cps.size;rw [bx];exact hi
  ·show _=(toS _).cps.size;rw [bx]
  ·rintro i ys σ H1 z H2 N hi ⟨v,rfl,rfl,s1⟩ ⟨rfl,c,hc,rfl⟩ hN
   obtain ⟨x,hx,e⟩:=dS hc
   rw [e]
   refine ⟨_,rfl,rfl,_,rfl,_,_,rfl,rfl,_,rfl,rfl,_,rfl,[x],rfl,(by show 1≤5000;decide),fun H3 s3=>⟨_,_,rfl,rfl,_,_,rfl,rfl,hN _ _ _ ⟨_,rfl,?_,s1.trans s3⟩⟩⟩
   rw [ip,dg,ip,← qb _ hx]
   rfl
  ·rintro ys σ H1 l ⟨v,rfl,rfl,s1⟩ hl
   rw [CM]
   exact ⟨l,_,rfl,.inl ⟨SqL.of ag,fun t ht=>k t _ ag ((s1.then hl).then ht)⟩⟩
abbrev t_:Stmt:=top 7
theorem wD:aD ["surface"] ["surface"] (ak t_):=⟨rfl,rfl,rfl,by decide +kernel,rfl,by decide +kernel,by decide +kernel⟩
theorem yr (D:Df K mg "letters_of" t_)(T:Bt K w mg aB)(S:∃ t,mg "SMALL" = some (.str "abcdef" t)):Fnc P w K mg base "letters_of" ["surface"] 1 wa:=by
 have sc:=wD
 refine D.ok sc (fun _ _ _ _ _ _ us hl=>by obtain ⟨_,rfl⟩:=tH hl;rfl) (fun vs H Q E h=>?_) (fun f EJ A outer s H vs Q E hr h=>?_)
 ·obtain ⟨u,k,rfl,_⟩:=h
  rfl
 ·obtain ⟨u,k,rfl,U,q⟩:=h
  obtain ⟨tS,mgS⟩:=S
  have EW:=aX
  have hl:=U.len
  have h1:=U.lo
  have h6:=U.hi
  refine ⟨_,(D_ (Ea (Ed cN (@kW _ _ (.str "abcdef") _ _ rfl mgS ⟨_,rfl⟩ (by decide)) bw (Ee (Eg dj (El az (by rfl) T.len Ai (Ec (pv 0) ae)) ai))))),?_⟩
  refine ⟨_,rfl,_,rfl,(by rw [af];omega),_,_,rfl,rfl,⟨by decide,by decide⟩,_,rfl,_,rfl,(by rw [il];omega),?_⟩
  have e:((toS u).length:Int) / 2=(k:Int):=by rw [af];omega
  rw [e,iJ (by omega)]
  exact q
abbrev yt:Stmt:=top 13
theorem yu:aD ["surface","letter"] ["surface","letter"] (ak yt):=⟨rfl,rfl,rfl,by decide +kernel,rfl,by decide +kernel,by decide +kernel⟩
theorem zB (D:Df K mg "places_of" yt)(T:Bt K w mg aB)(EE:Fnc P w K mg base "back" ["word"] 1 kN):Fnc P w K mg base "places_of" ["surface","letter"] 2 yR:=by
 have sc:=yu
 refine D.ok sc (fun _ _ _ _ _ _ us hl=>by obtain ⟨_,_,rfl⟩:=ux hl;rfl) (fun vs H Q E h=>?_) (fun f EJ A outer s H vs Q E hr h=>?_)
 ·obtain ⟨u,k,a,rfl,_⟩:=h
  rfl
 ·obtain ⟨u,k,a,rfl,U,ha,q⟩:=h
  have EW:=aX
  obtain ⟨r1,o1⟩:=fJ ha
  obtain ⟨r2,o2⟩:=fJ (U.srf.iv a ha)
  refine ⟨_,(D_ (Ea (Et (Ec (Em Ao Bb Bc cZ (pv 0) (Ec (pv 1) ae)) (Ec (Em Ao Bb Bc cZ (pv 0) (Ec (Er EE hr (by decide) rfl (Ec (pv 1) ae)) ae)) ae))))),?_⟩
  refine ⟨_,rfl,rfl,_,rfl,_,_,_,r1,rfl,rfl,o1,_,rfl,rfl,_,rfl,[a],rfl,(by show 1≤5000;decide),fun H1 s1=>?_⟩
  rw [dg]
  refine ⟨_,_,_,r2,rfl,rfl,o2,(bZ (n:=2) (by decide)),fun p hp=>q p _ ag (s1.then hp)⟩
abbrev oy:Stmt:=top 12
theorem ua:aD ["surface","x","y"] ["surface","x","y"] (ak oy):=⟨rfl,rfl,rfl,by decide +kernel,rfl,by decide +kernel,by decide +kernel⟩
theorem wF (D:Df K mg "side_of" oy)(T:Bt K w mg aB)(EE:Fnc P w K mg base "back" ["word"] 1 kN)(F_pl:Fnc P w K mg base "places_of" ["surface","letter"] 2 yR)(E8:Fnc P w K mg base "are_met_by_turns" ["one","other"] 1 wb)(F_rf:Fnc P w K mg base "round_from" ["surface","start","end"] 1 wX):Fnc P w K mg base "side_of" ["surface","x","y"] 3 q9:=by
 have sc:=ua
 refine D.ok sc (fun _ _ _ _ _ _ us hl=>by obtain ⟨_,_,_,rfl⟩:=tI hl;rfl) (fun vs H Q E h=>?_) (fun f EJ A outer s H vs Q E hr h=>?_)
 ·obtain ⟨u,k,x,y,rfl,_⟩:=h
  rfl
 ·obtain ⟨u,k,x,y,rfl,U,F,q⟩:=h
  have EW:=aX
  have e:=vm F
  change (if ye (u.idxOf x) (u.idxOf (inv x)) (u.idxOf y) (u.idxOf (inv y))=true then (if rfI u x (inv y) < rfI u x y then -1 else 1) else 0)=_ at e
  refine ⟨_,(Ef (Ei (@qq _ _ _ _ (@dy _ _ _ (Er E8 hr (by decide) rfl (Ec (Er F_pl hr (by decide) rfl (Ec (pv 0) (Ec (pv 1) ae))) (Ec (Er F_pl hr (by decide) rfl (Ec (pv 0) (Ec (pv 2) ae))) ae))) (fun _=>rfl))) (D_ (Ea ai)) ba) (D_ (Ea (Ep (Ej d_ (Er F_rf hr (by decide) rfl (Ec (pv 0) (Ec (pv 1) (Ec (Er EE hr (by decide) rfl (Ec (pv 2) ae)) ae)))) (Er F_rf hr (by decide) rfl (Ec (pv 0) (Ec (pv 1) (Ec (pv 2) ae)))) (aU _)) (Eo c7 ai) ai)))),?_⟩
  refine ⟨_,rfl,_,rfl,u,k,x,rfl,U,F.mx,fun p1 H1 h1 s1=>?_⟩
  refine ⟨_,rfl,_,rfl,u,k,y,rfl,U,F.my,fun p2 H2 h2 s2=>?_⟩
  refine ⟨p1,p2,_,_,_,_,rfl,s2 _ _ h1,h2,_,rfl,?_⟩
  by_cases hm:ye (u.idxOf x) (u.idxOf (inv x)) (u.idxOf y) (u.idxOf (inv y))=true
  ·refine jG (by rw [hm];rfl) ?_
   rw [if_pos hm] at e
   refine ⟨_,rfl,_,rfl,_,rfl,[y],rfl,(by show 1≤5000;decide),fun H3 s3=>?_⟩
   rw [dg]
   refine ⟨u,k,x,inv y,rfl,U,F.mx,F.mY,_,rfl,_,rfl,_,rfl,u,k,x,y,rfl,U,F.mx,F.my,_,_,rfl,rfl,_,rfl,?_⟩
   have s03:=s1.trans (s2.trans s3)
   by_cases hl:rfI u x (inv y) < rfI u x y
   ·rw [if_pos hl] at e
    refine jF (zQ hl) ⟨_,rfl,?_⟩
    rw [← e] at q
    exact q _ s03
   ·rw [if_neg hl] at e
    refine jG (zH hl) ?_
    rw [← e] at q
    exact q _ s03
  ·refine jF (by rw [BQ] at hm;rw [hm];rfl) ?_
   rw [if_neg hm] at e
   rw [← e] at q
   exact q _ (s1.trans s2)
abbrev ub:Stmt:=top 11
theorem wG:aD ["surface","one","other","letters","mine","theirs","total","x","y"] ["surface","one","other"] (ak ub):=⟨rfl,rfl,rfl,by decide +kernel,rfl,by decide +kernel,by decide +kernel⟩
theorem yw (D:Df K mg "balance" ub)(T:Bt K w mg aB)(F_let:Fnc P w K mg base "letters_of" ["surface"] 1 wa)(E_:Fnc P w K mg base "sums" ["many","word"] 2 qZ)(F_side:Fnc P w K mg base "side_of" ["surface","x","y"] 3 q9):Fnc P w K mg base "balance" ["surface","one","other"] 4 tG:=by
 have sc:=wG
 refine D.ok sc (fun _ _ _ _ _ _ us hl=>by obtain ⟨_,_,_,rfl⟩:=tI hl;rfl) (fun vs H Q E h=>?_) (fun f EJ A outer s H vs Q E hr h=>?_)
 ·obtain ⟨u,w1,w2,k,rfl,_⟩:=h
  rfl
 ·obtain ⟨u,w1,w2,k,rfl,U,hw1,hw2,q⟩:=h
  have EW:=aX
  have h1:=U.lo
  have h6:=U.hi
  have hsl:=tF h6
  have hll:(toS (sml (k:Int))).length≤sizeLine:=by rw [af];omega
  have hlk:((toS (sml (k:Int))).length:Int)=(k:Int):=by rw [af,hsl]
  refine ⟨_,(Ef (Ek (3) sc.nd rfl (Or.inl rfl) (Er F_let hr (by decide) rfl (Ec (pv 0) ae))) (Ef (Ek (4) sc.nd rfl (Or.inl rfl) (Er E_ hr (by decide) rfl (Ec (El az (by rfl) T.len Ai (Ec (pv 3) ae)) (Ec (pv 1) ae)))) (Ef (Ek (5) sc.nd rfl (Or.inl rfl) (Er E_ hr (by decide) rfl (Ec (El az (by rfl) T.len Ai (Ec (pv 3) ae)) (Ec (pv 2) ae)))) (Ef (Ek (6) sc.nd rfl (Or.inl rfl) ai) (Ef (Ey AG rfl (Ez rfl T.range (Ec (El az (by rfl) T.len Ai (Ec (pv 3) ae)) ae)) (En (7) sc.nd rfl (Or.inl rfl)) (D_ (Ey AG rfl (@eK _ _ _ _ _ _ _ rfl T.range (Ec (Eg b_ (pv 7) ai) (Ec (El az (by rfl) T.len Ai (Ec (pv 3) ae)) ae)) (by rfl) (by rfl)) (En (8) sc.nd rfl (Or.inl rfl)) (D_ (@qt _ _ (6) _ _ _ _ _ _ sc.nd rfl (Or.inl rfl) (Eg dt (Er F_side hr (by decide) rfl (Ec (pv 0) (Ec (Eh d5 (pv 3) (pv 7) (fun _ _=>rfl)) (Ec (Eh d5 (pv 3) (pv 8) (fun _ _=>rfl)) ae)))) (Eg fy (Eg dt (Eh aT (pv 4) (pv 7) (fun _ _=>rfl)) (Eh aT (pv 5) (pv 8) (fun _ _=>rfl))) (Eg dt (Eh aT (pv 4) (pv 8) (fun _ _=>rfl)) (Eh aT (pv 5) (pv 7) (fun _ _=>rfl))))) qu (by first | exact .inl rfl | exact .inr rfl | assumption)))))) (D_ (Ea (pv 6)))))))),?_⟩
  refine ⟨_,rfl,u,k,rfl,U,?_⟩
  refine ⟨_,rfl,_,rfl,hll,_,rfl,(k:Int),w1,by rw [hlk];rfl,by omega,by omega,hw1,fun t1 H1 ht1 s1=>?_⟩
  refine ⟨_,rfl,_,rfl,hll,_,rfl,(k:Int),w2,by rw [hlk];rfl,by omega,by omega,hw2,fun t2 H2 ht2 s2=>?_⟩
  have ht1:=s2 _ _ ht1
  have s02:=s1.trans s2
  have at1:∀ (w:List L) (x:Nat),x < k→atI ((sml (k:Int)).map fun x=>V.int (dif w x)) (x:Int)=some (.int (dfi w (lt6 x))):=fun w x hx=>by
   have:=jj h6 hx
   unfold atI ixN
   rw [zV,hsl,if_pos (by omega),if_pos (by omega)]
   show ((sml (k:Int)).map _)[((x:Nat):Int).toNat]? = _
   rw [AM,Az,this]
   rfl
  refine ⟨_,rfl,_,rfl,hll,_,rfl,(by omega),(by omega),?_⟩
  rw [hlk]
  refine bb (lo:=0) (n:=(k:Int).toNat) (fun i σ H'=>∃ (a b:Option V),σ = [some (tx u),some (tx w1),some (tx w2),some (tx (sml (k:Int))),some (.ref t1),some (.ref t2),some (.int (bo i fun x=>bo (k - (x+1)) fun j=>trm u w1 w2 x (x+1+j))),a,b]∧aE H2 H') ⟨none,none,rfl,aE.refl _⟩ ?_ ?_
  ·rintro i σ H3 hi ⟨a,b,rfl,s3⟩
   have hi:i < k:=by omega
   rw [Dh]
   refine ⟨_,rfl,_,_,rfl,rfl,_,rfl,_,rfl,hll,_,_,rfl,(by first | omega | (rw [hlk];omega)),?_⟩
   rw [hlk]
   refine bb (lo:=(i:Int)+1) (n:=((k:Int) - ((i:Int)+1)).toNat) (fun j σ H'=>∃ (b:Option V),σ = [some (tx u),some (tx w1),some (tx w2),some (tx (sml (k:Int))),some (.ref t1),some (.ref t2),some (.int ((bo i fun x=>bo (k - (x+1)) fun j=>trm u w1 w2 x (x+1+j))+bo j fun j=>trm u w1 w2 i (i+1+j))),some (.int (i:Int)),b]∧aE H2 H') ⟨b,(by show _=[_,_,_,_,_,_,some (V.int (_+0)),_,_];rw [BK];rfl),s3⟩ ?_ ?_
   ·rintro j σ H4 hj ⟨b,rfl,s4⟩
    have hj:i+1+j < k:=by omega
    have ey:(i:Int)+1+(j:Int)=((i+1+j:Nat):Int):=by omega
    rw [ey]
    have gx:=jj h6 hi
    have gy:=jj h6 hj
    have ht1:=s4 _ _ ht1
    have ht2:=s4 _ _ ht2
    refine ⟨_,rfl,_,rfl,_,rfl,_,rfl,_,_,cp (lt6 i),rfl,rfl,hll,cu (k:=i) rfl gx,_,rfl,_,rfl,_,_,cp (lt6 (i+1+j)),rfl,rfl,hll,cu (k:=i+1+j) rfl gy,u,k,lt6 i,lt6 (i+1+j),rfl,U,U.four hi hj (by omega),fun H5 s5=>?_⟩
    have ht1:=s5 _ _ ht1
    have ht2:=s5 _ _ ht2
    have b1:=iK (lt6 i) hw1
    have b2:=iK (lt6 (i+1+j)) hw1
    have b3:=qc u (lt6 i) (lt6 (i+1+j))
    refine ⟨_,rfl,_,rfl,t1,_,_,_,rfl,rfl,SqT.of ht1,at1 w1 i hi,_,rfl,_,rfl,t2,_,_,_,rfl,rfl,SqT.of ht2,at1 w2 _ hj,_,_,rfl,rfl,.inl ⟨by omega,by omega⟩,?_⟩
    refine ⟨_,rfl,_,rfl,t1,_,_,_,rfl,rfl,SqT.of ht1,at1 w1 _ hj,_,rfl,_,rfl,t2,_,_,_,rfl,rfl,SqT.of ht2,at1 w2 i hi,_,_,rfl,rfl,.inl ⟨by omega,by omega⟩,?_⟩
    refine ⟨_,_,rfl,rfl,_,_,rfl,rfl,.inl ⟨by omega,by omega⟩,?_⟩
    refine ⟨_,_,rfl,rfl,some (.int ((i+1+j:Nat):Int)),?_,s4.trans s5⟩
    show _=[_,_,_,_,_,_,some (V.int (_+(bo j (fun j=>trm u w1 w2 i (i+1+j))+trm u w1 w2 i (i+1+j)))),_,_]
    rw [← Dt]
    rfl
   ·rintro σ H4 ⟨b,rfl,s4⟩
    refine ⟨some (.int (i:Int)),b,?_,s4⟩
    rw [show ((k:Int) - ((i:Int)+1)).toNat=k - (i+1) by omega]
    rfl
  ·rintro σ H3 ⟨a,b,rfl,s3⟩
   exact ⟨_,rfl,q _ (s02.trans s3)⟩
abbrev oz:Stmt:=top 16
theorem uc:aD ["surface","start","seen","word","gap","letter"] ["surface","start","seen"] (ak oz):=⟨rfl,rfl,rfl,by decide +kernel,rfl,by decide +kernel,by decide +kernel⟩
theorem wH (D:Df K mg "hole_from" oz)(T:Bt K w mg aB)(EE:Fnc P w K mg base "back" ["word"] 1 kN):Fnc P w K mg base "hole_from" ["surface","start","seen"] 2 mF:=by
 have sc:=uc
 refine D.ok sc (fun _ _ _ _ _ _ us hl=>by obtain ⟨_,_,_,rfl⟩:=tI hl;rfl) (fun vs H Q E h=>?_) (fun f EJ A outer s H vs Q E hr h=>?_)
 ·obtain ⟨u,g,a,S,rfl,_⟩:=h
  rfl
 ·obtain ⟨u,g0,a,S0,rfl,U,hg0,hs0,ha0,k⟩:=h
  have hu:=rM hr
  have EW:=aX
  have h12:=U.le
  have hpos:=U.pos
  refine ⟨_,(Ef (Ek (3) sc.nd rfl (Or.inl rfl) bT) (Ef (Ek (4) sc.nd rfl (Or.inl rfl) (pv 1)) (Ef (@fO _ _ _ _ _ _ AG (@ml _ _ _ _ _ _ hu (pv 4) (pv 2) rfl) (Ef (@rL _ _ _ _ _ _ _ _ _ hu (pv 2) (pv 4) kg rfl) (Ef (Ek (5) sc.nd rfl (Or.inl rfl) (Eh d5 (pv 0) (Eg cK (Eg b_ (pv 4) ai) (El az (by rfl) T.len Ai (Ec (pv 0) ae))) (fun _ _=>rfl))) (Ef (Ek (3) sc.nd rfl (Or.inl rfl) (Eg bB (pv 3) (pv 5))) (D_ (Ek (4) sc.nd rfl (Or.inl rfl) (Em Ao Bb Bc cZ (pv 0) (Ec (Er EE hr (by decide) rfl (Ec (pv 5) ae)) ae)))))))) (D_ (Ea (pv 3)))))),?_⟩
  refine ⟨_,rfl,?_⟩
  refine ⟨fun m σ H'=>∃ (S:List Nat) (w:List L) (g:Nat) (v:Option V),σ = [some (tx u),some (.int g0),some (.ref a),some (tx w),some (.int g),v]∧Sn u S∧g < u.length∧H' a=some (.dK (sk S))∧bq a H H'∧wk u g S w=wk u g0 S0 []∧w.length≤S.length∧m=u.length+1 - S.length,⟨_,S0,[],g0,none,rfl,hs0,hg0,ha0,bq.refl _ _,rfl,Ay _,rfl⟩,?_⟩
  rintro m σ H1 ⟨S,w,g,v,rfl,hs,hg,ha,sb,e,hw,rfl⟩
  have hle:=hs.le
  refine ⟨_,rfl,_,rfl,a,_,rfl,uq.k (k:=Sum.inl (g:Int)) ha,?_⟩
  rw [mE]
  refine ⟨_,rfl,?_⟩
  refine iU (fun h=>?_) (fun h=>?_)
  ·have h:g∉S:=by simpa using h
   have E5:=hs.snoc hg h
   have hle':=E5.le
   rw [zI,Aq] at hle'
   refine ⟨_,fun σ' H' q=>q,?_⟩
   refine ⟨_,rfl,_,rfl,a,_,rfl,rJ.k (k:=Sum.inl (g:Int)) ha (by rw [vk];omega),?_⟩
   rw [vj h]
   have hx:=bK U g
   have em:((g:Int)+1) % (u.length:Int)=(((g+1) % u.length:Nat):Int):=by rw [Int.natCast_emod];rfl
   refine ⟨_,rfl,_,rfl,_,_,rfl,rfl,_,rfl,_,rfl,(by rw [af];omega),_,_,rfl,rfl,(by rw [af];omega),_,_,cp (b9 u g),rfl,rfl,(by rw [af];omega),cu (k:=(g+1) % u.length) (by rw [af];exact em) hx,?_⟩
   refine ⟨_,rfl,_,rfl,_,_,rfl,rfl,(by rw [af];show w.length+1≤sizeLine;omega),?_⟩
   obtain ⟨rest,ho⟩:=fJ (U.iv _ (cv U g))
   refine ⟨_,rfl,rfl,_,rfl,[b9 u g],rfl,(by show 1≤5000;decide),fun H2 s2=>?_⟩
   rw [dg]
   refine ⟨_,_,_,rest,rfl,rfl,ho,?_⟩
   have e2:=(jI (w:=w) hs hg h).symm.trans e
   refine ⟨u.length+1 - (S++[g]).length,?_,S++[g],w++[b9 u g],br u g,some (tx [b9 u g]),(by rw [← eV];rfl),E5,bV U g,s2 _ _ ag,(sb.trans bq.upd).trans s2.b,e2,?_,rfl⟩
   ·rw [zI,Aq]
    omega
   ·rw [zI,zI]
    simp only [Aq]
    omega
  ·have h:g∈S:=by simpa using h
   rw [mw h] at e
   rw [← e] at k
   exact ⟨_,rfl,k _ ha hs sb⟩
abbrev jm:Stmt:=top 15
theorem qg:aD ["surface","told","seen","gap"] ["surface"] (ak jm):=⟨rfl,rfl,rfl,by decide +kernel,rfl,by decide +kernel,by decide +kernel⟩
theorem ud (D:Df K mg "holes" jm)(T:Bt K w mg aB)(F_hole:Fnc P w K mg base "hole_from" ["surface","start","seen"] 2 mF):Fnc P w K mg base "holes" ["surface"] 3 iX:=by
 have sc:=qg
 refine D.ok sc (fun _ _ _ _ _ _ us hl=>by obtain ⟨_,rfl⟩:=tH hl;rfl) (fun vs H Q E h=>?_) (fun f EJ A outer s H vs Q E hr h=>?_)
 ·obtain ⟨u,rfl,_⟩:=h
  rfl
 ·obtain ⟨u,rfl,U,k⟩:=h
  have hu:=rM hr
  have EW:=aX
  have h12:=U.le
  refine ⟨_,(Ef (Ek (1) sc.nd rfl (Or.inl rfl) (Eb ae)) (Ef (Ek (2) sc.nd rfl (Or.inl rfl) o5) (Ef (Ey AG rfl (Ez rfl T.range (Ec (El az (by rfl) T.len Ai (Ec (pv 0) ae)) ae)) (En (3) sc.nd rfl (Or.inl rfl)) (D_ (Ei (@ml _ _ _ _ _ _ hu (pv 3) (pv 2) rfl) (D_ (Ex (Em AS Ck Cm eN (pv 1) (Ec (Er F_hole hr (by decide) rfl (Ec (pv 0) (Ec (pv 3) (Ec (pv 2) ae)))) ae)))) ba))) (D_ (Ea (pv 1)))))),?_⟩
  refine ⟨(by show 0≤sizeLine;decide),fun l hl=>?_⟩
  have s1:aE H (upd H l (.lst [])):=aE.new hl
  have f1:(upd H l (.lst [])) l=some (.lst []):=ag
  generalize upd H l (.lst [])=H1 at s1 f1 ⊢
  intro a ha
  have la:a≠l:=(au f1 ha).symm
  have s2:aE H1 (upd H1 a (.dK [])):=aE.new ha
  have f2:(upd H1 a (.dK [])) a=some (.dK []):=ag
  have g1:=s2 _ _ f1
  have s2:=s1.trans s2
  generalize upd H1 a (.dK [])=H2 at s2 f2 g1 ⊢
  have na:H a=none:=by
   cases e:H a with
   | none=>rfl
   | some o=>exact absurd (s1 _ _ e) (by rw [ha];intro z;cases z)
  refine ⟨_,rfl,_,rfl,(by rw [af];omega),_,rfl,(by rw [af];omega),(by rw [af];omega),?_⟩
  rw [af]
  refine bb (lo:=0) (n:=(u.length:Int).toNat) (fun i σ H'=>∃ v:Option V,σ = [some (tx u),some (.ref l),some (.ref a),v]∧H' l=some (.lst ((ck u i).2.map tx))∧H' a=some (.dK (sk (ck u i).1))∧Sn u (ck u i).1∧aE H H') ⟨none,rfl,g1,f2,Sn.nil u,s2⟩ ?_ ?_
  ·rintro i σ H3 hi ⟨v,rfl,h1,h2,hs,s3⟩
   have hi:i < u.length:=by omega
   rw [Dh]
   refine ⟨_,rfl,_,rfl,a,_,rfl,uq.k (k:=Sum.inl (i:Int)) h2,?_⟩
   rw [mE]
   refine ⟨_,rfl,?_⟩
   refine iU (fun h=>?_) (fun h=>?_)
   ·have h:i∉(ck u i).1:=by simpa using h
    refine ⟨_,rfl,.inl ⟨rfl,_,SqL.of h1⟩,_,rfl,_,rfl,_,rfl,u,i,a,_,rfl,U,hi,hs,h2,fun H4 q1 q2 q3=>?_⟩
    have h4:=q3 _ _ la.symm h1
    have hlen:=r9 u i
    refine ⟨l,_,_,rfl,rfl,h4,by omega,_,rfl,?_,?_,?_,?_⟩
    ·rw [ag,dU h,AU]
     rfl
    ·rw [aM la,dU h]
     exact q1
    ·rw [dU h]
     exact q2
    ·intro b o e
     rw [aM (au e hl)]
     exact q3 _ _ (au e na) (s3 _ _ e)
   ·have h:i∈(ck u i).1:=by simpa using h
    exact ⟨_,rfl,by rw [eW h];exact h1,by rw [eW h];exact h2,by rw [eW h];exact hs,s3⟩
  ·rintro σ H3 ⟨v,rfl,h1,h2,hs,s3⟩
   exact ⟨_,rfl,k l _ hl h1 s3⟩
abbrev ue:Stmt:=top 33
theorem wI:aD ["_law_tape_here","_law_most","_law_row","_law_k","_law_sign"] ["_law_tape_here","_law_most"] (ak ue):=⟨rfl,rfl,rfl,by decide +kernel,rfl,by decide +kernel,by decide +kernel⟩
theorem yy (D:Df K mg "_law_any_row" ue)(T:Bt K w mg aB)(EG:Fnc P w K mg base "_law_draw" ["_law_tape_here","_law_many"] 1 dW):Fnc P w K mg base "_law_any_row" ["_law_tape_here","_law_most"] 2 qT:=by
 have sc:=wI
 refine D.ok sc (fun _ _ _ _ _ _ us hl=>by obtain ⟨_,_,rfl⟩:=ux hl;rfl) (fun vs H Q E h=>?_) (fun f EJ A outer s H vs Q E hr h=>?_)
 ·obtain ⟨d,c,m,rfl,_⟩:=h
  rfl
 ·obtain ⟨d,c,m,rfl,F,m1,m6,k⟩:=h
  have EW:=aX
  refine ⟨_,(Ef (Ek (2) sc.nd rfl (Or.inl rfl) (Eb ae)) (Ef (Ey AG rfl (Ez rfl T.range (Ec (Eg b_ ai (Er EG hr (by decide) rfl (Ec (pv 0) (Ec (pv 1) ae)))) ae)) (En (3) sc.nd rfl (Or.inl rfl)) (D_ (Ey AG rfl (@uJ _ _ _ _ (Et (Ec (Eh d5 bT (pv 3) (fun _ _=>rfl)) (Ec (Eh d5 bT (pv 3) (fun _ _=>rfl)) ae)))) (En (4) sc.nd rfl (Or.inl rfl)) (D_ (Ex (Em AS Dn PySem.F.type_list_insert mj (pv 2) (Ec (Er EG hr (by decide) rfl (Ec (pv 0) (Ec (Eg b_ (El aQ (by rfl) T.len Ai (Ec (pv 2) ae)) ai) ae))) (Ec (pv 4) ae)))))))) (D_ (Ea (Em Ao BF BG eU bT (Ec (pv 2) ae)))))),?_⟩
  refine ⟨(by show 0≤sizeLine;decide),fun p hp=>?_⟩
  have hpd:=F.ne hp
  have hpc:=F.nec hp
  refine ⟨_,rfl,_,rfl,d,c,m,rfl,F.new hp,by omega,by omega,fun r H1 r0 r1 F1 sb1=>?_⟩
  have f1:=sb1 _ _ hpd ag
  have sb1:=((aE.new (o:=.lst []) hp).b (d:=d)).trans sb1
  refine ⟨_,_,rfl,rfl,_,rfl,by omega,by omega,?_⟩
  refine bb (lo:=0) (n:=(1+r).toNat) (fun i σ H'=>∃ (a b:Option V) (W:List L),σ = [some (.ref d),some (.int m),some (.ref p),a,b]∧H' p=some (.lst (bD W))∧W.Perm (fam i)∧Tp H' d c∧bq d H H') ⟨none,none,[],rfl,f1,B8 _,F1,sb1⟩ ?_ ?_
  ·rintro i σ H2 hi ⟨a,b,W,rfl,hW,pW,F2,sb2⟩
   have hi:i < 6:=by omega
   rw [Dh]
   have lW:(bD W).length≤12:=by
    obtain ⟨_,_,c⟩:=ir ⟨i,by omega⟩
    have c:(fam i).length=2*i:=c
    have:=pW.length_eq
    rw [a8]
    omega
   refine ⟨_,rfl,_,_,_,rfl,rfl,(by rw [il];omega),sm_at hi,_,rfl,_,_,_,rfl,rfl,(by rw [l_];omega),xJ hi,?_⟩
   refine ⟨(bZ (n:=2) (by decide)),fun t ht=>?_⟩
   generalize ex:(⟨i,by omega⟩:L)=x
   generalize ey:(⟨i+6,by omega⟩:L)=y
   have htp:t≠p:=(au hW ht).symm
   have htd:t≠d:=F2.ne ht
   refine ⟨t,rfl,⟨_,SqT.of ag⟩,rh (xs:=[tx [x],tx [y]]) (fun j σ H'=>∃ (b:Option V) (W:List L),σ = [some (.ref d),some (.int m),some (.ref p),some (.int (i:Int)),b]∧H' p=some (.lst (bD W))∧W.Perm (fam i++[x,y].take j)∧Tp H' d c∧bq d H H'∧H' t=some (.tup [tx [x],tx [y]])) ⟨b,W,rfl,(aE.new ht) _ _ hW,by rw [List.take_zero,AY];exact pW,F2.new ht,sb2.trans (aE.new ht).b,ag⟩ (fun j σ H' hj ⟨_,_,_,_,_,_,_,q⟩=>SqT.of q) ?_ ?_⟩
   ·rintro j z σ H3 hz ⟨b,W,rfl,hW,pW,F3,sb3,h3⟩
    have hj:j < 2:=by
     have:=(zN.mp hz).1
     exact this
    have lW:(bD W).length≤14:=by
     obtain ⟨_,_,c⟩:=ir ⟨i,by omega⟩
     have c:(fam i).length=2*i:=c
     have:=pW.length_eq
     rw [zI,z9,c] at this
     rw [a8,this]
     simp only [AC,A4]
     omega
    obtain ⟨z',ez,hz'⟩:∃ z',z=tx [z']∧[x,y][j]? = some z':=by
     have:j=0 ∨ j=1:=by omega
     rcases this with rfl | rfl
     ·exact ⟨x,(zP hz).symm,rfl⟩
     ·exact ⟨y,(zP hz).symm,rfl⟩
    subst ez
    refine ⟨_,rfl,.inl ⟨rfl,_,SqL.of hW⟩,_,rfl,_,rfl,p,_,rfl,.inl (SqL.of hW),_,_,rfl,rfl,d,c,_,rfl,F3,by omega,by omega,fun q H4 q0 q1 F4 sb4=>?_⟩
    have h4:=sb4 _ _ hpd hW
    refine ⟨_,rfl,p,_,q,_,rfl,rfl,h4,q0,by omega,by omega,?_⟩
    rw [pz]
    have s5:bq p H4 (upd H4 p (.lst (bD (W.take q.toNat++z'::W.drop q.toNat)))):=bq.upd
    refine ⟨_,_,rfl,ag,?_,F4.but hpd hpc s5,fun b o n e=>s5 _ _ (au e hp) (sb4 _ _ n (sb3 _ _ n e)),s5 _ _ htp (sb4 _ _ htd h3)⟩
    have e:[x,y].take (j+1)=[x,y].take j++[z']:=cO hz'
    rw [e,← zR]
    exact px z' q.toNat pW
   ·rintro σ H3 ⟨b,W,rfl,hW,pW,F3,sb3,h3⟩
    refine ⟨_,_,W,rfl,hW,?_,F3,sb3⟩
    rw [pq hi,ex,ey]
    exact pW
  ·rintro σ H2 ⟨a,b,W,rfl,hW,pW,F2,sb2⟩
   have hl:=pW.length_eq
   obtain ⟨_,_,c⟩:=ir ⟨(1+r).toNat,by omega⟩
   have c:(fam (1+r).toNat).length=2*(1+r).toNat:=c
   refine ⟨rfl,_,rfl,_,p,W.map fun x=>toS [x],rfl,rfl,SqL.of (by rw [hW,cY]),cg _ (by omega),?_⟩
   rw [cf]
   exact k _ _ _ ⟨pW,by omega,by omega⟩ (by omega) F2 sb2
theorem wJ (V0:List L)(y:L):(bD (V0++[y]))[(bD (V0++[y])).length - 1]? = some (tx [y]):=by
 unfold bD
 simp
theorem qh (V0:List L)(y:L):some (HO.lst (bD (V0++[y])).dropLast)=some (HO.lst (bD V0)):=by
 unfold bD
 simp
theorem qi (x y:L)(mid:List L):jx (bD (x::(mid++[y]))) (some 1) (some (-1))=bD mid:=by
 unfold jx
 have hl:(bD (x::(mid++[y]))).length=mid.length+2:=by rw [a8];simp
 have e1:HT.sIx (bD (x::(mid++[y]))).length 0 (some 1)=1:=by
  have q:=HT.fR (bD (x::(mid++[y]))).length 0 1
  rw [show ((1:Nat):Int)=1 from rfl] at q
  rw [q,hl]
  omega
 have e2:HT.sIx (bD (x::(mid++[y]))).length (bD (x::(mid++[y]))).length (some (-1))=mid.length+1:=by
  show (if (-1:Int) < 0 then ((-1:Int)+((bD (x::(mid++[y]))).length:Int)).toNat else min (-1:Int).toNat (bD (x::(mid++[y]))).length)=_
  rw [if_pos (by decide),hl]
  omega
 rw [e1,e2]
 unfold bD
 simp
abbrev fq:Stmt:=top 35
theorem kM:aD ["_law_word","_law_size"] ["_law_word"] (ak fq):=⟨rfl,rfl,rfl,by decide +kernel,rfl,by decide +kernel,by decide +kernel⟩
theorem oA (D:Df K mg "_law_rooted" fq)(T:Bt K w mg aB):Fnc P w K mg base "_law_rooted" ["_law_word"] 1 gT:=by
 have sc:=kM
 refine D.ok sc (fun _ _ _ _ _ _ us hl=>by obtain ⟨_,rfl⟩:=tH hl;rfl) (fun vs H Q E h=>?_) (fun f EJ A outer s H vs Q E hr h=>?_)
 ·obtain ⟨u,rfl,_⟩:=h
  rfl
 ·obtain ⟨u,rfl,hu,k⟩:=h
  have EW:=aX
  have hll:(toS u).length≤sizeLine:=by rw [af];omega
  refine ⟨_,(Ef (Ey AG rfl (@eK _ _ _ _ _ _ _ rfl T.range (Ec ai (Ec (El az (by rfl) T.len Ai (Ec (pv 0) ae)) ae)) (by rfl) (by rfl)) (En (1) sc.nd rfl (Or.inl rfl)) (D_ (Ei (Ej du (Eg fH (Ed cN (pv 0) bw (Ee (pv 1))) (Eg dj (El az (by rfl) T.len Ai (Ec (pv 0) ae)) (pv 1))) (pv 0) (aU _)) (D_ (Ea (Ed cN (pv 0) bw (Ee (pv 1))))) ba))) (D_ (Ea (pv 0)))),?_⟩
  refine ⟨_,rfl,_,rfl,hll,_,_,rfl,(by first | omega | (rw [af];omega)),?_⟩
  rw [af]
  refine bb (lo:=1) (n:=((u.length:Int) - 1).toNat) (fun i σ H'=>∃ v:Option V,σ = [some (tx u),v]∧H'=H) ⟨none,rfl,rfl⟩ ?_ ?_
  ·rintro i σ H1 hi ⟨v,rfl,rfl⟩
   have hi:i+1 < u.length:=by omega
   have e1:(1:Int)+(i:Int)=((i+1:Nat):Int):=by omega
   rw [e1]
   have c1:Txt.slice (toS u) none (some ((i+1:Nat):Int))=toS (u.take (i+1)):=by rw [bp,d7 _ (by omega)];rfl
   have dv:((toS u).length:Int) / ((i+1:Nat):Int)=((u.length / (i+1):Nat):Int):=by rw [af];rfl
   have db:u.length / (i+1)≤u.length:=Nat.div_le_self _ _
   refine ⟨_,rfl,_,rfl,_,rfl,_,rfl,hll,?_⟩
   rw [c1]
   refine ⟨_,rfl,_,rfl,hll,_,rfl,_,_,rfl,rfl,⟨by omega,by omega⟩,?_⟩
   refine ⟨_,((u.length / (i+1):Nat):Int),rfl,Af V.int dv,ik _ (Int.le_trans (by decide) (Int.natCast_nonneg _)) (Int.ofNat_le.mpr (show u.length / (i+1)≤1000 by omega)) (by rw [z9];omega),?_⟩
   rw [l6,AM]
   refine ⟨_,rfl,rfl,_,rfl,?_⟩
   by_cases he:rep (u.length / (i+1)) (u.take (i+1))=u
   ·refine jF (by rw [he];exact zQ rfl) ?_
    refine ⟨_,rfl,_,rfl,_,rfl,_,rfl,hll,?_⟩
    rw [c1]
    exact k _ (by rw [z9];omega) (fun x hx=>A3 hx) fun C=>tj (by rw [he];exact C) (by rw [he];exact Av.mp (by omega))
   ·exact jG (zH fun e=>he (jD e)) ⟨_,rfl,rfl⟩
  ·rintro σ H1 ⟨v,rfl,rfl⟩
   exact ⟨_,rfl,k u (zU _) (fun x hx=>hx) fun C=>C⟩
abbrev jo:Stmt:=top 34
theorem qj:aD ["_law_word","_law_left","_law_sign"] ["_law_word"] (ak jo):=⟨rfl,rfl,rfl,by decide +kernel,rfl,by decide +kernel,by decide +kernel⟩
theorem uf (D:Df K mg "_law_inner" jo)(T:Bt K w mg aB)(EO:Fnc P w K mg base "_law_back" ["_law_word"] 1 kN):Fnc P w K mg base "_law_inner" ["_law_word"] 2 gR:=by
 have sc:=qj
 refine D.ok sc (fun _ _ _ _ _ _ us hl=>by obtain ⟨_,rfl⟩:=tH hl;rfl) (fun vs H Q E h=>?_) (fun f EJ A outer s H vs Q E hr h=>?_)
 ·obtain ⟨u,rfl,_⟩:=h
  rfl
 ·obtain ⟨u,rfl,hu,k⟩:=h
  have EW:=aX
  refine ⟨_,(Ef (Ek (1) sc.nd rfl (Or.inl rfl) (Eb ae)) (Ef (Ey AG rfl (@jC _ _ _ _ (pv 0)) (En (2) sc.nd rfl (Or.inl rfl)) (D_ (Ei (@PW.pt _ _ _ (@qp _ _ _ _ _ _ _ (Ej rk (El aQ (by rfl) T.len Ai (Ec (pv 1) ae)) ai (aU _)) (@kY _ _ _ _ (Ej du (Eh aW (pv 1) (Eo c7 ai) (fun _ _=>rfl)) (Er EO hr (by decide) rfl (Ec (pv 2) ae)) (aU _))))) (D_ (Ex (@qz _ _ _ _ _ _ _ _ _ AS PySem.F.slot_list_pop PySem.F.type_list_pop u4 (pv 1) (by rfl) (by rfl)))) (D_ (Ex (Em AS Ck Cm eN (pv 1) (Ec (pv 2) ae))))))) (Ef (@fO _ _ _ _ _ _ AG (@PW.pt _ _ _ (@qp _ _ _ _ _ _ _ (Ej rk (El aQ (by rfl) T.len Ai (Ec (pv 1) ae)) ai (aU _)) (@kY _ _ _ _ (Ej du (Eh aW (pv 1) ai (fun _ _=>rfl)) (Er EO hr (by decide) rfl (Ec (Eh aW (pv 1) (Eo c7 ai) (fun _ _=>rfl)) ae)) (aU _))))) (D_ (Ek (1) sc.nd rfl (Or.inl rfl) (Ed fT (pv 1) (Ee ai) (Ee (Eo c7 ai)))))) (D_ (Ea (Em Ao BF BG eU bT (Ec (pv 1) ae))))))),?_⟩
  refine ⟨(by show 0≤sizeLine;decide),fun l hl=>?_⟩
  refine ⟨_,rfl,_,rfl,rO (z:=toS u) (fun i σ H'=>∃ (v:Option V) (W:List L),σ = [some (tx u),some (.ref l),v]∧H' l=some (.lst (bD W))∧W.length≤i∧(∀ x∈W,x∈u)∧Wd.Rd W∧aE H H') ⟨none,[],rfl,ag,zU _,(fun x hx=>by cases hx),trivial,aE.new hl⟩ ?_ ?_⟩
  ·rintro i cc σ H1 hc ⟨v,W,rfl,h1,hW,mW,rW,s1⟩
   obtain ⟨x,hx,ex⟩:=dS hc
   rw [ex]
   have hi:i < u.length:=(zN.mp hx).1
   have push:∀ H2,(∀ y,W.getLast? = some y→x≠inv y)→aE H1 H2→∃ (v:Option V) (W':List L),[some (tx u),some (V.ref l),some (V.str (toS [x]))]=[some (tx u),some (V.ref l),v]∧(upd H2 l (.lst (bD W++[V.str (toS [x])]))) l=some (.lst (bD W'))∧W'.length≤i+1∧(∀ x∈W',x∈u)∧Wd.Rd W'∧aE H (upd H2 l (.lst (bD W++[V.str (toS [x])]))):=fun H2 nx s2=>by
    refine ⟨_,W++[x],rfl,?_,by rw [zI];simp;omega,fun y hy=>?_,sZ rW nx,fun b o e=>?_⟩
    ·rw [ag,← cb]
     rfl
    ·rcases z3.mp hy with hy | hy
     ·exact mW y hy
     ·rw [zJ.mp hy]
      exact AF hx
    ·rw [aM (au e hl)]
     exact s2 _ _ (s1 _ _ e)
   refine ⟨_,rfl,l,_,rfl,.inl (SqL.of h1),_,_,rfl,rfl,_,rfl,?_⟩
   by_cases h0:W=[]
   ·subst h0
    refine jG (zH (by simp [bD])) (ur ?_)
    refine ⟨_,rfl,.inl ⟨rfl,_,SqL.of h1⟩,_,rfl,l,_,_,rfl,rfl,h1,(by rw [a8];simp;omega),?_⟩
    exact push H1 (fun y hy=>by simp at hy) (aE.refl _)
   ·obtain ⟨V0,y,rfl⟩:∃ V0 y,W=V0++[y]:=⟨W.dropLast,W.getLast h0,(CV h0).symm⟩
    have hl1:(bD (V0++[y])).length=V0.length+1:=by rw [a8];simp
    have al:atI (bD (V0++[y])) (-1)=some (tx [y]):=by
     unfold bD
     rw [AU]
     exact jy _ _
    refine jF (zQ (by rw [hl1];omega)) ?_
    refine ⟨_,rfl,_,rfl,l,_,_,_,rfl,rfl,SqL.of h1,al,_,rfl,[x],rfl,(by show 1≤5000;decide),fun H2 s2=>?_⟩
    refine ⟨rfl,_,rfl,?_⟩
    rw [dg]
    by_cases hyx:y=inv x
    ·refine jF (by rw [hyx];exact zQ rfl) ?_
     have h2:=s2 _ _ h1
     refine ⟨_,rfl,.inl ⟨rfl,_,SqL.of h2⟩,l,_,_,rfl,rfl,h2,wJ _ _,_,V0,rfl,?_,by simp at hW;omega,fun z hz=>mW z (Aj _ hz),((bF _ _).mp rW).1,fun b o e=>?_⟩
     ·rw [ag,qh]
     ·rw [aM (au e hl)]
      exact s2 _ _ (s1 _ _ e)
    ·refine jG (zH fun e=>hyx (Bo (jD e)).1) ?_
     refine ⟨_,rfl,.inl ⟨rfl,_,SqL.of (s2 _ _ h1)⟩,_,rfl,l,_,_,rfl,rfl,s2 _ _ h1,(by rw [hl1];simp at hW;omega),?_⟩
     exact push H2 (fun z hz e=>hyx (by rw [e,aC];simpa using hz)) s2
  ·rintro σ H1 ⟨v,W,rfl,h1,hW,mW,rW,s1⟩
   rw [bx] at hW
   refine ⟨fun m σ H'=>∃ (v:Option V) (W:List L) (l2:Addr),σ = [some (tx u),some (.ref l2),v]∧H' l2=some (.lst (bD W))∧W.length≤u.length∧(∀ x∈W,x∈u)∧Wd.Rd W∧aE H H'∧m=W.length,⟨_,v,W,l,rfl,h1,hW,mW,rW,s1,rfl⟩,?_⟩
   rintro m σ H2 ⟨v,W,l2,rfl,h2,hW2,mW2,rW2,s2,rfl⟩
   have fin:∀ H3,Cyc W→aE H2 H3→Q (tx W) H3:=fun H3 c s3=>k W H3 hW2 mW2 c (s2.trans s3)
   refine ⟨_,rfl,l2,_,rfl,.inl (SqL.of h2),_,_,rfl,rfl,_,rfl,?_⟩
   rw [a8]
   by_cases g1:1 < W.length
   ·refine jF (zQ (by omega)) ?_
    obtain ⟨x,mid,y,rfl⟩:∃ x mid y,W=x::(mid++[y]):=by
     cases W with
     | nil=>simp at g1
     | cons x r =>
      have hr:r≠[]:=by
       intro e
       subst e
       simp at g1
      exact ⟨x,r.dropLast,r.getLast hr,by rw [CV]⟩
    have a0:atI (bD (x::(mid++[y]))) 0=some (tx [x]):=nM rfl
    have al:atI (bD (x::(mid++[y]))) (-1)=some (tx [y]):=by
     have e:bD (x::(mid++[y]))=bD (x::mid)++[tx [y]]:=by rw [cb];rfl
     rw [e]
     exact jy _ _
    refine ⟨_,rfl,l2,_,_,_,rfl,rfl,SqL.of h2,a0,_,rfl,_,rfl,l2,_,_,_,rfl,rfl,SqL.of h2,al,[y],rfl,(by show 1≤5000;decide),fun H3 s3=>?_⟩
    refine ⟨rfl,_,rfl,?_⟩
    rw [dg]
    by_cases hxy:x=inv y
    ·refine jF (by rw [hxy];exact zQ rfl) ⟨_,fun σ' H' q=>q,?_⟩
     refine ⟨_,rfl,_,rfl,_,rfl,_,rfl,l2,_,rfl,SqL.of (s3 _ _ h2),fun l3 hl3=>?_⟩
     rw [qi]
     refine ⟨mid.length,by simp;omega,v,mid,l3,rfl,ag,by simp at hW2;omega,fun z hz=>mW2 z (zO _ (Aj _ hz)),vS rW2,(s2.trans s3).then hl3,rfl⟩
    ·refine jG (zH fun e=>hxy (Bo (jD e)).1) ?_
     exact ⟨rfl,_,rfl,_,l2,(_:List L).map fun x=>toS [x],rfl,rfl,SqL.of (by rw [s3 _ _ h2,cY]),cg _ (by omega),by rw [cf];exact fin H3 (s_ rW2 hxy) s3⟩
   ·refine jG (zH (by omega)) (ur ?_)
    exact ⟨rfl,_,rfl,_,l2,(_:List L).map fun x=>toS [x],rfl,rfl,SqL.of (by rw [(aE.refl _) _ _ h2,cY]),cg _ (by omega),by rw [cf];exact fin H2 (tf g1) (aE.refl _)⟩
theorem wK {m:Nat}(h:m≤6){x:L}(hx:x∈sg (m:Int)):x.val % 6 < m:=by
 have q:∀ (m:Fin 7) (x:L),x∈([0,1,2,3,4,5]:List L).take m.val++([6,7,8,9,10,11]:List L).take m.val→x.val % 6 < m.val:=by decide
 exact q ⟨m,by omega⟩ x hx
theorem oB {u:List L}{x:L}:∀ {n:Nat},x∈rep n u→x∈u
 | 0,h=>by cases h
 | n+1,h=>by
  have h:x∈rep n u++u:=h
  rcases z3.mp h with h | h
  ·exact oB h
  ·exact h
abbrev yz:Stmt:=top 36
theorem yA:aD ["_law_tape_here","_law_many","_law_long","_law_signs","_law_word","_law_at"] ["_law_tape_here","_law_many","_law_long"] (ak yz):=⟨rfl,rfl,rfl,by decide +kernel,rfl,by decide +kernel,by decide +kernel⟩
theorem zD (D:Df K mg "_law_any_way" yz)(T:Bt K w mg aB)(EG:Fnc P w K mg base "_law_draw" ["_law_tape_here","_law_many"] 1 dW)(Fc:Fnc P w K mg base "_law_inner" ["_law_word"] 2 gR)(EV:Fnc P w K mg base "_law_rooted" ["_law_word"] 1 gT):Fnc P w K mg base "_law_any_way" ["_law_tape_here","_law_many","_law_long"] 3 gU:=by
 have sc:=yA
 refine D.ok sc (fun _ _ _ _ _ _ us hl=>by obtain ⟨_,_,_,rfl⟩:=tI hl;rfl) (fun vs H Q E h=>?_) (fun f EJ A outer s H vs Q E hr h=>?_)
 ·obtain ⟨d,c,m,n,rfl,_⟩:=h
  rfl
 ·obtain ⟨d,c,m0,n,rfl,F,m1,m2,n1,n2,k⟩:=h
  have m1:(1:Int)≤(m0:Int):=by omega
  have m2:(m0:Int)≤6:=by omega
  have k:∀ (v:List L) (H2:Hp),Rnd v→v.length≤n.toNat→(∀ x∈v,x∈sg (m0:Int))→Tp H2 d c→bq d H H2→Q (tx v) H2:=fun v H2 a1 a2 a3=>k v H2 ⟨a1,a2,fun x hx=>wK (by omega) (a3 x hx)⟩
  generalize (m0:Int)=m at m1 m2 k ⊢
  have EW:=aX
  refine ⟨_,(Ef (Ek (3) sc.nd rfl (Or.inr rfl) (Eg bB (Ed cN bT bw (Ee (pv 1))) (Ed cN bT bw (Ee (pv 1))))) (Ef (Ek (4) sc.nd rfl (Or.inl rfl) (Em Ao BF BG eU bT (Ec (@gf _ _ _ _ _ _ _ (["_law_k","_law_signs","_law_tape_here","_law_many"]) (["_law_k"]) ([3,0,1]) _ _ _ _ (@ib _ _ _ _ _ _ rfl (by kernel_rfl)) rfl (Ez rfl T.range (Ec (Eg b_ ai (Er EG hr (by decide) rfl (Ec (pv 0) (Ec (pv 2) ae)))) ae)) (fun _ _ _ _=>En (0) (show (["_law_k","_law_signs","_law_tape_here","_law_many"]:List Str).Nodup from by decide +kernel) rfl (Or.inl rfl)) (fun _ _ _ _=>dD) (fun _ _ _ _=>by (exact (Eh d5 (pv 1) (Er EG hr (by decide) rfl (Ec (pv 2) (Ec (Eg dt ai (pv 3)) ae))) (fun _ _=>rfl)))) (by intro _ ;rfl)) ae))) (Ef (Ei (Ej du (Er EG hr (by decide) rfl (Ec (pv 0) (Ec ai ae))) ai (aU _)) (Ef (Ek (5) sc.nd rfl (Or.inl rfl) (Eg b_ ai (Er EG hr (by decide) rfl (Ec (pv 0) (Ec ai ae))))) (D_ (Ek (4) sc.nd rfl (Or.inl rfl) (Eg bB (Eg fH (Ed cN (pv 4) bw (Ee (pv 5))) (Eg b_ ai (Er EG hr (by decide) rfl (Ec (pv 0) (Ec ai ae))))) (Ed cN (pv 4) (Ee (pv 5)) bw))))) ba) (D_ (Ea (@vn _ _ _ _ _ _ _ (Er EV hr (by decide) rfl (Ec (Er Fc hr (by decide) rfl (Ec (Ed cN (pv 4) bw (Ee (pv 2))) ae)) ae)) (@qr _ _ _ _ _ (Eh d5 (pv 3) ai (fun _ _=>rfl))))))))),?_⟩
  refine ⟨_,rfl,_,rfl,_,rfl,(by rw [il];omega),_,rfl,_,rfl,_,rfl,(by rw [l_];omega),_,_,rfl,rfl,?_,?_⟩
  ·have h1:=CF ("abcdef":Str) none (some m)
   have h2:=CF ("ABCDEF":Str) none (some m)
   rw [il] at h1
   rw [l_] at h2
   omega
  rw [pj m1]
  have hsg:=l8 m1 m2
  refine ⟨rfl,_,rfl,_,rfl,d,c,_,rfl,F,by omega,by omega,fun r H1 r0 r1 F1 sb1=>?_⟩
  refine ⟨_,_,rfl,rfl,_,rfl,by omega,by omega,?_⟩
  refine eS (own:=["_law_k"]) (cap:=[3,0,1]) (J:=Itr 0 (1+r).toNat) (1+r).toNat (fun i ys σ H'=>∃ (v:Option V) (W:List L),σ = [v,some (tx (sg m)),some (.ref d),some (.int m)]∧ys=bD W∧W.length=i∧(∀ x∈W,x∈sg m)∧Tp H' d c∧bq d H H')
   ⟨none,[],rfl,rfl,rfl,(fun x hx=>by cases hx),F1,sb1⟩ (fun i ys σ H' hi ⟨v,W,_,e,e2,_⟩=>by rw [e,a8,e2];exact zU _) (by omega) (fun i ys σ H' hi _=>hi) (fun ys σ H' _=>zU _) ?_ ?_
  ·rintro i ys σ H2 x H3 N hi ⟨v,W,rfl,rfl,hW,mW,F2,sb2⟩ ⟨rfl,rfl⟩ hN
   refine ⟨_,rfl,_,rfl,_,rfl,_,_,rfl,rfl,.inl ⟨by decide,by decide⟩,d,c,_,rfl,F2,by omega,by omega,fun q H4 q0 q1 F4 sb4=>?_⟩
   have hq:q.toNat < (sg m).length:=by omega
   refine ⟨_,_,cp (sg m)[q.toNat],rfl,rfl,(by rw [af];omega),cu (k:=q.toNat) (by omega) (fu hq),hN _ _ _ ⟨_,W++[(sg m)[q.toNat]],rfl,(cb _ _),by rw [zI,hW];rfl,fun x hx=>(z3.mp hx).elim (mW x) (fun hx=>by rw [zJ.mp hx];exact AD hq),F4,sb2.trans sb4⟩⟩
  rintro ys σ H2 l ⟨v,W,rfl,rfl,hW,mW,F2,sb2⟩ hl
  refine ⟨_,l,W.map fun x=>toS [x],rfl,rfl,SqL.of (by rw [ag,cY]),cg _ (by omega),?_⟩
  rw [cf]
  have F3:=F2.new (o:=.lst (bD W)) hl
  have sb3:=sb2.trans (aE.new (o:=.lst (bD W)) hl).b
  generalize upd H2 l (.lst (bD W))=H3 at F3 sb3 ⊢
  have hW15:W.length≤30:=by omega
  -- what comes behind
  have hs0:∃ x,(sg m)[0]? = some x:=⟨(sg m)[0]'(by omega),fu (by omega)⟩
  obtain ⟨x0,hx0⟩:=hs0
  refine ⟨_,rfl,d,c,_,rfl,F3,by decide,by decide,fun q H4 q0 q1 F4 sb4=>?_⟩
  refine ⟨rfl,_,rfl,?_⟩
  have end_:∀ (Z:List L) (H5:Hp),Z.length≤60→Tp H5 d c→bq d H H5→(∀ (v:List L) (H6:Hp),Rnd v→v.length≤n.toNat→(∀ x∈v,x∈sg m)→aE H5 H6→Q (tx v) H6):=fun Z H5 _ F5 sb5 v H6 ne hv mv s6=>k v H6 ne hv mv (F5.same s6) (sb5.trans s6.b)
  refine iU (fun _=>?_) (fun _=>?_)
  ·refine ⟨_,rfl,d,c,_,rfl,F4,by decide,by decide,fun a H5 a0 a1 F5 sb5=>⟨_,_,rfl,rfl,?_⟩⟩
   have c1:Txt.slice (toS W) none (some (1+a))=toS (W.take (1+a).toNat):=by rw [bp,d7 _ (by omega)]
   have c2:Txt.slice (toS W) (some (1+a)) none=toS (W.drop (1+a).toNat):=by rw [bp,jE _ (by omega)]
   refine ⟨_,rfl,_,rfl,_,rfl,_,rfl,(by rw [af];omega),?_⟩
   rw [c1]
   refine ⟨_,rfl,d,c,_,rfl,F5,by decide,by decide,fun b H6 b0 b1 F6 sb6=>⟨_,_,rfl,rfl,?_⟩⟩
   refine ⟨_,_,rfl,rfl,ik _ (by omega) (by omega) (by rw [z9];omega),?_⟩
   rw [l6]
   have hrl:(rep (2+b).toNat (W.take (1+a).toNat)).length≤12:=by
    rw [dQ,z9]
    exact AO (Nat.mul_le_mul (show (2+b).toNat≤4 by omega) (show min (1+a).toNat W.length≤3 by omega)) (by decide)
   have hrm:∀ x∈rep (2+b).toNat (W.take (1+a).toNat),x∈sg m:=fun x hx=>mW x (A3 (oB hx))
   generalize rep (2+b).toNat (W.take (1+a).toNat)=R1 at hrl hrm ⊢
   refine ⟨_,rfl,_,rfl,_,rfl,_,rfl,(by rw [af];omega),?_⟩
   rw [c2]
   refine ⟨_,_,rfl,rfl,(by rw [af,af,Bl];omega),?_⟩
   rw [eV]
   have hZ:(R1++W.drop (1+a).toNat).length≤60:=by rw [zI,Bl];omega
   have hZm:∀ x∈R1++W.drop (1+a).toNat,x∈sg m:=fun x hx=>(z3.mp hx).elim (hrm x) fun hx=>mW x (Bm hx)
   have sb06:=sb3.trans (sb4.trans (sb5.trans sb6))
   generalize R1++W.drop (1+a).toNat=Z at hZ hZm ⊢
   have cz:Txt.slice (toS Z) none (some n)=toS (Z.take n.toNat):=by rw [bp,d7 _ (by omega)]
   refine ⟨_,rfl,_,rfl,_,rfl,_,rfl,(by rw [af];omega),?_⟩
   rw [cz]
   have hzl:(Z.take n.toNat).length≤n.toNat:=by rw [z9];omega
   refine ⟨Z.take n.toNat,rfl,by omega,fun v1 H7 hv1 mv1 cv1 s7=>⟨v1,rfl,by omega,fun v2 hv2 mv2 cv2=>?_⟩⟩
   refine ⟨_,rfl,(by rw [af];omega),iU (fun e2=>end_ Z _ hZ F6 sb06 v2 H7 ((cv2 cv1).rnd (by rintro rfl;exact absurd e2 (by decide))) (by omega) (fun x hx=>hZm x (A3 (mv1 x (mv2 x hx)))) s7) (fun _=>?_)⟩
   refine ⟨_,rfl,_,_,cp x0,rfl,rfl,(by rw [af];omega),cu (k:=0) rfl hx0,?_⟩
   exact end_ Z _ hZ F6 sb06 [x0] H7 (gQ _) (by show 1≤_;omega) (fun x hx=>by rw [zJ.mp hx];exact AF hx0) s7
  ·have hZ:W.length≤60:=by omega
   have sb06:=sb3.trans sb4
   have hZm:=mW
   generalize W=Z at hZ hZm ⊢
   have cz:Txt.slice (toS Z) none (some n)=toS (Z.take n.toNat):=by rw [bp,d7 _ (by omega)]
   refine ⟨_,rfl,_,rfl,_,rfl,_,rfl,(by rw [af];omega),?_⟩
   rw [cz]
   have hzl:(Z.take n.toNat).length≤n.toNat:=by rw [z9];omega
   refine ⟨Z.take n.toNat,rfl,by omega,fun v1 H7 hv1 mv1 cv1 s7=>⟨v1,rfl,by omega,fun v2 hv2 mv2 cv2=>?_⟩⟩
   refine ⟨_,rfl,(by rw [af];omega),iU (fun e2=>end_ Z _ hZ F4 sb06 v2 H7 ((cv2 cv1).rnd (by rintro rfl;exact absurd e2 (by decide))) (by omega) (fun x hx=>hZm x (A3 (mv1 x (mv2 x hx)))) s7) (fun _=>?_)⟩
   refine ⟨_,rfl,_,_,cp x0,rfl,rfl,(by rw [af];omega),cu (k:=0) rfl hx0,?_⟩
   exact end_ Z _ hZ F4 sb06 [x0] H7 (gQ _) (by show 1≤_;omega) (fun x hx=>by rw [zJ.mp hx];exact AF hx0) s7
theorem oD {α:Type}{xs:List α}{j:Int}(h0:0≤j)(h1:j < xs.length):∃ v,v∈xs∧atI xs j=some v:=by
 have hj:j.toNat < xs.length:=by omega
 refine ⟨xs[j.toNat],AD hj,?_⟩
 unfold atI ixN
 rw [if_pos h0,if_pos (by omega)]
 exact fu hj
abbrev jq:Stmt:=top 37
theorem qk:aD ["_law_tape_here","_law_many","_law_most","_law_long","_law_ways","_law_k","_law_word","_law_at"] ["_law_tape_here","_law_many","_law_most","_law_long"] (ak jq):=⟨rfl,rfl,rfl,by decide +kernel,rfl,by decide +kernel,by decide +kernel⟩
theorem ug (D:Df K mg "_law_some_ways" jq)(T:Bt K w mg aB)(EG:Fnc P w K mg base "_law_draw" ["_law_tape_here","_law_many"] 1 dW)(EO:Fnc P w K mg base "_law_back" ["_law_word"] 1 kN)(F_aw:Fnc P w K mg base "_law_any_way" ["_law_tape_here","_law_many","_law_long"] 3 gU):Fnc P w K mg base "_law_some_ways" ["_law_tape_here","_law_many","_law_most","_law_long"] 4 gY:=by
 have sc:=qk
 refine D.ok sc (fun _ _ _ _ _ _ us hl=>by obtain ⟨_,_,_,_,rfl⟩:=q_ hl;rfl) (fun vs H Q E h=>?_) (fun f EJ A outer s H vs Q E hr h=>?_)
 ·obtain ⟨d,c,m,n,rfl,_⟩:=h
  rfl
 ·obtain ⟨d,c,m,n,rfl,F,m1,m2,n1,n2,k⟩:=h
  have EW:=aX
  refine ⟨_,(Ef (Ek (4) sc.nd rfl (Or.inl rfl) (Eb (Ec (Er F_aw hr (by decide) rfl (Ec (pv 0) (Ec (pv 1) (Ec (pv 3) ae)))) ae))) (Ef (Ey AG rfl (Ez rfl T.range (Ec (Er EG hr (by decide) rfl (Ec (pv 0) (Ec (pv 2) ae))) ae)) (En (5) sc.nd rfl (Or.inl rfl)) (Ef (Ek (6) sc.nd rfl (Or.inl rfl) (Er F_aw hr (by decide) rfl (Ec (pv 0) (Ec (pv 1) (Ec (pv 3) ae))))) (Ef (Ei (Ej du (Er EG hr (by decide) rfl (Ec (pv 0) (Ec ai ae))) ai (aU _)) (Ef (Ek (6) sc.nd rfl (Or.inl rfl) (Eh aW (pv 4) (Er EG hr (by decide) rfl (Ec (pv 0) (Ec (El aQ (by rfl) T.len Ai (Ec (pv 4) ae)) ae))) (fun _ _=>rfl))) (Ef (Ek (7) sc.nd rfl (Or.inl rfl) (Er EG hr (by decide) rfl (Ec (pv 0) (Ec (El az (by rfl) T.len Ai (Ec (pv 6) ae)) ae)))) (Ef (Ek (6) sc.nd rfl (Or.inl rfl) (Eh aW (Eb (Ec (pv 6) (Ec (Er EO hr (by decide) rfl (Ec (pv 6) ae)) ae))) (Er EG hr (by decide) rfl (Ec (pv 0) (Ec ai ae))) (fun _ _=>rfl))) (D_ (Ek (6) sc.nd rfl (Or.inl rfl) (Eg bB (Ed cN (pv 6) (Ee (pv 7)) bw) (Ed cN (pv 6) bw (Ee (pv 7))))))))) ba) (D_ (Ex (Em AS Ck Cm eN (pv 4) (Ec (pv 6) ae))))))) (D_ (Ea (@dz _ _ _ _ _ _ _ _ _ dA (by rfl) T.tuple l7 (Ec (pv 4) ae) (by decide) (by decide) (by rfl) (by rfl)))))),?_⟩
  refine ⟨_,rfl,_,rfl,_,rfl,d,c,m,n,rfl,F,m1,m2,n1,by omega,fun v0 H1 g0 F1 sb1=>⟨(bZ (n:=1) (by decide)),fun l hl=>?_⟩⟩
  have hld:=F1.ne hl
  have hlc:=F1.nec hl
  have hlH:H l=none:=by
   cases e:H l with
   | none=>rfl
   | some o =>
    have:=sb1 _ _ hld e
    rw [hl] at this
    cases this
  refine ⟨_,rfl,_,rfl,d,c,3,rfl,F1.new hl,by decide,by decide,fun r H2 r0 r1 F2 sb2=>?_⟩
  have f2:=sb2 _ _ hld (ag (o:=.lst [tx v0]))
  have sb2:=(sb1.trans ((aE.new (o:=.lst [tx v0]) hl).b (d:=d))).trans sb2
  refine ⟨_,rfl,by omega,by omega,?_⟩
  refine bb (lo:=0) (n:=r.toNat) (fun i σ H'=>∃ (a5 a6 a7:Option V) (W:List (List L)),σ = [some (.ref d),some (.int (m:Int)),some (.int 3),some (.int n),some (.ref l),a5,a6,a7]∧H' l=some (.lst (W.map tx))∧W.length=i+1∧(∀ w∈W,GR m 9 w)∧Tp H' d c∧bq d H H') ⟨none,none,none,[v0],rfl,f2,rfl,(fun w hw=>by rw [zJ.mp hw];exact g0.le (by omega)),F2,sb2⟩ ?_ ?_
  ·rintro i σ H3 hi ⟨a5,a6,a7,W,rfl,f3,hW,gW,F3,sb3⟩
   refine ⟨_,rfl,_,rfl,_,rfl,d,c,m,n,rfl,F3,m1,m2,n1,by omega,fun v H4 gv F4 sb4=>?_⟩
   have f4:=sb4 _ _ hld f3
   have sb4:=sb3.trans sb4
   have fin:∀ (w:List L) (a7:Option V) (H':Hp),GR m 9 w→H' l=some (.lst (W.map tx))→Tp H' d c→bq d H H'→∃ (a5 a6 a7':Option V) (W':List (List L)),[some (V.ref d),some (.int (m:Int)),some (.int 3),some (.int n),some (.ref l),some (.int (0+(i:Int))),some (tx w),a7]=[some (V.ref d),some (.int (m:Int)),some (.int 3),some (.int n),some (.ref l),a5,a6,a7']∧(upd H' l (.lst (W.map tx++[tx w]))) l=some (.lst (W'.map tx))∧W'.length=i+1+1∧(∀ w∈W',GR m 9 w)∧Tp (upd H' l (.lst (W.map tx++[tx w]))) d c∧bq d H (upd H' l (.lst (W.map tx++[tx w]))):=by
    intro w a7 H' hw f' F' sb'
    refine ⟨_,_,_,W++[w],rfl,by rw [ag,AU];rfl,by rw [zI,hW];rfl,fun x hx=>?_,F'.but hld hlc bq.upd,fun b o nb e=>?_⟩
    ·rcases z3.mp hx with hx | hx
     ·exact gW x hx
     ·rw [zJ.mp hx];exact hw
    ·rw [aM (au e hlH)];exact sb' _ _ nb e
   refine ⟨_,rfl,d,c,_,rfl,F4,by decide,by decide,fun q H5 q0 q1 F5 sb5=>⟨rfl,_,rfl,?_⟩⟩
   have f5:=sb5 _ _ hld f4
   have sb5:=sb4.trans sb5
   refine iU (fun _=>?_) (fun _=>?_)
   ·refine ⟨_,rfl,_,rfl,_,rfl,l,_,rfl,.inl (SqL.of f5),d,c,_,rfl,F5,by rw [zV];omega,by rw [zV];omega,fun j H6 j0 j1 F6 sb6=>?_⟩
    have f6:=sb6 _ _ hld f5
    have sb6:=sb5.trans sb6
    obtain ⟨x,hx,ax⟩:=oD j0 j1
    obtain ⟨w0,hw0,rfl⟩:=AE.mp hx
    have gw:=gW w0 hw0
    have wl:=gw.2.1
    have wp:0 < w0.length:=Av.mpr gw.1.ne
    refine ⟨l,_,_,_,rfl,rfl,SqL.of f6,ax,?_⟩
    refine ⟨_,rfl,_,rfl,_,rfl,(by rw [af];omega),d,c,_,rfl,F6,by rw [af];omega,by rw [af];omega,fun a H7 a0 a1 F7 sb7=>?_⟩
    have f7:=sb7 _ _ hld f6
    have sb7:=sb6.trans sb7
    refine ⟨_,rfl,_,rfl,w0,rfl,by omega,fun H8 s8=>⟨(bZ (n:=2) (by decide)),fun p hp=>?_⟩⟩
    have s9:=s8.then (o:=.lst [tx w0,tx (bk w0)]) hp
    have f9:=s9 _ _ f7
    have F9:=F7.same s9
    have sb9:=sb7.trans s9.b
    have hpd:=(F7.same s8).ne hp
    refine ⟨_,rfl,d,c,_,rfl,F9,by decide,by decide,fun b H10 b0 b1 F10 sb10=>?_⟩
    have f10:=sb10 _ _ hld f9
    have g10:=sb10 _ _ hpd (ag (o:=.lst [tx w0,tx (bk w0)]))
    have sb10:=sb9.trans sb10
    obtain ⟨x,hx,ax⟩:=oD (xs:=[tx w0,tx (bk w0)]) b0 b1
    obtain ⟨w1,g1,rfl⟩:∃ w1,GR m 9 w1∧x=tx w1:=by
     rcases Ae.mp hx with rfl | hx
     ·exact ⟨w0,gw,rfl⟩
     ·rw [zJ.mp hx]
      exact ⟨_,gw.bk,rfl⟩
    have w1l:=g1.2.1
    refine ⟨p,_,_,_,rfl,rfl,SqL.of g10,ax,?_⟩
    have c1:Txt.slice (toS w1) none (some a)=toS (w1.take a.toNat):=by rw [bp,d7 _ (by omega)]
    have c2:Txt.slice (toS w1) (some a) none=toS (w1.drop a.toNat):=by rw [bp,jE _ (by omega)]
    refine ⟨_,rfl,_,rfl,_,rfl,_,rfl,(by rw [af];omega),?_⟩
    rw [c2]
    refine ⟨_,rfl,_,rfl,_,rfl,_,rfl,(by rw [af];omega),?_⟩
    rw [c1]
    refine ⟨_,_,rfl,rfl,(by rw [af,af,Bl,z9];omega),?_⟩
    rw [eV]
    refine ⟨_,rfl,.inl ⟨rfl,_,SqL.of f10⟩,_,rfl,l,_,_,rfl,rfl,f10,by rw [zV];omega,?_⟩
    exact fin _ _ _ (g1.turn _) f10 F10 sb10
   ·refine ⟨_,rfl,.inl ⟨rfl,_,SqL.of f5⟩,_,rfl,l,_,_,rfl,rfl,f5,by rw [zV];omega,?_⟩
    exact fin _ _ _ (gv.le (by omega)) f5 F5 sb5
  ·rintro σ H3 ⟨a5,a6,a7,W,rfl,f3,hW,gW,F3,sb3⟩
   refine ⟨_,rfl,l,_,rfl,.inl ⟨SqL.of f3,fun p hp=>?_⟩⟩
   exact k p W _ (F3.new hp) (sb3.trans (aE.new hp).b) ag (by omega) (by omega) gW
abbrev oE:Stmt:=top 38
theorem uh:aD ["_law_surface","_law_ways","_law_i","_law_j","_law_many","_law_weight"] ["_law_surface","_law_ways","_law_i","_law_j"] (ak oE):=⟨rfl,rfl,rfl,by decide +kernel,rfl,by decide +kernel,by decide +kernel⟩
theorem wL (D:Df K mg "_law_pair_right" oE)(T:Bt K w mg aB)(EN:Fnc P w K mg base "links" ["surface","ways","i","j"] 6 gN)(E9:Fnc P w K mg base "balance" ["surface","one","other"] 4 tG):Fnc P w K mg base "_law_pair_right" ["_law_surface","_law_ways","_law_i","_law_j"] 7 gZ:=by
 have sc:=uh
 refine D.ok sc (fun _ _ _ _ _ _ us hl=>by obtain ⟨_,_,_,_,rfl⟩:=q_ hl;rfl) (fun vs H Q E h=>?_) (fun f EJ A outer s H vs Q E hr h=>?_)
 ·obtain ⟨u,a,n,W,i,j,rfl,_⟩:=h
  rfl
 ·obtain ⟨u,a,n,W,i,j,rfl,U,hW,i0,ij,j1,k⟩:=h
  have EW:=aX
  obtain ⟨_,ati,_,li,_,_⟩:=hW.ok.get i0 (show i < (W.length:Int) by omega)
  obtain ⟨_,atj,_,lj,_,_⟩:=hW.ok.get (show 0≤j by omega) j1
  refine ⟨_,(Ef (Ek (4) sc.nd rfl (Or.inl rfl) (El aQ (by rfl) T.len Ai (Ec (Er EN hr (by decide) rfl (Ec (pv 0) (Ec (pv 1) (Ec (pv 2) (Ec (pv 3) ae))))) ae))) (Ef (Ek (5) sc.nd rfl (Or.inl rfl) (Er E9 hr (by decide) rfl (Ec (pv 0) (Ec (Eh aT (pv 1) (pv 2) (fun _ _=>rfl)) (Ec (Eh aT (pv 1) (pv 3) (fun _ _=>rfl)) ae))))) (Ef (Ei (Ej du (pv 2) (pv 3) (aU _)) (D_ (Ea (Es du (pv 5) ai (aU _)))) ba) (D_ (Ea (@uG _ _ _ _ _ _ _ (Es xj (El oT (by rfl) T.abs xF (Ec (pv 5) ae)) (pv 4) (aU _)) (@qr _ _ _ _ _ (Es du (Eg cK (Eg fy (pv 4) (pv 5)) ai) ai (aU _))))))))),?_⟩
  refine ⟨_,rfl,_,rfl,_,rfl,_,rfl,u,a,n,W,i,j,rfl,U,hW,i0,by omega,by omega,j1,fun l zs H1 n1 s1 f1 k1 e1 w1=>?_⟩
  refine ⟨l,_,rfl,.inl (SqL.of f1),?_⟩
  have hl:(((zs.map (·.1)).map V.ref).length:Int)=((iB u W i j (wyZ W i).length).length:Nat):=by
   have:=e1.length_eq
   simp only [zV] at this ⊢
   omega
  rw [hl]
  have fa:=s1 _ _ hW.at_
  refine ⟨_,rfl,_,rfl,_,rfl,a,_,_,_,rfl,rfl,SqT.of fa,ati,_,rfl,_,rfl,a,_,_,_,rfl,rfl,SqT.of fa,atj,?_⟩
  refine ⟨u,wyZ W i,wyZ W j,n,rfl,U,by omega,by omega,fun H2 s2=>?_⟩
  refine ⟨_,rfl,_,rfl,rfl,_,rfl,?_⟩
  have s02:=s1.trans s2
  by_cases e:i=j
  ·subst e
   refine (Af (fun b=>cJ _ _ _ _ b _) (zQ (rfl:V.int i=V.int i))).mpr (uv ⟨_,rfl,rfl,?_⟩)
   refine (Af (fun b=>Q (V.bl b) H2) (zQ (Af V.int (pB u n (wyZ W i))))).mpr (k _ s02)
  ·refine (Af (fun b=>cJ _ _ _ _ b _) (zH (fun z:V.int i=V.int j=>e (V.int.inj z)))).mpr (p5 ?_)
   obtain ⟨b1,b2⟩:=v_ U (hW.ok.wo i0 (show i < (W.length:Int) by omega)) (hW.ok.wo (show 0≤j by omega) j1)
   rw [← qW (u:=u) (W:=W) (show i < j by omega)] at b1 b2
   generalize bal u n (wyZ W i) (wyZ W j)=B at *
   generalize (iB u W i j (wyZ W i).length).length=M at *
   refine ⟨_,rfl,_,rfl,_,rfl,_,_,rfl,rfl,?_⟩
   have h1:decide ((if B < 0 then -B else B)≤(M:Int))=true:=zQ (by split <;> omega)
   rw [h1]
   refine ⟨true,rfl,xx ⟨_,rfl,_,rfl,_,_,rfl,rfl,_,_,rfl,rfl,by decide,rfl,?_⟩⟩
   refine (Af (fun b=>Q (V.bl b) H2) (zQ (Af V.int (show ((M:Int) - B) % 2=0 from b2)))).mpr (k _ s02)
end
inductive oF (K:PySem.W.Frag)(vs:List V)(H:Hp)(Q:VK)(EM:XK):Prop
 | mk:∀ (a:Addr) (ns:List Int),(vs=[.ref a])→(SqL K H a (ns.map V.int))→(ns.length≤63)→(∀ H',Q (.bl true) H')→oF K vs H Q EM
section
variable {P:Program} {w:World} {K:PySem.W.Frag} {mg:Str→Option Value} {base:Heap} {aB:Addr}
theorem wM {H:Hp}{d c a:Addr}{xs:List V}(F:Tp H d c)(h:H a=some (.tup xs)):a≠d:=by
 obtain ⟨i,l,t,ns,h1,_⟩:=F.ex
 exact uC h h1 (by intro z;cases z)
theorem uk {t u:TS}{D:iM}{σ:L2.St}{H:Hp}(R:L2.St→Hp→Prop)(h1:∀ nx:L2.St→Hp→Prop,(∀ σ2 H2,R σ2 H2→nx σ2 H2)→t ⟨nx,D.rt,D.bk,D.ct⟩ σ H)(h2:∀ σ2 H2,R σ2 H2→u D σ2 H2):yD t u D σ H:=h1 _ h2
theorem um {nx:L2.St→Hp→Prop}{rt:VK}{bk ct:L2.St→Hp→Prop}{i:Nat}{σ:L2.St}{x:V}{H:Hp}(h:nx (σ.set i (some x)) H):iQ (oP i) ⟨nx,rt,bk,ct⟩ σ x H:=h
theorem ke {h:List L}:∀ {Ws:List (List L)},h∈Ws→h.length≤Ws.flatten.length
 | w::r,hm=>by
  rw [Bv,zI]
  rcases Ae.mp hm with rfl | hm
  ·omega
  ·have:=ke hm
   omega
abbrev iL:Stmt:=top 39
theorem wN:aD ["_law_script","_law_tape_here","_law_k","_law_surface","_law_ways","_law_i","_law_j","_law_hole","_law_both"] ["_law_script"] (ak iL):=⟨rfl,rfl,rfl,by decide +kernel,rfl,by decide +kernel,by decide +kernel⟩
theorem yB {f:Addr}{fd:FuncData}(D:Fun K "law" "law" iL f fd)(T:Bt K w mg aB)(F_tape:Fnc P w K mg base "_law_tape" ["_law_script"] 1 (mD K))(EG:Fnc P w K mg base "_law_draw" ["_law_tape_here","_law_many"] 1 dW)(F_row:Fnc P w K mg base "_law_any_row" ["_law_tape_here","_law_most"] 2 qT)(F_aw:Fnc P w K mg base "_law_any_way" ["_law_tape_here","_law_many","_law_long"] 3 gU)(Fb:Fnc P w K mg base "_law_some_ways" ["_law_tape_here","_law_many","_law_most","_law_long"] 4 gY)
  (EN:Fnc P w K mg base "links" ["surface","ways","i","j"] 6 gN) (E9:Fnc P w K mg base "balance" ["surface","one","other"] 4 tG) (Fd:Fnc P w K mg base "holes" ["surface"] 3 iX) (F_pair:Fnc P w K mg base "_law_pair_right" ["_law_surface","_law_ways","_law_i","_law_j"] 7 gZ):kl P w K mg base CX0 8 f fd ["_law_script"] (oF K):=by
 have sc:=wN
 refine D.ok sc (fun vs H Q E h=>?_) (fun EJ A outer s H vs Q E hr h=>?_)
 ·obtain ⟨a,ns,rfl,_⟩:=h
  rfl
 ·obtain ⟨a,ns,rfl,hS,hlen,q⟩:=h
  have EW:=aX
  refine ⟨_,(Ef (Ek (1) sc.nd rfl (Or.inl rfl) (Er F_tape hr (by decide) rfl (Ec (pv 0) ae))) (Ef (Ey AG rfl (Ez rfl T.range (Ec ai ae)) (En (2) sc.nd rfl (Or.inl rfl)) (Ef (Ek (3) sc.nd rfl (Or.inl rfl) (Er F_row hr (by decide) rfl (Ec (pv 1) (Ec ai ae)))) (Ef (Ek (4) sc.nd rfl (Or.inl rfl) (Er Fb hr (by decide) rfl (Ec (pv 1) (Ec (Eg dj (El az (by rfl) T.len Ai (Ec (pv 3) ae)) ai) (Ec ai (Ec (Eh aW (Eb (Ec ai (Ec ai (Ec ai ae)))) (Er EG hr (by decide) rfl (Ec (pv 1) (Ec ai ae))) (fun _ _=>rfl)) ae)))))) (Ef (Ek (4) sc.nd rfl (Or.inl rfl) (Eg sQ (pv 4) (Et (Ec (Er F_aw hr (by decide) rfl (Ec (pv 1) (Ec (Eg dj (El az (by rfl) T.len Ai (Ec (pv 3) ae)) ai) (Ec ai ae)))) ae)))) (Ef (Ey AG rfl (Ez rfl T.range (Ec (El aQ (by rfl) T.len Ai (Ec (pv 4) ae)) ae)) (En (5) sc.nd rfl (Or.inl rfl)) (D_ (Ey AG rfl (@eK _ _ _ _ _ _ _ rfl T.range (Ec (pv 5) (Ec (El aQ (by rfl) T.len Ai (Ec (pv 4) ae)) ae)) (by rfl) (by rfl)) (En (6) sc.nd rfl (Or.inl rfl)) (D_ (Ei (@qq _ _ _ _ (@dy _ _ _ (Er F_pair hr (by decide) rfl (Ec (pv 3) (Ec (pv 4) (Ec (pv 5) (Ec (pv 6) ae))))) (fun _=>rfl))) (D_ (Ea kg)) ba))))) (D_ (Ey AG rfl (@rg _ _ _ _ (Er Fd hr (by decide) rfl (Ec (pv 3) ae))) (En (7) sc.nd rfl (Or.inl rfl)) (Ef (Ek (8) sc.nd rfl (Or.inl rfl) (Et (Ec (pv 7) (Ec (Eh aT (pv 4) ai (fun _ _=>rfl)) ae)))) (Ef (Ei (@PW.pt _ _ _ (@uF _ _ _ _ _ _ _ (Ej (@iq _ (by exact hr.units)) (Er EN hr (by decide) rfl (Ec (pv 3) (Ec (pv 8) (Ec ai (Ec ai ae))))) (Eb ae) (aU _)) (@qo _ _ _ _ (Ej (@iq _ (by exact hr.units)) (Er EN hr (by decide) rfl (Ec (pv 3) (Ec (pv 8) (Ec ai (Ec ai ae))))) (Eb ae) (aU _))))) (D_ (Ea kg)) ba) (D_ (Ei (Ej rj (Er E9 hr (by decide) rfl (Ec (pv 3) (Ec (pv 7) (Ec (Eh aT (pv 4) ai (fun _ _=>rfl)) ae)))) ai (aU _)) (D_ (Ea kg)) ba))))))))))) (D_ (Ea kg)))),?_⟩
  refine ⟨_,rfl,a,ns,rfl,hS,hlen,fun d c H1 _ _ F1 _=>?_⟩
  refine ⟨_,rfl,by decide,by decide,bb (lo:=0) (n:=4) (fun i σ H'=>∃ (b2 b3 b4 b5 b6 b7 b8:Option V),σ = [some (.ref a),some (.ref d),b2,b3,b4,b5,b6,b7,b8]∧Tp H' d c) ⟨none,none,none,none,none,none,none,rfl,F1⟩ ?_ ?_⟩
  ·rintro i σ H1 hi ⟨b2,b3,b4,b5,b6,b7,b8,rfl,F1⟩
   refine ⟨_,rfl,d,c,_,rfl,F1,by decide,by decide,fun u n H2 U hn F2 _=>?_⟩
   have hul:=U.len
   have h1:=U.lo
   have h6:=U.hi
   have hll:(toS u).length≤sizeLine:=by rw [af];omega
   have e2:((toS u).length:Int) / 2=(n:Int):=by rw [af];omega
   refine ⟨_,rfl,_,rfl,_,rfl,hll,_,_,rfl,rfl,⟨by decide,by decide⟩,?_⟩
   rw [e2]
   refine ⟨(bZ (n:=3) (by decide)),fun l0 hl0=>⟨_,rfl,d,c,_,rfl,F2.new hl0,by decide,by decide,fun y H3 y0 y1 F3 sb3=>?_⟩⟩
   have f3:=sb3 _ _ (F2.ne hl0) (ag (o:=.lst [.int 3,.int 6,.int 9]))
   obtain ⟨lng,ax,lo,hi2⟩:∃ z:Int,atI [V.int 3,.int 6,.int 9] y=some (.int z)∧1≤z∧z≤9:=by
    have:y=0 ∨ y=1 ∨ y=2:=by omega
    rcases this with rfl | rfl | rfl
    ·exact ⟨3,eM (j:=0) rfl,by decide,by decide⟩
    ·exact ⟨6,eM (j:=1) rfl,by decide,by decide⟩
    ·exact ⟨9,eM (j:=2) rfl,by decide,by decide⟩
   refine ⟨l0,_,_,_,rfl,rfl,SqL.of f3,ax,?_⟩
   refine ⟨d,c,n,lng,rfl,F3,h1,h6,lo,hi2,fun aw W0 H5 F5 sb5 g5 w1 w3 gW0=>?_⟩
   have had0:aw≠d:=wM F5 g5
   refine ⟨_,rfl,_,rfl,_,rfl,_,rfl,hll,_,_,rfl,rfl,⟨by decide,by decide⟩,?_⟩
   rw [e2]
   refine ⟨d,c,n,5,rfl,F5,h1,h6,by decide,by decide,fun v6 H6 gv6 F6 sb6=>⟨(bZ (n:=1) (by decide)),fun t6 ht6=>?_⟩⟩
   have g6:=aE.new (o:=.tup [tx v6]) ht6 _ _ (sb6 _ _ had0 g5)
   refine ⟨aw,t6,_,_,rfl,rfl,g6,ag,(by rw [zV];show _+1≤_;omega),fun a7 H7 s7 f7=>?_⟩
   have F7:=(F6.new (o:=.tup [tx v6]) ht6).same s7
   obtain ⟨w0,r0,rfl⟩:∃ w0 r0,W0=w0::r0:=by
    cases W0 with
    | nil=>exact absurd w1 (by decide)
    | cons v r=>exact ⟨v,r,rfl⟩
   have em:(w0::r0).map tx++[tx v6]=((w0::r0)++[v6]).map tx:=by rw [AU];rfl
   rw [em] at f7
   have gW:∀ v∈(w0::r0)++[v6],GR n 9 v:=fun v hv=>by
    rcases z3.mp hv with hv | hv
    ·exact gW0 v hv
    ·rw [zJ.mp hv];exact gv6.le (by decide)
   have wl:((w0::r0)++[v6]).length≤4:=by rw [zI];show _+1≤4;omega
   have hR:WyR n ((w0::r0)++[v6]):=⟨wl,by rw [zI];show 1≤_+1;omega,fun v hv=>(gW v hv).le (by decide)⟩
   have g0:=gW w0 zX
   have at0:atI (((w0::r0)++[v6]).map tx) 0=some (tx w0):=eM (j:=0) rfl
   generalize hWW:(w0::r0)++[v6]=W at f7 hR at0 wl gW
   clear gW em sb6 g6
   refine um (uk (fun σ H'=>∃ (b5 b6:Option V),σ = [some (.ref a),some (.ref d),some (.int (0+(i:Int))),some (tx u),some (.ref a7),b5,b6,b7,b8]∧aE H7 H') ?_ ?_)
   ·intro nx hn
    refine ⟨_,rfl,a7,_,rfl,.inr (SqT.of f7),_,rfl,?_⟩
    rw [zV]
    refine ⟨by omega,by omega,?_⟩
    refine bb (lo:=0) (n:=(W.length:Int).toNat) (fun _ σ H'=>∃ (b5 b6:Option V),σ = [some (.ref a),some (.ref d),some (.int (0+(i:Int))),some (tx u),some (.ref a7),b5,b6,b7,b8]∧aE H7 H') ⟨b5,b6,rfl,aE.refl _⟩ ?_ ?_
    ·rintro i2 σ H8 hi2 ⟨b5,b6,rfl,s8⟩
     rw [show (0:Int)+(i2:Int)=(i2:Int) by omega]
     refine ⟨_,rfl,_,rfl,a7,_,rfl,.inr (SqT.of (s8 _ _ f7)),?_⟩
     rw [zV]
     refine ⟨_,_,rfl,⟨by omega,by omega,by omega,by omega⟩,?_⟩
     refine bb (lo:=(i2:Int)) (n:=((W.length:Int) - (i2:Int)).toNat) (fun _ σ H'=>∃ (b6:Option V),σ = [some (.ref a),some (.ref d),some (.int (0+(i:Int))),some (tx u),some (.ref a7),some (.int (i2:Int)),b6,b7,b8]∧aE H7 H') ⟨b6,rfl,s8⟩ ?_ ?_
     ·rintro j2 σ H9 hj2 ⟨b6,rfl,s9⟩
      refine ⟨_,rfl,_,rfl,_,rfl,_,rfl,u,a7,n,W,(i2:Int),(i2:Int)+(j2:Int),rfl,U,⟨s9 _ _ f7,hR⟩,by omega,by omega,by omega,fun HA sA=>⟨_,rfl,nkT (p5 ⟨_,rfl,s9.trans sA⟩)⟩⟩
     ·rintro σ H9 ⟨b6,rfl,s9⟩
      exact ⟨_,_,rfl,s9⟩
    ·rintro σ H8 ⟨b5,b6,rfl,s8⟩
     exact hn _ _ ⟨b5,b6,rfl,s8⟩
   ·rintro σ H8 ⟨b5,b6,rfl,s8⟩
    refine ⟨_,rfl,u,rfl,U.srf,fun l9 H9 n9 fl9 s9=>?_⟩
    have s79:=s8.trans s9
    refine ⟨l9,rfl,⟨_,SqL.of fl9⟩,oR (xs:=(hol u).map tx) (fun _ σ H'=>∃ (b7 b8:Option V),σ = [some (.ref a),some (.ref d),some (.int (0+(i:Int))),some (tx u),some (.ref a7),b5,b6,b7,b8]∧aE H9 H') ⟨b7,b8,rfl,aE.refl _⟩ (fun _ σ H' hi ⟨_,_,_,e⟩=>SqL.of (e _ _ fl9)) ?_ ?_⟩
    ·rintro m x σ HA hx ⟨b7,b8,rfl,sA⟩
     obtain ⟨h,hh,rfl⟩:∃ w,w∈hol u∧x=tx w:=by
      obtain ⟨w,hw,e⟩:=AE.mp (AF hx)
      exact ⟨w,hw,e.symm⟩
     have s7A:=s79.trans sA
     have hrnd:=oi U.srf hh
     have hin:InM n h:=fun x hx=>(U.mem x).mp (bO U.srf _ h hh x hx)
     have hlen:h.length≤12:=by
      have h1:=((fL U.srf).cy h hh).nd
      have h2:=(fL U.srf).pm.length_eq
      have h3:h.length≤(hol u).flatten.length:=ke hh
      omega
     refine ⟨_,rfl,_,rfl,a7,_,_,_,rfl,rfl,SqT.of (s7A _ _ f7),at0,(bZ (n:=2) (by decide)),fun tB hB=>?_⟩
     have sB:=s7A.then (o:=.tup [tx h,tx w0]) hB
     have sAB:aE H9 (upd HA tB (.tup [tx h,tx w0])):=sA.then hB
     have fB:(upd HA tB (.tup [tx h,tx w0])) tB=some (.tup ([h,w0].map tx)):=ag
     generalize upd HA tB (.tup [tx h,tx w0])=HB at sB fB sAB ⊢
     have hRB:WyR n [h,w0]:=⟨by show 2≤4;decide,by show 1≤2;decide,fun v hv=>by
      simp only [Ae,Ax,BN] at hv
      rcases hv with rfl | rfl
      ·exact ⟨hrnd,by omega,hin⟩
      ·exact g0.le (by decide)⟩
     have Ah:Wo n h:=⟨hrnd,hin⟩
     have Aw:Wo n w0:=⟨g0.1,g0.2.2⟩
     have z00:(iB u [h,w0] 0 0 (wyZ [h,w0] 0).length).length=0:=by
      have:=vZ (W:=[h,w0]) (i:=0) U Ah
      have e:NN u (wyZ [h,w0] 0) (wyZ [h,w0] 0)=0:=oj U hh Ah
      omega
     have z01:(iB u [h,w0] 0 1 (wyZ [h,w0] 0).length).length=0:=by
      rw [qW (by decide)]
      exact oj U hh Aw
     refine ⟨_,rfl,_,rfl,u,tB,n,[h,w0],0,0,rfl,U,⟨fB,hRB⟩,by decide,(by show (0:Int) < 2;decide),by decide,(by show (0:Int) < 2;decide),fun lC zC HC nC sC fC kC eC wC=>?_⟩
     have emC:zC=[]:=A7 (by have:=eC.length_eq;rw [zV,z00] at this;exact this)
     subst emC
     refine ⟨(bZ (n:=0) (by decide)),fun pC hpC=>⟨lC,pC,_,rfl,rfl,aE.new hpC _ _ fC,ag,_,rfl,zp ?_⟩⟩
     have sD:=sC.then (o:=.lst []) hpC
     generalize upd HC pC (.lst [])=HD at sD ⊢
     refine ⟨_,rfl,_,rfl,u,tB,n,[h,w0],0,1,rfl,U,⟨sD _ _ fB,hRB⟩,by decide,(by show (0:Int) < 2;decide),by decide,(by show (1:Int) < 2;decide),fun lE zE HE nE sE fE kE eE wE=>?_⟩
     have emE:zE=[]:=A7 (by have:=eE.length_eq;rw [zV,z01] at this;exact this)
     subst emE
     refine ⟨(bZ (n:=0) (by decide)),fun pE hpE=>⟨lE,pE,_,rfl,rfl,aE.new hpE _ _ fE,ag,_,rfl,p5 ?_⟩⟩
     have sF:=sD.trans (sE.then (o:=.lst []) hpE)
     generalize upd HE pE (.lst [])=HF at sF ⊢
     refine ⟨_,rfl,_,rfl,_,rfl,a7,_,_,_,rfl,rfl,SqT.of (sF _ _ (sB _ _ f7)),at0,?_⟩
     refine ⟨u,h,w0,n,rfl,U,by omega,by have:=g0.2.1;omega,fun HG sG=>?_⟩
     refine ⟨rfl,_,rfl,?_⟩
     refine (Af (fun b=>cJ _ _ _ _ b _) (show (!decide (V.int (bal u n h w0)=V.int 0))=false by rw [pF U hh,zQ rfl];rfl)).mpr (p5 ?_)
     exact ⟨_,_,rfl,(sAB.trans sF).trans sG⟩
    ·rintro σ HA ⟨b7,b8,rfl,sA⟩
     exact ⟨_,_,_,_,_,_,_,rfl,F7.same (s79.trans sA)⟩
  ·rintro σ H1 ⟨b2,b3,b4,b5,b6,b7,b8,rfl,F1⟩
   exact q _
end
theorem yC {K:PySem.W.Frag}{h:Heap}{mg:Str→Option Value}{x:Str}{st:Stmt}{f:Addr}{oc:Value}{od an:Option Addr}{osl:Array (Option Value)}{kV doc pm EJ ct:Value}(X:K.In h)(G:h.Ns mainGlobals mg)(a:PySem.W.nsIn K mainGlobals x=some (some (.ref f)))
  (l:K.lookup f=some ⟨oc,od,.func (PySem.W.fnOf x x (bX st) (bH st) (ak st) .none kV doc pm an EJ ct),osl⟩) (c:PySem.W.codeIn K EJ x=true) (k:PySem.W.keepIn K (.ref f)=true):Df K mg x st:=⟨f,_,CQ X G a,qA l c k⟩
inductive DI (K:PySem.W.Frag)(x:Str)(st:Stmt):Prop
 | mk {f:Addr} {oc:Value} {od an:Option Addr} {osl:Array (Option Value)} {kV doc pm EJ ct:Value} (a:PySem.W.nsIn K mainGlobals x=some (some (.ref f))) (l:K.lookup f=some ⟨oc,od,.func (PySem.W.fnOf x x (bX st) (bH st) (ak st) .none kV doc pm an EJ ct),osl⟩) (c:PySem.W.codeIn K EJ x=true) (k:PySem.W.keepIn K (.ref f)=true):DI K x st
theorem DI.df {K:PySem.W.Frag}{h:Heap}{mg:Str→Option Value}{x:Str}{st:Stmt}(d:DI K x st)(X:K.In h)(G:h.Ns mainGlobals mg):Df K mg x st:=by
 cases d with
 | mk a l c k=>exact yC X G a l c k
inductive DL where
 | n
 | c (x:Str) (st:Stmt) (r:DL)
def DIs (K:PySem.W.Frag):DL→Prop
 | .n=>True
 | .c x st r=>DI K x st∧DIs K r
theorem DIs.on {K:PySem.W.Frag}{x:Str}{st:Stmt}{r:DL}{f:Addr}{oc:Value}{od an:Option Addr}{osl:Array (Option Value)}{kV doc pm EJ ct:Value}(a:PySem.W.nsIn K mainGlobals x=some (some (.ref f)))(l:K.lookup f=some ⟨oc,od,.func (PySem.W.fnOf x x (bX st) (bH st) (ak st) .none kV doc pm an EJ ct),osl⟩)(c:PySem.W.codeIn K EJ x=true)(k:PySem.W.keepIn K (.ref f)=true)(hr:DIs K r):DIs K (.c x st r):=⟨.mk a l c k,hr⟩
theorem wO {l:PySem.W.OpenLaw}{w:World}{K:PySem.W.Frag}{h:Heap}{mg:Str→Option Value}{fa:Addr}(X:K.In h)(G:h.Ns mainGlobals mg)(hfa:mg "law" = some (.ref fa))
  {f29:Addr} {od29 an29:Option Addr} {sl29:Array (Option Value)} {oc29 kV29 dc29 pm29 cd29 ct29:Value} {aB:Addr} {es:Array DictEntry} {en:Nat} {tS:Tok}  {t0 t1 t2 t3 t4 t5 t6 t7 t8 t9 t10 t11:Tok}
  (hs:DIs K (.c "back" oq <| .c "sums" ox <| .c "letters_of" t_ <| .c "round_from" yf <| .c "are_met_by_turns" tV <| .c "balance" ub <| .c "side_of" oy <| .c "places_of" yt <| .c "holes" jm <| .c "hole_from" oz <| .c "met" ou <| .c "links" jl <| .c "links_at" tX <| .c "beside_at" tW <| .c "chord_ends" yi <| .c "along_at" tR <| .c "against_at" tT <| .c "stretch" tP <| .c "is_parted" ow <| .c "is_first" tO <| .c "_law_tape" om <| .c "_law_draw" oo <| .c "_law_back" jk <| .c "_law_any_row" ue <| .c "_law_inner" jo <| .c "_law_rooted" fq <| .c "_law_any_way" yz <| .c "_law_some_ways" jq <| .c "_law_pair_right" oE <| .n))
  (a29:PySem.W.nsIn K mainGlobals "law" = some (some (.ref f29)))
  (l29:K.lookup f29=some ⟨oc29,od29,.func (PySem.W.fnOf "law" "law" (bX iL) (bH iL) (ak iL) .none kV29 dc29 pm29 an29 cd29 ct29),sl29⟩)
  (c29:PySem.W.codeIn K cd29 "law" = true)
  (k29:PySem.W.keepIn K (.ref f29)=true)
  (z_len:PySem.W.nsIn K mainGlobals "len" = some none)
  (z_repr:PySem.W.nsIn K mainGlobals "repr" = some none)
  (z_abs:PySem.W.nsIn K mainGlobals "abs" = some none)
  (z_max:PySem.W.nsIn K mainGlobals "max" = some none)
  (z_int:PySem.W.nsIn K mainGlobals "int" = some none)
  (z_list:PySem.W.nsIn K mainGlobals "list" = some none)
  (z_range:PySem.W.nsIn K mainGlobals "range" = some none)
  (z_reversed:PySem.W.nsIn K mainGlobals "reversed" = some none)
  (z_min:PySem.W.nsIn K mainGlobals "min" = some none)
  (z_sorted:PySem.W.nsIn K mainGlobals "sorted" = some none)
  (z_tuple:PySem.W.nsIn K mainGlobals "tuple" = some none)
  (z_isinstance:PySem.W.nsIn K mainGlobals "isinstance" = some none)
  (z_all:PySem.W.nsIn K mainGlobals "all" = some none)
  (z_str:PySem.W.nsIn K mainGlobals "str" = some none)
  (z_zip:PySem.W.nsIn K mainGlobals "zip" = some none)
  (aBk:PySem.W.nsIn K mainGlobals "BACKS" = some (some (.ref aB)))
  (lB:K.lookup aB=some ⟨.type "dict",none,.dict es en,#[]⟩)
  (kB:PySem.W.KeysLit w.params es.toList)
  (aS:PySem.W.nsIn K mainGlobals "SMALL" = some (some (.str "abcdef" tS)))
  (zS:PySem.W.nsIn K mainGlobals "set" = some none)
  (gl0:PySem.W.nsIn K aB "a" = some (some (.str "A" t0)))
  (gl1:PySem.W.nsIn K aB "b" = some (some (.str "B" t1)))
  (gl2:PySem.W.nsIn K aB "c" = some (some (.str "C" t2)))
  (gl3:PySem.W.nsIn K aB "d" = some (some (.str "D" t3)))
  (gl4:PySem.W.nsIn K aB "e" = some (some (.str "E" t4)))
  (gl5:PySem.W.nsIn K aB "f" = some (some (.str "F" t5)))
  (gl6:PySem.W.nsIn K aB "A" = some (some (.str "a" t6)))
  (gl7:PySem.W.nsIn K aB "B" = some (some (.str "b" t7)))
  (gl8:PySem.W.nsIn K aB "C" = some (some (.str "c" t8)))
  (gl9:PySem.W.nsIn K aB "D" = some (some (.str "d" t9)))
  (gl10:PySem.W.nsIn K aB "E" = some (some (.str "e" t10)))
  (gl11:PySem.W.nsIn K aB "F" = some (some (.str "f" t11))) :
  ∃ fd:FuncData,(∀ (s:Shared) (v:Value),BindsTo s fd ⟨[v],[]⟩ [("_law_script",v)])∧∀ base:Heap,K.In base→base.Ns mainGlobals mg→kl l.prog w K mg base CX0 8 fa fd ["_law_script"] (oF K):=by
 have e:=hfa.symm.trans (CQ X G a29)
 cases e
 have gB:∀ x:L,∃ t,PySem.W.nsIn K aB (toS [x])=some (some (.str (toS [inv x]) t)):=by
  have q:∀ (x:L) (u v:Str) (t:Tok),PySem.W.nsIn K aB u=some (some (.str v t))→toS [x]=u→toS [inv x]=v→∃ t,PySem.W.nsIn K aB (toS [x])=some (some (.str (toS [inv x]) t)):=fun x u v t g e1 e2=>⟨t,by rw [e1,e2];exact g⟩
  intro x
  match x with
  | ⟨0,_⟩=>exact q 0 "a" "A" _ gl0 (by decide +kernel) (by decide +kernel)
  | ⟨1,_⟩=>exact q 1 "b" "B" _ gl1 (by decide +kernel) (by decide +kernel)
  | ⟨2,_⟩=>exact q 2 "c" "C" _ gl2 (by decide +kernel) (by decide +kernel)
  | ⟨3,_⟩=>exact q 3 "d" "D" _ gl3 (by decide +kernel) (by decide +kernel)
  | ⟨4,_⟩=>exact q 4 "e" "E" _ gl4 (by decide +kernel) (by decide +kernel)
  | ⟨5,_⟩=>exact q 5 "f" "F" _ gl5 (by decide +kernel) (by decide +kernel)
  | ⟨6,_⟩=>exact q 6 "A" "a" _ gl6 (by decide +kernel) (by decide +kernel)
  | ⟨7,_⟩=>exact q 7 "B" "b" _ gl7 (by decide +kernel) (by decide +kernel)
  | ⟨8,_⟩=>exact q 8 "C" "c" _ gl8 (by decide +kernel) (by decide +kernel)
  | ⟨9,_⟩=>exact q 9 "D" "d" _ gl9 (by decide +kernel) (by decide +kernel)
  | ⟨10,_⟩=>exact q 10 "E" "e" _ gl10 (by decide +kernel) (by decide +kernel)
  | ⟨11,_⟩=>exact q 11 "F" "f" _ gl11 (by decide +kernel) (by decide +kernel)
 have T:Bt K w mg aB:=⟨As X G z_len,As X G z_repr,As X G z_abs,As X G z_max,As X G z_int,As X G z_list,As X G z_range,As X G z_reversed,As X G z_min,As X G z_sorted,As X G z_tuple,As X G z_isinstance,As X G z_all,As X G z_str,As X G z_zip,CQ X G aBk,⟨es,en,lB,kB⟩,gB⟩
 have S:∃ t,mg "SMALL" = some (.str "abcdef" t):=⟨_,CQ X G aS⟩
 have Tset:mg "set" = none:=As X G zS
 refine ⟨PySem.W.fnOf "law" "law" (bX iL) (bH iL) (ak iL) .none kV29 dc29 pm29 an29 cd29 ct29,fun s v=>.of_eq rfl,fun base _ _=>?_⟩
 obtain ⟨h0,h1,h2,h3,h4,h5,h6,h7,h8,h9,h10,h11,h12,h13,h14,h15,h16,h17,h18,h19,h20,h21,h22,h23,h24,h25,h26,h27,h28,_⟩:=hs
 have F_tape:=wc (P:=l.prog) (w:=w) (base:=base) (h20.df X G) T
 have EG:=wd (P:=l.prog) (w:=w) (base:=base) (h21.df X G) T
 have EE:=we (P:=l.prog) (w:=w) (base:=base) (h0.df X G) T
 have EO:=tM (P:=l.prog) (w:=w) (base:=base) (h22.df X G)
 have EI:=wg (P:=l.prog) (w:=w) (base:=base) (h10.df X G) T EE
 have F_rf:=zy (P:=l.prog) (w:=w) (base:=base) (h3.df X G) T
 have F_fst:=yh (P:=l.prog) (w:=w) (base:=base) (h19.df X G) T F_rf
 have F_ce:=zA (P:=l.prog) (w:=w) (base:=base) (h14.df X G) T EE EI
 have E7:=yk (P:=l.prog) (w:=w) (base:=base) (h17.df X G) T EI
 have EU:=wq (P:=l.prog) (w:=w) (base:=base) (h18.df X G) T EE EI F_fst
 have F_alg:=ym (P:=l.prog) (w:=w) (base:=base) (h15.df X G) T E7 EU
 have F_agn:=yn (P:=l.prog) (w:=w) (base:=base) (h16.df X G) T E7 EU
 have E8:=yo (P:=l.prog) (w:=w) (base:=base) (h4.df X G) T
 have F_bes:=yp (P:=l.prog) (w:=w) (base:=base) (h13.df X G) T Tset F_ce (E8.imp fun _ _ _ _ h=>Or.inr h)
 have F_lat:=yq (P:=l.prog) (w:=w) (base:=base) (h12.df X G) T F_agn F_alg F_bes
 have EN:=tY (P:=l.prog) (w:=w) (base:=base) (h11.df X G) T F_lat
 have E_:=wB (P:=l.prog) (w:=w) (base:=base) (h1.df X G) T EE S
 have F_let:=yr (P:=l.prog) (w:=w) (base:=base) (h2.df X G) T S
 have F_pl:=zB (P:=l.prog) (w:=w) (base:=base) (h7.df X G) T EE
 have F_side:=wF (P:=l.prog) (w:=w) (base:=base) (h6.df X G) T EE F_pl (E8.imp fun _ _ _ _ h=>Or.inl h) F_rf
 have E9:=yw (P:=l.prog) (w:=w) (base:=base) (h5.df X G) T F_let E_ F_side
 have F_hole:=wH (P:=l.prog) (w:=w) (base:=base) (h9.df X G) T EE
 have Fd:=ud (P:=l.prog) (w:=w) (base:=base) (h8.df X G) T F_hole
 have F_row:=yy (P:=l.prog) (w:=w) (base:=base) (h23.df X G) T EG
 have EV:=oA (P:=l.prog) (w:=w) (base:=base) (h25.df X G) T
 have Fc:=uf (P:=l.prog) (w:=w) (base:=base) (h24.df X G) T EO
 have F_aw:=zD (P:=l.prog) (w:=w) (base:=base) (h26.df X G) T EG Fc EV
 have Fb:=ug (P:=l.prog) (w:=w) (base:=base) (h27.df X G) T EG EO F_aw
 have F_pair:=wL (P:=l.prog) (w:=w) (base:=base) (h28.df X G) T EN E9
 exact yB (qA l29 c29 k29) T F_tape EG F_row F_aw Fb EN E9 Fd F_pair
theorem zF {l:PySem.W.OpenLaw}{q:Program}{loose:List Str}{XP:(Str→Option Value)→Heap→Prop}{YP:World→Heap→Prop}{d:DefRec}{K:Params→PySem.W.Frag}(hn:l.most=some 63)(hdf:d.params.defaults=[])
  (hY:∀ (w:World) (h:Heap),YP w h→(K w.params).In h)
  (F:∀ (w:World) (mg:Str→Option Value) (fa:Addr) (h:Heap),(K w.params).In h→h.Ns mainGlobals mg→mg d.name=some (.ref fa) →
   ∃ fd:FuncData,(∀ (s:Shared) (u:Value),BindsTo s fd ⟨[u],[]⟩ [("_law_script",u)])∧∀ base:Heap,(K w.params).In base→base.Ns mainGlobals mg→kl l.prog w (K w.params) mg base CX0 8 fa fd ["_law_script"] (oF (K w.params))) :
  PySem.W.WalkO q loose XP YP l.row.toRowW d [] (fun f vs=>PySem.call f vs) :=
 L2.lM (n:=63) (k:=8) (x:="_law_script") (CX:=fun _=>CX0) (sp:=fun w=>oF (K w.params)) hn (by decide) hdf ⟨rfl,by decide,by decide,rfl⟩ hY F (fun _ _ a ns hl _ hS=>⟨a,ns,rfl,hS,hl,fun _=>rfl⟩) fun _ _ _ _ _ z=>z
end Kx
namespace Kx
open PySem
def wQ (s:String):Str:=⟨⟨PySem.W.R.mapR Char.toNat (PySem.W.S.toListS s)⟩⟩
theorem ql:Str.ofString=wQ:=by
 funext s
 rw [Str.ofString_eq_toList,PySem.W.S.toListS_eq]
 show _=(⟨⟨PySem.W.R.mapR Char.toNat (PySem.W.S.toListS s)⟩⟩:Str)
 rw [← PySem.W.R.mapR_eq]
def apG (G:(String→Str)→Program)(x:String→Str):Program:=G x
def Gs:{ G:(String→Str)→Program // apG G Str.ofString=PySem.Challenge.pw_ringwords_k46_whole_balance_and_links }:=by
 refine ⟨?G,?h⟩
 case h =>
  delta PySem.Challenge.pw_ringwords_k46_whole_balance_and_links
  generalize Str.ofString=x
  exact rfl
end Kx
def PySem.W.Fast.tw10170600450326436847:PySem.Program:=Kx.Gs.1 Kx.wQ
theorem PySem.W.Fast.te10170600450326436847:PySem.Challenge.pw_ringwords_k46_whole_balance_and_links=PySem.W.Fast.tw10170600450326436847:=Kx.Gs.2.symm.trans (Af (Kx.apG Kx.Gs.1) Kx.ql)
namespace PySem.W.Fast
theorem te1855729971426857479:True:=trivial
theorem tw8315127622029599861:True:=trivial
theorem tw328008960093406186:True:=trivial
theorem tw10217754798289146995:True:=trivial
theorem tw6257391795293738772:True:=trivial
theorem tw17764152848901703837:True:=trivial
theorem tw13042841237430583977:True:=trivial
theorem tw9596334010401293565:True:=trivial
theorem tw13230455579979909179:True:=trivial
theorem tw13673855714590284426:True:=trivial
theorem tw4966145242254672308:True:=trivial
theorem tw9980870069633313580:True:=trivial
theorem tw3759094367449107755:True:=trivial
theorem tw12428857862125881066:True:=trivial
theorem tw1857919718766427857:True:=trivial
theorem tw8814065649840733036:True:=trivial
theorem tw6867955145021251055:True:=trivial
theorem tw1779294416934944373:True:=trivial
theorem tw17786691228097824371:True:=trivial
theorem tw2316774022036570197:True:=trivial
theorem tw5052072712801463250:True:=trivial
theorem tw8700280132084893218:True:=trivial
theorem tw13677318593936730717:True:=trivial
theorem tw5096112056231833695:True:=trivial
theorem tw2150649822471672178:True:=trivial
theorem tw15535624697802808388:True:=trivial
theorem tw6659912817895109115:True:=trivial
theorem tw9378151196877088636:True:=trivial
theorem tw2522402126947524023:True:=trivial
theorem tw5179314088002187975:True:=trivial
theorem tw12386547285292354199:True:=trivial
theorem tw15061036733630773129:True:=trivial
theorem tw16328459121270977804:True:=trivial
theorem tw5261162771220783843:True:=trivial
theorem tw2791502436651921719:True:=trivial
theorem tw1262233720010097193:True:=trivial
theorem tw5871195423667383540:True:=trivial
theorem tw8358633125031730172:True:=trivial
theorem tw6396398593595922606:True:=trivial
theorem tw281233887473749049:True:=trivial
theorem tw3824787264236429866:True:=trivial
theorem tw711382149235053285:True:=trivial
theorem tw6749004042887361276:True:=trivial
theorem tw9482778003038319473:True:=trivial
theorem tw6958778592210656399:True:=trivial
theorem tw4861268928630276630:True:=trivial
theorem tw16615572521784157922:True:=trivial
theorem tw15476440672132142886:True:=trivial
theorem tw13157323436075242363:True:=trivial
theorem tw17162922966775810419:True:=trivial
theorem tw8376559807322115416:True:=trivial
theorem tw13325113064242011934:True:=trivial
theorem tw7678730194228515048:True:=trivial
theorem tw12255651308970612927:True:=trivial
theorem tw6608209149243364378:True:=trivial
theorem tw11780079871155241746:True:=trivial
theorem tw1656409875589845669:True:=trivial
theorem tw17400415303266110418:True:=trivial
theorem tw1112992710770809093:True:=trivial
theorem tw12178450251852602170:True:=trivial
theorem tw4252003917989517785:True:=trivial
theorem tw15866591750486153467:True:=trivial
theorem tw12332115089086012332:True:=trivial
theorem tw15604174073386674118:True:=trivial
theorem tw8556658537130462417:True:=trivial
theorem tw6465717502057411010:True:=trivial
theorem tw13665426932043908565:True:=trivial
theorem tw5542174498588488960:True:=trivial
theorem tw11351472754948855011:True:=trivial
theorem tw17897216116186740325:True:=trivial
theorem tw7213839908183987231:True:=trivial
theorem tw14823765758149488172:True:=trivial
theorem tw2946595815983657578:True:=trivial
theorem tw11690112315258189638:True:=trivial
theorem tw11430368336945262931:True:=trivial
theorem tw9500069326344475366:True:=trivial
theorem tw17275348426783321966:True:=trivial
theorem tw7860970394077842024:True:=trivial
theorem tw1455934232134318544:True:=trivial
theorem tw6807600151951255834:True:=trivial
theorem tw3912646386471055792:True:=trivial
theorem tw13677994440081968704:True:=trivial
theorem tw10338794129606491959:True:=trivial
theorem tw14920389363959679008:True:=trivial
theorem tw16064182736753977611:True:=trivial
theorem tw3519032737325135868:True:=trivial
theorem tw17266672138501635692:True:=trivial
theorem tw6030865509670754057:True:=trivial
theorem tw13937944146456929647:True:=trivial
theorem tw6089864761233978161:True:=trivial
theorem tw6399750793316020933:True:=trivial
end PySem.W.Fast
open PySem PySem.W PyProof.Rows
set_option maxRecDepth 100000 in
set_option maxHeartbeats 0 in
theorem PySem.Challenge.cw_ringwords_k46_whole_balance_and_links_holds : PySem.Challenge.rw_ringwords_k46_whole_balance_and_links.Holds := by
 w_on; o_law; k_head; (case hw=>w_witness2)
 k_fill
 refine Kx.zF (l:=PySem.Challenge.rw_ringwords_k46_whole_balance_and_links) rfl rfl (fun w h Y=>PySem.W.kIn_of Y) ?F
 case F =>
  intro w mg fa h KX G hmg
  refine' Kx.wO KX G hmg ?hs ?a29 ?l29 ?c29 ?k29 ?z_len ?z_repr ?z_abs ?z_max ?z_int ?z_list ?z_range ?z_reversed ?z_min ?z_sorted ?z_tuple ?z_isinstance ?z_all ?z_str ?z_zip ?aBk ?lB ?kB ?aS ?zS ?gl0 ?gl1 ?gl2 ?gl3 ?gl4 ?gl5 ?gl6 ?gl7 ?gl8 ?gl9 ?gl10 ?gl11
  (case hs=>(iterate 29 (refine' Kx.DIs.on ?_ ?_ ?_ ?_ ?_; rotate_left 10; k_is; k_is; k_is; k_is)); exact trivial)
  (case a29 | l29 | c29 | k29 | z_len | z_repr | z_abs | z_max | z_int | z_list | z_range | z_reversed | z_min | z_sorted | z_tuple | z_isinstance | z_all | z_str | z_zip | aBk | lB=>k_is)
  (case kB=>exact ⟨⟨_,_,rfl,rfl⟩,⟨_,_,rfl,rfl⟩,⟨_,_,rfl,rfl⟩,⟨_,_,rfl,rfl⟩,⟨_,_,rfl,rfl⟩,⟨_,_,rfl,rfl⟩,⟨_,_,rfl,rfl⟩,⟨_,_,rfl,rfl⟩,⟨_,_,rfl,rfl⟩,⟨_,_,rfl,rfl⟩,⟨_,_,rfl,rfl⟩,⟨_,_,rfl,rfl⟩,trivial⟩)
  (case aS | zS | gl0 | gl1 | gl2 | gl3 | gl4 | gl5 | gl6 | gl7 | gl8 | gl9 | gl10 | gl11=>k_is)
end
