import PyProof.Rows.All
import Wide.All
import OpenK.AllK
import Wide.FinOn
import Lean
import PyProof.EqAt
import PyProof.EqKinds
import PyProof.TupleCall
import KE.KRevIter
import PyProof.Rows.SortShellK
import PyProof.Rows.SortRunsK
import PyProof.FString5
import PyProof.NeData
import PyProof.TupleOfStr
import PyProof.IsRules
import PySem.Challenge.RW_ringwords_k38_links_of_two_ways
set_option Elab.async false
set_option linter.all false
set_option maxRecDepth 100000
set_option maxHeartbeats 0
noncomputable section
def fu:=@List.getElem?_eq_getElem
def wc:=@List.mem_singleton
def we:=@PySem.wpAny_bind
def wg:=@PySem.Heap.get?_push_of_some
def wj:=@List.length_append
def wk:=@Array.length_toList
def wm:=@decide_eq_false
def wo:=@List.getElem?_eq_some_iff
def wq:=@List.length_map
def wt:=@List.append_assoc
def wu:=@Nat.le_refl
def wx:=@PyProof.Rows.wpS_bind
def wz:=@decide_eq_true_iff
def wA:=@Option.some.inj
def wB:=@List.size_toArray
def wC:=@PyProof.Rows.wpS_pure
def wD:=@List.length_take
def wF:=@decide_eq_true
def wG:=@List.mem_append_right
def wH:=@List.mem_cons
def wI:=@PySem.Heap.lt_size
def wJ:=@PySem.wpAny_pure
def wK:=@PySem.Heap.get?_push_size
def wL:=@List.mem_append
def wM:=@Bool.false_ne_true
def wN:=@Bool.false_eq_true
def wO:=@List.mem_cons_of_mem
def wQ:=@PySem.boot_len
def wR:=@congrArg
def wU:=@List.getElem?_append_right
def wV:=@List.getD_eq_getElem?_getD
def wW:=@List.take_append_drop
def wX:=@List.mem_cons_self
def wY:=@List.getElem_mem
def wZ:=@List.not_mem_nil
def w6:=@Nat.lt_of_lt_of_le
def w9:=@PySem.F.plainAttrs_str
def w_:=@List.mem_append_left
def xf:=@List.length_pos_iff
def xg:=@PySem.F.plainAttrs_list
def xh:=@Bool.eq_iff_iff
def xi:=@PySem.W.mg_none_of
def xj:=@List.getElem?_map
def xk:=@Array.getElem?_toList
def xm:=@List.take_of_length_le
def xo:=@PySem.PassesOwn.never
def xp:=@Nat.ne_of_lt
def xq:=@Nat.le_trans
def xr:=@List.map_append
def xt:=@List.mem_of_getElem?
def xu:=@List.length_cons
def xv:=@Nat.zero_le
def xw:=@List.append_nil
def xx:=@List.getElem?_drop
def xy:=@List.getElem?_append_left
def xA:=@PySem.Heap.get?_update_other
def xB:=@List.length_drop
def xC:=@Int.emod_lt_of_pos
def xD:=@PyProof.Rows.wpS_forRange
def xE:=@Int.toNat_natCast
def xF:=@List.mem_of_mem_take
def xG:=@List.getElem?_take_of_lt
def xH:=@PySem.F.slot_list_append
def xI:=@PySem.F.type_list_append
def xJ:=@List.perm_append_comm
def xK:=@Int.eq_ofNat_of_zero_le
def xM:=@List.cons.inj
def xN:=@Array.toList_extract
def xO:=@List.getElem?_of_mem
def xP:=@Int.emod_nonneg
def xQ:=@List.drop_eq_getElem_cons
def xR:=@PyProof.Rows.KeyOrd.kle_refl
def xS:=@if_false
def xT:=@List.map_map
def xU:=@Bool.false_and
def xV:=@Nat.lt_irrefl
def xW:=@List.nodup_cons
def xX:=@List.map_cons
def xY:=@List.mem_map
def xZ:=@Bool.not_eq_true
def x6:=@PySem.mem_of_lookup
def x8:=@List.length_nil
def x9:=@List.Perm.append_left
def x_:=@List.cons_lt_cons_iff
def yd:=@PySem.F.slot_str_join
def ye:=@PySem.F.type_str_join
def yf:=@List.zip_cons_cons
def yg:=@or_false
def yh:=@Bool.and_eq_true
def yi:=@List.mem_of_mem_drop
def yj:=@PySem.wpAny_getItem_str_slice
def yk:=@PyProof.Rows.wpS_mono
def ym:=@Bool.true_and
def yn:=@PyProof.Rows.F.plain_set_update_loop
def yo:=@PySem.wpAny_truthy_bool
def yp:=@PyProof.Rows.callWith_type1
def yq:=@PySem.F.slot_str_index
def yr:=@PySem.F.type_str_index
def yt:=@Array.getElem?_eq_some_iff
def yu:=@Array.perm_iff_toList_perm
def yw:=@Nat.lt_succ_self
def yy:=@PySem.wpAny_holding
def yz:=@PySem.Txt.slice_le
def yA:=@Bool.and_false
def yB:=@List.pairwise_iff_getElem
def yC:=@PySem.wpAny_rule
def yD:=@PySem.wpAny_passesOwn
def yE:=@Int.emod_eq_of_lt
def yF:=@Array.toList_push
def yG:=@PySem.codeAny_builtin
def yH:=@List.flatten_cons
def yI:=@PySem.F.slot_list_extend
def yJ:=@PySem.F.type_list_extend
def yK:=@if_true
def yL:=@Nat.add_sub_cancel_left
def yM:=@List.flatten_append
def yN:=@List.eq_nil_of_length_eq_zero
def yO:=@Nat.mod_eq_of_lt
def yP:=@PyProof.Rows.KeyOrd.kle_trans
def yQ:=@PySem.wpAny_mono
def yR:=@List.Perm.refl
def yS:=@List.drop_of_length_le
def yT:=@List.pairwise_cons
def yU:=@List.dropLast_concat_getLast
def yV:=@PySem.Heap.get?_update_self
def yW:=@List.length_singleton
def yX:=@PySem.builtinLookup_eq_fast
def yY:=@List.getElem?_eq_none
def yZ:=@List.idxOf_lt_length_of_mem
def y6:=@List.take_add_one
def y7:=@PyProof.Rows.KeyOrd.kle_of_klt
def y8:=@Nat.lt_succ_of_lt
def y9:=@PyProof.Rows.F.entry_set_update_loop
def y_:=@List.getLast?_eq_getElem?
def zc:=@List.all_eq_true
def zd:=@PySem.wpAny_call_entry
def ze:=@List.take_length
def zf:=@PySem.codeAny_mono
def zg:=@PyProof.Rows.wpS_modify
def zh:=@PySem.post_val_or_str
def zi:=@PySem.Obj.data_mapFields
def zj:=@List.cons.injEq
def zk:=@List.getElem_idxOf
def zl:=@List.getElem?_take
def zm:=@PyProof.Rows.KK_mirror_equal
def zo:=@List.length_eq_zero_iff
def zp:=@List.Perm.append_right
def zq:=@List.flatten_singleton
def zr:=@List.head?_eq_getElem?
def zu:=@PySem.F.slot_str_lower
def zw:=@PySem.F.type_str_lower
def zx:=@PySem.wpAny_pyIter_list
def zy:=@decide_eq_true_eq
def zA:=@PySem.Heap.size_push
def zB:=@List.nodup_nil
def zC:=@List.getElem?_toArray
def zD:=@List.getElem?_reverse
def zE:=@PyProof.Rows.listItems_at
def zF:=@List.length_filter_le
def zG:=@List.lookup_cons
def zH:=@decide_eq_decide
def zI:=@PySem.Around.under_plainId
def zJ:=@PySem.wpAny_newList
def zK:=@Bool.not_true
def zL:=@PySem.typeIs_str
def zM:=@List.mem_filter
def zN:=@List.filterMap_cons
def zO:=@PySem.wpAny_execs_nil
def zP:=@PySem.typeLookup_type
def zQ:=@PySem.wpAny_of_eq
def zR:=@PySem.Heap.SameBut.update
def zT:=@List.flatMap_append
def zU:=@PyProof.Rows.wpS_get
def zV:=@Array.toList_append
def zW:=@PySem.Calls.Name_function_global
def zX:=@Array.toList_setIfInBounds
def zY:=@PyProof.Rows.assignInOrder_cons
def zZ:=@List.mem_filterMap
def z3:=@PySem.wpAny_Call_Name_kw
def z6:=@PySem.Code.quiet_builtin
def z7:=@PySem.isSubtype_type
def z8:=@List.drop_zero
def z9:=@PySem.AutoSeq1.sub_tuple_tuple
def z_:=@PySem.F.slot_list_insert
def Ab:=@not_false_eq_true
def Ac:=@PySem.wpAny_standAt
def Ad:=@PySem.sizeLine_eq
def Ae:=@Bool.or_false
def Af:=@List.any_cons
def Ag:=@PySem.W.mg_of
def Ah:=@Nat.le_succ
def Ai:=@PySem.wpAny_attempt
def Aj:=@PySem.wpAny_field
def Ak:=@List.filter_cons_of_pos
def Al:=@List.pairwise_singleton
def Am:=@PyProof.Rows.listUpdate_at
def An:=@List.getLast?_cons_cons
def Ao:=@Int.ofNat.inj
def Ap:=@List.not_lt
def Aq:=@decide_eq_false_iff_not
def Ar:=@Option.getD_none
def As:=@List.drop_length
def Au:=@Array.toList_inj
def Av:=@List.zipIdx_cons
def Aw:=@List.getElem?_set_self
def Ax:=@PySem.W.cellsFrom_some
def Ay:=@Nat.le_of_lt
def Az:=@Nat.ne_of_gt
def AA:=@List.of_mem_zip
def AB:=@List.range_succ
def AC:=@List.idxOf_cons
def AD:=@Array.Perm.refl
def AE:=@Nat.sub_self
def AF:=@PySem.codeAny_of_tree
def AG:=@PySem.call_meets
def AH:=@PyProof.Rows.wpS_lift
def AI:=@PySem.wpAny_setField
def AJ:=@PySem.wpAny_runValue
def AK:=@List.lt_irrefl
def AL:=@Nat.add_assoc
def AM:=@and_true
def AN:=@beq_iff_eq
def AO:=@List.map_nil
def AQ:=@Nat.zero_add
def AR:=@getElem?_pos
def AS:=@Int.add_emod
def AU:=@Int.add_zero
namespace L2
open PySem PySem.Spec PyProof.Rows
abbrev Key:=Sum Int Str
def qK:Key→Value→Bool
 | .inl k,v=>Value.isInt k v
 | .inr x,v=>Value.isStrOf x v
def vq (w:World):Key→Int
 | .inl k=>hashInt k
 | .inr x=>hashStr w x
theorem a9:∀ {k:Key} {v:Value},qK k v=true→(∃ i t,k=Sum.inl i∧v=Value.int i t) ∨ (∃ x t,k=Sum.inr x∧v=Value.str x t)
 | .inl i,v,h=>by
  obtain ⟨t,e⟩:=Value.isInt_shape (k:=i) (v:=v) h
  exact .inl ⟨i,t,rfl,e⟩
 | .inr x,v,h=>by
  obtain ⟨t,e⟩:=Value.isStrOf_shape (x:=x) (v:=v) h
  exact .inr ⟨x,t,rfl,e⟩
theorem qL (a b:Int):decide ((Sum.inl a:Key)=Sum.inl b)=(a == b):=by
 by_cases e:a=b
 ·subst e;simp
 ·have h:¬ (Sum.inl a:Key)=Sum.inl b:=fun q=>e (Sum.inl.inj q)
  rw [wm h]
  exact (beq_eq_false_iff_ne.mpr e).symm
theorem qM (a b:Str):decide ((Sum.inr a:Key)=Sum.inr b)=decide (a=b):=by
 by_cases e:a=b
 ·subst e;simp
 ·have h:¬ (Sum.inr a:Key)=Sum.inr b:=fun q=>e (Sum.inr.inj q)
  rw [wm h,wm e]
theorem qN (a:Int)(b:Str):decide ((Sum.inl a:Key)=Sum.inr b)=false:=wm (fun q=>nomatch q)
theorem qO (a:Str)(b:Int):decide ((Sum.inr a:Key)=Sum.inl b)=false:=wm (fun q=>nomatch q)
def hJ (prog:Program)(w:World):PySem.KeyKind prog w Key where
 is:=qK
 hash:=vq w
 inj:=fun v a b ha hb=>by
  rcases a9 ha with ⟨i,t,rfl,rfl⟩ | ⟨x,t,rfl,rfl⟩
  ·rcases a9 hb with ⟨j,u,rfl,e⟩ | ⟨y,u,rfl,e⟩
   ·injection e with e1 _;rw [e1]
   ·exact nomatch e
  ·rcases a9 hb with ⟨j,u,rfl,e⟩ | ⟨y,u,rfl,e⟩
   ·exact nomatch e
   ·injection e with e1 _;rw [e1]
 byValue:=fun k v h=>by
  rcases a9 h with ⟨i,t,rfl,rfl⟩ | ⟨x,t,rfl,rfl⟩ <;> rfl
 pyHash:=fun hv h=>by
  rcases a9 hv with ⟨i,t,rfl,rfl⟩ | ⟨x,t,rfl,rfl⟩
  ·exact wpAny_pyHash_int h
  ·exact wpAny_pyHash_str h
 eqBool:=fun hu hv h=>by
  rcases a9 hu with ⟨i,t,rfl,rfl⟩ | ⟨x,t,rfl,rfl⟩
  ·rcases a9 hv with ⟨j,u,rfl,rfl⟩ | ⟨y,u,rfl,rfl⟩
   ·rw [qL] at h;exact wpAny_eqBool_int h
   ·rw [qN] at h;exact SeqAt.EqAt.int_str i t y u _ _ _ _ h
  ·rcases a9 hv with ⟨j,u,rfl,rfl⟩ | ⟨y,u,rfl,rfl⟩
   ·rw [qO] at h;exact SeqAt.EqAt.str_int x t j u _ _ _ _ h
   ·rw [qM] at h;exact wpAny_eqBool_str h
 «strs»:=fun k x t v h=>by
  rcases a9 h with ⟨i,u,rfl,e⟩ | ⟨y,u,rfl,e⟩
  ·exact nomatch e
  ·injection e with e1 _
   subst e1
   cases v <;> rfl
inductive V where
 | non | bl (b:Bool) | int (i:Int) | str (x:Str) | byt (b:Array UInt8) | flt (b:UInt64) | ref (a:Addr) | ty (n:String)
 deriving DecidableEq
def bB:V→Value→Prop
 | .non,u=>u=Value.none
 | .bl b,u=>u=Value.bool b
 | .int i,u=>∃ t,u=Value.int i t
 | .str x,u=>∃ t,u=Value.str x t
 | .byt b,u=>∃ t,u=Value.bytes b t
 | .flt b,u=>∃ t,u=Value.float b t
 | .ref a,u=>u=Value.ref a
 | .ty n,u=>u=Value.type n
abbrev bg:List V→List Value→Prop:=Paired bB
theorem bg.length {xs:List V}{us:List Value}(r:bg xs us):xs.length=us.length:=Paired.length r
theorem bg.get:∀ {xs:List V} {us:List Value} {i:Nat} {x:V},bg xs us→xs[i]? = some x→∃ u,us[i]? = some u∧bB x u
 | _,_,_,_,.nil,e=>by simp at e
 | _,_,0,_,.cons r _,e=>by simp at e;subst e;exact ⟨_,rfl,r⟩
 | _,_,i+1,x,.cons _ t,e=>by
  obtain ⟨u,h1,h2⟩:=bg.get (i:=i) (x:=x) t (by simpa using e)
  exact ⟨u,by simpa using h1,h2⟩
theorem bg.set {x:V}{u:Value}(r:bB x u):∀ {xs:List V} {us:List Value} (i:Nat),bg xs us→bg (xs.set i x) (us.set i u)
 | _,_,_,.nil=>.nil
 | _,_,0,.cons _ t=>.cons r t
 | _,_,i+1,.cons q t=>.cons q (bg.set r i t)
theorem bg.append:∀ {xs ys:List V} {us ws:List Value},bg xs us→bg ys ws→bg (xs++ys) (us++ws)
 | _,_,_,_,.nil,s=>s
 | _,_,_,_,.cons r t,s=>.cons r (bg.append t s)
theorem bg.take:∀ {xs:List V} {us:List Value} (n:Nat),bg xs us→bg (xs.take n) (us.take n)
 | _,_,0,_=>.nil
 | _,_,_+1,.nil=>.nil
 | _,_,n+1,.cons r t=>.cons r (bg.take n t)
theorem bg.drop:∀ {xs:List V} {us:List Value} (n:Nat),bg xs us→bg (xs.drop n) (us.drop n)
 | _,_,0,r=>r
 | _,_,_+1,.nil=>.nil
 | _,_,n+1,.cons _ t=>bg.drop n t
def u7:Option V→Option Value→Prop
 | some v,some u=>bB v u
 | none,none=>True
 | _,_=>False
def KV {κ:Type}:List (κ × V)→List (κ × Value)→Prop:=Paired fun (p:κ × V) (q:κ × Value)=>p.1=q.1∧bB p.2 q.2
def kV:Key→V
 | .inl i=>.int i
 | .inr x=>.str x
inductive HO where
 | lst (xs:List V)
 | tup (xs:List V)
 | dK (BB:List (Key × V)) | dT (BB:List (List Key × V))
 | set (S:Int→Bool) (n:Nat)
 | ins (C dx:Addr) (fs:List (Str × V))
 | own (x:Addr)
 | xd (fs:List (Str × V))
 | met (f x:Addr)
 | rng (lo hi:Int)
 | frz (o:Obj) (u:HO)
 | tbl (ps:Array Value)
 | ext (φ:Heap→Prop)
abbrev Hp:=Addr→Option HO
def upd (H:Hp)(a:Addr)(o:HO):Hp:=fun b=>if b=a then some o else H b
theorem ag {H:Hp}{a:Addr}{o:HO}:upd H a o a=some o:=by unfold upd; rw [if_pos rfl]
theorem aP {H:Hp}{a b:Addr}{o:HO}(h:b≠a):upd H a o b=H b:=by unfold upd; rw [if_neg h]
theorem dz {H:Hp}{a:Addr}{o u:HO}:upd (upd H a o) a u=upd H a u:=by
 funext b;unfold upd;split <;> rfl
theorem aC {H:Hp}{a b:Addr}{o:HO}(h:H a=some o)(h':H b=none):a≠b:=by
 intro e;subst e;rw [h] at h';cases h'
section
variable (P:Program) (w:World)
def NoD (h:Heap)(a:Addr):Prop:=∃ o,h.get? a=some o∧o.dict=none
theorem NoD.new (h:Heap)(o:Obj)(e:o.dict=none)(hf:o.isFreed=false:=by rfl):NoD (h.push o) h.objs.size:=⟨o,wK _ hf,e⟩
def cY (H:Hp)(h:Heap)(a:Addr):HO→Prop
 | .lst xs=>xs.length≤sizeLine∧∃ (Br:List Value) (n:Nat),bg xs Br∧h.get? a=some { cls:=.type "list",data:=.seq Br.toArray n }
 | .tup xs=>xs.length≤sizeLine∧∃ Br:List Value,bg xs Br∧IsTup h a Br.toArray∧NoD h a
 | .dK BB=>BB.length≤sizeLine∧(a == sysModules)=false∧∃ vs,KV BB vs∧h.DictOf (hJ P w) a vs
 | .dT BB=>BB.length≤sizeLine∧(a == sysModules)=false∧∃ xs:List (List Key × Addr × Value),
   Paired (fun (p:List Key × V) (q:List Key × Addr × Value)=>p.1=q.1∧H q.2.1=some (.tup (p.1.map kV))∧bB p.2 q.2.2) BB xs ∧
   ∃ o es ep,h.get? a=some o∧o.ExactDict∧o.data = .dict es ep∧es.toList=xs.map (entryOfKey (tupleKind (hJ P w)))∧(xs.map (·.1)).Nodup
 | .set S n=>h.SetOf (intKind P w) a S n
 | .ins C dx fs=>H dx=some (.own a)∧fs.length≤1000∧dx≠a∧h.get? a=some (PySem.W.instObj C dx) ∧
   ∃ mA,h.Ns1 dx mA∧(∀ f,u7 (fs.lookup f) (mA f))∧PySem.Within mA (fs.map (·.1))
 | .own _=>∃ o,h.get? a=some o
 | .xd fs=>∃ mA,h.Ns1 a mA∧∀ f,u7 (fs.lookup f) (mA f)
 | .rng lo hi=>∃ t u v,h.get? a=some { cls:=.type "range",data:=.fields #[.int lo t,.int hi u,.int 1 v] }
 | .frz o u=>h.get? a=some o∧cY H h a u
 | .tbl ps=>h.get? a=some { cls:=.none,data:=.fields ps }
 | .met f x=>h.get? a=some (PySem.W.methodObj (.ref f) (.ref x))
 | .ext φ=>φ h∧(∃ o,h.get? a=some o)∧∀ h1 h2:Heap,φ h1→(∀ o,h1.get? a=some o→h2.get? a=some o)→φ h2
def HOk (H:Hp)(h:Heap):Prop:=∀ a o,H a=some o→cY P w H h a o
end
section
variable {P:Program} {w:World} {H H':Hp} {h h':Heap} {a:Addr} {o:HO}
theorem cY.lt (x:cY P w H h a o):a < h.objs.size:=by
 cases o with
 | lst xs=>obtain ⟨_,_,_,_,e⟩:=x;exact wI e
 | tup xs=>obtain ⟨_,_,_,p,_⟩:=x;exact p.lt
 | dK BB=>obtain ⟨_,_,_,_,o,_,_,e,_⟩:=x;exact wI e
 | dT BB=>obtain ⟨_,_,_,_,o,_,_,e,_⟩:=x;exact wI e
 | set S n=>obtain ⟨o,_,_,_,e,_⟩:=x;exact wI e
 | ins C dx fs=>obtain ⟨_,_,_,e,_⟩:=x;exact wI e
 | own y=>obtain ⟨_,e⟩:=x;exact wI e
 | xd fs=>obtain ⟨_,⟨_,_,_,e,_⟩,_⟩:=x;exact wI e
 | rng lo hi=>obtain ⟨_,_,_,e⟩:=x;exact wI e
 | frz ob u=>obtain ⟨e,_⟩:=x;exact wI e
 | tbl ps=>exact wI (show h.get? a=some _ from x)
 | met f y=>exact wI (show h.get? a=some _ from x)
 | ext φ=>obtain ⟨_,⟨_,e⟩,_⟩:=x;exact wI e
theorem Paired.mapP {α β:Type}{F G:α→β→Prop}:∀ {l₁:List α} {l₂:List β},Paired F l₁ l₂→(∀ a b,F a b→G a b)→Paired G l₁ l₂
 | _,_,.nil,_=>.nil
 | _,_,.cons r t,f=>.cons (f _ _ r) (Paired.mapP t f)
theorem cY.stay (x:cY P w H h a o)(k:∀ b u,(b=a ∨ H b=some (.own a))→h.get? b=some u→h'.get? b=some u)
  (ho:∀ b,H b=some (.own a)→H' b=some (.own a)) (ht:∀ b xs,H b=some (.tup xs)→H' b=some (.tup xs)):cY P w H' h' a o:=by
 induction o with
 | lst xs=>obtain ⟨z,Br,n,r,e⟩:=x;exact ⟨z,Br,n,r,k _ _ (.inl rfl) e⟩
 | tup xs=>obtain ⟨z,Br,r,⟨ob,e,c⟩,o2,e2,c2⟩:=x;exact ⟨z,Br,r,⟨ob,k _ _ (.inl rfl) e,c⟩,o2,k _ _ (.inl rfl) e2,c2⟩
 | dK BB=>obtain ⟨z,y,vs,r,ob,es,ep,e,c⟩:=x;exact ⟨z,y,vs,r,ob,es,ep,k _ _ (.inl rfl) e,c⟩
 | dT BB =>
  obtain ⟨z,y,xs,r,ob,es,ep,e,c⟩:=x
  exact ⟨z,y,xs,Paired.mapP r fun p q z=>⟨z.1,ht _ _ z.2.1,z.2.2⟩,ob,es,ep,k _ _ (.inl rfl) e,c⟩
 | set S n=>obtain ⟨ob,es,ep,t,e,c⟩:=x;exact ⟨ob,es,ep,t,k _ _ (.inl rfl) e,c⟩
 | ins C dx fs =>
  obtain ⟨d,z,ne,e,mA,⟨od,es,ep,e2,c⟩,r⟩:=x
  exact ⟨ho _ d,z,ne,k _ _ (.inl rfl) e,mA,⟨od,es,ep,k _ _ (.inr d) e2,c⟩,r⟩
 | own y=>obtain ⟨ob,e⟩:=x;exact ⟨ob,k _ _ (.inl rfl) e⟩
 | xd fs=>obtain ⟨mA,⟨od,es,ep,e,c⟩,r⟩:=x;exact ⟨mA,⟨od,es,ep,k _ _ (.inl rfl) e,c⟩,r⟩
 | rng lo hi=>obtain ⟨t,u,v,e⟩:=x;exact ⟨t,u,v,k _ _ (.inl rfl) e⟩
 | frz ob u ih=>obtain ⟨e,q⟩:=x;exact ⟨k _ _ (.inl rfl) e,ih q⟩
 | tbl ps =>
  have e:h.get? a=some { cls:=.none,data:=.fields ps }:=x
  show h'.get? a=some { cls:=.none,data:=.fields ps }
  exact k a _ (.inl rfl) e
 | met f y =>
  have e:h.get? a=some (PySem.W.methodObj (.ref f) (.ref y)):=x
  show h'.get? a=some (PySem.W.methodObj (.ref f) (.ref y))
  exact k a _ (.inl rfl) e
 | ext φ=>obtain ⟨p,⟨o,e⟩,st⟩:=x;exact ⟨st _ _ p fun o q=>k _ _ (.inl rfl) q,⟨o,k _ _ (.inl rfl) e⟩,st⟩
theorem HOk.lt (x:HOk P w H h)(e:H a=some o):a < h.objs.size:=(x a o e).lt
theorem HOk.fresh (x:HOk P w H h)(e:h.objs.size≤a):H a=none:=by
 cases q:H a with
 | none=>rfl
 | some u=>exact absurd (w6 (x.lt q) e) (xV _)
theorem HOk.kept (x:HOk P w H h)(k:∀ b u,h.get? b=some u→h'.get? b=some u):HOk P w H h':=fun a o e =>
 (x a o e).stay (fun b u _ q=>k b u q) (fun _ q=>q) fun _ _ q=>q
theorem HOk.laid (x:HOk P w H h)(k:∀ b u,h.get? b=some u→h'.get? b=some u)(hp:h.objs.size≤a)(new:cY P w (upd H a o) h' a o):HOk P w (upd H a o) h':=fun b u e=>by
 have hn:=x.fresh hp
 by_cases hb:b=a
 ·subst hb;rw [ag] at e;cases e;exact new
 ·rw [aP hb] at e
  exact (x b u e).stay (fun c v _ q=>k c v q) (fun c q=>by rw [aP (aC q hn)];exact q) fun c xs q=>by rw [aP (aC q hn)];exact q
end
def Rd (H:Hp)(a:Addr)(u:HO):Prop:=H a=some u ∨ ∃ o,H a=some (.frz o u)
theorem Rd.ok {P:Program}{w:World}{H:Hp}{h:Heap}{a:Addr}{u:HO}(r:Rd H a u)(x:HOk P w H h):cY P w H h a u:=by
 rcases r with r | ⟨o,r⟩
 ·exact x a u r
 ·obtain ⟨_,q⟩:=x a _ r
  exact q
def Mut:Option HO→Prop
 | some (.lst _)=>True
 | some (.dK _)=>True
 | some (.dT _)=>True
 | some (.set _ _)=>True
 | some (.ins _ _ _)=>True
 | some (.ext _)=>True
 | _=>False
section
variable {P:Program} {w:World} {H:Hp} {h h':Heap} {x e:Addr} {o':HO}
theorem HOk.write (ok:HOk P w H h)(mu:Mut (H x))(he:e=x ∨ H e=some (.own x))(k:∀ b u,b≠e→h.get? b=some u→h'.get? b=some u)(heo:∃ u,h'.get? e=some u)
  (new:cY P w (upd H x o') h' x o'):HOk P w (upd H x o') h':=fun b u q=>by
 have nown:∀ c y,H c=some (.own y)→c≠x:=fun c y r z=>by subst z;rw [r] at mu;exact mu
 have ntup:∀ c xs,H c=some (.tup xs)→c≠x:=fun c xs r z=>by subst z;rw [r] at mu;exact mu
 by_cases hb:b=x
 ·subst hb;rw [ag] at q;cases q;exact new
 ·rw [aP hb] at q
  by_cases hbe:b=e
  ·have q':H b=some (.own x):=by
    rcases he with z | z
    ·exact absurd (hbe.trans z) hb
    ·rw [hbe];exact z
   rw [q] at q';cases q'
   obtain ⟨v,hv⟩:=heo
   exact ⟨v,by rw [hbe];exact hv⟩
  ·refine (ok b u q).stay (fun c v hc r=>k c v ?_ r) (fun c r=>by rw [aP (nown c b r)];exact r) fun c xs r=>by rw [aP (ntup c xs r)];exact r
   rcases hc with rfl | hc
   ·exact hbe
   ·rintro rfl
    rcases he with z | z
    ·exact nown c b hc z
    ·rw [hc] at z;cases z;exact hb rfl
end
structure Un (fs ex:List Addr) (H H':Hp) (h h':Heap):Prop where
 keep:∀ b o,h.get? b=some o→H b=none→b∉fs→b∉ex→h'.get? b=some o
 slot:∀ b o,h.get? b=some o→H b=none→b∈fs→b∉ex→∃ sl,h'.get? b=some { o with slots:=sl }
 free:∀ b o,h.get? b=some o→H b=none→b∉ex→H' b=none
 there:∀ b o,h.get? b=some o→b∉ex→∃ o',h'.get? b=some o'
 tups:∀ b xs,H b=some (.tup xs)→H' b=some (.tup xs)
 frzs:∀ b o u,H b=some (.frz o u)→H' b=some (.frz o u)
 tbls:∀ b ps,H b=some (.tbl ps)→∃ more,H' b=some (.tbl (ps++more))
section
variable {fs fs' ex ex':List Addr} {H H1 H2:Hp} {h h1 h2 h':Heap} {a x e:Addr} {o:HO}
theorem Un.any (u:Un fs ex H H1 h h1){b:Addr}{ob:Obj}(q:h.get? b=some ob)(n:H b=none)(hx:b∉ex):∃ sl,h1.get? b=some { ob with slots:=sl }:=by
 by_cases hb:b∈fs
 ·exact u.slot b ob q n hb hx
 ·exact ⟨ob.slots,u.keep b ob q n hb hx⟩
theorem Un.kept (k:∀ b u,h.get? b=some u→h'.get? b=some u):Un fs ex H H h h' :=
 ⟨fun b ob q _ _ _=>k b ob q,fun b ob q _ _ _=>⟨ob.slots,k b ob q⟩,fun _ _ _ n _=>n,fun b ob q _=>⟨ob,k b ob q⟩,fun _ _ q=>q,fun _ _ _ q=>q,fun _ ps q=>⟨#[],by rw [q];simp⟩⟩
theorem Un.refl:Un fs ex H H h h:=Un.kept fun _ _ q=>q
theorem Un.laid (k:∀ b u,h.get? b=some u→h'.get? b=some u)(hp:h.objs.size≤a)(hn:H a=none):Un fs ex H (upd H a o) h h' where
 keep:=fun b u q _ _ _=>k b u q
 slot:=fun b u q _ _ _=>⟨u.slots,k b u q⟩
 free:=fun b u q n _=>by rw [aP (xp (w6 (wI q) hp))];exact n
 there:=fun b u q _=>⟨u,k b u q⟩
 tups:=fun b xs q=>by rw [aP (aC q hn)];exact q
 frzs:=fun b u xs q=>by rw [aP (aC q hn)];exact q
 tbls:=fun b ps q=>⟨#[],by rw [aP (aC q hn),q];simp⟩
theorem Un.write (mu:Mut (H x))(he:e=x ∨ H e=some (.own x))(k:∀ b u,b≠e→h.get? b=some u→h'.get? b=some u)(heo:∃ u,h'.get? e=some u):Un fs ex H (upd H x o) h h':=by
 have hx:∀ b,H b=none→b≠x:=fun b n z=>by subst z;rw [n] at mu;exact mu
 have hb:∀ b,H b=none→b≠e:=fun b n z=>by
  subst z
  rcases he with r | r
  ·exact hx b n r
  ·rw [n] at r;cases r
 have hm:∀ b u,H b=some u→¬ Mut (some u)→b≠x:=fun b u q nm z=>by subst z;rw [q] at mu;exact nm mu
 refine ⟨fun b u q n _ _=>k b u (hb b n) q,fun b u q n _ _=>⟨u.slots,k b u (hb b n) q⟩,fun b u q n _=>by rw [aP (hx b n)];exact n,fun b u q _=>?_,
  fun b xs q=>by rw [aP (hm b _ q fun z=>z)];exact q,fun b u xs q=>by rw [aP (hm b _ q fun z=>z)];exact q,fun b ps q=>⟨#[],by rw [aP (hm b _ q fun z=>z),q];simp⟩⟩
 by_cases hbe:b=e
 ·subst hbe;exact heo
 ·exact ⟨u,k b u hbe q⟩
end
def trk (h:Heap)(H:Hp):List Addr:=(List.range h.objs.size).filter fun a=>(H a).isSome
def mD (h:Heap)(H:Hp):Heap:=PySem.W.hideAll h (trk h H)
theorem jV (h:Heap)(H:Hp):(mD h H).objs.size=h.objs.size:=PySem.W.hideAll_size _ _
theorem mE {h:Heap}{H:Hp}{b:Addr}{o:Obj}(e:h.get? b=some o)(n:H b=none):(mD h H).get? b=some o :=
 PySem.W.hideAll_get _ e fun hm=>by
  have q:(H b).isSome=true:=(zM.mp hm).2
  rw [n] at q;simp at q
theorem oQ {h:Heap}{H:Hp}{b:Addr}{o:Obj}(e:(mD h H).get? b=some o):h.get? b=some o∧H b=none:=by
 have e':h.get? b=some o:=PySem.W.of_hideAll (trk h H) e
 refine ⟨e',?_⟩
 cases q:H b with
 | none=>rfl
 | some x =>
  have hm:b∈trk h H:=zM.mpr ⟨List.mem_range.mpr (wI e'),by simp [q]⟩
  have z:(mD h H).get? b=none:=PySem.W.hideAll_none (trk h H) hm
  rw [z] at e;cases e
structure Mod (K:PySem.W.Frag) (mg:Str→Option Value) (base:Heap):Prop where
 kin:K.In base
 glob:base.Ns mainGlobals mg
 blt:∃ mb,base.Ns builtinsNs mb∧∀ x:Str,x ≠ "__name__"→mb x=bootBuiltins x
 nolimit:base.NoLimit
/-- the context: a def's body (or a comprehension's block) running. base: fixed through the whole law;s₀,H₀: the entry;outer: the frames whose slots others may change (a def's callers);stack: all frames that run;
  ex: iterators that were made ahead of the entry and are walked here (a comprehension's);fn: the names whose cells were made at the entry (a def: all;a comprehension's block: Br own);calm: not within an except suite;pn: Bp that every state bears;xe: what is wanted of an exception that leaves the code -/
structure Cx where
 prog:Program
 w:World
 K:PySem.W.Frag
 mg:Str→Option Value
 base:Heap
 A:Around
 N:List Str
 s₀:Shared
 H₀:Hp
 env:Env
 outer:List Env
 stack:List Env
 ex:List Addr
 fn:Str→Bool
 calm:Bool
 pn:List (Addr × Obj)
 xe:Value→Shared→Prop
def frs (l:List Env):List Addr:=l.filterMap (·.frame)
abbrev Cx.fs (X:Cx):List Addr:=frs X.outer
def Vis (sc:Scope)(x:Str):Prop:=sc.names.lookup x=some .local ∨ sc.names.lookup x=some .cell ∨ sc.names.lookup x=some .free
def Loc (sc:Scope)(x:Str):Prop:=sc.names.lookup x=some .local ∨ sc.names.lookup x=some .cell
def vt (env:Env)(h:Heap)(m:Str→Option Value)(x:Str)(u:Value):Prop :=
 (env.kindOf x=some .local∧m x=some u) ∨ ((env.kindOf x=some .cell ∨ env.kindOf x=some .free)∧∃ c,env.cells.lookup x=some c∧h.IsCell c (some u))
structure Cx.Ok (X:Cx):Prop where
 mod:Mod X.K X.mg X.base
 kind:X.env.scope.kind = .function
 glob:X.env.globals=mainGlobals
 blt:X.env.builtins=builtinsNs
 above:X.s₀.heap.objs.size≤X.env.locals
 inj:∀ x y c,X.env.cells.lookup x=some c→X.env.cells.lookup y=some c→x=y
 has:∀ x,(X.env.kindOf x=some .cell ∨ X.env.kindOf x=some .free)→∃ c,X.env.cells.lookup x=some c
 cab:∀ x c,X.fn x=true→X.env.cells.lookup x=some c→X.s₀.heap.objs.size≤c
 hd:X.calm=true→X.A.handled=none
 frames:X.A.frames=some X.stack
 stk:X.stack=X.outer ∨ (X.stack=X.env::X.outer∧X.env.frame=some X.env.locals)
 exf:∀ b∈X.ex,b≠X.env.locals∧∀ x c,X.env.cells.lookup x=some c→c≠b
 bs:∀ b o,X.base.get? b=some o→X.s₀.heap.get? b=some o∧X.H₀ b=none
 bsz:X.base.objs.size≤X.s₀.heap.objs.size
 noex:∀ b o,X.base.get? b=some o→b∉X.ex
 exfs:∀ b∈X.ex,b∉X.fs
 funs:X.s₀.heap.FunFrames X.base X.outer
 frf:∀ b∈X.fs,X.H₀ b=none
structure Inv (X:Cx) (Bp:List (Addr × Obj)) (σ:List (Option V)) (H:Hp) (s:Shared):Prop where
 ok:X.Ok
 os:s.os=X.s₀.os
 bare:AllBare s.gens
 base:Un X.fs X.ex X.H₀ H X.s₀.heap s.heap
 loc:∃ m,s.heap.Ns X.env.locals m∧∀ (i:Nat) (x:Str) (v:V),X.N[i]? = some x→σ[i]? = some (some v)→Vis X.env.scope x→∃ u,bB v u∧vt X.env s.heap m x u
 cell:∀ x c,X.env.cells.lookup x=some c→∃ v,s.heap.IsCell c v
 free:H X.env.locals=none
 freeC:∀ x c,X.env.cells.lookup x=some c→H c=none
 pin:∀ p∈X.pn++Bp,s.heap.get? p.1=some p.2∧H p.1=none∧p.1≠X.env.locals∧p.1∉X.fs∧∀ v,p.2.data ≠ .cell v
 hok:HOk X.prog X.w H s.heap
 len:σ.length=X.N.length
section
variable {X:Cx} {Bp:List (Addr × Obj)} {σ:List (Option V)} {H H':Hp} {s:Shared} {h':Heap}
theorem Cx.Ok.nofr (ok:X.Ok){b:Addr}{o:Obj}(e:X.base.get? b=some o):b∉X.fs:=fun hb=>by
 have:=(ok.funs.mem hb).1
 rw [e] at this;cases this
theorem Inv.bs (I:Inv X Bp σ H s):∀ b o,X.base.get? b=some o→s.heap.get? b=some o∧H b=none:=fun b o e =>
 ⟨I.base.keep b o (I.ok.bs b o e).1 (I.ok.bs b o e).2 (I.ok.nofr e) (I.ok.noex b o e),I.base.free b o (I.ok.bs b o e).1 (I.ok.bs b o e).2 (I.ok.noex b o e)⟩
theorem Inv.bk (I:Inv X Bp σ H s):∀ b o,X.base.get? b=some o→s.heap.get? b=some o:=fun b o e=>(I.bs b o e).1
theorem Inv.mod (I:Inv X Bp σ H s):Mod X.K X.mg X.base:=I.ok.mod
theorem Inv.kIn (I:Inv X Bp σ H s):X.K.In s.heap:=I.ok.mod.kin.keeps I.bk
theorem Inv.fr (I:Inv X Bp σ H s):∃ m,Fr X.base X.env.locals s.heap m :=
 let ⟨m,hn,_⟩:=I.loc
 ⟨m,hn,I.bk,xq I.ok.bsz I.ok.above⟩
theorem Inv.lt (I:Inv X Bp σ H s):X.env.locals < s.heap.objs.size:=let ⟨_,hn,_⟩:=I.loc; hn.lt
theorem Inv.sz (I:Inv X Bp σ H s):X.s₀.heap.objs.size≤s.heap.objs.size:=xq I.ok.above (Ay I.lt)
theorem Inv.nofs (I:Inv X Bp σ H s){a:Addr}(h:s.heap.objs.size≤a):a∉X.fs:=fun hb=>by
 obtain ⟨_,o,ho,_⟩:=I.ok.funs.mem hb
 exact absurd (w6 (wI ho) (xq I.sz h)) (xV _)
theorem Inv.cne (I:Inv X Bp σ H s):∀ x c,X.env.cells.lookup x=some c→c≠X.env.locals:=fun x c e z=>by
 obtain ⟨v,o,ho,hd⟩:=I.cell x c e
 obtain ⟨m,⟨o',es,ep,ho',hd',_⟩,_⟩:=I.loc
 rw [z,ho'] at ho;cases ho;rw [hd'] at hd;cases hd
theorem Inv.funs (I:Inv X Bp σ H s):s.heap.FunFrames X.base X.outer:=by
 have all:∀ (l:List Env),(∀ b∈frs l,b∈X.fs)→X.s₀.heap.FunFrames X.base l→s.heap.FunFrames X.base l:=by
  intro l
  induction l with
  | nil=>intro _ _;trivial
  | cons env r ih =>
   intro hs hl
   obtain ⟨hk,⟨L,o,hf,hn,ho,hd⟩,hr⟩:=hl
   have hL:L∈X.fs:=hs L (by unfold frs;rw [zN,hf];exact wX)
   obtain ⟨sl,e⟩:=I.base.slot L o ho (I.ok.frf L hL) hL fun z=>I.ok.exfs L z hL
   exact ⟨hk,⟨L,_,hf,hn,e,hd⟩,ih (fun b hb=>hs b (by unfold frs;rw [zN,hf];exact wO _ hb)) hr⟩
 exact all X.outer (fun _ hb=>hb) I.ok.funs
theorem Inv.stack (I:Inv X Bp σ H s):s.heap.FunFrames X.base X.stack:=by
 rcases I.ok.stk with e | ⟨e,hf⟩
 ·rw [e];exact I.funs
 ·rw [e]
  obtain ⟨m,hn,_⟩:=I.loc
  refine .cons (by rw [I.ok.kind];decide) hf hn ?_ I.funs
  exact Heap.get?_none_of_le (xq I.ok.bsz I.ok.above)
theorem Inv.stkSub (I:Inv X Bp σ H s):∀ b∈frs X.stack,b∈X.env.locals::X.fs:=fun b hb=>by
 rcases I.ok.stk with e | ⟨e,hf⟩
 ·rw [e] at hb;exact wO _ hb
 ·rw [e] at hb
  unfold frs at hb
  rw [zN,hf] at hb
  exact hb
theorem Inv.stkFree (I:Inv X Bp σ H s):∀ b∈frs X.stack,H b=none:=fun b hb=>by
 rcases wH.mp (I.stkSub b hb) with e | hb
 ·rw [e];exact I.free
 ·obtain ⟨_,o,ho,_⟩:=I.ok.funs.mem hb
  exact I.base.free b o ho (I.ok.frf b hb) fun z=>I.ok.exfs b z hb
theorem Inv.step {g':Array GenState}{t':Nat}{d':Drawn}{ch:List Addr}(I:Inv X Bp σ H s)
  (hch:∀ b∈ch,(b∈X.ex ∨ X.s₀.heap.objs.size≤b)∧b≠X.env.locals∧(∀ x c,X.env.cells.lookup x=some c→c≠b)∧∀ p∈X.pn++Bp,p.1≠b)
  (keep:∀ b o,b≠X.env.locals→b∉X.fs→b∉ch→s.heap.get? b=some o→H b=none→h'.get? b=some o)
  (slot:∀ b o,b≠X.env.locals→b∈X.fs→b∉ch→s.heap.get? b=some o→H b=none→∃ sl,h'.get? b=some { o with slots:=sl }) (free:∀ b o,b∉ch→s.heap.get? b=some o→H b=none→H' b=none)
  (there:∀ b o,b∉ch→s.heap.get? b=some o→∃ o',h'.get? b=some o')
  (tups:∀ b xs,H b=some (.tup xs)→H' b=some (.tup xs)) (frzs:∀ b o u,H b=some (.frz o u)→H' b=some (.frz o u)) (tbls:∀ b ps,H b=some (.tbl ps)→∃ more,H' b=some (.tbl (ps++more)))
  (ns:∀ m,s.heap.Ns X.env.locals m→h'.Ns X.env.locals m) (hok:HOk X.prog X.w H' h') (hg:AllBare g') :
  Inv X Bp σ H' { s with heap:=h',gens:=g',drawn:=d',toks:=t' }:=by
 have neL:∀ b o,X.s₀.heap.get? b=some o→b≠X.env.locals:=fun b o e=>xp (w6 (wI e) I.ok.above)
 have neC:∀ b o,X.s₀.heap.get? b=some o→b∉X.ex→b∉ch:=fun b o e hx hb=>by
  rcases (hch b hb).1 with z | z
  ·exact hx z
  ·exact absurd (w6 (wI e) z) (xV _)
 have cellK:∀ x c,X.env.cells.lookup x=some c→∀ v,s.heap.IsCell c v→h'.IsCell c v:=fun x c e v ⟨o,ho,hd⟩=>by
  have nch:c∉ch:=fun z=>(hch c z).2.2.1 x c e rfl
  by_cases hc:c∈X.fs
  ·obtain ⟨sl,q⟩:=slot c o (I.cne x c e) hc nch ho (I.freeC x c e)
   exact ⟨_,q,hd⟩
  ·exact ⟨o,keep c o (I.cne x c e) hc nch ho (I.freeC x c e),hd⟩
 refine ⟨I.ok,I.os,hg,⟨fun b o e n hb hx=>?_,fun b o e n hb hx=>?_,fun b o e n hx=>?_,fun b o e hx=>?_,fun b xs e=>tups b xs (I.base.tups b xs e),fun b o xs e=>frzs b o xs (I.base.frzs b o xs e),fun b ps e=>?_⟩,?_,fun x c e=>?_,?_,fun x c e=>?_,fun p hp=>?_,hok,I.len⟩
 ·exact keep b o (neL b o e) hb (neC b o e hx) (I.base.keep b o e n hb hx) (I.base.free b o e n hx)
 ·obtain ⟨sl,e1⟩:=I.base.slot b o e n hb hx
  obtain ⟨sl',e2⟩:=slot b _ (neL b o e) hb (neC b o e hx) e1 (I.base.free b o e n hx)
  exact ⟨sl',e2⟩
 ·obtain ⟨o',e1⟩:=I.base.there b o e hx
  exact free b o' (neC b o e hx) e1 (I.base.free b o e n hx)
 ·obtain ⟨o',e1⟩:=I.base.there b o e hx
  exact there b o' (neC b o e hx) e1
 ·obtain ⟨m1,e1⟩:=I.base.tbls b ps e
  obtain ⟨m2,e2⟩:=tbls b _ e1
  exact ⟨m1++m2,by rw [e2,Array.append_assoc]⟩
 ·obtain ⟨m,hn,hl⟩:=I.loc
  refine ⟨m,ns m hn,fun i x v e1 e2 e3=>?_⟩
  obtain ⟨u,r,l⟩:=hl i x v e1 e2 e3
  refine ⟨u,r,?_⟩
  rcases l with l | ⟨k,c,e,z⟩
  ·exact .inl l
  ·exact .inr ⟨k,c,e,cellK x c e _ z⟩
 ·obtain ⟨v,z⟩:=I.cell x c e
  exact ⟨v,cellK x c e v z⟩
 ·obtain ⟨m,⟨o,_,_,ho,_⟩,_⟩:=I.loc
  exact free _ o (fun z=>(hch _ z).2.1 rfl) ho I.free
 ·obtain ⟨v,o,ho,hd⟩:=I.cell x c e
  exact free c o (fun z=>(hch c z).2.2.1 x c e rfl) ho (I.freeC x c e)
 ·obtain ⟨e,n,ne,nf,d⟩:=I.pin p hp
  have nch:p.1∉ch:=fun z=>(hch p.1 z).2.2.2 p hp rfl
  exact ⟨keep p.1 p.2 ne nf nch e n,free p.1 p.2 nch e n,ne,nf,d⟩
theorem Inv.un {t':Nat}(I:Inv X Bp σ H s)(u:Un X.fs [] H H' s.heap h')(hok:HOk X.prog X.w H' h'):Inv X Bp σ H' { s with heap:=h',toks:=t' }:=by
 obtain ⟨m,⟨o,es,ep,ho,r⟩,_⟩:=id I.loc
 obtain ⟨sl,hL⟩:=u.any ho I.free (by simp)
 exact I.step (g':=s.gens) (d':=s.drawn) (ch:=[]) (fun _ z=>nomatch z) (fun b o _ hb _ e n=>u.keep b o e n hb (by simp)) (fun b o _ hb _ e n=>u.slot b o e n hb (by simp)) (fun b o _ e n=>u.free b o e n (by simp)) (fun b o _ e=>u.there b o e (by simp)) u.tups u.frzs u.tbls (fun m' hm=>by
  obtain ⟨o',es',ep',ho',r'⟩:=hm
  rw [ho] at ho';cases ho'
  exact ⟨_,es',ep',hL,r'⟩) hok I.bare
theorem Inv.call {g':Array GenState}{t':Nat}{d':Drawn}{ch:List Addr}(I:Inv X Bp σ H s)(u:Un (frs X.stack) ch H H' s.heap h')(hok:HOk X.prog X.w H' h')(hg:AllBare g')
  (hch:∀ b∈ch,(b∈X.ex ∨ X.s₀.heap.objs.size≤b)∧b≠X.env.locals∧(∀ x c,X.env.cells.lookup x=some c→c≠b)∧∀ p∈X.pn++Bp,p.1≠b) :
  Inv X Bp σ H' { s with heap:=h',gens:=g',drawn:=d',toks:=t' }:=by
 obtain ⟨m,⟨o,es,ep,ho,r⟩,_⟩:=id I.loc
 obtain ⟨sl,hL⟩:=u.any ho I.free fun z=>(hch _ z).2.1 rfl
 exact I.step (ch:=ch) hch (fun b o hL hb hc e n=>u.keep b o e n (fun z=>(wH.mp (I.stkSub b z)).elim hL hb) hc) (fun b o _ _ hc e n=>u.any e n hc) (fun b o hc e n=>u.free b o e n hc) (fun b o hc e=>u.there b o e hc) u.tups u.frzs u.tbls (fun m' hm=>by
  obtain ⟨o',es',ep',ho',r'⟩:=hm
  rw [ho] at ho';cases ho'
  exact ⟨_,es',ep',hL,r'⟩) hok hg
theorem Inv.turned {t':Nat}{it:Addr}(I:Inv X Bp σ H s)(k:∀ b o,b≠it→s.heap.get? b=some o→h'.get? b=some o)(hn:H it=none)(hL:it≠X.env.locals)
  (h1:it∈X.ex ∨ X.s₀.heap.objs.size≤it) (h2:∀ x c,X.env.cells.lookup x=some c→c≠it) (h3:∀ p∈X.pn++Bp,p.1≠it):Inv X Bp σ H { s with heap:=h',toks:=t' }:=by
 have nit:∀ b u,H b=some u→b≠it:=fun b u e z=>by rw [z,hn] at e;cases e
 refine I.step (g':=s.gens) (d':=s.drawn) (ch:=[it]) (fun b hb=>?_) (fun b o _ _ hc e _=>k b o (fun z=>hc (by simp [z])) e) (fun b o _ _ hc e _=>⟨o.slots,k b o (fun z=>hc (by simp [z])) e⟩) (fun _ _ _ _ n=>n)
  (fun b o hc e=>⟨o,k b o (fun z=>hc (by simp [z])) e⟩) (fun _ _ e=>e) (fun _ _ _ e=>e) (fun b ps e=>⟨#[],by rw [e];simp⟩) (fun m hm=>?_) (fun b u e=>?_) I.bare
 ·have e:b=it:=by simpa using hb
  subst e
  exact ⟨h1,hL,h2,h3⟩
 ·obtain ⟨o,es,ep,ho,r⟩:=hm
  exact ⟨o,es,ep,k _ o (Ne.symm hL) ho,r⟩
 ·refine (I.hok b u e).stay (fun c v hc q=>k c v ?_ q) (fun _ q=>q) fun _ _ q=>q
  rcases hc with z | z
  ·rw [z];exact nit b u e
  ·exact nit c _ z
theorem Inv.tok (I:Inv X Bp σ H s)(t:Nat):Inv X Bp σ H { s with toks:=t }:=I.un (h':=s.heap) (t':=t) Un.refl I.hok
theorem Inv.kept {t':Nat}(I:Inv X Bp σ H s)(k:∀ b u,s.heap.get? b=some u→h'.get? b=some u):Inv X Bp σ H { s with heap:=h',toks:=t' }:=I.un (Un.kept k) (I.hok.kept k)
theorem Inv.laid {a:Addr}{o:HO}{t':Nat}(I:Inv X Bp σ H s)(k:∀ b u,s.heap.get? b=some u→h'.get? b=some u)(hp:s.heap.objs.size≤a)(new:cY X.prog X.w (upd H a o) h' a o) :
  Inv X Bp σ (upd H a o) { s with heap:=h',toks:=t' }:=I.un (Un.laid k hp (I.hok.fresh hp)) (I.hok.laid k hp new)
theorem Inv.write {x e:Addr}{o:HO}{t':Nat}(I:Inv X Bp σ H s)(mu:Mut (H x))(he:e=x ∨ H e=some (.own x))(k:∀ b u,b≠e→s.heap.get? b=some u→h'.get? b=some u)(heo:∃ u,h'.get? e=some u)
  (new:cY X.prog X.w (upd H x o) h' x o):Inv X Bp σ (upd H x o) { s with heap:=h',toks:=t' }:=I.un (Un.write mu he k heo) (I.hok.write mu he k heo new)
theorem Inv.pins_of {pins':List (Addr × Obj)}(I:Inv X Bp σ H s)(h:∀ p∈pins',s.heap.get? p.1=some p.2∧H p.1=none∧p.1≠X.env.locals∧p.1∉X.fs∧∀ v,p.2.data ≠ .cell v):Inv X pins' σ H s :=
 ⟨I.ok,I.os,I.bare,I.base,I.loc,I.cell,I.free,I.freeC,fun p hp=>(wL.mp hp).elim (fun z=>I.pin p (w_ _ z)) (h p),I.hok,I.len⟩
theorem iQ {N:List Str}(hN:N.Nodup){i j:Nat}{x:Str}(a:N[i]? = some x)(b:N[j]? = some x):i=j:=by
 obtain ⟨h1,e1⟩:=wo.mp a
 obtain ⟨h2,e2⟩:=wo.mp b
 exact (List.getElem_inj hN).mp (e1.trans e2.symm)
theorem jW {M:Model}{A:Around}{E:Value→Shared→Prop}{i:Nat}{x:Str}{v:V}{u:Value}{Q:Unit→Shared→Prop}(I:Inv X Bp σ H s)(hN:X.N.Nodup)(hi:X.N[i]? = some x)(hx:Loc X.env.scope x)(r:bB v u)
  (h:∀ s',Inv X Bp (σ.set i (some v)) H s'→(∃ a,Heap.SameBut a s.heap s'.heap∧(a=X.env.locals ∨ X.env.cells.lookup x=some a))→Q () s') (hf:X.fn x=true ∨ X.env.scope.names.lookup x=some .local:=by first | exact .inl rfl | exact .inr rfl | assumption):wpAny M A (storeName X.env x u) Q E s:=by
 obtain ⟨m,hn,hl⟩:=id I.loc
 have hcls:(X.env.scope.kind == .class || (X.env.scope.kind == .module && X.env.locals != X.env.globals))=false:=by rw [I.ok.kind];rfl
 have hiσ:i < σ.length:=by rw [I.len];exact (wo.mp hi).1
 have cne:=I.cne
 have tracked:∀ {a:Addr} {h':Heap},(∃ o,s.heap.get? a=some o∧H a=none)→Heap.SameBut a s.heap h'→HOk X.prog X.w H h':=fun {a h'} ha hs b ob e=>by
  obtain ⟨_,_,hfree⟩:=ha
  refine (I.hok b ob e).stay (fun c w' hc q=>(hs.2 c ?_).trans q) (fun _ q=>q) fun _ _ q=>q
  rintro rfl
  rcases hc with rfl | hc
  ·rw [hfree] at e;cases e
  ·rw [hfree] at hc;cases hc
 rcases hx with hk | hk
 ·refine wpAny_storeName_local hk hn (fun h' hn' hs=>?_) hcls
  obtain ⟨oL,_,_,hoL,_⟩:=id hn
  refine h _ ⟨I.ok,I.os,I.bare,⟨fun b o e n hb hx=>?_,fun b o e n hb hx=>?_,I.base.free,fun b o e hx=>?_,I.base.tups,I.base.frzs,I.base.tbls⟩,⟨_,hn',fun j y v' e1 e2 e3=>?_⟩,fun y c e=>?_,I.free,I.freeC,fun p hp=>?_,tracked ⟨oL,hoL,I.free⟩ hs,by simpa using I.len⟩ ⟨_,hs,.inl rfl⟩
  ·exact (hs.2 b (xp (w6 (wI e) I.ok.above))).trans (I.base.keep b o e n hb hx)
  ·obtain ⟨sl,e1⟩:=I.base.slot b o e n hb hx
   exact ⟨sl,(hs.2 b (xp (w6 (wI e) I.ok.above))).trans e1⟩
  ·obtain ⟨o',e1⟩:=I.base.there b o e hx
   exact ⟨o',(hs.2 b (xp (w6 (wI e) I.ok.above))).trans e1⟩
  ·by_cases hj:j=i
   ·subst hj
    rw [hi] at e1;cases e1
    rw [Aw hiσ] at e2
    cases e2
    exact ⟨u,r,.inl ⟨hk,by simp⟩⟩
   ·rw [List.getElem?_set_ne (Ne.symm hj)] at e2
    obtain ⟨u',r',q⟩:=hl j y v' e1 e2 e3
    refine ⟨u',r',?_⟩
    rcases q with ⟨k,e⟩ | ⟨k,c,e,z⟩
    ·refine .inl ⟨k,?_⟩
     have:y≠x:=fun e=>hj (iQ hN e1 (e ▸ hi))
     simp [this,e]
    ·exact .inr ⟨k,c,e,z.sameBut hs (cne y c e)⟩
  ·obtain ⟨w',z⟩:=I.cell y c e
   exact ⟨w',z.sameBut hs (cne y c e)⟩
  ·obtain ⟨e,n,ne,nf,d⟩:=I.pin p hp
   exact ⟨(hs.2 p.1 ne).trans e,n,ne,nf,d⟩
 ·have hfn:X.fn x=true:=by
   rcases hf with z | z
   ·exact z
   ·rw [z] at hk;cases hk
  obtain ⟨c,hc⟩:=I.ok.has x (.inl hk)
  obtain ⟨w',z⟩:=I.cell x c hc
  refine wpAny_storeName_cell I.ok.kind hk hc z (fun h' hc' hs=>?_)
  obtain ⟨oc,hoc,hocd⟩:=id z
  refine h { s with heap:=h' } ⟨I.ok,I.os,I.bare,⟨fun b o e n hb hx=>?_,fun b o e n hb hx=>?_,I.base.free,fun b o e hx=>?_,I.base.tups,I.base.frzs,I.base.tbls⟩,⟨m,hn.sameBut hs (Ne.symm (cne x c hc)),fun j y v' e1 e2 e3=>?_⟩,fun y c' e=>?_,I.free,I.freeC,fun p hp=>?_,tracked ⟨oc,hoc,I.freeC x c hc⟩ hs,by simpa using I.len⟩ ⟨c,hs,.inr hc⟩
  ·exact (hs.2 b (xp (w6 (wI e) (I.ok.cab x c hfn hc)))).trans (I.base.keep b o e n hb hx)
  ·obtain ⟨sl,e1⟩:=I.base.slot b o e n hb hx
   exact ⟨sl,(hs.2 b (xp (w6 (wI e) (I.ok.cab x c hfn hc)))).trans e1⟩
  ·obtain ⟨o',e1⟩:=I.base.there b o e hx
   exact ⟨o',(hs.2 b (xp (w6 (wI e) (I.ok.cab x c hfn hc)))).trans e1⟩
  ·by_cases hj:j=i
   ·subst hj
    rw [hi] at e1;cases e1
    rw [Aw hiσ] at e2
    cases e2
    exact ⟨u,r,.inr ⟨.inl hk,c,hc,hc'⟩⟩
   ·rw [List.getElem?_set_ne (Ne.symm hj)] at e2
    obtain ⟨u',r',q⟩:=hl j y v' e1 e2 e3
    refine ⟨u',r',?_⟩
    rcases q with q | ⟨k,c',e,z'⟩
    ·exact .inl q
    ·refine .inr ⟨k,c',e,z'.sameBut hs ?_⟩
     rintro rfl
     exact hj (iQ hN e1 (I.ok.inj _ _ _ e hc ▸ hi))
  ·by_cases hcc:c'=c
   ·subst hcc;exact ⟨_,hc'⟩
   ·obtain ⟨w2,z2⟩:=I.cell y c' e
    exact ⟨w2,z2.sameBut hs hcc⟩
  ·obtain ⟨e,n,ne,nf,d⟩:=I.pin p hp
   refine ⟨(hs.2 p.1 ?_).trans e,n,ne,nf,d⟩
   intro q
   rw [q,hoc] at e
   have q':oc=p.2:=wA e
   exact d w' (by rw [← q'];exact hocd)
theorem c7 {M:Model}{A:Around}{E:Value→Shared→Prop}{i:Nat}{x:Str}{v:V}{u:Value}{Q:Unit→Shared→Prop}(I:Inv X Bp σ H s)(hN:X.N.Nodup)(hi:X.N[i]? = some x)(hx:Loc X.env.scope x)(r:bB v u)
  (h:∀ s',Inv X Bp (σ.set i (some v)) H s'→Q () s') (hf:X.fn x=true ∨ X.env.scope.names.lookup x=some .local:=by first | exact .inl rfl | exact .inr rfl | assumption):wpAny M A (storeName X.env x u) Q E s :=
 jW I hN hi hx r (fun s' I' _=>h s' I') hf
theorem Inv.call' {s':Shared}{ch:List Addr}(I:Inv X Bp σ H s)(ho:s'.os=s.os)(u:Un (frs X.stack) ch H H' s.heap s'.heap)(hok:HOk X.prog X.w H' s'.heap)(hg:AllBare s'.gens)
  (hch:∀ b∈ch,(b∈X.ex ∨ X.s₀.heap.objs.size≤b)∧b≠X.env.locals∧(∀ x c,X.env.cells.lookup x=some c→c≠b)∧∀ p∈X.pn++Bp,p.1≠b):Inv X Bp σ H' s':=by
 obtain ⟨h',g',d',t',o'⟩:=s'
 have e:o'=s.os:=ho
 subst e
 exact I.call (g':=g') (t':=t') (d':=d') u hok hg hch
end
abbrev XK:=Value→Option Addr→Hp→Prop
abbrev St:=List (Option V)
abbrev VK:=V→Hp→Prop
abbrev TE:=St→Hp→VK→Prop
abbrev TT:=St→Hp→(Bool→Hp→Prop)→Prop
abbrev TA:=St→Hp→(List V→Hp→Prop)→Prop
structure gq where
 nx:St→Hp→Prop
 rt:VK
 bk:St→Hp→Prop:=fun _ _=>False
 ct:St→Hp→Prop:=fun _ _=>False
abbrev TS:=gq→St→Hp→Prop
def EP (X:Cx)(Bp:List (Addr × Obj))(σ:St)(Q:VK)(u:Value)(s':Shared):Prop:=∃ v H',Inv X Bp σ H' s'∧bB v u∧Q v H'
def TP (X:Cx)(Bp:List (Addr × Obj))(σ:St)(Q:Bool→Hp→Prop)(b:Bool)(s':Shared):Prop:=∃ H',Inv X Bp σ H' s'∧Q b H'
def AP (X:Cx)(Bp:List (Addr × Obj))(σ:St)(Q:List V→Hp→Prop)(us:List Value)(s':Shared):Prop:=∃ vs H',Inv X Bp σ H' s'∧bg vs us∧Q vs H'
def SP (X:Cx)(Bp:List (Addr × Obj))(D:gq)(f:Flow)(s':Shared):Prop :=
 match f with
 | .next=>∃ σ' H',Inv X Bp σ' H' s'∧D.nx σ' H'
 | .brk=>∃ σ' H',Inv X Bp σ' H' s'∧D.bk σ' H'
 | .cont=>∃ σ' H',Inv X Bp σ' H' s'∧D.ct σ' H'
 | .ret u=>∃ v σ' H',Inv X Bp σ' H' s'∧bB v u∧D.rt v H'
def PE (X:Cx)(e:Expr)(t:TE):Prop :=
 ∀ (Bp:List (Addr × Obj)) (s:Shared) (σ:St) (H:Hp) (Q:VK),Inv X Bp σ H s→t σ H Q→wpAny (model X.prog X.w) X.A (eval e X.env) (EP X Bp σ Q) X.xe s
def PT (X:Cx)(e:Expr)(t:TT):Prop :=
 ∀ (Bp:List (Addr × Obj)) (s:Shared) (σ:St) (H:Hp) (Q:Bool→Hp→Prop),Inv X Bp σ H s→t σ H Q→wpAny (model X.prog X.w) X.A (isTrue e X.env (eval e X.env)) (TP X Bp σ Q) X.xe s
def PW (X:Cx)(e:Expr)(t:TT):Prop :=
 ∀ (whole:Sem Value) (Bp:List (Addr × Obj)) (s:Shared) (σ:St) (H:Hp) (Q:Bool→Hp→Prop),Inv X Bp σ H s→t σ H Q→wpAny (model X.prog X.w) X.A (isTrue e X.env whole) (TP X Bp σ Q) X.xe s
theorem PW.pt {X:Cx}{e:Expr}{t:TT}(h:PW X e t):PT X e t:=h _
def PA (X:Cx)(es:List Expr)(t:TA):Prop :=
 ∀ (pos:Pos) (Bp:List (Addr × Obj)) (s:Shared) (σ:St) (H:Hp) (Q:List V→Hp→Prop),Inv X Bp σ H s→t σ H Q→wpAny (model X.prog X.w) X.A (spliced (backTo pos (starEach es X.env))) (AP X Bp σ Q) X.xe s
def PS (X:Cx)(st:Stmt)(t:TS):Prop :=
 ∀ (Bp:List (Addr × Obj)) (s:Shared) (σ:St) (H:Hp) (D:gq),Inv X Bp σ H s→t D σ H→wpAny (model X.prog X.w) X.A (exec st X.env) (SP X Bp D) X.xe s
def PSs (X:Cx)(st:List Stmt)(t:TS):Prop :=
 ∀ (Bp:List (Addr × Obj)) (s:Shared) (σ:St) (H:Hp) (D:gq),Inv X Bp σ H s→t D σ H→wpAny (model X.prog X.w) X.A (execs st X.env) (SP X Bp D) X.xe s
theorem thn {α:Type}{t:Sem α}{Q Q':α→Shared→Prop}{M:Model}{A:Around}{E:Value→Shared→Prop}{s:Shared}(h:wpAny M A t Q E s)(hQ:∀ a s,Q a s→Q' a s):wpAny M A t Q' E s:=yQ h hQ fun _ _ x=>x
section
variable {X:Cx}
inductive tN (i:Nat)(σ:St)(H:Hp)(Q:VK):Prop
 | mk:∀ v,(σ[i]? = some (some v))→(Q v H)→tN i σ H Q
def tC (v:V):TE:=fun _ H Q=>Q v H
theorem qP {i:Nat}{x:Str}{pos:Pos}(hN:X.N[i]? = some x)(hv:Vis X.env.scope x)(hd:(x == ("__debug__":Str))=false:=by decide)(hcd:(x == ("__classdict__":Str))=false:=by decide):PE X (.Name x pos) (tN i):=by
 intro Bp s σ H Q I h
 obtain ⟨v,e,h⟩:=h
 obtain ⟨m,hn,hl⟩:=I.loc
 obtain ⟨u,r,l⟩:=hl i x v hN e hv
 have fin:EP X Bp σ Q u s:=⟨v,H,I,r,h⟩
 rcases l with ⟨hk,hm⟩ | ⟨hk,c,hc,hcell⟩
 ·exact wpAny_Name (wpAny_loadName_local I.ok.kind hk hn hm fin) hd
 ·rcases hk with hk | hk
  ·exact wpAny_Name (wpAny_loadName_cell I.ok.kind hk hc hcell fin) hd
  ·exact wpAny_Name (wpAny_loadName_free I.ok.kind hk hc hcell fin hcd) hd
theorem ai {i j pos}:PE X (.Constant (.int i) j pos) (tC (.int i)):=fun _ _ _ H _ I h=>wpAny_Constant_int ⟨.int i,H,I.tok _,⟨_,rfl⟩,h⟩
theorem hU {b j pos}:PE X (.Constant (.bool b) j pos) (tC (.bl b)):=fun _ _ _ H _ I h=>Constant_bool ⟨.bl b,H,I,rfl,h⟩
theorem qQ {j pos}:PE X (.Constant .none j pos) (tC .non):=fun _ _ _ H _ I h=>Constant_none ⟨.non,H,I,rfl,h⟩
theorem bp {x j pos}:PE X (.Constant (.str x) j pos) (tC (.str x)):=fun _ _ _ H _ I h=>Calls.Constant_str ⟨.str x,H,I.tok _,⟨_,rfl⟩,h⟩
def Gl (X:Cx)(x:Str):Prop:=X.env.kindOf x=some .globalImplicit
theorem jX {E:Value→Shared→Prop}{Bp:List (Addr × Obj)}{s:Shared}{σ:St}{H:Hp}{x:Str}{u:Value}{pos:Pos}{Q:Value→Shared→Prop}(I:Inv X Bp σ H s)(hg:Gl X x)(hm:X.mg x=some u)(h:Q u s)
  (hd:(x == ("__debug__":Str))=false:=by decide):wpAny (model X.prog X.w) X.A (eval (.Name x pos) X.env) Q E s :=
 zW I.ok.kind hg (Calls.loadGlobal_global (by rw [I.ok.glob];exact I.mod.glob.keeps I.bk) hm h) hd
theorem gr {E:Value→Shared→Prop}{Bp:List (Addr × Obj)}{s:Shared}{σ:St}{H:Hp}{x:Str}{u:Value}{pos:Pos}{Q:Value→Shared→Prop}(I:Inv X Bp σ H s)(hg:Gl X x)(hm:X.mg x=none)(hv:bootBuiltins x=some u)(h:Q u s)
  (hn:x ≠ "__name__":=by decide) (hd:(x == ("__debug__":Str))=false:=by decide):wpAny (model X.prog X.w) X.A (eval (.Name x pos) X.env) Q E s:=by
 obtain ⟨mb,h1,h2⟩:=I.mod.blt
 exact zW I.ok.kind hg (Calls.loadGlobal_builtin (by rw [I.ok.glob];exact I.mod.glob.keeps I.bk) hm (by rw [I.ok.blt];exact h1.keeps I.bk) ((h2 x hn).trans hv) h) hd
variable {a b:Expr} {ta tb:TE} {pos:Pos}
inductive IsB (x:V)(H:Hp)(Q:Bool→Hp→Prop):Prop
 | mk:∀ c,(x = .bl c)→(Q c H)→IsB x H Q
variable {tA tB':TT} {rest:List Expr}
def bU (u:TT)(σ:St)(Q:(Bool→Hp→Prop)):Bool→Hp→Prop:=fun c H1=>if c=true then u σ H1 Q else Q false H1
def vv (t u:TT):TT:=fun σ H Q=>t σ H (bU u σ Q)
def jY (u:TT)(σ:St)(Q:(Bool→Hp→Prop)):Bool→Hp→Prop:=fun c H1=>if c=true then Q true H1 else u σ H1 Q
def tOr (t u:TT):TT:=fun σ H Q=>t σ H (jY u σ Q)
def jZ (Q:(Bool→Hp→Prop)):Bool→Hp→Prop:=fun c H1=>Q (!c) H1
def vw (t:TT):TT:=fun σ H Q=>t σ H (jZ Q)
theorem dA (ha:PT X a tA):PW X (.BoolOp .And [a] pos) tA:=by
 intro wh Bp s σ H Q I h
 refine isTrue_and (thn (ha Bp s σ H Q I h) fun c s1 e=>?_)
 cases c with
 | true=>exact isTrue_and_nil e
 | false=>exact e
theorem nY (ha:PT X a tA):PW X (.BoolOp .Or [a] pos) tA:=by
 intro wh Bp s σ H Q I h
 refine isTrue_or (thn (ha Bp s σ H Q I h) fun c s1 e=>?_)
 cases c with
 | false=>exact isTrue_or_nil e
 | true=>exact e
theorem dJ (ha:PT X a tA)(hb:PW X (.BoolOp .And (b::rest) pos) tB'):PW X (.BoolOp .And (a::b::rest) pos) (vv tA tB'):=by
 intro wh Bp s σ H Q I h
 refine isTrue_and (thn (ha Bp s σ H _ I h) fun c s1 zq7=>?_)
 obtain ⟨H1,I1,q1⟩:=zq7
 cases c with
 | true=>exact hb wh Bp s1 σ H1 Q I1 q1
 | false=>exact ⟨H1,I1,q1⟩
theorem qR (ha:PT X a tA)(hb:PW X (.BoolOp .Or (b::rest) pos) tB'):PW X (.BoolOp .Or (a::b::rest) pos) (tOr tA tB'):=by
 intro wh Bp s σ H Q I h
 refine isTrue_or (thn (ha Bp s σ H _ I h) fun c s1 zq8=>?_)
 obtain ⟨H1,I1,q1⟩:=zq8
 cases c with
 | true=>exact ⟨H1,I1,q1⟩
 | false=>exact hb wh Bp s1 σ H1 Q I1 q1
theorem qS (ha:PT X a tA):PT X (.UnaryOp .Not a pos) (vw tA):=by
 intro Bp s σ H Q I h
 exact isTrue_not (ha Bp s σ H (fun c H1=>Q (!c) H1) I h)
def mF (tb:TE)(σ:St)(Q:VK):Bool→Hp→Prop:=fun c H1=>if c=true then tb σ H1 Q else Q (.bl false) H1
def iR (tb:TE)(σ:St)(Q:VK):V→Hp→Prop:=fun x H1=>IsB x H1 (mF tb σ Q)
def tO (ta tb:TE):TE:=fun σ H Q=>ta σ H (iR tb σ Q)
theorem j2 {op}{t:TE}(h:PE X a t):PE X (.BoolOp op [a] pos) t:=fun Bp s σ H Q I hw=>BoolOp_one (h Bp s σ H Q I hw)
theorem qT (ha:PE X a ta)(hb:PE X (.BoolOp .And (b::rest) pos) tb):PE X (.BoolOp .And (a::b::rest) pos) (tO ta tb):=by
 intro Bp s σ H Q I h
 refine BoolOp_and (thn (ha Bp s σ H _ I h) fun v s1 zq9=>?_)
 obtain ⟨x,H1,I1,r1,q1⟩:=zq9
 obtain ⟨c,rfl,q1⟩:=q1
 cases r1
 refine yo ?_
 cases c with
 | true=>exact hb Bp s1 σ H1 Q I1 q1
 | false=>exact ⟨.bl false,H1,I1,rfl,q1⟩
def j3 (ta:TE)(tb:TE)(σ:St)(Q:VK):Bool→Hp→Prop:=fun c H1=>if c=true then ta σ H1 Q else tb σ H1 Q
def tIf (t:TT)(ta tb:TE):TE:=fun σ H Q=>t σ H (j3 ta tb σ Q)
theorem bV {c:Expr}(hc:PT X c tA)(ha:PE X a ta)(hb:PE X b tb):PE X (.IfExp c a b pos) (tIf tA ta tb):=by
 intro Bp s σ H Q I h
 refine wpAny_IfExp (thn (hc Bp s σ H _ I h) fun d s1 zq12=>?_)
 obtain ⟨H1,I1,q1⟩:=zq12
 cases d with
 | true=>exact ha Bp s1 σ H1 Q I1 q1
 | false=>exact hb Bp s1 σ H1 Q I1 q1
end
def SqL (K:PySem.W.Frag)(H:Hp)(a:Addr)(xs:List V):Prop :=
 Rd H a (.lst xs) ∨
  ∃ (o:Obj) (Br:Array Value) (n:Nat),K.lookup a=some o∧o.cls = .type "list"∧o.dict=none∧o.data = .seq Br n∧Br.size≤sizeLine∧bg xs Br.toList
def SqT (K:PySem.W.Frag)(H:Hp)(a:Addr)(xs:List V):Prop :=
 Rd H a (.tup xs) ∨
  ∃ (o:Obj) (Br:Array Value) (n:Nat),K.lookup a=some o∧o.cls = .type "tuple"∧o.data = .seq Br n∧Br.size≤sizeLine∧bg xs Br.toList
def vx:Value→Option V
 | .none=>some .non
 | .bool b=>some (.bl b)
 | .int i _=>some (.int i)
 | .str x _=>some (.str x)
 | .bytes b _=>some (.byt b)
 | .float b _=>some (.flt b)
 | .ref a=>some (.ref a)
 | .type n=>some (.ty n)
 | _=>none
theorem bB.abs {x:V}{u:Value}(r:bB x u):vx u=some x:=by
 cases x with
 | non=>cases r;rfl
 | bl _=>cases r;rfl
 | int _=>obtain ⟨t,rfl⟩:=r;rfl
 | str _=>obtain ⟨t,rfl⟩:=r;rfl
 | byt _=>obtain ⟨t,rfl⟩:=r;rfl
 | flt _=>obtain ⟨t,rfl⟩:=r;rfl
 | ref _=>cases r;rfl
 | ty _=>cases r;rfl
theorem bB.inj {x y:V}{u:Value}(r:bB x u)(q:bB y u):x=y:=wA (r.abs.symm.trans q.abs)
theorem bg.inj:∀ {xs ys:List V} {us:List Value},bg xs us→bg ys us→xs=ys
 | _,_,_,.nil,.nil=>rfl
 | _,_,_,.cons r t,.cons r' t'=>by rw [r.inj r',bg.inj t t']
section
variable {X:Cx} {Bp:List (Addr × Obj)} {σ:St} {H:Hp} {s:Shared} {a:Addr} {xs ys:List V}
theorem SqL.of {K:PySem.W.Frag}(h:H a=some (.lst xs)):SqL K H a xs:=.inl (.inl h)
theorem SqT.of {K:PySem.W.Frag}(h:H a=some (.tup xs)):SqT K H a xs:=.inl (.inl h)
theorem Inv.list (I:Inv X Bp σ H s)(h:SqL X.K H a xs):∃ Br:List Value,bg xs Br∧PlainL s.heap a Br.toArray∧xs.length≤sizeLine:=by
 rcases h with h | ⟨o,Br,n,hk,hc,hd,hs,hz,r⟩
 ·obtain ⟨z,Br,n,r,e⟩:=h.ok I.hok
  exact ⟨Br,r,⟨_,n,e,rfl,rfl,rfl⟩,z⟩
 ·refine ⟨Br.toList,r,⟨o,n,I.kIn a o hk,hc,hd,by simpa using hs⟩,?_⟩
  have e:=r.length
  simp only [wk] at e
  omega
theorem Inv.tuple (I:Inv X Bp σ H s)(h:SqT X.K H a xs):∃ Br:List Value,bg xs Br∧IsTup s.heap a Br.toArray∧xs.length≤sizeLine:=by
 rcases h with h | ⟨o,Br,n,hk,hc,hs,hz,r⟩
 ·obtain ⟨z,Br,r,p,_⟩:=h.ok I.hok
  exact ⟨Br,r,p,z⟩
 ·refine ⟨Br.toList,r,⟨o,I.kIn a o hk,hc,n,by simpa using hs⟩,?_⟩
  have e:=r.length
  simp only [wk] at e
  omega
theorem Inv.list_inj (I:Inv X Bp σ H s)(h:SqL X.K H a xs)(h':SqL X.K H a ys):xs=ys:=by
 obtain ⟨Br,r,⟨o,n,e,_,_,d⟩,_⟩:=I.list h
 obtain ⟨its',r',⟨o',n',e',_,_,d'⟩,_⟩:=I.list h'
 rw [e] at e';cases e'
 rw [d] at d'
 injection d' with d1 _
 have:Br=its':=by simpa using wR Array.toList d1
 subst this
 exact r.inj r'
theorem Inv.tuple_inj (I:Inv X Bp σ H s)(h:SqT X.K H a xs)(h':SqT X.K H a ys):xs=ys:=by
 obtain ⟨Br,r,⟨o,e,_,n,d⟩,_⟩:=I.tuple h
 obtain ⟨its',r',⟨o',e',_,n',d'⟩,_⟩:=I.tuple h'
 rw [e] at e';cases e'
 rw [d] at d'
 injection d' with d1 _
 have:Br=its':=by simpa using wR Array.toList d1
 subst this
 exact r.inj r'
end
abbrev Cx.wish (X:Cx)(E:Value→Shared→Prop):Cx:={ X with xe:=E }
abbrev Cx.nox (X:Cx):Cx:=X.wish fun _ _=>False
theorem Cx.Ok.wish {X:Cx}(ok:X.Ok)(E:Value→Shared→Prop):(X.wish E).Ok :=
 ⟨ok.mod,ok.kind,ok.glob,ok.blt,ok.above,ok.inj,ok.has,ok.cab,ok.hd,ok.frames,ok.stk,ok.exf,ok.bs,ok.bsz,ok.noex,ok.exfs,ok.funs,ok.frf⟩
theorem Cx.Ok.unwish {X:Cx}{E:Value→Shared→Prop}(ok:(X.wish E).Ok):X.Ok :=
 ⟨ok.mod,ok.kind,ok.glob,ok.blt,ok.above,ok.inj,ok.has,ok.cab,ok.hd,ok.frames,ok.stk,ok.exf,ok.bs,ok.bsz,ok.noex,ok.exfs,ok.funs,ok.frf⟩
section
variable {X:Cx} {Bp:List (Addr × Obj)} {σ:St} {H:Hp} {s:Shared} {E:Value→Shared→Prop}
theorem Inv.wish (I:Inv X Bp σ H s)(E:Value→Shared→Prop):Inv (X.wish E) Bp σ H s:=⟨I.ok.wish E,I.os,I.bare,I.base,I.loc,I.cell,I.free,I.freeC,I.pin,I.hok,I.len⟩
theorem Inv.unwish (I:Inv (X.wish E) Bp σ H s):Inv X Bp σ H s:=⟨I.ok.unwish,I.os,I.bare,I.base,I.loc,I.cell,I.free,I.freeC,I.pin,I.hok,I.len⟩
theorem SP.unwish {D:gq}{f:Flow}{s':Shared}(h:SP (X.wish E) Bp D f s'):SP X Bp D f s':=by
 cases f with
 | next=>obtain ⟨σ',H',I,q⟩:=h;exact ⟨σ',H',I.unwish,q⟩
 | brk=>obtain ⟨σ',H',I,q⟩:=h;exact ⟨σ',H',I.unwish,q⟩
 | cont=>obtain ⟨σ',H',I,q⟩:=h;exact ⟨σ',H',I.unwish,q⟩
 | ret u=>obtain ⟨v,σ',H',I,r,q⟩:=h;exact ⟨v,σ',H',I.unwish,r,q⟩
theorem PSs.nox {st:List Stmt}{t:TS}(h:PSs X.nox st t):PSs X st t:=fun Bp s σ H D I hw =>
 yQ (h Bp s σ H D (I.wish _) hw) (fun _ _ q=>q.unwish) fun _ _ z=>False.elim z
end
section
variable {X:Cx} {st:Stmt} {rest:List Stmt} {t u:TS} {e:Expr} {te:TE} {pos:Pos}
def tP:TS:=fun D σ H=>D.nx σ H
def tQ (t u:TS):TS:=fun D σ H=>t { D with nx:=u D } σ H
theorem aY:PSs X [] tP:=fun _ _ σ H _ I h=>zO ⟨σ,H,I,h⟩
theorem ah (h1:PS X st t)(h2:PSs X rest u):PSs X (st::rest) (tQ t u):=by
 intro Bp s σ H D I h
 refine wpAny_execs_cons (thn (h1 Bp s σ H { D with nx:=u D } I h) fun f s1 q=>?_)
 cases f with
 | next =>
  obtain ⟨σ',H',I',q⟩:=q
  exact h2 Bp s1 σ' H' D I' q
 | ret v=>exact q
 | brk=>exact q
 | cont=>exact q
theorem aj (h1:PS X st t):PSs X [st] t:=by
 intro Bp s σ H D I h
 refine wpAny_execs_cons (thn (h1 Bp s σ H D I h) fun f s1 q=>?_)
 cases f with
 | next=>exact zO q
 | ret v=>exact q
 | brk=>exact q
 | cont=>exact q
theorem Inv.quiet {Bp:List (Addr × Obj)}{σ:St}{H:Hp}{s:Shared}(I:Inv X Bp σ H s):interactive X.env=false:=by simp [interactive,I.ok.kind]
def mG (D:gq)(σ:St):V→Hp→Prop:=fun _ H1=>D.nx σ H1
def tR (te:TE):TS:=fun D σ H=>te σ H (mG D σ)
theorem bx (he:PE X e te)(hs:swapsWith e none pos.line X.env=pure false:=by rfl):PS X (.Expr e pos) (tR te):=by
 intro Bp s σ H D I h
 exact wpAny_Expr_any (thn (he Bp s σ H _ I h) fun v s1 zq15=>(by obtain ⟨x,H1,I1,r1,q1⟩:=zq15;exact ⟨σ,H1,I1,q1⟩)) I.quiet hs
def vy (te:TE):TS:=fun D σ H=>te σ H D.rt
theorem aL (he:PE X e te):PS X (.Return (some e) pos) (vy te):=by
 intro Bp s σ H D I h
 exact wpAny_Return_some (thn (he Bp s σ H _ I h) fun v s1 zq16=>(by obtain ⟨x,H1,I1,r1,q1⟩:=zq16;exact ⟨x,σ,H1,I1,r1,q1⟩))
def cj (t:TS)(u:TS)(D:gq)(σ:St):Bool→Hp→Prop:=fun b H1=>if b=true then t D σ H1 else u D σ H1
def vz (c:TT)(t u:TS):TS:=fun D σ H=>c σ H (cj t u D σ)
theorem bN {c:Expr}{a b:List Stmt}{tc:TT}(hc:PT X c tc)(ha:PSs X a t)(hb:PSs X b u):PS X (.If c a b pos) (vz tc t u):=by
 intro Bp s σ H D I h
 refine wpAny_If (thn (hc Bp s σ H _ I h) fun d s1 zq17=>?_)
 obtain ⟨H1,I1,q1⟩:=zq17
 cases d with
 | true=>exact ha Bp s1 σ H1 D I1 q1
 | false=>exact hb Bp s1 σ H1 D I1 q1
end
abbrev TG:=V→St→Hp→(St→Hp→Prop)→Prop
abbrev TGs:=List V→St→Hp→(St→Hp→Prop)→Prop
def PG (X:Cx)(target:Expr)(t:TG):Prop :=
 ∀ (Bp:List (Addr × Obj)) (s:Shared) (σ:St) (H:Hp) (v:V) (u:Value) (Q:St→Hp→Prop),Inv X Bp σ H s→bB v u→t v σ H Q →
  wpAny (model X.prog X.w) X.A (assign target X.env u) (fun _ s'=>∃ σ' H',Inv X Bp σ' H' s'∧Q σ' H') X.xe s
def PGs (X:Cx)(ts:List Expr)(t:TGs):Prop :=
 ∀ (Bp:List (Addr × Obj)) (s:Shared) (σ:St) (H:Hp) (vs:List V) (us:List Value) (Q:St→Hp→Prop),Inv X Bp σ H s→bg vs us→t vs σ H Q →
  wpAny (model X.prog X.w) X.A (assignInOrder ((assignEach ts X.env).map (·.2)) us) (fun _ s'=>∃ σ' H',Inv X Bp σ' H' s'∧Q σ' H') X.xe s
abbrev tS:=V→V→V→Hp→(Hp→Prop)→Prop
def u9 (X:Cx)(t:tS):Prop :=
 ∀ (Bp:List (Addr × Obj)) (s:Shared) (σ:St) (H:Hp) (o i v:V) (ov iv u:Value) (Q:Hp→Prop),Inv X Bp σ H s→bB o ov→bB i iv→bB v u→t o i v H Q →
  wpAny (model X.prog X.w) X.A (setItem ov iv u) (fun _ s'=>∃ H',Inv X Bp σ H' s'∧Q H') X.xe s
abbrev TIp:=V→V→Hp→VK→Prop
def PIp (X:Cx)(op:Operator)(t:TIp):Prop :=
 ∀ (Bp:List (Addr × Obj)) (s:Shared) (σ:St) (H:Hp) (x y:V) (v u:Value) (Q:VK),Inv X Bp σ H s→bB x v→bB y u→t x y H Q →
  wpAny (model X.prog X.w) X.A (inplaceOp op v u) (EP X Bp σ Q) X.xe s
section
variable {X:Cx} {pos:Pos}
def j4 (i:Nat):TG:=fun v σ H Q=>Q (σ.set i (some v)) H
theorem aO {i:Nat}{x:Str}(hN:X.N.Nodup)(hi:X.N[i]? = some x)(hx:Loc X.env.scope x)(hf:X.fn x=true ∨ X.env.scope.names.lookup x=some .local:=by first | exact .inl rfl | exact .inr rfl | assumption):PG X (.Name x pos) (j4 i):=by
 intro Bp s σ H v u Q I r h
 exact wpAny_assign_Name (c7 I hN hi hx r (fun s' I'=>⟨_,H,I',h⟩) hf)
def vA:TGs:=fun vs σ H Q=>vs=[]∧Q σ H
def tT (t:TG)(u:TGs):TGs:=fun vs σ H Q=>∃ v r,vs=v::r∧t v σ H fun σ' H'=>u r σ' H' Q
theorem oR:PGs X [] vA:=by
 intro Bp s σ H vs us Q I r h
 obtain ⟨e,h⟩:=h
 subst e
 cases r
 exact assignInOrder_nil ⟨σ,H,I,h⟩
theorem iS {e:Expr}{es:List Expr}{t:TG}{u:TGs}(h1:PG X e t)(h2:PGs X es u)
  (hs:(assignEach (e::es) X.env).map (·.2)=assign e X.env::(assignEach es X.env).map (·.2):=by rfl):PGs X (e::es) (tT t u):=by
 intro Bp s σ H vs us Q I r h
 obtain ⟨v,vr,e1,h⟩:=h
 subst e1
 cases r with
 | cons r rr =>
  rw [hs]
  refine zY (thn (h1 Bp s σ H _ _ _ I r h) fun _ s1 zq18=>?_)
  obtain ⟨σ1,H1,I1,q1⟩:=zq18
  exact h2 Bp s1 σ1 H1 _ _ Q I1 rr q1
def vB (K:PySem.W.Frag)(n:Nat)(t:TGs):TG:=fun v σ H Q=>∃ a xs,v = .ref a∧SqT K H a xs∧xs.length=n∧t xs σ H Q
theorem qU {es:List Expr}{k:Nat}{t:TGs}{n:Nat}(hc:X.calm=true)(h:PGs X es t)
  (hn:(assignEach es X.env).length=n:=by rfl) (hst:(assignEach es X.env).findIdx? (·.1)=none:=by rfl):PG X (.Tuple es k pos) (vB X.K n t):=by
 intro Bp s σ H v u Q I r hw
 obtain ⟨a,xs,e1,hq,hl,hw⟩:=hw
 subst e1
 cases r
 obtain ⟨Br,rv,ht,hz⟩:=I.tuple hq
 refine assign_Tuple_tuple (I.ok.hd hc) ht (by simp [hn,← hl,rv.length]) hst fun h' hx=>?_
 have I1:Inv X Bp σ H { s with heap:=h' }:=I.kept (t':=s.toks) fun b o e=>hx b o (xp (wI e)) e
 exact h Bp _ σ H xs _ Q I1 (by simpa using rv) hw
def vC (to ti:TE)(t:tS):TG:=fun v σ H Q=>to σ H fun o H1=>ti σ H1 fun i H2=>t o i v H2 fun H3=>Q σ H3
theorem iT {o i:Expr}{to ti:TE}{t:tS}(ho:PE X o to)(hi:PE X i ti)(hs:u9 X t)
  (ha:∀ v,assign (.Subscript o i pos) X.env v=(do
   let ov ← holding [v] (eval o X.env)
   let iv ← holding [v,ov] (eval i X.env)
   standAt pos
   holding [v,ov,iv] (setItem ov iv v)
   release [v,ov,iv] []):=by intro _;rfl):PG X (.Subscript o i pos) (vC to ti t):=by
 intro Bp s σ H v u Q I r h
 rw [ha]
 refine we (yy (thn (ho Bp s σ H _ I h) fun ov s1 zq19=>?_))
 obtain ⟨x,H1,I1,r1,q1⟩:=zq19
 refine we (yy (thn (hi Bp s1 σ H1 _ I1 q1) fun iv s2 zq20=>?_))
 obtain ⟨y,H2,I2,r2,q2⟩:=zq20
 refine we (Ac (we (yy (thn (hs Bp s2 σ H2 x y v ov iv u _ I2 r1 r2 r q2) fun _ s3 zq21=>?_))))
 obtain ⟨H3,I3,q3⟩:=zq21
 exact wpAny_release ⟨σ,H3,I3,q3⟩
def dC (g:TG)(D:gq)(σ:St):V→Hp→Prop:=fun x H1=>g x σ H1 D.nx
def tU (te:TE)(g:TG):TS:=fun D σ H=>te σ H (dC g D σ)
theorem iU {tg e:Expr}{te:TE}{g:TG}(he:PE X e te)(hg:PG X tg g)(hs:swapsWithSole [tg] e pos.line X.env=pure false:=by rfl)(hw:swappedStores [tg] e X.env=pure none:=by rfl)
  (h1:(assignEach [tg] X.env).map (·.2)=[assign tg X.env]:=by rfl):PS X (.Assign [tg] e pos) (tU te g):=by
 intro Bp s σ H D I h
 refine wpAny_Assign_stores (thn (he Bp s σ H _ I h) fun v s1 zq22=>?_) hs hw
 obtain ⟨x,H1,I1,r1,q1⟩:=zq22
 rw [h1]
 exact thn (hg Bp s1 σ H1 x v _ I1 r1 q1) fun _ s2 q=>q
theorem aq {i:Nat}{x:Str}{e:Expr}{te:TE}{pos':Pos}(hN:X.N.Nodup)(hi:X.N[i]? = some x)(hx:Loc X.env.scope x)(he:PE X e te)(hs:swapsWith e (some (.Name x pos')) pos.line X.env=pure false:=by rfl)(hf:X.fn x=true ∨ X.env.scope.names.lookup x=some .local:=by first | exact .inl rfl | exact .inr rfl | assumption) :
  PS X (.Assign [.Name x pos'] e pos) (tU te (j4 i)):=by
 intro Bp s σ H D I h
 refine wpAny_Assign_Name (thn (he Bp s σ H _ I h) fun v s1 zq23=>?_) hs
 obtain ⟨y,H1,I1,r1,q1⟩:=zq23
 exact c7 I1 hN hi hx r1 (fun s2 I2=>⟨_,H1,I2,q1⟩) hf
def vD (i j:Nat)(ta:TA):TS:=fun D σ H=>ta σ H fun vs H1=>∃ v w,vs=[v,w]∧D.nx ((σ.set i (some v)).set j (some w)) H1
theorem iV {i j:Nat}{x y:Str}{a b:Expr}{ta:TA}{px py pt:Pos}{kt k2 pt2}(hc:X.calm=true)(hN:X.N.Nodup)(hi:X.N[i]? = some x)(hj:X.N[j]? = some y)(BD:i≠j)
  (hx:X.env.scope.names.lookup x=some .local) (hy:X.env.scope.names.lookup y=some .local) (ha:PA X [a,b] ta)
  (hw:swappedStores [.Tuple [.Name x px,.Name y py] kt pt] (.Tuple [a,b] k2 pt2) X.env=pure (some [x,y]))
  (hs:swapsWithSole [.Tuple [.Name x px,.Name y py] kt pt] (.Tuple [a,b] k2 pt2) pos.line X.env=pure false:=by rfl) :
  PS X (.Assign [.Tuple [.Name x px,.Name y py] kt pt] (.Tuple [a,b] k2 pt2) pos) (vD i j ta):=by
 intro Bp s σ H D I h
 rw [exec_Assign_arm]
 refine we (Ac ?_)
 rw [hs]
 refine we (wJ ?_)
 rw [if_neg (by decide)]
 refine we (Tuple_ (thn (ha _ Bp s σ H _ I h) fun us s1 zq24=>?_))
 obtain ⟨vs,H1,I1,r1,q1⟩:=zq24
 obtain ⟨v,w,e1,q1⟩:=q1
 subst e1
 obtain ⟨u1,u2,rfl,rv,rw'⟩:∃ u1 u2,us=[u1,u2]∧bB v u1∧bB w u2:=by
  cases r1 with
  | cons p q =>
   cases q with
   | cons p' q' =>
    cases q'
    exact ⟨_,_,rfl,p,p'⟩
 refine wpAny_newObj_type ?_ (by show 2≤sizeLine;decide)
 have I2:Inv X Bp σ H1 { s1 with heap:=s1.heap.push { cls:=.type "tuple",data:=.seq [u1,u2].toArray } }:=I1.kept (t':=s1.toks) fun b o e=>wg _ e
 rw [hw]
 refine we (wJ ?_)
 show wpAny (model X.prog X.w) X.A (do rule "assign.swapped-stores";let items ← unpackItems (.ref s1.heap.objs.size) 2 none;assignInOrder [fun v=>bindName X.env y v,fun v=>bindName X.env x v] items.reverse;pure Flow.next) _ _ _
 refine we (yC (we (unpackItems_tuple (items:=#[u1,u2]) (I.ok.hd hc) (IsTup.new s1.heap _) fun h' hx'=>?_)))
 have I3:=I2.kept (h':=h') (t':=s1.toks) fun b o e=>hx' b o (xp (wI e)) e
 show wpAny _ _ (assignInOrder [fun v=>bindName X.env y v,fun v=>bindName X.env x v] [u2,u1] >>= fun _=>pure Flow.next) _ _ _
 refine we (zY (wpAny_bindName (c7 I3 hN hj (.inl hy) rw' (fun s2 I4=>?_) (.inr hy))))
 refine zY (wpAny_bindName (c7 I4 hN hi (.inl hx) rv (fun s3 I5=>assignInOrder_nil (wJ ?_)) (.inr hx)))
 rw [List.set_comm _ _ (Ne.symm BD)] at I5
 exact ⟨_,H1,I5,q1⟩
inductive u_ (i:Nat)(te:TE)(ti:TIp)(D:gq)(σ:St)(H:Hp):Prop
 | mk:∀ x,(σ[i]? = some (some x))→(te σ H fun y H1=>ti x y H1 fun z H2=>D.nx (σ.set i (some z)) H2)→u_ i te ti D σ H
theorem qV {i:Nat}{x:Str}{e:Expr}{te:TE}{op:Operator}{ti:TIp}{pos':Pos}(hN:X.N.Nodup)(hi:X.N[i]? = some x)(hx:Loc X.env.scope x)(he:PE X e te)(ho:PIp X op ti)(hf:X.fn x=true ∨ X.env.scope.names.lookup x=some .local:=by first | exact .inl rfl | exact .inr rfl | assumption) :
  PS X (.AugAssign (.Name x pos') op e pos) (u_ i te ti):=by
 intro Bp s σ H D I h
 obtain ⟨v,e1,h⟩:=h
 obtain ⟨m,hn,hl⟩:=I.loc
 have vis:Vis X.env.scope x:=by rcases hx with k | k;exact .inl k;exact .inr (.inl k)
 obtain ⟨u,r,l⟩:=hl i x v hi e1 vis
 refine wpAny_AugAssign_Name ?_
 have go:wpAny (model X.prog X.w) X.A (eval e X.env) (fun w s₂=>wpAny (model X.prog X.w) X.A (inplaceOp op u w) (fun r s₃=>wpAny (model X.prog X.w) X.A (storeName X.env x r) (fun _=>SP X Bp D .next) X.xe s₃) X.xe s₂) X.xe s:=by
  refine thn (he Bp s σ H _ I h) fun w s1 zq25=>?_
  obtain ⟨y,H1,I1,r1,q1⟩:=zq25
  refine thn (ho Bp s1 σ H1 v y u w _ I1 r r1 q1) fun z s2 zq26=>?_
  obtain ⟨zv,H2,I2,r2,q2⟩:=zq26
  exact c7 I2 hN hi hx r2 (fun s3 I3=>⟨_,H2,I3,q2⟩) hf
 rcases l with ⟨hk,hm⟩ | ⟨hk,c,hc,hcell⟩
 ·exact wpAny_loadName_local I.ok.kind hk hn hm go
 ·rcases hk with hk | hk
  ·exact wpAny_loadName_cell I.ok.kind hk hc hcell go
  ·rcases hx with k | k
   ·have:X.env.scope.names.lookup x=some .free:=hk
    rw [k] at this;cases this
   ·have:X.env.scope.names.lookup x=some .free:=hk
    rw [k] at this;cases this
def ipI (f:Int→Int→Int):TIp:=fun x y H Q=>∃ i j,x = .int i∧y = .int j∧Q (.int (f i j)) H
theorem qW:PIp X .Add (ipI fun i j=>i+j):=by
 intro Bp s σ H x y v u Q I r1 r2 h
 obtain ⟨i,j,e1,e2,q⟩:=h
 subst e1;subst e2
 obtain ⟨t,rfl⟩:=r1
 obtain ⟨t',rfl⟩:=r2
 exact iadd_int ⟨.int _,H,I.tok _,⟨_,rfl⟩,q⟩
def n6 (c:TT)(tb:TS):TS:=fun D σ H=>∃ W:Nat→St→Hp→Prop,(∃ m,W m σ H)∧∀ m σ H,W m σ H →
 c σ H fun b H1=>if b=true then ∃ N:St→Hp→Prop,(∀ σ' H',N σ' H'→∃ m',m' < m∧W m' σ' H')∧tb { D with nx:=N,ct:=N,bk:=D.nx } σ H1 else D.nx σ H1
theorem fk {c:Expr}{body:List Stmt}{tc:TT}{tb:TS}(hp:PassesOwn (model X.prog X.w) X.A X.env X.xe)(hc:PT X c tc)(hb:PSs X body tb):PS X (.While c body [] pos) (n6 tc tb):=by
 intro Bp s σ H D I h
 obtain ⟨W,⟨m0,w0⟩,turn⟩:=h
 refine wpAny_While (codeAny_whileLoop (fun n s'=>∃ σ' H',Inv X Bp σ' H' s'∧W n σ' H') ?_ m0 ⟨σ,H,I,w0⟩)
 rintro n s1 ⟨σ1,H1,I1,w1⟩
 refine yD hp (thn (hc Bp s1 σ1 H1 _ I1 (turn n σ1 H1 w1)) fun b s2 zq33=>?_)
 obtain ⟨H2,I2,q2⟩:=zq33
 cases b with
 | true =>
  obtain ⟨N,hN,q2⟩:=q2
  rw [if_pos rfl]
  refine yD hp (thn (hb Bp s2 σ1 H2 _ I2 q2) fun f s3 q3=>?_)
  cases f with
  | next =>
   obtain ⟨σ3,H3,I3,n3⟩:=q3
   obtain ⟨m',hm,w3⟩:=hN σ3 H3 n3
   exact ⟨m',hm,σ3,H3,I3,w3⟩
  | cont =>
   obtain ⟨σ3,H3,I3,n3⟩:=q3
   obtain ⟨m',hm,w3⟩:=hN σ3 H3 n3
   exact ⟨m',hm,σ3,H3,I3,w3⟩
  | brk=>exact q3
  | ret v=>exact q3
 | false =>
  rw [if_neg wM]
  exact zO ⟨σ1,H2,I2,q2⟩
end
structure It where
 go:Nat→Hp→Prop
 yld:Nat→Hp→V→Hp→Prop
 stop:Nat→Hp→Prop
def j5 (X:Cx)(Bp:List (Addr × Obj))(H:Hp)(b:Addr):Prop :=
 H b=none∧b≠X.env.locals∧b∉X.fs∧(b∈X.ex ∨ X.s₀.heap.objs.size≤b)∧(∀ x c,X.env.cells.lookup x=some c→c≠b)∧∀ p∈X.pn++Bp,p.1≠b
theorem Inv.fpOk {X:Cx}{Bp:List (Addr × Obj)}{σ:St}{H H':Hp}{s:Shared}{b:Addr}(I:Inv X Bp σ H s)(hb:s.heap.objs.size≤b)(hn:H' b=none):j5 X Bp H' b:=by
 refine ⟨hn,Az (w6 I.lt hb),I.nofs hb,.inr (xq I.sz hb),fun x c e z=>?_,fun p hp z=>?_⟩
 ·obtain ⟨v,q⟩:=I.cell x c e
  exact absurd (w6 q.lt (by rw [z];exact hb)) (xV _)
 ·exact absurd (w6 (wI (I.pin p hp).1) (by rw [z];exact hb)) (xV _)
structure qX (P:Program) (w:World) (K:PySem.W.Frag) (tg:Expr) (J:It) (fp:List Addr) (it:Addr) (tn:Nat→Heap→Prop):Prop where
 mem:it∈fp
 obj:∀ i h,tn i h→∀ b∈fp,∃ o,h.get? b=some o∧∀ v,o.data ≠ .cell v
 keep:∀ i h h',tn i h→(∀ b∈fp,∀ o,h.get? b=some o→h'.get? b=some o)→tn i h'
 item:∀ (X:Cx),X.prog=P→X.w=w→X.K=K→X.calm=true→∀ (i:Nat) (Bp:List (Addr × Obj)) (s:Shared) (σ:St) (H:Hp) (E:Value→Shared→Prop),Inv X Bp σ H s→(∀ b∈fp,j5 X Bp H b)→tn i s.heap→J.go i H →
  wpAny (model P w) X.A (pyNext (.ref it)) (fun r s1=>∃ u,r=some u ∧
   wpAny (model P w) X.A (letOwnedTupleGo tg (.ref it) u) (fun _ s2=>∃ x H',Inv X Bp σ H' s2∧bB x u∧J.yld i H x H'∧tn (i+1) s2.heap∧∀ b∈fp,H' b=none) E s1) E s
 done:∀ (X:Cx),X.prog=P→X.w=w→X.K=K→X.calm=true→∀ (i:Nat) (Bp:List (Addr × Obj)) (s:Shared) (σ:St) (H:Hp) (E:Value→Shared→Prop),Inv X Bp σ H s→(∀ b∈fp,j5 X Bp H b)→tn i s.heap→J.stop i H →
  wpAny (model P w) X.A (pyNext (.ref it)) (fun r s1=>r=none∧Inv X Bp σ H s1) E s
 self:∀ (A:Around) (i:Nat) (s:Shared) (Q:Value→Shared→Prop) (E:Value→Shared→Prop),tn i s.heap→Q (.ref it) s→wpAny (model P w) A (pyIter (.ref it)) Q E s
abbrev TI:=St→Hp→(It→Hp→Prop)→Prop
def PIE (X:Cx)(Bp:List (Addr × Obj))(σ:St)(tg:Expr)(R:It→Hp→Prop)(itv:Value)(s2:Shared):Prop :=
 ∃ (it:Addr) (fp:List Addr) (tn:Nat→Heap→Prop) (J:It) (H':Hp),itv = .ref it∧Inv X Bp σ H' s2∧qX X.prog X.w X.K tg J fp it tn∧tn 0 s2.heap∧(∀ b∈fp,j5 X Bp H' b)∧R J H'
def PI (X:Cx)(tg iter:Expr)(wi:TI):Prop :=
 ∀ (Bp:List (Addr × Obj)) (s:Shared) (σ:St) (H:Hp) (R:It→Hp→Prop),Inv X Bp σ H s→wi σ H R →
  wpAny (model X.prog X.w) X.A (eval iter X.env) (fun v s1=>wpAny (model X.prog X.w) X.A (pyIter v) (PIE X Bp σ tg R) X.xe s1) X.xe s
theorem mH {M:Model}{A:Around}{E:Value→Shared→Prop}{s:Shared}{tg:Expr}{it:Addr}{u:Value}{o:Obj}{n:String}{vs:Array Value}{Q:Unit→Shared→Prop}(ho:s.heap.get? it=some o)(hc:o.cls = .type n)(hd:o.data = .fields vs)
  (hn:["enumerate","zip","dict_itemiterator","dict_reverseitemiterator","odict_iterator","itertools.zip_longest","itertools.pairwise"].contains n=false) (hQ:Q () s):wpAny M A (letOwnedTupleGo tg (.ref it) u) Q E s:=by
 unfold letOwnedTupleGo
 cases tg <;> first
  | exact wJ hQ
  | (cases u <;> first
    | exact wJ hQ
    | (
      refine we (wpAny_load ho ?_)
      rw [hc,hd]
      show wpAny M A (if (["enumerate","zip","dict_itemiterator","dict_reverseitemiterator","odict_iterator","itertools.zip_longest","itertools.pairwise"].contains n && vs[0]? == some (rawInt _))=true then _ else _) Q E s
      rw [if_neg (by intro h;rw [hn,xU] at h;cases h)]
      exact wJ hQ))
def Itl (K:PySem.W.Frag)(a:Addr):It :=
 ⟨fun i H=>∃ xs x,SqL K H a xs∧xs[i]? = some x,fun i H x H'=>H'=H∧∀ xs,SqL K H a xs→xs[i]? = some x,fun i H=>∃ xs,SqL K H a xs∧xs.length≤i⟩
def Itt (K:PySem.W.Frag)(a:Addr):It :=
 ⟨fun i H=>∃ xs x,SqT K H a xs∧xs[i]? = some x,fun i H x H'=>H'=H∧∀ xs,SqT K H a xs→xs[i]? = some x,fun i H=>∃ xs,SqT K H a xs∧xs.length≤i⟩
def Itr (lo:Int)(n:Nat):It:=⟨fun i _=>i < n,fun i H x H'=>H'=H∧x = .int (lo+i),fun i _=>n≤i⟩
theorem j6 {P:Program}{w:World}{K:PySem.W.Frag}{tg:Expr}(a it:Addr):qX P w K tg (Itl K a) [it] it (fun i h=>h.IsListIter it a i) where
 mem:=by simp
 obj:=fun i h st b hb=>by
  have e:b=it:=by simpa using hb
  subst e
  obtain ⟨o,e,c,d⟩:=st
  exact ⟨o,e,fun v z=>by rw [d] at z;cases z⟩
 keep:=fun i h h' st k=>st.at fun o e=>k it (by simp) o e
 item:=by
  intro X hP hw hK hc i Bp s σ H E I hf st hg
  subst hP hw hK
  obtain ⟨xs,x,hq,hx⟩:=hg
  obtain ⟨Br,rv,p,hz⟩:=I.list hq
  obtain ⟨u,hu,ru⟩:=rv.get hx
  obtain ⟨f0,f1,f2,f3,f4,f5⟩:=hf it (by simp)
  refine wpAny_pyNext_list_item st p.isList (x:=u) (by simpa using hu) fun h' Bq sb=>?_
  have I1:Inv X Bp σ H { s with heap:=h' }:=I.turned (t':=s.toks) (fun b o hb e=>(sb.2 b hb).trans e) f0 f1 f3 f4 f5
  obtain ⟨o,e,c,d⟩:=id Bq
  exact ⟨u,rfl,mH (s:={ s with heap:=h' }) e c d (by decide) ⟨x,H,I1,ru,⟨rfl,fun ys hy=>by rw [I.list_inj hy hq];exact hx⟩,Bq,fun b hb=>(hf b hb).1⟩⟩
 done:=by
  intro X hP hw hK hc i Bp s σ H E I hf st hg
  subst hP hw hK
  obtain ⟨xs,hq,hx⟩:=hg
  obtain ⟨Br,rv,p,hz⟩:=I.list hq
  obtain ⟨f0,f1,f2,f3,f4,f5⟩:=hf it (by simp)
  have hl:=rv.length
  exact wpAny_pyNext_list_end (I.ok.hd hc) st p.isList (by simp;omega) fun h' eb=>⟨rfl,I.turned (t':=s.toks) (fun b o hb e=>eb b o hb e) f0 f1 f3 f4 f5⟩
 self:=fun _ _ _ _ _ st h=>wpAny_pyIter_listiter st h
theorem jx {P:Program}{w:World}{K:PySem.W.Frag}{tg:Expr}(a it:Addr):qX P w K tg (Itt K a) [it] it (fun i h=>h.IsTupleIter it a i) where
 mem:=by simp
 obj:=fun i h st b hb=>by
  have e:b=it:=by simpa using hb
  subst e
  obtain ⟨o,e,c,d⟩:=st
  exact ⟨o,e,fun v z=>by rw [d] at z;cases z⟩
 keep:=fun i h h' st k=>st.at fun o e=>k it (by simp) o e
 item:=by
  intro X hP hw hK hc i Bp s σ H E I hf st hg
  subst hP hw hK
  obtain ⟨xs,x,hq,hx⟩:=hg
  obtain ⟨Br,rv,p,hz⟩:=I.tuple hq
  obtain ⟨u,hu,ru⟩:=rv.get hx
  obtain ⟨f0,f1,f2,f3,f4,f5⟩:=hf it (by simp)
  refine wpAny_pyNext_tuple_item st (show s.heap.IsTuple a Br.toArray from p) (x:=u) (by simpa using hu) fun h' Bq sb=>?_
  have I1:Inv X Bp σ H { s with heap:=h' }:=I.turned (t':=s.toks) (fun b o hb e=>(sb.2 b hb).trans e) f0 f1 f3 f4 f5
  obtain ⟨o,e,c,d⟩:=id Bq
  exact ⟨u,rfl,mH (s:={ s with heap:=h' }) e c d (by decide) ⟨x,H,I1,ru,⟨rfl,fun ys hy=>by rw [I.tuple_inj hy hq];exact hx⟩,Bq,fun b hb=>(hf b hb).1⟩⟩
 done:=by
  intro X hP hw hK hc i Bp s σ H E I hf st hg
  subst hP hw hK
  obtain ⟨xs,hq,hx⟩:=hg
  obtain ⟨Br,rv,p,hz⟩:=I.tuple hq
  obtain ⟨f0,f1,f2,f3,f4,f5⟩:=hf it (by simp)
  have hl:=rv.length
  exact wpAny_pyNext_tuple_end (I.ok.hd hc) st (show s.heap.IsTuple a Br.toArray from p) (by simp;omega) fun h' eb=>⟨rfl,I.turned (t':=s.toks) (fun b o hb e=>eb b o hb e) f0 f1 f3 f4 f5⟩
 self:=fun _ _ _ _ _ st h=>wpAny_pyIter_tupleiter st h
theorem jy {P:Program}{w:World}{K:PySem.W.Frag}{tg:Expr}(it:Addr)(lo:Int)(n:Nat):qX P w K tg (Itr lo n) [it] it (fun i h=>IsRangeIter h it (lo+(i:Nat)*1) ((n:Int) - (i:Nat)) 1) where
 mem:=by simp
 obj:=fun i h st b hb=>by
  have e:b=it:=by simpa using hb
  subst e
  exact ⟨_,st,fun v z=>by
   have z':Data.fields _=Data.cell v:=z
   cases z'⟩
 keep:=fun i h h' st k=>k it (by simp) _ st
 item:=by
  intro X hP hw hK hc i Bp s σ H E I hf st hg
  subst hP hw hK
  obtain ⟨f0,f1,f2,f3,f4,f5⟩:=hf it (by simp)
  have W:=Walks.range (prog:=X.prog) (w:=X.w) (I.ok.hd hc) it lo 1 n
  refine W.item i s _ _ hg st fun v h' tk hv Bq kk=>?_
  obtain ⟨t,rfl⟩:=hv
  have I1:Inv X Bp σ H { s with heap:=h',toks:=tk }:=I.turned (fun b o hb e=>kk b o (by simpa using hb) e) f0 f1 f3 f4 f5
  refine ⟨_,rfl,mH (s:={ s with heap:=h',toks:=tk }) (n:="range_iterator") Bq rfl rfl (by decide) ⟨.int (lo+i),H,I1,⟨t,?_⟩,⟨rfl,rfl⟩,Bq,fun b hb=>(hf b hb).1⟩⟩
  rw [Int.mul_one]
 done:=by
  intro X hP hw hK hc i Bp s σ H E I hf st hg
  subst hP hw hK
  obtain ⟨f0,f1,f2,f3,f4,f5⟩:=hf it (by simp)
  exact wpAny_pyNext_range_end (I.ok.hd hc) st (by have:n≤i:=hg;omega) fun h' eb=>⟨rfl,I.turned (t':=s.toks) (fun b o hb e=>eb b o hb e) f0 f1 f3 f4 f5⟩
 self:=fun _ _ _ _ _ st h=>wpAny_pyIter_rangeiter st h
section
variable {X:Cx} {tg:Expr}
def tV (K:PySem.W.Frag)(tl:TE):TI:=fun σ H R=>tl σ H fun x H1=>∃ a,x = .ref a∧(∃ xs,SqL K H1 a xs)∧R (Itl K a) H1
def vE (K:PySem.W.Frag)(tl:TE):TI:=fun σ H R=>tl σ H fun x H1=>∃ a,x = .ref a∧(∃ xs,SqT K H1 a xs)∧R (Itt K a) H1
theorem j7 {l:Expr}{tl:TE}(hl:PE X l tl):PI X tg l (tV X.K tl):=by
 intro Bp s σ H R I h
 refine thn (hl Bp s σ H _ I h) fun v s1 zq34=>?_
 obtain ⟨x,H1,I1,r1,q1⟩:=zq34
 obtain ⟨a,e,⟨xs,hq⟩,q⟩:=q1
 subst e
 cases r1
 obtain ⟨Br,rv,p,hz⟩:=I1.list hq
 refine zx p.isList ?_
 refine ⟨s1.heap.objs.size,[s1.heap.objs.size],_,_,H1,rfl,I1.kept (t':=s1.toks) fun b o e=>wg _ e,j6 a _,⟨_,wK _ rfl,rfl,rfl⟩,fun b hb=>?_,q⟩
 have e:b=s1.heap.objs.size:=by simpa using hb
 subst e
 exact I1.fpOk (wu _) (I1.hok.fresh (wu _))
theorem j8 {l:Expr}{tl:TE}(hl:PE X l tl):PI X tg l (vE X.K tl):=by
 intro Bp s σ H R I h
 refine thn (hl Bp s σ H _ I h) fun v s1 zq35=>?_
 obtain ⟨x,H1,I1,r1,q1⟩:=zq35
 obtain ⟨a,e,⟨xs,hq⟩,q⟩:=q1
 subst e
 cases r1
 obtain ⟨Br,rv,p,hz⟩:=I1.tuple hq
 refine wpAny_pyIter_tuple (show s1.heap.IsTuple a Br.toArray from p) ?_
 refine ⟨s1.heap.objs.size,[s1.heap.objs.size],_,_,H1,rfl,I1.kept (t':=s1.toks) fun b o e=>wg _ e,jx a _,⟨_,wK _ rfl,rfl,rfl⟩,fun b hb=>?_,q⟩
 have e:b=s1.heap.objs.size:=by simpa using hb
 subst e
 exact I1.fpOk (wu _) (I1.hok.fresh (wu _))
theorem iW {Bp:List (Addr × Obj)}{σ:St}{H:Hp}{s:Shared}{R:It→Hp→Prop}{E:Value→Shared→Prop}{lo hi:Int}{t u v:Tok}{tk:Nat}(I:Inv X Bp σ H s)(h1:-(2 ^ 62)≤lo)(h2:lo < 2 ^ 62)(h3:-(2 ^ 62)≤hi)(h4:hi < 2 ^ 62)
  (q:R (Itr lo (hi - lo).toNat) H):wpAny (model X.prog X.w) X.A (pyIter (.ref s.heap.objs.size)) (PIE X Bp σ tg R) E { s with heap:=s.heap.push { cls:=.type "range",data:=.fields #[.int lo t,.int hi u,.int 1 v] },toks:=tk }:=by
 refine wpAny_pyIter_range (IsRange.new ..) (small_one h1 h2 h3 h4) ?_
 have I1:Inv X Bp σ H { s with heap:=s.heap.push { cls:=.type "range",data:=.fields #[.int lo t,.int hi u,.int 1 v] },toks:=tk }:=I.kept fun b o e=>wg _ e
 refine ⟨(s.heap.push { cls:=.type "range",data:=.fields #[.int lo t,.int hi u,.int 1 v] }).objs.size,[(s.heap.push { cls:=.type "range",data:=.fields #[.int lo t,.int hi u,.int 1 v] }).objs.size],_,_,H,rfl,
  I1.kept (t':=tk) fun b o e=>wg _ e,jy _ lo (hi - lo).toNat,?_,fun b hb=>?_,q⟩
 ·have e1:lo+((0:Nat):Int)*1=lo:=by simp
  have e2:(((hi - lo).toNat:Nat):Int) - ((0:Nat):Int)=Builtin.Range.rangeSize lo hi 1:=by rw [rangeSize_one];split <;> omega
  show IsRangeIter _ _ (lo+((0:Nat):Int)*1) ((((hi - lo).toNat:Nat):Int) - ((0:Nat):Int)) 1
  rw [e1,e2]
  exact wK _ rfl
 ·have e:b=(s.heap.push { cls:=.type "range",data:=.fields #[.int lo t,.int hi u,.int 1 v] }).objs.size:=by simpa using hb
  subst e
  exact I1.fpOk (wu _) (I1.hok.fresh (wu _))
def tW (ta:TA):TI:=fun σ H R=>ta σ H fun vs H1=>∃ j:Int,vs=[.int j]∧-(2 ^ 62)≤j∧j < 2 ^ 62∧R (Itr 0 j.toNat) H1
def tX (ta:TA):TI:=fun σ H R=>ta σ H fun vs H1=>∃ i j:Int,vs=[.int i,.int j]∧(-(2 ^ 62)≤i∧i < 2 ^ 62∧-(2 ^ 62)≤j∧j < 2 ^ 62)∧R (Itr i (j - i).toNat) H1
theorem a8 {a:Expr}{ta:TA}{p pos:Pos}(hg:Gl X "range")(hm:X.mg "range" = none)(ha:PA X [a] ta)(hs:starEach [a] X.env=[(false,eval a X.env)]:=by rfl):PI X tg (.Call (.Name "range" p) [a] [] pos) (tW ta):=by
 intro Bp s σ H R I h
 refine Call_ (gr I hg hm boot_range (yp (thn (ha pos Bp s σ H _ I h) fun us s1 zq36=>?_) hs rfl))
 obtain ⟨vs,H1,I1,r1,q1⟩:=zq36
 obtain ⟨j,e,q1,q2,q⟩:=q1
 subst e
 cases r1 with
 | cons r rr =>
  cases rr
  obtain ⟨t,rfl⟩:=r
  exact call_range_1 (iW I1 (by omega) (by omega) q1 q2 (by simpa using q))
theorem gs {a b:Expr}{ta:TA}{p pos:Pos}(hg:Gl X "range")(hm:X.mg "range" = none)(ha:PA X [a,b] ta)(hs:starEach [a,b] X.env=[(false,eval a X.env),(false,eval b X.env)]:=by rfl)(hs2:starEach [b] X.env=[(false,eval b X.env)]:=by rfl) :
  PI X tg (.Call (.Name "range" p) [a,b] [] pos) (tX ta):=by
 intro Bp s σ H R I h
 refine Call_ (gr I hg hm boot_range (yp (thn (ha pos Bp s σ H _ I h) fun us s1 zq37=>?_) (by rw [hs,hs2]) (by rw [hs2];rfl)))
 obtain ⟨vs,H1,I1,r1,q1⟩:=zq37
 obtain ⟨i,j,e,⟨q1,q2,q3,q4⟩,q⟩:=q1
 subst e
 cases r1 with
 | cons r rr =>
  cases rr with
  | cons r' rr =>
   cases rr
   obtain ⟨t,rfl⟩:=r
   obtain ⟨t',rfl⟩:=r'
   exact call_range_2 (iW I1 q1 q2 q3 q4 q)
def vF (wi:TI)(g:TG)(tb:TS):TS:=fun D σ H=>wi σ H fun J H1=>∃ W:Nat→Nat→St→Hp→Prop,(∃ m,W 0 m σ H1)∧∀ i m σ H,W i m σ H →
 (J.stop i H∧D.nx σ H) ∨ (J.go i H∧∃ N:St→Hp→Prop,(∀ σ' H',N σ' H'→∃ m',m' < m∧W (i+1) m' σ' H')∧∀ x H',J.yld i H x H'→g x σ H' fun σ2 H2=>tb { D with nx:=N,ct:=N,bk:=D.nx } σ2 H2)
def gu (fp:List Addr)(h:Heap):List (Addr × Obj):=fp.filterMap fun b=>(h.get? b).map fun o=>(b,o)
theorem cF {fp:List Addr}{h:Heap}{b:Addr}{o:Obj}(hb:b∈fp)(e:h.get? b=some o):(b,o)∈gu fp h:=zZ.mpr ⟨b,hb,by rw [e]; rfl⟩
theorem j9 {fp:List Addr}{h:Heap}{p:Addr × Obj}(hp:p∈gu fp h):p.1∈fp∧h.get? p.1=some p.2:=by
 obtain ⟨b,hb,e⟩:=zZ.mp hp
 cases q:h.get? b with
 | none=>rw [q] at e;cases e
 | some o =>
  rw [q] at e
  have e':(b,o)=p:=wA e
  subst e'
  exact ⟨hb,q⟩
theorem Inv.pinned {Bp:List (Addr × Obj)}{σ:St}{H:Hp}{s:Shared}{fp:List Addr}(I:Inv X Bp σ H s)(hf:∀ b∈fp,j5 X Bp H b)(ho:∀ b∈fp,∃ o,s.heap.get? b=some o∧∀ v,o.data ≠ .cell v):Inv X (Bp++gu fp s.heap) σ H s :=
 I.pins_of fun p hp=>(wL.mp hp).elim (fun z=>I.pin p (wG _ z)) fun z=>by
  obtain ⟨hb,e⟩:=j9 z
  obtain ⟨f0,f1,f2,_⟩:=hf p.1 hb
  obtain ⟨o,e',d⟩:=ho p.1 hb
  rw [e] at e';cases e'
  exact ⟨e,f0,f1,f2,d⟩
theorem Inv.unpinned {Bp pl:List (Addr × Obj)}{σ:St}{H:Hp}{s:Shared}(I:Inv X (Bp++pl) σ H s):Inv X Bp σ H s:=I.pins_of fun p hp=>I.pin p (wG _ (w_ _ hp))
theorem bC {iter:Expr}{body:List Stmt}{wi:TI}{g:TG}{tb:TS}{pos:Pos}(hp:PassesOwn (model X.prog X.w) X.A X.env X.xe)(hc:X.calm=true)(hi:PI X tg iter wi)(hg:PG X tg g)(hb:PSs X body tb)
  (hs:∀ x,foldedSetIterable iter X.env x=pure x:=by intro _;rfl):PS X (.For tg iter body [] pos) (vF wi g tb):=by
 intro Bp s σ H D I h
 refine wpAny_For (thn (hi Bp s σ H _ I h) fun v s1 h1=>thn h1 fun itv s2 h2=>?_) hs
 obtain ⟨it,fp,tn,J,H2,e,I2,T,BV,f2,W,⟨m0,w0⟩,turn⟩:=h2
 subst e
 -- what stays true of the iterator's objects through the loop
 have stat:∀ {H':Hp},(∀ b∈fp,H' b=none)→∀ b∈fp,j5 X Bp H' b:=fun hn b hb=>⟨hn b hb,(f2 b hb).2⟩
 refine codeAny_forLoop_any (fun n s'=>∃ i σ' H',Inv X Bp σ' H' s'∧tn i s'.heap∧(∀ b∈fp,H' b=none)∧W i n σ' H') ?_ m0 ⟨0,σ,H2,I2,BV,fun b hb=>(f2 b hb).1,w0⟩
 rintro n s3 ⟨i,σ3,H3,I3,st3,fr3,w3⟩
 rcases turn i n σ3 H3 w3 with ⟨stop,qn⟩ | ⟨go,N,hN,step⟩
 ·refine yD hp (thn (T.done X rfl rfl rfl hc i Bp s3 σ3 H3 X.xe I3 (stat fr3) st3 stop) fun r s4 zq38=>?_)
  obtain ⟨hr,I4⟩:=zq38
  subst hr
  exact zO ⟨σ3,H3,I4,qn⟩
 ·refine yD hp (thn (T.item X rfl rfl rfl hc i Bp s3 σ3 H3 X.xe I3 (stat fr3) st3 go) fun r s4 zq39=>?_)
  obtain ⟨u,hr,h4⟩:=zq39
  subst hr
  refine yD hp (thn h4 fun _ s5 zq40=>?_)
  obtain ⟨x,H5,I5,r5,y5,st5,fr5⟩:=zq40
  have I5':=I5.pinned (stat fr5) (T.obj _ _ st5)
  refine yD hp (thn (hg _ s5 σ3 H5 x u _ I5' r5 (step x H5 y5)) fun _ s6 zq41=>?_)
  obtain ⟨σ6,H6,I6,q6⟩:=zq41
  refine yD hp (thn (hb _ s6 σ6 H6 _ I6 q6) fun f s7 q7=>?_)
  have again:∀ {σ7:St} {H7:Hp},Inv X (Bp++gu fp s5.heap) σ7 H7 s7→N σ7 H7→∃ m,m < n∧∃ i σ' H',Inv X Bp σ' H' s7∧tn i s7.heap∧(∀ b∈fp,H' b=none)∧W i m σ' H':=fun {σ7 H7} I7 n7=>by
   obtain ⟨m',hm,w7⟩:=hN σ7 H7 n7
   refine ⟨m',hm,i+1,σ7,H7,I7.unpinned,T.keep _ _ _ st5 fun b hb o e=>(I7.pin (b,o) (wG _ (wG _ (cF hb e)))).1,fun b hb=>?_,w7⟩
   obtain ⟨o,e,d⟩:=T.obj _ _ st5 b hb
   exact (I7.pin (b,o) (wG _ (wG _ (cF hb e)))).2.1
  cases f with
  | next=>obtain ⟨σ7,H7,I7,n7⟩:=q7;exact again I7 n7
  | cont=>obtain ⟨σ7,H7,I7,n7⟩:=q7;exact again I7 n7
  | brk=>obtain ⟨σ7,H7,I7,q7⟩:=q7;exact ⟨σ7,H7,I7.unpinned,q7⟩
  | ret v=>obtain ⟨x7,σ7,H7,I7,r7,q7⟩:=q7;exact ⟨x7,σ7,H7,I7.unpinned,r7,q7⟩
end
theorem hV {K:PySem.W.Frag}{a:Addr}{xs:List V}{g:TG}{tb:TS}{D:gq}{σ:St}{H:Hp}(Pv:Nat→St→Hp→Prop)(h0:Pv 0 σ H)(hl:∀ i σ H,i≤xs.length→Pv i σ H→SqT K H a xs)
  (hs:∀ i x σ H,xs[i]? = some x→Pv i σ H→g x σ H fun σ2 H2=>tb { D with nx:=Pv (i+1),ct:=Pv (i+1),bk:=D.nx } σ2 H2) (hd:∀ σ H,Pv xs.length σ H→D.nx σ H) :
  ∃ W:Nat→Nat→St→Hp→Prop,(∃ m,W 0 m σ H)∧∀ i m σ H,W i m σ H →
   ((Itt K a).stop i H∧D.nx σ H) ∨ ((Itt K a).go i H∧∃ N:St→Hp→Prop,(∀ σ' H',N σ' H'→∃ m',m' < m∧W (i+1) m' σ' H')∧∀ x H',(Itt K a).yld i H x H'→g x σ H' fun σ2 H2=>tb { D with nx:=N,ct:=N,bk:=D.nx } σ2 H2):=by
 refine ⟨fun i m σ H=>m=xs.length - i∧i≤xs.length∧Pv i σ H,⟨xs.length,by simp,xv _,h0⟩,?_⟩
 rintro i m σ H ⟨rfl,hi,p⟩
 have q:=hl i σ H hi p
 by_cases BA:i < xs.length
 ·refine .inr ⟨⟨xs,xs[i],q,by simp [BA]⟩,Pv (i+1),fun σ' H' p'=>⟨xs.length - (i+1),by omega,rfl,BA,p'⟩,fun x H' y=>?_⟩
  obtain ⟨e,y⟩:=y
  subst e
  exact hs i x σ _ (y xs q) p
 ·have e:i=xs.length:=by omega
  subst e
  exact .inl ⟨⟨xs,q,wu _⟩,hd σ H p⟩
theorem a_ {lo:Int}{n:Nat}{g:TG}{tb:TS}{D:gq}{σ:St}{H:Hp}(Pv:Nat→St→Hp→Prop)(h0:Pv 0 σ H)
  (hs:∀ i σ H,i < n→Pv i σ H→g (.int (lo+i)) σ H fun σ2 H2=>tb { D with nx:=Pv (i+1),ct:=Pv (i+1),bk:=D.nx } σ2 H2) (hd:∀ σ H,Pv n σ H→D.nx σ H) :
  ∃ W:Nat→Nat→St→Hp→Prop,(∃ m,W 0 m σ H)∧∀ i m σ H,W i m σ H →
   ((Itr lo n).stop i H∧D.nx σ H) ∨ ((Itr lo n).go i H∧∃ N:St→Hp→Prop,(∀ σ' H',N σ' H'→∃ m',m' < m∧W (i+1) m' σ' H')∧∀ x H',(Itr lo n).yld i H x H'→g x σ H' fun σ2 H2=>tb { D with nx:=N,ct:=N,bk:=D.nx } σ2 H2):=by
 refine ⟨fun i m σ H=>m=n - i∧i≤n∧Pv i σ H,⟨n,by simp,xv _,h0⟩,?_⟩
 rintro i m σ H ⟨rfl,hi,p⟩
 by_cases BA:i < n
 ·refine .inr ⟨BA,Pv (i+1),fun σ' H' p'=>⟨n - (i+1),by omega,rfl,BA,p'⟩,fun x H' y=>?_⟩
  obtain ⟨e,y⟩:=y
  subst e y
  exact hs i σ _ BA p
 ·have e:i=n:=by omega
  subst e
  exact .inl ⟨wu _,hd σ H p⟩
abbrev R2:=V→V→Hp→VK→Prop
def OpR (X:Cx)(f:Value→Value→Sem Value)(r:R2):Prop :=
 ∀ (Bp:List (Addr × Obj)) (s:Shared) (σ:St) (H:Hp) (x y:V) (v u:Value) (Q:VK),Inv X Bp σ H s→bB x v→bB y u→r x y H Q →
  wpAny (model X.prog X.w) X.A (f v u) (EP X Bp σ Q) X.xe s
def UnR (X:Cx)(f:Value→Sem Value)(r:V→Hp→VK→Prop):Prop :=
 ∀ (Bp:List (Addr × Obj)) (s:Shared) (σ:St) (H:Hp) (x:V) (v:Value) (Q:VK),Inv X Bp σ H s→bB x v→r x H Q →
  wpAny (model X.prog X.w) X.A (f v) (EP X Bp σ Q) X.xe s
def cZ (X:Cx)(f:Value)(r:List V→Hp→VK→Prop):Prop :=
 ∀ (Bp:List (Addr × Obj)) (s:Shared) (σ:St) (H:Hp) (xs:List V) (us:List Value) (Q:VK),Inv X Bp σ H s→bg xs us→r xs H Q →
  wpAny (model X.prog X.w) X.A (call f us) (EP X Bp σ Q) X.xe s
def vG (X:Cx)(r:V→Hp→(Bool→Hp→Prop)→Prop):Prop :=
 ∀ (Bp:List (Addr × Obj)) (s:Shared) (σ:St) (H:Hp) (x:V) (v:Value) (Q:Bool→Hp→Prop),Inv X Bp σ H s→bB x v→r x H Q →
  wpAny (model X.prog X.w) X.A (truthy v) (TP X Bp σ Q) X.xe s
def qY (r:R2)(Q:VK)(x:V):V→Hp→Prop:=fun y H2=>r x y H2 Q
def qZ (r:R2)(tb:TE)(σ:St)(Q:VK):V→Hp→Prop:=fun x H1=>tb σ H1 (qY r Q x)
def tOp (r:R2)(ta tb:TE):TE:=fun σ H Q=>ta σ H (qZ r tb σ Q)
def q_ (r:V→Hp→VK→Prop)(Q:VK):V→Hp→Prop:=fun x H1=>r x H1 Q
def tUn (r:V→Hp→VK→Prop)(ta:TE):TE:=fun σ H Q=>ta σ H (q_ r Q)
inductive rI (C:Int→Int→Prop)(g:Int→Int→V)(x:V)(y:V)(H:Hp)(Q:VK):Prop
 | mk:∀ i j,(x = .int i)→(y = .int j)→(C i j)→(Q (g i j) H)→rI C g x y H Q
inductive rI0 (g:Int→Int→V)(x:V)(y:V)(H:Hp)(Q:VK):Prop
 | mk:∀ i j,(x = .int i)→(y = .int j)→(Q (g i j) H)→rI0 g x y H Q
inductive rU (g:Int→V)(x:V)(H:Hp)(Q:VK):Prop
 | mk:∀ i,(x = .int i)→(Q (g i) H)→rU g x H Q
section
variable {X:Cx} {a b c:Expr} {ta tb tc:TE} {pos:Pos}
theorem tY (ha:PE X a ta)(hb:PE X b tb){Bp:List (Addr × Obj)}{s:Shared}{σ:St}{H:Hp}{R:V→V→Hp→Prop}(I:Inv X Bp σ H s)
  (h:ta σ H fun x H1=>tb σ H1 fun y H2=>R x y H2) {Q:Value→Shared→Prop} {f:Value→Value→Sem Value}
  (hf:∀ v u s2 x y H2,Inv X Bp σ H2 s2→bB x v→bB y u→R x y H2→wpAny (model X.prog X.w) X.A (f v u) Q X.xe s2) :
  wpAny (model X.prog X.w) X.A (eval a X.env) (fun v s₁=>wpAny (model X.prog X.w) X.A (eval b X.env) (fun u s₂=>wpAny (model X.prog X.w) X.A (f v u) Q X.xe s₂) X.xe s₁) X.xe s:=by
 refine thn (ha Bp s σ H _ I h) fun v s1 zq42=>?_
 obtain ⟨x,H1,I1,r1,q1⟩:=zq42
 refine thn (hb Bp s1 σ H1 _ I1 q1) fun u s2 zq43=>?_
 obtain ⟨y,H2,I2,r2,q2⟩:=zq43
 exact hf v u s2 x y H2 I2 r1 r2 q2
theorem aH {op:Operator}{r:R2}(ho:OpR X (binaryOp op) r)(ha:PE X a ta)(hb:PE X b tb):PE X (.BinOp a op b pos) (tOp r ta tb):=by
 intro Bp s σ H Q I h
 exact wpAny_BinOp (tY ha hb I h fun v u s2 x y H2 I2 rx ry q=>ho Bp s2 σ H2 x y v u Q I2 rx ry q)
theorem dQ {op:UnaryOp}{r:V→Hp→VK→Prop}(ho:UnR X (unaryOp op) r)(ha:PE X a ta):PE X (.UnaryOp op a pos) (tUn r ta):=by
 intro Bp s σ H Q I h
 exact UnaryOp_ (thn (ha Bp s σ H _ I h) fun v s1 zq44=>(by obtain ⟨x,H1,I1,r1,q1⟩:=zq44;exact ho Bp s1 σ H1 x v Q I1 r1 q1))
theorem opI {f:Value→Value→Sem Value}{C:Int→Int→Prop}{g:Int→Int→Int}
  (rule:∀ (i j:Int) (t u:Tok) (s:Shared) (Q:Value→Shared→Prop) (E:Value→Shared→Prop),C i j→Q (.int (g i j) s.toks) { s with toks:=s.toks+1 }→wpAny (model X.prog X.w) X.A (f (.int i t) (.int j u)) Q E s) :
  OpR X f (rI C fun i j=>.int (g i j)):=by
 intro Bp s σ H x y v u Q I rx ry h
 obtain ⟨i,j,rfl,rfl,hc,q⟩:=h
 obtain ⟨t,rfl⟩:=rx
 obtain ⟨t',rfl⟩:=ry
 exact rule i j t t' s _ _ hc ⟨.int (g i j),H,I.tok _,⟨_,rfl⟩,q⟩
theorem va {f:Value→Value→Sem Value}{g:Int→Int→Int}
  (rule:∀ (i j:Int) (t u:Tok) (s:Shared) (Q:Value→Shared→Prop) (E:Value→Shared→Prop),Q (.int (g i j) s.toks) { s with toks:=s.toks+1 }→wpAny (model X.prog X.w) X.A (f (.int i t) (.int j u)) Q E s) :
  OpR X f (rI0 fun i j=>.int (g i j)):=by
 intro Bp s σ H x y v u Q I rx ry h
 obtain ⟨i,j,rfl,rfl,q⟩:=h
 obtain ⟨t,rfl⟩:=rx
 obtain ⟨t',rfl⟩:=ry
 exact rule i j t t' s _ _ ⟨.int (g i j),H,I.tok _,⟨_,rfl⟩,q⟩
theorem tZ {f:Value→Value→Sem Value}{g:Int→Int→Bool}
  (rule:∀ (i j:Int) (t u:Tok) (s:Shared) (Q:Value→Shared→Prop) (E:Value→Shared→Prop),Q (.bool (g i j)) s→wpAny (model X.prog X.w) X.A (f (.int i t) (.int j u)) Q E s) :
  OpR X f (rI0 fun i j=>.bl (g i j)):=by
 intro Bp s σ H x y v u Q I rx ry h
 obtain ⟨i,j,rfl,rfl,q⟩:=h
 obtain ⟨t,rfl⟩:=rx
 obtain ⟨t',rfl⟩:=ry
 exact rule i j t t' s _ _ ⟨.bl (g i j),H,I,rfl,q⟩
def vH (i j:Int):Prop:=0 < j∧j < 1073741824
def vI (i j:Int):Prop:=0≤j∧j≤1000000∧i.natAbs < 2 ^ 64
def rb (i j:Int):Prop:=(-(2 ^ 64) < i∧i < 2 ^ 64) ∨ (-(2 ^ 64) < j∧j < 2 ^ 64)
theorem rb.ok {i j:Int}(h:rb i j):IntMulOk i j:=by
 rcases h with ⟨h1,h2⟩ | ⟨h1,h2⟩
 ·exact .of_left (intBits_le_64 h1 h2)
 ·exact .of_right (intBits_le_64 h1 h2)
theorem br:OpR X (binaryOp .Add) (rI0 fun i j=>.int (i+j)):=va fun _ _ _ _ _ _ _ q=>add_int q
theorem eX:OpR X (binaryOp .Sub) (rI0 fun i j=>.int (i - j)):=va fun _ _ _ _ _ _ _ q=>sub_int q
theorem cP:OpR X (binaryOp .Mult) (rI rb fun i j=>.int (i*j)):=opI fun _ _ _ _ _ _ _ hc q=>mul_int q hc.ok
theorem d9:OpR X (binaryOp .FloorDiv) (rI vH fun i j=>.int (i / j)):=opI fun i j _ _ _ _ _ hc q=>by
 have h1:(0:Int) < j:=hc.1
 have h2:j < 1073741824:=hc.2
 exact floordiv_int (by omega) (by rw [Int.fdiv_eq_ediv_of_nonneg i (by omega)];exact q) (.inl (PyProof.noPylong_small (by omega)))
theorem b_:OpR X (binaryOp .Mod) (rI (fun _ j=>0 < j) fun i j=>.int (i % j)):=opI fun i j _ _ _ _ _ hc q=>by
 have h1:(0:Int) < j:=hc
 exact mod_int' (by omega) (by rw [Int.fmod_eq_emod_of_nonneg i (by omega)];exact q)
theorem rf:OpR X (binaryOp .Pow) (rI vI fun i j=>.int (i ^ j.toNat)):=opI fun _ _ _ _ _ _ _ hc q=>pow_int_small hc.1 hc.2.1 hc.2.2 q
theorem unI {f:Value→Sem Value}{g:Int→Int}
  (rule:∀ (i:Int) (t:Tok) (s:Shared) (Q:Value→Shared→Prop) (E:Value→Shared→Prop),Q (.int (g i) s.toks) { s with toks:=s.toks+1 }→wpAny (model X.prog X.w) X.A (f (.int i t)) Q E s) :
  UnR X f (rU fun i=>.int (g i)):=by
 intro Bp s σ H x v Q I rx h
 obtain ⟨i,rfl,q⟩:=h
 obtain ⟨t,rfl⟩:=rx
 exact rule i t s _ _ ⟨.int (g i),H,I.tok _,⟨_,rfl⟩,q⟩
theorem cf:UnR X (unaryOp .USub) (rU fun i=>.int (-i)):=unI fun _ _ _ _ _ q=>neg_int q
end
def vb:V→V→Bool
 | .non,.non=>true | .non,.int _=>true | .int _,.non=>true | .non,.bl _=>true | .bl _,.non=>true | .non,.str _=>true | .str _,.non=>true
 | .int _,.int _=>true | .bl _,.bl _=>true | .str _,.str _=>true | .byt _,.byt _=>true
 | .int _,.str _=>true | .str _,.int _=>true | .bl _,.str _=>true | .str _,.bl _=>true
 | _,_=>false
def rEq:R2:=fun x y H Q=>vb x y=true∧Q (.bl (decide (x=y))) H
def rNe:R2:=fun x y H Q=>vb x y=true∧Q (.bl (!decide (x=y))) H
theorem j_ {i j:Int}:decide (V.int i=V.int j)=(i == j):=by
 rw [xh]
 simp
theorem n8 {i j:Bool}:decide (V.bl i=V.bl j)=(i == j):=by
 rw [xh]
 simp
theorem kc {i j:Str}:decide (V.str i=V.str j)=(i == j):=by
 rw [xh]
 simp
theorem ke {i j:Array UInt8}:decide (V.byt i=V.byt j)=(i.toList == j.toList):=by
 rw [xh]
 cases i
 cases j
 simp
section
variable {X:Cx} {a b c:Expr} {ta tb tc:TE} {pos:Pos}
theorem aU {Bp:List (Addr × Obj)}{σ:St}{H:Hp}{s:Shared}{Q:VK}{k k':Bool}(I:Inv X Bp σ H s)(q:Q (.bl k) H)(e:k=k'):EP X Bp σ Q (.bool k') s:=by
 subst e
 exact ⟨.bl k,H,I,rfl,q⟩
theorem bF:OpR X (compareOp .Eq) rEq:=by
 intro Bp s σ H x y v u Q I rx ry h
 obtain ⟨hs,q⟩:=h
 cases x with
 | non =>
  cases rx
  cases y with
  | non=>cases ry;exact PySem.EqNone.eq_none_none (aU I q (by simp))
  | bl j=>cases ry;exact PySem.EqNone.eq_none_bool (aU I q (by simp))
  | int j=>obtain ⟨t',rfl⟩:=ry;exact PySem.EqNone.eq_none_int (aU I q (by simp))
  | str j=>obtain ⟨t',rfl⟩:=ry;exact PySem.EqNone.eq_none_str (aU I q (by simp))
  | _=>exact absurd (show false=true from hs) wM
 | bl i =>
  cases rx
  cases y with
  | non=>cases ry;exact PySem.EqNone.eq_bool_none (aU I q (by simp))
  | bl j=>cases ry;exact eq_bool (aU I q n8)
  | str j=>obtain ⟨t',rfl⟩:=ry;exact PySem.EqMixed.eq_bool_str (aU I q (by simp))
  | _=>exact absurd (show false=true from hs) wM
 | int i =>
  obtain ⟨t,rfl⟩:=rx
  cases y with
  | non=>cases ry;exact PySem.EqNone.eq_int_none (aU I q (by simp))
  | int j=>obtain ⟨t',rfl⟩:=ry;exact eq_int (aU I q j_)
  | str j=>obtain ⟨t',rfl⟩:=ry;exact PySem.EqMixed.eq_int_str (aU I q (by simp))
  | _=>exact absurd (show false=true from hs) wM
 | str i =>
  obtain ⟨t,rfl⟩:=rx
  cases y with
  | non=>cases ry;exact PySem.EqNone.eq_str_none (aU I q (by simp))
  | bl j=>cases ry;exact PySem.EqMixed.eq_str_bool (aU I q (by simp))
  | int j=>obtain ⟨t',rfl⟩:=ry;exact PySem.EqMixed.eq_str_int (aU I q (by simp))
  | str j=>obtain ⟨t',rfl⟩:=ry;exact eq_str (aU I q kc)
  | _=>exact absurd (show false=true from hs) wM
 | byt i =>
  obtain ⟨t,rfl⟩:=rx
  cases y with
  | byt j=>obtain ⟨t',rfl⟩:=ry;exact PySem.W.eq_bytes (aU I q ke)
  | _=>exact absurd (show false=true from hs) wM
 | _=>cases y <;> exact absurd (show false=true from hs) wM
theorem kf:OpR X (compareOp .NotEq) rNe:=by
 intro Bp s σ H x y v u Q I rx ry h
 obtain ⟨hs,q⟩:=h
 cases x with
 | non =>
  cases rx
  cases y with
  | non=>cases ry;exact PySem.EqNone.ne_none_none (aU I q (by simp))
  | bl j=>cases ry;exact PySem.EqNone.ne_none_bool (aU I q (by simp))
  | int j=>obtain ⟨t',rfl⟩:=ry;exact PySem.EqNone.ne_none_int (aU I q (by simp))
  | str j=>obtain ⟨t',rfl⟩:=ry;exact PySem.EqNone.ne_none_str (aU I q (by simp))
  | _=>exact absurd (show false=true from hs) wM
 | bl i =>
  cases rx
  cases y with
  | non=>cases ry;exact PySem.EqNone.ne_bool_none (aU I q (by simp))
  | bl j=>cases ry;exact ne_bool (aU I q (wR not n8))
  | str j=>obtain ⟨t',rfl⟩:=ry;exact PySem.EqMixed.ne_bool_str (aU I q (by simp))
  | _=>exact absurd (show false=true from hs) wM
 | int i =>
  obtain ⟨t,rfl⟩:=rx
  cases y with
  | non=>cases ry;exact PySem.EqNone.ne_int_none (aU I q (by simp))
  | int j=>obtain ⟨t',rfl⟩:=ry;exact ne_int (aU I q (wR not j_))
  | str j=>obtain ⟨t',rfl⟩:=ry;exact PySem.EqMixed.ne_int_str (aU I q (by simp))
  | _=>exact absurd (show false=true from hs) wM
 | str i =>
  obtain ⟨t,rfl⟩:=rx
  cases y with
  | non=>cases ry;exact PySem.EqNone.ne_str_none (aU I q (by simp))
  | bl j=>cases ry;exact PySem.EqMixed.ne_str_bool (aU I q (by simp))
  | int j=>obtain ⟨t',rfl⟩:=ry;exact PySem.EqMixed.ne_str_int (aU I q (by simp))
  | str j=>obtain ⟨t',rfl⟩:=ry;exact ne_str (aU I q (wR not kc))
  | _=>exact absurd (show false=true from hs) wM
 | byt i =>
  obtain ⟨t,rfl⟩:=rx
  cases y with
  | byt j=>obtain ⟨t',rfl⟩:=ry;exact PySem.W.ne_bytes (aU I q (wR not ke))
  | _=>exact absurd (show false=true from hs) wM
 | _=>cases y <;> exact absurd (show false=true from hs) wM
theorem eV:OpR X (compareOp .Lt) (rI0 fun i j=>.bl (decide (i < j))):=tZ fun _ _ _ _ _ _ _ q=>lt_int q
theorem hX:OpR X (compareOp .Gt) (rI0 fun i j=>.bl (decide (j < i))):=tZ fun _ _ _ _ _ _ _ q=>gt_int q
theorem t_:OpR X (compareOp .GtE) (rI0 fun i j=>.bl (decide (j≤i))):=tZ fun _ _ _ _ _ _ _ q=>ge_int q
inductive d_  (x:V)(y:V)(H:Hp)(Q:VK):Prop
 | mk:∀ i j,(x = .str i)→(y = .str j)→(Q (.bl (!(Builtin.Str.occurrences j i 0 j.length 1).isEmpty)) H)→d_ x y H Q
theorem kg:OpR X (compareOp .In) d_:=by
 intro Bp s σ H x y v u Q I rx ry h
 obtain ⟨i,j,rfl,rfl,q⟩:=h
 obtain ⟨t,rfl⟩:=rx
 obtain ⟨t',rfl⟩:=ry
 exact in_str (aU I q rfl)
theorem aI (b:Expr){op:CmpOp}(h:op ≠ .In:=by decide)(h2:op ≠ .NotIn:=by decide):behindInMarks op b=false:=by
 have e1:(op == CmpOp.In)=false:=by cases op <;> first | rfl | exact absurd rfl h
 have e2:(op == CmpOp.NotIn)=false:=by cases op <;> first | rfl | exact absurd rfl h2
 cases b <;> simp [behindInMarks,e1,e2]
theorem bO {op:CmpOp}{r:R2}(ho:OpR X (compareOp op) r)(ha:PE X a ta)(hb:PE X b tb)(hm:behindInMarks op b=false):PE X (.Compare a [op] [b] pos) (tOp r ta tb):=by
 intro Bp s σ H Q I h
 exact wpAny_Compare1 (tY ha hb I h fun v u s2 x y H2 I2 rx ry q=>ho Bp s2 σ H2 x y v u Q I2 rx ry q) hm
def mI (Q:(Bool→Hp→Prop)):V→Hp→Prop:=fun x H'=>IsB x H' Q
def rg (t:TE):TT:=fun σ H Q=>t σ H (mI Q)
theorem aF {op:CmpOp}{r:R2}(ho:OpR X (compareOp op) r)(ha:PE X a ta)(hb:PE X b tb)(hm:behindInMarks op b=false):PT X (.Compare a [op] [b] pos) (rg (tOp r ta tb)):=by
 intro Bp s σ H Q I h
 refine wpAny_isTrue_Compare1 (thn (ha Bp s σ H _ I h) fun v s1 ⟨x,H1,I1,r1,q1⟩=>thn (hb Bp s1 σ H1 _ I1 q1) fun u s2 ⟨y,H2,I2,r2,q2⟩ =>
  thn (ho Bp s2 σ H2 x y v u _ I2 r1 r2 q2) fun c s3 ⟨z,H3,I3,r3,k,e,q3⟩=>?_) hm
 subst e
 cases r3
 exact yo ⟨H3,I3,q3⟩
def rh (r r':R2)(ta tb tc:TE):TE:=fun σ H Q=>ta σ H fun x H1=>tb σ H1 fun y H2=>r x y H2 fun z H3=>∃ k,z = .bl k ∧
 (if k=true then tc σ H3 fun w' H4=>r' y w' H4 Q else Q (.bl false) H3)
theorem iX {op op':CmpOp}{r r':R2}(ho:OpR X (compareOp op) r)(ho':OpR X (compareOp op') r')(ha:PE X a ta)(hb:PE X b tb)(hc:PE X c tc)
  (hm:lastMarks [op,op'] [b,c]=false:=by with_unfolding_all rfl):PE X (.Compare a [op,op'] [b,c] pos) (rh r r' ta tb tc):=by
 intro Bp s σ H Q I h
 refine Compare_chain (thn (ha Bp s σ H _ I h) fun v s1 ⟨x,H1,I1,r1,q1⟩=>chain_link (thn (hb Bp s1 σ H1 _ I1 q1) fun u s2 ⟨y,H2,I2,r2,q2⟩ =>
  thn (ho Bp s2 σ H2 x y v u _ I2 r1 r2 q2) fun d s3 ⟨z,H3,I3,r3,k,e,q3⟩=>?_)) hm
 subst e
 cases r3
 refine yo ?_
 cases k with
 | false=>exact ite_ff ⟨.bl false,H3,I3,rfl,q3⟩
 | true=>exact ite_tt (chain_last (thn (hc Bp s3 σ H3 _ I3 q3) fun w' s4 zq45=>(by obtain ⟨z',H4,I4,r4,q4⟩:=zq45;exact ho' Bp s4 σ H4 y z' u w' Q I4 r2 r4 q4)))
def vJ (K:PySem.W.Frag)(x:V)(H:Hp)(k:Bool):Prop :=
 match x with
 | .non=>k=false
 | .bl b=>k=b
 | .int i=>k=(i != 0)
 | .str y=>y.length≤sizeLine∧k=((y.length:Int) != 0)
 | .byt y=>y.size≤sizeLine∧k=((y.size:Int) != 0)
 | .ref p=>(∃ xs,SqL K H p xs∧k=!xs.isEmpty) ∨ (∃ xs,SqT K H p xs∧k=!xs.isEmpty) ∨ ∃ BB,H p=some (.dK BB)∧k=!BB.isEmpty
 | _=>False
theorem jz {κ:Type}{BB:List (κ × V)}{vs:List (κ × Value)}(r:KV BB vs):(!vs.isEmpty)=!BB.isEmpty:=by
 cases r <;> rfl
theorem eY {xs:List V}{Br:List Value}(r:bg xs Br):(!Br.toArray.isEmpty)=!xs.isEmpty:=by
 cases r <;> simp
theorem c8:(sizeLine:Nat) < 2 ^ 63:=by rw [Ad]; decide
inductive oS (K:PySem.W.Frag)(x:V)(H:Hp)(Q:Bool→Hp→Prop):Prop
 | mk:∀ k,(vJ K x H k)→(Q k H)→oS K x H Q
theorem kh:vG X (oS X.K):=by
 intro Bp s σ H x v Q I rx h
 obtain ⟨k,e,q⟩:=h
 have hl:=c8
 have hs:sizeLine=16777216:=Ad
 cases x with
 | non =>
  cases rx
  have e':k=false:=e
  subst e'
  exact truthy_none ⟨H,I,q⟩
 | bl b =>
  cases rx
  have e':k=b:=e
  subst e'
  exact yo ⟨H,I,q⟩
 | int i =>
  obtain ⟨t,rfl⟩:=rx
  have e':k=(i != 0):=e
  subst e'
  exact PySem.P.truthy_int ⟨H,I,q⟩
 | str y =>
  obtain ⟨t,rfl⟩:=rx
  obtain ⟨hy,e'⟩:y.length≤sizeLine∧k=((y.length:Int) != 0):=e
  subst e'
  exact PySem.P.truthy_str (by omega) ⟨H,I.tok _,q⟩
 | byt y =>
  obtain ⟨t,rfl⟩:=rx
  obtain ⟨hy,e'⟩:y.size≤sizeLine∧k=((y.size:Int) != 0):=e
  subst e'
  exact PySem.W.truthy_bytes (by omega) ⟨H,I.tok _,q⟩
 | ref p =>
  cases rx
  have e':(∃ xs,SqL X.K H p xs∧k=!xs.isEmpty) ∨ (∃ xs,SqT X.K H p xs∧k=!xs.isEmpty) ∨ ∃ BB,H p=some (.dK BB)∧k=!BB.isEmpty:=e
  rcases e' with ⟨xs,hx,e'⟩ | ⟨xs,hx,e'⟩ | ⟨BB,hx,e'⟩
  ·subst e'
   obtain ⟨Br,r,pl,hz⟩:=I.list hx
   have hlen:=r.length
   exact wpAny_truthy_list pl.isList (by simp only [wB];omega) ⟨H,I.tok _,by rw [eY r];exact q⟩
  ·subst e'
   obtain ⟨Br,r,pl,hz⟩:=I.tuple hx
   have hlen:=r.length
   exact truthy_tuple pl (by simp only [wB];omega) ⟨H,I.tok _,by rw [eY r];exact q⟩
  ·subst e'
   obtain ⟨hz,hS,vs,r,m⟩:BB.length≤sizeLine∧(p == sysModules)=false∧∃ vs,KV BB vs∧s.heap.DictOf (hJ X.prog X.w) p vs:=I.hok p _ hx
   have hlen:BB.length=vs.length:=Paired.length r
   exact wpAny_truthy_dict hS m (by omega) ⟨H,I.tok _,by rw [jz r];exact q⟩
 | _=>exact (show False from e).elim
def oT (K:PySem.W.Frag)(Q:(Bool→Hp→Prop)):V→Hp→Prop:=fun x H'=>oS K x H' Q
def vK (K:PySem.W.Frag)(ta:TE):TT:=fun σ H Q=>ta σ H (oT K Q)
theorem cH (ha:PE X a ta)(he:∀ whole,isTrue a X.env whole=(do let v ← whole; standAt a.pos; holding [v] (truthy v))) :
  PT X a (vK X.K ta):=by
 intro Bp s σ H Q I h
 exact isTrue_plain (thn (ha Bp s σ H _ I h) fun v s1 zq47=>(by obtain ⟨x,H1,I1,r1,q1⟩:=zq47;exact kh Bp s1 σ H1 x v Q I1 r1 q1)) (he _)
inductive dM  (x:V)(y:V)(H:Hp)(Q:VK):Prop
 | mk:∀ i j,(x = .str i)→(y = .str j)→(i.length+j.length≤sizeLine)→(Q (.str (i++j)) H)→dM x y H Q
theorem aT:OpR X (binaryOp .Add) dM:=by
 intro Bp s σ H x y v u Q I rx ry h
 obtain ⟨i,j,rfl,rfl,hz,q⟩:=h
 obtain ⟨t,rfl⟩:=rx
 obtain ⟨t',rfl⟩:=ry
 exact add_str (fun t' tk=>⟨.str (i++j),H,I.tok _,⟨_,rfl⟩,q⟩) hz
theorem cN {x:V}{us:List Value}(r:bg [x] us):∃ u,us=[u]∧bB x u:=by
 cases r with
 | cons r1 r2=>cases r2;exact ⟨_,rfl,r1⟩
theorem oU {x y:V}{us:List Value}(r:bg [x,y] us):∃ u w',us=[u,w']∧bB x u∧bB y w':=by
 cases r with
 | cons r1 r2 =>
  cases r2 with
  | cons r3 r4=>cases r4;exact ⟨_,_,rfl,r1,r3⟩
theorem gx:cZ X (.type "int") (fun xs H Q=>(∃ i,xs=[.int i]∧Q (.int i) H) ∨ ∃ k,xs=[.bl k]∧Q (.int (if k then 1 else 0)) H):=by
 intro Bp s σ H xs us Q I r h
 rcases h with ⟨i,rfl,q⟩ | ⟨k,rfl,q⟩
 ·obtain ⟨u,rfl,t,rfl⟩:=cN r
  exact call_int_int ⟨.int i,H,I,⟨_,rfl⟩,q⟩
 ·obtain ⟨u,rfl,r1⟩:=cN r
  cases r1
  exact call_int_bool ⟨.int (if k then 1 else 0),H,I.tok _,⟨_,rfl⟩,q⟩
end
section
variable {prog:Program} {w:World} {A:Around} {E:Value→Shared→Prop} {s:Shared} {K:PySem.W.Frag} {x dx C f:Addr} {mA:Str→Option Value} {name:Str} {v:Value}
end
section
variable {P:Program} {w:World} {H H':Hp} {h h':Heap} {a C dx:Addr} {fs fs':List (Str × V)}
end
section
variable {X:Cx} {Bp:List (Addr × Obj)} {σ:St} {H:Hp} {s:Shared} {a C dx:Addr} {fs:List (Str × V)} {f:Str} {v:V} {A:Around} {E:Value→Shared→Prop}
end
section
variable {X:Cx} {o e value:Expr} {f:Str} {pos pos' tpos:Pos} {ta tv:TE}
end
section
variable {X:Cx} {Bp:List (Addr × Obj)} {σ:St} {H:Hp} {s:Shared} {A:Around} {E:Value→Shared→Prop} {Q:Value→Shared→Prop} {c:Value} {b:Bool}
end
structure eZ (k:Nat) (A:Around):Prop where
 hd:A.handled=none
 dp:A.depth+3*k+5 < recursionLimit
 un:A.units+16*k+200 < cLine
 gd:A.guards=some []
theorem eZ.mono {j k:Nat}{A:Around}(r:eZ k A)(h:j≤k):eZ j A:=⟨r.hd,by have:=r.dp; omega,by have:=r.un; omega,r.gd⟩
theorem eZ.deeper {k:Nat}{A:Around}(r:eZ (k+1) A)(env:Env):eZ k (A.deeper env) :=
 ⟨r.hd,by have:=r.dp;show A.depth+1+3*k+5 < _;omega,by have:=r.un;show A.units+3+16*k+200 < _;omega,r.gd⟩
theorem eZ.depth {k:Nat}{A:Around}(r:eZ k A):A.depth < recursionLimit:=by have:=r.dp; omega
theorem eZ.units {k:Nat}{A:Around}(r:eZ k A):A.units+64 < cLine:=by have:=r.un; omega
def vL:TA:=fun _ H Q=>Q [] H
def mJ (Q:(List V→Hp→Prop))(x:V):List V→Hp→Prop:=fun xs H2=>Q (x::xs) H2
def mK (tr:TA)(σ:St)(Q:(List V→Hp→Prop)):V→Hp→Prop:=fun x H1=>tr σ H1 (mJ Q x)
def rj (ta:TE)(tr:TA):TA:=fun σ H Q=>ta σ H (mK tr σ Q)
section
variable {X:Cx} {e:Expr} {es:List Expr} {te:TE} {t:TA} {pos:Pos}
theorem af:PA X [] vL:=fun _ _ _ _ H Q I h=>Calls.spliced_nil ⟨[],H,I,.nil,h⟩
theorem aa (ha:PE X e te)(hr:PA X es t)(hs:starEach (e::es) X.env=(false,eval e X.env)::starEach es X.env:=by rfl):PA X (e::es) (rj te t):=by
 intro pos Bp s σ H Q I h
 rw [hs]
 show wpAny _ _ (spliced ((false,eval e X.env)::backTo pos (starEach es X.env))) _ _ s
 refine Calls.spliced_cons (thn (ha Bp s σ H _ I h) fun u s1 zq54=>?_)
 obtain ⟨x,H1,I1,r1,q1⟩:=zq54
 exact thn (hr pos Bp s1 σ H1 _ I1 q1) fun us s2 zq55=>(by obtain ⟨xs,H2,I2,r2,q2⟩:=zq55;exact ⟨x::xs,H2,I2,.cons r1 r2,q2⟩)
def oV (Q:VK):List V→Hp→Prop:=fun xs H1=>xs.length≤sizeLine∧∀ p,H1 p=none→Q (.ref p) (upd H1 p (.tup xs))
def vM (t:TA):TE:=fun σ H Q=>t σ H (oV Q)
def oW (Q:VK):List V→Hp→Prop:=fun xs H1=>xs.length≤sizeLine∧∀ p,H1 p=none→Q (.ref p) (upd H1 p (.lst xs))
def vN (t:TA):TE:=fun σ H Q=>t σ H (oW Q)
theorem bj {x1}(h:PA X es t):PE X (.Tuple es x1 pos) (vM t):=by
 intro Bp s σ H Q I hq
 refine wpAny_Tuple_spliced (thn (h pos Bp s σ H _ I hq) fun us s1 ⟨xs,H1,I1,r,z,q⟩=>⟨by rw [← r.length];exact z,?_⟩)
 have hf:H1 s1.heap.objs.size=none:=I1.hok.fresh (wu _)
 refine ⟨.ref s1.heap.objs.size,upd H1 s1.heap.objs.size (.tup xs),I1.laid (t':=s1.toks) (fun b u e=>wg _ e) (wu _) ?_,rfl,q _ hf⟩
 exact ⟨z,us,r,⟨_,wK _ rfl,rfl,_,rfl⟩,.new _ _ rfl⟩
theorem aZ (h:PA X es t):PE X (.List es pos) (vN t):=by
 intro Bp s σ H Q I hq
 refine wpAny_List_spliced (thn (h pos Bp s σ H _ I hq) fun us s1 ⟨xs,H1,I1,r,z,q⟩=>⟨by rw [← r.length];exact z,?_⟩)
 have hf:H1 s1.heap.objs.size=none:=I1.hok.fresh (wu _)
 refine ⟨.ref s1.heap.objs.size,upd H1 s1.heap.objs.size (.lst xs),I1.laid (t':=s1.toks) (fun b u e=>wg _ e) (wu _) ?_,rfl,q _ hf⟩
 exact ⟨z,us,0,r,wK _ rfl⟩
end
abbrev Sp:=List V→Hp→VK→XK→Prop
abbrev CXT:=List Env→Hp→Shared→XK→Value→Shared→Prop
structure tG (P:Program) (w:World) (K:PySem.W.Frag) (mg:Str→Option Value) (base:Heap) (A:Around) (outer:List Env) (s:Shared) (H:Hp):Prop where
 frames:A.frames=some outer
 mod:Mod K mg base
 bs:∀ b o,base.get? b=some o→s.heap.get? b=some o∧H b=none
 bsz:base.objs.size≤s.heap.objs.size
 funs:s.heap.FunFrames base outer
 frf:∀ b∈frs outer,H b=none
 hok:HOk P w H s.heap
 bare:AllBare s.gens
def CE (outer:List Env)(P:Program)(w:World)(H:Hp)(s:Shared)(Q:VK)(u:Value)(s':Shared):Prop :=
 ∃ v H',s'.os=s.os∧AllBare s'.gens∧Un (frs outer) [] H H' s.heap s'.heap∧HOk P w H' s'.heap∧bB v u∧Q v H'
def CR (CX:CXT)(outer:List Env)(P:Program)(w:World)(H:Hp)(s:Shared)(Q:VK)(E:XK)(r:Result)(s':Shared):Prop :=
 match r with
 | .ok (.ret u)=>CE outer P w H s Q u s'
 | .ok _=>False
 | .error e=>CX outer H s E e s'
structure mz (P:Program) (w:World) (K:PySem.W.Frag) (mg:Str→Option Value) (base:Heap) (CX:CXT) (k:Nat) (f:Addr) (fd:FuncData) (ps:List Str) (sp:Sp):Prop where
 len:∀ vs H Q E,sp vs H Q E→vs.length=ps.length
 run:∀ (A:Around) (outer:List Env) (s:Shared) (H:Hp) (args:Args) (us:List Value) (vs:List V) (Q:VK) (E:XK),eZ k A→tG P w K mg base A outer s H→BindsTo s fd args (ps.zip us)→bg vs us→sp vs H Q E →
  codeAny (model P w) A (.call (.ref f) args) (CR CX outer P w H s Q E) s
section
variable {X:Cx} {Bp:List (Addr × Obj)} {σ:St} {H:Hp} {s s':Shared}
theorem Inv.env0 (I:Inv X Bp σ H s):tG X.prog X.w X.K X.mg X.base X.A X.stack s H :=
 ⟨I.ok.frames,I.ok.mod,I.bs,xq I.ok.bsz I.sz,I.stack,I.stkFree,I.hok,I.bare⟩
theorem Inv.after {Q:VK}{u:Value}(I:Inv X Bp σ H s)(h:CE X.stack X.prog X.w H s Q u s'):EP X Bp σ Q u s':=by
 obtain ⟨v,H',os,bare,un,hok,r,q⟩:=h
 obtain ⟨hh,g,d,t,os'⟩:=s'
 obtain rfl:os'=s.os:=os
 exact ⟨v,H',I.call (h':=hh) (g':=g) (d':=d) (t':=t) (ch:=[]) un hok bare (fun b z=>absurd z (by simp)),r,q⟩
end
def mL (sp:Sp)(dvs:List V)(E:XK)(Q:VK):List V→Hp→Prop:=fun vs H1=>sp (vs++dvs) H1 Q E
def rk (sp:Sp)(dvs:List V)(E:XK)(t:TA):TE:=fun σ H Q=>t σ H (mL sp dvs E Q)
def jA (K:PySem.W.Frag)(fd:FuncData)(ps:List Str)(ds:List Value):Prop :=
 ∀ (s:Shared) (us:List Value),K.In s.heap→(us++ds).length=ps.length→BindsTo s fd ⟨us,[]⟩ (ps.zip (us++ds))
theorem jA.all {K:PySem.W.Frag}{fd:FuncData}{ps:List Str}(h:∀ us:List Value,us.length=ps.length→bindArgs fd ⟨us,[]⟩=pure (ps.zip us)):jA K fd ps []:=fun s us _ hl=>by
 rw [xw] at hl ⊢
 exact .of_eq (h us hl)
def ki (CX:CXT)(X:Cx)(E:XK):Prop:=∀ (Bp:List (Addr × Obj)) (σ:St) (H:Hp) (s:Shared) (e:Value) (s':Shared),Inv X Bp σ H s→CX X.stack H s E e s'→X.xe e s'
section
variable {X:Cx} {CX:CXT} {k:Nat} {f C:Addr} {fd:FuncData} {ps:List Str} {sp:Sp} {dvs:List V} {ds:List Value} {E:XK} {x m:Str} {p pos apos:Pos} {e o:Expr} {es:List Expr} {ta:TE} {t:TA}
theorem rl {Bp:List (Addr × Obj)}{σ:St}{H:Hp}{s:Shared}{Q:VK}{us:List Value}{vs:List V}(F:mz X.prog X.w X.K X.mg X.base CX k f fd ps sp)(hr:eZ k X.A)(hb:jA X.K fd ps ds)(hd:bg dvs ds)(hx:ki CX X E)
  (I:Inv X Bp σ H s) (r:bg vs us) (h:sp (vs++dvs) H Q E):wpAny (model X.prog X.w) X.A (call (.ref f) us) (EP X Bp σ Q) X.xe s:=by
 have r2:bg (vs++dvs) (us++ds):=r.append hd
 have hl:(us++ds).length=ps.length:=by rw [← r2.length];exact F.len _ _ _ _ h
 refine wpAny_call (zf (F.run X.A X.stack s H ⟨us,[]⟩ (us++ds) (vs++dvs) Q E hr I.env0 (hb s us I.kIn hl) r2 h) fun r s' hq=>?_)
 cases r with
 | error e=>exact hx Bp σ H s e s' I hq
 | ok fl =>
  cases fl with
  | ret u=>exact I.after hq
  | next=>exact False.elim hq
  | brk=>exact False.elim hq
  | cont=>exact False.elim hq
theorem oX (F:mz X.prog X.w X.K X.mg X.base CX k f fd ps sp)(hr:eZ k X.A)(hg:Gl X x)(hm:X.mg x=some (.ref f))(hk:PySem.W.keepIn X.K (.ref f)=true)(hb:jA X.K fd ps ds)(hd:bg dvs ds)(hx:ki CX X E)
  (ha:PA X (e::es) t) (hdb:(x == ("__debug__":Str))=false:=by decide) (he:starEach (e::es) X.env=(false,eval e X.env)::starEach es X.env:=by rfl) (hpl:(backTo pos (starEach es X.env)).any (·.1)=false:=by rfl) :
  PE X (.Call (.Name x p) (e::es) [] pos) (rk sp dvs E t):=by
 intro Bp s σ H Q I h
 refine z3 (jX I hg hm ?_ hdb)
 refine PySem.W.callWith_K (h₀:=X.base) I.ok.mod.kin hk (thn (ha pos Bp s σ H _ I h) fun us s1 ⟨vs,H1,I1,r,q⟩=>⟨I1.kIn,?_⟩) he hpl
 exact rl F hr hb hd hx I1 r q
end
section
variable {X:Cx} {CX:CXT} {k:Nat} {f C:Addr} {fd:FuncData} {ps ks:List Str} {sp:Sp} {E:XK} {x m:Str} {p pos apos kpos:Pos} {e o:Expr} {es:List Expr} {kws:List Keyword} {te ta:TE} {t tk:TA} {nm:Option Str}
variable {g:List Value→List Value→List Value} {gV:List V→List V→List V}
end
structure aG (N P:List Str) (sc:Scope):Prop where
 kind:sc.kind = .function
 co:sc.isCoroutine=false
 gen:sc.isGenerator=false
 nd:N.Nodup
 pre:N.take P.length=P
 par:∀ x∈P,sc.names.lookup x=some .local ∨ sc.names.lookup x=some .cell
 nofree:∀ y∈sc.names,y.2 ≠ .free
theorem gy {kindOf:Str→Option NameKind}{x:Str}:∀ {binds:List (Str × Value)} {m:Str→Option Value},(∀ v,(x,v)∉binds)→bindL kindOf binds m x=m x
 | [],_,_=>rfl
 | (n,v)::r,m,h=>by
  unfold bindL
  rw [gy fun w hw=>h w (wO _ hw)]
  split
  ·have:x≠n:=by rintro rfl;exact h v wX
   simp [this]
  ·rfl
theorem gz {kindOf:Str→Option NameKind}{x:Str}:∀ {binds:List (Str × Value)} {m:Str→Option Value},(∀ v,(x,v)∉binds)→bindC kindOf binds m x=m x
 | [],_,_=>rfl
 | (n,v)::r,m,h=>by
  unfold bindC
  rw [gz fun w hw=>h w (wO _ hw)]
  split
  ·rfl
  ·have:x≠n:=by rintro rfl;exact h v wX
   simp [this]
theorem gC {kindOf:Str→Option NameKind}{x:Str}{v:Value}:∀ {P:List Str} {vs:List Value} {i:Nat} {m:Str→Option Value},P.Nodup→P[i]? = some x→vs[i]? = some v→kindOf x=some .local →
  bindL kindOf (P.zip vs) m x=some v
 | [],_,_,_,_,h,_,_=>by simp at h
 | _::_,[],_,_,_,_,h,_=>by simp at h
 | p::P,w::vs,0,m,nd,h1,h2,hk=>by
  simp at h1 h2;subst h1;subst h2
  show bindL kindOf ((p,w)::P.zip vs) m p=_
  unfold bindL
  rw [gy fun v hv=>(xW.mp nd).1 (AA hv).1,if_pos hk]
  simp
 | p::P,w::vs,i+1,m,nd,h1,h2,hk=>by
  show bindL kindOf ((p,w)::P.zip vs) m x=_
  unfold bindL
  exact gC (i:=i) (xW.mp nd).2 (by simpa using h1) (by simpa using h2) hk
theorem gD {kindOf:Str→Option NameKind}{x:Str}{v:Value}:∀ {P:List Str} {vs:List Value} {i:Nat} {m:Str→Option Value},P.Nodup→P[i]? = some x→vs[i]? = some v→kindOf x≠some .local →
  bindC kindOf (P.zip vs) m x=some v
 | [],_,_,_,_,h,_,_=>by simp at h
 | _::_,[],_,_,_,_,h,_=>by simp at h
 | p::P,w::vs,0,m,nd,h1,h2,hk=>by
  simp at h1 h2;subst h1;subst h2
  show bindC kindOf ((p,w)::P.zip vs) m p=_
  unfold bindC
  rw [gz fun v hv=>(xW.mp nd).1 (AA hv).1,if_neg hk]
  simp
 | p::P,w::vs,i+1,m,nd,h1,h2,hk=>by
  show bindC kindOf ((p,w)::P.zip vs) m x=_
  unfold bindC
  exact gD (i:=i) (xW.mp nd).2 (by simpa using h1) (by simpa using h2) hk
def start (N:List Str)(vs:List V):St:=vs.map some++List.replicate (N.length - vs.length) none
def oY (CX:CXT)(P:Program)(w:World)(K:PySem.W.Frag)(mg:Str→Option Value)(base:Heap)(N:List Str)(qual:Str)(scope:Scope)(f:Addr)(cd:Value)(A:Around)(outer:List Env)(s:Shared)(H:Hp)(E:XK):Cx where
 prog:=P
 w:=w
 K:=K
 mg:=mg
 base:=base
 A:=A.deeper (envOfC qual scope s.heap.objs.size f cd)
 N:=N
 s₀:=s
 H₀:=H
 env:=envOfC qual scope s.heap.objs.size f cd
 outer:=outer
 stack:=envOfC qual scope s.heap.objs.size f cd::outer
 ex:=[]
 calm:=true
 fn:=fun _=>true
 pn:=[]
 xe:=fun e s'=>wpAny (model P w) (A.deeper (envOfC qual scope s.heap.objs.size f cd)) (leaving (envOfC qual scope s.heap.objs.size f cd) e) (fun _ s''=>CX outer H s E e s'') (fun e' s''=>CX outer H s E e' s'') s'
theorem iY {sc:Scope}{n:Nat}{x:Str}(h:sc.names.lookup x=some .cell):∃ c,(cellsFrom n sc.names []).lookup x=some c:=by
 have q:=Ax sc.names n [] (.inl h)
 exact Option.isSome_iff_exists.mp q
theorem kj {CX:CXT}{P:Program}{w:World}{K:PySem.W.Frag}{mg:Str→Option Value}{base:Heap}{N ps:List Str}{qual:Str}{scope:Scope}{f:Addr}{cd:Value}{A:Around}{outer:List Env}{s s1:Shared}{H:Hp}{E:XK}{us:List Value}{vs:List V}
  (S:aG N ps scope) (hd:A.handled=none) (e0:tG P w K mg base A outer s H) (hl:vs.length=ps.length) (r:bg vs us)
  (x:InCallC s s.heap.objs.size (bindL (envOfC qual scope s.heap.objs.size f cd).kindOf (ps.zip us) fun _=>none) (cellsFrom (s.heap.objs.size+1) scope.names []) (bindC (envOfC qual scope s.heap.objs.size f cd).kindOf (ps.zip us) fun _=>none) s1) :
  Inv (oY CX P w K mg base N qual scope f cd A outer s H E) [] (start N vs) H s1:=by
 have hpl:ps.length≤N.length:=by have:=wR List.length S.pre;rw [wD] at this;omega
 obtain ⟨h1,tk,rfl,hk⟩:=x.done
 have noA:∀ b:Addr,b∉(oY CX P w K mg base N qual scope f cd A outer s H E).ex:=fun b z=>absurd (show b∈([]:List Addr) from z) (by simp)
 refine ⟨⟨e0.mod,S.kind,rfl,rfl,wu _,fun y z c h1 h2=>?_,fun y hy=>?_,fun y c _ h=>?_,fun _=>hd,Around.frames_deeper e0.frames,.inr ⟨rfl,rfl⟩,fun b z=>absurd z (noA b),e0.bs,e0.bsz,fun b _ _=>noA b,fun b z=>absurd z (noA b),e0.funs,e0.frf⟩,
  rfl,e0.bare,Un.kept hk,⟨_,x.toInCall.ns,fun i y v h1 h2 h3=>?_⟩,fun y c h=>⟨_,x.cell y c h⟩,e0.hok.fresh (wu _),fun y c h=>?_,fun p hp=>absurd (show p∈([]:List (Addr × Obj)) from hp) (by simp),e0.hok.kept hk,?_⟩
 ·exact name_of_addr x.apart (x6 h1) (x6 h2)
 ·have hy:scope.names.lookup y=some .cell ∨ scope.names.lookup y=some .free:=hy
  rcases hy with hy | hy
  ·exact iY hy
  ·exact absurd rfl (S.nofree _ (x6 hy))
 ·exact Ay (x.above y c (x6 h))
 ·have hi:i < vs.length:=by
   unfold start at h2
   by_cases hi:i < vs.length
   ·exact hi
   ·rw [wU (by simpa using hi)] at h2
    rw [List.getElem?_replicate] at h2
    split at h2 <;> cases h2
  have ha:vs[i]? = some v:=by
   unfold start at h2
   rw [xy (by simpa using hi),xj] at h2
   cases e:vs[i]? with
   | none=>rw [e] at h2;cases h2
   | some a=>rw [e] at h2;cases h2;rfl
  obtain ⟨u,hu,rv⟩:=r.get ha
  have hp:ps[i]? = some y:=by
   rw [← S.pre,xG (by omega)];exact h1
  have ndP:ps.Nodup:=by rw [← S.pre];exact S.nd.sublist (List.take_sublist _ _)
  refine ⟨u,rv,?_⟩
  rcases S.par y (xt hp) with k | k
  ·exact .inl ⟨k,gC ndP hp hu k⟩
  ·obtain ⟨c,e⟩:=iY (n:=s.heap.objs.size+1) k
   refine .inr ⟨.inl k,c,e,?_⟩
   have q:=x.cell y c e
   rw [gD ndP hp hu (by show scope.names.lookup y≠_;rw [k];decide)] at q
   exact q
 ·exact e0.hok.fresh (Ay (x.above y c (x6 h)))
 ·unfold start
  show _=N.length
  rw [wj,wq,List.length_replicate]
  omega
theorem ua {CX:CXT}{P:Program}{w:World}{K:PySem.W.Frag}{mg:Str→Option Value}{base:Heap}{k:Nat}{f:Addr}{name qual:Str}{params:Arguments}{body:List Stmt}{scope:Scope}{dV kV doc pm Bx ct oc:Value}{an od:Option Addr}
  {osl:Array (Option Value)} {N ps:List Str} {sp:Sp} (lk:K.lookup f=some ⟨oc,od,.func (PySem.W.fnOf name qual params body scope dV kV doc pm an Bx ct),osl⟩) (hcd:PySem.W.codeIn K Bx qual=true) (S:aG N ps scope)
  (len:∀ vs H Q E,sp vs H Q E→vs.length=ps.length)
  (hbody:∀ (A:Around) (outer:List Env) (s:Shared) (H:Hp) (vs:List V) (Q:VK) (E:XK),eZ k (A.deeper (envOfC qual scope s.heap.objs.size f Bx))→sp vs H Q E →
   ∃ t,PSs (oY CX P w K mg base N qual scope f Bx A outer s H E) body t∧t { nx:=fun _ H'=>Q .non H',rt:=Q } (start N vs) H) :
  mz P w K mg base CX (k+1) f (PySem.W.fnOf name qual params body scope dV kV doc pm an Bx ct) ps sp:=by
 refine ⟨len,fun A outer s H args us vs Q E hr e0 hb r hsp=>?_⟩
 have hl:=len _ _ _ _ hsp
 have KX:K.In s.heap:=e0.mod.kin.keeps fun b o e=>(e0.bs b o e).1
 have lim:s.heap.NoLimit:=e0.mod.nolimit.keeps fun b o e=>(e0.bs b o e).1
 have hkind:∀ y∈ps.zip us,scope.names.lookup y.1=some .local ∨ (scope.names.lookup y.1=some .cell∧((cellsFrom (s.heap.objs.size+1) scope.names []).lookup y.1).isSome=true):=fun ⟨n,v⟩ hy=>by
  rcases S.par n (AA hy).1 with q | q
  ·exact .inl q
  ·exact .inr ⟨q,Ax _ _ _ (.inl q)⟩
 refine codeAny_call_function hr.depth (KX _ _ lk) rfl S.co S.gen rfl (PySem.W.codeRec_of KX hcd) (hb _ _ _ _ ?_)
 refine wpAny_newFunctionEnv_cells S.kind hkind fun env he s1 x=>?_
 subst he
 refine ⟨lim.keeps x.toInCall.keep,codeAny_func ?_⟩
 obtain ⟨t,ht,hq⟩:=hbody A outer s H vs Q E (hr.deeper _) hsp
 have I:Inv (oY CX P w K mg base N qual scope f Bx A outer s H E) [] (start N vs) H s1:=kj S hr.hd e0 hl r x
 refine yQ (ht [] s1 (start N vs) H _ I hq) (fun fl s' hs=>?_) fun e s' hs=>hs
 have fin:∀ {σ':St} {H':Hp} {v:V} {u:Value},Inv (oY CX P w K mg base N qual scope f Bx A outer s H E) [] σ' H' s'→bB v u→Q v H'→CE outer P w H s Q u s' :=
  fun {σ' H' v u} J rv q=>⟨v,H',J.os,J.bare,J.base,J.hok,rv,q⟩
 cases fl with
 | ret u =>
  obtain ⟨v,σ',H',J,rv,q⟩:=hs
  exact fin J rv q
 | next =>
  obtain ⟨σ',H',J,q⟩:=hs
  exact fin (v:=V.non) (u:=Value.none) J rfl q
 | brk =>
  obtain ⟨_,_,_,q⟩:=hs
  exact False.elim q
 | cont =>
  obtain ⟨_,_,_,q⟩:=hs
  exact False.elim q
section
variable {X:Cx} {x:Str} {p pos:Pos} {e:Expr} {es:List Expr} {t:TA} {id T:String} {r:List V→Hp→VK→Prop}
def rm (r:List V→Hp→VK→Prop)(Q:VK):List V→Hp→Prop:=fun vs H1=>r vs H1 Q
def tCB (r:List V→Hp→VK→Prop)(t:TA):TE:=fun σ H Q=>t σ H (rm r Q)
theorem az (hc:cZ X (.builtin id) r)(hg:Gl X x)(hm:X.mg x=none)(hv:bootBuiltins x=some (.builtin id))(ha:PA X (e::es) t)(hn:x ≠ "__name__":=by decide)(hdb:(x == ("__debug__":Str))=false:=by decide)
  (he:starEach (e::es) X.env=(false,eval e X.env)::starEach es X.env:=by rfl) (hpl:(backTo pos (starEach es X.env)).any (·.1)=false:=by rfl):PE X (.Call (.Name x p) (e::es) [] pos) (tCB r t):=by
 intro Bp s σ H Q I h
 refine z3 (gr I hg hm hv ?_ hn hdb)
 exact PyProof.Rows.callWith_builtin1 (thn (ha pos Bp s σ H _ I h) fun us s1 zq60=>(by obtain ⟨vs,H1,I1,r1,q1⟩:=zq60;exact hc Bp s1 σ H1 vs us Q I1 r1 q1)) he hpl
theorem bt (hc:cZ X (.type T) r)(hg:Gl X x)(hm:X.mg x=none)(hv:bootBuiltins x=some (.type T))(ha:PA X (e::es) t)(hn:x ≠ "__name__":=by decide)(hdb:(x == ("__debug__":Str))=false:=by decide)
  (he:starEach (e::es) X.env=(false,eval e X.env)::starEach es X.env:=by rfl) (hpl:(backTo pos (starEach es X.env)).any (·.1)=false:=by rfl):PE X (.Call (.Name x p) (e::es) [] pos) (tCB r t):=by
 intro Bp s σ H Q I h
 refine z3 (gr I hg hm hv ?_ hn hdb)
 exact yp (thn (ha pos Bp s σ H _ I h) fun us s1 zq61=>(by obtain ⟨vs,H1,I1,r1,q1⟩:=zq61;exact hc Bp s1 σ H1 vs us Q I1 r1 q1)) he hpl
end
end L2
namespace HT
open PySem PyProof.Rows
def bD:List Int→List Int→Bool
 | [],[]=>false
 | [],_::_=>true
 | _::_,[]=>false
 | x::xs,y::ys=>if x=y then bD xs ys else decide (x < y)
theorem bE (x y:Int)(xs ys:List Int):bD (x::xs) (y::ys)=if x=y then bD xs ys else decide (x < y):=rfl
theorem bW:bD [] []=false:=rfl
theorem cQ (y:Int)(ys:List Int):bD [] (y::ys)=true:=rfl
theorem cR (x:Int)(xs:List Int):bD (x::xs) []=false:=rfl
theorem i3 (A:Around)(s:Shared)(a:Int)(t:Tok)(c:Int)(u:Tok):∃ e,SeqAt.EqAt A s (.int a t) (.int c u) e∧(e=true ↔ a=c) :=
 ⟨(a == c),SeqAt.EqAt.int_int a t c u,by simp⟩
theorem mM (A:Around)(s:Shared)(a:Int)(t:Tok)(c:Int)(u:Tok)(prog:Program)(w:World)(E:Value→Shared→Prop)(Q:Value→Shared→Prop)(h:Q (.bool (decide (a < c))) s) :
  wpAny (model prog w) A (richCompare .Lt (.int a t) (.int c u)) Q E s :=
 (PyProof.Rows.lt_int h:wpAny (model prog w) A (compareOp .Lt (.int a t) (.int c u)) Q E s)
section
open PySem.SeqAt
open PySem.AutoSeq1 (wpAny_loadPart')
open PySem.MeetsSeq PySem.MeetsSeq2 PySem.MeetsSeq3
theorem fm (l b:Addr)(items Bw:Array Value)(n n2:Nat)(dd dd2:Option Addr)(sl sl2:Array (Option Value))(ns ms:List Int)(hi:IntsAre items.toList ns)(hj:IntsAre Bw.toList ms) :
  Meets (Builtin.«tuple.__lt__» ⟨[.ref l,.ref b],[]⟩)
   (fun _ R s=>s.heap.get? l=some { cls:=.type "tuple",dict:=dd,data:=.seq items n,slots:=sl }∧s.heap.get? b=some { cls:=.type "tuple",dict:=dd2,data:=.seq Bw n2,slots:=sl2 } ∧
    R (.ok (.ret (.bool (bD ns ms)))) s) :=
 .of_wp fun prog w A R s h=>by
  obtain ⟨hp,g,d,tk,os⟩:=s;obtain ⟨hl,hb,h⟩:=h
  have f2:=z9
  have z1:items.size=ns.length:=by rw [← hi.length];simp
  have z2:Bw.size=ms.length:=by rw [← hj.length];simp
  wp_walk using wpAny_loadPart' hl,wpAny_loadPart' hb,wpAny_forIn_list _ (fun rest b s'=>b.1=none∧s'=⟨hp,g,d,tk,os⟩∧∃ (vs ws:List Value) (ns' ms':List Int),rest=vs.zip ws ∧
   IntsAre vs ns'∧IntsAre ws ms'∧ns'.length+Bw.size=ms'.length+items.size∧R (.ok (.ret (.bool (bD ns' ms')))) ⟨hp,g,d,tk,os⟩) _
  case turn =>
   rintro ⟨y,x⟩ rest b s' ⟨hb',rfl,vs,ws,ns',ms',hz,hvi,hwi,hlen,hR⟩
   cases hvi with
   | nil=>rw [List.zip_nil_left] at hz;cases hz
   | cons a t hvi' =>
    cases hwi with
    | nil=>rw [List.zip_nil_right] at hz;cases hz
    | cons c u hwi' =>
     rw [yf] at hz
     injection hz with hyx hrest
     injection hyx with hy hx
     subst hy hx
     rw [bE] at hR
     simp only [xu] at hlen
     obtain ⟨e,he,hiff⟩:=i3 A.in1 ⟨hp,g,d,tk,os⟩ a t c u
     refine we (he prog w _ _ ?_)
     cases e with
     | true =>
      rw [if_pos (hiff.mp rfl)] at hR
      wp_walk
      exact ⟨rfl,rfl,_,_,_,_,hrest,hvi',hwi',by omega,hR⟩
     | false =>
      rw [if_neg (fun q=>absurd (hiff.mpr q) wM)] at hR
      have hri:=mM A.in1 ⟨hp,g,d,tk,os⟩ a t c u prog w
      wp_walk using hri
      exact ⟨_,rfl,by simpa using hR⟩
  case fin =>
   rintro ⟨b1,b2⟩ s' ⟨hb',rfl,vs,ws,ns',ms',hz,hvi,hwi,hlen,hR⟩
   simp only at hb'
   subst hb'
   have hv:bD ns' ms'=decide (items.size < Bw.size):=by
    cases hvi with
    | nil =>
     cases hwi with
     | nil =>
      simp only [x8] at hlen
      rw [bW]
      exact (wm (by omega)).symm
     | cons c u hw =>
      simp only [x8,xu] at hlen
      rw [cQ]
      exact (wF (by omega)).symm
    | cons a t hv =>
     cases hwi with
     | nil =>
      simp only [x8,xu] at hlen
      rw [cR]
      exact (wm (by omega)).symm
     | cons c u hw =>
      rw [yf] at hz
      cases hz
   rw [hv] at hR
   wp_walk
   exact ⟨_,rfl,by simpa [Builtin.Tuple.tupleCompareSizes] using hR⟩
  case h =>
   exact ⟨rfl,rfl,items.toList,Bw.toList,ns,ms,rfl,hi,hj,by omega,h⟩
end
section
variable {prog:Program} {w:World} {A:Around} {E:Value→Shared→Prop} {s:Shared}
theorem e8 {l b:Addr}{items Bw:Array Value}{ns ms:List Int}{Q:Value→Shared→Prop}(hl:IsTup s.heap l items)(hb:IsTup s.heap b Bw)(hi:IntsAre items.toList ns)(hj:IntsAre Bw.toList ms)
  (hu:A.units < cLine) (h:Q (.bool (bD ns ms)) s):wpAny (model prog w) A (compareOp .Lt (.ref l) (.ref b)) Q E s:=by
 obtain ⟨⟨cls,dd,data,sl⟩,ho,hc,n,hd⟩:=id hl
 obtain ⟨⟨cls2,dd2,data2,sl2⟩,ho2,hc2,n2,hd2⟩:=id hb
 simp only at hc hd hc2 hd2
 subst hc hd hc2 hd2
 exact richCompare_meets_room (op:=.Lt) ⟨_,ho,rfl⟩ ⟨_,ho2,rfl⟩ PySem.F.slot_tuple_lt PySem.F.entry_tuple_lt (PySem.F.args_tuple_lt_2 _ _) (fm l b items Bw n n2 dd dd2 sl sl2 ns ms hi hj)
  ⟨ho,ho2,show Value.bool (bD ns ms)≠Value.notImplemented∧Q (.bool (bD ns ms)) s from ⟨(fun x=>nomatch x),h⟩⟩ hu
def sIx (n d:Nat):Option Int→Nat
 | none=>d
 | some v=>if v < 0 then (v+(n:Int)).toNat else min v.toNat n
theorem fq (n d:Nat):sIx n d none=d:=rfl
theorem eA (n d k:Nat):sIx n d (some (k:Int))=min k n:=by
 show (if (k:Int) < 0 then ((k:Int)+(n:Int)).toNat else min (k:Int).toNat n)=min k n
 rw [if_neg (by omega),xE]
theorem n_ (n d:Nat)(hd:d≤n)(o:Option Int):sIx n d o≤n:=by
 cases o with
 | none=>exact hd
 | some v =>
  show (if v < 0 then (v+(n:Int)).toNat else min v.toNat n)≤n
  by_cases hv:v < 0
  ·rw [if_pos hv];omega
  ·rw [if_neg hv];exact Nat.min_le_right _ _
end
end HT
namespace L2
open PySem PySem.Spec PyProof.Rows
abbrev TO:=St→Hp→(Option Int→Hp→Prop)→Prop
def PO (X:Cx)(e:Option Expr)(t:TO):Prop :=
 ∀ (Bp:List (Addr × Obj)) (s:Shared) (σ:St) (H:Hp) (Q:Option Int→Hp→Prop),Inv X Bp σ H s→t σ H Q →
  wpAny (model X.prog X.w) X.A (evalPart e X.env) (fun u s'=>∃ o H',Inv X Bp σ H' s'∧IsPart u o∧Q o H') X.xe s
def oZ:TO:=fun _ H Q=>Q none H
inductive IsI (x:V)(H:Hp)(Q:Option Int→Hp→Prop):Prop
 | mk:∀ i,(x = .int i)→(Q (some i) H)→IsI x H Q
def mN (Q:(Option Int→Hp→Prop)):V→Hp→Prop:=fun x H1=>IsI x H1 Q
def ub (t:TE):TO:=fun σ H Q=>t σ H (mN Q)
theorem cI {ns:List Int}:∀ {us:List Value},bg (ns.map V.int) us→IntsAre us ns:=by
 induction ns with
 | nil=>intro us r;rw [AO] at r;cases r;exact .nil
 | cons n ns ih =>
  intro us r
  rw [xX] at r
  cases r with
  | cons r1 r2 =>
   obtain ⟨t,e⟩:=r1
   subst e
   exact .cons n t (ih r2)
section
variable {X:Cx} {e:Expr} {te:TE} {lo hi:Option Expr} {tl th:TO} {pos p2:Pos}
theorem aV:PO X none oZ:=by
 intro Bp s σ H Q I h
 rw [evalPart_none]
 exact wJ ⟨none,H,I,.none,h⟩
theorem aR (h:PE X e te):PO X (some e) (ub te):=by
 intro Bp s σ H Q I hw
 rw [evalPart_some]
 refine thn (h Bp s σ H _ I hw) fun u s1 zq62=>?_
 obtain ⟨x,H1,I1,r1,q1⟩:=zq62
 obtain ⟨i,rfl,q⟩:=q1
 obtain ⟨t,rfl⟩:=r1
 exact ⟨some i,H1,I1,.int i t,q⟩
def SlR (X:Cx)(r:V→Option Int→Option Int→Hp→VK→Prop):Prop :=
 ∀ (Bp:List (Addr × Obj)) (s:Shared) (σ:St) (H:Hp) (x:V) (v vl vu:Value) (lo hi:Option Int) (sl:Addr) (Q:VK),Inv X Bp σ H s→bB x v→s.heap.IsSliceOf sl vl vu .none→IsPart vl lo→IsPart vu hi→r x lo hi H Q →
  ∃ T id,typeLookup (.type T) "__getitem__" = pure (some (.builtin id))∧s.TypeIs v T∧wpAny (model X.prog X.w) X.A (getItem v (.ref sl)) (EP X Bp σ Q) X.xe s
def rn (r:V→Option Int→Option Int→Hp→VK→Prop)(Q:VK)(x:V)(l:Option Int):Option Int→Hp→Prop:=fun u H3=>r x l u H3 Q
def rq (r:V→Option Int→Option Int→Hp→VK→Prop)(th:TO)(σ:St)(Q:VK)(x:V):Option Int→Hp→Prop:=fun l H2=>th σ H2 (rn r Q x l)
def rz (r:V→Option Int→Option Int→Hp→VK→Prop)(tl:TO)(th:TO)(σ:St)(Q:VK):V→Hp→Prop:=fun x H1=>tl σ H1 (rq r th σ Q x)
def tSl (r:V→Option Int→Option Int→Hp→VK→Prop)(te:TE)(tl th:TO):TE:=fun σ H Q=>te σ H (rz r tl th σ Q)
theorem aM {r:V→Option Int→Option Int→Hp→VK→Prop}(hr:SlR X r)(he:PE X e te)(hl:PO X lo tl)(hu:PO X hi th):PE X (.Subscript e (.Slice lo hi none p2) pos) (tSl r te tl th):=by
 intro Bp s σ H Q I h
 refine Subscript_ (thn (he Bp s σ H _ I h) fun v s1 zq63=>?_)
 obtain ⟨x,H1,I1,r1,q1⟩:=zq63
 refine wpAny_Slice (thn (hl Bp s1 σ H1 _ I1 q1) fun vl s2 ⟨l,H2,I2,pl,q2⟩=>thn (hu Bp s2 σ H2 _ I2 q2) fun vu s3 zq64=>?_)
 obtain ⟨u,H3,I3,pu,q3⟩:=zq64
 rw [evalPart_none]
 refine wJ ?_
 have I4:Inv X Bp σ H3 { s3 with heap:=s3.heap.push { cls:=.type "slice",data:=.fields #[vl,vu,.none] } }:=I3.kept (t':=s3.toks) fun b ob q=>wg _ q
 obtain ⟨T,id,hT,ht,hg⟩:=hr Bp { s3 with heap:=s3.heap.push { cls:=.type "slice",data:=.fields #[vl,vu,.none] } } σ H3 x v vl vu l u s3.heap.objs.size Q I4 r1 (Heap.IsSliceOf.new ..) pl pu q3
 show wpAny (model X.prog X.w) X.A (subscriptTail e (.Slice lo hi none p2) v (.ref s3.heap.objs.size)) (EP X Bp σ Q) X.xe { s3 with heap:=s3.heap.push { cls:=.type "slice",data:=.fields #[vl,vu,.none] } }
 exact tail_any (ops:=[.ref s3.heap.objs.size,v]) ht hT hg (by with_unfolding_all rfl)
def g_ (xs:List V)(lo hi:Option Int):List V:=(xs.drop (HT.sIx xs.length 0 lo)).take (HT.sIx xs.length xs.length hi - HT.sIx xs.length 0 lo)
theorem h_ (xs:List V)(lo hi:Option Int):(g_ xs lo hi).length≤xs.length:=by
 unfold g_
 rw [wD,xB]
 omega
inductive uc (K:PySem.W.Frag)(x:V)(y:V)(H:Hp)(Q:VK):Prop
 | mk:∀ a b ns ms,(x = .ref a)→(y = .ref b)→(SqT K H a (ns.map V.int))→(SqT K H b (ms.map V.int))→(Q (.bl (HT.bD ns ms)) H)→uc K x y H Q
theorem rA (hu:X.A.units < cLine):OpR X (compareOp .Lt) (uc X.K):=by
 intro Bp s σ H x y v u Q I rx ry h
 obtain ⟨a,b,ns,ms,rfl,rfl,ha,hb,q⟩:=h
 cases rx
 cases ry
 obtain ⟨Br,r1,p1,_⟩:=I.tuple ha
 obtain ⟨BS,r2,p2,_⟩:=I.tuple hb
 have i1:IntsAre Br.toArray.toList ns:=cI r1
 have i2:IntsAre BS.toArray.toList ms:=cI r2
 exact HT.e8 p1 p2 i1 i2 hu ⟨.bl (HT.bD ns ms),H,I,rfl,q⟩
end
def ixN (n:Nat)(i:Int):Option Nat:=if 0≤i then (if i < n then some i.toNat else none) else if -(n:Int)≤i then some (i+n).toNat else none
def atI {α:Type}(xs:List α)(i:Int):Option α:=(ixN xs.length i).bind fun j=>xs[j]?
theorem kl {n:Nat}{i:Int}{j:Nat}(h:ixN n i=some j):seqIndex? i n=some j∧j < n∧-(n:Int)≤i∧i < n:=by
 unfold ixN at h
 by_cases h0:0≤i
 ·rw [if_pos h0] at h
  by_cases h1:i < n
  ·rw [if_pos h1] at h
   have e:i.toNat=j:=wA h
   exact ⟨by rw [seqIndex_of h0 h1,e],by omega,by omega,h1⟩
  ·rw [if_neg h1] at h;cases h
 ·rw [if_neg h0] at h
  by_cases h1:-(n:Int)≤i
  ·rw [if_pos h1] at h
   have e:(i+n).toNat=j:=wA h
   exact ⟨by rw [seqIndex_neg (by omega) h1,e],by omega,h1,by omega⟩
  ·rw [if_neg h1] at h;cases h
theorem ia {α:Type}{xs:List α}{i:Int}{v:α}(h:atI xs i=some v):∃ j,seqIndex? i xs.length=some j∧xs[j]? = some v∧j < xs.length∧-(xs.length:Int)≤i∧i < xs.length:=by
 unfold atI at h
 cases e:ixN xs.length i with
 | none=>rw [e] at h;cases h
 | some j =>
  rw [e] at h
  obtain ⟨h1,h2,h3,h4⟩:=kl e
  exact ⟨j,h1,h,h2,h3,h4⟩
theorem o3 {α:Type}{xs:List α}{j:Nat}{v:α}(h:xs[j]? = some v):atI xs (j:Int)=some v:=by
 have hj:j < xs.length:=(wo.mp h).1
 have e:ixN xs.length (j:Int)=some j:=by
  unfold ixN
  rw [if_pos (by omega),if_pos (by omega)];simp
 unfold atI;rw [e];exact h
theorem ft {α:Type}(xs:List α)(v:α):atI (xs++[v]) (-1)=some v:=by
 have hl:(xs++[v]).length=xs.length+1:=by simp
 have e:ixN (xs++[v]).length (-1)=some xs.length:=by
  unfold ixN
  rw [hl,if_neg (by decide),if_pos (by omega)]
  congr 1
  omega
 unfold atI
 rw [e]
 show (xs++[v])[xs.length]? = some v
 simp
def km (b:Expr):Prop:=∀ o i,subscripted b false o i=operate [o,i] (getItem o i)
def IxR (X:Cx)(r:R2):Prop :=
 ∀ (value slice:Expr) (Bp:List (Addr × Obj)) (s:Shared) (σ:St) (H:Hp) (x y:V) (v u:Value) (Q:VK),Inv X Bp σ H s→bB x v→bB y u→r x y H Q →
  subscripted slice false v u=operate [v,u] (getItem v u)→wpAny (model X.prog X.w) X.A (subscriptTail value slice v u) (EP X Bp σ Q) X.xe s
def MtR (X:Cx)(id:String)(r:V→List V→Hp→VK→Prop):Prop :=
 ∀ (Bp:List (Addr × Obj)) (s:Shared) (σ:St) (H:Hp) (x:V) (xs:List V) (v:Value) (us:List Value) (Q:VK),Inv X Bp σ H s→bB x v→bg xs us→r x xs H Q →
  wpAny (model X.prog X.w) X.A (call (.builtin id) (v::us)) (EP X Bp σ Q) X.xe s
section
variable {X:Cx} {a b:Expr} {ta tb:TE} {pos:Pos}
theorem aD {r:R2}(hr:IxR X r)(ha:PE X a ta)(hb:PE X b tb)(hs:km b):PE X (.Subscript a b pos) (tOp r ta tb):=by
 intro Bp s σ H Q I h
 exact Subscript_ (tY ha hb I h fun v u s2 x y H2 I2 rx ry q=>hr a b Bp s2 σ H2 x y v u Q I2 rx ry q (hs _ _))
inductive vc (K:PySem.W.Frag)(x:V)(y:V)(H:Hp)(Q:VK):Prop
 | mk:∀ p xs i v,(x = .ref p)→(y = .int i)→(SqL K H p xs)→(atI xs i=some v)→(Q v H)→vc K x y H Q
inductive vd (K:PySem.W.Frag)(x:V)(y:V)(H:Hp)(Q:VK):Prop
 | mk:∀ p xs i v,(x = .ref p)→(y = .int i)→(SqT K H p xs)→(atI xs i=some v)→(Q v H)→vd K x y H Q
inductive ve (x:V)(y:V)(H:Hp)(Q:VK):Prop
 | mk:∀ z i c,(x = .str z)→(y = .int i)→(z.length≤sizeLine)→(atI z.cps.toList i=some c)→(Q (.str ⟨#[c]⟩) H)→ve x y H Q
theorem aJ:IxR X (vc X.K):=by
 intro value slice Bp s σ H x y v u Q I rx ry h hs
 obtain ⟨p,xs,i,z,rfl,rfl,hq,he,q⟩:=h
 cases rx
 obtain ⟨t,rfl⟩:=ry
 obtain ⟨Br,r,pl,hz⟩:=I.list hq
 obtain ⟨j,h1,h2,h3,h4,h5⟩:=ia he
 obtain ⟨w,ew,rw'⟩:=r.get h2
 have hl:=r.length
 have hn:=c8
 have fin:EP X Bp σ Q w s:=⟨z,H,I,rw',q⟩
 by_cases h0:0≤i
 ·have hj:i.toNat=j:=by
   rw [seqIndex_of h0 h5] at h1
   exact wA h1
  exact item_listR pl.isList h0 (by omega) (by rw [hj];simpa using ew) fin hs
 ·have hj:(i+(Br.toArray.size:Int)).toNat=j:=by
   rw [seqIndex_neg (by omega) h4] at h1
   rw [wB,← hl]
   exact wA h1
  exact subscriptTail_builtinR (x:=w) pl.isList.typeIs slot_list_getitem.lookup
   (wpAny_getItem_list_neg (Q:=fun r s'=>r=w∧EP X Bp σ Q r s') pl.isList (by omega) (by rw [wB] <;> omega) (by omega) (by rw [hj];simpa using ew) ⟨rfl,fin⟩) hs
theorem aN:IxR X (vd X.K):=by
 intro value slice Bp s σ H x y v u Q I rx ry h hs
 obtain ⟨p,xs,i,z,rfl,rfl,hq,he,q⟩:=h
 cases rx
 obtain ⟨t,rfl⟩:=ry
 obtain ⟨Br,r,pl,hz⟩:=I.tuple hq
 obtain ⟨j,h1,h2,h3,h4,h5⟩:=ia he
 obtain ⟨w,ew,rw'⟩:=r.get h2
 have hl:=r.length
 have hn:=c8
 have fin:EP X Bp σ Q w s:=⟨z,H,I,rw',q⟩
 exact subscriptTail_builtinR (x:=w) pl.typeIs slot_tuple_getitem.lookup
  (getItem_tuple (j:=j) (Q:=fun r s'=>r=w∧EP X Bp σ Q r s') pl (by omega) (by omega) (by rw [wB,← hl];exact h1) (by simpa using ew) ⟨rfl,fin⟩) hs
theorem bG:IxR X ve:=by
 intro value slice Bp s σ H x y v u Q I rx ry h hs
 obtain ⟨z,i,c,rfl,rfl,hz,he,q⟩:=h
 obtain ⟨t,rfl⟩:=rx
 obtain ⟨t',rfl⟩:=ry
 obtain ⟨j,h1,h2,h3,h4,h5⟩:=ia he
 have hl:z.cps.toList.length=z.length:=by simp [Str.length]
 rw [hl] at h1 h4 h5
 have hn:=c8
 exact tail_any (zL s z t) slot_str_getitem.lookup (getItem_str (c:=c) (by
  have e1:decide (i < -(2 ^ 63:Int))=false:=wm (by omega)
  have e2:decide (i≥2 ^ 63)=false:=wm (by omega)
  rw [e1,e2,Ae]) (by rw [h1];simpa using h2) ⟨.str ⟨#[c]⟩,H,I.tok _,⟨_,rfl⟩,q⟩) hs
theorem jB (Br:List Value)(n j:Nat)(u:Value):Obj.mapSeq (·.setIfInBounds j u) { cls:=.type "list",data:=.seq Br.toArray n }={ cls:=.type "list",data:=.seq (Br.set j u).toArray n }:=by
 simp [Obj.mapSeq]
theorem Inv.lst {Bp:List (Addr × Obj)}{σ:St}{H:Hp}{s:Shared}{p:Addr}{xs:List V}(I:Inv X Bp σ H s)(h:H p=some (.lst xs)) :
  ∃ (Br:List Value) (n:Nat),bg xs Br∧s.heap.get? p=some { cls:=.type "list",data:=.seq Br.toArray n }∧xs.length≤sizeLine:=by
 obtain ⟨z,Br,n,r,e⟩:=I.hok p _ h
 exact ⟨Br,n,r,e,z⟩
theorem Inv.lstUpd {Bp:List (Addr × Obj)}{σ:St}{H:Hp}{s:Shared}{p:Addr}{xs ys:List V}{Br its':List Value}{n n':Nat}{f:Obj→Obj}(I:Inv X Bp σ H s)(h:H p=some (.lst xs))
  (ho:s.heap.get? p=some { cls:=.type "list",data:=.seq Br.toArray n }) (hf:f { cls:=.type "list",data:=.seq Br.toArray n }={ cls:=.type "list",data:=.seq its'.toArray n' }) (r:bg ys its') (hz:ys.length≤sizeLine) (t:Nat) :
  Inv X Bp σ (upd H p (.lst ys)) { s with heap:=s.heap.update p f,toks:=t }:=by
 have e:(s.heap.update p f).get? p=some { cls:=.type "list",data:=.seq its'.toArray n' }:=by
  rw [yV f ho (by rw [hf] <;> rfl),hf]
 refine I.write (x:=p) (e:=p) (by rw [h];trivial) (.inl rfl) (fun b u hb q=>(xA _ _ (Ne.symm hb)).trans q) ⟨_,e⟩ ?_
 exact ⟨hz,its',n',r,e⟩
inductive rB (o:V)(i:V)(v:V)(H:Hp)(Q:(Hp→Prop)):Prop
 | mk:∀ p xs k j,(o = .ref p)→(i = .int k)→(H p=some (.lst xs))→(ixN xs.length k=some j)→(Q (upd H p (.lst (xs.set j v))))→rB o i v H Q
theorem dR:u9 X rB:=by
 intro Bp s σ H o i v ov iv u Q I ro ri rv h
 obtain ⟨p,xs,k,j,rfl,rfl,hp,hj,q⟩:=h
 cases ro
 obtain ⟨t,rfl⟩:=ri
 obtain ⟨Br,n,r,ho,hz⟩:=I.lst hp
 obtain ⟨h1,h2,h3,h4⟩:=kl hj
 have hl:=r.length
 have hn:=c8
 have I':Inv X Bp σ (upd H p (.lst (xs.set j v))) { s with heap:=s.heap.update p (Obj.mapSeq (·.setIfInBounds j u)) } :=
  I.lstUpd hp ho (jB Br n j u) (r.set rv j) (by rw [List.length_set];exact hz) s.toks
 by_cases h0:0≤k
 ·have hk:k.toNat=j:=by
   rw [seqIndex_of h0 h4] at h1
   exact wA h1
  exact PySem.W.ki_setAt ho h0 (by omega) (by rw [wB,← hl];exact h4) (by rw [hk];exact ⟨_,I',q⟩)
 ·have hk:(k+(Br.toArray.size:Int)).toNat=j:=by
   rw [seqIndex_neg (by omega) h3] at h1
   rw [wB,← hl]
   exact wA h1
  exact PySem.W.ki_setBack ho (by omega) (by rw [wB,← hl];exact h3) (by omega) (by rw [hk];exact ⟨_,I',q⟩)
theorem gE (lo hi:Option Int)(n:Nat):(sliceBounds lo hi none n).1=((HT.sIx n 0 lo:Nat):Int)∧(sliceBounds lo hi none n).2.1=((HT.sIx n n hi:Nat):Int)∧(sliceBounds lo hi none n).2.2=1:=by
 refine ⟨?_,?_,rfl⟩
 ·cases lo with
  | none=>simp [sliceBounds,HT.sIx]
  | some i =>
   simp only [sliceBounds,HT.sIx,Ar,show (1:Int) > 0 by decide,yK]
   by_cases h:i < 0
   ·simp only [h,yK] <;> omega
   ·simp only [h,xS] <;> omega
 ·cases hi with
  | none=>simp [sliceBounds,HT.sIx]
  | some i =>
   simp only [sliceBounds,HT.sIx,Ar,show (1:Int) > 0 by decide,yK]
   by_cases h:i < 0
   ·simp only [h,yK] <;> omega
   ·simp only [h,xS] <;> omega
theorem fv (Br:List Value)(lo hi:Option Int):slicePick Br.toArray lo hi none=((Br.drop (HT.sIx Br.length 0 lo)).take (HT.sIx Br.length Br.length hi - HT.sIx Br.length 0 lo)).toArray:=by
 obtain ⟨h1,h2,h3⟩:=gE lo hi Br.toArray.size
 unfold slicePick
 rw [h1,h2,h3]
 simp only [sliceRange_one,pick_run,wB] <;> rfl
inductive vf (K:PySem.W.Frag)(x:V)(lo:Option Int)(hi:Option Int)(H:Hp)(Q:VK):Prop
 | mk:∀ a xs,(x = .ref a)→(SqL K H a xs)→(∀ p,H p=none→Q (.ref p) (upd H p (.lst (g_ xs lo hi))))→vf K x lo hi H Q
theorem eB:SlR X (vf X.K):=by
 intro Bp s σ H x v vl vu lo hi sl Q I rx hs pl pu h
 obtain ⟨a,xs,rfl,hx,q⟩:=h
 cases rx
 obtain ⟨Br,r,ht,hz⟩:=I.list hx
 have hlen:=r.length
 refine ⟨"list",_,slot_list_getitem.lookup,ht.isList.typeIs,?_⟩
 refine wpAny_getItem_list_slice ht.isList hs pl pu .none (by simp) ?_ (by rw [wB] <;> omega)
 rw [fv,← hlen]
 refine ⟨.ref s.heap.objs.size,_,I.laid (t':=s.toks) (o:=.lst (g_ xs lo hi)) (fun b ob q=>wg _ q) (wu _) ?_,rfl,q _ (I.hok.fresh (wu _))⟩
 exact ⟨xq (h_ xs lo hi) hz,_,0,(r.drop (HT.sIx xs.length 0 lo)).take (HT.sIx xs.length xs.length hi - HT.sIx xs.length 0 lo),wK _ rfl⟩
def gF:V→Bool
 | .non=>true
 | .bl _=>true
 | .int _=>true
 | .str _=>true
 | _=>false
def eqV:V→V→Bool
 | .non,.non=>true
 | .bl a,.bl b=>a == b
 | .bl a,.int b=>(if a then 1 else 0) == b
 | .int a,.bl b=>a == (if b then 1 else 0)
 | .int a,.int b=>a == b
 | .str a,.str b=>a == b
 | _,_=>false
theorem rD {A:Around}{s:Shared}{y x:V}{u v:Value}(ry:bB y u)(rx:bB x v)(fy:gF y=true)(fx:gF x=true):SeqAt.EqAt A s u v (eqV y x):=by
 cases y with
 | non =>
  cases ry
  cases x with
  | non=>cases rx;exact SeqAt.EqAt.same _
  | bl b=>cases rx;exact SeqAt.EqAt.none_bool b
  | int b=>obtain ⟨t,rfl⟩:=rx;exact SeqAt.EqAt.none_int b t
  | str b=>obtain ⟨t,rfl⟩:=rx;exact SeqAt.EqAt.none_str b t
  | _=>exact absurd (show false=true from fx) wM
 | bl a =>
  cases ry
  cases x with
  | non=>cases rx;exact SeqAt.EqAt.bool_none a
  | bl b=>cases rx;exact SeqAt.EqAt.bool_bool a b
  | int b=>obtain ⟨t,rfl⟩:=rx;exact SeqAt.EqAt.bool_int a b t
  | str b=>obtain ⟨t,rfl⟩:=rx;exact SeqAt.EqAt.bool_str a b t
  | _=>exact absurd (show false=true from fx) wM
 | int a =>
  obtain ⟨t',rfl⟩:=ry
  cases x with
  | non=>cases rx;exact SeqAt.EqAt.int_none a t'
  | bl b=>cases rx;exact SeqAt.EqAt.int_bool a t' b
  | int b=>obtain ⟨t,rfl⟩:=rx;exact SeqAt.EqAt.int_int a t' b t
  | str b=>obtain ⟨t,rfl⟩:=rx;exact SeqAt.EqAt.int_str a t' b t
  | _=>exact absurd (show false=true from fx) wM
 | str a =>
  obtain ⟨t',rfl⟩:=ry
  cases x with
  | non=>cases rx;exact SeqAt.EqAt.str_none a t'
  | bl b=>cases rx;exact SeqAt.EqAt.str_bool a t' b
  | int b=>obtain ⟨t,rfl⟩:=rx;exact SeqAt.EqAt.str_int a t' b t
  | str b=>obtain ⟨t,rfl⟩:=rx;exact SeqAt.EqAt.str_str a t' b t
  | _=>exact absurd (show false=true from fx) wM
 | _=>exact absurd (show false=true from fy) wM
def eqU (x:V)(u:Value):Bool:=match u with
 | .none=>eqV .non x
 | .bool b=>eqV (.bl b) x
 | .int i _=>eqV (.int i) x
 | .str z _=>eqV (.str z) x
 | _=>false
theorem oa {x y:V}{u:Value}(r:bB y u)(f:gF y=true):eqU x u=eqV y x:=by
 cases y with
 | non=>cases r;rfl
 | bl b=>cases r;rfl
 | int i=>obtain ⟨t,rfl⟩:=r;rfl
 | str z=>obtain ⟨t,rfl⟩:=r;rfl
 | _=>exact absurd (show false=true from f) wM
theorem ib {x:V}:∀ {xs:List V} {us:List Value},bg xs us→xs.all gF=true→us.any (eqU x)=xs.any fun y=>eqV y x
 | _,_,.nil,_=>rfl
 | y::xs,u::us,.cons r t,f=>by
  rw [List.all_cons,yh] at f
  rw [Af,Af,oa r f.1,ib t f.2]
theorem fw {A:Around}{s:Shared}{x:V}{v:Value}(rx:bB x v)(fx:gF x=true):∀ {xs:List V} {us:List Value},bg xs us→xs.all gF=true→∀ u∈us,SeqAt.EqAt A s u v (eqU x u)
 | _,_,.nil,_=>fun u hu=>by cases hu
 | y::xs,u::us,.cons r t,f=>fun u' hu=>by
  rw [List.all_cons,yh] at f
  rcases wH.mp hu with rfl | hu
  ·rw [oa r f.1];exact rD r rx f.1 fx
  ·exact fw rx fx t f.2 u' hu
def inV (x:V)(xs:List V):Bool:=xs.any fun y=>eqV y x
inductive rIn (K:PySem.W.Frag)(neg:Bool)(x:V)(y:V)(H:Hp)(Q:VK):Prop
 | mk:∀ p xs,(y = .ref p)→((SqL K H p xs ∨ SqT K H p xs))→(gF x=true)→(xs.all gF=true)→(Q (.bl (if neg then !inV x xs else inV x xs)) H)→rIn K neg x y H Q
theorem ko:OpR X (compareOp .In) (rIn X.K false):=by
 intro Bp s σ H x y v u Q I rx ry h
 obtain ⟨p,xs,rfl,hq,fx,fs,q⟩:=h
 cases ry
 rcases hq with hq | hq
 ·obtain ⟨Br,r,pl,hz⟩:=I.list hq
  refine SeqAt.in_listAt (eqU x) pl.isList (fun w hw=>fw rx fx r fs w (by simpa using hw)) ⟨.bl _,H,I,rfl,?_⟩
  rw [show Br.toArray.any (eqU x)=Br.any (eqU x) by simp,ib r fs]
  exact q
 ·obtain ⟨Br,r,pl,hz⟩:=I.tuple hq
  refine SeqAt.in_tupleAt (eqU x) pl (fun w hw=>fw rx fx r fs w (by simpa using hw)) ⟨.bl _,H,I,rfl,?_⟩
  rw [show Br.toArray.any (eqU x)=Br.any (eqU x) by simp,ib r fs]
  exact q
inductive cS (K:PySem.W.Frag)(xs:List V)(H:Hp)(Q:VK):Prop
 | mk:∀ p ys,(xs=[.ref p])→((SqL K H p ys ∨ SqT K H p ys))→(Q (.int ys.length) H)→cS K xs H Q
theorem aS:cZ X (.builtin "len") (cS X.K):=by
 intro Bp s σ H xs us Q I r h
 obtain ⟨p,ys,rfl,hq,q⟩:=h
 obtain ⟨u,rfl,rx⟩:=cN r
 cases rx
 have hn:=c8
 rcases hq with hq | hq
 ·obtain ⟨Br,r',pl,hz⟩:=I.list hq
  have hlen:=r'.length
  exact Calls.call_len_list pl.isList (by simp only [wB] <;> omega) ⟨.int ys.length,H,I.tok _,⟨s.toks+1,by rw [wB,hlen]⟩,q⟩
 ·obtain ⟨Br,r',pl,hz⟩:=I.tuple hq
  have hlen:=r'.length
  exact len_tuple pl (by simp only [wB] <;> omega) ⟨.int ys.length,H,I.tok _,⟨s.toks+1,by rw [wB,hlen]⟩,q⟩
inductive cT  (xs:List V)(H:Hp)(Q:VK):Prop
 | mk:∀ z,(xs=[.str z])→(z.length≤sizeLine)→(Q (.int z.length) H)→cT xs H Q
theorem aE:cZ X (.builtin "len") cT:=by
 intro Bp s σ H xs us Q I r h
 obtain ⟨z,rfl,hz,q⟩:=h
 obtain ⟨u,rfl,t,rfl⟩:=cN r
 have hn:=c8
 exact len_str (by omega) ⟨.int z.length,H,I.tok _,⟨_,rfl⟩,q⟩
inductive cU (K:PySem.W.Frag)(xs:List V)(H:Hp)(Q:VK):Prop
 | mk:∀ p ys,(xs=[.ref p])→((SqL K H p ys ∨ SqT K H p ys))→(∀ l,H l=none→Q (.ref l) (upd H l (.lst ys)))→cU K xs H Q
theorem dN:cZ X (.type "list") (cU X.K):=by
 intro Bp s σ H xs us Q I r h
 obtain ⟨p,ys,rfl,hq,q⟩:=h
 obtain ⟨u,rfl,rx⟩:=cN r
 cases rx
 have fin:∀ (Br:List Value),bg ys Br→ys.length≤sizeLine→∀ (h':Heap) (c':Nat),(∀ b o',s.heap.get? b=some o'→h'.get? b=some o') →
   h'.get? s.heap.objs.size=some { cls:=.type "list",dict:=none,data:=.seq Br.toArray c',slots:=#[] }→EP X Bp σ Q (.ref s.heap.objs.size) { s with heap:=h' }:=fun Br r' hz h' c' kp e =>
  ⟨.ref s.heap.objs.size,_,I.laid (t':=s.toks) kp (wu _) (show cY X.prog X.w _ h' _ (.lst ys) from ⟨hz,Br,c',r',e⟩),rfl,q _ (I.hok.fresh (wu _))⟩
 rcases hq with hq | hq
 ·obtain ⟨Br,r',pl,hz⟩:=I.list hq
  have hlen:=r'.length
  obtain ⟨o,ho,hc,n,hd⟩:=pl.isList
  exact call_list_seq p (.inl rfl) ho hc hd (fun h' c' kp e=>fin Br r' hz h' c' kp e) (by simp only [wB] <;> omega)
 ·obtain ⟨Br,r',pl,hz⟩:=I.tuple hq
  have hlen:=r'.length
  obtain ⟨o,ho,hc,n,hd⟩:=pl
  exact call_list_seq p (.inr rfl) ho hc hd (fun h' c' kp e=>fin Br r' hz h' c' kp e) (by simp only [wB] <;> omega)
inductive ck (K:PySem.W.Frag)(xs:List V)(H:Hp)(Q:VK):Prop
 | mk:∀ p ys,(xs=[.ref p])→(((SqL K H p ys∧∀ l,H l=none→Q (.ref l) (upd H l (.tup ys))) ∨ (SqT K H p ys∧Q (.ref p) H)))→ck K xs H Q
theorem bX:cZ X (.type "tuple") (ck X.K):=by
 intro Bp s σ H xs us Q I r h
 obtain ⟨p,ys,rfl,h⟩:=h
 obtain ⟨u,rfl,rx⟩:=cN r
 cases rx
 rcases h with ⟨hq,q⟩ | ⟨hq,q⟩
 ·obtain ⟨Br,r',pl,hz⟩:=I.list hq
  have hlen:=r'.length
  refine call_tuple_list pl.isList (fun h' kp=>?_) (by simp only [wB] <;> omega)
  have I1:Inv X Bp σ H { s with heap:=h' }:=I.kept (t':=s.toks) kp
  have I2:Inv X Bp σ (upd H h'.objs.size (.tup ys)) { s with heap:=h'.push { cls:=.type "tuple",data:=.seq Br.toArray } } :=
   I1.laid (t':=s.toks) (fun b o e=>wg _ e) (wu _) (show cY X.prog X.w _ _ _ (.tup ys) from ⟨hz,Br,r',IsTup.new _ _,.new _ _ rfl⟩)
  exact ⟨.ref h'.objs.size,_,I2,rfl,q _ (I1.hok.fresh (wu _))⟩
 ·obtain ⟨Br,r',pl,hz⟩:=I.tuple hq
  exact call_tuple_same pl ⟨.ref p,H,I,rfl,q⟩
def tyV (K:PySem.W.Frag)(T:String)(x:V)(H:Hp):Prop:=match x with
 | .str _=>T = "str"
 | .int _=>T = "int"
 | .ref p=>(T = "list"∧∃ xs,SqL K H p xs) ∨ (T = "tuple"∧((∃ o,K.lookup p=some o∧o.cls = .type "tuple"∧o.dict=none) ∨ ∃ xs,H p=some (.tup xs))) ∨
   (T = "dict"∧((∃ BB,H p=some (.dK BB)) ∨ ∃ BB,H p=some (.dT BB))) ∨ (T = "set"∧∃ S n,H p=some (.set S n))
 | _=>False
theorem oe {Bp:List (Addr × Obj)}{σ:St}{H:Hp}{s:Shared}{T:String}{x:V}{v:Value}(I:Inv X Bp σ H s)(r:bB x v)(ty:tyV X.K T x H) :
  s.TypeIs v T∧∀ a,v = .ref a→∃ ob,s.heap.get? a=some ob∧ob.dict=none:=by
 cases x with
 | str z =>
  obtain ⟨t,rfl⟩:=r
  cases (show T = "str" from ty)
  exact ⟨zL s z t,fun _ e=>nomatch e⟩
 | int i =>
  obtain ⟨t,rfl⟩:=r
  cases (show T = "int" from ty)
  exact ⟨typeIs_int s i t,fun _ e=>nomatch e⟩
 | ref p =>
  cases r
  rcases ty with ⟨rfl,xs,hq⟩ | ⟨rfl,⟨o,hk,hc,hd⟩ | ⟨xs,hk⟩⟩ | ⟨rfl,hk⟩ | ⟨rfl,S,n,hk⟩
  ·obtain ⟨Br,_,pl,_⟩:=I.list hq
   refine ⟨pl.isList.typeIs,fun a e=>?_⟩
   cases e
   obtain ⟨o,n,e,c,hd,_⟩:=pl
   exact ⟨o,e,hd⟩
  ·refine ⟨⟨o,I.kIn p o hk,hc⟩,fun a e=>?_⟩
   cases e
   exact ⟨o,I.kIn _ o hk,hd⟩
  ·obtain ⟨_,_,_,⟨o,e,hc,_⟩,hn⟩:=I.hok p _ hk
   refine ⟨⟨o,e,hc⟩,fun a e=>?_⟩
   cases e
   exact hn
  ·have z:∃ o,s.heap.get? p=some o∧o.ExactDict:=by
    rcases hk with ⟨BB,hk⟩ | ⟨BB,hk⟩
    ·obtain ⟨_,_,_,_,o,_,_,e,ex,_⟩:=I.hok p _ hk
     exact ⟨o,e,ex⟩
    ·obtain ⟨_,_,_,_,o,_,_,e,ex,_⟩:=I.hok p _ hk
     exact ⟨o,e,ex⟩
   obtain ⟨o,e,ex⟩:=z
   refine ⟨⟨o,e,ex.1⟩,fun a e2=>?_⟩
   cases e2
   exact ⟨o,e,ex.2.1⟩
  ·obtain ⟨o,_,_,_,e,ex,_⟩:=I.hok p _ hk
   refine ⟨⟨o,e,ex.1⟩,fun a e2=>?_⟩
   cases e2
   exact ⟨o,e,ex.2.1⟩
 | _=>exact False.elim ty
def o4 (K:PySem.W.Frag)(T:String)(r:V→List V→Hp→VK→Prop)(Q:VK):V→Hp→Prop:=fun x H1=>tyV K T x H1∧r x [] H1 Q
def vg (K:PySem.W.Frag)(T:String)(r:V→List V→Hp→VK→Prop)(to:TE):TE:=fun σ H Q=>to σ H (o4 K T r Q)
def rE (r:V→List V→Hp→VK→Prop)(Q:VK)(x:V):List V→Hp→Prop:=fun xs H2=>r x xs H2 Q
def rF (K:PySem.W.Frag)(T:String)(r:V→List V→Hp→VK→Prop)(t:TA)(σ:St)(Q:VK):V→Hp→Prop:=fun x H1=>tyV K T x H1∧t σ H1 (rE r Q x)
def tBM (K:PySem.W.Frag)(T:String)(r:V→List V→Hp→VK→Prop)(to:TE)(t:TA):TE:=fun σ H Q=>to σ H (rF K T r t σ Q)
variable {o e:Expr} {es:List Expr} {to:TE} {t:TA} {name:Str} {apos BH:Pos} {T id:String} {r:V→List V→Hp→VK→Prop}
theorem og (pa:PlainAttrs T)(slot:Slot T name id)(hty:typeOf (.builtin id)=pure (.type "method_descriptor"))(hm:MtR X id r)(ho:PE X o to)
  (B0:attributeBase o name X.env (eval o X.env)=eval o X.env:=by rfl) (BZ:(apos.endLine == BH.line)=true:=by rfl):PE X (.Call (.Attribute o name apos) [] [] BH) (vg X.K T r to):=by
 intro Bp s σ H Q I h
 refine wpAny_Call_method0_late B0 BZ (thn (ho Bp s σ H _ I h) fun v s1 zq65=>?_)
 obtain ⟨x,H1,I1,r1,ty,q1⟩:=zq65
 obtain ⟨h1,h2⟩:=oe I1 r1 ty
 exact ⟨T,id,pa,slot,hty,h1,h2,Calls.callWith_builtin rfl (PySem.evalArgs_none (hm Bp s1 σ H1 x [] v [] Q I1 r1 .nil q1))⟩
theorem bH (pa:PlainAttrs T)(slot:Slot T name id)(hty:typeOf (.builtin id)=pure (.type "method_descriptor"))(hm:MtR X id r)(ho:PE X o to)(ha:PA X (e::es) t)
  (B0:attributeBase o name X.env (eval o X.env)=eval o X.env:=by rfl)
  (hfew:((backTo BH (starEach (e::es) X.env)).all (fun x=>!x.1) && (backToKw BH (keywordEach [] X.env)).all (fun x=>x.1.isSome)
   && decide ((e::es).length+([]:List Keyword).length+(if ([]:List Keyword).isEmpty then 0 else 1) < 30))=true:=by rfl)
  (BZ:(apos.endLine == BH.line)=true:=by rfl) (hs:starEach (e::es) X.env=(false,eval e X.env)::starEach es X.env:=by rfl) (hplain:(backTo BH (starEach es X.env)).any (·.1)=false:=by rfl) :
  PE X (.Call (.Attribute o name apos) (e::es) [] BH) (tBM X.K T r to t):=by
 intro Bp s σ H Q I h
 refine wpAny_Call_method_late B0 hfew BZ rfl (thn (ho Bp s σ H _ I h) fun v s1 zq66=>?_)
 obtain ⟨x,H1,I1,r1,ty,q1⟩:=zq66
 obtain ⟨h1,h2⟩:=oe I1 r1 ty
 refine ⟨T,id,pa,slot,hty,h1,h2,?_⟩
 have hA:=ha BH Bp s1 σ H1 _ I1 q1
 rw [hs] at hA ⊢
 refine Calls.callWith_builtin (by show (false || (backTo BH (starEach es X.env)).any (·.1))=false;rw [hplain] <;> rfl) (Calls.evalArgs_plain ?_)
 exact thn hA fun us s2 zq67=>(by obtain ⟨vs,H2,I2,r2,q2⟩:=zq67;exact hm Bp s2 σ H2 x vs v us Q I2 r1 r2 q2)
/- xs.append(e),list.index on a module's tuple .. are MtR facts of 06m -/
end
def MtM (X:Cx)(id:String)(r:V→List V→Hp→VK→Prop):Prop :=
 ∀ (Bp:List (Addr × Obj)) (s:Shared) (σ:St) (H:Hp) (x:V) (xs:List V) (v:Value) (us:List Value) (Q:VK),Inv X Bp σ H s→bB x v→bg xs us→r x xs H Q →
  wpAny (model X.prog X.w) X.A (call (.builtin id) (v::us)) (EP X Bp σ Q) X.xe s
theorem bg.one:∀ {x:V} {us:List Value},bg [x] us→∃ u,us=[u]∧bB x u
 | _,_,.cons r .nil=>⟨_,rfl,r⟩
theorem bg.zero:∀ {us:List Value},bg [] us→us=[]
 | _,.nil=>rfl
theorem bg.dropLast {xs:List V}{us:List Value}(h:bg xs us):bg xs.dropLast us.dropLast:=by
 induction h with
 | nil=>exact .nil
 | cons r t ih =>
  cases t with
  | nil=>exact .nil
  | cons q t'=>exact .cons r ih
theorem jC {α:Type}(l:List α):l.eraseIdx (l.length - 1)=l.dropLast:=by
 induction l with
 | nil=>rfl
 | cons a r ih =>
  cases r with
  | nil=>rfl
  | cons b r =>
   have e:(a::b::r).length - 1=((b::r).length - 1)+1:=by
    have h1:(a::b::r).length=r.length+2:=rfl
    have h2:(b::r).length=r.length+1:=rfl
    omega
   rw [e,List.eraseIdx_cons_succ,ih]
   all_goals rfl
section
variable {X:Cx} {Bp:List (Addr × Obj)} {σ:St} {H:Hp} {s:Shared} {l b:Addr} {xs ys zs:List V}
theorem Inv.lset {Br its':List Value}{n:Nat}{f:Array Value→Array Value}{t':Nat}(I:Inv X Bp σ H s)(hH:H l=some (.lst xs))
  (e:s.heap.get? l=some { cls:=.type "list",data:=.seq Br.toArray n }) (hf:f Br.toArray=its'.toArray) (hv:bg ys its') (hz:ys.length≤sizeLine) :
  Inv X Bp σ (upd H l (.lst ys)) { s with heap:=s.heap.update l (Obj.mapSeq f),toks:=t' }:=by
 have q:=PySem.IsL.update e f
 rw [hf] at q
 refine I.write (x:=l) (e:=l) (by rw [hH];exact trivial) (.inl rfl) (fun b' u hb hu=>(xA s.heap (Obj.mapSeq f) (Ne.symm hb)).trans hu) ⟨_,q⟩ ?_
 exact ⟨hz,its',_,hv,q⟩
theorem Inv.lnew {Br:List Value}{t':Nat}(I:Inv X Bp σ H s)(hv:bg ys Br)(hz:ys.length≤sizeLine) :
  Inv X Bp σ (upd H s.heap.objs.size (.lst ys)) { s with heap:=s.heap.push { cls:=.type "list",data:=.seq Br.toArray },toks:=t' } :=
 I.laid (fun _ _ q=>wg _ q) (wu _) ⟨hz,Br,0,hv,wK _ rfl⟩
theorem Inv.fresh (I:Inv X Bp σ H s):H s.heap.objs.size=none:=I.hok.fresh (wu _)
theorem Inv.lstM (I:Inv X Bp σ H s)(hH:H l=some (.lst xs)):xs.length≤sizeLine∧∃ (Br:List Value) (n:Nat),bg xs Br∧xs.length=Br.length∧s.heap.get? l=some { cls:=.type "list",data:=.seq Br.toArray n }:=by
 obtain ⟨z,Br,n,r,e⟩:=I.hok l _ hH
 exact ⟨z,Br,n,r,r.length,e⟩
theorem mO {n:Nat}(h:n≤sizeLine):Builtin.List.listTooLong n=false:=by
 unfold Builtin.List.listTooLong
 exact wm (by omega)
end
section
variable {X:Cx}
inductive kq (x:V)(vs:List V)(H:Hp)(Q:VK):Prop
 | mk:∀ l xs y,(x = .ref l)→(vs=[y])→(H l=some (.lst xs))→(xs.length < sizeLine)→(Q .non (upd H l (.lst (xs++[y]))))→kq x vs H Q
theorem bI:MtM X "list.append" kq:=by
 intro Bp s σ H x vs v us Q I rx rv h
 obtain ⟨l,xs,y,rfl,rfl,hH,hz,q⟩:=h
 cases rx
 obtain ⟨u,rfl,ru⟩:=rv.one
 obtain ⟨z,Br,n,r,hl,e⟩:=I.lstM hH
 refine AG F.slot_list_append ⟨_,e,rfl⟩ F.entry_list_append (F.args_list_append_2 _ _) (PySem.list_append l Br.toArray n u (by rw [wB];omega)) ⟨e,?_⟩
 refine ⟨.non,_,I.lset (its':=Br++[u]) hH e (by simp) (r.append (.cons ru .nil)) ?_,rfl,q⟩
 rw [wj,yW]
 omega
inductive kr (x:V)(vs:List V)(H:Hp)(Q:VK):Prop
 | mk:∀ l b xs zs,(x = .ref l)→(vs=[.ref b])→(H l=some (.lst xs))→(H b=some (.lst zs))→(xs.length+zs.length≤sizeLine)→(Q .non (upd H l (.lst (xs++zs))))→kr x vs H Q
theorem c9:MtM X "list.extend" kr:=by
 intro Bp s σ H x vs v us Q I rx rv h
 obtain ⟨l,b,xs,zs,rfl,rfl,hH,hB,hz,q⟩:=h
 cases rx
 obtain ⟨u,rfl,ru⟩:=rv.one
 cases ru
 obtain ⟨z,Br,n,r,hl,e⟩:=I.lstM hH
 obtain ⟨z2,BS,n2,r2,hl2,e2⟩:=I.lstM hB
 have hsz:Br.toArray.size+BS.toArray.size≤sizeLine:=by rw [wB,wB];omega
 have hlong:¬ (!Br.toArray.isEmpty && Builtin.List.listTooLong (Br.toArray.size+BS.toArray.size))=true:=by
  rw [mO hsz,yA]
  exact wM
 refine AG F.slot_list_extend ⟨_,e,rfl⟩ F.entry_list_extend (F.args_list_extend_2 _ _)
  (AutoSeq1.list_extend_list_list_0 l Br.toArray n b BS.toArray n2 hlong (by rw [wB];omega) (by omega)) ⟨e,e2,?_⟩
 refine ⟨.non,_,I.lset (its':=Br++BS) hH e (by simp) (r.append r2) ?_,rfl,q⟩
 rw [wj]
 omega
inductive vh (x:V)(vs:List V)(H:Hp)(Q:VK):Prop
 | mk:∀ l xs y,(x = .ref l)→(vs=[])→(H l=some (.lst xs))→(xs[xs.length - 1]? = some y)→(Q y (upd H l (.lst xs.dropLast)))→vh x vs H Q
theorem rG:MtM X "list.pop" vh:=by
 intro Bp s σ H x vs v us Q I rx rv h
 obtain ⟨l,xs,y,rfl,rfl,hH,hy,q⟩:=h
 cases rx
 have hus:=rv.zero
 subst hus
 obtain ⟨z,Br,n,r,hl,e⟩:=I.lstM hH
 obtain ⟨u,hu,ru⟩:=r.get hy
 have hy':Br.toArray[Br.toArray.size - 1]? = some u:=by
  show Br.toArray[Br.length - 1]? = some u
  rw [← xk,← hl]
  exact hu
 refine AG F.slot_list_pop ⟨_,e,rfl⟩ F.entry_list_pop (F.args_list_pop_1 _) (MeetsSeq.list_pop_last l Br.toArray n u hy' (by rw [wB];omega)) ⟨e,?_⟩
 refine ⟨y,_,I.lset (its':=Br.dropLast) hH e ?_ r.dropLast ?_,ru,q⟩
 ·show Br.toArray.eraseIdxIfInBounds (Br.toArray.size - 1)=Br.dropLast.toArray
  rw [wB,List.eraseIdxIfInBounds_toArray,jC]
 ·rw [List.length_dropLast]
  omega
inductive vi (x:V)(y:V)(H:Hp)(Q:VK):Prop
 | mk:∀ l b xs zs,(x = .ref l)→(y = .ref b)→(H l=some (.lst xs))→(H b=some (.lst zs))→(xs.length+zs.length≤sizeLine)→(∀ p,H p=none→Q (.ref p) (upd H p (.lst (xs++zs))))→vi x y H Q
theorem oh:OpR X (binaryOp .Add) vi:=by
 intro Bp s σ H x y v u Q I rx ry h
 obtain ⟨l,b,xs,zs,rfl,rfl,hH,hB,hz,q⟩:=h
 cases rx
 cases ry
 obtain ⟨z,Br,n,r,hl,e⟩:=I.lstM hH
 obtain ⟨z2,BS,n2,r2,hl2,e2⟩:=I.lstM hB
 refine PySem.P.add_list e e2 ?_ (by rw [wB,wB];omega)
 have ea:Br.toArray++BS.toArray=(Br++BS).toArray:=by simp
 rw [ea]
 exact ⟨.ref _,_,I.lnew (t':=s.toks) (r.append r2) (by rw [wj];omega),rfl,q _ I.fresh⟩
end
section
variable {prog:Program} {w:World} {A:Around} {E:Value→Shared→Prop} {s:Shared}
end
section
variable {X:Cx}
end
section
variable {κ:Type} [DecidableEq κ]
def tH (BB:List (κ × V))(k:κ)(v:V):List (κ × V) :=
 if (BB.any fun kv=>decide (kv.1=k))=true then BB.map (fun kv=>if kv.1=k then (kv.1,v) else kv) else BB++[(k,v)]
end
section
variable {P:Program} {w:World} {H:Hp} {h:Heap} {a:Addr}
end
def tI (H:Hp)(a:Addr)(y v:V)(H':Hp):Prop :=
 (∃ BB k,H a=some (.dK BB)∧y=kV k∧BB.length < sizeLine∧H'=upd H a (.dK (tH BB k v))) ∨
 ∃ BB k b,H a=some (.dT BB)∧y = .ref b∧H b=some (.tup (k.map kV))∧BB.length < sizeLine∧H'=upd H a (.dT (tH BB k v))
theorem tI.k {H:Hp}{a:Addr}{BB:List (Key × V)}{k:Key}{v:V}(e:H a=some (.dK BB))(hl:BB.length < sizeLine):tI H a (kV k) v (upd H a (.dK (tH BB k v))):=.inl ⟨BB,k,e,rfl,hl,rfl⟩
section
variable {X:Cx} {Bp:List (Addr × Obj)} {σ:St} {H:Hp} {s:Shared} {a:Addr} {y v:V} {u r:Value} {o:Option V} {A:Around} {E:Value→Shared→Prop}
end
section
variable {X:Cx} {Bp:List (Addr × Obj)} {σ:St} {H:Hp} {s:Shared} {a:Addr} {BB:List (Key × V)} {k:Key} {u:Value} {A:Around} {E:Value→Shared→Prop}
end
section
variable {X:Cx} {o i e value:Expr} {pos pos' tpos:Pos} {td ty tv:TE}
end
section
variable {X:Cx} {pos:Pos}
end
section
variable {X:Cx} {Bp:List (Addr × Obj)} {σ:St} {H:Hp} {s:Shared} {a:Addr} {y d:V} {u r:Value} {o:Option V} {A:Around} {E:Value→Shared→Prop}
end
section
variable {X:Cx} {o e f:Expr} {apos BH:Pos} {td ty tx:TE}
end
section
variable {X:Cx} {Bp:List (Addr × Obj)} {σ:St} {H:Hp} {s:Shared} {a:Addr} {BB:List (Key × V)} {A:Around} {E:Value→Shared→Prop}
end
section
variable {X:Cx} {Bp:List (Addr × Obj)} {σ:St} {H:Hp} {s:Shared} {a:Addr} {y:V} {u:Value} {A:Around} {E:Value→Shared→Prop}
end
end L2
namespace Att
open PySem PySem.W PySem.Calls PyProof.Rows
theorem eC {P:Params}{h:Heap}:∀ (ns:List Int) (vs:List Value),WellAll P h vs (ns.map WData.int)→IntsAre vs ns:=by
 intro ns
 induction ns with
 | nil =>
  intro vs w
  rw [AO] at w
  cases w
  exact .nil
 | cons n ns ih =>
  intro vs w
  rw [xX] at w
  cases w with
  | cons a b =>
   cases a
   exact .cons _ _ (ih _ b)
theorem ku {l:OpenLaw}{n:Nat}(hn:l.most=some n){P:Params}{h:Heap}{args:List WData}{vals:List Value}
  (hpre:l.row.toRowW.claim.pre args=true) (hwl:WellAll P h vals args) :
  ∃ a vs ns,vals=[Value.ref a]∧args=[WData.list (ns.map WData.int)]∧h.get? a=some { cls:=.type "list",data:=.seq vs.toArray }∧IntsAre vs ns∧ns.length≤n:=by
 have hsh:WShape.hasAll [] args [.list .int]=true:=(pre_splitW hpre).1
 have hc:l.pre.holds [] { args:=args }=true:=(pre_splitW hpre).2
 obtain ⟨d,r,rfl,h1,h2⟩:=hasAllW_cons hsh
 obtain rfl:=hasAllW_nil h2
 obtain ⟨xs,rfl,h3⟩:=hasW_list h1
 obtain ⟨ns,rfl⟩:=items_int h3
 have hlen:ns.length≤n:=by
  unfold OpenLaw.pre at hc
  have h4:(WTm.not (.lt (.lit (.int (n:Int))) (.len (.arg 0)))).holds [] { args:=[.list (ns.map .int)] }=true:=by
   have h4:=(holds_andW hc).1
   rw [hn] at h4
   exact h4
  have h5:=condW_of h4 (w_not (w_lt w_lit (w_len_list (w_arg rfl))))
  rw [wq] at h5
  refine Nat.le_of_not_lt fun q=>?_
  have q':(n:Int) < ((ns.length:Nat):Int):=by omega
  first
   | (rw [wF q'] at h5;exact absurd h5 (by decide))
   | (simp at h5;omega)
 cases hwl with
 | cons w1 w2 =>
  cases w2
  cases w1 with
  | list ho hall=>exact ⟨_,_,ns,rfl,rfl,ho,eC ns _ hall,hlen⟩
theorem kx (l:OpenLaw)(args:List WData):l.row.toRowW.claim.post args (.bool true) args=true :=
 postW_of (r:=l.row.toRowW) (X:=(true == true))
  (show WShape.has [] (.bool true) .bool=true by first | rfl | decide | simp [WShape.has,WShape.arms,WShape.armsAll])
  (show (WTm.eq .res (.lit (.bool true))).value [] { args:=args,res:=some (.bool true),after:=args }=some (.bool (true == true)) from w_eq_bool (w_res rfl) w_lit) rfl
theorem attach_call {l:OpenLaw}{n:Nat}{q:Program}{loose:List Str}{XP:(Str→Option Value)→Heap→Prop}{YP:World→Heap→Prop}{d:DefRec}
  (hn:l.most=some n) (hdf:d.params.defaults=[])
  (call:∀ (w:World) (s₀ s₁:Shared) (mg mb:Str→Option Value) (fa:Addr) (o:Obj) (pm cd doc:Value) (a:Addr) (vs:List Value) (ns:List Int),
   Ground q loose [] XP w s₀ mg mb s₁.heap→YP w s₁.heap →
   s₁.heap.get? fa=some o→o.data = .func (docDef d.name d.params d.body d.scope pm cd doc)→s₁.heap.CodeRec cd d.name→mg d.name=some (.ref fa) →
   s₁.heap.get? a=some { cls:=.type "list",data:=.seq vs.toArray }→IntsAre vs ns→ns.length≤n→s₁.gens=#[] →
   codeAny (model l.prog w) callerA (.call (.ref fa) ⟨[.ref a],[]⟩) (fun r s'=>r = .ok (.ret (.bool true))∧OldK s₁.heap s'.heap∧s'.os=s₁.os∧AllBare s'.gens) s₁) :
  WalkO q loose XP YP l.row.toRowW d [] (fun f vs=>PySem.call f vs):=by
 intro w s₀ s₁ mg mb G Y fa o pm cd doc dV kV ho hd hcd hD hmg hg args vals as hpre hlay hrd hwl hlo
 obtain rfl:dV = .none:=Dflts.none hD hdf
 obtain rfl:kV = .none:=Dflts.noKw hD
 obtain ⟨a,vs,ns,rfl,rfl,hobj,hints,hlen⟩:=ku hn hpre hwl
 refine enter_call (zf (call w s₀ s₁ mg mb fa o pm cd doc a vs ns G Y ho (fd_plain hd) hcd hmg hobj hints hlen hg) fun r s' hq=>?_)
 obtain ⟨rfl,h2,h3,h4⟩:=hq
 exact ⟨.inl ⟨.bool true,.bool true,[],rfl,fun _=>rfl,.bool true,kx l _,fun _=>⟨List.Pairwise.nil,fun _ hm=>(nomatch hm)⟩⟩,h2,h3,h4⟩
section
variable {prog:Program} {w:World} {A:Around} {E:Value→Shared→Prop} {s:Shared} {K:Frag}
end
end Att
namespace L2
open PySem PySem.Spec PyProof.Rows
theorem gG:∀ {vs:List Value} {ns:List Int},IntsAre vs ns→bg (ns.map V.int) vs
 | _,_,.nil=>.nil
 | _,_,.cons n t h=>.cons ⟨t,rfl⟩ (gG h)
def ud (H:Hp):Prop:=∀ b,H b=none ∨ ∃ o xs,H b=some (.frz o (.lst xs))
theorem mP {P:Program}{w:World}{K:PySem.W.Frag}{mg mb:Str→Option Value}{CX:CXT}{k:Nat}{fa a:Addr}{fd:FuncData}{x:Str}{sp:Sp}{s₁:Shared}{vs:List Value}{ns:List Int}
  (KX:K.In s₁.heap) (hns:s₁.heap.Ns mainGlobals mg) (hb:s₁.heap.Ns builtinsNs mb) (hbb:∀ x:Str,x ≠ "__name__"→mb x=bootBuiltins x) (hlim:s₁.heap.NoLimit) (hg:s₁.gens=#[])
  (ha:s₁.heap.get? a=some { cls:=.type "list",data:=.seq vs.toArray }) (hi:IntsAre vs ns) (hl:ns.length≤sizeLine) (hr:eZ k callerA)
  (F:∀ base:Heap,K.In base→base.Ns mainGlobals mg→mz P w K mg base CX k fa fd [x] sp) (hbind:∀ (s:Shared) (u:Value),BindsTo s fd ⟨[u],[]⟩ [(x,u)])
  (hsp:∀ H:Hp,ud H→SqL K H a (ns.map V.int)→sp [.ref a] H (fun v _=>v = .bl true) fun _ _ _=>False)
  (hCX:∀ H e s',CX [] H s₁ (fun _ _ _=>False) e s'→False) :
  codeAny (model P w) callerA (.call (.ref fa) ⟨[.ref a],[]⟩) (fun r s'=>r = .ok (.ret (.bool true))∧OldK s₁.heap s'.heap∧s'.os=s₁.os∧AllBare s'.gens) s₁:=by
 have rv:=gG hi
 have lenV:=hi.length
 -- from an abstract heap in which nothing but the script may be tracked
 have core:∀ H:Hp,ud H→SqL K H a (ns.map V.int)→HOk P w H s₁.heap→(∀ b,H b≠none→b=a)→(H a≠none→K.lookup a=none) →
   codeAny (model P w) callerA (.call (.ref fa) ⟨[.ref a],[]⟩) (fun r s'=>r = .ok (.ret (.bool true))∧OldK s₁.heap s'.heap∧s'.os=s₁.os∧AllBare s'.gens) s₁:=by
  intro H hO hS hok hA hK
  have base_of:∀ {b:Addr} {o:Obj},s₁.heap.get? b=some o→H b=none→(mD s₁.heap H).get? b=some o:=fun e n=>mE e n
  have noA:∀ {b:Addr} {o:Obj} {es:Array DictEntry} {ep:Nat},s₁.heap.get? b=some o→o.data = .dict es ep→H b=none:=fun {b o es ep} e d=>by
   cases q:H b with
   | none=>rfl
   | some u =>
    have e':b=a:=hA b (by rw [q];simp)
    subst e'
    rw [ha] at e;cases e
    have d':Data.seq vs.toArray _=Data.dict es ep:=d
    cases d'
  have nsK:∀ {b:Addr} {m:Str→Option Value},s₁.heap.Ns b m→(mD s₁.heap H).Ns b m:=fun {b m} ⟨o,es,ep,e,d,r⟩=>⟨o,es,ep,base_of e (noA e d),d,r⟩
  have hKb:K.In (mD s₁.heap H):=fun b o e=>base_of (KX b o e) (by
   cases q:H b with
   | none=>rfl
   | some u =>
    have e':b=a:=hA b (by rw [q];simp)
    subst e'
    rw [hK (by rw [q];simp)] at e;cases e)
  have hM:Mod K mg (mD s₁.heap H):=⟨hKb,nsK hns,⟨mb,nsK hb,hbb⟩,let ⟨mc,h1,h2⟩:=hlim;⟨mc,nsK h1,h2⟩⟩
  have e0:tG P w K mg (mD s₁.heap H) callerA [] s₁ H:=⟨rfl,hM,fun b o e=>oQ e,Nat.le_of_eq (jV _ _),trivial,fun b hb=>absurd (show b∈([]:List Addr) from hb) (by simp),hok,.of_eq hg⟩
  refine zf ((F _ hKb (nsK hns)).run callerA [] s₁ H ⟨[.ref a],[]⟩ [.ref a] [.ref a] _ _ hr e0 (hbind s₁ (.ref a)) (.cons rfl .nil) (hsp H hO hS)) fun r s' h=>?_
  cases r with
  | error e=>exact (hCX H e s' h).elim
  | ok fl =>
   cases fl with
   | next=>exact False.elim h
   | brk=>exact False.elim h
   | cont=>exact False.elim h
   | ret u =>
    obtain ⟨v,H',os,bare,un,hok',r',q⟩:=h
    have q':v = .bl true:=q
    subst q'
    obtain rfl:u=Value.bool true:=r'
    refine ⟨rfl,OldK.of_keep fun b o e=>?_,os,bare⟩
    cases q:H b with
    | none=>exact un.keep b o e q (by intro z;exact absurd (show b∈([]:List Addr) from z) (by simp)) (by simp)
    | some u =>
     rcases hO b with z | ⟨ob,xs,z⟩
     ·rw [q] at z;cases z
     ·have z2:=un.frzs b ob _ z
      obtain ⟨e1,_⟩:=hok b _ z
      obtain ⟨e2,_⟩:=hok' b _ z2
      rw [e] at e1;cases e1
      exact e2
 cases hk:K.lookup a with
 | some o =>
  -- the script is one of the module's own objects
  have e:=KX a o hk
  rw [ha] at e
  cases e
  refine core (fun _=>none) (fun _=>.inl rfl) (.inr ⟨_,vs.toArray,_,hk,rfl,rfl,rfl,by rw [wB,lenV];exact hl,by simpa using rv⟩) (fun b u z=>by have z':(none:Option HO)=some u:=z;cases z') (fun b z=>absurd rfl z) fun z=>absurd rfl z
 | none =>
  refine core (fun b=>if b=a then some (.frz { cls:=.type "list",data:=.seq vs.toArray } (.lst (ns.map V.int))) else none) (fun b=>?_) (.inl (.inr ⟨{ cls:=.type "list",data:=.seq vs.toArray },if_pos rfl⟩)) (fun b u z=>?_) (fun b z=>?_) fun _=>hk
  ·by_cases hb:b=a
   ·exact .inr ⟨_,_,if_pos hb⟩
   ·exact .inl (if_neg hb)
  ·by_cases hb:b=a
   ·have z':=(if_pos hb).symm.trans z
    cases z'
    subst hb
    exact ⟨ha,by rw [wq];exact hl,vs,_,rv,ha⟩
   ·have z':=(if_neg hb).symm.trans z
    cases z'
  ·by_cases hb:b=a
   ·exact hb
   ·exact absurd (if_neg hb) z
theorem ky {l:PySem.W.OpenLaw}{n k:Nat}{q:Program}{loose:List Str}{XP:(Str→Option Value)→Heap→Prop}{YP:World→Heap→Prop}{d:DefRec}{K:Params→PySem.W.Frag}{CX:World→CXT}{sp:World→Sp}{x:Str}
  (hn:l.most=some n) (hn2:n≤sizeLine) (hdf:d.params.defaults=[]) (hr:eZ k callerA)
  (hY:∀ (w:World) (h:Heap),YP w h→(K w.params).In h)
  (F:∀ (w:World) (mg:Str→Option Value) (fa:Addr) (h:Heap),(K w.params).In h→h.Ns mainGlobals mg→mg d.name=some (.ref fa) →
   ∃ fd:FuncData,(∀ (s:Shared) (u:Value),BindsTo s fd ⟨[u],[]⟩ [(x,u)]) ∧
    ∀ base:Heap,(K w.params).In base→base.Ns mainGlobals mg→mz l.prog w (K w.params) mg base (CX w) k fa fd [x] (sp w))
  (hsp:∀ (w:World) (H:Hp) (a:Addr) (ns:List Int),ns.length≤n→ud H→SqL (K w.params) H a (ns.map V.int)→sp w [.ref a] H (fun v _=>v = .bl true) fun _ _ _=>False)
  (hCX:∀ (w:World) (H:Hp) (s:Shared) (e:Value) (s':Shared),CX w [] H s (fun _ _ _=>False) e s'→False) :
  PySem.W.WalkO q loose XP YP l.row.toRowW d [] (fun f vs=>PySem.call f vs):=by
 refine Att.attach_call hn hdf fun w s₀ s₁ mg mb fa o pm cd doc a vs ns G Y ho hd hcd hmg hobj hints hlen hg=>?_
 have KX:=hY w _ Y
 obtain ⟨fd,hb,hF⟩:=F w mg fa _ KX G.T.g hmg
 exact mP KX G.T.g G.T.b G.T.builtins G.T.nolimit hg hobj hints (xq hlen hn2) hr hF hb (fun H hO hS=>hsp w H a ns hlen hO hS) fun H e s'=>hCX w H s₁ e s'
end L2
/- THE LAST THEOREM (shape;LID,My.* are yours):
  My.Adr: a structure of the addresses that your layer names (classes,functions);My.Txt K t: a structure (Prop) of the equations over K;
  My.txt_mk:{K} {implicit addresses ..} (e1:nsIn K mainGlobals "law" = some (some (.ref f))) (e2:K.lookup f=some ⟨oc,od,.func (fnOf "law" "law" params body scope dV kV doc pm an Bx ct),sl⟩) (e3:codeIn K Bx "law" = true) ..:∃ t,My.Txt K t
set_option maxRecDepth 100000 in
set_option maxHeartbeats 0 in
theorem PySem.Challenge.cw_LID_holds : PySem.Challenge.rw_LID.Holds := by
 w_on;o_law;k_head;(case hw=>w_witness2)
 k_fill
 refine L2.ky (l:=PySem.Challenge.rw_LID) (n:=63) (k:=40) (x:="script") (CX:=fun w=>..) (sp:=fun _=>My.sp_law) rfl (by decide) rfl ⟨rfl,by decide,by decide⟩ (fun w h Y=>PySem.W.kIn_of Y) ?F ?S ?C
 case F =>
  intro w mg fa h KX G hmg
  have T:∃ t,My.Txt (L2.KOf KX) t:=by
   dsimp only [L2.KOf]                          -- K must stand as «<heap const> w.params» for k_is
   refine' My.txt_mk ?e1 ?e2 ?e3 ..
   (case e1=>PySem.W.k_is)                    -- in the order: a name -> Br address -> Br object -> Br parts
   (case e2=>PySem.W.k_is)
   ..
  obtain ⟨t,T⟩:=T
  have e0:=hmg.symm.trans (Ag KX G T.law)
  cases e0                                       -- fa is the law's own address
  exact ⟨_,fun s u=>.of_eq rfl,fun base kb nb=>My.law_fn T kb nb⟩     -- if «.of_eq rfl» comes too early: refine' ⟨_,?b,fun base kb nb=>My.law_fn T kb nb⟩;exact fun s u=>.of_eq rfl
 case S=>exact fun w H a ns hl hO hS=>..
 case C=>exact ..
(the tactic k_is has no namespace: write k_is) -/
namespace L2
open PySem PySem.Spec PyProof.Rows
def bP (s:Stmt):Arguments:=match s with
 | .FunctionDef _ a _ _ _ _ _ _ _ _=>a
 | _=>{ posonlyargs:=[],args:=[],vararg:=none,kwonlyargs:=[],kw_defaults:=[],kwarg:=none,defaults:=[] }
def bA (s:Stmt):List Stmt:=match s with
 | .FunctionDef _ _ b _ _ _ _ _ _ _=>b
 | _=>[]
def ak (s:Stmt):Scope:=match s with
 | .FunctionDef _ _ _ _ _ _ sc _ _ _=>sc
 | _=>{ kind:=.function,names:=[],isGenerator:=false,isCoroutine:=false }
abbrev CX0:CXT:=fun _ _ _ _ _ _=>False
abbrev E0:XK:=fun _ _ _=>False
theorem ue {X:Cx}:ki CX0 X E0:=fun _ _ _ _ _ _ _ h=>h.elim
structure Fun (K:PySem.W.Frag) (x qual:Str) (st:Stmt) (f:Addr) (fd:FuncData):Prop where
 ex:∃ (oc:Value) (od:Option Addr) (kV doc pm:Value) (an:Option Addr) (Bx ct:Value) (osl:Array (Option Value)),
  fd=PySem.W.fnOf x qual (bP st) (bA st) (ak st) .none kV doc pm an Bx ct∧K.lookup f=some ⟨oc,od,.func fd,osl⟩∧PySem.W.codeIn K Bx qual=true
 kp:PySem.W.keepIn K (.ref f)=true
section
variable {P:Program} {w:World} {K:PySem.W.Frag} {mg:Str→Option Value} {base:Heap}
theorem Fun.ok {x qual:Str}{st:Stmt}{f:Addr}{fd:FuncData}{N ps:List Str}{k:Nat}{sp:Sp}(F:Fun K x qual st f fd)(S:aG N ps (ak st))(len:∀ vs H Q E,sp vs H Q E→vs.length=ps.length)
  (hbody:∀ (Bx:Value) (A:Around) (outer:List Env) (s:Shared) (H:Hp) (vs:List V) (Q:VK) (E:XK),eZ k (A.deeper (envOfC qual (ak st) s.heap.objs.size f Bx))→sp vs H Q E →
   ∃ t,PSs (oY CX0 P w K mg base N qual (ak st) f Bx A outer s H E).nox (bA st) t∧t { nx:=fun _ H'=>Q .non H',rt:=Q } (start N vs) H):mz P w K mg base CX0 (k+1) f fd ps sp:=by
 obtain ⟨oc,od,kV,doc,pm,an,Bx,ct,osl,rfl,lk,hcd⟩:=F.ex
 refine ua lk hcd S len fun A outer s H vs Q E hr hsp=>?_
 obtain ⟨t,h,q⟩:=hbody Bx A outer s H vs Q E hr hsp
 exact ⟨t,h.nox,q⟩
theorem Fun.binds {x qual:Str}{st:Stmt}{f:Addr}{fd:FuncData}{ps:List Str}(F:Fun K x qual st f fd)
  (h:∀ (kV doc pm:Value) (an:Option Addr) (Bx ct:Value) (us:List Value),us.length=ps.length→bindArgs (PySem.W.fnOf x qual (bP st) (bA st) (ak st) .none kV doc pm an Bx ct) ⟨us,[]⟩=pure (ps.zip us)):jA K fd ps []:=by
 obtain ⟨oc,od,kV,doc,pm,an,Bx,ct,osl,rfl,lk,hcd⟩:=F.ex
 exact .all (h kV doc pm an Bx ct)
theorem oi {x qual:Str}{st:Stmt}{f:Addr}{oc:Value}{od an:Option Addr}{osl:Array (Option Value)}{kV doc pm Bx ct:Value}(l:K.lookup f=some ⟨oc,od,.func (PySem.W.fnOf x qual (bP st) (bA st) (ak st) .none kV doc pm an Bx ct),osl⟩)
  (c:PySem.W.codeIn K Bx qual=true) (k:PySem.W.keepIn K (.ref f)=true):Fun K x qual st f (PySem.W.fnOf x qual (bP st) (bA st) (ak st) .none kV doc pm an Bx ct):=⟨⟨oc,od,kV,doc,pm,an,Bx,ct,osl,rfl,l,c⟩,k⟩
end
theorem uf {A:Around}{k:Nat}(hr:eZ k A):A.units+1 < cLine:=Nat.lt_of_le_of_lt (Nat.add_le_add_left (by decide:1≤64) _) hr.units
section
variable {X:Cx}
theorem pv (i:Nat){x:Str}{pos:Pos}(hN:X.N[i]? = some x:=by rfl)(hv:Vis X.env.scope x:=by first | exact Or.inl rfl | exact Or.inr (Or.inl rfl) | exact Or.inr (Or.inr rfl))(hd:(x == ("__debug__":Str))=false:=by decide)
  (hcd:(x == ("__classdict__":Str))=false:=by decide):PE X (.Name x pos) (tN i):=qP hN hv hd hcd
end
theorem mQ {A B:Prop}(h:B):if false=true then A else B:=by
 rw [if_neg wM]
 exact h
theorem qF {A B:Prop}(h:A):if true=true then A else B:=by
 rw [if_pos rfl]
 exact h
theorem gH {c A B:Prop}[Decidable c](h1:c→A)(h2:¬ c→B):if c then A else B:=by
 by_cases h:c
 ·rw [if_pos h]
  exact h1 h
 ·rw [if_neg h]
  exact h2 h
def aA (H H':Hp):Prop:=∀ b o,H b=some o→H' b=some o
theorem aA.refl (H:Hp):aA H H:=fun _ _ h=>h
theorem aA.trans {H H1 H2:Hp}(a:aA H H1)(b:aA H1 H2):aA H H2:=fun c o h=>b c o (a c o h)
theorem aA.free {H H':Hp}(e:aA H H'){l:Addr}(h:H' l=Option.none):H l=Option.none:=by
 cases q:H l with
 | none=>rfl
 | some o =>
  rw [e l o q] at h
  cases h
section
variable {κ:Type} [DecidableEq κ]
end
def i4 (cells:List (Str × Addr)):List (Str × NameKind)→List (Str × Addr)→List (Str × Addr)
 | [],acc=>acc
 | (x,k)::r,acc=>if k == NameKind.free then i4 cells r ((x,(cells.lookup x).getD 0)::acc) else i4 cells r acc
theorem fz {cells:List (Str × Addr)}{p:Str × Addr}:∀ {names:List (Str × NameKind)} {acc:List (Str × Addr)},p∈i4 cells names acc→p∈acc ∨ ((p.1,NameKind.free)∈names∧p.2=(cells.lookup p.1).getD 0)
 | [],_,h=>.inl h
 | (x,k)::r,acc,h=>by
  unfold i4 at h
  by_cases hk:(k == NameKind.free)=true
  ·rw [if_pos hk] at h
   have ek:k=NameKind.free:=by simpa using hk
   subst ek
   rcases fz h with h | ⟨h,e⟩
   ·rcases wH.mp h with h | h
    ·subst h
     exact .inr ⟨wX,rfl⟩
    ·exact .inl h
   ·exact .inr ⟨wO _ h,e⟩
  ·rw [if_neg hk] at h
   rcases fz h with h | ⟨h,e⟩
   ·exact .inl h
   ·exact .inr ⟨wO _ h,e⟩
theorem fA {cells:List (Str × Addr)}{p:Str × Addr}:∀ {names:List (Str × NameKind)} {acc:List (Str × Addr)},p∈acc→p∈i4 cells names acc
 | [],_,h=>h
 | (x,k)::r,acc,h=>by
  unfold i4
  split
  ·exact fA (wO _ h)
  ·exact fA h
theorem fB {cells:List (Str × Addr)}{x:Str}:∀ {names:List (Str × NameKind)} {acc:List (Str × Addr)},(x,NameKind.free)∈names→(x,(cells.lookup x).getD 0)∈i4 cells names acc
 | [],_,h=>by simp at h
 | (y,k)::r,acc,h=>by
  unfold i4
  rcases wH.mp h with h | h
  ·have e1:x=y:=wR Prod.fst h
   have e2:NameKind.free=k:=wR Prod.snd h
   subst e1 e2
   rw [if_pos (by simp)]
   exact fA wX
  ·split
   ·exact fB h
   ·exact fB h
theorem c_ {x:Str}{c:Addr}:∀ {l:List (Str × Addr)},(x,c)∈l→∃ d,l.lookup x=some d
 | [],h=>by simp at h
 | (y,d)::r,h=>by
  rw [zG]
  by_cases e:(x == y)=true
  ·rw [e];exact ⟨d,rfl⟩
  ·have e':(x == y)=false:=by simpa using e
   rw [e']
   rcases wH.mp h with h | h
   ·have:x=y:=wR Prod.fst h
    exact absurd (by simpa using this) e
   ·exact c_ h
theorem fC {env:Env}{scope:Scope}(h:∀ y∈scope.names,y.2=NameKind.free→∃ c,env.cells.lookup y.1=some c):closureFor scope env=pure (i4 env.cells scope.names []):=by
 have all:∀ (names:List (Str × NameKind)) (acc:List (Str × Addr)),(∀ y∈names,y.2=NameKind.free→∃ c,env.cells.lookup y.1=some c) →
   (forIn names acc (fun (p:Str × NameKind) (r:List (Str × Addr))=>(if (p.2 == NameKind.free)=true then (do let a ← cellOf env p.1;pure (ForInStep.yield ((p.1,a)::r))) else pure (ForInStep.yield r):Sem (ForInStep (List (Str × Addr))))))=(pure (i4 env.cells names acc):Sem (List (Str × Addr))):=by
  intro names
  induction names with
  | nil=>intro acc _;rfl
  | cons p r ih =>
   intro acc hh
   obtain ⟨x,k⟩:=p
   have hr:∀ y∈r,y.2=NameKind.free→∃ c,env.cells.lookup y.1=some c:=fun y hy=>hh y (wO _ hy)
   rw [List.forIn_cons]
   unfold i4
   by_cases hk:(k == NameKind.free)=true
   ·obtain ⟨c,hc⟩:=hh (x,k) wX (by simpa using hk)
    have hc:env.cells.lookup x=some c:=hc
    have ec:cellOf env x=pure c:=by
     unfold cellOf
     rw [hc]
    simp only [hk,yK,ec,pure_bind,hc,Option.getD_some]
    exact ih _ hr
   ·simp only [hk,xS,pure_bind]
    exact ih _ hr
 have e:=all scope.names [] h
 unfold closureFor
 simp only [bind_pure]
 exact e
def rH (scope sc:Scope)(NB own:List Str)(cap:List Nat)(N:List Str):Bool :=
 (scope.kind == .function) && (sc.kind == .function) &&
 (scope.names.all fun y=>match y.2 with
  | .cell=>false
  | .free=>sc.names.lookup y.1 == some NameKind.cell
  | .local=>scope.names.lookup y.1 == some NameKind.local
  | _=>true) &&
 (own.all fun x=>scope.names.lookup x == some NameKind.local && scope.names.all fun y=>!(y.1 == x) || y.2 == NameKind.local) &&
 (NB == own++cap.map fun i=>N.getD i "") && (cap.all fun i=>decide (i < N.length) && scope.names.lookup (N.getD i "") == some NameKind.free)
structure Blk (X:Cx) (scope:Scope) (NB own:List Str) (cap:List Nat):Prop where
 kind:scope.kind = .function
 outk:X.env.scope.kind = .function
 nocell:∀ y∈scope.names,y.2 ≠ .cell
 free:∀ y∈scope.names,y.2 = .free→X.env.kindOf y.1=some .cell
 names:∀ y∈scope.names,y.2 = .local→scope.names.lookup y.1=some .local
 owns:∀ x∈own,∀ y∈scope.names,y.1=x→y.2 = .local
 nb:NB=own++cap.map fun i=>X.N.getD i ""
 caps:∀ i∈cap,i < X.N.length∧scope.names.lookup (X.N.getD i "")=some .free
theorem cV {X:Cx}{scope sc:Scope}{NB own:List Str}{cap:List Nat}(hs:X.env.scope=sc)(h:rH scope sc NB own cap X.N=true):Blk X scope NB own cap:=by
 unfold rH at h
 simp only [yh] at h
 obtain ⟨⟨⟨⟨⟨h1,h2⟩,h3⟩,h4⟩,h5⟩,h6⟩:=h
 rw [zc] at h3 h4 h6
 subst hs
 refine ⟨by simpa using h1,by simpa using h2,fun y hy e=>?_,fun y hy e=>?_,fun y hy e=>?_,fun x hx y hy e=>?_,by simpa using h5,fun i hi=>?_⟩
 ·have:=h3 y hy
  rw [e] at this
  exact absurd this (by simp)
 ·have:=h3 y hy
  rw [e] at this
  show X.env.scope.names.lookup y.1=some .cell
  simpa using this
 ·have:=h3 y hy
  rw [e] at this
  simpa using this
 ·have:=h4 x hx
  simp only [yh,zc] at this
  have q:=this.2 y hy
  subst e
  simpa using q
 ·have:=h6 i hi
  simp only [yh] at this
  exact ⟨of_decide_eq_true this.1,by simpa using this.2⟩
def cxB (X:Cx)(NB own:List Str)(scope:Scope)(C:Addr)(fp:List Addr)(s₀:Shared)(H₀:Hp):Cx where
 prog:=X.prog
 w:=X.w
 K:=X.K
 mg:=X.mg
 base:=X.base
 A:=X.A
 N:=NB
 s₀:=s₀
 H₀:=H₀
 env:=compEnvC scope (i4 X.env.cells scope.names []) C X.env
 outer:=X.stack
 stack:=X.stack
 ex:=fp
 fn:=fun x=>own.contains x
 calm:=X.calm
 pn:=[]
 xe:=fun _ _=>False
theorem cn {env:Env}{x:Str}{k:NameKind}(hk:k = .cell ∨ k = .free):∀ {names:List (Str × NameKind)},(∀ y∈names,y.2 ≠ .cell) →
  (names.map fun (n,k)=>if (k == NameKind.free && env.scope.kind == .function && env.kindOf n == some .cell) then (n,NameKind.cell) else (n,k)).lookup x=some k→(x,NameKind.free)∈names
 | [],_,h=>by simp at h
 | (n,q)::r,hn,h=>by
  have ih:=@cn env x k hk r fun y hy=>hn y (wO _ hy)
  rw [xX,zG] at h
  have key:(if (q == NameKind.free && env.scope.kind == .function && env.kindOf n == some .cell)=true then (n,NameKind.cell) else (n,q)).1=n:=by split <;> rfl
  by_cases e:(x == n)=true
  ·have en:x=n:=by simpa using e
   subst en
   by_cases hq:q = .free
   ·subst hq;exact wX
   ·have hqf:(q == NameKind.free)=false:=by simpa using hq
    simp only [hqf,xU,wN,xS,beq_self_eq_true] at h
    have h':q=k:=wA h
    rcases hk with z | z
    ·exact absurd (h'.trans z) (hn (x,q) wX)
    ·exact absurd (h'.trans z) hq
  ·have e':(x == n)=false:=by simpa using e
   refine wO _ (ih ?_)
   have e2:(x == (if (q == NameKind.free && env.scope.kind == .function && env.kindOf n == some .cell)=true then (n,NameKind.cell) else (n,q)).1)=false:=by rw [key];exact e'
   rw [e2] at h
   exact h
theorem eD {env:Env}{x:Str}(hk:env.scope.kind = .function)(hc:env.kindOf x=some .cell):∀ {names:List (Str × NameKind)},names.lookup x=some .free →
  (names.map fun (n,k)=>if (k == NameKind.free && env.scope.kind == .function && env.kindOf n == some .cell) then (n,NameKind.cell) else (n,k)).lookup x=some .cell
 | [],h=>by simp at h
 | (n,q)::r,h=>by
  have ih:=@eD env x hk hc r
  rw [zG] at h
  rw [xX,zG]
  by_cases e:(x == n)=true
  ·have en:x=n:=by simpa using e
   subst en
   rw [e] at h
   have hq:q = .free:=wA h
   subst hq
   simp [hk,hc]
  ·have e':(x == n)=false:=by simpa using e
   rw [e'] at h
   have key:(if (q == NameKind.free && env.scope.kind == .function && env.kindOf n == some .cell)=true then (n,NameKind.cell) else (n,q)).1=n:=by split <;> rfl
   have e2:(x == (if (q == NameKind.free && env.scope.kind == .function && env.kindOf n == some .cell)=true then (n,NameKind.cell) else (n,q)).1)=false:=by rw [key];exact e'
   rw [e2]
   exact ih h
def stB (own:List Str)(cap:List Nat)(σ:St):St:=(own.map fun _=>none)++cap.map fun i=>(σ[i]?).getD none
section
variable {X:Cx} {Bp:List (Addr × Obj)} {σ:St} {H:Hp} {s:Shared} {scope:Scope} {NB own:List Str} {cap:List Nat} {fp:List Addr} {C:Addr}
theorem Blk.cells (B:Blk X scope NB own cap)(ok:X.Ok){x:Str}{c:Addr}(h:(i4 X.env.cells scope.names []).lookup x=some c):X.env.cells.lookup x=some c∧(x,NameKind.free)∈scope.names:=by
 rcases fz (x6 h) with q | ⟨q,e⟩
 ·simp at q
 ·obtain ⟨d,hd⟩:=ok.has x (.inl (B.free (x,.free) q rfl))
  have e:c=(X.env.cells.lookup x).getD 0:=e
  rw [hd] at e
  refine ⟨?_,q⟩
  rw [hd,e];rfl
theorem Blk.cell (B:Blk X scope NB own cap)(ok:X.Ok){x:Str}(h:(x,NameKind.free)∈scope.names):∃ c,(i4 X.env.cells scope.names []).lookup x=some c:=c_ (fB h)
theorem Blk.start (B:Blk X scope NB own cap)(I:Inv X Bp σ H s)(hf:∀ b∈fp,j5 X Bp H b)(hfs:∀ b∈fp,∃ o,s.heap.get? b=some o){h':Heap}{tk:Nat}{m:Str→Option Value}(hC:s.heap.objs.size≤C)
  (k:∀ b o,s.heap.get? b=some o→h'.get? b=some o) (hn:h'.Ns C m) :
  Inv (cxB X NB own scope C fp s H) [] (stB own cap σ) H { s with heap:=h',toks:=tk }:=by
 have hlen:NB.length=own.length+cap.length:=by rw [B.nb];simp
 have okB:(cxB X NB own scope C fp s H).Ok:=by
  refine ⟨I.ok.mod,B.kind,I.ok.glob,I.ok.blt,hC,fun x y c h1 h2=>I.ok.inj x y c (B.cells I.ok h1).1 (B.cells I.ok h2).1,fun x hx=>?_,fun x c h1 h2=>?_,I.ok.hd,I.ok.frames,.inl rfl,fun b hb=>⟨?_,fun x c h=>?_⟩,I.bs,xq I.ok.bsz I.sz,fun b o e hb=>?_,fun b hb z=>?_,I.stack,I.stkFree⟩
  ·have:(x,NameKind.free)∈scope.names:=by
    rcases hx with z | z
    ·exact cn (.inl rfl) B.nocell z
    ·exact cn (.inr rfl) B.nocell z
   exact B.cell I.ok this
  ·have hx:x∈own:=by simpa [cxB] using h1
   have q:=B.owns x hx _ (B.cells I.ok h2).2 rfl
   exact absurd q (by simp)
  ·obtain ⟨o,e⟩:=hfs b hb
   exact xp (w6 (wI e) hC)
  ·exact (hf b hb).2.2.2.2.1 x c (B.cells I.ok h).1
  ·have hb:b∈fp:=hb
   rcases (hf b hb).2.2.2.1 with z | z
   ·exact I.ok.noex b o e z
   ·exact absurd (w6 (wI e) (xq I.ok.bsz z)) (xV _)
  ·rcases wH.mp (I.stkSub b z) with z | z
   ·exact (hf b hb).2.1 z
   ·exact (hf b hb).2.2.1 z
 refine ⟨okB,rfl,I.bare,Un.kept k,⟨m,hn,fun i x v e1 e2 e3=>?_⟩,fun x c h=>?_,I.hok.fresh hC,fun x c h=>I.freeC x c (B.cells I.ok h).1,fun p hp=>absurd (show p∈([]:List (Addr × Obj)) from hp) (by simp),I.hok.kept k,?_⟩
 ·have e1:NB[i]? = some x:=e1
  have hi:¬ i < own.length:=fun hi=>by
   unfold stB at e2
   rw [xy (by simpa using hi),xj] at e2
   cases q:own[i]? <;> rw [q] at e2 <;> cases e2
  unfold stB at e2
  rw [wU (by simpa using hi),xj] at e2
  rw [B.nb,wU (by omega),xj] at e1
  simp only [wq] at e2
  cases q:cap[i - own.length]? with
  | none=>rw [q] at e1;cases e1
  | some j =>
   rw [q] at e1 e2
   have ex:X.N.getD j "" = x:=wA e1
   have ev:(σ[j]?).getD none=some v:=wA e2
   obtain ⟨hj,hjf⟩:=B.caps j (xt q)
   rw [ex] at hjf
   have hN:X.N[j]? = some x:=by rw [← ex,wV,fu hj];rfl
   have hσ:σ[j]? = some (some v):=by
    cases z:σ[j]? with
    | none=>rw [z] at ev;cases ev
    | some u=>rw [z] at ev;exact wR some ev
   have hmem:(x,NameKind.free)∈scope.names:=x6 hjf
   have hkc:=B.free _ hmem rfl
   obtain ⟨m0,hn0,hl⟩:=I.loc
   obtain ⟨u,r,l⟩:=hl j x v hN hσ (.inr (.inl hkc))
   refine ⟨u,r,.inr ⟨.inl (eD B.outk hkc hjf),?_⟩⟩
   obtain ⟨c,hc⟩:=B.cell I.ok hmem
   refine ⟨c,hc,?_⟩
   rcases l with ⟨z,_⟩ | ⟨_,c',hc',⟨oc,hoc,hd⟩⟩
   ·rw [show X.env.kindOf x=some .cell from hkc] at z;cases z
   ·have:=(B.cells I.ok hc).1
    rw [hc'] at this
    have:c'=c:=wA this
    subst this
    exact ⟨oc,k _ _ hoc,hd⟩
 ·obtain ⟨v,oc,hoc,hd⟩:=I.cell x c (B.cells I.ok h).1
  exact ⟨v,oc,k _ _ hoc,hd⟩
 ·show (stB own cap σ).length=NB.length
  unfold stB
  rw [hlen];simp
theorem Blk.done (B:Blk X scope NB own cap)(I:Inv X Bp σ H s)(hf:∀ b∈fp,j5 X Bp H b){σB:St}{H':Hp}{s':Shared}{h'':Heap}{D:Addr}{ys:List V}{Br:List Value}{n:Nat}(hC:s.heap.objs.size≤C)(hD:s.heap.objs.size≤D)(hDC:D≠C)
  (J:Inv (cxB X NB own scope C fp s H) [] σB H' s') (hn:H' D=none) (e:s'.heap.get? D=some { cls:=.type "list",data:=.seq Br.toArray n }) (hv:bg ys Br) (hz:ys.length≤sizeLine)
  (sb:Heap.SameBut C s'.heap h''):Inv X Bp σ (upd H' D (.lst ys)) { s' with heap:=h'' }:=by
 have un:Un (frs X.stack) fp H H' s.heap s'.heap:=J.base
 have neC:∀ {b o},s.heap.get? b=some o→b≠C:=fun q=>xp (w6 (wI q) hC)
 have neD:∀ {b o},s.heap.get? b=some o→b≠D:=fun q=>xp (w6 (wI q) hD)
 have hCn:H' C=none:=J.free
 refine I.call' (s':={ s' with heap:=h'' }) (ch:=fp) J.os ⟨fun b o q n hb hx=>?_,fun b o q n hb hx=>?_,fun b o q n hx=>?_,fun b o q hx=>?_,fun b xs q=>?_,fun b o u q=>?_,fun b ps q=>?_⟩ (fun b u q=>?_) J.bare fun b hb=>?_
 ·exact (sb.2 b (neC q)).trans (un.keep b o q n hb hx)
 ·obtain ⟨sl,r⟩:=un.slot b o q n hb hx
  exact ⟨sl,(sb.2 b (neC q)).trans r⟩
 ·rw [aP (neD q)]
  exact un.free b o q n hx
 ·obtain ⟨o',r⟩:=un.there b o q hx
  exact ⟨o',(sb.2 b (neC q)).trans r⟩
 ·have r:=un.tups b xs q
  rw [aP (aC r hn)]
  exact r
 ·have r:=un.frzs b o u q
  rw [aP (aC r hn)]
  exact r
 ·obtain ⟨more,r⟩:=un.tbls b ps q
  exact ⟨more,by rw [aP (aC r hn)];exact r⟩
 ·by_cases hb:b=D
  ·subst hb
   rw [ag] at q
   cases q
   exact ⟨hz,Br,n,hv,(sb.2 b hDC).trans e⟩
  ·rw [aP hb] at q
   refine (J.hok b u q).stay (fun c v hc r=>(sb.2 c ?_).trans r) (fun c r=>?_) fun c xs r=>?_
   ·rcases hc with z | z
    ·rw [z];exact aC q hCn
    ·exact aC z hCn
   ·rw [aP (aC r hn)];exact r
   ·rw [aP (aC r hn)];exact r
 ·obtain ⟨_,f1,_,f3,f4,f5⟩:=hf b hb
  exact ⟨f3,f1,f4,f5⟩
end
def PIf (X:Cx)(ifs:List Expr)(t:TT):Prop :=
 ∀ (Bp:List (Addr × Obj)) (s:Shared) (σ:St) (H:Hp) (Q:Bool→Hp→Prop),Inv X Bp σ H s→t σ H Q →
  wpAny (model X.prog X.w) X.A (forIn ifs true fun c r=>if r=true then do let ok ← isTrue c X.env (eval c X.env);pure (ForInStep.yield ok) else pure (ForInStep.yield r)) (TP X Bp σ Q) X.xe s
def vO:TT:=fun _ H Q=>Q true H
theorem cJ {X:Cx}:PIf X [] vO:=fun _ _ _ H _ I h=>wpAny_tests_nil ⟨H,I,h⟩
theorem dS {X:Cx}{c:Expr}{t:TT}(h:PT X c t):PIf X [c] t:=fun Bp s σ H Q I q=>wpAny_tests_one (h Bp s σ H Q I q)
section
variable {prog:Program} {w:World} {A:Around} {R:Result→Shared→Prop} {s:Shared}
abbrev noE:Value→Shared→Prop:=fun _ _=>False
theorem kA {elt tg iter:Expr}{ifs:List Expr}{scope:Scope}{pos:Pos}{it acc:Value}{env:Env}(I:Nat→Shared→Prop)
  (turn:∀ n s,I n s→wpAny (model prog w) A (pyNext it) (fun r s₁=>match r with
   | none=>R (.ok .next) s₁
   | some v=>wpAny (model prog w) A (letOwnedTupleGo tg it v) (fun _ s₀=>wpAny (model prog w) A (assign tg env v) (fun _ s₂ =>
     wpAny (model prog w) A (forIn ifs true fun c r=>if r=true then do let ok ← isTrue c env (eval c env);pure (ForInStep.yield ok) else pure (ForInStep.yield r)) (fun ok s₃ =>
      if ok=true then wpAny (model prog w) A (eval elt env) (fun x s₄=>wpAny (model prog w) A (call (.builtin "list.append") [acc,x]) (fun _ s₅=>∃ m,m < n∧I m s₅) noE s₄) noE s₃
      else ∃ m,m < n∧I m s₃) noE s₂) noE s₀) noE s₁) noE s)
  (n:Nat) (h:I n s):codeAny (model prog w) A (.compLoop (.ListComp elt [⟨tg,iter,ifs,0⟩] scope pos) 0 it acc env) R s:=by
 refine codeAny_loop rfl I (fun n s hI=>?_) n h
 show wpAny _ A ((compTurn (.ListComp elt [⟨tg,iter,ifs,0⟩] scope pos) 0 it acc env).onRaise (fun x=>do noteFrame x env;theTreesLotGoes x)) _ _ s
 refine wpAny_noted ?_
 rw [compTurn_list]
 refine we (Ac (we (yQ (turn n s hI) (fun r s₁ h₁=>?_) fun _ _ z=>False.elim z)))
 cases r with
 | none=>exact wJ h₁
 | some v =>
  refine we (yQ h₁ (fun _ s₀ h₀=>we (yQ h₀ (fun _ s₂ h₂=>we (yQ h₂ (fun ok s₃ h₃=>?_) fun _ _ z=>False.elim z)) fun _ _ z=>False.elim z)) fun _ _ z=>False.elim z)
  cases ok with
  | false=>exact wJ ⟨rfl,h₃⟩
  | true=>exact we (we (yQ h₃ (fun x s₄ h₄=>we (yQ h₄ (fun _ s₅ h₅=>wJ (wJ ⟨rfl,h₅⟩)) fun _ _ z=>False.elim z)) fun _ _ z=>False.elim z))
end
def o5 (own:List Str)(cap:List Nat)(g:TG)(ti:TT)(te:TE)(Q:VK)(σ:St)(J:It)(H1:Hp):Prop:=∃ W:Nat→Nat→List V→St→Hp→Prop,(∃ m,W 0 m [] (stB own cap σ) H1)∧∀ i m ys σ H,W i m ys σ H →
 (J.stop i H∧ys.length≤sizeLine∧∀ D,H D=none→Q (.ref D) (upd H D (.lst ys))) ∨
 (J.go i H∧ys.length < sizeLine∧∀ x H',J.yld i H x H'→g x σ H' fun σ2 H2=>ti σ2 H2 fun b H3=>if b=true then te σ2 H3 fun y H4=>∃ m',m' < m∧W (i+1) m' (ys++[y]) σ2 H4 else ∃ m',m' < m∧W (i+1) m' ys σ2 H3)
def o6 (own:List Str)(cap:List Nat)(wi:TI)(g:TG)(ti:TT)(te:TE):TE:=fun σ H Q=>wi σ H fun J H1=>o5 own cap g ti te Q σ J H1
theorem i5 {X:Cx}{pos2:Pos}{use:Option (Value→Sem Unit)}{QQ:Value→Shared→Prop}{Bp:List (Addr × Obj)}{s:Shared}{σ:St}{H:Hp}{Q:VK}{elt iter tg:Expr}{ifs:List Expr}{scope:Scope}{pos:Pos}{NB own:List Str}{cap:List Nat}{wi:TI}{g:TG}{ti:TT}{te:TE}(B:Blk X scope NB own cap)(hc:X.calm=true)(hi:PI X tg iter wi)
  (hg:∀ C fp s₀ H₀,PG (cxB X NB own scope C fp s₀ H₀) tg g) (ht:∀ C fp s₀ H₀,PIf (cxB X NB own scope C fp s₀ H₀) ifs ti) (he:∀ C fp s₀ H₀,PE (cxB X NB own scope C fp s₀ H₀) elt te)
  (hs:∀ x,foldedSetIterable iter X.env x=pure x) (I0:Inv X Bp σ H s) (h:o6 own cap wi g ti te σ H Q)
  (fin:∀ (fp:List Addr) (C:Addr) (s2 s4:Shared) (H2 H3:Hp) (σ3:St) (Br:List Value) (ys:List V) (k:Nat),Inv X Bp σ H2 s2→(∀ b∈fp,j5 X Bp H2 b)→s2.heap.objs.size≤C→s2.heap.objs.size≠C→Inv (cxB X NB own scope C fp s2 H2) [] σ3 H3 s4→H3 s2.heap.objs.size=none→s4.heap.get? s2.heap.objs.size=some { cls:=.type "list",data:=.seq Br.toArray k }→bg ys Br→ys.length≤sizeLine→Q (.ref s2.heap.objs.size) (upd H3 s2.heap.objs.size (.lst ys)) →
   compPost (model X.prog X.w) X.A X.xe use QQ (.ref s2.heap.objs.size) C (.ok .next) s4):wpAny (model X.prog X.w) X.A (comprehension (.ListComp elt [⟨tg,iter,ifs,0⟩] scope pos) scope X.env pos2 (newList []) false (eval iter X.env) use) QQ X.xe s:=by
 have hclos:=fC (env:=X.env) (scope:=scope) fun y hy e=>I0.ok.has y.1 (.inl (B.free y hy e))
 refine wpAny_comprehension_free (use:=use) rfl hs hclos B.kind B.names (thn (hi Bp s σ H _ I0 h) fun v s1 h1=>thn h1 fun itv s2 h2=>?_)
 obtain ⟨it,fp,tn,J,H2,rfl,I,T,BV,f2,W,⟨m0,w0⟩,turn⟩:=h2
 refine zJ ?_
 refine wpAny_newFunctionEnv B.nocell (by intro y hy;simp at hy) (fun h₁ hns₁ hsb₁=>?_) B.kind
 dsimp only at hns₁ hsb₁ ⊢
 generalize hP:s2.heap.push { cls:=.type "list",dict:=none,data:=.seq ([]:List Value).toArray }=P at hns₁ hsb₁ ⊢
 have hC:P.objs.size=s2.heap.objs.size+1:=by rw [← hP,zA]
 have hDC:s2.heap.objs.size≠P.objs.size:=by rw [hC];exact xp (yw _)
 have BU:s2.heap.objs.size≤P.objs.size:=by rw [hC];exact Ah _
 have old:∀ b o,s2.heap.get? b=some o→h₁.get? b=some o:=fun b o e=>by
  refine (hsb₁.2 b ?_).trans (wg _ (hP ▸ wg _ e))
  exact xp (w6 (wI e) BU)
 have hD:h₁.get? s2.heap.objs.size=some { cls:=.type "list",data:=.seq ([]:List Value).toArray 0 }:=by
  refine (hsb₁.2 _ hDC).trans (wg _ ?_)
  rw [← hP]
  exact wK _ rfl
 have hfs:∀ b∈fp,∃ o,s2.heap.get? b=some o:=fun b hb=>let ⟨o,e,_⟩:=T.obj _ _ BV b hb;⟨o,e⟩
 have st4:tn 0 h₁:=T.keep _ _ _ BV fun b _ o e=>old b o e
 generalize htk:s2.toks+([]:List (Str × Value)).length=tk4
 have I4:=B.start (C:=P.objs.size) (tk:=tk4) I f2 hfs BU old hns₁
 have fOk:∀ {H':Hp} {b:Addr} {ob:Obj},b∈fp→H' b=none→j5 (cxB X NB own scope P.objs.size fp s2 H2) [(s2.heap.objs.size,ob)] H' b:=fun {H' b ob} hb hn=>by
  obtain ⟨o,e⟩:=hfs b hb
  refine ⟨hn,(I4.ok.exf b hb).1,I4.ok.exfs b hb,.inl hb,(I4.ok.exf b hb).2,fun p hp=>?_⟩
  have ep:p=(s2.heap.objs.size,ob):=wc.mp (show p∈[(s2.heap.objs.size,ob)] from hp)
  rw [ep]
  exact fun z=>absurd (wI e) (by rw [← z];exact xV _)
 have dnf:s2.heap.objs.size∉frs X.stack:=fun z=>by
  rcases wH.mp (I.stkSub _ z) with z | z
  ·exact absurd I.lt (by rw [← z];exact xV _)
  ·exact I.nofs (wu _) z
 have I3D:∀ {σ3:St} {H3:Hp} {s3:Shared} {Br:List Value} {k:Nat},Inv (cxB X NB own scope P.objs.size fp s2 H2) [] σ3 H3 s3→s3.heap.get? s2.heap.objs.size=some { cls:=.type "list",data:=.seq Br.toArray k }→H3 s2.heap.objs.size=none →
   Inv (cxB X NB own scope P.objs.size fp s2 H2) [(s2.heap.objs.size,{ cls:=.type "list",data:=.seq Br.toArray k })] σ3 H3 s3:=fun I3 e n=>I3.pins_of fun p hp=>by
  have ep:=wc.mp hp
  subst ep
  exact ⟨e,n,hDC,dnf,fun v z=>by cases z⟩
 have ndf:s2.heap.objs.size∉fp:=fun z=>by
  obtain ⟨o,e⟩:=hfs _ z
  exact absurd (wI e) (xV _)
 have nCD:∀ x c,(cxB X NB own scope P.objs.size fp s2 H2).env.cells.lookup x=some c→c≠s2.heap.objs.size:=fun x c e z=>by
  obtain ⟨v,o,ho,_⟩:=I.cell x c (B.cells I.ok e).1
  rw [z] at ho
  exact absurd (wI ho) (xV _)
 have loop:∀ s₃:Shared,s₃ = { s2 with heap:=h₁,toks:=tk4 }→codeAny (model X.prog X.w) X.A (.compLoop (.ListComp elt [⟨tg,iter,ifs,0⟩] scope pos) 0 (.ref it) (.ref s2.heap.objs.size) (cxB X NB own scope P.objs.size fp s2 H2).env)
   (compPost (model X.prog X.w) X.A X.xe use QQ (.ref s2.heap.objs.size) P.objs.size) s₃:=by
  rintro s₃ rfl
  refine kA (fun n s'=>∃ i σB H' ys Br k,Inv (cxB X NB own scope P.objs.size fp s2 H2) [] σB H' s'∧tn i s'.heap∧(∀ b∈fp,H' b=none)∧s'.heap.get? s2.heap.objs.size=some { cls:=.type "list",data:=.seq (Br:List Value).toArray k }∧bg ys Br∧H' s2.heap.objs.size=none∧W i n ys σB H') ?_ m0
   ⟨0,stB own cap σ,H2,[],[],0,I4,st4,fun b hb=>(f2 b hb).1,hD,.nil,I.hok.fresh (wu _),w0⟩
  rintro n s3 ⟨i,σ3,H3,ys,Br,k,I3,st3,fr3,hD3,rv,hn3,w3⟩
  rcases turn i n ys σ3 H3 w3 with ⟨stop,hz,q⟩ | ⟨go,hz,step⟩
  ·refine thn (T.done (cxB X NB own scope P.objs.size fp s2 H2) rfl rfl rfl hc i _ s3 σ3 H3 noE (I3D I3 hD3 hn3) (fun b hb=>fOk hb (fr3 b hb)) st3 stop) fun r s4 zq1=>?_
   obtain ⟨hr,I4'⟩:=zq1
   subst hr
   have hD4:s4.heap.get? s2.heap.objs.size=some { cls:=.type "list",data:=.seq (Br:List Value).toArray k }:=(I4'.pin (s2.heap.objs.size,_) (wG _ (wc.mpr rfl))).1
   have I5:Inv (cxB X NB own scope P.objs.size fp s2 H2) [] σ3 H3 s4:=I4'.pins_of fun p hp=>absurd (show p∈([]:List (Addr × Obj)) from hp) (by simp)
   exact fin fp _ s2 s4 H2 H3 σ3 Br ys k I f2 BU hDC I5 hn3 hD4 rv hz (q _ hn3)
  ·refine thn (T.item (cxB X NB own scope P.objs.size fp s2 H2) rfl rfl rfl hc i _ s3 σ3 H3 noE (I3D I3 hD3 hn3) (fun b hb=>fOk hb (fr3 b hb)) st3 go) fun r s4 zq2=>?_
   obtain ⟨u,hr,h4⟩:=zq2
   subst hr
   refine thn h4 fun _ s5 zq3=>?_
   obtain ⟨x,H5,I5,r5,y5,st5,fr5⟩:=zq3
   have I5':=I5.pinned (fun b hb=>fOk hb (fr5 b hb)) (T.obj _ _ st5)
   refine thn (hg _ fp s2 H2 _ s5 σ3 H5 x u _ I5' r5 (step x H5 y5)) fun _ s6 zq4=>?_
   obtain ⟨σ6,H6,I6,q6⟩:=zq4
   refine thn (ht _ fp s2 H2 _ s6 σ6 H6 _ I6 q6) fun b s7 zq5=>?_
   obtain ⟨H7,I7,q7⟩:=zq5
   have pinned:∀ {σ8:St} {H8:Hp} {s8:Shared},Inv (cxB X NB own scope P.objs.size fp s2 H2) ([(s2.heap.objs.size,{ cls:=.type "list",data:=.seq (Br:List Value).toArray k })]++gu fp s5.heap) σ8 H8 s8 →
     tn (i+1) s8.heap∧(∀ b∈fp,H8 b=none)∧s8.heap.get? s2.heap.objs.size=some { cls:=.type "list",data:=.seq (Br:List Value).toArray k }∧H8 s2.heap.objs.size=none:=fun {σ8 H8 s8} I8=>by
    refine ⟨T.keep _ _ _ st5 fun b hb o e=>(I8.pin (b,o) (wG _ (wG _ (cF hb e)))).1,fun b hb=>?_,?_,?_⟩
    ·obtain ⟨o,e,d⟩:=T.obj _ _ st5 b hb
     exact (I8.pin (b,o) (wG _ (wG _ (cF hb e)))).2.1
    ·exact (I8.pin (s2.heap.objs.size,_) (wG _ (w_ _ (wc.mpr rfl)))).1
    ·exact (I8.pin (s2.heap.objs.size,_) (wG _ (w_ _ (wc.mpr rfl)))).2.1
   have nopin:∀ {pp:List (Addr × Obj)} {σ8:St} {H8:Hp} {s8:Shared},Inv (cxB X NB own scope P.objs.size fp s2 H2) pp σ8 H8 s8→Inv (cxB X NB own scope P.objs.size fp s2 H2) [] σ8 H8 s8:=fun I8=>I8.pins_of fun p hp=>absurd (show p∈([]:List (Addr × Obj)) from hp) (by simp)
   cases b with
   | false =>
    rw [if_neg wM] at q7 ⊢
    obtain ⟨m',hm,w7⟩:=q7
    obtain ⟨p1,p2,p3,p4⟩:=pinned I7
    exact ⟨m',hm,i+1,σ6,H7,ys,Br,k,nopin I7,p1,p2,p3,rv,p4,w7⟩
   | true =>
    rw [if_pos rfl] at q7 ⊢
    refine thn (he _ fp s2 H2 _ s7 σ6 H7 _ I7 q7) fun yv s8 zq6=>?_
    obtain ⟨y,H8,I8,r8,m',hm,w8⟩:=zq6
    obtain ⟨p1,p2,p3,p4⟩:=pinned I8
    refine AG F.slot_list_append ⟨_,p3,rfl⟩ F.entry_list_append (F.args_list_append_2 _ _) (PySem.list_append s2.heap.objs.size Br.toArray k yv (by rw [wB,← rv.length];omega)) ⟨p3,?_⟩
    have q:=PySem.IsL.update p3 fun a=>a.push yv
    have ea:Br.toArray.push yv=(Br++[yv]).toArray:=by simp
    rw [ea] at q
    have I9:Inv (cxB X NB own scope P.objs.size fp s2 H2) [] σ6 H8 { s8 with heap:=s8.heap.update s2.heap.objs.size (Obj.mapSeq fun a=>a.push yv),toks:=s8.toks } :=
     (nopin I8).turned (it:=s2.heap.objs.size) (fun b o hb e=>(xA s8.heap _ (Ne.symm hb)).trans e) p4 hDC (.inr (wu _)) (fun x c e=>nCD x c e) fun p hp=>absurd (show p∈([]:List (Addr × Obj)) from hp) (by simp)
    refine ⟨m',hm,i+1,σ6,H8,ys++[y],Br++[yv],_,I9,?_,p2,q,rv.append (.cons r8 .nil),p4,w8⟩
    refine T.keep _ _ _ p1 fun b hb o e=>(xA s8.heap _ ?_).trans e
    intro z
    rw [z] at ndf
    exact ndf hb
 exact codeAny_compStart_list (loop _ rfl) (T.self X.A 0 _ _ _ st4 (loop _ rfl))
theorem c4 {X:Cx}{elt iter tg:Expr}{ifs:List Expr}{scope:Scope}{pos:Pos}{NB own:List Str}{cap:List Nat}{wi:TI}{g:TG}{ti:TT}{te:TE}(B:Blk X scope NB own cap)(hc:X.calm=true)(hi:PI X tg iter wi)
  (hg:∀ C fp s₀ H₀,PG (cxB X NB own scope C fp s₀ H₀) tg g) (ht:∀ C fp s₀ H₀,PIf (cxB X NB own scope C fp s₀ H₀) ifs ti) (he:∀ C fp s₀ H₀,PE (cxB X NB own scope C fp s₀ H₀) elt te)
  (hs:∀ x,foldedSetIterable iter X.env x=pure x:=by intro _;rfl):PE X (.ListComp elt [⟨tg,iter,ifs,0⟩] scope pos) (o6 own cap wi g ti te):=by
 intro Bp s σ H Q I0 h
 rw [eval_ListComp]
 refine i5 (use:=none) (QQ:=EP X Bp σ Q) B hc hi hg ht he hs I0 h fun fp C s2 s4 H2 H3 σ3 Br ys k I f2 BU hDC I5 hn3 hD4 rv hz q=>?_
 obtain ⟨mC,hnC,_⟩:=I5.loc
 exact ⟨mC,hnC,fun h'' sb=>⟨.ref s2.heap.objs.size,_,B.done I f2 BU (wu _) hDC I5 hn3 hD4 rv hz sb,rfl,q⟩⟩
theorem bY {own:List Str}{cap:List Nat}{J:It}{g:TG}{ti:TT}{te:TE}{σ:St}{H:Hp}{Q:VK}(n:Nat)(Pv:Nat→List V→St→Hp→Prop)(h0:Pv 0 [] (stB own cap σ) H)(hz:∀ i ys σ H,i≤n→Pv i ys σ H→ys.length≤i)(hn:n≤sizeLine)
  (hgo:∀ i ys σ H,i < n→Pv i ys σ H→J.go i H) (hst:∀ ys σ H,Pv n ys σ H→J.stop n H)
  (hs:∀ i ys σ H x H' (N:List V→St→Hp→Prop),i < n→Pv i ys σ H→J.yld i H x H'→(∀ ys' σ' H'',Pv (i+1) ys' σ' H''→N ys' σ' H'')→g x σ H' fun σ2 H2=>ti σ2 H2 fun b H3=>if b=true then te σ2 H3 fun y H4=>N (ys++[y]) σ2 H4 else N ys σ2 H3)
  (hd:∀ ys σ H D,Pv n ys σ H→H D=none→Q (.ref D) (upd H D (.lst ys))) :
  o5 own cap g ti te Q σ J H:=by
 refine ⟨fun i m ys σ H=>m=n - i∧i≤n∧Pv i ys σ H,⟨n,by simp,xv _,h0⟩,?_⟩
 rintro i m ys σ H ⟨rfl,hi,p⟩
 have hl:=hz i ys σ H hi p
 by_cases BA:i < n
 ·refine .inr ⟨hgo i ys σ H BA p,by omega,fun x H' y=>?_⟩
  exact hs i ys σ H x H' (fun ys' σ' H''=>∃ m',m' < n - i∧m'=n - (i+1)∧i+1≤n∧Pv (i+1) ys' σ' H'') BA p y fun ys' σ' H'' q=>⟨n - (i+1),by omega,rfl,BA,q⟩
 ·have e:i=n:=by omega
  subst e
  exact .inl ⟨hst ys σ H p,by omega,fun D hD=>hd ys σ H D p hD⟩
def Its (z:Str):It:=⟨fun i _=>i < z.cps.size,fun i H x H'=>H'=H∧∃ c,z.cps[i]? = some c∧x = .str ⟨#[c]⟩,fun i _=>i=z.cps.size⟩
theorem bZ {P:Program}{w:World}{K:PySem.W.Frag}{tg:Expr}{it n:Nat}{Pv:Nat→Value→Prop}{st:Nat→Heap→Prop}{J:It}{T:String}{fl:Nat→Array Value}
  (W:∀ A:Around,A.handled=none→Walks P w A it [it] [it] n Pv st) (hst:∀ i h,st i h→∃ o,h.get? it=some o∧o.cls = .type T∧o.data = .fields (fl i))
  (hT:["enumerate","zip","dict_itemiterator","dict_reverseitemiterator","odict_iterator","itertools.zip_longest","itertools.pairwise"].contains T=false)
  (hgo:∀ i H,J.go i H→i < n) (hstop:∀ i H,J.stop i H→i=n) (hy:∀ i H u,J.go i H→Pv i u→∃ x,bB x u∧J.yld i H x H)
  (hself:∀ (A:Around) (i:Nat) (s:Shared) (Q:Value→Shared→Prop) (E:Value→Shared→Prop),st i s.heap→Q (.ref it) s→wpAny (model P w) A (pyIter (.ref it)) Q E s):qX P w K tg J [it] it st where
 mem:=by simp
 obj:=fun i h s b hb=>by
  have e:b=it:=by simpa using hb
  subst e
  obtain ⟨o,e,c,d⟩:=hst i h s
  exact ⟨o,e,fun v z=>by rw [d] at z;cases z⟩
 keep:=fun i h h' s k=>(W {} rfl).frame i h h' s k
 item:=by
  intro X hP hw hK hc i Bp s σ H E I hf s0 hg
  subst hP hw hK
  obtain ⟨f0,f1,f2,f3,f4,f5⟩:=hf it (by simp)
  refine (W X.A (I.ok.hd hc)).item i s _ _ (hgo i H hg) s0 fun v h' tk hv Bq kk=>?_
  have I1:Inv X Bp σ H { s with heap:=h',toks:=tk }:=I.turned (fun b o hb e=>kk b o (by simpa using hb) e) f0 f1 f3 f4 f5
  obtain ⟨o,e,c,d⟩:=hst _ _ Bq
  obtain ⟨x,rx,yx⟩:=hy i H v hg hv
  exact ⟨v,rfl,mH (s:={ s with heap:=h',toks:=tk }) e c d hT ⟨x,H,I1,rx,yx,Bq,fun b hb=>(hf b hb).1⟩⟩
 done:=by
  intro X hP hw hK hc i Bp s σ H E I hf s0 hg
  subst hP hw hK
  obtain ⟨f0,f1,f2,f3,f4,f5⟩:=hf it (by simp)
  have e:=hstop i H hg
  subst e
  exact (W X.A (I.ok.hd hc)).done s _ _ s0 fun h' tk kk=>⟨rfl,I.turned (fun b o hb e=>kk b o (by simpa using hb) e) f0 f1 f3 f4 f5⟩
 self:=hself
section
variable {X:Cx} {tg:Expr}
def vP (tl:TE):TI:=fun σ H R=>tl σ H fun x H1=>∃ z,x = .str z∧R (Its z) H1
theorem kC {z:Str}{i:Nat}{H:Hp}{u:Value}(h:SignAt z i u):∃ x,bB x u∧(Its z).yld i H x H:=by
 obtain ⟨c,t,e,rfl⟩:=h
 exact ⟨.str ⟨#[c]⟩,⟨t,rfl⟩,rfl,c,e,rfl⟩
theorem gI {l:Expr}{tl:TE}(hl:PE X l tl):PI X tg l (vP tl):=by
 intro Bp s σ H R I h
 refine thn (hl Bp s σ H _ I h) fun v s1 zq1=>?_
 obtain ⟨x,H1,I1,r1,q1⟩:=zq1
 obtain ⟨z,rfl,q⟩:=q1
 obtain ⟨t,rfl⟩:=r1
 have fp:∀ b∈[s1.heap.objs.size],j5 X Bp H1 b:=fun b hb=>by
  have e:b=s1.heap.objs.size:=by simpa using hb
  subst e
  exact I1.fpOk (wu _) (I1.hok.fresh (wu _))
 cases ha:z.cps.all (· < 128)
 ·refine wpAny_pyIter_wide ha ⟨s1.heap.objs.size,[s1.heap.objs.size],_,Its z,H1,rfl,I1.kept (t':=s1.toks) fun b o e=>wg _ e,
   bZ (T:="str_iterator") (fl:=fun i=>#[.str z t,.int i 0]) (fun A hh=>Walks.strWide hh _ z t) (fun i h st=>st) (by decide) (fun i H g=>g) (fun i H g=>g) (fun i H u _ hu=>kC hu) (fun A i s Q E st h=>wpAny_pyIter_striter_wide st h),⟨_,wK _ rfl,rfl,rfl⟩,fp,q⟩
 ·refine wpAny_pyIter_ascii ha ⟨s1.heap.objs.size,[s1.heap.objs.size],_,Its z,H1,rfl,I1.kept (t':=s1.toks) fun b o e=>wg _ e,
   bZ (T:="str_ascii_iterator") (fl:=fun i=>#[.str z t,.int i 0]) (fun A hh=>Walks.strAscii hh _ z t) (fun i h st=>st) (by decide) (fun i H g=>g) (fun i H g=>g) (fun i H u _ hu=>kC hu) (fun A i s Q E st h=>wpAny_pyIter_striter_ascii st h),⟨_,wK _ rfl,rfl,rfl⟩,fp,q⟩
inductive vj (x:V)(lo:Option Int)(hi:Option Int)(H:Hp)(Q:VK):Prop
 | mk:∀ z,(x = .str z)→(z.length≤sizeLine)→(Q (.str (Txt.slice z lo hi)) H)→vj x lo hi H Q
theorem bw:SlR X vj:=by
 intro Bp s σ H x v vl vu lo hi sl Q I rx hs pl pu h
 obtain ⟨z,rfl,hz,q⟩:=h
 obtain ⟨t,rfl⟩:=rx
 have fin:∀ (lo hi:Option Int),Q (.str (Txt.slice z lo hi)) H→∀ t' k,EP X Bp σ Q (.str (Txt.slice z lo hi) t') { s with toks:=k }:=fun lo hi q t' k=>⟨.str _,H,I.tok _,⟨_,rfl⟩,q⟩
 refine ⟨"str",_,F.slot_str_getitem.lookup,zL _ _ _,?_⟩
 cases pl with
 | none =>
  cases pu with
  | none=>exact yj (l:=none) (u:=none) (st:=none) hs rfl (zh ⟨xq (yz z _ _) hz,fun t' k=>fin _ _ q t' k⟩)
  | int j uj=>exact yj (l:=none) (u:=some (j,uj)) (st:=none) hs rfl (zh ⟨xq (yz z _ _) hz,fun t' k=>fin _ _ q t' k⟩)
 | int i ui =>
  cases pu with
  | none=>exact yj (l:=some (i,ui)) (u:=none) (st:=none) hs rfl (zh ⟨xq (yz z _ _) hz,fun t' k=>fin _ _ q t' k⟩)
  | int j uj=>exact yj (l:=some (i,ui)) (u:=some (j,uj)) (st:=none) hs rfl (zh ⟨xq (yz z _ _) hz,fun t' k=>fin _ _ q t' k⟩)
inductive oj (x:V)(vs:List V)(H:Hp)(Q:VK):Prop
 | mk:∀ z,(x = .str z)→(vs=[])→(z.length≤5592405)→(Q (.str (Txt.upper z)) H)→oj x vs H Q
inductive om (x:V)(vs:List V)(H:Hp)(Q:VK):Prop
 | mk:∀ z,(x = .str z)→(vs=[])→(z.length≤5592405)→(Q (.str (Txt.lower z)) H)→om x vs H Q
theorem mR:MtR X "str.upper" oj:=by
 intro Bp s σ H x vs v us Q I rx rv h
 obtain ⟨z,rfl,rfl,hz,q⟩:=h
 obtain ⟨t,rfl⟩:=rx
 cases rv
 exact SCL.upper hz fun _=>⟨.str _,H,I.tok _,⟨_,rfl⟩,q⟩
theorem fD:MtR X "str.lower" om:=by
 intro Bp s σ H x vs v us Q I rx rv h
 obtain ⟨z,rfl,rfl,hz,q⟩:=h
 obtain ⟨t,rfl⟩:=rx
 cases rv
 exact SCL.lower hz fun _=>⟨.str _,H,I.tok _,⟨_,rfl⟩,q⟩
theorem e9:∀ {ys:List Str} {us:List Value},bg (ys.map V.str) us→StrsAre us ys
 | [],_,r=>by
  rw [AO] at r
  cases r
  exact .nil
 | y::ys,us,r=>by
  rw [xX] at r
  cases r with
  | cons r1 r2 =>
   obtain ⟨t,e⟩:=r1
   subst e
   exact .cons y t (e9 r2)
inductive rJ (K:PySem.W.Frag)(x:V)(vs:List V)(H:Hp)(Q:VK):Prop
 | mk:∀ z p ys,(x = .str z)→(vs=[.ref p])→(SqL K H p (ys.map V.str))→((ys.map (·.length)).sum+ys.length*z.length≤16777216)→(Q (.str (Txt.join z ys)) H)→rJ K x vs H Q
theorem dD:MtR X "str.join" (rJ X.K):=by
 intro Bp s σ H x vs v us Q I rx rv h
 obtain ⟨z,p,ys,rfl,rfl,hq,hz,q⟩:=h
 obtain ⟨t,rfl⟩:=rx
 obtain ⟨u,rfl,ru⟩:=cN rv
 cases ru
 obtain ⟨Br,r,pl,_⟩:=I.list hq
 exact join_list pl.isList (by simpa using e9 r) hz fun t' k=>⟨.str _,H,I.tok _,⟨_,rfl⟩,q⟩
inductive dO  (x:V)(y:V)(H:Hp)(Q:VK):Prop
 | mk:∀ z n,(x = .str z)→(y = .int n)→(MulOk z n)→(Q (.str (Txt.mul z n)) H)→dO x y H Q
theorem cK:OpR X (binaryOp .Mult) dO:=by
 intro Bp s σ H x y v u Q I rx ry h
 obtain ⟨z,n,rfl,rfl,hz,q⟩:=h
 obtain ⟨t,rfl⟩:=rx
 obtain ⟨t',rfl⟩:=ry
 exact SB.mul hz fun t' k=>⟨.str _,H,I.tok _,⟨_,rfl⟩,q⟩
end
theorem o7 {z:Str}{g:TG}{tb:TS}{D:gq}{σ:St}{H:Hp}(Pv:Nat→St→Hp→Prop)(h0:Pv 0 σ H)
  (hs:∀ i c σ H,z.cps[i]? = some c→Pv i σ H→g (.str ⟨#[c]⟩) σ H fun σ2 H2=>tb { D with nx:=Pv (i+1),ct:=Pv (i+1),bk:=D.nx } σ2 H2) (hd:∀ σ H,Pv z.cps.size σ H→D.nx σ H) :
  ∃ W:Nat→Nat→St→Hp→Prop,(∃ m,W 0 m σ H)∧∀ i m σ H,W i m σ H →
   ((Its z).stop i H∧D.nx σ H) ∨ ((Its z).go i H∧∃ N:St→Hp→Prop,(∀ σ' H',N σ' H'→∃ m',m' < m∧W (i+1) m' σ' H')∧∀ x H',(Its z).yld i H x H'→g x σ H' fun σ2 H2=>tb { D with nx:=N,ct:=N,bk:=D.nx } σ2 H2):=by
 refine ⟨fun i m σ H=>m=z.cps.size - i∧i≤z.cps.size∧Pv i σ H,⟨z.cps.size,by simp,xv _,h0⟩,?_⟩
 rintro i m σ H ⟨rfl,hi,p⟩
 by_cases BA:i < z.cps.size
 ·refine .inr ⟨BA,Pv (i+1),fun σ' H' p'=>⟨z.cps.size - (i+1),by omega,rfl,BA,p'⟩,fun x H' y=>?_⟩
  obtain ⟨e,c,hc,ex⟩:=y
  subst e ex
  exact hs i c σ _ hc p
 ·have e:i=z.cps.size:=by omega
  subst e
  exact .inl ⟨rfl,hd σ H p⟩
end L2
namespace PySem
open Sem (wp)
open Builtin Builtin.SmallTypes
namespace F
theorem lookup_str_reversed:typeLookup (.type "str") "__reversed__" = pure none:=by rw [zP,yX]; kernel_rfl
theorem fE:Slot "reversed" "__init__" "object.__init__" :=
 .of (owner:="object") (n:="__init__") (by rw [zP,yX];kernel_rfl) (by decide +kernel) (by decide +kernel) (by decide +kernel)
  (by first | exact .inl (by decide +kernel) | exact .inr (by decide +kernel)) (by rw [z7];kernel_rfl)
theorem called_rvs:TypeCalled "reversed" "reversed.__new__" "object.__init__" :=
 ⟨by decide +kernel,create_reversed,⟨_,_,mro_reversed⟩,made_reversed,plain_reversed_new,sub_reversed_self,fE⟩
end F
set_option maxHeartbeats 1000000 in
theorem kD (x:Str)(t:Tok):Meets (Builtin.«reversed.__new__» ⟨[.type "reversed",.str x t],[]⟩) (fun _ R s=>¬ (x.length:Int)≥2 ^ 63 ∧
   ∀ tk,R (.ok (.ret (.ref s.heap.objs.size))) { s with heap:=s.heap.push { cls:=.type "reversed",data:=.fields #[.str x t,rawInt ((x.length:Int) - 1)] },toks:=tk }) :=
 .of_wp fun prog w A R s h=>by
  obtain ⟨hx,h⟩:=h
  unfold Builtin.«reversed.__new__»
  refine we (zQ (newClass_reversed _) ?_)
  try dsimp only
  refine we (zQ (a:=()) (by first | rfl | kernel_rfl) ?_)
  refine we (zQ (a:=()) (by first | rfl | kernel_rfl) ?_)
  try dsimp only
  refine we (wpAny_specialOf (zL s x t) F.lookup_str_reversed ?_)
  try dsimp only
  refine we ?_
  have hl:=F.slot_str_getitem.lookup
  have hT:=zL s x t
  have hD:isSubtype (.type "str") (.type "dict")=pure false:=by rw [z7];kernel_rfl
  repeat (any_goals (first | assumption | refine PySem.P.len_str hx ?_ | wp_step))
  exact ⟨_,rfl,h _⟩
def Heap.IsRvs (h:Heap)(a:Addr)(x:Str)(t:Tok)(i:Int):Prop:=∃ o,h.get? a=some o∧o.cls = .type "reversed"∧o.data = .fields #[.str x t,rawInt i]
theorem Heap.IsRvs.typeIs {s:Shared}{a:Addr}{x:Str}{t:Tok}{i:Int}(y:s.heap.IsRvs a x t i):s.TypeIs (.ref a) "reversed":=let ⟨o,ho,hc,_⟩:=y; ⟨o,ho,hc⟩
namespace F
theorem slot_rvs_next:Slot "reversed" "__next__" "reversed.__next__" :=
 .of (owner:="reversed") (n:="__next__") (by rw [zP,yX];kernel_rfl) (by decide +kernel) (by decide +kernel) (by decide +kernel)
  (by first | exact .inl (by decide +kernel) | exact .inr (by decide +kernel)) (by rw [z7];kernel_rfl)
theorem entry_rvs_next:entryFor table "reversed.__next__" = some Builtin.«reversed.__next__»:=entryFor_of_tree (by kernel_rfl)
theorem args_rvs_next (a:Value):argsOk "reversed.__next__" ⟨[a],[]⟩:=by unfold argsOk; kernel_rfl
theorem slot_rvs_iter:Slot "reversed" "__iter__" "reversed.__iter__" :=
 .of (owner:="reversed") (n:="__iter__") (by rw [zP,yX];kernel_rfl) (by decide +kernel) (by decide +kernel) (by decide +kernel)
  (by first | exact .inl (by decide +kernel) | exact .inr (by decide +kernel)) (by rw [z7];kernel_rfl)
theorem args_rvs_iter (a:Value):argsOk "reversed.__iter__" ⟨[a],[]⟩:=by unfold argsOk; kernel_rfl
theorem entry_rvs_iter:entryFor table "reversed.__iter__" = some Builtin.«dict_keyiterator.__iter__» :=
 entryFor_alias (id':="dict_keyiterator.__iter__") (by kernel_rfl) rfl (by decide +kernel) (by kernel_rfl)
end F
section
variable {prog:Program} {w:World} {A:Around} {E:Value→Shared→Prop} {s:Shared} {x:Str} {t:Tok}
theorem gJ {Q:Value→Shared→Prop}(hx:¬ (x.length:Int)≥2 ^ 63)
  (h:∀ tk,Q (.ref s.heap.objs.size) { s with heap:=s.heap.push { cls:=.type "reversed",data:=.fields #[.str x t,rawInt ((x.length:Int) - 1)] },toks:=tk }):wpAny (model prog w) A (call (.type "reversed") [.str x t]) Q E s :=
 callType_new F.called_rvs (by decide) (F.typeCall_reversed_1 _) (F.newCall_reversed_1 _) (fun obj=>F.args_object_init_2 obj _) F.entry_reversed_new (kD x t) ⟨hx,fun tk=>⟨⟨_,wK _ rfl,rfl⟩,h tk⟩⟩
theorem fF {it:Addr}{i:Int}{Q:Value→Shared→Prop}(hit:s.heap.IsRvs it x t i)(h:Q (.ref it) s):wpAny (model prog w) A (pyIter (.ref it)) Q E s:=by
 refine wpAny_pyIter_slot hit.typeIs F.slot_rvs_iter (zd F.slot_rvs_iter hit.typeIs F.entry_rvs_iter ?_ (F.args_rvs_iter _))
 show wpAny _ _ (ret (.ref it)) _ _ s
 exact wJ ⟨_,rfl,"reversed",_,hit.typeIs,F.slot_rvs_next.lookup,h⟩
theorem fG {it:Addr}{i:Nat}{c:Nat}{Q:Option Value→Shared→Prop}(hit:s.heap.IsRvs it x t (i:Int))(hx:x.cps[i]? = some c)(h63:(i:Int) < 2 ^ 63)
  (hQ:∀ h' tk u,h'.IsRvs it x t ((i:Int) - 1)→Heap.SameBut it s.heap h'→Q (some (.str ⟨#[c]⟩ u)) { s with heap:=h',toks:=tk }):wpAny (model prog w) A (pyNext (.ref it)) Q E s:=by
 obtain ⟨o,ho,hc,hd⟩:=id hit
 unfold pyNext
 refine we (Ai (wpAny_callSpecial?_slot (name:=Str.ofString "__next__") hit.typeIs F.slot_rvs_next
  (zd F.slot_rvs_next hit.typeIs F.entry_rvs_next ?_ (F.args_rvs_next _))))
 unfold Builtin.«reversed.__next__»
 refine we (zQ (a:=(Value.ref it,[])) rfl ?_)
 try dsimp only
 refine we (Aj ho hd (x:=.str x t) rfl ?_)
 refine we (Aj ho hd (x:=rawInt (i:Int)) rfl ?_)
 show wpAny _ _ (if (i:Int) < 0 then _ else _) _ _ s
 rw [if_neg (by omega)]
 refine we (wpAny_specialOf (zL s x t) F.slot_str_getitem.lookup ?_)
 show wpAny _ _ (if (some (Value.builtin "str.__getitem__")).isNone=true then _ else _) _ _ s
 rw [if_neg (by decide)]
 refine we (wpAny_mkInt ?_)
 have BA:i < x.length:=by
  have:=yt.mp hx
  exact this.1
 refine we (Ai (PySem.P.getItem_str (c:=c) ?_ ?_ ?_))
 ·have e1:decide ((i:Int) < -(2 ^ 63:Int))=false:=wm (by omega)
  have e2:decide ((i:Int)≥2 ^ 63)=false:=wm (by omega)
  rw [e1,e2,Ae]
 ·rw [PySem.StrLaws.seqIndex_nonneg (by omega) (by omega)]
  simpa using hx
 try dsimp only
 refine we (Aj ho hd (x:=rawInt (i:Int)) rfl ?_)
 show wpAny _ _ (setField (.ref it) 1 (rawInt ((i:Int) - 1)) >>= _) _ _ _
 refine we (AI ho hd (by simp) ?_)
 refine wJ ⟨_,rfl,wJ (hQ _ _ _ ?_ (zR ..))⟩
 exact ⟨_,yV _ ho (Obj.isFreed_of_fields (zi hd _)),(Obj.cls_mapFields ..).trans hc,by
  rw [zi hd];simp⟩
theorem gK {it:Addr}{Q:Option Value→Shared→Prop}(hh:A.handled=none)(hit:s.heap.IsRvs it x t (-1))
  (hQ:∀ h',(∀ b o,b≠it→s.heap.get? b=some o→h'.get? b=some o)→Q none { s with heap:=h' }):wpAny (model prog w) A (pyNext (.ref it)) Q E s:=by
 obtain ⟨o,ho,hc,hd⟩:=id hit
 unfold pyNext
 refine we (Ai (wpAny_callSpecial?_slot (name:=Str.ofString "__next__") hit.typeIs F.slot_rvs_next
  (zd F.slot_rvs_next hit.typeIs F.entry_rvs_next ?_ (F.args_rvs_next _))))
 unfold Builtin.«reversed.__next__»
 refine we (zQ (a:=(Value.ref it,[])) rfl ?_)
 try dsimp only
 refine we (Aj ho hd (x:=.str x t) rfl ?_)
 refine we (Aj ho hd (x:=rawInt (-1)) rfl ?_)
 show wpAny _ _ (if (-1:Int) < 0 then _ else _) _ _ s
 rw [if_pos (by decide)]
 refine we (yC ?_)
 refine we ?_
 show wpAny _ _ (setField (.ref it) 1 (rawInt (-1)) >>= fun _=>setField (.ref it) 0 .none) _ _ s
 refine we (AI ho hd (by simp) ?_)
 have ho2:=yV (Obj.mapFields fun a=>a.setIfInBounds 1 (rawInt (-1))) ho (Obj.isFreed_of_fields (zi hd _))
 have hd2:=zi hd fun a=>a.setIfInBounds 1 (rawInt (-1))
 refine AI ho2 hd2 (by simp) ?_
 generalize hh2:(s.heap.update it _).update it _=h2
 have kk:∀ b o,b≠it→s.heap.get? b=some o→h2.get? b=some o:=fun b o hb e=>by
  rw [← hh2]
  exact (xA _ _ (Ne.symm hb)).trans ((xA _ _ (Ne.symm hb)).trans e)
 have hz:A.in1.handled=none:=hh
 have sub:=isSubtype_stop
 repeat (any_goals (first | assumption | wp_step))
 unfold raiseNew
 refine we (wpAny_handled ?_)
 rw [hz]
 refine we (wJ (wpAny_throw ?_))
 refine we (wpAny_isInstance (T:="StopIteration") (b:=true) ?_ sub (wJ (hQ _ fun b o hb e=>?_)))
 ·exact ⟨_,wK _ rfl,rfl⟩
 exact wg _ (wg _ (kk b o hb e))
theorem kE (hh:A.handled=none)(it:Addr)(x:Str)(t:Tok)(h63:(x.cps.size:Int) < 2 ^ 63) :
  Walks prog w A it [it] [it] x.cps.size (fun i v=>∃ c u,x.cps[x.cps.size - 1 - i]? = some c∧v = .str ⟨#[c]⟩ u) (fun i h=>i≤x.cps.size∧h.IsRvs it x t ((x.cps.size:Int) - 1 - (i:Int))) where
 sub:=fun _ hb=>hb
 frame:=fun _ _ _ st hk=>let ⟨l,o,ho,r⟩:=st;⟨l,o,hk it (by simp) o ho,r⟩
 item:=fun i s Q E hi y hQ=>by
  have e:(x.cps.size:Int) - 1 - (i:Int)=((x.cps.size - 1 - i:Nat):Int):=by omega
  have hit:=y.2
  rw [e] at hit
  have hx:x.cps[x.cps.size - 1 - i]? = some (x.cps[x.cps.size - 1 - i]'(by omega)):=Array.getElem?_eq_getElem (by omega)
  refine fG hit hx (by omega) fun h' tk u hit' hs'=>?_
  have e2:((x.cps.size - 1 - i:Nat):Int) - 1=(x.cps.size:Int) - 1 - ((i+1:Nat):Int):=by omega
  rw [e2] at hit'
  exact hQ _ h' tk ⟨_,u,hx,rfl⟩ ⟨hi,hit'⟩ fun b o hb eo=>hs'.extBut b o (fun h=>hb (by simp [h])) eo
 done:=fun s Q E y hQ=>by
  have e:(x.cps.size:Int) - 1 - (x.cps.size:Int) = -1:=by omega
  have hit:=y.2
  rw [e] at hit
  exact gK hh hit fun h' he'=>hQ h' s.toks fun b o hb eo=>he' b o (fun h=>hb (by simp [h])) eo
 self:=fun _ _ _ _ y hQ=>fF y.2 hQ
end
end PySem
namespace L2
open PySem PySem.Spec PyProof.Rows
def ug (z:Str):It:=⟨fun i _=>i < z.cps.size,fun i H x H'=>H'=H∧∃ c,z.cps[z.cps.size - 1 - i]? = some c∧x = .str ⟨#[c]⟩,fun i _=>i=z.cps.size⟩
section
variable {X:Cx} {tg:Expr}
def uh (ta:TA):TI:=fun σ H R=>ta σ H fun vs H1=>∃ z,vs=[.str z]∧z.length≤sizeLine∧R (ug z) H1
theorem o8 {a:Expr}{ta:TA}{p pos:Pos}(hg:Gl X "reversed")(hm:X.mg "reversed" = none)(hb:bootBuiltins "reversed" = some (.type "reversed"))(ha:PA X [a] ta)(hs:starEach [a] X.env=[(false,eval a X.env)]:=by rfl) :
  PI X tg (.Call (.Name "reversed" p) [a] [] pos) (uh ta):=by
 intro Bp s σ H R I h
 refine Call_ (gr I hg hm hb (yp (thn (ha pos Bp s σ H _ I h) fun us s1 zq1=>?_) hs rfl))
 obtain ⟨vs,H1,I1,r1,q1⟩:=zq1
 obtain ⟨z,rfl,hz,q⟩:=q1
 obtain ⟨u,rfl,t,rfl⟩:=cN r1
 have hn:=c8
 have hsz:z.cps.size=z.length:=rfl
 refine gJ (by omega) fun tk=>?_
 have hit:Heap.IsRvs (s1.heap.push { cls:=.type "reversed",data:=.fields #[.str z t,rawInt ((z.length:Int) - 1)] }) s1.heap.objs.size z t ((z.length:Int) - 1):=⟨_,wK _ rfl,rfl,rfl⟩
 refine fF (s:={ s1 with heap:=s1.heap.push { cls:=.type "reversed",data:=.fields #[.str z t,rawInt ((z.length:Int) - 1)] },toks:=tk }) hit ?_
 refine ⟨s1.heap.objs.size,[s1.heap.objs.size],_,ug z,H1,rfl,I1.kept (t':=tk) fun b o e=>wg _ e,
  bZ (T:="reversed") (fl:=fun i=>#[.str z t,rawInt ((z.cps.size:Int) - 1 - (i:Int))]) (fun A hh=>kE hh _ z t (by omega)) (fun i h st=>st.2) (by decide) (fun i H g=>g) (fun i H g=>g)
   (fun i H u _ ⟨c,t',e,eu⟩=>⟨.str ⟨#[c]⟩,⟨t',eu⟩,rfl,c,e,rfl⟩) (fun A i s Q E st h=>fF st.2 h),⟨xv _,by simpa [hsz] using hit⟩,fun b hb=>?_,q⟩
 have e:b=s1.heap.objs.size:=by simpa using hb
 subst e
 exact I1.fpOk (wu _) (I1.hok.fresh (wu _))
structure DTx (K:PySem.W.Frag) (w:World) (a:Addr):Prop where
 ob:∃ (es:Array DictEntry) (n:Nat),K.lookup a=some ⟨.type "dict",none,.dict es n,#[]⟩∧PySem.W.KeysLit w.params es.toList
theorem mS {a:Addr}(D:DTx X.K X.w a):IxR X (fun x y H Q=>∃ z z' t,x = .ref a∧y = .str z∧PySem.W.nsIn X.K a z=some (some (.str z' t))∧Q (.str z') H):=by
 intro value slice Bp s σ H x y v u Q I rx ry h hs
 obtain ⟨z,z',t',rfl,rfl,e,q⟩:=h
 cases rx
 obtain ⟨t,rfl⟩:=ry
 obtain ⟨es,n,hl,hk⟩:=D.ob
 obtain ⟨m,F⟩:=I.fr
 exact PySem.W.topItem_K F I.ok.mod.kin hl hk e ⟨.str z',H,I.tok _,⟨_,rfl⟩,q⟩ hs
def mT (K:PySem.W.Frag)(a:Addr)(Q:VK):V→Hp→Prop:=fun y H1=>∃ z z' t,y = .str z∧PySem.W.nsIn K a z=some (some (.str z' t))∧Q (.str z') H1
def uk (K:PySem.W.Frag)(a:Addr)(ti:TE):TE:=fun σ H Q=>ti σ H (mT K a Q)
theorem o9 {K:PySem.W.Frag}{w:World}{a:Addr}{x:Str}{i:Expr}{ti:TE}{p pos:Pos}(D:DTx K w a)(hK:X.K=K)(hw:X.w=w)(hg:Gl X x)(hm:X.mg x=some (.ref a))(hi:PE X i ti)(hs:km i)
  (hd:(x == ("__debug__":Str))=false:=by decide):PE X (.Subscript (.Name x p) i pos) (uk K a ti):=by
 subst hK hw
 intro Bp s σ H Q I h
 refine Subscript_ (jX I hg hm (thn (hi Bp s σ H _ I h) fun u s2 zq2=>?_) hd)
 obtain ⟨y,H2,I2,ry,z,z',t',e1,e2,q⟩:=zq2
 exact mS D _ _ Bp s2 σ H2 (.ref a) y (.ref a) u Q I2 rfl ry ⟨z,z',t',rfl,e1,e2,q⟩ (hs _ _)
end
end L2
namespace Wd
abbrev L:=Fin 12
def inv (x:L):L:=if h:x.val < 6 then ⟨x.val+6,by omega⟩ else ⟨x.val - 6,by omega⟩
theorem bQ:∀ x:L,inv (inv x)=x:=by decide
theorem gL:∀ x:L,inv x≠x:=by decide
def bk (w:List L):List L:=(w.map inv).reverse
theorem um (w:List L):bk (bk w)=w:=by
 unfold bk
 rw [List.map_reverse,List.reverse_reverse,xT]
 have:(inv ∘ inv)=id:=funext fun x=>bQ x
 rw [this,List.map_id]
theorem bS (w:List L):(bk w).length=w.length:=by simp [bk]
theorem cq (x:L):bk [x]=[inv x]:=rfl
def push (st:List L)(x:L):List L:=match st with
 | []=>[x]
 | y::r=>if y=inv x then r else x::y::r
def Rd:List L→Prop
 | []=>True
 | [_]=>True
 | x::y::r=>y≠inv x∧Rd (y::r)
theorem Rd.tail:∀ {x:L} {r:List L},Rd (x::r)→Rd r
 | _,[],_=>trivial
 | _,_::_,h=>h.2
def rep:Nat→List L→List L
 | 0,_=>[]
 | n+1,w=>rep n w++w
theorem fH (w:List L):∀ n,rep n w++w=w++rep n w
 | 0=>by simp [rep]
 | n+1=>by
  show (rep n w++w)++w=w++(rep n w++w)
  rw [← wt,← fH w n]
theorem bT (w:List L):∀ n,(rep n w).length=n*w.length
 | 0=>by simp [rep]
 | n+1=>by
  show (rep n w++w).length=_
  rw [wj,bT w n,Nat.succ_mul]
def pw (w:List L)(n:Int):List L:=rep n.natAbs (if n < 0 then bk w else w)
end Wd
namespace L2
open PySem PySem.Spec PyProof.Rows Wd
def cp (x:L):Nat:=if x.val < 6 then 97+x.val else 59+x.val
theorem o_:∀ x:L,cp x < 128:=by decide
theorem rK:∀ x y:L,cp x=cp y→x=y:=by decide
def toS (w:List L):Str:=⟨(w.map cp).toArray⟩
def tx (w:List L):V:=.str (toS w)
theorem bR (w:List L):(toS w).cps.toList=w.map cp:=by simp [toS]
theorem ae (w:List L):(toS w).length=w.length:=by simp [toS,Str.length]
theorem bh (w:List L):(toS w).cps.size=w.length:=by simp [toS]
theorem e_ (u v:List L):toS u++toS v=toS (u++v):=by
 apply Str.ext'
 rw [Str.cps_append]
 simp [toS]
theorem dE:∀ {u v:List L},u.map cp=v.map cp→u=v
 | [],[],_=>rfl
 | [],_::_,h=>by simp at h
 | _::_,[],h=>by simp at h
 | x::u,y::v,h=>by
  simp only [xX,zj] at h
  rw [rK x y h.1,dE h.2]
theorem ie {u v:List L}(h:toS u=toS v):u=v:=by
 have:(toS u).cps.toList=(toS v).cps.toList:=by rw [h]
 rw [bR,bR] at this
 exact dE this
theorem gM {u v:List L}(h:tx u=tx v):u=v:=ie (V.str.inj h)
theorem fc (u v:List L):decide (tx u=tx v)=decide (u=v):=by
 by_cases h:u=v
 ·subst h;simp
 ·rw [wm h,wm fun e=>h (gM e)]
theorem rL:toS [0,1,2,3,4,5]=("abcdef":Str):=by decide +kernel
theorem big:toS [6,7,8,9,10,11]=("ABCDEF":Str):=by decide +kernel
theorem c5 {w:List L}{i c:Nat}(h:(toS w).cps[i]? = some c):∃ x,w[i]? = some x∧(⟨#[c]⟩:Str)=toS [x]:=by
 have h:((w.map cp).toArray)[i]? = some c:=h
 rw [zC,xj] at h
 cases e:w[i]? with
 | none=>rw [e] at h;cases h
 | some x =>
  rw [e] at h
  have:cp x=c:=wA h
  exact ⟨x,rfl,by rw [← this];rfl⟩
theorem b7 {w:List L}{k:Nat}{x:L}{i:Int}(hk:i=(k:Int))(h:w[k]? = some x):atI (toS w).cps.toList i=some (cp x):=by
 subst hk
 rw [bR]
 obtain ⟨hl,e⟩:=wo.mp h
 unfold atI ixN
 rw [if_pos (by omega),if_pos (by rw [wq];omega)]
 show (w.map cp)[((k:Nat):Int).toNat]? = _
 rw [xE,xj,h]
 rfl
def mU (w:List L)(lo hi:Option Int):List L:=(w.drop (HT.sIx w.length 0 lo)).take (HT.sIx w.length w.length hi - HT.sIx w.length 0 lo)
theorem pb (lo hi:Option Int)(n:Nat):Builtin.Str.strSliceIndices lo hi 1 n=(List.range (HT.sIx n n hi - HT.sIx n 0 lo)).map (fun k=>HT.sIx n 0 lo+k):=by
 have cl:∀ v:Int,max (0:Int) (min (if v < 0 then v+(n:Int) else v) (n:Int))=(((if v < 0 then (v+(n:Int)).toNat else min v.toNat n):Nat):Int):=fun v=>by
  by_cases hv:v < 0
  ·simp only [if_pos hv];omega
  ·simp only [if_neg hv];omega
 have fin:∀ a b:Nat,sliceRange (a:Int) (b:Int) 1=(List.range (b - a)).map (fun k=>a+k):=fun a b=>by
  unfold sliceRange
  simp only [show ((1:Int) > 0)=True from by simp,yK]
  by_cases BA:(a:Int) < b
  ·have e3:(((b:Int) - a+1 - 1) / 1).toNat=b - a:=by first | omega | (simp;done) | (simp;omega)
   simp only [BA,yK,e3]
   exact List.map_congr_left fun k _=>by omega
  ·have:b - a=0:=by omega
   simp [BA,this]
 unfold Builtin.Str.strSliceIndices
 simp only [show ((1:Int) > 0)=True from by simp,yK]
 cases lo with
 | none =>
  cases hi with
  | none=>exact fin 0 n
  | some j=>simp only [cl];exact fin 0 _
 | some i =>
  cases hi with
  | none=>simp only [cl];exact fin _ n
  | some j=>simp only [cl];exact fin _ _
theorem aW (w:List L)(lo hi:Option Int):Txt.slice (toS w) lo hi=toS (mU w lo hi):=by
 have h1:=HT.n_ w.length 0 (xv _) lo
 have h2:=HT.n_ w.length w.length (wu _) hi
 unfold Txt.slice
 rw [pb,ae]
 split
 ·rename_i h
  have hl:HT.sIx w.length w.length hi - HT.sIx w.length 0 lo=w.length:=by simpa using h
  have e:mU w lo hi=w:=by
   unfold mU
   rw [hl]
   have ha:HT.sIx w.length 0 lo=0 ∨ w.length=0:=by omega
   rcases ha with ha | ha
   ·rw [ha,z8,ze]
   ·have:w=[]:=yN ha
    subst this
    simp
  rw [e]
 ·apply Str.ext'
  show (List.filterMap _ _).toArray=_
  have e:=StrLaws.picks (w.map cp) (HT.sIx w.length w.length hi - HT.sIx w.length 0 lo) (HT.sIx w.length 0 lo)
  by_cases hle:HT.sIx w.length 0 lo≤HT.sIx w.length w.length hi
  ·have e:=e (by rw [wq];omega)
   have e2:(fun k:Nat=>(toS w).cps[k]?)=fun k:Nat=>(w.map cp)[k]?:=funext fun k=>by simp [toS]
   rw [e2,e]
   simp [toS,mU,List.map_take,List.map_drop]
  ·have z:HT.sIx w.length w.length hi - HT.sIx w.length 0 lo=0:=by omega
   rw [z]
   simp [toS,mU,z]
theorem cW (w:List L){n:Int}(h:0≤n):mU w none (some n)=w.take n.toNat:=by
 obtain ⟨k,rfl⟩:=xK h
 unfold mU
 rw [HT.fq,HT.eA,z8,Nat.sub_zero,xE]
 by_cases hk:k≤w.length
 ·rw [Nat.min_eq_left hk]
 ·rw [Nat.min_eq_right (by omega),ze,xm (by omega)]
theorem dU (w:List L){n:Int}(h:0≤n):mU w (some n) none=w.drop n.toNat:=by
 obtain ⟨k,rfl⟩:=xK h
 unfold mU
 rw [HT.fq,HT.eA,xE]
 by_cases hk:k≤w.length
 ·rw [Nat.min_eq_left hk,xm (by rw [xB];omega)]
 ·rw [Nat.min_eq_right (by omega),As,List.drop_eq_nil_of_le (by omega)]
  simp
theorem kF (w:List L):Txt.upper (toS w)=⟨((w.map cp).map up1).toArray⟩:=by
 rw [upper_ascii fun c hc=>by rw [bR] at hc;obtain ⟨x,_,rfl⟩:=xY.mp hc;exact o_ x]
 simp [toS]
theorem kG (w:List L):Txt.lower (toS w)=⟨((w.map cp).map lo1).toArray⟩:=by
 rw [lower_ascii fun c hc=>by rw [bR] at hc;obtain ⟨x,_,rfl⟩:=xY.mp hc;exact o_ x]
 simp [toS]
theorem uo:∀ x:L,x.val < 6→up1 (cp x)=cp (inv x):=by decide
theorem uq:∀ x:L,¬ x.val < 6→lo1 (cp x)=cp (inv x):=by decide
theorem kH {x:L}(h:x.val < 6):Txt.upper (toS [x])=toS [inv x]:=by
 rw [kF]
 show (⟨#[up1 (cp x)]⟩:Str)=⟨#[cp (inv x)]⟩
 rw [uo x h]
theorem kI {x:L}(h:¬ x.val < 6):Txt.lower (toS [x])=toS [inv x]:=by
 rw [kG]
 show (⟨#[lo1 (cp x)]⟩:Str)=⟨#[cp (inv x)]⟩
 rw [uq x h]
theorem mV:∀ w:List L,Txt.join ("":Str) (w.map fun x=>toS [x])=toS w:=by
 intro w
 have e0:("":Str)=Str.empty:=by decide +kernel
 unfold Txt.join
 rw [StrLaws.glued_eq_join,e0]
 induction w with
 | nil=>rfl
 | cons x r ih =>
  cases r with
  | nil=>rfl
  | cons y r =>
   show toS [x]++Str.empty++Str.join Str.empty ((y::r).map fun x=>toS [x])=_
   rw [ih,Str.append_empty,e_]
   rfl
theorem pe (w:List L):((w.map fun x=>toS [x]).map (·.length)).sum=w.length:=by
 induction w with
 | nil=>rfl
 | cons x r ih =>
  simp only [xX,List.sum_cons,xu]
  rw [ih,ae]
  simp only [yW]
  omega
theorem dP (w:List L):∀ (n:Nat) (acc:Array Nat),(List.replicate n (toS w).cps).foldl (· ++ ·) acc=acc++((rep n w).map cp).toArray
 | 0,acc=>by simp [rep]
 | n+1,acc=>by
  rw [List.replicate_succ,List.foldl_cons,dP w n]
  show _=acc++((rep n w++w).map cp).toArray
  rw [fH]
  simp [toS]
theorem kJ:∀ n,rep n ([]:List L)=[]
 | 0=>rfl
 | n+1=>by show rep n []++[]=[];rw [kJ n];rfl
theorem fI (w:List L)(n:Int):Txt.mul (toS w) n=toS (rep n.toNat w):=by
 unfold Txt.mul
 by_cases h1:n < 1
 ·rw [if_pos h1]
  have:n.toNat=0:=by omega
  rw [this]
  rfl
 ·rw [if_neg h1]
  split
  ·rename_i h
   rw [ae] at h
   simp only [Bool.or_eq_true,AN] at h
   rcases h with h | h
   ·subst h
    show toS w=toS (rep 1 w)
    show toS w=toS ([]++w)
    rfl
   ·have:w=[]:=yN h
    subst this
    rw [kJ]
  ·apply Str.ext'
   show (List.replicate n.toNat (toS w).cps).foldl (· ++ ·) #[]=_
   rw [dP]
   simp [toS]
theorem da (w:List L){n:Int}(h1:-1000000≤n)(h2:n≤1000)(hw:w.length≤10000):MulOk (toS w) n:=by
 refine ⟨?_,fun hn _=>?_,fun hn _=>?_⟩
 ·have e1:decide (n < -(2 ^ 63:Int))=false:=wm (by omega)
  have e2:decide (n≥2 ^ 63)=false:=wm (by omega)
  rw [e1,e2,Ae]
 ·rw [ae]
  have hn1:1≤n:=by omega
  have q:(9223372036854775:Int)≤(2 ^ 63 - 1) / n:=by
   rw [Int.le_ediv_iff_mul_le (by omega)]
   omega
  omega
 ·rw [ae]
  unfold Builtin.Str.tooLong
  have e:sizeLine=16777216:=Ad
  obtain ⟨k,rfl⟩:=xK (show 0≤n by omega)
  have hk:k≤1000:=by omega
  rw [xE]
  have q:w.length*k≤10000*1000:=Nat.mul_le_mul hw hk
  exact wm (by omega)
structure Fnc (P:Program) (w:World) (K:PySem.W.Frag) (mg:Str→Option Value) (base:Heap) (x:Str) (ps:List Str) (k:Nat) (sp:Sp):Prop where
 ex:∃ (f:Addr) (fd:FuncData),mg x=some (.ref f)∧PySem.W.keepIn K (.ref f)=true∧jA K fd ps []∧mz P w K mg base CX0 k f fd ps sp
theorem au {X:Cx}{x:Str}{ps:List Str}{k j:Nat}{sp:Sp}{e:Expr}{es:List Expr}{t:TA}{p pos:Pos}(F:Fnc X.prog X.w X.K X.mg X.base x ps j sp)(hr:eZ k X.A)(hj:j≤k)(hg:Gl X x)(ha:PA X (e::es) t)
  (hdb:(x == ("__debug__":Str))=false:=by decide) (he:starEach (e::es) X.env=(false,eval e X.env)::starEach es X.env:=by rfl) (hpl:(backTo pos (starEach es X.env)).any (·.1)=false:=by rfl) :
  PE X (.Call (.Name x p) (e::es) [] pos) (rk sp [] E0 t):=by
 obtain ⟨f,fd,hm,hk,hb,F⟩:=F.ex
 exact oX F (hr.mono hj) hg hm hk hb .nil ue ha hdb he hpl
structure Df (K:PySem.W.Frag) (mg:Str→Option Value) (x:Str) (st:Stmt):Prop where
 ex:∃ (f:Addr) (fd:FuncData),mg x=some (.ref f)∧Fun K x x st f fd
theorem Df.ok {P:Program}{w:World}{K:PySem.W.Frag}{mg:Str→Option Value}{base:Heap}{x:Str}{st:Stmt}{N ps:List Str}{k:Nat}{sp:Sp}(D:Df K mg x st)(S:aG N ps (ak st))
  (hb:∀ (kV doc pm:Value) (an:Option Addr) (Bx ct:Value) (us:List Value),us.length=ps.length→bindArgs (PySem.W.fnOf x x (bP st) (bA st) (ak st) .none kV doc pm an Bx ct) ⟨us,[]⟩=pure (ps.zip us))
  (len:∀ vs H Q E,sp vs H Q E→vs.length=ps.length)
  (hbody:∀ (f:Addr) (Bx:Value) (A:Around) (outer:List Env) (s:Shared) (H:Hp) (vs:List V) (Q:VK) (E:XK),eZ k (A.deeper (envOfC x (ak st) s.heap.objs.size f Bx))→sp vs H Q E →
   ∃ t,PSs (oY CX0 P w K mg base N x (ak st) f Bx A outer s H E).nox (bA st) t∧t { nx:=fun _ H'=>Q .non H',rt:=Q } (start N vs) H):Fnc P w K mg base x ps (k+1) sp:=by
 obtain ⟨f,fd,hm,F⟩:=D.ex
 exact ⟨f,fd,hm,F.kp,F.binds hb,F.ok S len fun Bx A outer s H vs Q E hr h=>hbody f Bx A outer s H vs Q E hr h⟩
def bq (d:Addr)(H H':Hp):Prop:=∀ b o,b≠d→H b=some o→H' b=some o
theorem bq.trans {d:Addr}{H H1 H2:Hp}(a:bq d H H1)(b:bq d H1 H2):bq d H H2:=fun c o n h=>b c o n (a c o n h)
theorem aA.b {d:Addr}{H H':Hp}(a:aA H H'):bq d H H':=fun b o _ h=>a b o h
theorem aA.new {H:Hp}{a:Addr}{o:HO}(h:H a=none):aA H (upd H a o):=fun b u e=>by rw [aP (aC e h)]; exact e
theorem bq.upd {d:Addr}{H:Hp}{o:HO}:bq d H (upd H d o):=fun b u n e=>by rw [aP n]; exact e
theorem aA.then {H H1:Hp}{a:Addr}{o:HO}(s:aA H H1)(h:H1 a=none):aA H (L2.upd H1 a o):=s.trans (aA.new h)
def kS (x:Str):Key:=.inr x
theorem ph {ns:List Int}(h:ns≠[])(i:Int):∃ n:Int,atI (ns.map V.int) (i % ((ns.map V.int).length:Int))=some (.int n):=by
 have hl:0 < ns.length:=xf.mpr h
 rw [wq]
 have h0:=xP i (show (ns.length:Int)≠0 by omega)
 have h1:=xC i (show (0:Int) < ns.length by omega)
 obtain ⟨k,hk⟩:=xK h0
 rw [hk] at h1 ⊢
 have hk':k < ns.length:=by omega
 refine ⟨ns[k],?_⟩
 unfold atI ixN
 rw [if_pos (by omega),if_pos (by rw [wq];omega)]
 show (ns.map V.int)[((k:Nat):Int).toNat]? = _
 rw [xE,xj,fu hk']
 rfl
mutual
inductive Dt (H:Hp):V→PyData→Prop where
 | non:Dt H .non .none
 | bl (b:Bool):Dt H (.bl b) (.bool b)
 | int (i:Int):Dt H (.int i) (.int i)
 | str (x:Str):Dt H (.str x) (.str x)
 | lst {a:Addr} {xs:List V} {ds:List PyData}:H a=some (.lst xs)→Dts H xs ds→Dt H (.ref a) (.list ds)
 | tup {a:Addr} {xs:List V} {ds:List PyData}:H a=some (.tup xs)→Dts H xs ds→Dt H (.ref a) (.tuple ds)
inductive Dts (H:Hp):List V→List PyData→Prop where
 | nil:Dts H [] []
 | cons {v:V} {d:PyData} {vs:List V} {ds:List PyData}:Dt H v d→Dts H vs ds→Dts H (v::vs) (d::ds)
end
section
variable {P:Program} {w:World} {H:Hp} {h:Heap}
mutual
theorem Dt.reads (ok:HOk P w H h):∀ {v:V} {d:PyData},Dt H v d→∀ {u:Value},bB v u→∃ as,Reads h u d as
 | _,_,.non,u,r=>by cases r;exact ⟨_,.none⟩
 | _,_,.bl b,u,r=>by cases r;exact ⟨_,.bool b⟩
 | _,_,.int i,u,r=>by obtain ⟨t,rfl⟩:=r;exact ⟨_,.int i t⟩
 | _,_,.str x,u,r=>by obtain ⟨t,rfl⟩:=r;exact ⟨_,.str x t⟩
 | _,_,.lst e q,u,r=>by
  cases r
  obtain ⟨_,Br,n,rv,g⟩:=ok _ _ e
  obtain ⟨as,ra⟩:=Dts.reads ok q rv
  exact ⟨_,.list g rfl rfl (by simpa using ra)⟩
 | _,_,.tup e q,u,r=>by
  cases r
  obtain ⟨_,Br,rv,⟨ob,g,c,n,d⟩,_⟩:=ok _ _ e
  obtain ⟨as,ra⟩:=Dts.reads ok q rv
  exact ⟨_,.tuple g c d (by simpa using ra)⟩
theorem Dts.reads (ok:HOk P w H h):∀ {vs:List V} {ds:List PyData},Dts H vs ds→∀ {us:List Value},bg vs us→∃ as,ReadsAll h us ds as
 | _,_,.nil,_,r=>by cases r;exact ⟨_,.nil⟩
 | _,_,.cons q qs,_,r=>by
  cases r with
  | cons r rs =>
   obtain ⟨as,a1⟩:=Dt.reads ok q r
   obtain ⟨bs,a2⟩:=Dts.reads ok qs rs
   exact ⟨_,.cons a1 a2⟩
end
end
structure Sh (d:PyData):Prop where
 sh:d.showable=true
 nd:d.hasDict=false
 dp:d.depth≤10
 sz:d.shown.length≤sizeLine
section
variable {X:Cx}
inductive cu  (xs:List V)(H:Hp)(Q:VK):Prop
 | mk:∀ a d,(xs=[.ref a])→(Dt H (.ref a) d)→(Sh d)→(Q (.str d.shown) H)→cu xs H Q
theorem de (hg:X.A.guards=some [])(hu:X.A.units+64 < cLine):cZ X (.builtin "repr") cu:=by
 intro Bp s σ H xs us Q I r h
 obtain ⟨a,d,rfl,q,S,hQ⟩:=h
 obtain ⟨u,rfl,ru⟩:=cN r
 cases ru
 obtain ⟨as,rd⟩:=q.reads I.hok (u:=.ref a) rfl
 refine repr_of_reads' rd S.sh (PyData.noDict_hsm S.nd) hg (by have:=S.dp;omega) (fun _ _ e=>e) (fun h' u tk hk=>?_) S.sz
 exact ⟨.str _,H,I.kept hk,⟨_,rfl⟩,hQ⟩
end
end L2
namespace Kx
open PySem PySem.Spec PyProof.Rows L2 Wd
theorem oo:bootBuiltins "list" = some (.type "list"):=by kernel_rfl
theorem rM:bootBuiltins "int" = some (.type "int"):=by kernel_rfl
theorem ur:bootBuiltins "max" = some (.builtin "max"):=by kernel_rfl
theorem oq:bootBuiltins "repr" = some (.builtin "repr"):=by kernel_rfl
theorem uu:bootBuiltins "min" = some (.builtin "min"):=by kernel_rfl
theorem i6:bootBuiltins "sorted" = some (.builtin "sorted"):=by kernel_rfl
theorem ig:bootBuiltins "tuple" = some (.type "tuple"):=by kernel_rfl
theorem jD:bootBuiltins "reversed" = some (.type "reversed"):=by kernel_rfl
structure Bt (K:PySem.W.Frag) (w:World) (mg:Str→Option Value) (aB:Addr):Prop where
 len:mg "len" = none
 repr:mg "repr" = none
 abs:mg "abs" = none
 max:mg "max" = none
 int:mg "int" = none
 list:mg "list" = none
 range:mg "range" = none
 reversed:mg "reversed" = none
 min:mg "min" = none
 sorted:mg "sorted" = none
 tuple:mg "tuple" = none
 isinstance:mg "isinstance" = none
 all:mg "all" = none
 str:mg "str" = none
 zip:mg "zip" = none
 mgB:mg "BACKS" = some (.ref aB)
 dB:DTx K w aB
 gB:∀ x:L,∃ t,PySem.W.nsIn K aB (toS [x])=some (some (.str (toS [inv x]) t))
theorem dp {H:Hp}{d:Addr}{BB kvs':List (Key × V)}{k:Str}{v:V}(h:H d=some (.dK BB))(hl:BB.length < sizeLine)(e:tH BB (kS k) v=kvs'):tI H d (.str k) v (upd H d (.dK kvs')):=by
 have q:=tI.k (k:=kS k) (v:=v) h hl
 rw [e] at q
 exact q
theorem uv {ns:List Int}(h:ns.length≤63):g_ (ns.map V.int) none (some 63)=ns.map V.int:=by
 unfold g_
 have e:HT.sIx (ns.map V.int).length (ns.map V.int).length (some 63)=(ns.map V.int).length:=by
  have:=HT.eA (ns.map V.int).length (ns.map V.int).length 63
  rw [show ((63:Nat):Int)=63 from rfl] at this
  rw [this,wq]
  omega
 rw [e,HT.fq,z8,Nat.sub_zero,ze]
def bo (w:List L):List V:=w.map fun x=>tx [x]
theorem b8 (w:List L):bo w=(w.map fun x=>toS [x]).map V.str:=by unfold bo; rw [xT]; rfl
theorem bu (w:List L)(x:L):bo w++[tx [x]]=bo (w++[x]):=by unfold bo; rw [xr]; rfl
theorem aK (w:List L):(bo w).length=w.length:=by unfold bo; rw [wq]
theorem bJ (w:List L):V.str (Txt.join ("":Str) (w.map fun x=>toS [x]))=tx w:=wR V.str (mV w)
theorem bK (w:List L)(h:w.length≤1000000):((w.map fun x=>toS [x]).map (·.length)).sum+(w.map fun x=>toS [x]).length*("":Str).length≤16777216:=by
 have e:("":Str).length=0:=by decide +kernel
 rw [e,pe]
 omega
theorem aX:sizeLine=16777216:=Ad
inductive i7 (vs:List V)(H:Hp)(Q:VK)(BC:XK):Prop
 | mk:∀ w,(vs=[tx w])→(w.length≤5000)→(∀ H',aA H H'→Q (tx (bk w)) H')→i7 vs H Q BC
theorem cv (u v:List L):V.str (toS u++toS v)=tx (u++v):=wR V.str (e_ u v)
def sg (m:Int):List L:=([0,1,2,3,4,5]:List L).take m.toNat++([6,7,8,9,10,11]:List L).take m.toNat
theorem eF {m:Int}(h1:1≤m)(h2:m≤6):(sg m).length=2*m.toNat:=by
 unfold sg
 rw [wj,wD,wD]
 simp only [xu,x8]
 omega
theorem fJ {m:Int}(h1:1≤m):V.str (Txt.slice ("abcdef":Str) none (some m)++Txt.slice ("ABCDEF":Str) none (some m))=tx (sg m):=by
 rw [← rL,← big,aW,aW,cW _ (by omega),cW _ (by omega),cv]
 rfl
theorem eG:("abcdef":Str).length=6:=by decide +kernel
theorem eH:("ABCDEF":Str).length=6:=by decide +kernel
theorem ou (u:List L){i:Nat}{y:L}(hi:i < u.length)(h:u[u.length - 1 - i]? = some y):(bk u)[i]? = some (inv y):=by
 unfold bk
 rw [zD (by rw [wq];exact hi),wq,xj,h]
 rfl
theorem cw {u:List L}{i:Nat}{x:L}(h:u[i]? = some x):u.take (i+1)=u.take i++[x]:=by
 obtain ⟨hl,e⟩:=wo.mp h
 rw [y6,h]
 rfl
theorem i8 {c:Bool}{A B:Prop}(hc:c=true)(h:A):if c=true then A else B:=by rw [if_pos hc]; exact h
theorem i9 {c:Bool}{A B:Prop}(hc:c=false)(h:B):if c=true then A else B:=by rw [hc]; exact mQ h
theorem sm6:∀ j:Fin 6,([0,1,2,3,4,5]:List L)[j.val]? = some ⟨j.val,Nat.lt_trans j.isLt (by decide)⟩:=by decide
end Kx
namespace L2
open PySem PySem.Spec PyProof.Rows Wd
section
variable {X:Cx} {tg:Expr}
end
section
variable {X:Cx} {o e:Expr} {es:List Expr} {to:TE} {t:TA} {name:Str} {apos BH:Pos} {T id:String} {r:V→List V→Hp→VK→Prop} {K:PySem.W.Frag}
theorem fK (hK:X.K=K)(pa:PlainAttrs T)(slot:Slot T name id)(hty:typeOf (.builtin id)=pure (.type "method_descriptor"))(hm:MtR X id r)(ho:PE X o to)
  (B0:attributeBase o name X.env (eval o X.env)=eval o X.env:=by rfl) (BZ:(apos.endLine == BH.line)=true:=by rfl):PE X (.Call (.Attribute o name apos) [] [] BH) (vg K T r to):=by
 subst hK
 exact og pa slot hty hm ho B0 BZ
theorem rN (hK:X.K=K)(pa:PlainAttrs T)(slot:Slot T name id)(hty:typeOf (.builtin id)=pure (.type "method_descriptor"))(hm:MtR X id r)(ho:PE X o to)(ha:PA X (e::es) t)
  (B0:attributeBase o name X.env (eval o X.env)=eval o X.env:=by rfl)
  (hfew:((backTo BH (starEach (e::es) X.env)).all (fun x=>!x.1) && (backToKw BH (keywordEach [] X.env)).all (fun x=>x.1.isSome)
   && decide ((e::es).length+([]:List Keyword).length+(if ([]:List Keyword).isEmpty then 0 else 1) < 30))=true:=by rfl)
  (BZ:(apos.endLine == BH.line)=true:=by rfl) (hs:starEach (e::es) X.env=(false,eval e X.env)::starEach es X.env:=by rfl) (hplain:(backTo BH (starEach es X.env)).any (·.1)=false:=by rfl) :
  PE X (.Call (.Attribute o name apos) (e::es) [] BH) (tBM K T r to t):=by
 subst hK
 exact bH pa slot hty hm ho ha B0 hfew BZ hs hplain
end
section
variable {X:Cx}
inductive ow (x:V)(y:V)(H:Hp)(Q:VK):Prop
 | mk:∀ a b xs,(x = .ref a)→(y = .ref b)→(H a=some (.lst xs))→(H b=some (.lst []))→(Q (.bl xs.isEmpty) H)→ow x y H Q
theorem kK (hu:X.A.units+64 < cLine):OpR X (compareOp .Eq) ow:=by
 intro Bp s σ H x y v u Q I rx ry h
 obtain ⟨a,b,xs,rfl,rfl,ha,hb,q⟩:=h
 cases rx
 cases ry
 obtain ⟨Br,n,rv,ea,_⟩:=I.lst ha
 obtain ⟨BS,n2,rv2,eb,_⟩:=I.lst hb
 cases rv2
 have hla:s.heap.IsList a Br.toArray:=⟨_,ea,rfl,_,rfl⟩
 have hlb:s.heap.IsList b ([]:List Value).toArray:=⟨_,eb,rfl,_,rfl⟩
 cases xs with
 | nil =>
  cases rv
  refine EqBoolInt.of_rc (SeqAt.RcAt.lists (e:=fun _=>true) hla hlb rfl (by omega) (fun j hj=>by simp at hj)) ?_
  exact ⟨.bl true,H,I,rfl,q⟩
 | cons z r =>
  cases rv with
  | cons r1 r2 =>
   refine EqBoolInt.of_rc (SeqAt.RcAt.lists_lengths hla hlb (by simp) (by omega)) ?_
   exact ⟨.bl false,H,I,rfl,q⟩
inductive ox (x:V)(vs:List V)(H:Hp)(Q:VK):Prop
 | mk:∀ z y i rest,(x = .str z)→(vs=[.str y])→(Builtin.Str.occurrences z y 0 z.length 1=i::rest)→(Q (.int (i:Nat)) H)→ox x vs H Q
theorem dg:MtR X "str.index" ox:=by
 intro Bp s σ H x vs v us Q I rx rv h
 obtain ⟨z,y,i,rest,rfl,rfl,ho,q⟩:=h
 obtain ⟨t,rfl⟩:=rx
 obtain ⟨u1,rfl,⟨t1,rfl⟩⟩:=cN rv
 exact SC.index ho ⟨.int _,H,I.tok _,⟨_,rfl⟩,q⟩
def vQ (z:Str):List V:=z.cps.toList.map fun c=>.str ⟨#[c]⟩
end
end L2
namespace PySem
open Sem (wp)
section
variable {prog:Program} {w:World} {A:Around} {E:Value→Shared→Prop} {s:Shared} {z TI TO i1 i2:Addr} {x y:Str} {t u:Tok} {k c d:Nat} {a b:Value}
end
end PySem
namespace PySem
end PySem
namespace L2
open PySem PySem.Spec PyProof.Rows
section
variable {X:Cx}
end
end L2
namespace L2
open PySem PySem.Spec PyProof.Rows Wd
def kL:Expr→Bool
 | .Starred _ _=>false
 | _=>true
theorem pj {e:Expr}(h:kL e=true)(es:List Expr)(env:Env):starEach (e::es) env=(false,eval e env)::starEach es env:=by
 cases e <;> first | rfl | cases h
theorem eU {X:Cx}{e:Expr}{es:List Expr}{te:TE}{t:TA}(ha:PE X e te)(hr:PA X es t)(h:kL e=true:=by rfl):PA X (e::es) (rj te t):=aa ha hr (pj h _ _)
def uw:List Str:=([0,1,2,3,4,5,6,7,8,9,10,11]:List L).map fun x=>toS [x]
end L2
namespace Kx
open PySem PySem.Spec PyProof.Rows L2 Wd
theorem asc (u:List L):(toS u).cps.all (· < 128)=true:=by
 rw [← Array.all_toList,bR,zc]
 intro c hc
 obtain ⟨x,_,rfl⟩:=xY.mp hc
 exact wF (o_ x)
end Kx
namespace L2
open PySem PySem.Spec PyProof.Rows Wd
section
variable {X:Cx}
end
end L2
namespace Kx
open PySem PySem.Spec PyProof.Rows L2 Wd
theorem s12:toS [0,1,2,3,4,5,6,7,8,9,10,11]=("abcdefABCDEF":Str):=by decide +kernel
end Kx
namespace L2
open PySem PySem.Spec PyProof.Rows Wd
theorem gN {K:PySem.W.Frag}{a:Addr}{xs:List V}{own:List Str}{cap:List Nat}{g:TG}{ti:TT}{te:TE}{σ:St}{H:Hp}{Q:VK}(Pv:Nat→List V→St→Hp→Prop)(h0:Pv 0 [] (stB own cap σ) H)(hz:∀ i ys σ H,i≤xs.length→Pv i ys σ H→ys.length≤i)(hn:xs.length≤sizeLine)
  (hl:∀ i ys σ H,Pv i ys σ H→SqL K H a xs)
  (hs:∀ i ys σ H x (N:List V→St→Hp→Prop),xs[i]? = some x→Pv i ys σ H→(∀ ys' σ' H'',Pv (i+1) ys' σ' H''→N ys' σ' H'')→g x σ H fun σ2 H2=>ti σ2 H2 fun b H3=>if b=true then te σ2 H3 fun y H4=>N (ys++[y]) σ2 H4 else N ys σ2 H3)
  (hd:∀ ys σ H D,Pv xs.length ys σ H→H D=none→Q (.ref D) (upd H D (.lst ys))) :
  o5 own cap g ti te Q σ (Itl K a) H:=by
 refine bY (J:=Itl K a) xs.length Pv h0 hz hn (fun i ys σ H hi p=>⟨xs,xs[i],hl i ys σ H p,fu hi⟩) (fun ys σ H p=>⟨xs,hl _ ys σ H p,wu _⟩) ?_ hd
 rintro i ys σ H x H' N hi p ⟨rfl,hx⟩ hN
 exact hs i ys σ _ x N (hx xs (hl i ys σ _ p)) p hN
theorem mX {α β:Type}{xs:List α}{i:Nat}{x:α}(f:α→β)(h:xs[i]? = some x):(xs.take (i+1)).map f=(xs.take i).map f++[f x]:=by
 rw [y6,h,xr]
 rfl
theorem b9 {α:Type}{xs:List α}{i:Nat}{x:α}(f:α→Bool)(h:xs[i]? = some x):(xs.take (i+1)).filter f=(xs.take i).filter f++(if f x=true then [x] else []):=by
 rw [y6,h,List.filter_append]
 simp only [Option.toList,List.filter_cons,List.filter_nil]
theorem ux {X:Cx}{a:Expr}{ta:TE}(ha:PE X a ta)(he:∀ whole,isTrue a X.env whole=(do let v ← whole; standAt a.pos; holding [v] (truthy v))):PT X a (rg ta):=by
 intro Bp s σ H Q I h
 refine isTrue_plain (thn (ha Bp s σ H _ I h) fun v s1 ⟨x,H1,I1,r1,q1⟩=>kh Bp s1 σ H1 x v Q I1 r1 ?_) (he _)
 obtain ⟨k,e,q⟩:=q1
 subst e
 exact ⟨k,rfl,q⟩
theorem mY {c:TT}{tb:TS}{D:gq}{σ:St}{H:Hp}(W:Nat→St→Hp→Prop)(E:St→Hp→Prop)(h0:∃ m,W m σ H)
  (turn:∀ nx:St→Hp→Prop,(∀ σ H,E σ H→nx σ H)→∀ m σ H,W m σ H→c σ H fun b H1=>if b=true then ∃ N:St→Hp→Prop,(∀ σ' H',N σ' H'→∃ m',m' < m∧W m' σ' H')∧tb { D with nx:=N,ct:=N,bk:=nx } σ H1 else nx σ H1)
  (he:∀ σ H,E σ H→D.nx σ H):n6 c tb D σ H:=⟨W,h0,turn D.nx he⟩
theorem none_of {H H1:Hp}{a:Addr}(s:aA H H1)(h:H1 a=none):H a=none:=by
 cases e:H a with
 | none=>rfl
 | some o=>rw [s _ _ e] at h;cases h
end L2
namespace L2
open PySem PySem.Spec PyProof.Rows
theorem ij {X:Cx}{i:Nat}{y:Str}{py spos:Pos}{elt iter tg:Expr}{ifs:List Expr}{scope:Scope}{pos:Pos}{NB own:List Str}{cap:List Nat}{wi:TI}{g:TG}{ti:TT}{te:TE}(hN:X.N.Nodup)(hi0:X.N[i]? = some y)(hx:Loc X.env.scope y)(B:Blk X scope NB own cap)(hc:X.calm=true)(hi:PI X tg iter wi)
  (hg:∀ C fp s₀ H₀,PG (cxB X NB own scope C fp s₀ H₀) tg g) (ht:∀ C fp s₀ H₀,PIf (cxB X NB own scope C fp s₀ H₀) ifs ti) (he:∀ C fp s₀ H₀,PE (cxB X NB own scope C fp s₀ H₀) elt te)
  (hs:∀ x,foldedSetIterable iter X.env x=pure x:=by intro _;rfl) (hsw:swapsWith (.ListComp elt [⟨tg,iter,ifs,0⟩] scope pos) (some (.Name y py)) spos.line X.env=pure true:=by rfl) (hf:X.fn y=true ∨ X.env.scope.names.lookup y=some .local:=by first | exact .inl rfl | exact .inr rfl | assumption):PS X (.Assign [.Name y py] (.ListComp elt [⟨tg,iter,ifs,0⟩] scope pos) spos) (tU (o6 own cap wi g ti te) (j4 i)):=by
 intro Bp s σ H DD I0 h
 rw [exec_Assign_Name_used _ _ _ _ hsw]
 refine we (Ac (we ?_))
 show wpAny _ X.A (do let _ ← comprehension (.ListComp elt [⟨tg,iter,ifs,0⟩] scope pos) scope X.env _ (newList []) false (eval iter X.env) (some (assign (.Name y py) X.env))) _ _ s
 refine we (yQ (i5 (use:=some (assign (.Name y py) X.env)) (QQ:=fun _ s'=>SP X Bp DD .next s') (pos:=pos) B hc hi hg ht he hs I0 h fun fp C s2 s4 H2 H3 σ3 Br ys k I f2 BU hDC I5 hn3 hD4 rv hz q=>?_) (fun _ s' hq=>wJ (wJ hq)) fun _ _ e=>e)
 obtain ⟨mC,hnC,_⟩:=I5.loc
 have I6:Inv X Bp σ (upd H3 s2.heap.objs.size (.lst ys)) s4:=B.done (h'':=s4.heap) I f2 BU (wu _) hDC I5 hn3 hD4 rv hz ⟨rfl,fun _ _=>rfl⟩
 obtain ⟨oC,es,ep,hoC,hdC,rC⟩:=hnC
 have hCn:(upd H3 s2.heap.objs.size (.lst ys)) C=none:=by rw [aP hDC.symm];exact I5.free
 have nL:C≠X.env.locals:=fun z=>absurd I.lt (by rw [← z];exact Nat.not_lt.mpr BU)
 have I7:Inv X (Bp++[(C,oC)]) σ (upd H3 s2.heap.objs.size (.lst ys)) s4:=I6.pins_of fun p hp=>by
  rcases wL.mp hp with z | z
  ·exact I6.pin p (wG _ z)
  ·have ep:=wc.mp z
   subst ep
   exact ⟨hoC,hCn,nL,I.nofs BU,fun v z=>by rw [hdC] at z;cases z⟩
 refine thn (aO (pos:=py) hN hi0 hx hf (Bp++[(C,oC)]) s4 σ _ (.ref s2.heap.objs.size) (.ref s2.heap.objs.size) (fun σ' H'=>DD.nx σ' H'∧H'=upd H3 s2.heap.objs.size (.lst ys)) I7 rfl ⟨q,rfl⟩) fun _ s5 zq2=>?_
 obtain ⟨σ5,H5,I8,q5,e5⟩:=zq2
 subst e5
 have pC:=(I8.pin (C,oC) (wG _ (wG _ (wc.mpr rfl)))).1
 refine ⟨mC,⟨oC,es,ep,pC,hdC,rC⟩,fun h'' sb=>⟨σ5,_,?_,q5⟩⟩
 have I9:Inv X Bp σ5 (upd H3 s2.heap.objs.size (.lst ys)) s5:=I8.pins_of fun p hp=>I8.pin p (wG _ (w_ _ hp))
 refine I9.turned (t':=s5.toks) (it:=C) (fun b o hb e=>(sb.2 b hb).trans e) hCn nL (.inr (xq I.sz BU)) (fun x c e z=>?_) fun p hp z=>?_
 ·obtain ⟨v,o,ho,_⟩:=I.cell x c e
  exact absurd (wI ho) (by rw [z];exact Nat.not_lt.mpr BU)
 ·exact absurd (wI (I.pin p hp).1) (by rw [z];exact Nat.not_lt.mpr BU)
end L2
namespace L2
open PySem PySem.Spec PyProof.Rows Wd
section
variable {X:Cx}
inductive kM (x:V)(vs:List V)(H:Hp)(Q:VK):Prop
 | mk:∀ l xs i y,(x = .ref l)→(vs=[.int i,y])→(H l=some (.lst xs))→(0≤i)→(i≤xs.length)→(xs.length < sizeLine)→(Q .non (upd H l (.lst (xs.take i.toNat++y::xs.drop i.toNat))))→kM x vs H Q
theorem kN:MtM X "list.insert" kM:=by
 intro Bp s σ H x vs v us Q I rx rv h
 obtain ⟨l,xs,i,y,rfl,rfl,hH,h0,h1,hz,q⟩:=h
 cases rx
 obtain ⟨u1,u2,rfl,⟨t1,rfl⟩,r2⟩:=oU rv
 obtain ⟨z,Br,n,r,hl,e⟩:=I.lstM hH
 have hn:=c8
 have hfit:Builtin.List.listFitsIndex i=true:=by
  unfold Builtin.List.listFitsIndex
  rw [yh,zy,zy]
  constructor <;> omega
 refine AG z_ ⟨_,e,rfl⟩ PySem.F.entry_list_insert (PySem.F.args_list_insert_3 _ _ _) (PySem.AutoSeq1.list_insert_list_int_val_1 l Br.toArray n i t1 u2 (by simp [hfit]) (by rw [wB];omega)) ⟨e,?_⟩
 refine ⟨.non,_,I.lset (its':=Br.take i.toNat++u2::Br.drop i.toNat) hH e ?_ ((r.take _).append (.cons r2 (r.drop _))) ?_,rfl,q⟩
 ·have hm:min i.toNat Br.length=i.toNat:=by omega
  simp only [wB,if_neg (show ¬ i < 0 by omega),hm]
  apply Au.mp
  simp
  exact xm (by rw [xB];exact wu _)
 ·rw [wj,xu,wD,xB]
  omega
def rO (z:Str):Str:=Txt.sliceBy z none none (-1,0)
def uy (te ts:TE):TE:=fun σ H Q=>te σ H fun x H1=>ts σ H1 fun k H2=>∃ z,x = .str z∧k = .int (-1)∧z.length≤sizeLine∧Q (.str (rO z)) H2
theorem pk {e st:Expr}{te ts:TE}{pos p2:Pos}(he:PE X e te)(hs:PE X st ts):PE X (.Subscript e (.Slice none none (some st) p2) pos) (uy te ts):=by
 intro Bp s σ H Q I h
 refine Subscript_ (thn (he Bp s σ H _ I h) fun v s1 zq1=>?_)
 obtain ⟨x,H1,I1,r1,q1⟩:=zq1
 refine wpAny_Slice ?_
 rw [evalPart_none]
 refine wJ ?_
 refine wJ ?_
 rw [evalPart_some]
 refine thn (hs Bp s1 σ H1 _ I1 q1) fun vs s3 zq2=>?_
 obtain ⟨k,H3,I3,r3,z,ez,ek,hz,q3⟩:=zq2
 subst ez ek
 obtain ⟨t,rfl⟩:=r1
 obtain ⟨tk,rfl⟩:=r3
 have I4:Inv X Bp σ H3 { s3 with heap:=s3.heap.push { cls:=.type "slice",data:=.fields #[.none,.none,.int (-1) tk] } }:=I3.kept (t':=s3.toks) fun b ob q=>wg _ q
 show wpAny (model X.prog X.w) X.A (subscriptTail e (.Slice none none (some st) p2) (.str z t) (.ref s3.heap.objs.size)) (EP X Bp σ Q) X.xe { s3 with heap:=s3.heap.push { cls:=.type "slice",data:=.fields #[.none,.none,.int (-1) tk] } }
 refine tail_any (ops:=[.ref s3.heap.objs.size,.str z t]) (zL _ _ _) F.slot_str_getitem.lookup ?_ (by with_unfolding_all rfl)
 exact yj (l:=none) (u:=none) (st:=some (-1,tk)) ⟨_,wK _ rfl,rfl,rfl⟩ rfl (zh ⟨xq (Txt.sliceBy_le z none none (-1,tk) (by show (-1:Int)≠0;decide)) hz,fun t' k=>⟨.str _,H3,I4.tok _,⟨_,rfl⟩,q3⟩⟩)
theorem m5 (u:List L):rO (toS u)=toS u.reverse:=by
 have h:(rO (toS u)).cps.toList=(toS u.reverse).cps.toList:=by
  unfold rO
  rw [step_rev_list,bR,ae]
  apply List.ext_getElem?
  intro i
  rw [xj]
  by_cases hi:i < u.length
  ·rw [List.getElem?_range hi,xj,zD hi]
   have e:(toS u).cps.getD (u.length - 1 - i) 0=cp u[u.length - 1 - i]:=by
    simp [toS,Array.getD,show u.length - 1 - i < u.length by omega]
   rw [fu (show u.length - 1 - i < u.length by omega)]
   exact wR some e
  ·rw [yY (by simpa using hi),yY (by simp;omega)]
   rfl
 cases hr:rO (toS u) with
 | mk c=>
  rw [hr] at h
  have:c=(toS u.reverse).cps:=Au.mp h
  rw [this]
end
end L2
namespace L2
open PySem PySem.Spec PyProof.Rows
section
variable {X:Cx}
theorem fe {i j:Int}{Br:List Value}(r:bg [.int i,.int j] Br):∃ t u,Br=[.int i t,.int j u]:=by
 obtain ⟨u1,u2,rfl,⟨t1,rfl⟩,⟨t2,rfl⟩⟩:=oU r
 exact ⟨t1,t2,rfl⟩
def nAt (i j:Int)(k:Nat):Int:=if k=0 then i else j
theorem pq {K:PySem.W.Frag}(hK:X.K=K):OpR X (compareOp .In) (rIn K false):=by
 subst hK
 exact ko
end
end L2
namespace Wd
structure Srf (u:List L):Prop where
 ne:u≠[]
 nd:u.Nodup
 iv:∀ x∈u,inv x∈u
 le:u.length≤12
def fam (k:Nat):List L:=(List.range k).flatMap fun j=>if h:j < 6 then [⟨j,by omega⟩,⟨j+6,by omega⟩] else []
theorem gO:∀ k:Fin 7,(fam k.val).Nodup∧(∀ x∈fam k.val,inv x∈fam k.val)∧(fam k.val).length=2*k.val:=by decide
theorem m7 {k:Nat}(h:k < 6):fam (k+1)=fam k++[⟨k,by omega⟩,⟨k+6,by omega⟩]:=by
 unfold fam
 rw [AB,zT]
 simp [h]
theorem rP {k:Nat}{u:List L}(h1:1≤k)(h6:k≤6)(p:u.Perm (fam k)):Srf u:=by
 obtain ⟨a,b,c⟩:=gO ⟨k,by omega⟩
 have hl:=p.length_eq
 have c:(fam k).length=2*k:=c
 refine ⟨fun e=>?_,(p.nodup_iff).mpr a,fun x hx=>p.mem_iff.mpr (b x (p.mem_iff.mp hx)),by omega⟩
 subst e
 rw [c] at hl
 simp at hl
 omega
theorem m8 {u v:List L}(x:L)(i:Nat)(p:u.Perm v):(u.take i++x::u.drop i).Perm (v++[x]):=by
 refine List.perm_middle.trans ?_
 rw [wW]
 exact ((List.Perm.cons x p).trans (List.perm_append_singleton x v).symm)
end Wd
namespace Kx
open PySem PySem.Spec PyProof.Rows L2 Wd
theorem kO (u:List L)(x:L)(i:Nat):StrLaws.At (toS u) (toS [x]) (toS u).length i ↔ u[i]? = some x:=by
 unfold StrLaws.At
 rw [ae,ae,StrLaws.subAt_eq,ae,bR,bR,AN,← List.map_drop,← List.map_take]
 simp only [yW]
 constructor
 ·rintro ⟨h1,h2⟩
  have h2:=dE h2
  have:(u.drop i).take 1=[u[i]]:=by rw [xQ (by omega)];rfl
  rw [this] at h2
  rw [fu (by omega)]
  exact wR some (xM h2).1
 ·intro h
  obtain ⟨hl,e⟩:=wo.mp h
  refine ⟨by omega,?_⟩
  rw [xQ hl,e]
  rfl
theorem i_ {u:List L}{x:L}(h:x∈u):∃ rest,Builtin.Str.occurrences (toS u) (toS [x]) 0 (toS u).length 1=u.idxOf x::rest:=by
 have BA:=yZ h
 have hx:u[u.idxOf x]? = some x:=by rw [fu BA];exact wR some (zk BA)
 rcases StrLaws.occ_head (toS u) (toS [x]) 1 (wu 1) with ⟨h0,hn⟩ | ⟨i,r,h0,hi,hn⟩
 ·exact absurd ((kO u x _).mpr hx) (hn _)
 ·refine ⟨r,?_⟩
  rw [h0]
  have hi:=(kO u x i).mp hi
  have:i=u.idxOf x:=by
   rcases Nat.lt_trichotomy i (u.idxOf x) with h1 | h1 | h1
   ·have q:=List.not_of_lt_findIdx (p:=(· == x)) h1
    obtain ⟨hl,e⟩:=wo.mp hi
    exact absurd (AN.mpr e) (by simpa using q)
   ·exact h1
   ·exact absurd ((kO u x _).mpr hx) (hn _ h1)
  rw [this]
theorem rQ (x:L):(!(Builtin.Str.occurrences ("ABCDEF":Str) (toS [x]) 0 ("ABCDEF":Str).length 1).isEmpty)=decide (¬ x.val < 6):=by
 have q:∀ x:L,decide (cp x∈("ABCDEF":Str).cps.toList)=decide (¬ x.val < 6):=by decide +kernel
 have h:=StrLaws.found_one ("ABCDEF":Str) (cp x)
 rw [q] at h
 exact h
structure Tp (H:Hp) (d c:Addr):Prop where
 ex:∃ (i l t:Int) (ns:List Int),H d=some (.lst [.ref c,.int i,.int l,.int t])∧H c=some (.lst (ns.map V.int))∧c≠d∧ns.length≤63
theorem Tp.same {H H':Hp}{d c:Addr}(F:Tp H d c)(s:aA H H'):Tp H' d c:=by
 obtain ⟨i,l,t,ns,h1,h2,h3,h4⟩:=F.ex
 exact ⟨i,l,t,ns,s _ _ h1,s _ _ h2,h3,h4⟩
theorem Tp.new {H:Hp}{d c a:Addr}{o:HO}(F:Tp H d c)(h:H a=none):Tp (upd H a o) d c:=F.same (aA.new h)
theorem Tp.ne {H:Hp}{d c a:Addr}(F:Tp H d c)(h:H a=none):a≠d:=by
 obtain ⟨i,l,t,ns,h1,h2,h3,h4⟩:=F.ex
 exact (aC h1 h).symm
theorem Tp.nec {H:Hp}{d c a:Addr}(F:Tp H d c)(h:H a=none):a≠c:=by
 obtain ⟨i,l,t,ns,h1,h2,h3,h4⟩:=F.ex
 exact (aC h2 h).symm
theorem Tp.but {H H':Hp}{d c a:Addr}(F:Tp H d c)(h1:a≠d)(h2:a≠c)(s:bq a H H'):Tp H' d c:=by
 obtain ⟨i,l,t,ns,g1,g2,g3,g4⟩:=F.ex
 exact ⟨i,l,t,ns,s _ _ h1.symm g1,s _ _ h2.symm g2,g3,g4⟩
theorem none_of {H H':Hp}{a:Addr}(s:aA H H')(h:H' a=none):H a=none:=by
 cases e:H a with
 | none=>rfl
 | some o=>exact absurd (s _ _ e) (by rw [h];intro z;cases z)
inductive cx (vs:List V)(H:Hp)(Q:VK)(BC:XK):Prop
 | mk:∀ (d c:Addr) (m:Int),(vs=[.ref d,.int m])→(Tp H d c)→(0 < m)→(m < 1000000)→(∀ (r:Int) (H':Hp),0≤r→r < m→Tp H' d c→bq d H H'→Q (.int r) H')→cx vs H Q BC
inductive kP (K:PySem.W.Frag)(vs:List V)(H:Hp)(Q:VK)(BC:XK):Prop
 | mk:∀ (a:Addr) (ns:List Int),(vs=[.ref a])→(SqL K H a (ns.map V.int))→(ns.length≤63)→(∀ (d c:Addr) (H':Hp),H d=none→H c=none→Tp H' d c→aA H H'→Q (.ref d) H')→kP K vs H Q BC
theorem bg6:∀ j:Fin 6,([6,7,8,9,10,11]:List L)[j.val]? = some ⟨j.val+6,by omega⟩:=by decide
theorem sm_at {i:Nat}(h:i < 6):atI ("abcdef":Str).cps.toList (i:Int)=some (cp ⟨i,by omega⟩):=by
 rw [← rL]
 exact b7 (k:=i) rfl (sm6 ⟨i,h⟩)
theorem uz {i:Nat}(h:i < 6):atI ("ABCDEF":Str).cps.toList (i:Int)=some (cp ⟨i+6,by omega⟩):=by
 rw [← big]
 exact b7 (k:=i) rfl (bg6 ⟨i,h⟩)
theorem m9 (W:List L)(x:L)(n:Nat):(bo W).take n++tx [x]::(bo W).drop n=bo (W.take n++x::W.drop n):=by
 unfold bo
 simp
end Kx
namespace Wd
def rot (w:List L)(p:Nat):List L:=w.drop p++w.take p
theorem pz {w:List L}{p i:Nat}(hp:p≤w.length)(hi:i < w.length):(rot w p)[i]? = w[(i+p) % w.length]?:=by
 unfold rot
 by_cases h:i < w.length - p
 ·rw [xy (by rw [xB];exact h),xx,yO (by omega),Nat.add_comm]
 ·rw [wU (by rw [xB];omega),xB,xG (by omega)]
  have:(i+p) % w.length=i - (w.length - p):=by
   rw [Nat.mod_eq_sub_mod (by omega),yO (by omega)]
   omega
  rw [this]
structure SK (u:List L) (k:Nat):Prop where
 pm:u.Perm (fam k)
 lo:1≤k
 hi:k≤6
theorem SK.srf {u:List L}{k:Nat}(h:SK u k):Srf u:=rP h.lo h.hi h.pm
theorem pA {k:Nat}(h:k≤6):(fam k).length=2*k:=(gO ⟨k,by omega⟩).2.2
theorem SK.len {u:List L}{k:Nat}(h:SK u k):u.length=2*k:=by rw [h.pm.length_eq,pA h.hi]
theorem pB:∀ (k:Fin 7) (x:L),x∈fam k.val ↔ x.val % 6 < k.val:=by decide
theorem SK.mem {u:List L}{k:Nat}(h:SK u k)(x:L):x∈u ↔ x.val % 6 < k:=by
 rw [h.pm.mem_iff]
 exact pB ⟨k,by have:=h.hi;omega⟩ x
theorem fL:∀ x:L,(inv x).val % 6=x.val % 6:=by decide
theorem fM (u:List L)(p:Nat):(rot u p).Perm u:=by
 unfold rot
 refine xJ.trans ?_
 rw [wW]
theorem jE {u:List L}(nd:u.Nodup){i:Nat}{x:L}(h:u[i]? = some x):u.idxOf x=i:=by
 obtain ⟨hi,e⟩:=wo.mp h
 subst e
 exact List.Nodup.idxOf_getElem nd i hi
theorem pD {u:List L}{x:L}(h:x∈u):u[u.idxOf x]? = some x:=by
 have BA:=yZ h
 rw [fu BA]
 exact wR some (zk BA)
theorem dh {u:List L}{x:L}(h:x∈u):u.idxOf x < u.length:=yZ h
def rfI (u:List L)(a b:L):Int:=((u.idxOf b:Int) - (u.idxOf a:Int)) % (u.length:Int)
theorem kQ {n a b:Nat}(ha:a < n)(hb:b < n):((b:Int) - (a:Int)) % (n:Int)=if a≤b then (b:Int) - a else (b:Int) - a+n:=by
 split
 ·exact yE (by omega) (by omega)
 ·have:(b:Int) - a=((b:Int) - a+n)+(n:Int)*(-1):=by omega
  rw [this,Int.add_mul_emod_self_left,yE (by omega) (by omega)]
  omega
theorem oy {u:List L}{a b:L}(ha:a∈u)(hb:b∈u):rfI u a b=if u.idxOf a≤u.idxOf b then (u.idxOf b:Int) - (u.idxOf a:Int) else (u.idxOf b:Int) - (u.idxOf a:Int)+(u.length:Int):=kQ (dh ha) (dh hb)
def ic (u:List L)(x z:L):Int:=if rfI u x z < rfI u x (inv x) then 1 else 0
def sd (u:List L)(x y:L):Int:=ic u x y - ic u x (inv y)
theorem pE {u:List L}(nd:u.Nodup){p:Nat}(hp:p < u.length){x:L}(h:x∈u):((rot u p).idxOf x:Int)=((u.idxOf x:Int) - (p:Int)) % (u.length:Int):=by
 have BA:=dh h
 have hlen:(rot u p).length=u.length:=(fM u p).length_eq
 rw [kQ hp BA]
 have key:∀ j:Nat,j < u.length→(j+p) % u.length=u.idxOf x→(rot u p).idxOf x=j:=fun j hj e=>by
  refine jE ((fM u p).nodup_iff.mpr nd) ?_
  rw [pz (by omega) hj,e]
  exact pD h
 split
 ·rename_i hle
  have:=key (u.idxOf x - p) (by omega) (by rw [Nat.sub_add_cancel hle];exact yO BA)
  omega
 ·rename_i hle
  have:=key (u.idxOf x+u.length - p) (by omega) (by
   have e:u.idxOf x+u.length - p+p=u.idxOf x+u.length:=by omega
   rw [e,Nat.add_mod_right]
   exact yO BA)
  omega
theorem ja {u:List L}(nd:u.Nodup){b z:L}(hb:b∈u)(hz:z∈u):((rot u (u.idxOf b)).idxOf z:Int)=rfI u b z:=pE nd (dh hb) hz
theorem fN {z b:L}{w:List L}(h:z≠b):(z::w).idxOf b=w.idxOf b+1:=by
 rw [AC,beq_eq_false_iff_ne.mpr h]
 rfl
theorem jb {a b:L}(hab:a≠b):∀ (w:List L),w.Nodup→a∈w→b∈w→(w.filter fun z=>decide (z=a ∨ z=b)).head? = some (if w.idxOf a < w.idxOf b then a else b)
 | [],_,h,_=>absurd h (by simp)
 | z::w,nd,ha,hb=>by
  rw [xW] at nd
  by_cases h1:z=a
  ·subst h1
   have e1:(z::w).idxOf z=0:=by simp [AC]
   have e2:(z::w).idxOf b=w.idxOf b+1:=fN hab
   rw [e1,e2,if_pos (by omega),Ak (by simp)]
   rfl
  ·by_cases h2:z=b
   ·subst h2
    have e1:(z::w).idxOf z=0:=by simp [AC]
    rw [e1,if_neg (by omega),Ak (by simp)]
    rfl
   ·have e1:(z::w).idxOf a=w.idxOf a+1:=fN h1
    have e2:(z::w).idxOf b=w.idxOf b+1:=fN h2
    have ha:a∈w:=by
     rcases wH.mp ha with e | e
     ·exact absurd e.symm h1
     ·exact e
    have hb:b∈w:=by
     rcases wH.mp hb with e | e
     ·exact absurd e.symm h2
     ·exact e
    rw [e1,e2,List.filter_cons_of_neg (by simp [h1,h2]),jb hab w nd.2 ha hb]
    by_cases h:w.idxOf a < w.idxOf b
    ·rw [if_pos h,if_pos (by omega)]
    ·rw [if_neg h,if_neg (by omega)]
def lt6 (j:Nat):L:=if h:j < 12 then ⟨j,h⟩ else 0
end Wd
namespace L2
open PySem PySem.Spec PyProof.Rows
section
variable {prog:Program} {w:World} {A:Around} {E:Value→Shared→Prop} {s:Shared}
end
section
variable {X:Cx}
def vR (ta tb:TE):TE:=fun σ H Q=>ta σ H fun x H1=>∃ z,x = .str z∧z.length≤sizeLine∧(if ((z.length:Int) != 0)=true then Q (.str z) H1 else tb σ H1 Q)
theorem oz {a b:Expr}{rest:List Expr}{ta tb:TE}{pos:Pos}(ha:PE X a ta)(hb:PE X (.BoolOp .Or (b::rest) pos) tb):PE X (.BoolOp .Or (a::b::rest) pos) (vR ta tb):=by
 intro Bp s σ H Q I h
 refine BoolOp_or (thn (ha Bp s σ H _ I h) fun v s1 zq1=>?_)
 obtain ⟨x,H1,I1,r1,z,ez,hz,q1⟩:=zq1
 subst ez
 refine thn (kh Bp s1 σ H1 (.str z) v (fun c H'=>if c=true then Q (.str z) H' else tb σ H' Q) I1 r1 ⟨_,⟨hz,rfl⟩,q1⟩) fun c s2 zq2=>?_
 obtain ⟨H2,I2,q2⟩:=zq2
 cases c with
 | false=>exact hb Bp s2 σ H2 Q I2 (by simpa using q2)
 | true=>exact ⟨.str z,H2,I2,r1,by simpa using q2⟩
end
end L2
namespace PySem
open Sem (wp)
open AutoSeq1 (wpAny_loadPart')
section
variable {prog:Program} {w:World} {A:Around} {E:Value→Shared→Prop} {s:Shared}
end
end PySem
namespace L2
open PySem PySem.Spec PyProof.Rows Wd
section
variable {X:Cx}
end
end L2
namespace PySem
open Sem (wp)
section
variable {prog:Program} {w:World} {A:Around} {E:Value→Shared→Prop} {s:Shared} {z TI TO i1 i2:Addr} {k n1 n2:Nat} {a b:Value} {fp1 fp2:List Addr} {P1 P2:Nat→Value→Prop} {S1 S2:Nat→Heap→Prop}
end
end PySem
namespace PySem
end PySem
namespace L2
open PySem PySem.Spec PyProof.Rows Wd
section
variable {X:Cx}
end
end L2
namespace Kx
open PySem PySem.Spec PyProof.Rows L2 Wd
def jn (yl:List Nat):List (List Nat)→List Nat
 | []=>[]
 | [p]=>p
 | p::q::r=>p++yl++jn yl (q::r)
def Gd (c:Nat):Prop:=(48≤c∧c≤57) ∨ 65≤c
end Kx
namespace L2
open PySem PySem.Spec PyProof.Rows Wd
section
variable {X:Cx} {tg:Expr}
end
end L2
namespace Kx
open PySem PySem.Spec PyProof.Rows L2 Wd
def dV:V→PyData
 | .int i=>.int i
 | .str z=>.str z
 | _=>.none
end Kx
namespace L2
open PySem PySem.Spec PyProof.Rows
section
variable {X:Cx}
end
end L2
namespace Kx
open PySem PySem.Spec PyProof.Rows L2 Wd
def wb (k:Nat):List L:=(List.range k).map lt6++bk ((List.range k).map lt6)
end Kx
namespace Tv
open PySem PyProof.Rows
theorem av {σ:Type}{M:Model}{A:Around}{E:Value→Shared→Prop}{s:Shared}{α:Type}{c:Prop}[Decidable c]{x y:StateT σ Sem α}{Q:α→σ→Prop}{st:σ}(h:c)(p:wpS M A E s x Q st):wpS M A E s (if c then x else y) Q st:=by
 rw [if_pos h];exact p
theorem ay {σ:Type}{M:Model}{A:Around}{E:Value→Shared→Prop}{s:Shared}{α:Type}{c:Prop}[Decidable c]{x y:StateT σ Sem α}{Q:α→σ→Prop}{st:σ}(h:¬ c)(p:wpS M A E s y Q st):wpS M A E s (if c then x else y) Q st:=by
 rw [if_neg h];exact p
def kof (κ:KeyKind)(p:Keyed):κ.α:=(κ.keyOf p.1).getD κ.dflt
def Gd (κ:KeyKind)(p:Keyed):Prop:=∃ a,κ.keyOf p.1=some a
theorem Gd.eq {κ:KeyKind}{p:Keyed}(h:Gd κ p):κ.keyOf p.1=some (kof κ p):=by
 obtain ⟨a,e⟩:=h
 unfold kof
 rw [e]
 rfl
structure TB (kd:SortKind) (st:SortSt):Prop where
 kind:kindOf st=kd
 failed:failedOf st=none
def Lt1 (κ:KeyKind)(prog:Program)(w:World)(A:Around)(s:Shared)(kd:SortKind):Prop:=∀ (E:Value→Shared→Prop) (x y:Value) (a b:κ.α) (Q:Bool→Shared→Prop),κ.keyOf x=some a→κ.keyOf y=some b→Q (κ.blt a b) s→wpAny (model prog w) A (keyLt' kd x y) Q E s
def gal:Bool→Keyed→Array Keyed→Nat→Nat→Nat→StateT SortSt Sem (Option Nat):=sortPriv% PySem.Builtin.gallop
def gbd (lf:Bool)(key:Keyed)(arr:Array Keyed)(b i:Nat):StateT SortSt Sem (Option Bool):=do
 let it ← elem' arr (b+i)
 if lf then lt' it key else return (← lt' key it).map (!·)
def tJ (lf:Bool)(key:Keyed)(arr:Array Keyed)(b n d0 u0:Nat):StateT SortSt Sem (Option Nat):=do
 let mut dn:=d0
 let mut up:=u0
 for _ in [0:n] do
  if dn≥up then break
  let md:=dn+(up - dn) / 2
  let some mr ← gbd lf key arr b md | return none
  if mr then dn:=md+1 else up:=md
 return some up
theorem rR (lf:Bool)(key:Keyed)(arr:Array Keyed)(b n h:Nat):gal lf key arr b n h=(do
 let mut la:=0
 let mut of:=1
 let some rt ← gbd lf key arr b h | return none
 if rt then
  for _ in [0:n] do
   if of≥n - h then break
   let some mr ← gbd lf key arr b (h+of) | return none
   if !mr then break
   la:=of
   of:=2*of+1
  tJ lf key arr b n (h+la+1) (h+min of (n - h))
 else
  for _ in [0:n] do
   if of≥h+1 then break
   let some fd ← gbd lf key arr b (h - of) | return none
   if fd then break
   la:=of
   of:=2*of+1
  tJ lf key arr b n (h+1 - min of (h+1)) (h - la)):=rfl
section
variable {prog:Program} {w:World} {A:Around} {E:Value→Shared→Prop} {s:Shared} {κ:KeyKind} {kd:SortKind}
theorem gP {st:SortSt}{x y:Keyed}{Q:Option Bool→SortSt→Prop}(hO:Lt1 κ prog w A s kd)(hB:TB kd st)(hx:Gd κ x)(hy:Gd κ y)(h:Q (some (κ.blt (kof κ x) (kof κ y))) st):wpS (model prog w) A E s (lt' x y) Q st:=by
 rw [lt'_eq]
 refine wx (zU ?_)
 rw [hB.kind]
 refine wx (AH (Ai (hO _ x.1 y.1 _ _ _ hx.eq hy.eq ⟨rfl,?_⟩)))
 exact wC h
def bdB (κ:KeyKind)(lf:Bool)(key:κ.α)(x:κ.α):Bool:=if lf then κ.blt x key else !κ.blt key x
theorem pF {st:SortSt}{lf:Bool}{key p:Keyed}{arr:Array Keyed}{b i:Nat}{Q:Option Bool→SortSt→Prop}(hO:Lt1 κ prog w A s kd)(hB:TB kd st)(hk:Gd κ key)(e:arr[b+i]? = some p)(hp:Gd κ p)
  (h:Q (some (bdB κ lf (kof κ key) (kof κ p))) st):wpS (model prog w) A E s (gbd lf key arr b i) Q st:=by
 unfold gbd
 rw [elem'_eq,e]
 refine wx (wC ?_)
 unfold bdB at h
 cases lf with
 | true=>exact gP hO hB hp hk h
 | false=>exact wx (gP hO hB hk hp (wC h))
theorem ik {st:SortSt}{lf:Bool}{key:Keyed}{arr:Array Keyed}{b n h:Nat}{Q:Option Nat→SortSt→Prop}(hO:Lt1 κ prog w A s kd)(hB:TB kd st)(hk:Gd κ key)(B:Nat→Bool)(hh:h < n)
  (at_:∀ i,i < n→∃ p,arr[b+i]? = some p∧Gd κ p∧bdB κ lf (kof κ key) (kof κ p)=B i) (mono:∀ i j,i≤j→j < n→B j=true→B i=true)
  (hq:∀ k,k≤n→(∀ i,i < k→B i=true)→(∀ i,k≤i→i < n→B i=false)→Q (some k) st):wpS (model prog w) A E s (gal lf key arr b n h) Q st:=by
 have ask:∀ {i:Nat} {R:Option Bool→SortSt→Prop},i < n→R (some (B i)) st→wpS (model prog w) A E s (gbd lf key arr b i) R st:=fun {i R} hi r=>by
  obtain ⟨p,e,g,eb⟩:=at_ i hi
  exact pF hO hB hk e g (by rw [eb];exact r)
 have no:∀ i j,i≤j→j < n→B i=false→B j=false:=fun i j BD hj e=>by
  cases ej:B j with
  | false=>rfl
  | true=>rw [mono i j BD hj ej] at e;cases e
 -- the last part
 have fin:∀ dn up,dn≤up→up≤n→(∀ i,i < dn→B i=true)→(∀ i,up≤i→i < n→B i=false)→wpS (model prog w) A E s (tJ lf key arr b n dn up) Q st:=by
  intro dn up h1 h2 h3 h4
  unfold tJ
  refine wx (yk (xD (I:=fun x c Bq=>Bq=st∧∃ dn up,c=(none,dn,up)∧dn≤up∧up≤n∧up - dn≤n - x∧(∀ i,i < dn→B i=true)∧(∀ i,up≤i→i < n→B i=false))
   (Q:=fun c Bq=>Bq=st∧∃ k,c=(none,k,k)∧k≤n∧(∀ i,i < k→B i=true)∧(∀ i,k≤i→i < n→B i=false)) ?step ?fin ⟨rfl,dn,up,rfl,h1,h2,by omega,h3,h4⟩) ?post)
  case post =>
   rintro c Bq ⟨rfl,k,rfl,a1,a2,a3⟩
   exact wC (hq k a1 a2 a3)
  case fin =>
   rintro c Bq ⟨rfl,dn,up,rfl,a1,a2,a3,a4,a5⟩
   have:dn=up:=by omega
   subst this
   exact ⟨rfl,dn,rfl,a2,a4,a5⟩
  case step =>
   rintro x c Bq _ hx ⟨rfl,dn,up,rfl,a1,a2,a3,a4,a5⟩
   dsimp only
   by_cases hd:dn≥up
   ·refine av hd ?_
    have:dn=up:=by omega
    subst this
    exact wC ⟨rfl,dn,rfl,a2,a4,a5⟩
   ·refine ay hd ?_
    refine wx (ask (by omega) ?_)
    cases eb:B (dn+(up - dn) / 2) with
    | true =>
     simp only [yK]
     exact wC ⟨rfl,dn+(up - dn) / 2+1,up,rfl,by omega,a2,by omega,fun i hi=>mono i _ (by omega) (by omega) eb,a5⟩
    | false =>
     simp only [wN,xS]
     exact wC ⟨rfl,dn,dn+(up - dn) / 2,rfl,by omega,by omega,by omega,a4,fun i hi1 hi2=>no _ i (by omega) hi2 eb⟩
 rw [rR]
 refine wx (ask hh ?_)
 cases eh:B h with
 | true =>
  dsimp only
  refine av rfl ?_
  refine wx (yk (xD (I:=fun x c Bq=>Bq=st∧∃ la of,c=(none,la,of)∧la < of∧x+1≤of∧h+la < n∧B (h+la)=true)
   (Q:=fun c Bq=>Bq=st∧∃ la of,c=(none,la,of)∧la < of∧h+la < n∧B (h+la)=true∧(of≥n - h ∨ (h+of < n∧B (h+of)=false))) ?step ?fin ⟨rfl,0,1,rfl,by omega,by omega,by omega,eh⟩) ?post)
  case post =>
   rintro c Bq ⟨rfl,la,of,rfl,a1,a2,a3,a4⟩
   dsimp only
   refine fin (h+la+1) (h+min of (n - h)) (by omega) (by omega) (fun i hi=>mono i _ (by omega) a2 a3) fun i hi1 hi2=>?_
   rcases a4 with a4 | ⟨a4,a5⟩
   ·omega
   ·exact no _ i (by omega) hi2 a5
  case fin =>
   rintro c Bq ⟨rfl,la,of,rfl,a1,a2,a3,a4⟩
   exact ⟨rfl,la,of,rfl,a1,a3,a4,.inl (by omega)⟩
  case step =>
   rintro x c Bq _ hx ⟨rfl,la,of,rfl,a1,a2,a3,a4⟩
   dsimp only
   by_cases ho:of≥n - h
   ·refine av ho ?_
    exact wC ⟨rfl,la,of,rfl,a1,a3,a4,.inl ho⟩
   ·refine ay ho ?_
    refine wx (ask (by omega) ?_)
    cases eb:B (h+of) with
    | true =>
     simp only [zK,wN,xS]
     exact wC ⟨rfl,of,2*of+1,rfl,by omega,by omega,by omega,eb⟩
    | false =>
     simp only [Bool.not_false,yK]
     exact wC ⟨rfl,la,of,rfl,a1,a3,a4,.inr ⟨by omega,eb⟩⟩
 | false =>
  dsimp only
  refine ay wM ?_
  refine wx (yk (xD (I:=fun x c Bq=>Bq=st∧∃ la of,c=(none,la,of)∧la < of∧x+1≤of∧la≤h∧B (h - la)=false)
   (Q:=fun c Bq=>Bq=st∧∃ la of,c=(none,la,of)∧la < of∧la≤h∧B (h - la)=false∧(of≥h+1 ∨ (of≤h∧B (h - of)=true))) ?step ?fin ⟨rfl,0,1,rfl,by omega,by omega,by omega,eh⟩) ?post)
  case post =>
   rintro c Bq ⟨rfl,la,of,rfl,a1,a2,a3,a4⟩
   dsimp only
   refine fin (h+1 - min of (h+1)) (h - la) (by omega) (by omega) (fun i hi=>?_) fun i hi1 hi2=>no _ i hi1 hi2 a3
   rcases a4 with a4 | ⟨a4,a5⟩
   ·omega
   ·exact mono i _ (by omega) (by omega) a5
  case fin =>
   rintro c Bq ⟨rfl,la,of,rfl,a1,a2,a3,a4⟩
   exact ⟨rfl,la,of,rfl,a1,a3,a4,.inl (by omega)⟩
  case step =>
   rintro x c Bq _ hx ⟨rfl,la,of,rfl,a1,a2,a3,a4⟩
   dsimp only
   by_cases ho:of≥h+1
   ·refine av ho ?_
    exact wC ⟨rfl,la,of,rfl,a1,a3,a4,.inl ho⟩
   ·refine ay ho ?_
    refine wx (ask (by omega) ?_)
    cases eb:B (h - of) with
    | false =>
     simp only [wN,xS]
     exact wC ⟨rfl,of,2*of+1,rfl,by omega,by omega,by omega,eb⟩
    | true =>
     simp only [yK]
     exact wC ⟨rfl,la,of,rfl,a1,a3,a4,.inr ⟨by omega,eb⟩⟩
end
def mlo:Array Keyed→Array Keyed→StateT SortSt Sem (Array Keyed):=sortPriv% PySem.Builtin.mergeLo
def smg:Nat→StateT SortSt Sem Unit:=sortPriv% PySem.Builtin.setMinGallop
abbrev mDn (a b o:Array Keyed)(i j:Nat):Array Keyed:=o++a.extract i a.size++b.extract j b.size
abbrev mLa (a b o:Array Keyed)(i j:Nat):Array Keyed:=o++b.extract j b.size++a.extract i a.size
theorem rS (a b:Array Keyed):mlo a b=(do
 rule "list.sort.merge-lo"
 let mut o:Array Keyed:=#[← elem' b 0]
 let mut i:=0
 let mut j:=1
 if j == b.size then return mDn a b o i j
 if i+1 == a.size then return mLa a b o i j
 let mut g:=gallopOf (← get)
 for _ in [0:a.size+b.size] do
  let mut p:=0
  let mut q:=0
  for _ in [0:a.size+b.size] do
   let some w ← lt' (← elem' b j) (← elem' a i) | return mDn a b o i j
   if w then
    o:=o.push (← elem' b j)
    j:=j+1
    q:=q+1
    p:=0
    if j == b.size then return mDn a b o i j
    if q≥g then break
   else
    o:=o.push (← elem' a i)
    i:=i+1
    p:=p+1
    q:=0
    if i+1 == a.size then return mLa a b o i j
    if p≥g then break
  rule "list.sort.gallop"
  g:=g+1
  for _ in [0:a.size+b.size] do
   if g > 1 then g:=g - 1
   smg g
   let some k ← gal false (← elem' b j) a i (a.size - i) 0 | return mDn a b o i j
   p:=k
   if k > 0 then
    o:=o++a.extract i (i+k)
    i:=i+k
    if i+1 == a.size then return mLa a b o i j
    if i == a.size then return mDn a b o i j
   o:=o.push (← elem' b j)
   j:=j+1
   if j == b.size then return mDn a b o i j
   let some k ← gal true (← elem' a i) b j (b.size - j) 0 | return mDn a b o i j
   q:=k
   if k > 0 then
    o:=o++b.extract j (j+k)
    j:=j+k
    if j == b.size then return mDn a b o i j
   o:=o.push (← elem' a i)
   i:=i+1
   if i+1 == a.size then return mLa a b o i j
   if p < 7 && q < 7 then break
  g:=g+1
  smg g
 unsupported "internal:list.sort.merge-bound"):=rfl
end Tv
namespace Tv
open PySem PyProof.Rows
variable {κ:KeyKind} {kd:SortKind}
def lek (κ:KeyKind)(x y:Keyed):Prop:=κ.kle (kof κ x) (kof κ y)
theorem di {x y z:Keyed}(h:lek κ x y)(g:lek κ y z):lek κ x z:=yP h g
theorem m_ (x:Keyed):lek κ x x:=xR _
def Srt (κ:KeyKind)(l:List Keyed):Prop:=l.Pairwise (lek κ)
theorem Srt.drop {l:List Keyed}(h:Srt κ l)(i:Nat):Srt κ (l.drop i):=List.Pairwise.sublist (List.drop_sublist i l) h
theorem Srt.take {l:List Keyed}(h:Srt κ l)(i:Nat):Srt κ (l.take i):=List.Pairwise.sublist (List.take_sublist i l) h
def Lel (κ:KeyKind)(l m:List Keyed):Prop:=∀ x∈l,∀ y∈m,lek κ x y
theorem bf {l m:List Keyed}:Srt κ (l++m) ↔ Srt κ l∧Srt κ m∧Lel κ l m:=List.pairwise_append
theorem Srt.at {l:List Keyed}(h:Srt κ l){i j:Nat}{x y:Keyed}(BD:i≤j)(hx:l[i]? = some x)(hy:l[j]? = some y):lek κ x y:=by
 by_cases e:i=j
 ·subst e
  rw [hx] at hy
  cases hy
  exact m_ _
 ·obtain ⟨h1,e1⟩:=wo.mp hx
  obtain ⟨h2,e2⟩:=wo.mp hy
  have:=yB.mp h i j h1 h2 (by omega)
  rw [e1,e2] at this
  exact this
theorem bL {l:List Keyed}{i:Nat}{x:Keyed}(h:l[i]? = some x):l.drop i=x::l.drop (i+1):=by
 obtain ⟨h1,e1⟩:=wo.mp h
 rw [xQ h1,e1]
theorem ba {l:List Keyed}{i:Nat}{x:Keyed}(h:l[i]? = some x):l.take (i+1)=l.take i++[x]:=by
 rw [y6,h]
 rfl
structure Mc (κ:KeyKind) (A B O:List Keyed) (i j:Nat):Prop where
 pm:O.Perm (A.take i++B.take j)
 so:Srt κ O
 la:Lel κ O (A.drop i)
 lb:Lel κ O (B.drop j)
 hi:i≤A.length
 hj:j≤B.length
theorem Mc.pushA {A B O:List Keyed}{i j:Nat}(M:Mc κ A B O i j)(sA:Srt κ A){x:Keyed}(h:A[i]? = some x)(hx:Lel κ [x] (B.drop j)):Mc κ A B (O++[x]) (i+1) j:=by
 have ed:=bL h
 have sd:=sA.drop i
 rw [ed] at sd
 have sd':=yT.mp sd
 refine ⟨?_,bf.mpr ⟨M.so,Al _ _,fun o ho y hy=>?_⟩,fun o ho y hy=>?_,fun o ho y hy=>?_,(wo.mp h).1,M.hj⟩
 ·rw [ba h]
  refine (M.pm.append_right [x]).trans ?_
  rw [wt,wt]
  exact x9 _ xJ
 ·rw [wc] at hy
  subst hy
  exact M.la o ho _ (by rw [ed];exact wX)
 ·rcases wL.mp ho with ho | ho
  ·exact M.la o ho y (by rw [ed];exact wO _ hy)
  ·rw [wc] at ho
   subst ho
   exact sd'.1 y hy
 ·rcases wL.mp ho with ho | ho
  ·exact M.lb o ho y hy
  ·exact hx o ho y hy
theorem Mc.pushB {A B O:List Keyed}{i j:Nat}(M:Mc κ A B O i j)(sB:Srt κ B){x:Keyed}(h:B[j]? = some x)(hx:Lel κ [x] (A.drop i)):Mc κ A B (O++[x]) i (j+1):=by
 have ed:=bL h
 have sd:=sB.drop j
 rw [ed] at sd
 have sd':=yT.mp sd
 refine ⟨?_,bf.mpr ⟨M.so,Al _ _,fun o ho y hy=>?_⟩,fun o ho y hy=>?_,fun o ho y hy=>?_,M.hi,(wo.mp h).1⟩
 ·rw [ba h]
  refine (M.pm.append_right [x]).trans ?_
  rw [wt]
 ·rw [wc] at hy
  subst hy
  exact M.lb o ho _ (by rw [ed];exact wX)
 ·rcases wL.mp ho with ho | ho
  ·exact M.la o ho y hy
  ·exact hx o ho y hy
 ·rcases wL.mp ho with ho | ho
  ·exact M.lb o ho y (by rw [ed];exact wO _ hy)
  ·rw [wc] at ho
   subst ho
   exact sd'.1 y hy
theorem Mc.pushAs {A B O:List Keyed}{i j:Nat}(M:Mc κ A B O i j)(sA:Srt κ A):∀ k,i+k≤A.length→Lel κ ((A.drop i).take k) (B.drop j)→Mc κ A B (O++(A.drop i).take k) (i+k) j
 | 0,_,_=>by simpa using M
 | k+1,hk,hl=>by
  have BA:i+k < A.length:=by omega
  have e:(A.drop i)[k]? = some A[i+k]:=by rw [xx,fu BA]
  have et:(A.drop i).take (k+1)=(A.drop i).take k++[A[i+k]]:=ba e
  rw [et] at hl ⊢
  have ih:=Mc.pushAs M sA k (by omega) fun x hx=>hl x (w_ _ hx)
  have:=ih.pushA sA (fu BA) fun x hx=>hl x (wG _ hx)
  rw [wt] at this
  exact this
theorem Mc.pushBs {A B O:List Keyed}{i j:Nat}(M:Mc κ A B O i j)(sB:Srt κ B):∀ k,j+k≤B.length→Lel κ ((B.drop j).take k) (A.drop i)→Mc κ A B (O++(B.drop j).take k) i (j+k)
 | 0,_,_=>by simpa using M
 | k+1,hk,hl=>by
  have BA:j+k < B.length:=by omega
  have e:(B.drop j)[k]? = some B[j+k]:=by rw [xx,fu BA]
  have et:(B.drop j).take (k+1)=(B.drop j).take k++[B[j+k]]:=ba e
  rw [et] at hl ⊢
  have ih:=Mc.pushBs M sB k (by omega) fun x hx=>hl x (w_ _ hx)
  have:=ih.pushB sB (fu BA) fun x hx=>hl x (wG _ hx)
  rw [wt] at this
  exact this
def Mg (κ:KeyKind)(A B R:List Keyed):Prop:=R.Perm (A++B)∧Srt κ R
theorem Mc.perm {A B O:List Keyed}{i j:Nat}(M:Mc κ A B O i j):(O++(A.drop i++B.drop j)).Perm (A++B):=by
 have h1:(O++(A.drop i++B.drop j)).Perm ((A.take i++B.take j)++(A.drop i++B.drop j)):=M.pm.append_right _
 refine h1.trans ?_
 have h2:((A.take i++B.take j)++(A.drop i++B.drop j)).Perm ((A.take i++A.drop i)++(B.take j++B.drop j)):=by
  rw [wt,wt]
  refine x9 _ ?_
  rw [← wt,← wt]
  exact zp _ xJ
 rw [wW,wW] at h2
 exact h2
theorem Mc.done {A B O:List Keyed}{i j:Nat}(M:Mc κ A B O i j)(sA:Srt κ A)(sB:Srt κ B)(h:i=A.length ∨ j=B.length):Mg κ A B (O++A.drop i++B.drop j):=by
 refine ⟨by rw [wt];exact M.perm,?_⟩
 rw [wt]
 refine bf.mpr ⟨M.so,bf.mpr ⟨sA.drop i,sB.drop j,fun x hx y hy=>?_⟩,fun o ho y hy=>?_⟩
 ·rcases h with h | h
  ·subst h;rw [As] at hx;cases hx
  ·subst h;rw [As] at hy;cases hy
 ·rcases wL.mp hy with hy | hy
  ·exact M.la o ho y hy
  ·exact M.lb o ho y hy
theorem Mc.last {A B O:List Keyed}{i j:Nat}(M:Mc κ A B O i j)(sA:Srt κ A)(sB:Srt κ B)(h:i+1=A.length)(hl:∀ z,A[A.length - 1]? = some z→Lel κ B [z]):Mg κ A B (O++B.drop j++A.drop i):=by
 have BA:i < A.length:=by omega
 have ed:A.drop i=[A[i]]:=by rw [bL (fu BA),yS (by omega)]
 refine ⟨?_,?_⟩
 ·refine List.Perm.trans ?_ M.perm
  rw [wt]
  exact x9 _ xJ
 ·rw [wt]
  refine bf.mpr ⟨M.so,bf.mpr ⟨sB.drop j,sA.drop i,fun x hx y hy=>?_⟩,fun o ho y hy=>?_⟩
  ·rw [ed] at hy
   exact hl A[i] (by rw [show A.length - 1=i by omega];exact fu BA) x (yi hx) y hy
  ·rcases wL.mp hy with hy | hy
   ·exact M.lb o ho y hy
   ·exact M.la o ho y hy
theorem jc (a b o:Array Keyed)(i j:Nat):(mDn a b o i j).toList=o.toList++a.toList.drop i++b.toList.drop j:=by
 simp [mDn,xN,xm]
theorem jd (a b o:Array Keyed)(i j:Nat):(mLa a b o i j).toList=o.toList++b.toList.drop j++a.toList.drop i:=by
 simp [mLa,xN,xm]
theorem je (a:Array Keyed)(i k:Nat):(a.extract i (i+k)).toList=(a.toList.drop i).take k:=by
 simp [xN,List.take_drop]
theorem jf {lf:Bool}{key x y:κ.α}(h:κ.kle x y)(hb:bdB κ lf key y=true):bdB κ lf key x=true:=by
 unfold bdB at hb ⊢
 cases lf with
 | true=>exact KeyOrd.klt_of_kle_of_klt h hb
 | false =>
  have hb:(!κ.blt key y)=true:=hb
  have hy:κ.kle y key:=by show κ.blt key y=false;simpa using hb
  have:=yP h hy
  show (!κ.blt key x)=true
  have this:κ.blt key x=false:=this
  rw [this]
  rfl
end Tv
namespace Tv
open PySem PyProof.Rows
section
variable {prog:Program} {w:World} {A:Around} {E:Value→Shared→Prop} {s:Shared} {κ:KeyKind} {kd:SortKind}
structure Ok (kd:SortKind) (st Bq:SortSt):Prop where
 tb:TB kd Bq
 ar:arrOf Bq=arrOf st
 pd:pendingOf Bq=pendingOf st
theorem Ok.refl {st:SortSt}(h:TB kd st):Ok kd st st:=⟨h,rfl,rfl⟩
theorem fO {st Bq:SortSt}{g:Nat}{Q:Unit→SortSt→Prop}(h:Ok kd st Bq)(q:∀ Bv,Ok kd st Bv→Q () Bv):wpS (model prog w) A E s (smg g) Q Bq:=by
 refine zg (q _ ⟨⟨h.tb.kind,h.tb.failed⟩,h.ar,h.pd⟩)
theorem aQ {st:SortSt}{arr:Array Keyed}{i:Nat}{x:Keyed}{Q:Keyed→SortSt→Prop}(e:arr.toList[i]? = some x)(h:Q x st):wpS (model prog w) A E s (elem' arr i) Q st:=by
 have e':arr[i]? = some x:=by simpa using e
 rw [elem'_eq,e']
 exact wC h
theorem jg {st:SortSt}{lf:Bool}{key:Keyed}{arr:Array Keyed}{i:Nat}{Q:Option Nat→SortSt→Prop}(hO:Lt1 κ prog w A s kd)(hB:TB kd st)(hk:Gd κ key)(hg:∀ x∈arr.toList,Gd κ x)(sa:Srt κ arr.toList)(hi:i < arr.size)
  (hq:∀ k,i+k≤arr.size→(∀ x∈(arr.toList.drop i).take k,bdB κ lf (kof κ key) (kof κ x)=true)→(∀ x∈arr.toList.drop (i+k),bdB κ lf (kof κ key) (kof κ x)=false)→Q (some k) st) :
  wpS (model prog w) A E s (gal lf key arr i (arr.size - i) 0) Q st:=by
 have hl:arr.toList.length=arr.size:=wk
 refine ik hO hB hk (fun t=>match arr.toList[i+t]? with | some p=>bdB κ lf (kof κ key) (kof κ p) | none=>false) (by omega) (fun t ht=>?_) (fun t u htu hu hb=>?_) (fun k hk' h1 h2=>hq k (by omega) (fun x hx=>?_) fun x hx=>?_)
 ·have BA:i+t < arr.toList.length:=by omega
  have e:=fu BA
  refine ⟨arr.toList[i+t],by simpa using e,hg _ (wY BA),?_⟩
  rw [e]
 ·have h1:i+t < arr.toList.length:=by omega
  have h2:i+u < arr.toList.length:=by omega
  have e1:=fu h1
  have e2:=fu h2
  rw [e2] at hb
  rw [e1]
  exact jf (sa.at (by omega) e1 e2) hb
 ·obtain ⟨t,e⟩:=xO hx
  have ht:t < k:=by
   have:=(wo.mp e).1
   rw [wD] at this
   omega
  rw [zl,if_pos ht,xx] at e
  have:=h1 t ht
  rw [e] at this
  exact this
 ·obtain ⟨t,e⟩:=xO hx
  rw [xx] at e
  have BA:=(wo.mp e).1
  have:=h2 (k+t) (by omega) (by omega)
  rw [show i+(k+t)=i+k+t by omega,e] at this
  exact this
theorem not_lt {x y:Keyed}(h:κ.blt (kof κ x) (kof κ y)=false):lek κ y x:=h
theorem nc {x y:Keyed}(h:κ.blt (kof κ x) (kof κ y)=true):lek κ x y:=y7 h
theorem eI {l:List Keyed}(sl:Srt κ l){i:Nat}{x y:Keyed}(e:l[i]? = some y)(h:lek κ x y):Lel κ [x] (l.drop i):=fun z hz t ht=>by
 rw [wc] at hz
 subst hz
 rw [bL e] at ht
 rcases wH.mp ht with rfl | ht
 ·exact h
 ·have sd:=sl.drop i
  rw [bL e] at sd
  exact di h ((yT.mp sd).1 t ht)
abbrev MSt:=Option (Array Keyed) × Array Keyed × Nat × Nat × Nat × Nat × Nat
def jp3 (a b:Array Keyed)(i g p q:Nat)(o:Array Keyed)(j:Nat):StateT SortSt Sem (ForInStep MSt):=do
 let e ← elem' a i
 if (i+1+1 == a.size)=true then pure (.done (some (mLa a b (o.push e) (i+1) j),o.push e,i+1,j,g,p,q))
 else if (decide (p < 7) && decide (q < 7))=true then pure (.done (none,o.push e,i+1,j,g,p,q)) else pure (.yield (none,o.push e,i+1,j,g,p,q))
def jp2 (a b:Array Keyed)(j g p q:Nat)(o:Array Keyed)(i:Nat):StateT SortSt Sem (ForInStep MSt):=do
 let e ← elem' b j
 if (j+1 == b.size)=true then pure (.done (some (mDn a b (o.push e) i (j+1)),o.push e,i,j+1,g,p,q))
 else do
  let f ← elem' a i
  let y ← gal true f b (j+1) (b.size - (j+1)) 0
  match y with
  | some k=>if k > 0 then (if (j+1+k == b.size)=true then pure (.done (some (mDn a b (o.push e++b.extract (j+1) (j+1+k)) i (j+1+k)),o.push e++b.extract (j+1) (j+1+k),i,j+1+k,g,p,k)) else jp3 a b i g p k (o.push e++b.extract (j+1) (j+1+k)) (j+1+k)) else jp3 a b i g p k (o.push e) (j+1)
  | _=>pure (.done (some (mDn a b (o.push e) i (j+1)),o.push e,i,j+1,g,p,q))
def jp1 (a b:Array Keyed)(o:Array Keyed)(i j p q g:Nat):StateT SortSt Sem (ForInStep MSt):=do
 smg g
 let e ← elem' b j
 let y ← gal false e a i (a.size - i) 0
 match y with
 | some k=>if k > 0 then (if (i+k+1 == a.size)=true then pure (.done (some (mLa a b (o++a.extract i (i+k)) (i+k) j),o++a.extract i (i+k),i+k,j,g,k,q)) else if (i+k == a.size)=true then pure (.done (some (mDn a b (o++a.extract i (i+k)) (i+k) j),o++a.extract i (i+k),i+k,j,g,k,q)) else jp2 a b j g k q (o++a.extract i (i+k)) (i+k)) else jp2 a b j g k q o i
 | _=>pure (.done (some (mDn a b o i j),o,i,j,g,p,q))
def Pst (κ:KeyKind)(a b:Array Keyed)(x:Nat)(st:SortSt)(r:ForInStep MSt)(Bq:SortSt):Prop:=match r with
 | .done c=>((∃ r z,c=(some r,z)∧Mg κ a.toList b.toList r.toList) ∨ ∃ o i j g p q,c=(none,o,i,j,g,p,q)∧Mc κ a.toList b.toList o.toList i j∧i+1 < a.size∧j < b.size∧x+2≤i+j)∧Ok kd st Bq
 | .yield c=>∃ o i j g p q,c=(none,o,i,j,g,p,q)∧Mc κ a.toList b.toList o.toList i j∧i+1 < a.size∧j < b.size∧x+2≤i+j∧Ok kd st Bq
structure Two (κ:KeyKind) (a b:Array Keyed):Prop where
 ga:∀ x∈a.toList,Gd κ x
 gb:∀ x∈b.toList,Gd κ x
 sa:Srt κ a.toList
 sb:Srt κ b.toList
 hl:∀ z,a.toList[a.size - 1]? = some z→Lel κ b.toList [z]
theorem Two.atA {a b:Array Keyed}(T:Two κ a b){i:Nat}(hi:i < a.size):∃ x,a.toList[i]? = some x∧Gd κ x:=⟨a.toList[i]'(by rw [wk]; exact hi),fu (by rw [wk]; exact hi),T.ga _ (wY _)⟩
theorem Two.atB {a b:Array Keyed}(T:Two κ a b){i:Nat}(hi:i < b.size):∃ x,b.toList[i]? = some x∧Gd κ x:=⟨b.toList[i]'(by rw [wk]; exact hi),fu (by rw [wk]; exact hi),T.gb _ (wY _)⟩
theorem Two.dn {a b:Array Keyed}(T:Two κ a b){o:Array Keyed}{i j:Nat}(M:Mc κ a.toList b.toList o.toList i j)(h:i=a.size ∨ j=b.size):Mg κ a.toList b.toList (mDn a b o i j).toList:=by
 rw [jc]
 exact M.done T.sa T.sb (by rw [wk,wk];exact h)
theorem Two.ls {a b:Array Keyed}(T:Two κ a b){o:Array Keyed}{i j:Nat}(M:Mc κ a.toList b.toList o.toList i j)(h:i+1=a.size):Mg κ a.toList b.toList (mLa a b o i j).toList:=by
 rw [jd]
 exact M.last T.sa T.sb (by rw [wk];exact h) (by rw [wk];exact T.hl)
theorem kR {st Bq:SortSt}{a b o:Array Keyed}{i j g p q x:Nat}{xa:Keyed}(T:Two κ a b)(M:Mc κ a.toList b.toList o.toList i j)(hi:i+1 < a.size)(hj:j < b.size)(hx:x+2≤i+j)(ok:Ok kd st Bq)(BR:a.toList[i]? = some xa)(hle:Lel κ [xa] (b.toList.drop j)) :
  wpS (model prog w) A E s (jp3 a b i g p q o j) (Pst (kd:=kd) κ a b x st) Bq:=by
 unfold jp3
 refine wx (aQ BR ?_)
 have M':Mc κ a.toList b.toList (o.push xa).toList (i+1) j:=by rw [yF];exact M.pushA T.sa BR hle
 by_cases hia:i+1+1=a.size
 ·refine av (by simpa using hia) ?_
  exact wC ⟨.inl ⟨_,_,rfl,T.ls M' hia⟩,ok⟩
 ·refine ay (by simpa using hia) ?_
  by_cases hpq:(decide (p < 7) && decide (q < 7))=true
  ·refine av hpq ?_
   exact wC ⟨.inr ⟨_,_,_,_,_,_,rfl,M',by omega,hj,by omega⟩,ok⟩
  ·refine ay hpq ?_
   exact wC ⟨_,_,_,_,_,_,rfl,M',by omega,hj,by omega,ok⟩
theorem dW {x y:Keyed}:bdB κ false (kof κ x) (kof κ y)=true→lek κ y x:=fun h=>by
 unfold bdB at h
 have h:(!κ.blt (kof κ x) (kof κ y))=true:=h
 show κ.blt (kof κ x) (kof κ y)=false
 simpa using h
theorem eJ {x y:Keyed}:bdB κ false (kof κ x) (kof κ y)=false→lek κ x y:=fun h=>by
 unfold bdB at h
 have h:(!κ.blt (kof κ x) (kof κ y))=false:=h
 exact nc (by simpa using h)
theorem il {x y:Keyed}:bdB κ true (kof κ x) (kof κ y)=true→lek κ y x:=fun h=>nc h
theorem fP {x y:Keyed}:bdB κ true (kof κ x) (kof κ y)=false→lek κ x y:=fun h=>h
theorem kT {st Bq:SortSt}{a b o:Array Keyed}{i j g p q x:Nat}{xb:Keyed}(hO:Lt1 κ prog w A s kd)(T:Two κ a b)(M:Mc κ a.toList b.toList o.toList i j)(hi:i+1 < a.size)(hj:j < b.size)(hx:x+2≤i+j)(ok:Ok kd st Bq)(BQ:b.toList[j]? = some xb)(hle:Lel κ [xb] (a.toList.drop i)) :
  wpS (model prog w) A E s (jp2 a b j g p q o i) (Pst (kd:=kd) κ a b x st) Bq:=by
 have la:a.toList.length=a.size:=wk
 have lb:b.toList.length=b.size:=wk
 unfold jp2
 refine wx (aQ BQ ?_)
 have M':Mc κ a.toList b.toList (o.push xb).toList i (j+1):=by rw [yF];exact M.pushB T.sb BQ hle
 by_cases hjb:j+1=b.size
 ·refine av (by simpa using hjb) ?_
  exact wC ⟨.inl ⟨_,_,rfl,T.dn M' (.inr hjb)⟩,ok⟩
 refine ay (by simpa using hjb) ?_
 obtain ⟨xa,BR,gxa⟩:=T.atA (i:=i) (by omega)
 refine wx (aQ BR (wx (jg hO ok.tb gxa T.gb T.sb (by omega) fun k hk t1 t2=>?_)))
 dsimp only
 have MB:Mc κ a.toList b.toList ((o.push xb).toList++(b.toList.drop (j+1)).take k) i (j+1+k):=M'.pushBs T.sb k (by omega) fun z hz=>eI T.sa BR (il (t1 z hz)) z (wc.mpr rfl)
 have rest:Lel κ [xa] (b.toList.drop (j+1+k)):=fun z hz y hy=>by
  rw [wc] at hz
  subst hz
  exact fP (t2 y hy)
 by_cases hk0:k > 0
 ·refine av hk0 ?_
  have MB':Mc κ a.toList b.toList (o.push xb++b.extract (j+1) (j+1+k)).toList i (j+1+k):=by rw [zV,je];exact MB
  by_cases hje:j+1+k=b.size
  ·refine av (by simpa using hje) ?_
   exact wC ⟨.inl ⟨_,_,rfl,T.dn MB' (.inr hje)⟩,ok⟩
  ·refine ay (by simpa using hje) ?_
   exact kR T MB' hi (by omega) (by omega) ok BR rest
 ·refine ay hk0 ?_
  have:k=0:=by omega
  subst this
  exact kR T M' hi (by omega) (by omega) ok BR rest
theorem kU {st Bq:SortSt}{a b o:Array Keyed}{i j g p q x:Nat}(hO:Lt1 κ prog w A s kd)(T:Two κ a b)(M:Mc κ a.toList b.toList o.toList i j)(hi:i+1 < a.size)(hj:j < b.size)(hx:x+2≤i+j)(ok:Ok kd st Bq) :
  wpS (model prog w) A E s (jp1 a b o i j p q g) (Pst (kd:=kd) κ a b x st) Bq:=by
 have la:a.toList.length=a.size:=wk
 have lb:b.toList.length=b.size:=wk
 unfold jp1
 refine wx (fO ok fun st3 ok3=>?_)
 obtain ⟨xb,BQ,gxb⟩:=T.atB hj
 refine wx (aQ BQ (wx (jg hO ok3.tb gxb T.ga T.sa (by omega) fun k hk t1 t2=>?_)))
 dsimp only
 have MA:Mc κ a.toList b.toList (o.toList++(a.toList.drop i).take k) (i+k) j:=M.pushAs T.sa k (by omega) fun z hz=>eI T.sb BQ (dW (t1 z hz)) z (wc.mpr rfl)
 have rest:Lel κ [xb] (a.toList.drop (i+k)):=fun z hz y hy=>by
  rw [wc] at hz
  subst hz
  exact eJ (t2 y hy)
 by_cases hk0:k > 0
 ·refine av hk0 ?_
  have MA':Mc κ a.toList b.toList (o++a.extract i (i+k)).toList (i+k) j:=by rw [zV,je];exact MA
  by_cases h1:i+k+1=a.size
  ·refine av (by simpa using h1) ?_
   exact wC ⟨.inl ⟨_,_,rfl,T.ls MA' h1⟩,ok3⟩
  ·refine ay (by simpa using h1) ?_
   by_cases h2:i+k=a.size
   ·refine av (by simpa using h2) ?_
    exact wC ⟨.inl ⟨_,_,rfl,T.dn MA' (.inl h2)⟩,ok3⟩
   ·refine ay (by simpa using h2) ?_
    exact kT hO T MA' (by omega) hj (by omega) ok3 BQ rest
 ·refine ay hk0 ?_
  have:k=0:=by omega
  subst this
  exact kT hO T M hi hj hx ok3 BQ rest
abbrev TS (α:Type):=StateT SortSt Sem α
abbrev T6:=Option (Array Keyed) × Array Keyed × Nat × Nat × Nat × Nat
abbrev T5:=Option (Array Keyed) × Array Keyed × Nat × Nat × Nat
def mBe {α:Type}(c:Option (Array Keyed) × α):TS (Array Keyed):=match c.1 with
 | some r=>pure r
 | none=>unsupported "internal:list.sort.merge-bound"
def mB1 (a b:Array Keyed)(g:Nat):T6→TS (ForInStep T6):=fun (_,o,i,j,p,q)=>do
 let y ← elem' b j
 let x ← elem' a i
 let w ← lt' y x
 match w with
 | some w =>
  if w=true then do
   let e ← elem' b j
   if (j+1 == b.size)=true then pure (.done (some (mDn a b (o.push e) i (j+1)),o.push e,i,j+1,0,q+1))
   else if q+1≥g then pure (.done (none,o.push e,i,j+1,0,q+1)) else pure (.yield (none,o.push e,i,j+1,0,q+1))
  else do
   let e ← elem' a i
   if (i+1+1 == a.size)=true then pure (.done (some (mLa a b (o.push e) (i+1) j),o.push e,i+1,j,p+1,0))
   else if p+1≥g then pure (.done (none,o.push e,i+1,j,p+1,0)) else pure (.yield (none,o.push e,i+1,j,p+1,0))
 | _=>pure (.done (some (mDn a b o i j),o,i,j,p,q))
def mB3 (a b:Array Keyed):MSt→TS (ForInStep MSt):=fun (_,o,i,j,g,p,q)=>if g > 1 then jp1 a b o i j p q (g - 1) else jp1 a b o i j p q g
def mB2 (a b:Array Keyed)(g:Nat):T6→TS (ForInStep T5)
 | (some r,o,i,j,_)=>pure (.done (some r,o,i,j,g))
 | (none,o,i,j,p,q)=>do
  rule "list.sort.gallop"
  match ← forIn [0:a.size+b.size] ((none,o,i,j,g+1,p,q):MSt) fun _ d=>mB3 a b d with
  | (some r,o,i,j,g,_)=>pure (.done (some r,o,i,j,g))
  | (none,o,i,j,g,_)=>do
   smg (g+1)
   pure (.yield (none,o,i,j,g+1))
def mB0 (a b:Array Keyed):T5→TS (ForInStep T5):=fun (_,o,i,j,g)=>do
 let d ← forIn [0:a.size+b.size] ((none,o,i,j,0,0):T6) fun _ d=>mB1 a b g d
 mB2 a b g d
theorem pG (a b:Array Keyed):mlo a b=(do
 rule "list.sort.merge-lo"
 let e ← elem' b 0
 if (1 == b.size)=true then pure (mDn a b #[e] 0 1)
 else if (0+1 == a.size)=true then pure (mLa a b #[e] 0 1)
 else do
  let st ← get
  let c ← forIn [0:a.size+b.size] ((none,#[e],0,1,gallopOf st):T5) fun _ c=>mB0 a b c
  mBe c):=by
 rw [rS]
 refine wR (bind _) (funext fun u=>wR (bind _) (funext fun e=>wR (ite _ _) (wR (ite _ _) (wR (bind _) (funext fun st=>?_)))))
 refine congr (wR bind (wR (forIn _ _) (funext fun x=>funext fun c=>?_))) (funext fun c=>?_)
 ·refine congr (wR bind (wR (forIn _ _) (funext fun y=>funext fun d=>rfl))) (funext fun d=>?_)
  rcases d with ⟨_ | r,d⟩
  ·refine wR (bind _) (funext fun u=>?_)
   refine congr (wR bind (wR (forIn _ _) (funext fun y=>funext fun d=>rfl))) (funext fun d=>?_)
   rcases d with ⟨_ | r,d⟩ <;> rfl
  ·rfl
 ·rcases c with ⟨_ | r,c⟩ <;> rfl
theorem pH {st:SortSt}{a b:Array Keyed}{Q:Array Keyed→SortSt→Prop}(hO:Lt1 κ prog w A s kd)(hB:TB kd st)(ga:∀ x∈a.toList,Gd κ x)(gb:∀ x∈b.toList,Gd κ x)(sa:Srt κ a.toList)(sb:Srt κ b.toList)(h0:0 < a.size)(h1:0 < b.size)
  (hf:∀ x y,a.toList[0]? = some x→b.toList[0]? = some y→lek κ y x) (hl:∀ z,a.toList[a.size - 1]? = some z→Lel κ b.toList [z])
  (hq:∀ r Bq,Ok kd st Bq→Mg κ a.toList b.toList r.toList→Q r Bq):wpS (model prog w) A E s (mlo a b) Q st:=by
 have la:a.toList.length=a.size:=wk
 have lb:b.toList.length=b.size:=wk
 have hl:∀ z,a.toList[a.toList.length - 1]? = some z→Lel κ b.toList [z]:=by rw [la];exact hl
 have atA:∀ {i:Nat},i < a.size→∃ x,a.toList[i]? = some x∧Gd κ x:=fun {i} hi=>⟨a.toList[i]'(by omega),fu (by omega),ga _ (wY _)⟩
 have atB:∀ {i:Nat},i < b.size→∃ x,b.toList[i]? = some x∧Gd κ x:=fun {i} hi=>⟨b.toList[i]'(by omega),fu (by omega),gb _ (wY _)⟩
 rw [pG]
 refine wx (AH (yC ⟨rfl,?_⟩))
 obtain ⟨y0,ey0,gy0⟩:=atB h1
 obtain ⟨x0,ex0,gx0⟩:=atA h0
 refine wx (aQ ey0 ?_)
 have M0:Mc κ a.toList b.toList [y0] 0 1:=by
  have:Mc κ a.toList b.toList ([]++[y0]) 0 (0+1):=Mc.pushB (O:=[]) (i:=0) (j:=0) ⟨yR _,.nil,(fun x hx=>by cases hx),(fun x hx=>by cases hx),xv _,xv _⟩ sb ey0 (eI sa ex0 (hf _ _ ex0 ey0))
  exact this
 have dn:∀ {o:Array Keyed} {i j:Nat},Mc κ a.toList b.toList o.toList i j→(i=a.size ∨ j=b.size)→Mg κ a.toList b.toList (mDn a b o i j).toList:=fun M h=>by rw [jc];exact M.done sa sb (by rw [la,lb];exact h)
 have ls:∀ {o:Array Keyed} {i j:Nat},Mc κ a.toList b.toList o.toList i j→i+1=a.size→Mg κ a.toList b.toList (mLa a b o i j).toList:=fun M h=>by rw [jd];exact M.last sa sb (by rw [la];exact h) hl
 by_cases hb1:1=b.size
 ·refine av (by simpa using hb1) ?_
  exact wC (hq _ _ (.refl hB) (dn (o:=#[y0]) M0 (.inr hb1)))
 refine ay (by simpa using hb1) ?_
 by_cases ha1:0+1=a.size
 ·refine av (by simpa using ha1) ?_
  exact wC (hq _ _ (.refl hB) (ls (o:=#[y0]) M0 ha1))
 refine ay (by simpa using ha1) ?_
 refine wx (zU ?_)
 refine wx (yk (xD (I:=fun x c Bq=>∃ o i j g,c=(none,o,i,j,g)∧Mc κ a.toList b.toList o.toList i j∧i+1 < a.size∧j < b.size∧x+1≤i+j∧Ok kd st Bq)
  (Q:=fun c Bq=>∃ r z,c=(some r,z)∧Mg κ a.toList b.toList r.toList∧Ok kd st Bq) ?step ?fin ⟨#[y0],0,1,_,rfl,M0,by omega,by omega,by omega,.refl hB⟩) ?post)
 case post =>
  rintro c Bq ⟨r,z,rfl,m,ok⟩
  unfold mBe
  exact wC (hq _ _ ok m)
 case fin =>
  rintro c Bq ⟨o,i,j,g,rfl,M,hi,hj,hx,ok⟩
  omega
 case step =>
  rintro x c st1 _ hx ⟨o,i,j,g,rfl,M,hi,hj,BD,ok1⟩
  unfold mB0
  dsimp only
  refine wx (yk (xD (I:=fun y c Bq=>Bq=st1∧∃ o i j p q,c=(none,o,i,j,p,q)∧Mc κ a.toList b.toList o.toList i j∧i+1 < a.size∧j < b.size∧x+1+y≤i+j)
   (Q:=fun c Bq=>Bq=st1∧((∃ r z,c=(some r,z)∧Mg κ a.toList b.toList r.toList) ∨ ∃ o i j p q,c=(none,o,i,j,p,q)∧Mc κ a.toList b.toList o.toList i j∧i+1 < a.size∧j < b.size∧x+2≤i+j)) ?step1 ?fin1 ⟨rfl,o,i,j,0,0,rfl,M,hi,hj,by omega⟩) ?post1)
  case fin1 =>
   rintro c Bq ⟨rfl,o,i,j,p,q,rfl,M,hi,hj,hy⟩
   exact ⟨rfl,.inr ⟨o,i,j,p,q,rfl,M,hi,hj,by omega⟩⟩
  case step1 =>
   rintro y c Bq _ hy ⟨rfl,o,i,j,p,q,rfl,M,hi,hj,BD⟩
   unfold mB1
   dsimp only
   obtain ⟨xb,BQ,gxb⟩:=atB hj
   obtain ⟨xa,BR,gxa⟩:=atA (i:=i) (by omega)
   refine wx (aQ BQ (wx (aQ BR (wx (gP hO ok1.tb gxb gxa ?_)))))
   cases eb:κ.blt (kof κ xb) (kof κ xa) with
   | true =>
    simp only [yK]
    refine wx (aQ BQ ?_)
    have M':Mc κ a.toList b.toList (o.push xb).toList i (j+1):=by rw [yF];exact M.pushB sb BQ (eI sa BR (nc eb))
    by_cases hjb:j+1=b.size
    ·refine av (by simpa using hjb) ?_
     exact wC ⟨rfl,.inl ⟨_,_,rfl,dn M' (.inr hjb)⟩⟩
    ·refine ay (by simpa using hjb) ?_
     by_cases hqg:q+1≥g
     ·refine av hqg ?_
      exact wC ⟨rfl,.inr ⟨_,_,_,_,_,rfl,M',hi,by omega,by omega⟩⟩
     ·refine ay hqg ?_
      exact wC ⟨rfl,_,_,_,_,_,rfl,M',hi,by omega,by omega⟩
   | false =>
    simp only [wN,xS]
    refine wx (aQ BR ?_)
    have M':Mc κ a.toList b.toList (o.push xa).toList (i+1) j:=by rw [yF];exact M.pushA sa BR (eI sb BQ (not_lt eb))
    by_cases hia:i+1+1=a.size
    ·refine av (by simpa using hia) ?_
     exact wC ⟨rfl,.inl ⟨_,_,rfl,ls M' hia⟩⟩
    ·refine ay (by simpa using hia) ?_
     by_cases hpg:p+1≥g
     ·refine av hpg ?_
      exact wC ⟨rfl,.inr ⟨_,_,_,_,_,rfl,M',by omega,hj,by omega⟩⟩
     ·refine ay hpg ?_
      exact wC ⟨rfl,_,_,_,_,_,rfl,M',by omega,hj,by omega⟩
  case post1 =>
   rintro c Bq ⟨rfl,⟨r,z,rfl,m⟩ | ⟨o,i,j,p,q,rfl,M,hi,hj,BD⟩⟩
   ·exact wC ⟨r,_,rfl,m,ok1⟩
   unfold mB2
   dsimp only
   refine wx (AH (yC ⟨rfl,?_⟩))
   refine wx (yk (xD (I:=fun y c Bq=>∃ o i j g p q,c=(none,o,i,j,g,p,q)∧Mc κ a.toList b.toList o.toList i j∧i+1 < a.size∧j < b.size∧x+2≤i+j∧Ok kd st Bq)
    (Q:=fun c Bq=>((∃ r z,c=(some r,z)∧Mg κ a.toList b.toList r.toList) ∨ ∃ o i j g p q,c=(none,o,i,j,g,p,q)∧Mc κ a.toList b.toList o.toList i j∧i+1 < a.size∧j < b.size∧x+2≤i+j)∧Ok kd st Bq) ?step2 ?fin2 ⟨o,i,j,_,p,q,rfl,M,hi,hj,BD,ok1⟩) ?post2)
   case fin2 =>
    rintro c Bq ⟨o,i,j,g,p,q,rfl,M,hi,hj,BD,ok⟩
    exact ⟨.inr ⟨o,i,j,g,p,q,rfl,M,hi,hj,BD⟩,ok⟩
   case post2 =>
    rintro c Bq ⟨⟨r,z,rfl,m⟩ | ⟨o,i,j,g,p,q,rfl,M,hi,hj,BD⟩,ok⟩
    ·exact wC ⟨r,_,rfl,m,ok⟩
    ·dsimp only
     exact wx (fO ok fun Bv ok'=>wC ⟨o,i,j,_,rfl,M,hi,hj,by omega,ok'⟩)
   case step2 =>
    rintro y c BV _ hy ⟨o,i,j,g,p,q,rfl,M,hi,hj,BD,ok2⟩
    change wpS _ _ _ _ (if g > 1 then jp1 a b o i j p q (g - 1) else jp1 a b o i j p q g) _ _
    refine yk (Q:=Pst (kd:=kd) κ a b x st) ?_ fun r Bq h=>?_
    rotate_left
    ·cases r with
     | done c=>exact h
     | yield c=>exact h
    by_cases hg:g > 1
    ·refine av hg ?_
     exact kU hO ⟨ga,gb,sa,sb,by rw [← la];exact hl⟩ M hi hj BD ok2
    ·refine ay hg ?_
     exact kU hO ⟨ga,gb,sa,sb,by rw [← la];exact hl⟩ M hi hj BD ok2
end
end Tv
namespace Tv
open PySem PyProof.Rows
def mhi:Array Keyed→Array Keyed→StateT SortSt Sem (Array Keyed):=sortPriv% PySem.Builtin.mergeHi
abbrev hDn (a b o:Array Keyed)(i j:Nat):Array Keyed:=a.extract 0 i++b.extract 0 j++o.reverse
abbrev hFb (a b o:Array Keyed)(i j:Nat):Array Keyed:=b.extract 0 j++a.extract 0 i++o.reverse
theorem rT (a b:Array Keyed):mhi a b=(do
 rule "list.sort.merge-hi"
 let mut i:=a.size - 1
 let mut j:=b.size
 let mut o:Array Keyed:=#[← elem' a i]
 if i == 0 then return hDn a b o i j
 if j == 1 then return hFb a b o i j
 let mut g:=gallopOf (← get)
 for _ in [0:a.size+b.size] do
  let mut p:=0
  let mut q:=0
  for _ in [0:a.size+b.size] do
   let some w ← lt' (← elem' b (j - 1)) (← elem' a (i - 1)) | return hDn a b o i j
   if w then
    i:=i - 1
    o:=o.push (← elem' a i)
    p:=p+1
    q:=0
    if i == 0 then return hDn a b o i j
    if p≥g then break
   else
    j:=j - 1
    o:=o.push (← elem' b j)
    q:=q+1
    p:=0
    if j == 1 then return hFb a b o i j
    if q≥g then break
  rule "list.sort.gallop"
  g:=g+1
  for _ in [0:a.size+b.size] do
   if g > 1 then g:=g - 1
   smg g
   let some t ← gal false (← elem' b (j - 1)) a 0 i (i - 1) | return hDn a b o i j
   let k:=i - t
   p:=k
   if k > 0 then
    o:=o++(a.extract t i).reverse
    i:=t
    if i == 0 then return hDn a b o i j
   j:=j - 1
   o:=o.push (← elem' b j)
   if j == 1 then return hFb a b o i j
   let some t ← gal true (← elem' a (i - 1)) b 0 j (j - 1) | return hDn a b o i j
   let k:=j - t
   q:=k
   if k > 0 then
    o:=o++(b.extract t j).reverse
    j:=t
    if j == 1 then return hFb a b o i j
    if j == 0 then return hDn a b o i j
   i:=i - 1
   o:=o.push (← elem' a i)
   if i == 0 then return hDn a b o i j
   if p < 7 && q < 7 then break
  g:=g+1
  smg g
 unsupported "internal:list.sort.merge-bound"):=rfl
variable {κ:KeyKind} {kd:SortKind}
structure Mh (κ:KeyKind) (A B R:List Keyed) (i j:Nat):Prop where
 pm:R.Perm (A.drop i++B.drop j)
 so:Srt κ R
 la:Lel κ (A.take i) R
 lb:Lel κ (B.take j) R
 hi:i≤A.length
 hj:j≤B.length
theorem Mh.pushA {A B R:List Keyed}{i j:Nat}(M:Mh κ A B R (i+1) j)(sA:Srt κ A){x:Keyed}(h:A[i]? = some x)(hx:Lel κ (B.take j) [x]):Mh κ A B (x::R) i j:=by
 have et:=ba h
 have st:=sA.take (i+1)
 rw [et] at st
 have Bq:=bf.mp st
 refine ⟨?_,yT.mpr ⟨fun y hy=>M.la x (by rw [et];simp) y hy,M.so⟩,fun y hy z hz=>?_,fun y hy z hz=>?_,by have:=M.hi;omega,M.hj⟩
 ·rw [bL h,List.cons_append]
  exact M.pm.cons x
 ·rcases wH.mp hz with rfl | hz
  ·exact Bq.2.2 y hy _ (by simp)
  ·exact M.la y (by rw [et];exact w_ _ hy) z hz
 ·rcases wH.mp hz with rfl | hz
  ·exact hx y hy _ (by simp)
  ·exact M.lb y hy z hz
theorem Mh.pushB {A B R:List Keyed}{i j:Nat}(M:Mh κ A B R i (j+1))(sB:Srt κ B){x:Keyed}(h:B[j]? = some x)(hx:Lel κ (A.take i) [x]):Mh κ A B (x::R) i j:=by
 have et:=ba h
 have st:=sB.take (j+1)
 rw [et] at st
 have Bq:=bf.mp st
 refine ⟨?_,yT.mpr ⟨fun y hy=>M.lb x (by rw [et];simp) y hy,M.so⟩,fun y hy z hz=>?_,fun y hy z hz=>?_,M.hi,by have:=M.hj;omega⟩
 ·rw [bL h]
  exact (M.pm.cons x).trans List.perm_middle.symm
 ·rcases wH.mp hz with rfl | hz
  ·exact hx y hy _ (by simp)
  ·exact M.la y hy z hz
 ·rcases wH.mp hz with rfl | hz
  ·exact Bq.2.2 y hy _ (by simp)
  ·exact M.lb y (by rw [et];exact w_ _ hy) z hz
theorem Mh.pushAs {A B R:List Keyed}{t j:Nat}(sA:Srt κ A):∀ k,Mh κ A B R (t+k) j→Lel κ (B.take j) ((A.drop t).take k)→Mh κ A B ((A.drop t).take k++R) t j
 | 0,M,_=>by simpa using M
 | k+1,M,hl=>by
  have BA:t+k < A.length:=by have:=M.hi;omega
  have e:(A.drop t)[k]? = some A[t+k]:=by rw [xx,fu BA]
  have et:(A.drop t).take (k+1)=(A.drop t).take k++[A[t+k]]:=ba e
  rw [et] at hl ⊢
  have M1:Mh κ A B (A[t+k]::R) (t+k) j:=Mh.pushA M sA (fu BA) fun y hy z hz=>hl y hy z (wG _ hz)
  have:=Mh.pushAs sA k M1 fun y hy z hz=>hl y hy z (w_ _ hz)
  rw [wt]
  exact this
theorem Mh.pushBs {A B R:List Keyed}{t i:Nat}(sB:Srt κ B):∀ k,Mh κ A B R i (t+k)→Lel κ (A.take i) ((B.drop t).take k)→Mh κ A B ((B.drop t).take k++R) i t
 | 0,M,_=>by simpa using M
 | k+1,M,hl=>by
  have BA:t+k < B.length:=by have:=M.hj;omega
  have e:(B.drop t)[k]? = some B[t+k]:=by rw [xx,fu BA]
  have et:(B.drop t).take (k+1)=(B.drop t).take k++[B[t+k]]:=ba e
  rw [et] at hl ⊢
  have M1:Mh κ A B (B[t+k]::R) i (t+k):=Mh.pushB M sB (fu BA) fun y hy z hz=>hl y hy z (wG _ hz)
  have:=Mh.pushBs sB k M1 fun y hy z hz=>hl y hy z (w_ _ hz)
  rw [wt]
  exact this
theorem Mh.perm {A B R:List Keyed}{i j:Nat}(M:Mh κ A B R i j):(A.take i++B.take j++R).Perm (A++B):=by
 have h1:(A.take i++B.take j++R).Perm (A.take i++B.take j++(A.drop i++B.drop j)):=M.pm.append_left _
 refine h1.trans ?_
 have h2:((A.take i++B.take j)++(A.drop i++B.drop j)).Perm ((A.take i++A.drop i)++(B.take j++B.drop j)):=by
  rw [wt,wt]
  refine x9 _ ?_
  rw [← wt,← wt]
  exact zp _ xJ
 rw [wW,wW] at h2
 exact h2
theorem Mh.done {A B R:List Keyed}{i j:Nat}(M:Mh κ A B R i j)(sA:Srt κ A)(sB:Srt κ B)(h:i=0 ∨ j=0):Mg κ A B (A.take i++B.take j++R):=by
 refine ⟨M.perm,bf.mpr ⟨bf.mpr ⟨sA.take i,sB.take j,fun x hx y hy=>?_⟩,M.so,fun o ho y hy=>?_⟩⟩
 ·rcases h with h | h
  ·subst h;simp at hx
  ·subst h;simp at hy
 ·rcases wL.mp ho with ho | ho
  ·exact M.la o ho y hy
  ·exact M.lb o ho y hy
theorem Mh.first {A B R:List Keyed}{i j:Nat}(M:Mh κ A B R i j)(sA:Srt κ A)(sB:Srt κ B)(h:j=1)(hf:∀ z,B[0]? = some z→Lel κ [z] A):Mg κ A B (B.take j++A.take i++R):=by
 refine ⟨List.Perm.trans (zp _ xJ) M.perm,bf.mpr ⟨bf.mpr ⟨sB.take j,sA.take i,fun x hx y hy=>?_⟩,M.so,fun o ho y hy=>?_⟩⟩
 ·subst h
  cases B with
  | nil=>simp at hx
  | cons z B =>
   have hx:x=z:=by simpa using hx
   subst hx
   exact hf x rfl x (by simp) y (xF hy)
 ·rcases wL.mp ho with ho | ho
  ·exact M.lb o ho y hy
  ·exact M.la o ho y hy
theorem ng (a b o:Array Keyed)(i j:Nat):(hDn a b o i j).toList=a.toList.take i++b.toList.take j++o.toList.reverse:=by
 simp [hDn,xN]
theorem nh (a b o:Array Keyed)(i j:Nat):(hFb a b o i j).toList=b.toList.take j++a.toList.take i++o.toList.reverse:=by
 simp [hFb,xN]
theorem kW (a:Array Keyed)(t i:Nat):((a.extract t i).reverse).toList.reverse=(a.toList.drop t).take (i - t):=by
 simp [xN]
section
variable {prog:Program} {w:World} {A:Around} {E:Value→Shared→Prop} {s:Shared}
theorem jh {st:SortSt}{lf:Bool}{key:Keyed}{arr:Array Keyed}{n:Nat}{Q:Option Nat→SortSt→Prop}(hO:Lt1 κ prog w A s kd)(hB:TB kd st)(hk:Gd κ key)(hg:∀ x∈arr.toList,Gd κ x)(sa:Srt κ arr.toList)(hn:0 < n)(hna:n≤arr.size)
  (hq:∀ k,k≤n→(∀ x∈arr.toList.take k,bdB κ lf (kof κ key) (kof κ x)=true)→(∀ x∈(arr.toList.drop k).take (n - k),bdB κ lf (kof κ key) (kof κ x)=false)→Q (some k) st) :
  wpS (model prog w) A E s (gal lf key arr 0 n (n - 1)) Q st:=by
 have hl:arr.toList.length=arr.size:=wk
 refine ik hO hB hk (fun t=>match arr.toList[t]? with | some p=>bdB κ lf (kof κ key) (kof κ p) | none=>false) (by omega) (fun t ht=>?_) (fun t u htu hu hb=>?_) (fun k hk' h1 h2=>hq k (by omega) (fun x hx=>?_) fun x hx=>?_)
 ·have BA:t < arr.toList.length:=by omega
  have e:=fu BA
  refine ⟨arr.toList[t],by rw [AQ];simpa using e,hg _ (wY BA),?_⟩
  rw [e]
 ·have h1:t < arr.toList.length:=by omega
  have h2:u < arr.toList.length:=by omega
  have e1:=fu h1
  have e2:=fu h2
  rw [e2] at hb
  rw [e1]
  exact jf (sa.at (by omega) e1 e2) hb
 ·obtain ⟨t,e⟩:=xO hx
  have ht:t < k:=by
   have:=(wo.mp e).1
   rw [wD] at this
   omega
  rw [zl,if_pos ht] at e
  have:=h1 t ht
  rw [e] at this
  exact this
 ·obtain ⟨t,e⟩:=xO hx
  have ht:t < n - k:=by
   have:=(wo.mp e).1
   rw [wD] at this
   omega
  rw [zl,if_pos ht,xx] at e
  have:=h2 (k+t) (by omega) (by omega)
  rw [e] at this
  exact this
theorem fQ {l:List Keyed}(sl:Srt κ l){i:Nat}{x y:Keyed}(e:l[i]? = some y)(h:lek κ y x):Lel κ (l.take (i+1)) [x]:=fun z hz t ht=>by
 rw [wc] at ht
 subst ht
 rw [ba e] at hz
 rcases wL.mp hz with hz | hz
 ·have st:=sl.take (i+1)
  rw [ba e] at st
  exact di ((bf.mp st).2.2 z hz y (by simp)) h
 ·rw [wc] at hz
  subst hz
  exact h
structure jT (κ:KeyKind) (a b:Array Keyed):Prop where
 ga:∀ x∈a.toList,Gd κ x
 gb:∀ x∈b.toList,Gd κ x
 sa:Srt κ a.toList
 sb:Srt κ b.toList
 hf:∀ z,b.toList[0]? = some z→Lel κ [z] a.toList
theorem jT.atA {a b:Array Keyed}(T:jT κ a b){i:Nat}(hi:i < a.size):∃ x,a.toList[i]? = some x∧Gd κ x:=⟨a.toList[i]'(by rw [wk]; exact hi),fu (by rw [wk]; exact hi),T.ga _ (wY _)⟩
theorem jT.atB {a b:Array Keyed}(T:jT κ a b){i:Nat}(hi:i < b.size):∃ x,b.toList[i]? = some x∧Gd κ x:=⟨b.toList[i]'(by rw [wk]; exact hi),fu (by rw [wk]; exact hi),T.gb _ (wY _)⟩
theorem jT.dn {a b:Array Keyed}(T:jT κ a b){o:Array Keyed}{i j:Nat}(M:Mh κ a.toList b.toList o.toList.reverse i j)(h:i=0 ∨ j=0):Mg κ a.toList b.toList (hDn a b o i j).toList:=by
 rw [ng]
 exact M.done T.sa T.sb h
theorem jT.fb {a b:Array Keyed}(T:jT κ a b){o:Array Keyed}{i j:Nat}(M:Mh κ a.toList b.toList o.toList.reverse i j)(h:j=1):Mg κ a.toList b.toList (hFb a b o i j).toList:=by
 rw [nh]
 exact M.first T.sa T.sb h T.hf
theorem dX (o:Array Keyed)(x:Keyed):(o.push x).toList.reverse=x::o.toList.reverse:=by simp
theorem kX (o:Array Keyed)(a:Array Keyed)(t i:Nat):(o++(a.extract t i).reverse).toList.reverse=(a.toList.drop t).take (i - t)++o.toList.reverse:=by
 rw [zV,List.reverse_append,kW]
abbrev HSt:=Option (Array Keyed) × Nat × Nat × Array Keyed × Nat × Nat × Nat
def hq3 (a b:Array Keyed)(i g p q j:Nat)(o:Array Keyed):StateT SortSt Sem (ForInStep HSt):=do
 let e ← elem' a (i - 1)
 if (i - 1 == 0)=true then pure (.done (some (hDn a b (o.push e) (i - 1) j),i - 1,j,o.push e,g,p,q))
 else if (decide (p < 7) && decide (q < 7))=true then pure (.done (none,i - 1,j,o.push e,g,p,q)) else pure (.yield (none,i - 1,j,o.push e,g,p,q))
def hq2 (a b:Array Keyed)(j g p q i:Nat)(o:Array Keyed):StateT SortSt Sem (ForInStep HSt):=do
 let e ← elem' b (j - 1)
 if (j - 1 == 1)=true then pure (.done (some (hFb a b (o.push e) i (j - 1)),i,j - 1,o.push e,g,p,q))
 else do
  let f ← elem' a (i - 1)
  let y ← gal true f b 0 (j - 1) (j - 1 - 1)
  match y with
  | some t=>if j - 1 - t > 0 then (if (t == 1)=true then pure (.done (some (hFb a b (o.push e++(b.extract t (j - 1)).reverse) i t),i,t,o.push e++(b.extract t (j - 1)).reverse,g,p,j - 1 - t)) else if (t == 0)=true then pure (.done (some (hDn a b (o.push e++(b.extract t (j - 1)).reverse) i t),i,t,o.push e++(b.extract t (j - 1)).reverse,g,p,j - 1 - t)) else hq3 a b i g p (j - 1 - t) t (o.push e++(b.extract t (j - 1)).reverse)) else hq3 a b i g p (j - 1 - t) (j - 1) (o.push e)
  | _=>pure (.done (some (hDn a b (o.push e) i (j - 1)),i,j - 1,o.push e,g,p,q))
def hq1 (a b:Array Keyed)(i j:Nat)(o:Array Keyed)(p q g:Nat):StateT SortSt Sem (ForInStep HSt):=do
 smg g
 let e ← elem' b (j - 1)
 let y ← gal false e a 0 i (i - 1)
 match y with
 | some t=>if i - t > 0 then (if (t == 0)=true then pure (.done (some (hDn a b (o++(a.extract t i).reverse) t j),t,j,o++(a.extract t i).reverse,g,i - t,q)) else hq2 a b j g (i - t) q t (o++(a.extract t i).reverse)) else hq2 a b j g (i - t) q i o
 | _=>pure (.done (some (hDn a b o i j),i,j,o,g,p,q))
def Hst (κ:KeyKind)(a b:Array Keyed)(x:Nat)(st:SortSt)(r:ForInStep HSt)(Bq:SortSt):Prop:=match r with
 | .done c=>((∃ r z,c=(some r,z)∧Mg κ a.toList b.toList r.toList) ∨ ∃ i j o g p q,c=(none,i,j,o,g,p,q)∧Mh κ a.toList b.toList o.toList.reverse i j∧0 < i∧1 < j∧x+2+i+j≤a.size+b.size)∧Ok kd st Bq
 | .yield c=>∃ i j o g p q,c=(none,i,j,o,g,p,q)∧Mh κ a.toList b.toList o.toList.reverse i j∧0 < i∧1 < j∧x+2+i+j≤a.size+b.size∧Ok kd st Bq
theorem kY {st Bq:SortSt}{a b o:Array Keyed}{i j g p q x:Nat}{xa:Keyed}(T:jT κ a b)(M:Mh κ a.toList b.toList o.toList.reverse i j)(hi:0 < i)(hj:1 < j)(hx:x+2+i+j≤a.size+b.size)(ok:Ok kd st Bq)(BR:a.toList[i - 1]? = some xa)(hle:Lel κ (b.toList.take j) [xa]) :
  wpS (model prog w) A E s (hq3 a b i g p q j o) (Hst (kd:=kd) κ a b x st) Bq:=by
 unfold hq3
 refine wx (aQ BR ?_)
 have M':Mh κ a.toList b.toList (o.push xa).toList.reverse (i - 1) j:=by
  rw [dX]
  exact Mh.pushA (by rw [show i - 1+1=i by omega];exact M) T.sa BR hle
 by_cases h0:i - 1=0
 ·refine av (by simpa using h0) ?_
  exact wC ⟨.inl ⟨_,_,rfl,T.dn M' (.inl h0)⟩,ok⟩
 ·refine ay (by simpa using h0) ?_
  by_cases hpq:(decide (p < 7) && decide (q < 7))=true
  ·refine av hpq ?_
   exact wC ⟨.inr ⟨_,_,_,_,_,_,rfl,M',by omega,hj,by omega⟩,ok⟩
  ·refine ay hpq ?_
   exact wC ⟨_,_,_,_,_,_,rfl,M',by omega,hj,by omega,ok⟩
theorem kZ {st Bq:SortSt}{a b o:Array Keyed}{i j g p q x:Nat}{xb:Keyed}(hO:Lt1 κ prog w A s kd)(T:jT κ a b)(M:Mh κ a.toList b.toList o.toList.reverse i j)(hi:0 < i)(hj:1 < j)(hx:x+2+i+j≤a.size+b.size)(ok:Ok kd st Bq)(BQ:b.toList[j - 1]? = some xb)(hle:Lel κ (a.toList.take i) [xb]) :
  wpS (model prog w) A E s (hq2 a b j g p q i o) (Hst (kd:=kd) κ a b x st) Bq:=by
 have la:a.toList.length=a.size:=wk
 have lb:b.toList.length=b.size:=wk
 have hia:=M.hi
 have hjb:=M.hj
 unfold hq2
 refine wx (aQ BQ ?_)
 have M':Mh κ a.toList b.toList (o.push xb).toList.reverse i (j - 1):=by
  rw [dX]
  exact Mh.pushB (by rw [show j - 1+1=j by omega];exact M) T.sb BQ hle
 by_cases h1:j - 1=1
 ·refine av (by simpa using h1) ?_
  exact wC ⟨.inl ⟨_,_,rfl,T.fb M' h1⟩,ok⟩
 refine ay (by simpa using h1) ?_
 obtain ⟨xa,BR,gxa⟩:=T.atA (i:=i - 1) (by omega)
 refine wx (aQ BR (wx (jh hO ok.tb gxa T.gb T.sb (by omega) (by omega) fun t ht t1 t2=>?_)))
 dsimp only
 have up:Lel κ (b.toList.take t) [xa]:=fun z hz y hy=>by
  rw [wc] at hy
  subst hy
  exact il (t1 z hz)
 have MB:Mh κ a.toList b.toList ((b.toList.drop t).take (j - 1 - t)++(o.push xb).toList.reverse) i t:=Mh.pushBs T.sb (j - 1 - t) (by rw [show t+(j - 1 - t)=j - 1 by omega];exact M') fun y hy z hz=>by
  have:=fQ T.sa BR (fP (t2 z hz))
  rw [show i - 1+1=i by omega] at this
  exact this y hy z (by simp)
 by_cases hk0:j - 1 - t > 0
 ·refine av hk0 ?_
  have MB':Mh κ a.toList b.toList (o.push xb++(b.extract t (j - 1)).reverse).toList.reverse i t:=by rw [kX];exact MB
  by_cases ht1:t=1
  ·refine av (by simpa using ht1) ?_
   exact wC ⟨.inl ⟨_,_,rfl,T.fb MB' ht1⟩,ok⟩
  ·refine ay (by simpa using ht1) ?_
   by_cases ht0:t=0
   ·refine av (by simpa using ht0) ?_
    exact wC ⟨.inl ⟨_,_,rfl,T.dn MB' (.inr ht0)⟩,ok⟩
   ·refine ay (by simpa using ht0) ?_
    exact kY T MB' hi (by omega) (by omega) ok BR up
 ·refine ay hk0 ?_
  have:t=j - 1:=by omega
  subst this
  exact kY T M' hi (by omega) (by omega) ok BR up
theorem k0 {st Bq:SortSt}{a b o:Array Keyed}{i j g p q x:Nat}(hO:Lt1 κ prog w A s kd)(T:jT κ a b)(M:Mh κ a.toList b.toList o.toList.reverse i j)(hi:0 < i)(hj:1 < j)(hx:x+2+i+j≤a.size+b.size)(ok:Ok kd st Bq) :
  wpS (model prog w) A E s (hq1 a b i j o p q g) (Hst (kd:=kd) κ a b x st) Bq:=by
 have la:a.toList.length=a.size:=wk
 have lb:b.toList.length=b.size:=wk
 have hia:=M.hi
 have hjb:=M.hj
 unfold hq1
 refine wx (fO ok fun st3 ok3=>?_)
 obtain ⟨xb,BQ,gxb⟩:=T.atB (i:=j - 1) (by omega)
 refine wx (aQ BQ (wx (jh hO ok3.tb gxb T.ga T.sa hi (by omega) fun t ht t1 t2=>?_)))
 dsimp only
 have up:Lel κ (a.toList.take t) [xb]:=fun z hz y hy=>by
  rw [wc] at hy
  subst hy
  exact dW (t1 z hz)
 have MA:Mh κ a.toList b.toList ((a.toList.drop t).take (i - t)++o.toList.reverse) t j:=Mh.pushAs T.sa (i - t) (by rw [show t+(i - t)=i by omega];exact M) fun y hy z hz=>by
  have:=fQ T.sb BQ (eJ (t2 z hz))
  rw [show j - 1+1=j by omega] at this
  exact this y hy z (by simp)
 by_cases hk0:i - t > 0
 ·refine av hk0 ?_
  have MA':Mh κ a.toList b.toList (o++(a.extract t i).reverse).toList.reverse t j:=by rw [kX];exact MA
  by_cases ht0:t=0
  ·refine av (by simpa using ht0) ?_
   exact wC ⟨.inl ⟨_,_,rfl,T.dn MA' (.inl ht0)⟩,ok3⟩
  ·refine ay (by simpa using ht0) ?_
   exact kZ hO T MA' (by omega) hj (by omega) ok3 BQ up
 ·refine ay hk0 ?_
  have:t=i:=by omega
  subst this
  exact kZ hO T M hi hj hx ok3 BQ up
abbrev H6:=Option (Array Keyed) × Nat × Nat × Array Keyed × Nat × Nat
abbrev H5:=Option (Array Keyed) × Nat × Nat × Array Keyed × Nat
def hB1 (a b:Array Keyed)(g:Nat):H6→TS (ForInStep H6):=fun (_,i,j,o,p,q)=>do
 let y ← elem' b (j - 1)
 let x ← elem' a (i - 1)
 let w ← lt' y x
 match w with
 | some w =>
  if w=true then do
   let e ← elem' a (i - 1)
   if (i - 1 == 0)=true then pure (.done (some (hDn a b (o.push e) (i - 1) j),i - 1,j,o.push e,p+1,0))
   else if p+1≥g then pure (.done (none,i - 1,j,o.push e,p+1,0)) else pure (.yield (none,i - 1,j,o.push e,p+1,0))
  else do
   let e ← elem' b (j - 1)
   if (j - 1 == 1)=true then pure (.done (some (hFb a b (o.push e) i (j - 1)),i,j - 1,o.push e,0,q+1))
   else if q+1≥g then pure (.done (none,i,j - 1,o.push e,0,q+1)) else pure (.yield (none,i,j - 1,o.push e,0,q+1))
 | _=>pure (.done (some (hDn a b o i j),i,j,o,p,q))
def hB3 (a b:Array Keyed):HSt→TS (ForInStep HSt):=fun (_,i,j,o,g,p,q)=>if g > 1 then hq1 a b i j o p q (g - 1) else hq1 a b i j o p q g
def hB2 (a b:Array Keyed)(g:Nat):H6→TS (ForInStep H5)
 | (some r,i,j,o,_)=>pure (.done (some r,i,j,o,g))
 | (none,i,j,o,p,q)=>do
  rule "list.sort.gallop"
  match ← forIn [0:a.size+b.size] ((none,i,j,o,g+1,p,q):HSt) fun _ d=>hB3 a b d with
  | (some r,i,j,o,g,_)=>pure (.done (some r,i,j,o,g))
  | (none,i,j,o,g,_)=>do
   smg (g+1)
   pure (.yield (none,i,j,o,g+1))
def hB0 (a b:Array Keyed):H5→TS (ForInStep H5):=fun (_,i,j,o,g)=>do
 let d ← forIn [0:a.size+b.size] ((none,i,j,o,0,0):H6) fun _ d=>hB1 a b g d
 hB2 a b g d
theorem pI (a b:Array Keyed):mhi a b=(do
 rule "list.sort.merge-hi"
 let e ← elem' a (a.size - 1)
 if (a.size - 1 == 0)=true then pure (hDn a b #[e] (a.size - 1) b.size)
 else if (b.size == 1)=true then pure (hFb a b #[e] (a.size - 1) b.size)
 else do
  let st ← get
  let c ← forIn [0:a.size+b.size] ((none,a.size - 1,b.size,#[e],gallopOf st):H5) fun _ c=>hB0 a b c
  mBe c):=by
 rw [rT]
 refine wR (bind _) (funext fun u=>wR (bind _) (funext fun e=>wR (ite _ _) (wR (ite _ _) (wR (bind _) (funext fun st=>?_)))))
 refine congr (wR bind (wR (forIn _ _) (funext fun x=>funext fun c=>?_))) (funext fun c=>?_)
 ·refine congr (wR bind (wR (forIn _ _) (funext fun y=>funext fun d=>rfl))) (funext fun d=>?_)
  rcases d with ⟨_ | r,d⟩
  ·refine wR (bind _) (funext fun u=>?_)
   refine congr (wR bind (wR (forIn _ _) (funext fun y=>funext fun d=>rfl))) (funext fun d=>?_)
   rcases d with ⟨_ | r,d⟩ <;> rfl
  ·rfl
 ·rcases c with ⟨_ | r,c⟩ <;> rfl
theorem pJ {st:SortSt}{a b:Array Keyed}{Q:Array Keyed→SortSt→Prop}(hO:Lt1 κ prog w A s kd)(hB:TB kd st)(T:jT κ a b)(h0:0 < a.size)(h1:0 < b.size)
  (hl:∀ z,a.toList[a.size - 1]? = some z→Lel κ b.toList [z])
  (hq:∀ r Bq,Ok kd st Bq→Mg κ a.toList b.toList r.toList→Q r Bq):wpS (model prog w) A E s (mhi a b) Q st:=by
 have la:a.toList.length=a.size:=wk
 have lb:b.toList.length=b.size:=wk
 rw [pI]
 refine wx (AH (yC ⟨rfl,?_⟩))
 obtain ⟨z0,ez0,gz0⟩:=T.atA (i:=a.size - 1) (by omega)
 refine wx (aQ ez0 ?_)
 have M0:Mh κ a.toList b.toList (#[z0]:Array Keyed).toList.reverse (a.size - 1) b.size:=by
  have:Mh κ a.toList b.toList [z0] (a.size - 1) b.size:=Mh.pushA (R:=[]) (by
   rw [show a.size - 1+1=a.size by omega]
   refine ⟨?_,.nil,(fun x hx y hy=>by cases hy),(fun x hx y hy=>by cases hy),by omega,by omega⟩
   rw [yS (by omega),yS (by omega)]
   exact yR _) T.sa ez0 (by rw [xm (by omega)];exact hl _ ez0)
  exact this
 by_cases ha1:a.size - 1=0
 ·refine av (by simpa using ha1) ?_
  exact wC (hq _ _ (.refl hB) (T.dn M0 (.inl ha1)))
 refine ay (by simpa using ha1) ?_
 by_cases hb1:b.size=1
 ·refine av (by simpa using hb1) ?_
  exact wC (hq _ _ (.refl hB) (T.fb M0 hb1))
 refine ay (by simpa using hb1) ?_
 refine wx (zU ?_)
 refine wx (yk (xD (I:=fun x c Bq=>∃ i j o g,c=(none,i,j,o,g)∧Mh κ a.toList b.toList o.toList.reverse i j∧0 < i∧1 < j∧x+1+i+j≤a.size+b.size∧Ok kd st Bq)
  (Q:=fun c Bq=>∃ r z,c=(some r,z)∧Mg κ a.toList b.toList r.toList∧Ok kd st Bq) ?step ?fin ⟨_,_,_,_,rfl,M0,by omega,by omega,by omega,.refl hB⟩) ?post)
 case post =>
  rintro c Bq ⟨r,z,rfl,m,ok⟩
  unfold mBe
  exact wC (hq _ _ ok m)
 case fin =>
  rintro c Bq ⟨i,j,o,g,rfl,M,hi,hj,hx,ok⟩
  omega
 case step =>
  rintro x c st1 _ hx ⟨i,j,o,g,rfl,M,hi,hj,BD,ok1⟩
  unfold hB0
  dsimp only
  refine wx (yk (xD (I:=fun y c Bq=>Bq=st1∧∃ i j o p q,c=(none,i,j,o,p,q)∧Mh κ a.toList b.toList o.toList.reverse i j∧0 < i∧1 < j∧x+1+y+i+j≤a.size+b.size)
   (Q:=fun c Bq=>Bq=st1∧((∃ r z,c=(some r,z)∧Mg κ a.toList b.toList r.toList) ∨ ∃ i j o p q,c=(none,i,j,o,p,q)∧Mh κ a.toList b.toList o.toList.reverse i j∧0 < i∧1 < j∧x+2+i+j≤a.size+b.size)) ?step1 ?fin1 ⟨rfl,i,j,o,0,0,rfl,M,hi,hj,by omega⟩) ?post1)
  case fin1 =>
   rintro c Bq ⟨rfl,i,j,o,p,q,rfl,M,hi,hj,hy⟩
   exact ⟨rfl,.inr ⟨i,j,o,p,q,rfl,M,hi,hj,by omega⟩⟩
  case step1 =>
   rintro y c Bq _ hy ⟨rfl,i,j,o,p,q,rfl,M,hi,hj,BD⟩
   unfold hB1
   dsimp only
   have hia:=M.hi
   have hjb:=M.hj
   obtain ⟨xb,BQ,gxb⟩:=T.atB (i:=j - 1) (by omega)
   obtain ⟨xa,BR,gxa⟩:=T.atA (i:=i - 1) (by omega)
   refine wx (aQ BQ (wx (aQ BR (wx (gP hO ok1.tb gxb gxa ?_)))))
   cases eb:κ.blt (kof κ xb) (kof κ xa) with
   | true =>
    simp only [yK]
    refine wx (aQ BR ?_)
    have M':Mh κ a.toList b.toList (o.push xa).toList.reverse (i - 1) j:=by
     rw [dX]
     refine Mh.pushA (by rw [show i - 1+1=i by omega];exact M) T.sa BR ?_
     have:=fQ T.sb BQ (nc eb)
     rwa [show j - 1+1=j by omega] at this
    by_cases hi0:i - 1=0
    ·refine av (by simpa using hi0) ?_
     exact wC ⟨rfl,.inl ⟨_,_,rfl,T.dn M' (.inl hi0)⟩⟩
    ·refine ay (by simpa using hi0) ?_
     by_cases hpg:p+1≥g
     ·refine av hpg ?_
      exact wC ⟨rfl,.inr ⟨_,_,_,_,_,rfl,M',by omega,hj,by omega⟩⟩
     ·refine ay hpg ?_
      exact wC ⟨rfl,_,_,_,_,_,rfl,M',by omega,hj,by omega⟩
   | false =>
    simp only [wN,xS]
    refine wx (aQ BQ ?_)
    have M':Mh κ a.toList b.toList (o.push xb).toList.reverse i (j - 1):=by
     rw [dX]
     refine Mh.pushB (by rw [show j - 1+1=j by omega];exact M) T.sb BQ ?_
     have:=fQ T.sa BR (not_lt eb)
     rwa [show i - 1+1=i by omega] at this
    by_cases hj1:j - 1=1
    ·refine av (by simpa using hj1) ?_
     exact wC ⟨rfl,.inl ⟨_,_,rfl,T.fb M' hj1⟩⟩
    ·refine ay (by simpa using hj1) ?_
     by_cases hqg:q+1≥g
     ·refine av hqg ?_
      exact wC ⟨rfl,.inr ⟨_,_,_,_,_,rfl,M',hi,by omega,by omega⟩⟩
     ·refine ay hqg ?_
      exact wC ⟨rfl,_,_,_,_,_,rfl,M',hi,by omega,by omega⟩
  case post1 =>
   rintro c Bq ⟨rfl,⟨r,z,rfl,m⟩ | ⟨i,j,o,p,q,rfl,M,hi,hj,BD⟩⟩
   ·exact wC ⟨r,_,rfl,m,ok1⟩
   unfold hB2
   dsimp only
   refine wx (AH (yC ⟨rfl,?_⟩))
   refine wx (yk (xD (I:=fun y c Bq=>∃ i j o g p q,c=(none,i,j,o,g,p,q)∧Mh κ a.toList b.toList o.toList.reverse i j∧0 < i∧1 < j∧x+2+i+j≤a.size+b.size∧Ok kd st Bq)
    (Q:=fun c Bq=>((∃ r z,c=(some r,z)∧Mg κ a.toList b.toList r.toList) ∨ ∃ i j o g p q,c=(none,i,j,o,g,p,q)∧Mh κ a.toList b.toList o.toList.reverse i j∧0 < i∧1 < j∧x+2+i+j≤a.size+b.size)∧Ok kd st Bq) ?step2 ?fin2 ⟨i,j,o,_,p,q,rfl,M,hi,hj,BD,ok1⟩) ?post2)
   case fin2 =>
    rintro c Bq ⟨i,j,o,g,p,q,rfl,M,hi,hj,BD,ok⟩
    exact ⟨.inr ⟨i,j,o,g,p,q,rfl,M,hi,hj,BD⟩,ok⟩
   case post2 =>
    rintro c Bq ⟨⟨r,z,rfl,m⟩ | ⟨i,j,o,g,p,q,rfl,M,hi,hj,BD⟩,ok⟩
    ·exact wC ⟨r,_,rfl,m,ok⟩
    ·dsimp only
     exact wx (fO ok fun Bv ok'=>wC ⟨i,j,o,_,rfl,M,hi,hj,by omega,ok'⟩)
   case step2 =>
    rintro y c BV _ hy ⟨i,j,o,g,p,q,rfl,M,hi,hj,BD,ok2⟩
    change wpS _ _ _ _ (if g > 1 then hq1 a b i j o p q (g - 1) else hq1 a b i j o p q g) _ _
    refine yk (Q:=Hst (kd:=kd) κ a b x st) ?_ fun r Bq h=>?_
    rotate_left
    ·cases r with
     | done c=>exact h
     | yield c=>exact h
    by_cases hg:g > 1
    ·refine av hg ?_
     exact k0 hO T M hi hj BD ok2
    ·refine ay hg ?_
     exact k0 hO T M hi hj BD ok2
end
end Tv
namespace Tv
open PySem PyProof.Rows
variable {κ:KeyKind} {kd:SortKind}
def SrI (κ:KeyKind)(xs:Array Keyed)(lo hi:Nat):Prop:=∀ i j,lo≤i→i≤j→j < hi→κ.kle (KK κ xs i) (KK κ xs j)
def NiI (κ:KeyKind)(xs:Array Keyed)(lo hi:Nat):Prop:=∀ i j,lo≤i→i≤j→j < hi→κ.kle (KK κ xs j) (KK κ xs i)
structure Rp (lo hi:Nat) (xs ys:Array Keyed):Prop where
 pm:ys.Perm xs
 out:∀ k,(k < lo ∨ hi≤k)→ys[k]? = xs[k]?
theorem Rp.refl (lo hi:Nat)(xs:Array Keyed):Rp lo hi xs xs:=⟨AD _,fun _ _=>rfl⟩
theorem Rp.trans {lo hi:Nat}{xs ys zs:Array Keyed}(h:Rp lo hi xs ys)(g:Rp lo hi ys zs):Rp lo hi xs zs:=⟨g.pm.trans h.pm,fun k hk=>(g.out k hk).trans (h.out k hk)⟩
theorem Rp.size {lo hi:Nat}{xs ys:Array Keyed}(h:Rp lo hi xs ys):ys.size=xs.size:=h.pm.size_eq
theorem Rp.mirror {lo hi i j:Nat}{xs:Array Keyed}(h1:lo≤i)(h2:j≤hi)(hj:j≤xs.size):Rp lo hi xs (mirror xs i j ((j - i) / 2)):=by
 refine ⟨mirror_perm _ _ _ _,fun k hk=>?_⟩
 rw [getElem?_mirror_all hj,if_neg (by omega)]
theorem Rp.bubble {lo hi src d:Nat}{xs:Array Keyed}(h1:lo+d≤src)(h2:src < hi)(hs:src < xs.size):Rp lo hi xs (bubble xs src d):=by
 refine ⟨bubble_perm _ _ _,fun k hk=>?_⟩
 rw [getElem?_bubble hs d (by omega),if_neg (by omega),if_neg (by omega)]
structure Rs (kd:SortKind) (κ:KeyKind) (lo hi:Nat) (st Bq:SortSt):Prop where
 tb:TB kd Bq
 pd:pendingOf Bq=pendingOf st
 gd:∀ x∈(arrOf Bq).toList,Gd κ x
 rp:Rp lo hi (arrOf st) (arrOf Bq)
theorem Rs.refl {lo hi:Nat}{st:SortSt}(h:TB kd st)(g:∀ x∈(arrOf st).toList,Gd κ x):Rs kd κ lo hi st st:=⟨h,rfl,g,.refl _ _ _⟩
theorem Rs.arr {lo hi:Nat}{st Bq:SortSt}(h:Rs kd κ lo hi st Bq){ys:Array Keyed}(r:Rp lo hi (arrOf Bq) ys):Rs kd κ lo hi st (setArr Bq ys) :=
 ⟨⟨h.tb.kind,h.tb.failed⟩,h.pd,fun x hx=>h.gd x ((yu.mp r.pm).mem_iff.mp hx),h.rp.trans r⟩
theorem rV {xs:Array Keyed}(g:∀ x∈xs.toList,Gd κ x){i:Nat}(hi:i < xs.size):∃ x p,xs[i]? = some (x,p)∧κ.keyOf x=some (KK κ xs i):=by
 have e:xs[i]? = some xs[i]:=AR xs i hi
 refine ⟨xs[i].1,xs[i].2,e,?_⟩
 have:=(g xs[i] (by simp)).eq
 rw [this]
 unfold KK kof
 rw [e]
section
variable {prog:Program} {w:World} {A:Around} {E:Value→Shared→Prop} {s:Shared}
theorem dF {st:SortSt}{i j:Nat}{Q:Option Bool→SortSt→Prop}(hO:Lt1 κ prog w A s kd)(hB:TB kd st)(g:∀ x∈(arrOf st).toList,Gd κ x)(hi:i < (arrOf st).size)(hj:j < (arrOf st).size)
  (h:Q (some (κ.blt (KK κ (arrOf st) i) (KK κ (arrOf st) j))) st):wpS (model prog w) A E s (ltAt' i j) Q st:=by
 obtain ⟨x,p,e1,k1⟩:=rV g hi
 obtain ⟨y,q,e2,k2⟩:=rV g hj
 have hx:Gd κ (x,p):=⟨_,k1⟩
 have hy:Gd κ (y,q):=⟨_,k2⟩
 rw [ltAt'_eq]
 refine wx (zU ?_)
 show wpS _ _ _ _ (do let x ← elem' (arrOf st) i;let y ← elem' (arrOf st) j;lt' x y) Q st
 rw [elem'_eq,elem'_eq,e1,e2]
 refine wx (wC (wx (wC (gP hO hB hx hy ?_))))
 have a1:kof κ (x,p)=_:=wA (hx.eq.symm.trans k1)
 have a2:kof κ (y,q)=_:=wA (hy.eq.symm.trans k2)
 rw [a1,a2]
 exact h
def uA (lo a nr:Nat):StateT SortSt Sem (Option Nat):=do
 let mut n:=a
 for _ in [a:nr] do
  let some sm ← ltAt' (lo+n) (lo+n - 1) | return none
  if sm then break
  n:=n+1
 return some n
def pK (lo a nr:Nat):StateT SortSt Sem (Option Nat):=do
 reverseSlice' lo (lo+a)
 uA lo a nr
def uB (lo a nr:Nat):StateT SortSt Sem (Option Nat):=do
 rule "list.sort.descending-run"
 let mut n:=a+1
 let mut e:=0
 for _ in [a+1:nr] do
  let some sm ← ltAt' (lo+n) (lo+n - 1) | return none
  if sm then
   if e > 0 then reverseSlice' (lo+n - (e+1)) (lo+n)
   e:=0
  else
   let some lg ← ltAt' (lo+n - 1) (lo+n) | return none
   if lg then break
   e:=e+1
  n:=n+1
 if e > 0 then reverseSlice' (lo+n - (e+1)) (lo+n)
 pK lo n nr
theorem k6 {xs:Array Keyed}{lo x:Nat}(a1:SrI κ xs lo (lo+x))(h1:1≤x)(e:κ.blt (KK κ xs (lo+x)) (KK κ xs (lo+x - 1))=false):SrI κ xs lo (lo+(x+1)):=fun i j hi BD hj=>by
 by_cases q:j < lo+x
 ·exact a1 i j hi BD q
 ·have:j=lo+x:=by omega
  subst this
  by_cases q2:i=lo+x
  ·subst q2;exact xR _
  ·exact yP (a1 i (lo+x - 1) hi (by omega) (by omega)) e
theorem ni {st:SortSt}{lo a nr:Nat}{Q:Option Nat→SortSt→Prop}(hO:Lt1 κ prog w A s kd)(hB:TB kd st)(g:∀ x∈(arrOf st).toList,Gd κ x)(h1:1≤a)(h2:a≤nr)(h3:lo+nr≤(arrOf st).size)(hs:SrI κ (arrOf st) lo (lo+a))
  (h:∀ n,a≤n→n≤nr→SrI κ (arrOf st) lo (lo+n)→Q (some n) st):wpS (model prog w) A E s (uA lo a nr) Q st:=by
 unfold uA
 refine wx (yk (xD (I:=fun x c Bq=>Bq=st∧c=(none,x)∧SrI κ (arrOf st) lo (lo+x))
  (Q:=fun c Bq=>Bq=st∧∃ n,c=(none,n)∧a≤n∧n≤nr∧SrI κ (arrOf st) lo (lo+n)∧(n=nr ∨ κ.klt (KK κ (arrOf st) (lo+n)) (KK κ (arrOf st) (lo+n - 1)))) ?step ?fin ⟨rfl,rfl,hs⟩) ?post)
 case fin =>
  rintro c Bq ⟨rfl,rfl,a1⟩
  have e:max a nr=nr:=by omega
  rw [e] at a1 ⊢
  exact ⟨rfl,nr,rfl,by omega,wu _,a1,.inl rfl⟩
 case step =>
  rintro x c Bq hx1 hx2 ⟨rfl,rfl,a1⟩
  dsimp only
  refine wx (dF hO hB g (by omega) (by omega) ?_)
  cases e:κ.blt (KK κ (arrOf Bq) (lo+x)) (KK κ (arrOf Bq) (lo+x - 1)) with
  | true =>
   simp only [yK]
   exact wC ⟨rfl,x,rfl,hx1,by omega,a1,.inr e⟩
  | false =>
   simp only [wN,xS]
   exact wC ⟨rfl,rfl,k6 a1 (by omega) e⟩
 case post =>
  rintro c Bq ⟨rfl,n,rfl,a1,a2,a3,a4⟩
  exact wC (h n a1 a2 a3)
theorem gQ {st Bq:SortSt}{lo a nr:Nat}{Q:Option Nat→SortSt→Prop}(hO:Lt1 κ prog w A s kd)(R:Rs kd κ lo (lo+nr) st Bq)(h1:1≤a)(h2:a≤nr)(h3:lo+nr≤(arrOf st).size)(hs:NiI κ (arrOf Bq) lo (lo+a))
  (h:∀ n Bv,1≤n→n≤nr→Rs kd κ lo (lo+nr) st Bv→SrI κ (arrOf Bv) lo (lo+n)→Q (some n) Bv):wpS (model prog w) A E s (pK lo a nr) Q Bq:=by
 have hz:=R.rp.size
 unfold pK
 refine wx (wpS_reverse ?_)
 have R':Rs kd κ lo (lo+nr) st (setArr Bq (mirror (arrOf Bq) lo (lo+a) ((lo+a - lo) / 2))):=R.arr (Rp.mirror (wu _) (by omega) (by omega))
 refine ni hO R'.tb R'.gd h1 h2 (by rw [R'.rp.size];exact h3) (fun i j hi BD hj=>?_) fun n a1 a2 a3=>h n _ (by omega) a2 R' a3
 show κ.kle (KK κ (mirror (arrOf Bq) lo (lo+a) ((lo+a - lo) / 2)) i) (KK κ (mirror (arrOf Bq) lo (lo+a) ((lo+a - lo) / 2)) j)
 rw [KK_mirror (by omega),KK_mirror (by omega),if_pos (by omega),if_pos (by omega)]
 exact hs _ _ (by omega) (by omega) (by omega)
theorem ji {st Bq:SortSt}{lo a nr:Nat}{Q:Option Nat→SortSt→Prop}(hO:Lt1 κ prog w A s kd)(R:Rs kd κ lo (lo+nr) st Bq)(h2:a+1≤nr)(h3:lo+nr≤(arrOf st).size)(hs:NiI κ (arrOf Bq) lo (lo+(a+1)))
  (h:∀ n Bv,1≤n→n≤nr→Rs kd κ lo (lo+nr) st Bv→SrI κ (arrOf Bv) lo (lo+n)→Q (some n) Bv):wpS (model prog w) A E s (uB lo a nr) Q Bq:=by
 unfold uB
 refine wx (AH (yC ⟨rfl,?_⟩))
 dsimp only
 refine wx (yk (xD (I:=fun x c Bv=>∃ e,c=(none,x,e)∧Rs kd κ lo (lo+nr) st Bv∧NiI κ (arrOf Bv) lo (lo+x)∧e+1≤x∧∀ i,lo+x - (e+1)≤i→i < lo+x→KK κ (arrOf Bv) i=KK κ (arrOf Bv) (lo+x - 1))
  (Q:=fun c Bv=>∃ x e,c=(none,x,e)∧a+1≤x∧x≤nr∧Rs kd κ lo (lo+nr) st Bv∧NiI κ (arrOf Bv) lo (lo+x)∧e+1≤x∧∀ i,lo+x - (e+1)≤i→i < lo+x→KK κ (arrOf Bv) i=KK κ (arrOf Bv) (lo+x - 1)) ?step ?fin ⟨0,rfl,R,hs,by omega,fun i h1 h2=>by congr 1;omega⟩) ?post)
 case fin =>
  rintro c Bv ⟨e,rfl,R,hs,he,hk⟩
  have ex:max (a+1) nr=nr:=by omega
  rw [ex] at hs he hk ⊢
  exact ⟨nr,e,rfl,h2,wu _,R,hs,he,hk⟩
 case post =>
  rintro c Bv ⟨x,e,rfl,hx1,hx2,R,hs,he,hk⟩
  have hz:=R.rp.size
  dsimp only
  by_cases h0:e > 0
  ·refine av h0 ?_
   refine wx (wpS_reverse ?_)
   refine gQ hO (R.arr (Rp.mirror (by omega) (by omega) (by omega))) (by omega) hx2 h3 (fun i j hi BD hj=>?_) h
   show κ.kle (KK κ (mirror (arrOf Bv) _ _ _) j) (KK κ (mirror (arrOf Bv) _ _ _) i)
   rw [zm (by omega) hk,zm (by omega) hk]
   exact hs i j hi BD hj
  ·refine ay h0 ?_
   exact gQ hO R (by omega) hx2 h3 hs h
 case step =>
  rintro x c Bv hx1 hx2 ⟨e,rfl,R,hs,he,hk⟩
  have hz:=R.rp.size
  dsimp only
  refine wx (dF hO R.tb R.gd (by omega) (by omega) ?_)
  cases e1:κ.blt (KK κ (arrOf Bv) (lo+x)) (KK κ (arrOf Bv) (lo+x - 1)) with
  | true =>
   simp only [yK]
   have nx:∀ xs:Array Keyed,(∀ k,KK κ xs k=KK κ (arrOf Bv) k)→NiI κ xs lo (lo+(x+1)):=fun xs ek i j hi BD hj=>by
    rw [ek,ek]
    by_cases q:j < lo+x
    ·exact hs i j hi BD q
    ·have:j=lo+x:=by omega
     subst this
     by_cases q2:i=lo+x
     ·subst q2;exact xR _
     ·exact yP (y7 e1) (hs i (lo+x - 1) hi (by omega) (by omega))
   by_cases h0:e > 0
   ·refine av h0 ?_
    exact wx (wpS_reverse (wC ⟨0,rfl,R.arr (Rp.mirror (by omega) (by omega) (by omega)),nx _ (zm (by omega) hk),by omega,fun i h1 h2=>by congr 1;omega⟩))
   ·refine ay h0 ?_
    exact wC ⟨0,rfl,R,nx _ fun _=>rfl,by omega,fun i h1 h2=>by congr 1;omega⟩
  | false =>
   simp only [wN,xS]
   refine wx (dF hO R.tb R.gd (by omega) (by omega) ?_)
   cases e2:κ.blt (KK κ (arrOf Bv) (lo+x - 1)) (KK κ (arrOf Bv) (lo+x)) with
   | true =>
    simp only [yK]
    exact wC ⟨x,e,rfl,hx1,by omega,R,hs,he,hk⟩
   | false =>
    simp only [wN,xS]
    have ee:KK κ (arrOf Bv) (lo+x)=KK κ (arrOf Bv) (lo+x - 1):=KeyOrd.kle_antisymm e2 e1
    refine wC ⟨e+1,rfl,R,fun i j hi BD hj=>?_,by omega,fun i h1 h2=>?_⟩
    ·by_cases q:j < lo+x
     ·exact hs i j hi BD q
     ·have:j=lo+x:=by omega
      subst this
      by_cases q2:i=lo+x
      ·subst q2;exact xR _
      ·rw [ee];exact hs i (lo+x - 1) hi (by omega) (by omega)
    ·rw [show lo+(x+1) - 1=lo+x by omega]
     by_cases q:i=lo+x
     ·subst q;rfl
     ·rw [ee];exact hk i (by omega) (by omega)
theorem nj {st:SortSt}{lo nr:Nat}{Q:Option Nat→SortSt→Prop}(hO:Lt1 κ prog w A s kd)(hB:TB kd st)(g:∀ x∈(arrOf st).toList,Gd κ x)(h1:1≤nr)(h3:lo+nr≤(arrOf st).size)
  (h:∀ n Bq,1≤n→n≤nr→Rs kd κ lo (lo+nr) st Bq→SrI κ (arrOf Bq) lo (lo+n)→Q (some n) Bq):wpS (model prog w) A E s (countRun' lo nr) Q st:=by
 have R:Rs kd κ lo (lo+nr) st st:=.refl hB g
 rw [countRun'_eq]
 change wpS _ _ _ _ (do
  let mut n:=1
  for _ in [1:nr] do
   let some sm ← ltAt' (lo+n) (lo+n - 1) | return none
   if sm then break
   n:=n+1
  if n == nr then return some n
  if n > 1 then
   let some rs ← ltAt' lo (lo+n - 1) | return none
   if rs then return some n
   reverseSlice' lo (lo+n)
  uB lo n nr) _ _
 refine wx (yk (xD (I:=fun x c Bq=>Bq=st∧c=(none,x)∧SrI κ (arrOf st) lo (lo+x))
  (Q:=fun c Bq=>Bq=st∧∃ n,c=(none,n)∧1≤n∧n≤nr∧SrI κ (arrOf st) lo (lo+n)∧(n=nr ∨ κ.klt (KK κ (arrOf st) (lo+n)) (KK κ (arrOf st) (lo+n - 1)))) ?step ?fin ⟨rfl,rfl,fun i j hi BD hj=>by have:i=j:=(by omega);subst this;exact xR _⟩) ?post)
 case fin =>
  rintro c Bq ⟨rfl,rfl,a1⟩
  have e:max 1 nr=nr:=by omega
  rw [e] at a1 ⊢
  exact ⟨rfl,nr,rfl,by omega,wu _,a1,.inl rfl⟩
 case step =>
  rintro x c Bq hx1 hx2 ⟨rfl,rfl,a1⟩
  dsimp only
  refine wx (dF hO hB g (by omega) (by omega) ?_)
  cases e:κ.blt (KK κ (arrOf Bq) (lo+x)) (KK κ (arrOf Bq) (lo+x - 1)) with
  | true =>
   simp only [yK]
   exact wC ⟨rfl,x,rfl,hx1,by omega,a1,.inr e⟩
  | false =>
   simp only [wN,xS]
   exact wC ⟨rfl,rfl,k6 a1 (by omega) e⟩
 rintro c Bq ⟨rfl,n,rfl,a1,a2,a3,a4⟩
 dsimp only
 by_cases hn:n=nr
 ·refine av (by simpa using hn) ?_
  exact wC (h n Bq a1 a2 R a3)
 ·refine ay (by simpa using hn) ?_
  have lt:κ.klt (KK κ (arrOf Bq) (lo+n)) (KK κ (arrOf Bq) (lo+n - 1)):=a4.resolve_left hn
  by_cases hg:n > 1
  ·refine av hg ?_
   refine wx (dF hO hB g (by omega) (by omega) ?_)
   cases e:κ.blt (KK κ (arrOf Bq) lo) (KK κ (arrOf Bq) (lo+n - 1)) with
   | true =>
    simp only [yK]
    exact wC (h n Bq a1 a2 R a3)
   | false =>
    simp only [wN,xS]
    refine wx (wpS_reverse ?_)
    have same:∀ i,lo≤i→i < lo+n→KK κ (arrOf Bq) i=KK κ (arrOf Bq) (lo+n - 1):=fun i hi1 hi2=>by
     have b1:=a3 i (lo+n - 1) hi1 (by omega) (by omega)
     have b2:=a3 lo i (wu _) hi1 hi2
     exact KeyOrd.kle_antisymm b1 (yP e b2)
    refine ji hO (R.arr (Rp.mirror (wu _) (by omega) (by omega))) (by omega) h3 (fun i j hi BD hj=>?_) h
    show κ.kle (KK κ (mirror (arrOf Bq) _ _ _) j) (KK κ (mirror (arrOf Bq) _ _ _) i)
    rw [zm (by omega) same,zm (by omega) same]
    by_cases q:j < lo+n
    ·rw [same i hi (by omega),same j (by omega) q]
     exact xR _
    ·have:j=lo+n:=by omega
     subst this
     by_cases q2:i=lo+n
     ·subst q2;exact xR _
     ·rw [same i hi (by omega)]
      exact y7 lt
  ·refine ay hg ?_
   have:n=1:=by omega
   subst this
   refine ji hO R (by omega) h3 (fun i j hi BD hj=>?_) h
   by_cases q2:i=j
   ·subst q2;exact xR _
   ·have e1:i=lo:=by omega
    have e2:j=lo+1:=by omega
    subst e1 e2
    exact y7 lt
end
end Tv
namespace Tv
open PySem PyProof.Rows
variable {κ:KeyKind} {kd:SortKind}
section
variable {prog:Program} {w:World} {A:Around} {E:Value→Shared→Prop} {s:Shared}
theorem nk {st:SortSt}{lo n ok:Nat}{Q:Bool→SortSt→Prop}(hO:Lt1 κ prog w A s kd)(hB:TB kd st)(g:∀ x∈(arrOf st).toList,Gd κ x)(hn:lo+n≤(arrOf st).size)(hok:ok≤n)(hs:SrI κ (arrOf st) lo (lo+ok))
  (h:∀ Bq,Rs kd κ lo (lo+n) st Bq→SrI κ (arrOf Bq) lo (lo+n)→Q true Bq):wpS (model prog w) A E s (binarySort' lo n ok) Q st:=by
 rw [binarySort'_eq]
 refine wx (yk (xD (I:=fun y c Bq=>c=(none,())∧Rs kd κ lo (lo+n) st Bq∧SrI κ (arrOf Bq) lo (lo+min y n))
  (Q:=fun c Bq=>c=(none,())∧Rs kd κ lo (lo+n) st Bq∧SrI κ (arrOf Bq) lo (lo+n)) ?step ?fin ?init) ?post)
 case post =>
  rintro c Bq ⟨rfl,R,hs'⟩
  exact wC (h Bq R hs')
 case init =>
  refine ⟨rfl,.refl hB g,fun i j hi BD hj=>?_⟩
  by_cases e:i=j
  ·subst e;exact xR _
  ·exact hs i j hi BD (by omega)
 case fin =>
  rintro c Bq ⟨hc,R,hs'⟩
  rw [show min (max (max ok 1) n) n=n by omega] at hs'
  exact ⟨hc,R,hs'⟩
 case step =>
  rintro y c Bq hy1 hy2 ⟨rfl,R,hs'⟩
  have hz:=R.rp.size
  rw [show min y n=y by omega] at hs'
  refine wx (yk (xD (I:=fun x c Bv=>Bv=Bq∧∃ l r,c=(none,l,r)∧l≤r∧r≤y∧r - l≤y - x ∧
    (∀ i,lo≤i→i < lo+l→κ.kle (KK κ (arrOf Bq) i) (KK κ (arrOf Bq) (lo+y)))∧(∀ i,lo+r≤i→i < lo+y→κ.klt (KK κ (arrOf Bq) (lo+y)) (KK κ (arrOf Bq) i)))
   (Q:=fun c Bv=>Bv=Bq∧∃ l r,c=(none,l,r)∧l≤y ∧
    (∀ i,lo≤i→i < lo+l→κ.kle (KK κ (arrOf Bq) i) (KK κ (arrOf Bq) (lo+y)))∧(∀ i,lo+l≤i→i < lo+y→κ.klt (KK κ (arrOf Bq) (lo+y)) (KK κ (arrOf Bq) i))) ?istep ?ifin ?iinit) ?ipost)
  case iinit=>exact ⟨rfl,0,y,rfl,by omega,by omega,by omega,fun i h1 h2=>by omega,fun i h1 h2=>by omega⟩
  case ifin =>
   rintro c Bv ⟨rfl,l,r,rfl,q1,q2,q3,q4,q5⟩
   have:l=r:=by omega
   subst this
   exact ⟨rfl,l,l,rfl,q2,q4,q5⟩
  case istep =>
   rintro x c Bv _ hx ⟨rfl,l,r,rfl,q1,q2,q3,q4,q5⟩
   dsimp only
   by_cases hge:l≥r
   ·refine av hge ?_
    have:l=r:=by omega
    subst this
    exact wC ⟨rfl,l,l,rfl,q2,q4,q5⟩
   ·refine ay hge ?_
    refine wx (dF hO R.tb R.gd (by omega) (by omega) ?_)
    cases e:κ.blt (KK κ (arrOf Bv) (lo+y)) (KK κ (arrOf Bv) (lo+(l+r) / 2)) with
    | true =>
     simp only [yK]
     refine wC ⟨rfl,l,(l+r) / 2,rfl,by omega,by omega,by omega,q4,fun i h1 h2=>?_⟩
     exact KeyOrd.klt_of_klt_of_kle e (hs' _ _ (by omega) h1 h2)
    | false =>
     simp only [wN,xS]
     refine wC ⟨rfl,(l+r) / 2+1,r,rfl,by omega,by omega,by omega,fun i h1 h2=>?_,q5⟩
     exact yP (hs' i (lo+(l+r) / 2) h1 (by omega) (by omega)) (show κ.kle _ _ from e)
  case ipost =>
   rintro c Bv ⟨rfl,l,r,rfl,hl,q4,q5⟩
   show wpS _ _ _ _ (do moveDown' (lo+y) (lo+l);pure (ForInStep.yield (none,()))) _ _
   rw [moveDown'_eq]
   have hk:lo+y < (arrOf Bv).size:=by omega
   refine wx (zg (wC ⟨rfl,R.arr (Rp.bubble (by omega) (by omega) hk),?_⟩))
   rw [show min (y+1) n=y+1 by omega]
   intro i j hi BD hj
   show κ.kle (KK κ (bubble (arrOf Bv) (lo+y) (lo+y - (lo+l))) i) (KK κ (bubble (arrOf Bv) (lo+y) (lo+y - (lo+l))) j)
   rw [KK_bubble hk (by omega),KK_bubble hk (by omega),show lo+y - (lo+y - (lo+l))=lo+l by omega]
   repeat' split
   all_goals first
    | (exfalso;omega)
    | exact xR _
    | exact q4 _ (by omega) (by omega)
    | exact y7 (q5 _ (by omega) (by omega))
    | exact hs' _ _ (by omega) (by omega) (by omega)
end
theorem k7:∀ (r:List Keyed) (z b:Nat) (arr:Array Keyed) (X Y Z:List Keyed),arr.toList=X++(Y++Z)→X.length=z+b→Y.length=r.length →
  ((r.zipIdx b).foldl (fun a (p,j)=>a.setIfInBounds (z+j) p) arr).toList=X++(r++Z)
 | [],z,b,arr,X,Y,Z,e,h1,h2=>by
  rw [zo.mp h2] at e
  exact e
 | p::r,z,b,arr,X,Y,Z,e,h1,h2=>by
  cases Y with
  | nil=>simp at h2
  | cons y Y =>
   rw [Av,List.foldl_cons]
   have:=k7 r z (b+1) (arr.setIfInBounds (z+b) p) (X++[p]) Y Z (by
    rw [zX,e,← h1,List.set_append_right _ _ (wu _),AE]
    simp) (by simp [h1];omega) (by simpa using h2)
   rw [this]
   simp
def mAt (i:Nat):StateT SortSt Sem Bool:=do
 let u ← get
 let (some (za,la,pw),some (zb,lb,_)):=((pendingOf u)[i]?,(pendingOf u)[i+1]?) | unsupported "internal:list.sort.pending"
 set (setPending u (((pendingOf u).setIfInBounds i (za,la+lb,pw)).eraseIdxIfInBounds (i+1)))
 let some c ← gal false (← elem' (arrOf u) zb) (arrOf u) za la 0 | return false
 let (za,la):=(za+c,la - c)
 if la == 0 then return true
 let some lb ← gal true (← elem' (arrOf u) (za+la - 1)) (arrOf u) zb lb (lb - 1) | return false
 if lb == 0 then return true
 let x:=(arrOf u).extract za zb
 let y:=(arrOf u).extract zb (zb+lb)
 let out ← if la≤lb then mlo x y else mhi x y
 modify fun v=>setArr v (out.toList.zipIdx.foldl (fun a (p,j)=>a.setIfInBounds (za+j) p) (arrOf v))
 return (failedOf (← get)).isNone
theorem rX (i:Nat):mergeAt' i=mAt i:=rfl
end Tv
namespace Tv
open PySem PyProof.Rows
variable {κ:KeyKind} {kd:SortKind}
section
variable {prog:Program} {w:World} {A:Around} {E:Value→Shared→Prop} {s:Shared}
end
end Tv
namespace HT
open PySem PySem.Spec PyProof.Rows
section
variable {prog:Program} {w:World} {A:Around} {E:Value→Shared→Prop} {s:Shared}
end
end HT
namespace L2
open PySem PySem.Spec PyProof.Rows Wd
end L2
namespace PySem
open Sem (wp)
section
variable {prog:Program} {w:World} {A:Around} {E:Value→Shared→Prop} {s:Shared}
def ddp (val:Nat→Str):Nat→List Str
 | 0=>[]
 | i+1=>if val i∈ddp val i then ddp val i else ddp val i++[val i]
theorem ip (val:Nat→Str):∀ i,(ddp val i).length≤i
 | 0=>wu _
 | i+1=>by
  have ih:=ip val i
  unfold ddp
  split
  ·omega
  ·rw [wj,yW];omega
section
variable {R:Result→Shared→Prop} {I:Addr} {fp wr:List Addr} {G:Array GenState→Array GenState→Prop} {n:Nat} {P:Nat→Value→Prop} {St:Nat→Shared→Prop}
end
abbrev sob (led:Bool):Obj:={ cls:=.type "set",dict:=none,data:=.set #[] 0 (.fresh 0 0 led) }
end
def nq (xs:Array Nat):Prop:=∀ (i j a b:Nat),i < j→xs[i]? = some a→xs[j]? = some b→a < b
theorem fR {xs:Array Nat}{j:Nat}(hr:nq xs):∀ (f lo hi:Nat),hi - lo≤f→lo≤hi→hi≤xs.size→(∀ i a,i < lo→xs[i]? = some a→a < j)→(∀ i a,hi≤i→xs[i]? = some a→j≤a) →
  SetTable.below.go xs j f lo hi≤xs.size∧(∀ i a,i < SetTable.below.go xs j f lo hi→xs[i]? = some a→a < j)∧∀ i a,SetTable.below.go xs j f lo hi≤i→xs[i]? = some a→j≤a
 | 0,lo,hi,h,h1,h2,l,u=>by
  have e:lo=hi:=by omega
  unfold SetTable.below.go
  exact ⟨by omega,l,by rw [e];exact u⟩
 | f+1,lo,hi,h,h1,h2,l,u=>by
  unfold SetTable.below.go
  by_cases BA:lo < hi
  ·rw [if_pos BA]
   have hm:(lo+hi) / 2 < xs.size:=by omega
   have em:xs[(lo+hi) / 2]? = some xs[(lo+hi) / 2]:=AR xs _ hm
   have eg:xs.getD ((lo+hi) / 2) j=xs[(lo+hi) / 2]:=by simp [Array.getD,hm]
   dsimp only
   rw [eg]
   split
   ·rename_i hx
    refine fR hr f _ _ (by omega) (by omega) h2 (fun i a hi' e=>?_) u
    by_cases q:i=(lo+hi) / 2
    ·subst q;rw [em] at e;cases e;exact hx
    ·exact Nat.lt_trans (hr i _ _ _ (by omega) e em) hx
   ·rename_i hx
    refine fR hr f _ _ (by omega) (by omega) (by omega) l (fun i a hi' e=>?_)
    by_cases q:i=(lo+hi) / 2
    ·subst q;rw [em] at e;cases e;omega
    ·have:=hr _ i _ _ (show (lo+hi) / 2 < i by omega) em e
     omega
  ·rw [if_neg BA]
   have e:lo=hi:=by omega
   exact ⟨by omega,l,by rw [e];exact u⟩
theorem nt {xs:Array Nat}(hr:nq xs)(j:Nat):SetTable.below xs j≤xs.size∧(∀ i a,i < SetTable.below xs j→xs[i]? = some a→a < j)∧∀ i a,SetTable.below xs j≤i→xs[i]? = some a→j≤a :=
 fR hr xs.size 0 xs.size (by omega) (xv _) (wu _) (fun i a h=>absurd h (Nat.not_lt_zero _)) fun i a h e=>by
  have:=(yt.mp e).1
  omega
theorem nq.put {xs:Array Nat}(hr:nq xs){j:Nat}(hn:xs[SetTable.below xs j]? ≠ some j):nq (SetTable.insertAt xs (SetTable.below xs j) j):=by
 obtain ⟨h1,h2,h3⟩:=nt hr j
 have hl:(SetTable.insertAt xs (SetTable.below xs j) j).toList=xs.toList.take (SetTable.below xs j)++j::xs.toList.drop (SetTable.below xs j):=by
  unfold SetTable.insertAt
  simp [xN,xm]
 have at_:∀ k,(SetTable.insertAt xs (SetTable.below xs j) j)[k]? = if k < SetTable.below xs j then xs[k]? else if k=SetTable.below xs j then some j else xs[k - 1]?:=fun k=>by
  rw [← xk,hl]
  have z:(xs.toList.take (SetTable.below xs j)).length=SetTable.below xs j:=by rw [wD,wk];omega
  by_cases q1:k < SetTable.below xs j
  ·rw [if_pos q1,xy (by omega),zl,if_pos q1,xk]
  ·rw [if_neg q1,wU (by omega),z]
   by_cases q2:k=SetTable.below xs j
   ·rw [if_pos q2,q2,AE]
    rfl
   ·rw [if_neg q2]
    obtain ⟨m,hm⟩:∃ m,k - SetTable.below xs j=m+1:=⟨k - SetTable.below xs j - 1,by omega⟩
    rw [hm,List.getElem?_cons_succ,xx,xk]
    congr 1
    omega
 intro i k a b hik ea eb
 rw [at_] at ea eb
 have ne:∀ m c,SetTable.below xs j≤m→xs[m]? = some c→j < c:=fun m c hm e=>by
  have l:=h3 m c hm e
  by_cases q:m=SetTable.below xs j
  ·subst q
   have:c≠j:=fun z=>hn (by rw [e,z])
   omega
  ·have hb:SetTable.below xs j < xs.size:=by have:=(yt.mp e).1;omega
   have e0:xs[SetTable.below xs j]? = some xs[SetTable.below xs j]:=AR xs _ hb
   have:=h3 _ _ (wu _) e0
   have:=hr _ m _ _ (by omega) e0 e
   omega
 split at ea
 ·rename_i c1
  split at eb
  ·exact hr i k a b hik ea eb
  ·split at eb
   ·cases eb;exact h2 i a c1 ea
   ·have:=h2 i a c1 ea
    have:=ne (k - 1) b (by omega) eb
    omega
 ·split at ea
  ·cases ea
   rw [if_neg (by omega),if_neg (by omega)] at eb
   exact ne (k - 1) b (by omega) eb
  ·rw [if_neg (by omega),if_neg (by omega)] at eb
   exact hr (i - 1) (k - 1) a b (by omega) ea eb
theorem jF (n:Nat):nq (Array.range n):=fun i j a b h ea eb=>by
 rw [Array.getElem?_range] at ea eb
 split at ea <;> split at eb <;> simp_all
theorem jk:nq #[]:=fun i j a b h ea=>by simp at ea
theorem ff {t:SetTable}(hd:t.dummies=#[])(g:Nat→Int)(h:Int):∀ (f:Nat) (p:SetTable.Probe) (j:Nat) (d:Option Nat),p.dummy=none→SetTable.probe.go t g h f p=some (.empty j d)→d=none∧t.slot j = .empty
 | 0,p,j,d,_,e=>by unfold SetTable.probe.go at e;cases e
 | f+1,p,j,d,hp,e=>by
  unfold SetTable.probe.go at e
  have hh:∀ x,SetTable.has t.dummies x=false:=fun x=>by rw [hd];unfold SetTable.has;simp
  have hs:∀ x,t.slot x ≠ .dummy:=fun x=>by
   unfold SetTable.slot
   dsimp only
   rw [hh]
   simp only [wN,xS]
   split
   ·exact fun z=>by cases z
   ·exact fun z=>by cases z
  cases hq:t.slot p.j with
  | empty =>
   rw [hq] at e
   cases e
   exact ⟨hp,hq⟩
  | dummy=>exact absurd hq (hs _)
  | live i =>
   rw [hq] at e
   have ad:(t.advance p).dummy=none:=by
    unfold SetTable.advance
    split
    ·exact hp
    ·exact hp
   dsimp only at e
   split at e
   ·cases e
   ·exact ff hd g h f _ j d ad e
theorem nu {t:SetTable}(hd:t.dummies=#[]){h:Int}{j:Nat}{b:Bool}(e:t.freeSlot h=some (j,b)):t.place[SetTable.below t.place j]? ≠ some j:=by
 unfold SetTable.freeSlot SetTable.probe at e
 split at e
 ·rename_i k d hq
  obtain ⟨rfl,hs⟩:=ff hd _ _ _ _ k d rfl hq
  cases e
  intro z
  unfold SetTable.slot at hs
  simp only [Ar] at z
  dsimp only at hs
  rw [z] at hs
  simp at hs
 ·cases e
abbrev ldr (w:World):Bool:=!w.params.followText "set-order"
theorem jG {t:SetTable}{es:Array (Int × Value)}{h:Int}{x:Value}:(layNew t es h x).2.1.led=t.led:=by
 unfold layNew
 split
 ·dsimp only
  unfold SetTable.orStandIn
  split
  ·rfl
  ·rfl
 ·rfl
theorem jH {t t':SetTable}{hs:Array Int}{w:Nat}{order:Array Nat}(h:t.relaid hs w=some (t',order)):t'.led=t.led:=by
 unfold SetTable.relaid SetTable.laid at h
 cases hq:SetTable.layClean (SetTable.sizeAbove w - 1) hs with
 | none=>rw [hq] at h;cases h
 | some o=>rw [hq] at h;cases h;rfl
theorem gR {t:SetTable}{es:Array (Int × Value)}{w:Nat}:(relayAll t es w).2.1.led=t.led:=by
 unfold relayAll
 split
 ·rename_i t' order he
  dsimp only
  split
  ·exact jH he
  ·rfl
 ·rfl
def Tk (t:SetTable):Prop:=t.dummies=#[]∧nq t.place
theorem cL {t:SetTable}{n:Nat}:Tk (t.standIn n):=⟨rfl,jF n⟩
theorem k8 {t:SetTable}{es:Array (Int × Value)}{h:Int}{x:Value}(k:Tk t):Tk (layNew t es h x).2.1:=by
 unfold layNew
 split
 ·rename_i j d hq
  dsimp only
  unfold SetTable.orStandIn
  split
  ·refine ⟨?_,k.2.put (nu k.1 hq)⟩
   have:SetTable.has t.dummies j=false:=by rw [k.1];unfold SetTable.has;simp
   show (if SetTable.has t.dummies j=true then _ else t.dummies)=#[]
   rw [this]
   simpa using k.1
  ·exact cL
 ·exact cL
theorem k9 (n:Nat)(f:Nat→Option Nat):nq ((((List.range n).filterMap fun j=>(f j).map (j,·)).map (·.1)).toArray):=by
 have key:((((List.range n).filterMap fun j=>(f j).map (j,·)).map (·.1))).Pairwise (· < ·):=by
  rw [List.pairwise_map]
  refine List.Pairwise.filterMap _ (fun a a' BA b hb b' hb'=>?_) List.pairwise_lt_range
  cases h1:f a with
  | none=>rw [h1] at hb;simp at hb
  | some x =>
   rw [h1] at hb
   cases h2:f a' with
   | none=>rw [h2] at hb';simp at hb'
   | some x' =>
    rw [h2] at hb'
    simp at hb hb'
    rw [← hb,← hb']
    exact BA
 intro i j a b BD ea eb
 rw [zC] at ea eb
 obtain ⟨h1,e1⟩:=wo.mp ea
 obtain ⟨h2,e2⟩:=wo.mp eb
 rw [← e1,← e2]
 exact yB.mp key i j h1 h2 BD
theorem iq {t:SetTable}{es:Array (Int × Value)}{w:Nat}:Tk (relayAll t es w).2.1:=by
 unfold relayAll
 split
 ·rename_i t' order he
  dsimp only
  split
  ·unfold SetTable.relaid SetTable.laid at he
   cases hq:SetTable.layClean (SetTable.sizeAbove w - 1) (es.map (·.1)) with
   | none=>rw [hq] at he;cases he
   | some o=>rw [hq] at he;cases he;exact ⟨rfl,k9 _ _⟩
  ·exact cL
 ·exact cL
section
variable {K:Type} [DecidableEq K] {prog:Program} {w:World} {knd:KeyKind prog w K} {A:Around} {E:Value→Shared→Prop} {s:Shared}
def ir {K:Type}[DecidableEq K]{prog:Program}{w:World}(knd:KeyKind prog w K)(h:Heap)(a:Addr)(dl:List K):Prop :=
 ∃ o es ep t,h.get? a=some o∧o.ExactSet∧o.data = .set es ep t∧ElemsOf knd es.toList∧(∀ k,k∈dl ↔ ∃ e∈es.toList,knd.is k e.2=true)∧es.size < scanBound∧t.fits es.size=true∧es.size=dl.length∧Tk t∧t.led=ldr w
theorem rY {a:Addr}{o:Obj}{es BE:Array (Int × Value)}{ep:Nat}{t t2:SetTable}{dl:List K}(ho:s.heap.get? a=some o)(hex:o.ExactSet)(hd:o.data = .set es ep t)(hel:ElemsOf knd BE.toList)
  (hm:∀ k,k∈dl ↔ ∃ e∈BE.toList,knd.is k e.2=true) (hb:BE.size < scanBound) (hf:t2.fits BE.size=true) (hn:BE.size=dl.length) (hp:Tk t2) (BK:t2.led=ldr w) :
  (s.heap.update a (Obj.putSet BE t2)).get? a=some { o with data:=.set BE (ep+1) t2 }∧ir knd (s.heap.update a (Obj.putSet BE t2)) a dl:=by
 have hg:(s.heap.update a (Obj.putSet BE t2)).get? a=some { o with data:=.set BE (ep+1) t2 }:=by
  have q:=yV (Obj.putSet BE t2) ho (by rw [putSet_of BE t2 hd];rfl)
  rwa [putSet_of BE t2 hd] at q
 exact ⟨hg,_,BE,ep+1,t2,hg,hex,rfl,hel,hm,hb,hf,hn,hp,BK⟩
theorem uC {a:Addr}{dl:List K}{z:K}{v:Value}{Q:Bool→Shared→Prop}(hkey:knd.is z v=true)(hsc:v.scannable=true)(hS:ir knd s.heap a dl)(hroom:dl.length+1 < scanBound)
  (h:∀ h' b,Heap.SameBut a s.heap h'→ir knd h' a (if z∈dl then dl else dl++[z])→Q b { s with heap:=h' }) :
  wpAny (model prog w) A (setAddHashed a v (knd.hash z)) Q E s:=by
 obtain ⟨o,es,ep,t,ho,hex,hd,hel,hm,hb,hf,hn,hpl,BK⟩:=hS
 unfold setAddHashed setAddHashedIn
 refine yy (we (wpAny_setState_of ho hd hf ?_))
 dsimp only
 rw [byScan_of (knd:=knd) hsc hb hel]
 simp only [↓reduceIte]
 unfold setAddByScan
 refine we (we (yC (we (wpAny_setScan_of (knd:=knd) hkey ho hd hf hel ?_))))
 cases hr:List.findIdx? (fun e=>knd.is z e.2) es.toList with
 | some j =>
  dsimp only
  obtain ⟨hj,hpj,_⟩:=List.findIdx?_eq_some_iff_getElem.mp hr
  have hz:z∈dl:=(hm z).mpr ⟨es.toList[j],wY hj,hpj⟩
  refine wJ (wJ ?_)
  have q:=h s.heap false (Heap.SameBut.refl a s.heap) (by rw [if_pos hz];exact ⟨o,es,ep,t,ho,hex,hd,hel,hm,hb,hf,hn,hpl,BK⟩)
  have e:s={ s with heap:=s.heap }:=by cases s;rfl
  rw [e];exact q
 | none =>
  dsimp only
  have hz:z∉dl:=fun hz=>by
   obtain ⟨e,he,hp⟩:=(hm z).mp hz
   have q:=List.findIdx?_eq_none_iff.mp hr e he
   rw [hp] at q
   cases q
  have hq:∀ h',Heap.SameBut a s.heap h'→ir knd h' a (dl++[z])→Q true { s with heap:=h' }:=fun h' sb hs=>h h' true sb (by rw [if_neg hz];exact hs)
  have B4:=layNew_perm t es (knd.hash z) v
  have hfits:=layNew_fits t es (knd.hash z) v
  have hoff:=k8 (es:=es) (h:=knd.hash z) (x:=v) hpl
  have hl1:(layNew t es (knd.hash z) v).2.1.led=ldr w:=jG.trans BK
  generalize hL:layNew t es (knd.hash z) v=L at B4 hfits hoff hl1 ⊢
  obtain ⟨BE,t1,wasDummy,gave⟩:=L
  dsimp only at B4 hfits hoff hl1 ⊢
  rw [yF] at B4
  have hel1:ElemsOf knd BE.toList:=(hel.push hkey hsc).perm B4
  have hm1:∀ k,k∈dl++[z] ↔ ∃ e∈BE.toList,knd.is k e.2=true:=fun k=>by
   rw [← mem_push_iff (knd:=knd) (S:=fun k=>decide (k∈dl)) hkey (fun k=>by rw [wz];exact hm k) B4 k]
   simp
  have hsz1:BE.size=(dl++[z]).length:=by rw [← wk,B4.length_eq,wj,wk,hn,wj];rfl
  have hb1:BE.size < scanBound:=by rw [hsz1,wj];exact hroom
  have tail:∀ t2:SetTable,Tk t2→t2.led=ldr w→t2.fits BE.size=true→wpAny (model prog w) A (do
    storeSet a BE t2
    if (!wasDummy && t2.tooFull)=true then do
      (match (relayAll t2 BE (SetTable.grown BE.size)).2.2 with | true=>rule "set.scan.the-table-gave-way" | false=>pure ())
      storeSet a (relayAll t2 BE (SetTable.grown BE.size)).1 (relayAll t2 BE (SetTable.grown BE.size)).2.1
      pure (some true)
     else pure (some true)) (fun r s'=>wpAny (model prog w) A (match r with | some added=>pure added | none=>setAddHashedIn a v (knd.hash z) 99999) Q E s') E s:=fun t2 hp2 hd2 hf2=>by
   refine we (wpAny_storeSet_of ho hd ?_ (fits_of_scanBound hb1))
   obtain ⟨ho1,hS1⟩:=rY ho hex hd hel1 hm1 hb1 hf2 hsz1 hp2 hd2
   have hsb1:=zR s.heap a (Obj.putSet BE t2)
   split
   ·have hp:=relayAll_perm t2 BE (SetTable.grown BE.size)
    have hfr:=relayAll_fits t2 BE (SetTable.grown BE.size)
    have hof:=iq (t:=t2) (es:=BE) (w:=SetTable.grown BE.size)
    have hof2:=(gR (t:=t2) (es:=BE) (w:=SetTable.grown BE.size)).trans hd2
    generalize relayAll t2 BE (SetTable.grown BE.size)=Rl at hp hfr hof hof2 ⊢
    obtain ⟨es2,t3,gave2⟩:=Rl
    dsimp only at hp hfr hof hof2 ⊢
    have hsz:es2.size=BE.size:=by rw [← wk,hp.length_eq,wk]
    have go:wpAny (model prog w) A (storeSet a es2 t3 >>= fun _=>pure (some true)) (fun r s'=>wpAny (model prog w) A (match r with | some added=>pure added | none=>setAddHashedIn a v (knd.hash z) 99999) Q E s') E { s with heap:=s.heap.update a (Obj.putSet BE t2) }:=by
     refine we (wpAny_storeSet_of ho1 rfl ?_ (fits_of_scanBound (by rw [hsz];exact hb1)))
     obtain ⟨_,hS2⟩:=rY (s:={ s with heap:=s.heap.update a (Obj.putSet BE t2) }) ho1 hex rfl (hel1.perm hp) (fun k=>(hm1 k).trans ⟨fun zq2=>(by obtain ⟨e,he,q⟩:=zq2;exact ⟨e,hp.mem_iff.mpr he,q⟩),fun zq1=>(by obtain ⟨e,he,q⟩:=zq1;exact ⟨e,hp.mem_iff.mp he,q⟩)⟩) (by rw [hsz];exact hb1) hfr (hsz.trans hsz1) hof hof2
     exact wJ (wJ (hq _ (hsb1.trans (zR _ a _)) hS2))
    cases gave2
    ·exact we (wJ go)
    ·exact we (yC go)
   ·exact wJ (wJ (hq _ hsb1 hS1))
  have rest:wpAny (model prog w) A (do
    let byValue ← if t1.plain=true then hashByValue 8 v else pure true
    storeSet a BE (if byValue=true then t1 else { t1 with plain:=false })
    if (!wasDummy && (if byValue=true then t1 else { t1 with plain:=false }:SetTable).tooFull)=true then do
      (match (relayAll (if byValue=true then t1 else { t1 with plain:=false }) BE (SetTable.grown BE.size)).2.2 with | true=>rule "set.scan.the-table-gave-way" | false=>pure ())
      storeSet a (relayAll (if byValue=true then t1 else { t1 with plain:=false }) BE (SetTable.grown BE.size)).1 (relayAll (if byValue=true then t1 else { t1 with plain:=false }) BE (SetTable.grown BE.size)).2.1
      pure (some true)
     else pure (some true)) (fun r s'=>wpAny (model prog w) A (match r with | some added=>pure added | none=>setAddHashedIn a v (knd.hash z) 99999) Q E s') E s:=by
   by_cases hp1:t1.plain=true
   ·rw [if_pos hp1]
    refine we ?_
    rw [hashByValue_scannable 8 hsc]
    refine wJ ?_
    cases plainKind v
    ·exact tail { t1 with plain:=false } hoff hl1 (SetTable.fits_plain_off hfits)
    ·exact tail t1 hoff hl1 hfits
   ·rw [if_neg hp1]
    refine we (wJ ?_)
    exact tail t1 hoff hl1 hfits
  cases gave
  ·exact we (wJ rest)
  ·exact we (yC rest)
theorem ir.at {h h':Heap}{a:Addr}{dl:List K}(hS:ir knd h a dl)(k:∀ o,h.get? a=some o→h'.get? a=some o):ir knd h' a dl:=by
 obtain ⟨o,es,ep,t,ho,r⟩:=hS
 exact ⟨o,es,ep,t,k o ho,r⟩
section
variable {R:Result→Shared→Prop} {I:Addr} {fp wr:List Addr} {G:Array GenState→Array GenState→Prop} {n:Nat} {P:Nat→Value→Prop} {St:Nat→Shared→Prop}
theorem rZ (dd:Nat→List K)(W:WalksS prog w A.in1 I fp wr G n P St)(S:Addr)(hSf:S∉fp)(val:Nat→K)(d1:∀ i,val i∈dd i→dd (i+1)=dd i)(d2:∀ i,val i∉dd i→dd (i+1)=dd i++[val i])(hl:∀ i,(dd i).length≤i)(B7:∀ i v,P i v→knd.is (val i) v=true∧v.scannable=true)(hb:n+1 < scanBound) :
  ∀ (k i:Nat) (s:Shared),n - i=k→i≤n→St i s→ir knd s.heap S (dd i)→(∀ s',Moved (S::wr) G s s'→ir knd s'.heap S (dd n)→R (.ok (.ret .none)) s') →
   codeAny (model prog w) A (.builtin "set.update.loop" ⟨[.ref S,.ref I],[]⟩) R s:=by
 have nw:S∉wr:=fun q=>hSf (W.sub _ q)
 have sub:∀ b∈wr,b∈S::wr:=fun b q=>wO _ q
 intro k
 induction k with
 | zero =>
  intro i s hk hi st hS hR
  obtain rfl:i=n:=by omega
  refine yG y9 ?_
  rw [zI yn _]
  show wpAny _ A.in1 (pyNext (.ref I) >>= _) _ _ s
  refine we (W.done s _ _ st fun s' mv=>?_)
  show wpAny _ A.in1 (ret Value.none) _ _ s'
  exact wJ (hR s' (mv.mono sub) (hS.at fun o q=>mv.heap S o nw q))
 | succ k ih =>
  intro i s hk hi st hS hR
  have BA:i < n:=by omega
  refine yG y9 ?_
  rw [zI yn _]
  show wpAny _ A.in1 (pyNext (.ref I) >>= _) _ _ s
  refine we (W.item i s _ _ BA st fun v s' hP Bq mv=>?_)
  obtain ⟨hk,hsc⟩:=B7 i v hP
  have hS':ir knd s'.heap S (dd i):=hS.at fun o q=>mv.heap S o nw q
  show wpAny _ A.in1 (holding [v] (setAdd S v) >>= _) _ _ s'
  refine we (yy ?_)
  unfold setAdd
  refine yy (we (knd.pyHash (k:=val i) hk ?_))
  have hl:=hl i
  refine uC (s:={ s' with toks:=s'.toks+1 }) hk hsc hS' (by omega) fun h' b sb hS2=>?_
  refine wJ ⟨plainId_quiet yn _,ih (i+1) _ (by omega) BA (W.frame _ s' _ _ Bq (Ah _) fun c hc o q=>?_) (by split at hS2;(rw [d1 i ‹_›];exact hS2);(rw [d2 i ‹_›];exact hS2)) fun s'' mv2 hS3=>?_⟩
  ·rw [sb.2 c (fun e:c=S=>hSf (e ▸ hc))];exact q
  ·refine hR s'' (Moved.trans W.gtrans ((mv.mono sub).then_heap (Ah _) fun c o hc q=>?_) mv2) hS3
   rw [sb.2 c (fun e:c=S=>hc (e ▸ wX))];exact q
end
theorem dj (a:Value){Q₁:Value→Shared→Prop}(q:Q₁ (.ref s.heap.objs.size) { s with heap:=s.heap.push (sob (ldr w)) }) :
  codeAny (model prog w) A (.call (.builtin "set.__new__") ⟨[.type "set",a],[]⟩) (wants Q₁ E) s:=by
 refine AF ?_
 show wpAny _ A.in1 (do checkBuiltinCall "set.__new__" ⟨[.type "set",a],[]⟩;again (.builtin "set.__new__" ⟨[.type "set",a],[]⟩)) _ _ s
 refine we (zQ (F.newCall_set_1 a) (wJ ⟨plainId_quiet F.plain_set_new _,yG F.entry_set_new ?_⟩))
 rw [zI F.plain_set_new _]
 unfold Builtin.«set.__new__» Builtin.Frozenset.newClass
 have hsub:=sub_set_self
 obtain ⟨hp,gn,dr,tk,os⟩:=s
 dsimp only
 wp_walk
 refine wpAny_askSetting (wJ ?_)
 dsimp only
 simp only [newObj]
 exact we (wpAny_alloc (wJ (wJ q)))
set_option maxHeartbeats 3200000 in
theorem jI (dd:Nat→List K){l:Addr}{Br:Array Value}{val:Nat→K}{Q:Value→Shared→Prop}(hh:A.handled=none)(hl:s.heap.IsList l Br)(d0:dd 0=[])(d1:∀ i,val i∈dd i→dd (i+1)=dd i)(d2:∀ i,val i∉dd i→dd (i+1)=dd i++[val i])(dl:∀ i,(dd i).length≤i)(B7:∀ (i:Nat) (v:Value),Br[i]? = some v→knd.is (val i) v=true∧v.scannable=true)(hb:Br.size+1 < scanBound)
  (h:∀ (h':Heap) (tk:Nat),ir knd h' s.heap.objs.size (dd Br.size)→(∀ b o,b < s.heap.objs.size→s.heap.get? b=some o→h'.get? b=some o)→Q (.ref s.heap.objs.size) { s with heap:=h',toks:=tk }) :
  wpAny (model prog w) A (call (.type "set") [.ref l]) Q E s:=by
 obtain ⟨c,tl,hmro⟩:=F.called_set.mro
 have hmade:=F.called_set.made
 have hsub:=F.called_set.sub
 refine wpAny_call (AF ?_)
 show wpAny _ _ (callAny (.type "set") _) _ _ _
 refine wJ ⟨z6 _ (by decide +kernel),yG F.entry_type_call ?_⟩
 rw [Around.under_plain (weight_type_call_type "set" [.ref l] []) rfl]
 have x1:=F.called_set.notType
 have x2:=F.called_set.canCreate
 have x3:=F.typeCall_set_1 (.ref l)
 repeat (any_goals (first | assumption | wp_step))
 refine zf (dj (.ref l) (E:=E) (Q₁:=fun ob s1=>ob = .ref s.heap.objs.size∧s1={ s with heap:=s.heap.push (sob (ldr w)) }) ⟨rfl,rfl⟩) fun r s1 hr=>?_
 cases r with
 | error e=>exact hr
 | ok fl =>
  cases fl with
  | ret ob =>
   obtain ⟨rfl,rfl⟩:=hr
   have gS:(s.heap.push (sob (ldr w))).get? s.heap.objs.size=some (sob (ldr w)):=wK _ rfl
   have hT:Shared.TypeIs { s with heap:=s.heap.push (sob (ldr w)) } (.ref s.heap.objs.size) "set":=⟨_,gS,rfl⟩
   have x4:=F.called_set.init.lookup
   have x5:=F.called_set.init.bind (.ref s.heap.objs.size)
   repeat (any_goals (first | assumption | wp_step))
   refine zf (codeAny_call_builtin (R:=wants (fun r s2=>r = .none∧∃ h' tk,s2={ s with heap:=h',toks:=tk }∧ir knd h' s.heap.objs.size (dd Br.size)∧(∀ b o,b < s.heap.objs.size→s.heap.get? b=some o→h'.get? b=some o)) E) F.called_set.init.plain F.entry_set_init (check_set_init_1 hT ?_)) fun r2 s2 hr2=>?_
   ·obtain ⟨⟨oc,od,odt,osl⟩,gl,hc,nl,hd⟩:=hl
    simp only at hc hd
    subst hc;subst hd
    have gl':(s.heap.push (sob (ldr w))).get? l=some { cls:=.type "list",dict:=od,data:=.seq Br nl,slots:=osl }:=wg _ gl
    have y1:=F.sub_list_set
    have y2:=F.sub_list_frozenset
    have y3:(Value.type "list" == Value.type "dict")=false:=by decide
    have L1:(s.heap.push (sob (ldr w))).IsList l Br:=⟨_,gl',rfl,nl,rfl⟩
    unfold Builtin.«set.__init__» noKeywords Builtin.Frozenset.updateFrom
    generalize hPI:pyIter=PI
    wp_walk
    subst hPI
    refine zx L1 (we (AJ ?_))
    have llt:l < s.heap.objs.size:=wI gl
    have z1:(s.heap.push (sob (ldr w))).objs.size=s.heap.objs.size+1:=zA ..
    have nI:l≠(s.heap.push (sob (ldr w))).objs.size:=by rw [z1];exact xp (y8 llt)
    have nf:s.heap.objs.size∉[(s.heap.push (sob (ldr w))).objs.size,l]:=by
     rw [z1];simp only [wH,wc,wZ,yg,not_or]
     exact ⟨xp (yw _),Az llt⟩
    refine rZ dd ((Walks.list (by simp [hh]) _ l nI Br).toS) s.heap.objs.size nf val d1 d2 dl B7 hb (Br.size - 0) 0 _ (by omega) (xv _) ⟨⟨_,wK _ rfl,rfl,rfl⟩,L1.push _⟩ ?s0 ?rr
    case s0=>exact ⟨_,#[],0,_,wg _ gS,⟨rfl,rfl,rfl⟩,rfl,fun e he=>by simp at he,fun k=>by rw [d0];simp,by decide,by rfl,by rw [d0];rfl,⟨rfl,jk⟩,rfl⟩
    case rr =>
     intro s' mv hS'
     obtain ⟨h',g',d',tk',os'⟩:=s'
     obtain rfl:g'=s.gens:=mv.gens
     obtain rfl:d'=s.drawn:=mv.drawn
     obtain rfl:os'=s.os:=mv.os
     show wpAny _ _ _ _ _ _
     refine wJ ?_
     show wpAny _ _ (ret Value.none) _ _ _
     refine wJ ⟨rfl,h',tk',rfl,hS',fun b o BA e=>mv.heap b o ?_ (wg _ (wg _ e))⟩
     simp only [wH,wc,wZ,yg,not_or]
     exact ⟨xp BA,by rw [z1];exact xp (y8 BA)⟩
   ·cases r2 with
    | error e=>exact hr2
    | ok fl2 =>
     cases fl2 with
     | ret r =>
      obtain ⟨rfl,h',tk,rfl,hS',hk'⟩:=hr2
      repeat (any_goals (first | assumption | wp_step))
      exact h _ _ hS' hk'
     | _=>exact hr2.elim
  | _=>exact hr.elim
abbrev pL (prog:Program)(w:World)(h:Heap)(a:Addr)(dl:List Str):Prop:=ir (strKind prog w) h a dl
theorem k_ {l:Addr}{Br:Array Value}{val:Nat→Str}{Q:Value→Shared→Prop}(hh:A.handled=none)(hl:s.heap.IsList l Br)(B7:∀ (i:Nat) (v:Value),Br[i]? = some v→∃ t,v = .str (val i) t)(hb:Br.size+1 < scanBound)
  (h:∀ (h':Heap) (tk:Nat),pL prog w h' s.heap.objs.size (ddp val Br.size)→(∀ b o,b < s.heap.objs.size→s.heap.get? b=some o→h'.get? b=some o)→Q (.ref s.heap.objs.size) { s with heap:=h',toks:=tk }) :
  wpAny (model prog w) A (call (.type "set") [.ref l]) Q E s :=
 jI (knd:=strKind prog w) (ddp val) hh hl (by unfold ddp;rfl) (fun i m=>by rw [ddp,if_pos m]) (fun i m=>by rw [ddp,if_neg m]) (ip val) (fun i v e=>by obtain ⟨t,rfl⟩:=B7 i v e;exact ⟨strKind_is _ _ _ _,rfl⟩) hb h
end
section
variable {prog:Program} {w:World} {A:Around} {E:Value→Shared→Prop} {s:Shared}
end
end PySem
namespace Tv
open PySem PyProof.Rows
variable {κ:KeyKind} {kd:SortKind}
theorem Lel.sym_take {l:List Keyed}(h:Srt κ l)(i:Nat):Lel κ (l.take i) (l.drop i):=by
 have:Srt κ (l.take i++l.drop i):=by rw [wW];exact h
 exact (bf.mp this).2.2
theorem Lel.memL {l l' m:List Keyed}(h:Lel κ l m)(hs:∀ x∈l',x∈l):Lel κ l' m:=fun x hx y hy=>h x (hs x hx) y hy
theorem Lel.memR {l m m':List Keyed}(h:Lel κ l m)(hs:∀ x∈m',x∈m):Lel κ l m':=fun x hx y hy=>h x hx y (hs y hy)
theorem Lel.mid {l m:List Keyed}{x:Keyed}(h:Lel κ l [x])(g:Lel κ [x] m):Lel κ l m:=fun a ha b hb=>di (h a ha x (wc.mpr rfl)) (g x (wc.mpr rfl) b hb)
theorem fS {l:List Keyed}{x:Keyed}(h:Srt κ l)(e:l[0]? = some x):Lel κ [x] l:=fun a ha y hy=>by
 rw [wc] at ha
 subst ha
 obtain ⟨i,hi⟩:=xO hy
 exact h.at (xv _) e hi
theorem lh {l:List Keyed}{x:Keyed}(h:Srt κ l)(e:l[l.length - 1]? = some x):Lel κ l [x]:=fun a ha y hy=>by
 rw [wc] at hy
 subst hy
 obtain ⟨i,hi⟩:=xO ha
 have:=(wo.mp hi).1
 exact h.at (by omega) hi e
theorem pM {l m n:List Keyed}:Lel κ (l++m) n ↔ Lel κ l n∧Lel κ m n :=
 ⟨fun h=>⟨h.memL fun x hx=>w_ _ hx,h.memL fun x hx=>wG _ hx⟩,fun h x hx=>(wL.mp hx).elim (h.1 x) (h.2 x)⟩
theorem jl {l m n:List Keyed}:Lel κ l (m++n) ↔ Lel κ l m∧Lel κ l n :=
 ⟨fun h=>⟨h.memR fun x hx=>w_ _ hx,h.memR fun x hx=>wG _ hx⟩,fun h x hx y hy=>(wL.mp hy).elim (h.1 x hx y) (h.2 x hx y)⟩
theorem r6 {A B r:List Keyed}{c m:Nat}{b0 al:Keyed}(sA:Srt κ A)(sB:Srt κ B)(e0:B[0]? = some b0)(el:A[A.length - 1]? = some al)
  (h1:Lel κ (A.take c) [b0]) (h2:Lel κ [al] (B.drop m)) (M:Mg κ (A.drop c) (B.take m) r):Mg κ A B (A.take c++(r++B.drop m)):=by
 have mm:∀ x,x∈r ↔ x∈A.drop c++B.take m:=fun x=>M.1.mem_iff
 refine ⟨?_,bf.mpr ⟨sA.take c,bf.mpr ⟨M.2,sB.drop m,?_⟩,jl.mpr ⟨?_,?_⟩⟩⟩
 ·have:(A.take c++(r++B.drop m)).Perm (A.take c++((A.drop c++B.take m)++B.drop m)):=x9 _ (M.1.append_right _)
  refine this.trans (List.Perm.of_eq ?_)
  rw [wt,← wt,wW,wW]
 ·refine Lel.memL (l:=A.drop c++B.take m) (pM.mpr ⟨?_,Lel.sym_take sB m⟩) fun x hx=>(mm x).mp hx
  exact Lel.mid ((lh sA el).memL fun x hx=>yi hx) h2
 ·refine Lel.memR (m:=A.drop c++B.take m) (jl.mpr ⟨Lel.sym_take sA c,?_⟩) fun x hx=>(mm x).mp hx
  exact Lel.mid h1 ((fS sB e0).memR fun x hx=>xF hx)
 ·exact Lel.mid h1 ((fS sB e0).memR fun x hx=>yi hx)
section
variable {prog:Program} {w:World} {A:Around} {E:Value→Shared→Prop} {s:Shared}
theorem pN {st u:SortSt}{Q:PUnit→SortSt→Prop}(h:Q ⟨⟩ u):wpS (model prog w) A E s (set u:StateT SortSt Sem PUnit) Q st:=by
 unfold wpS
 rw [StateT.run_set]
 exact wJ ⟨rfl,h⟩
theorem jm {st:SortSt}{lf:Bool}{key:Keyed}{arr:Array Keyed}{P M S:List Keyed}{z n h:Nat}{Q:Option Nat→SortSt→Prop}(hO:Lt1 κ prog w A s kd)(hB:TB kd st)(hk:Gd κ key)(hg:∀ x∈arr.toList,Gd κ x)(ea:arr.toList=P++(M++S))(lp:P.length=z)(ln:M.length=n)(sa:Srt κ M)(hh:h < n)
  (hq:∀ k,k≤n→(∀ x∈M.take k,bdB κ lf (kof κ key) (kof κ x)=true)→(∀ x∈M.drop k,bdB κ lf (kof κ key) (kof κ x)=false)→Q (some k) st) :
  wpS (model prog w) A E s (gal lf key arr z n h) Q st:=by
 have ga:∀ i,i < n→arr[z+i]? = M[i]?:=fun i hi=>by
  rw [← xk,ea,wU (by omega),xy (by omega)]
  congr 1
  omega
 have gm:∀ x∈M,Gd κ x:=fun x hx=>hg x (by rw [ea];exact wG _ (w_ _ hx))
 refine ik hO hB hk (fun t=>match M[t]? with | some p=>bdB κ lf (kof κ key) (kof κ p) | none=>false) hh (fun t ht=>?_) (fun t u htu hu hb=>?_) (fun k hk' h1 h2=>hq k hk' (fun x hx=>?_) fun x hx=>?_)
 ·have BA:t < M.length:=by omega
  have e:=fu BA
  exact ⟨M[t],by rw [ga t ht,e],gm _ (wY _),by rw [e]⟩
 ·have e1:=fu (l:=M) (i:=t) (by omega)
  have e2:=fu (l:=M) (i:=u) (by omega)
  rw [e1]
  rw [e2] at hb
  have le:=sa.at htu e1 e2
  dsimp only at hb ⊢
  cases lf with
  | true=>exact KeyOrd.klt_of_kle_of_klt le hb
  | false =>
   have le2:=di le (dW hb)
   show (!κ.blt _ _)=true
   rw [show κ.blt (kof κ key) (kof κ M[t])=false from le2]
   rfl
 ·obtain ⟨i,hi⟩:=xO hx
  have l1:=(wo.mp hi).1
  rw [wD] at l1
  rw [xG (by omega)] at hi
  have:=h1 i (by omega)
  rw [hi] at this
  exact this
 ·obtain ⟨i,hi⟩:=xO hx
  rw [xx] at hi
  have l1:=(wo.mp hi).1
  have:=h2 (k+i) (by omega) (by omega)
  rw [hi] at this
  exact this
theorem lq {arr:Array Keyed}{P M S:List Keyed}{i j:Nat}(e:arr.toList=P++(M++S))(h1:P.length=i)(h2:j=i+M.length):(arr.extract i j).toList=M:=by
 rw [xN,e,List.extract_eq_drop_take,← h1,List.drop_left,h2,← h1,yL,List.take_left]
theorem pO {st:SortSt}{i z na nb pw pw2:Nat}{P Aa B S:List Keyed}{Q:Bool→SortSt→Prop}(hO:Lt1 κ prog w A s kd)(hB:TB kd st)(g:∀ x∈(arrOf st).toList,Gd κ x)(e1:(pendingOf st)[i]? = some (z,na,pw))(e2:(pendingOf st)[i+1]? = some (z+na,nb,pw2))
  (ea:(arrOf st).toList=P++(Aa++(B++S))) (lp:P.length=z) (la:Aa.length=na) (lb:B.length=nb) (h0:0 < na) (h1:0 < nb) (sA:Srt κ Aa) (sB:Srt κ B)
  (h:∀ Bq R,TB kd Bq→pendingOf Bq=((pendingOf st).setIfInBounds i (z,na+nb,pw)).eraseIdxIfInBounds (i+1)→(arrOf Bq).toList=P++(R++S)→Mg κ Aa B R→Q true Bq):wpS (model prog w) A E s (mergeAt' i) Q st:=by
 have eb:(arrOf st).toList=(P++Aa)++(B++S):=by rw [ea,wt]
 rw [rX]
 unfold mAt
 refine wx (zU ?_)
 rw [e1,e2]
 dsimp only
 refine wx (pN ?_)
 have hB':TB kd (setPending st (((pendingOf st).setIfInBounds i (z,na+nb,pw)).eraseIdxIfInBounds (i+1))):=⟨hB.kind,hB.failed⟩
 generalize hst':setPending st (((pendingOf st).setIfInBounds i (z,na+nb,pw)).eraseIdxIfInBounds (i+1))=Bq at hB' ⊢
 have hp':pendingOf Bq=((pendingOf st).setIfInBounds i (z,na+nb,pw)).eraseIdxIfInBounds (i+1):=by rw [← hst']
 have har:arrOf Bq=arrOf st:=by rw [← hst']
 obtain ⟨b0,eb0⟩:∃ b0,B[0]? = some b0:=⟨_,fu (by omega)⟩
 obtain ⟨al,eal⟩:∃ al,Aa[Aa.length - 1]? = some al:=⟨_,fu (by omega)⟩
 have gA:∀ x∈Aa,Gd κ x:=fun x hx=>g x (by rw [ea];simp [hx])
 have gB:∀ x∈B,Gd κ x:=fun x hx=>g x (by rw [ea];simp [hx])
 have x0:(arrOf st).toList[z+na]? = some b0:=by
  rw [eb,wU (by simp;omega),xy (by simp;omega)]
  rw [show z+na - (P++Aa).length=0 by simp;omega]
  exact eb0
 have xl:(arrOf st).toList[z+na - 1]? = some al:=by
  rw [ea,wU (by omega),xy (by omega)]
  rw [show z+na - 1 - P.length=Aa.length - 1 by omega]
  exact eal
 refine wx (aQ x0 ?_)
 refine wx (jm hO hB' (gB b0 (xt eb0)) g ea lp la sA h0 fun c hc t1 t2=>?_)
 dsimp only
 have k1:Lel κ (Aa.take c) [b0]:=fun x hx y hy=>by
  rw [wc] at hy
  subst hy
  exact dW (t1 x hx)
 have k2:Lel κ [b0] (Aa.drop c):=fun x hx y hy=>by
  rw [wc] at hx
  subst hx
  exact eJ (t2 y hy)
 by_cases hc0:na - c=0
 ·refine av (by simpa using hc0) ?_
  have:Aa.take c=Aa:=xm (by omega)
  rw [this] at k1
  exact wC (h Bq (Aa++B) hB' hp' (by rw [har,ea,wt]) ⟨yR _,bf.mpr ⟨sA,sB,k1.mid (fS sB eb0)⟩⟩)
 ·refine ay (by simpa using hc0) ?_
  rw [show z+c+(na - c) - 1=z+na - 1 by omega]
  refine wx (aQ xl ?_)
  refine wx (jm hO hB' (gA al (xt eal)) g eb (by simp;omega) lb sB (by omega) fun m hm u1 u2=>?_)
  dsimp only
  have k3:Lel κ (B.take m) [al]:=fun x hx y hy=>by
   rw [wc] at hy
   subst hy
   exact il (u1 x hx)
  have k4:Lel κ [al] (B.drop m):=fun x hx y hy=>by
   rw [wc] at hx
   subst hx
   exact fP (u2 y hy)
  by_cases hm0:m=0
  ·refine av (by simpa using hm0) ?_
   subst hm0
   exact wC (h Bq (Aa++B) hB' hp' (by rw [har,ea,wt]) ⟨yR _,bf.mpr ⟨sA,sB,(lh sA eal).mid k4⟩⟩)
  ·refine ay (by simpa using hm0) ?_
   have ec:(arrOf st).toList=(P++Aa.take c)++(Aa.drop c++(B++S)):=by
    rw [ea]
    conv=>lhs;rw [← wW c Aa]
    simp only [wt]
   have ed:(arrOf st).toList=(P++Aa)++(B.take m++(B.drop m++S)):=by
    rw [eb]
    conv=>lhs;rw [← wW m B]
    simp only [wt]
   have ex:((arrOf st).extract (z+c) (z+na)).toList=Aa.drop c:=lq ec (by simp;omega) (by simp;omega)
   have ey:((arrOf st).extract (z+na) (z+na+m)).toList=B.take m:=lq ed (by simp;omega) (by simp;omega)
   have sx:((arrOf st).extract (z+c) (z+na)).size=na - c:=by rw [← wk,ex];simp;omega
   have sy:((arrOf st).extract (z+na) (z+na+m)).size=m:=by rw [← wk,ey];simp;omega
   generalize (arrOf st).extract (z+c) (z+na)=x at ex sx ⊢
   generalize (arrOf st).extract (z+na) (z+na+m)=y at ey sy ⊢
   have ga:∀ t∈x.toList,Gd κ t:=fun t ht=>gA t (by rw [ex] at ht;exact yi ht)
   have gb:∀ t∈y.toList,Gd κ t:=fun t ht=>gB t (by rw [ey] at ht;exact xF ht)
   have sx':Srt κ x.toList:=by rw [ex];exact sA.drop c
   have sy':Srt κ y.toList:=by rw [ey];exact sB.take m
   have y0:y.toList[0]? = some b0:=by rw [ey,xG (by omega)];exact eb0
   have xn:x.toList[x.size - 1]? = some al:=by
    rw [ex,xx,sx,show c+(na - c - 1)=Aa.length - 1 by omega]
    exact eal
   have fin:∀ (r:Array Keyed) (BV:SortSt),Ok kd Bq BV→Mg κ x.toList y.toList r.toList→wpS (model prog w) A E s (do
     modify fun v=>setArr v (r.toList.zipIdx.foldl (fun a (p,j)=>a.setIfInBounds (z+c+j) p) (arrOf v))
     return (failedOf (← get)).isNone:StateT SortSt Sem Bool) Q BV:=fun r BV ok M=>by
    rw [ex,ey] at M
    have lr:r.toList.length=(Aa.drop c++B.take m).length:=M.1.length_eq
    refine wx (zg ?_)
    refine wx (zU ?_)
    refine wC ?_
    have hf:failedOf (setArr BV (r.toList.zipIdx.foldl (fun a (p,j)=>a.setIfInBounds (z+c+j) p) (arrOf BV)))=none:=ok.tb.failed
    rw [hf]
    refine h _ (Aa.take c++(r.toList++B.drop m)) ⟨ok.tb.kind,ok.tb.failed⟩ (ok.pd.trans hp') ?_ (r6 sA sB eb0 eal k1 k4 M)
    show (r.toList.zipIdx.foldl (fun a (p,j)=>a.setIfInBounds (z+c+j) p) (arrOf BV)).toList=_
    rw [k7 r.toList (z+c) 0 (arrOf BV) (P++Aa.take c) (Aa.drop c++B.take m) (B.drop m++S) (by
     rw [ok.ar,har,ea]
     conv=>lhs;rw [← wW c Aa,← wW m B]
     simp only [wt]) (by simp;omega) lr.symm]
    simp only [wt]
   by_cases hle:na - c≤m
   ·refine av hle ?_
    refine wx (pH hO hB' ga gb sx' sy' (by omega) (by omega) (fun p q hp hq=>?_) (fun t ht=>?_) fun r BV ok M=>fin r BV ok M)
    ·rw [y0] at hq
     cases hq
     rw [ex] at hp
     exact k2 _ (wc.mpr rfl) _ (xt hp)
    ·rw [xn] at ht
     cases ht
     rw [ey]
     exact k3
   ·refine ay hle ?_
    refine wx (pJ hO hB' ⟨ga,gb,sx',sy',fun t ht=>?_⟩ (by omega) (by omega) (fun t ht=>?_) fun r BV ok M=>fin r BV ok M)
    ·rw [y0] at ht
     cases ht
     rw [ex]
     exact k2
    ·rw [xn] at ht
     cases ht
     rw [ey]
     exact k3
end
end Tv
namespace Tv
open PySem PyProof.Rows
variable {κ:KeyKind} {kd:SortKind}
def PdL (κ:KeyKind):Nat→List (Nat × Nat × Nat)→List (List Keyed)→Prop
 | _,[],[]=>True
 | z,p::ps,r::rs=>p.1=z∧p.2.1=r.length∧0 < r.length∧Srt κ r∧PdL κ (z+r.length) ps rs
 | _,_,_=>False
theorem PdL.app:∀ {p q:List (Nat × Nat × Nat)} {z:Nat} {rs:List (List Keyed)},PdL κ z (p++q) rs→∃ r1 r2,rs=r1++r2∧r1.length=p.length∧PdL κ z p r1∧PdL κ (z+r1.flatten.length) q r2
 | [],q,z,rs,h=>⟨[],rs,rfl,rfl,trivial,h⟩
 | _::_,q,z,[],h=>h.elim
 | _::p,q,z,r::rs,h=>by
  obtain ⟨a1,a2,a3,a4,a5⟩:=h
  obtain ⟨r1,r2,e,l,b1,b2⟩:=PdL.app a5
  refine ⟨r::r1,r2,by rw [e];rfl,by simp [l],⟨a1,a2,a3,a4,b1⟩,?_⟩
  rw [yH,wj,← AL]
  exact b2
theorem PdL.join:∀ {p q:List (Nat × Nat × Nat)} {z:Nat} {r1 r2:List (List Keyed)},PdL κ z p r1→PdL κ (z+r1.flatten.length) q r2→PdL κ z (p++q) (r1++r2)
 | [],q,z,[],r2,_,h=>h
 | [],q,z,_::_,r2,h,_=>h.elim
 | _::_,q,z,[],r2,h,_=>h.elim
 | _::p,q,z,r::r1,r2,h,g=>by
  obtain ⟨a1,a2,a3,a4,a5⟩:=h
  rw [yH,wj,← AL] at g
  exact ⟨a1,a2,a3,a4,PdL.join a5 g⟩
theorem PdL.len:∀ {p:List (Nat × Nat × Nat)} {z:Nat} {rs:List (List Keyed)},PdL κ z p rs→p.length≤rs.flatten.length
 | [],z,[],_=>xv _
 | [],z,_::_,h=>h.elim
 | _::_,z,[],h=>h.elim
 | _::p,z,r::rs,h=>by
  obtain ⟨a1,a2,a3,a4,a5⟩:=h
  have:=PdL.len a5
  rw [yH,wj,xu]
  omega
theorem PdL.same:∀ {p q:List (Nat × Nat × Nat)} {z:Nat} {rs:List (List Keyed)},PdL κ z p rs→q.map (fun t=>(t.1,t.2.1))=p.map (fun t=>(t.1,t.2.1))→PdL κ z q rs
 | [],[],z,rs,h,_=>h
 | [],_::_,z,rs,_,e=>by simp at e
 | _::_,[],z,rs,_,e=>by simp at e
 | _::_,_::_,z,[],h,_=>h.elim
 | x::p,y::q,z,r::rs,h,e=>by
  obtain ⟨a1,a2,a3,a4,a5⟩:=h
  simp only [xX,zj,Prod.mk.injEq] at e
  exact ⟨e.1.1.trans a1,e.1.2.trans a2,a3,a4,PdL.same a5 e.2⟩
theorem lu {f:Nat × Nat × Nat→Nat × Nat × Nat}(hf:∀ t,(f t).1=t.1∧(f t).2.1=t.2.1):∀ (l:List (Nat × Nat × Nat)) (i:Nat),(l.modify i f).map (fun t=>(t.1,t.2.1))=l.map (fun t=>(t.1,t.2.1))
 | [],i=>by cases i <;> rfl
 | x::l,0=>by
  show ((f x).1,(f x).2.1)::_=_
  rw [(hf x).1,(hf x).2]
  rfl
 | x::l,i+1=>by
  show (x.1,x.2.1)::(l.modify i f).map _=_
  rw [lu hf l i]
  rfl
theorem lx {xs:Array Keyed}{i:Nat}{x:Keyed}(h:xs.toList[i]? = some x):KK κ xs i=kof κ x:=by
 rw [xk] at h
 unfold KK kof
 rw [h]
structure Iv (kd:SortKind) (κ:KeyKind) (a0:Array Keyed) (st:SortSt) (lo:Nat):Prop where
 tb:TB kd st
 pm:(arrOf st).Perm a0
 ex:∃ rs T,(arrOf st).toList=rs.flatten++T∧rs.flatten.length=lo∧PdL κ 0 (pendingOf st).toList rs
theorem Iv.gd {a0:Array Keyed}{st:SortSt}{lo:Nat}(I:Iv kd κ a0 st lo)(h0:KeysOf κ a0):∀ x∈(arrOf st).toList,Gd κ x:=fun x hx=>h0 x ((yu.mp I.pm).mem_iff.mp hx)
theorem Iv.part {a0:Array Keyed}{st Bq:SortSt}{lo hi:Nat}(I:Iv kd κ a0 st lo)(R:Rs kd κ lo hi st Bq):Iv kd κ a0 Bq lo:=by
 obtain ⟨rs,T,e,l,p⟩:=I.ex
 refine ⟨R.tb,R.rp.pm.trans I.pm,rs,(arrOf Bq).toList.drop lo,?_,l,by rw [R.pd];exact p⟩
 have:(arrOf Bq).toList.take lo=rs.flatten:=by
  have e2:(arrOf st).toList.take lo=rs.flatten:=by rw [e,← l,List.take_left]
  rw [← e2]
  apply List.ext_getElem?
  intro k
  by_cases hk:k < lo
  ·rw [xG hk,xG hk,xk,xk,R.rp.out k (.inl hk)]
  ·rw [yY (by rw [wD];omega),yY (by rw [wD];omega)]
 rw [← this,wW]
theorem Iv.mod {a0:Array Keyed}{st:SortSt}{lo i:Nat}(I:Iv kd κ a0 st lo){f:Nat × Nat × Nat→Nat × Nat × Nat}(hf:∀ t,(f t).1=t.1∧(f t).2.1=t.2.1):Iv kd κ a0 (setPending st ((pendingOf st).modify i f)) lo:=by
 obtain ⟨rs,T,e,l,p⟩:=I.ex
 refine ⟨⟨I.tb.kind,I.tb.failed⟩,I.pm,rs,T,e,l,?_⟩
 show PdL κ 0 ((pendingOf st).modify i f).toList rs
 rw [Array.toList_modify]
 exact p.same (lu hf _ _)
theorem Iv.push {a0:Array Keyed}{st:SortSt}{lo n w:Nat}(I:Iv kd κ a0 st lo)(hn:0 < n)(hz:lo+n≤(arrOf st).size)(hs:SrI κ (arrOf st) lo (lo+n)):Iv kd κ a0 (setPending st ((pendingOf st).push (lo,n,w))) (lo+n):=by
 obtain ⟨rs,T,e,l,p⟩:=I.ex
 have lT:lo+T.length=(arrOf st).size:=by rw [← wk,e,wj,l]
 have ln:(T.take n).length=n:=by rw [wD];omega
 have at_:∀ i x,T[i]? = some x→KK κ (arrOf st) (lo+i)=kof κ x:=fun i x hx=>lx (by rw [e,wU (by omega),← l,yL];exact hx)
 refine ⟨⟨I.tb.kind,I.tb.failed⟩,I.pm,rs++[T.take n],T.drop n,?_,?_,?_⟩
 ·show (arrOf st).toList=_
  rw [e,yM,zq,wt,wW]
 ·rw [yM,zq,wj,l,ln]
 ·show PdL κ 0 ((pendingOf st).push (lo,n,w)).toList _
  rw [yF]
  refine PdL.join p ⟨by rw [l];omega,ln.symm,by omega,?_,trivial⟩
  refine yB.mpr fun i j hi hj BD=>?_
  rw [wD] at hi hj
  rw [List.getElem_take,List.getElem_take]
  have:=hs (lo+i) (lo+j) (by omega) (by omega) (by omega)
  rw [at_ i _ (fu (by omega)),at_ j _ (fu (by omega))] at this
  exact this
theorem r_ {l:List (Nat × Nat × Nat)}{i:Nat}(h:i+1 < l.length):∃ p x y q,l=p++x::y::q∧p.length=i:=by
 refine ⟨l.take i,l[i],l[i+1],l.drop (i+2),?_,by rw [wD];omega⟩
 conv=>lhs;rw [← wW i l]
 rw [xQ (by omega),xQ h]
section
variable {prog:Program} {w:World} {A:Around} {E:Value→Shared→Prop} {s:Shared}
theorem eK {a0:Array Keyed}{st:SortSt}{lo i:Nat}{Q:Bool→SortSt→Prop}(hO:Lt1 κ prog w A s kd)(h0:KeysOf κ a0)(I:Iv kd κ a0 st lo)(hi:i+1 < (pendingOf st).size)
  (h:∀ Bq,Iv kd κ a0 Bq lo→(pendingOf Bq).size+1=(pendingOf st).size→(∀ k,lo≤k→(arrOf Bq)[k]? = (arrOf st)[k]?)→Q true Bq):wpS (model prog w) A E s (mergeAt' i) Q st:=by
 obtain ⟨rs,T,e,l,p⟩:=I.ex
 obtain ⟨p1,x,y,p2,ep,lp⟩:=r_ (l:=(pendingOf st).toList) (i:=i) (by rw [wk];exact hi)
 rw [ep] at p
 obtain ⟨r1,r2,er,_,P1,P2⟩:=p.app
 match r2,P2,er with
 | A1::B1::r2,P2,er =>
  obtain ⟨x1,x2,x3,x4,y1,y2,y3,y4,P3⟩:=P2
  obtain ⟨xa,xb,xc⟩:=x
  obtain ⟨ya,yb,yc⟩:=y
  dsimp only at x1 x2 y1 y2
  subst er
  have ea:(arrOf st).toList=r1.flatten++(A1++(B1++(r2.flatten++T))):=by
   rw [e]
   simp only [yM,yH,wt]
  have e1:(pendingOf st)[i]? = some (r1.flatten.length,A1.length,xc):=by
   rw [← xk,ep,wU (by omega),lp,AE,x1,x2,AQ]
   rfl
  have e2:(pendingOf st)[i+1]? = some (r1.flatten.length+A1.length,B1.length,yc):=by
   rw [← xk,ep,wU (by omega),lp,yL,y1,y2,AQ]
   rfl
  refine pO hO I.tb (I.gd h0) e1 e2 ea rfl rfl rfl x3 y3 x4 y4 fun Bq R t1 t2 t3 M=>?_
  have lR:R.length=A1.length+B1.length:=by rw [M.1.length_eq,wj]
  have ep':(pendingOf Bq).toList=p1++(r1.flatten.length,A1.length+B1.length,xc)::p2:=by
   rw [t2,Array.toList_eraseIdxIfInBounds,zX,ep,List.set_append_right _ _ (by omega),List.eraseIdx_append_of_length_le (by omega),lp,AE,yL]
   rfl
  have eT:(arrOf Bq).toList=(r1++R::r2).flatten++T:=by
   rw [t3]
   simp only [yM,yH,wt]
  have lT:(r1++R::r2).flatten.length=lo:=by
   rw [← l]
   simp only [yM,yH,wj,lR]
   omega
  refine h Bq ⟨t1,?_,r1++R::r2,T,eT,lT,?_⟩ ?_ fun k hk=>?_
  ·refine Array.Perm.trans (yu.mpr ?_) I.pm
   rw [t3,ea,← wt A1]
   exact x9 _ (M.1.append_right _)
  ·rw [ep']
   refine PdL.join P1 ⟨by omega,lR.symm,by omega,M.2,?_⟩
   rw [lR,← AL]
   exact P3
  ·rw [← wk,← wk,ep',ep]
   simp only [wj,xu]
   omega
  ·rw [← xk,← xk,eT,e,wU (by omega),wU (by omega),lT,l]
theorem Iv.done {a0:Array Keyed}{st:SortSt}(I:Iv kd κ a0 st a0.size)(h:(pendingOf st).size≤1):SortedToK κ (arrOf st) a0.size:=by
 obtain ⟨rs,T,e,l,p⟩:=I.ex
 have hz:(arrOf st).toList.length=a0.size:=by rw [wk];exact I.pm.size_eq
 have hT:T=[]:=zo.mp (by rw [e,wj,l] at hz;omega)
 subst hT
 rw [xw] at e
 rw [← wk] at h
 have sr:Srt κ (arrOf st).toList:=by
  rw [e]
  match (pendingOf st).toList,rs,p,h with
  | [],[],_,_=>exact List.Pairwise.nil
  | [_],[r],p,_=>rw [zq];exact p.2.2.2.1
  | _::_::_,_,_,h=>simp at h
 intro i j BD hj
 have e1:=fu (l:=(arrOf st).toList) (i:=i) (by omega)
 have e2:=fu (l:=(arrOf st).toList) (i:=j) (by omega)
 rw [lx e1,lx e2]
 exact sr.at BD e1 e2
structure SB (kd:SortKind) (a0:Array Keyed) (st:SortSt):Prop where
 perm:(arrOf st).Perm a0
 kind:kindOf st=kd
 failed:failedOf st=none
 pend:pendingOf st=#[]
theorem nv {a0:Array Keyed}{st:SortSt}{Q:Unit→SortSt→Prop}(hO:Lt1 κ prog w A s kd)(h0:KeysOf κ a0)(hB:SB kd a0 st)
  (h:∀ Bq,(arrOf Bq).Perm a0→failedOf Bq=none→SortedToK κ (arrOf Bq) a0.size→Q () Bq):wpS (model prog w) A E s sortRuns' Q st:=by
 rw [sortRuns'_eq]
 refine wx (zU ?_)
 dsimp only
 simp only [hB.perm.size_eq]
 refine wx (yk (xD
  (I:=fun x c Bq=>∃ lo,c=(none,lo)∧x≤lo∧lo≤a0.size∧Iv kd κ a0 Bq lo)
  (Q:=fun c Bq=>c=(none,a0.size)∧Iv kd κ a0 Bq a0.size) ?step ?fin ⟨0,rfl,wu _,xv _,⟨hB.kind,hB.failed⟩,hB.perm,[],(arrOf st).toList,rfl,rfl,by rw [hB.pend];exact trivial⟩) ?post)
 case fin =>
  rintro c Bq ⟨lo,rfl,h1,h2,I⟩
  have:lo=a0.size:=by omega
  subst this
  exact ⟨rfl,I⟩
 case step =>
  rintro x c Bq hx1 hx2 ⟨lo,rfl,h1,h2,I⟩
  have hz:(arrOf Bq).size=a0.size:=I.pm.size_eq
  dsimp only
  by_cases hge:lo≥a0.size
  ·refine av hge ?_
   have:lo=a0.size:=by omega
   subst this
   exact wC ⟨rfl,I⟩
  ·refine ay hge ?_
   refine wx (nj hO I.tb (I.gd h0) (by omega) (by omega) fun n BV n1 n2 R s2=>?_)
   have I2:=I.part R
   have hz2:(arrOf BV).size=a0.size:=I2.pm.size_eq
   dsimp only
   by_cases hm:n < minRun' a0.size a0.size 0
   ·refine av hm ?_
    refine wx (AH (yC ⟨rfl,?_⟩))
    refine wx (nk hO I2.tb (I2.gd h0) (by omega) (by omega) s2 fun st3 R3 s3=>?_)
    simp only [zK,wN,xS]
    have M1:1≤(min (a0.size - lo) (minRun' a0.size a0.size 0)):=by omega
    have M2:lo+(min (a0.size - lo) (minRun' a0.size a0.size 0))≤a0.size:=by omega
    have IX:=I2.part R3
    have S3:=s3
    refine wx (zU ?_)
    cases (pendingOf st3).back? with
    | none=>exact wx (zg (wC ⟨lo+(min (a0.size - lo) (minRun' a0.size a0.size 0)),rfl,by omega,M2,IX.push M1 (by rw [IX.pm.size_eq];exact M2) S3⟩))
    | some t =>
     obtain ⟨a,b,c⟩:=t
     dsimp only
     refine wx (yk (xD (I:=fun _ c BM=>c=(none,())∧Iv kd κ a0 BM lo∧∀ k,lo≤k→(arrOf BM)[k]? = (arrOf st3)[k]?)
      (Q:=fun c BM=>c=(none,())∧Iv kd κ a0 BM lo∧∀ k,lo≤k→(arrOf BM)[k]? = (arrOf st3)[k]?) ?step1 (fun _ _ h=>h) ⟨rfl,IX,fun _ _=>rfl⟩) ?post1)
     case step1 =>
      rintro y c BM _ _ ⟨rfl,Iw,kw⟩
      refine wx (zU ?_)
      by_cases hz:(pendingOf BM).size > 1
      ·rw [if_pos hz]
       cases e:(pendingOf BM)[(pendingOf BM).size - 2]? with
       | none=>exact wC ⟨rfl,Iw,kw⟩
       | some t =>
        obtain ⟨a',b',c'⟩:=t
        dsimp only
        by_cases hp:c'≤power' a0.size (2*a+b) (2*a+b+b+(min (a0.size - lo) (minRun' a0.size a0.size 0))) a0.size
        ·refine av hp ?_
         exact wC ⟨rfl,Iw,kw⟩
        ·refine ay hp ?_
         refine wx (eK hO h0 Iw (by omega) fun stq Iq _ k2=>?_)
         simp only [zK,wN,xS]
         exact wC ⟨rfl,Iq,fun k hk=>(k2 k hk).trans (kw k hk)⟩
      ·rw [if_neg hz]
       exact wC ⟨rfl,Iw,kw⟩
     case post1 =>
      rintro c BM ⟨rfl,Iw,kw⟩
      dsimp only
      refine wx (zg ?_)
      have J2:=Iw.mod (i:=(pendingOf BM).size - 1) (f:=fun t=>(t.1,t.2.1,power' a0.size (2*a+b) (2*a+b+b+(min (a0.size - lo) (minRun' a0.size a0.size 0))) a0.size)) fun t=>⟨rfl,rfl⟩
      refine wx (zg (wC ⟨lo+(min (a0.size - lo) (minRun' a0.size a0.size 0)),rfl,by omega,M2,J2.push M1 (by rw [J2.pm.size_eq];exact M2) fun i j hi BD hj=>?_⟩))
      show κ.kle (KK κ (arrOf BM) i) (KK κ (arrOf BM) j)
      rw [KK_congr (kw i (by omega)),KK_congr (kw j (by omega))]
      exact S3 i j hi BD hj
   ·refine ay hm ?_
    have M1:1≤n:=by omega
    have M2:lo+n≤a0.size:=by omega
    have IX:=I2
    have S3:=s2
    refine wx (zU ?_)
    cases (pendingOf BV).back? with
    | none=>exact wx (zg (wC ⟨lo+n,rfl,by omega,M2,IX.push M1 (by rw [IX.pm.size_eq];exact M2) S3⟩))
    | some t =>
     obtain ⟨a,b,c⟩:=t
     dsimp only
     refine wx (yk (xD (I:=fun _ c BN=>c=(none,())∧Iv kd κ a0 BN lo∧∀ k,lo≤k→(arrOf BN)[k]? = (arrOf BV)[k]?)
      (Q:=fun c BN=>c=(none,())∧Iv kd κ a0 BN lo∧∀ k,lo≤k→(arrOf BN)[k]? = (arrOf BV)[k]?) ?step2 (fun _ _ h=>h) ⟨rfl,IX,fun _ _=>rfl⟩) ?post2)
     case step2 =>
      rintro y c BN _ _ ⟨rfl,Iw,kw⟩
      refine wx (zU ?_)
      by_cases hz:(pendingOf BN).size > 1
      ·rw [if_pos hz]
       cases e:(pendingOf BN)[(pendingOf BN).size - 2]? with
       | none=>exact wC ⟨rfl,Iw,kw⟩
       | some t =>
        obtain ⟨a',b',c'⟩:=t
        dsimp only
        by_cases hp:c'≤power' a0.size (2*a+b) (2*a+b+b+n) a0.size
        ·refine av hp ?_
         exact wC ⟨rfl,Iw,kw⟩
        ·refine ay hp ?_
         refine wx (eK hO h0 Iw (by omega) fun stq Iq _ k2=>?_)
         simp only [zK,wN,xS]
         exact wC ⟨rfl,Iq,fun k hk=>(k2 k hk).trans (kw k hk)⟩
      ·rw [if_neg hz]
       exact wC ⟨rfl,Iw,kw⟩
     case post2 =>
      rintro c BN ⟨rfl,Iw,kw⟩
      dsimp only
      refine wx (zg ?_)
      have J2:=Iw.mod (i:=(pendingOf BN).size - 1) (f:=fun t=>(t.1,t.2.1,power' a0.size (2*a+b) (2*a+b+b+n) a0.size)) fun t=>⟨rfl,rfl⟩
      refine wx (zg (wC ⟨lo+n,rfl,by omega,M2,J2.push M1 (by rw [J2.pm.size_eq];exact M2) fun i j hi BD hj=>?_⟩))
      show κ.kle (KK κ (arrOf BN) i) (KK κ (arrOf BN) j)
      rw [KK_congr (kw i (by omega)),KK_congr (kw j (by omega))]
      exact S3 i j hi BD hj
 case post =>
  rintro c Bq ⟨rfl,I⟩
  dsimp only
  refine wx (yk (xD (I:=fun x c Bv=>c=(none,())∧Iv kd κ a0 Bv a0.size∧((pendingOf Bv).size+x≤a0.size ∨ (pendingOf Bv).size≤1))
   (Q:=fun c Bv=>c=(none,())∧Iv kd κ a0 Bv a0.size∧(pendingOf Bv).size≤1) ?_ ?_ ⟨rfl,I,?_⟩) ?_)
  ·rintro x c Bv _ hx ⟨rfl,I',hp⟩
   refine wx (zU ?_)
   by_cases h1:(pendingOf Bv).size≤1
   ·refine av h1 ?_
    exact wC ⟨rfl,I',h1⟩
   ·refine ay h1 ?_
    refine wx (eK hO h0 I' (have pick:∀ (b:Bool) (n:Nat),1 < n→(if b=true then n - 2 - 1 else n - 2)+1 < n:=(fun b n hn=>by cases b <;> simp <;> omega);pick _ _ (by omega)) fun BV I2 z2 _=>?_)
    simp only [zK,wN,xS]
    exact wC ⟨rfl,I2,.inl (by omega)⟩
  ·rintro c Bv ⟨rfl,I',hp⟩
   exact ⟨rfl,I',by omega⟩
  ·obtain ⟨rs,T,e,l,p⟩:=I.ex
   have:=p.len
   rw [wk,l] at this
   exact .inl (by omega)
  ·rintro c Bv ⟨rfl,I',hp⟩
   exact wC (h Bv I'.pm I'.tb.failed (I'.done hp))
end
end Tv
namespace Tv
open PySem PyProof.Rows
variable {κ:KeyKind} {kd:SortKind}
section
variable {prog:Program} {w:World} {A:Around} {E:Value→Shared→Prop} {s:Shared}
theorem ny {a:Addr}{Br:List Value}{m:Nat}{P:Fin→Shared→Prop}(at_:s.heap.get? a=some (seqObj "list" Br.toArray m))(g:KeysOf κ (pairsOf Br))
  (hO:Lt1 κ prog w A { s with heap:=((s.heap.update a (Obj.mapSeq fun _=>#[])).push (seqObj "tuple" Br.toArray 0)).push (seqObj "list" #[] 0) } kd) (one:∀ x y r,Br=x::y::r→∀ (Q:SortKind→Shared→Prop),Q kd { s with heap:=((s.heap.update a (Obj.mapSeq fun _=>#[])).push (seqObj "tuple" Br.toArray 0)).push (seqObj "list" #[] 0) }→wpAny (model prog w) A (keyKind' (x::y::r).toArray) Q E { s with heap:=((s.heap.update a (Obj.mapSeq fun _=>#[])).push (seqObj "tuple" Br.toArray 0)).push (seqObj "list" #[] 0) }) (lim:Br.length≤sizeLine)
  (q:∀ st:SortSt,(arrOf st).Perm (pairsOf Br)→SortedToK κ (arrOf st) (pairsOf Br).size→P (.done (.ret .none)) { s with heap:=sortedHeap s.heap a Br ((arrOf st).map (·.2)) }) :
  wpAny (model prog w) A (Builtin.«list.sort» ⟨[.ref a],[]⟩) P E s:=by
 have la:=wI at_
 have lz:Br.toArray.size=Br.length:=by simp
 rw [list_sort_plain]
 refine we (zE at_ rfl (we (Am at_ rfl ?_ (by rw [lz];exact lim))))
 obtain ⟨n1,at1⟩:∃ n1,(s.heap.update a (Obj.mapSeq fun _=>#[])).get? a=some (seqObj "list" #[] n1):=⟨_,get?_update_seq at_ fun _=>#[]⟩
 refine we (seqEpoch_at at1 rfl (we (wpAny_newTuple (we (zJ (yy ?_))))))
 have at2:(((s.heap.update a (Obj.mapSeq fun _=>#[])).push (seqObj "tuple" Br.toArray 0)).push (seqObj "list" #[] 0)).get? a=some (seqObj "list" #[] n1) :=
  wg _ (wg _ at1)
 show wpAny (model prog w) A _ P E { s with heap:=((s.heap.update a (Obj.mapSeq fun _=>#[])).push (seqObj "tuple" Br.toArray 0)).push (seqObj "list" #[] 0) }
 dsimp only
 by_cases two:Br.toArray.size < 2
 ·rw [if_pos two,if_pos two]
  refine we (wJ ?_)
  rw [StateT.run_pure]
  refine we (wJ ?_)
  dsimp only
  have zz:((Br.toArray.zip Br.toArray).map (·.2)).size≤sizeLine+1:=by
   rw [Array.size_map]
   show (pairsOf Br).size≤_
   rw [pairsOf_size]
   omega
  refine we (seqEpoch_at at2 rfl (we (Am at2 rfl ?_ (hsz2:=zz))))
  simp only [bne_self_eq_false,wN,xS]
  refine wJ (q (SortSt.mk' general' (Br.toArray.zip Br.toArray) #[] 7 none) (AD _) fun i j BD hj=>?_)
  rw [pairsOf_size] at hj
  have:i=j:=by omega
  subst this
  exact xR _
 ·rw [if_neg two,if_neg two]
  obtain ⟨x,y,r,rfl⟩:∃ x y r,Br=x::y::r:=by
   match Br,lz,two with
   | [],_,t=>exact absurd (by simp) t
   | [_],_,t=>exact absurd (by simp) t
   | x::y::r,_,_=>exact ⟨x,y,r,rfl⟩
  refine we (one _ _ _ rfl _ (we (yQ (nv (κ:=κ) hO (a0:=pairsOf (x::y::r)) (st:=SortSt.mk' kd ((x::y::r).toArray.zip (x::y::r).toArray) #[] 7 none)
   (Q:=fun _ st=>(arrOf st).Perm (pairsOf (x::y::r))∧failedOf st=none∧SortedToK κ (arrOf st) (pairsOf (x::y::r)).size) g ⟨AD _,rfl,rfl,rfl⟩ fun st c1 c2 c3=>⟨c1,c2,c3⟩) ?_ fun _ _ e=>e)))
  rintro ⟨⟨⟩,st⟩ s2 ⟨rfl,c1,c2,c3⟩
  dsimp only
  have zz:((arrOf st).map (·.2)).size≤sizeLine+1:=by
   rw [Array.size_map,c1.size_eq,pairsOf_size]
   omega
  refine we (seqEpoch_at at2 rfl (we (Am at2 rfl ?_ (hsz2:=zz))))
  rw [c2]
  simp only [bne_self_eq_false,wN,xS]
  exact wJ (q st c1 c3)
end
end Tv
namespace Ts
open PySem PyProof.Rows
section
variable {κ:KeyKind} {prog:Program} {w:World} {A:Around} {E:Value→Shared→Prop} {s:Shared}
end
end Ts
namespace Wd
section
variable {α:Type}
end
def J (u v:List L):Prop:=∀ x y,u.getLast? = some x→v.head? = some y→y≠inv x
theorem bz:∀ (u v:List L),Rd (u++v) ↔ Rd u∧Rd v∧J u v
 | [],v=>by
  constructor
  ·intro h
   exact ⟨trivial,h,fun x y hx=>by simp at hx⟩
  ·intro h
   exact h.2.1
 | [x],[]=>by
  constructor
  ·intro h
   exact ⟨trivial,trivial,fun x y _ hy=>by simp at hy⟩
  ·intro _
   exact trivial
 | [x],y::v=>by
  constructor
  ·intro h
   refine ⟨trivial,h.2,fun a b ha hb=>?_⟩
   have ha:x=a:=by simpa using ha
   have hb:y=b:=by simpa using hb
   subst ha hb
   exact h.1
  ·intro h
   exact ⟨h.2.2 x y rfl rfl,h.2.1⟩
 | x::y::u,v=>by
  have ih:=bz (y::u) v
  constructor
  ·intro h
   have h2:=ih.mp h.2
   refine ⟨⟨h.1,h2.1⟩,h2.2.1,fun a b ha hb=>h2.2.2 a b ?_ hb⟩
   rw [An] at ha
   exact ha
  ·intro h
   refine ⟨h.1.1,ih.mpr ⟨h.1.2,h.2.1,fun a b ha hb=>h.2.2 a b ?_ hb⟩⟩
   rw [An]
   exact ha
theorem se {x y:L}(h:y=inv x):x=inv y:=by rw [h,bQ]
theorem oA:∀ {w:List L},Rd w→Rd w.reverse
 | [],_=>trivial
 | x::w,h=>by
  rw [List.reverse_cons,bz]
  refine ⟨oA h.tail,trivial,fun a b ha hb=>?_⟩
  have hb:x=b:=by simpa using hb
  subst hb
  cases w with
  | nil=>simp at ha
  | cons y w =>
   have ha:y=a:=by simpa using ha
   subst ha
   intro e
   exact h.1 (se e)
theorem uD {w:List L}(h:Rd w):Rd (bk w):=by
 have q:∀ w:List L,Rd w→Rd (w.map inv):=by
  intro w
  induction w with
  | nil=>intro _;trivial
  | cons x w ih =>
   intro h
   cases w with
   | nil=>trivial
   | cons y w=>exact ⟨fun e=>h.1 (by have e2:=wR inv e;rw [bQ,bQ] at e2;rw [e2]),ih h.2⟩
 exact oA (q w h)
structure Rnd (c:List L):Prop where
 ne:c≠[]
 rd:Rd c
 jn:J c c
theorem nz {r:List L}(h:r≠[])(n:Nat):(rep (n+1) r).head? = r.head?:=by
 show (rep n r++r).head? = _
 rw [fH]
 cases r with
 | nil=>exact absurd rfl h
 | cons x r=>rfl
theorem nA {r:List L}(h:r≠[])(n:Nat):(rep (n+1) r).getLast? = r.getLast?:=by
 show (rep n r++r).getLast? = _
 rw [List.getLast?_append]
 cases hr:r.getLast? with
 | none=>exact absurd (List.getLast?_eq_none_iff.mp hr) h
 | some x=>rfl
theorem jo {r:List L}{n:Nat}(h:Rnd (rep (n+1) r)):Rnd r:=by
 have B3:r≠[]:=by
  intro e
  subst e
  have:rep (n+1) ([]:List L)=[]:=by
   apply yN
   rw [bT]
   rfl
  exact h.ne this
 have hr:Rd (rep n r++r):=h.rd
 rw [bz] at hr
 refine ⟨B3,hr.2.1,fun x y hx hy=>?_⟩
 exact h.jn x y (by rw [nA B3];exact hx) (by rw [nz B3];exact hy)
theorem sf {q:List L}(R:Rnd q):Rnd (bk q):=by
 refine ⟨fun e=>R.ne (by have:=wR bk e;rw [um] at this;exact this),uD R.rd,fun x y hx hy=>?_⟩
 have hx:∃ a,q.head? = some a∧x=inv a:=by
  unfold bk at hx
  rw [List.getLast?_reverse,List.head?_map] at hx
  cases hq:q.head? with
  | none=>rw [hq] at hx;simp at hx
  | some a=>rw [hq] at hx;exact ⟨a,rfl,(wA hx).symm⟩
 have hy:∃ a,q.getLast? = some a∧y=inv a:=by
  unfold bk at hy
  rw [List.head?_reverse,List.getLast?_map] at hy
  cases hq:q.getLast? with
  | none=>rw [hq] at hy;simp at hy
  | some a=>rw [hq] at hy;exact ⟨a,rfl,(wA hy).symm⟩
 obtain ⟨a,ha,rfl⟩:=hx
 obtain ⟨b,hb,rfl⟩:=hy
 intro e
 have:=wR inv e
 rw [bQ,bQ] at this
 exact R.jn b a hb ha (by rw [this,bQ])
end Wd
namespace L2
open PySem PySem.Spec PyProof.Rows Wd
def rnd (w:List L)(t:Nat):Nat:=((w.map cp)[t % w.length]?).getD 0
theorem rnd_at {w:List L}{t:Nat}{x:L}(h:(w++w)[t]? = some x):rnd w t=cp x:=by
 unfold rnd
 have hl:=(wo.mp h).1
 rw [wj] at hl
 by_cases c:t < w.length
 ·rw [yO c,xj]
  rw [xy c] at h
  rw [h]
  rfl
 ·have e:t % w.length=t - w.length:=by
   rw [Nat.mod_eq_sub_mod (by omega),yO (by omega)]
  rw [e,xj]
  rw [wU (by omega)] at h
  rw [h]
  rfl
end L2
namespace Wd
def Rt (m p:List L):Prop:=∃ a b,m=a++b∧p=b++a
theorem nB {x:L}{r:List L}(h:Rnd (x::r)):Rnd (r++[x]):=by
 obtain ⟨_,h2,h3⟩:=h
 refine ⟨by simp,?_,?_⟩
 ·rw [bz]
  refine ⟨h2.tail,trivial,fun a b ha hb=>?_⟩
  have hb:x=b:=wA hb
  subst hb
  refine h3 a x ?_ rfl
  rw [List.getLast?_cons,ha]
  rfl
 ·intro a b ha hb
  have ha:x=a:=by simpa using ha
  subst ha
  cases r with
  | nil =>
   have hb:x=b:=wA hb
   subst hb
   exact fun e=>gL _ e.symm
  | cons y r =>
   have hb:y=b:=wA hb
   subst hb
   exact h2.1
end Wd
namespace L2
open PySem PySem.Spec PyProof.Rows Wd
end L2
namespace Wd
section
variable {α:Type}
end
end Wd
namespace PySem
end PySem
namespace L2
open PySem PySem.Spec PyProof.Rows Wd
section
variable {X:Cx}
end
end L2
namespace Wd
def img (ws:List (List L))(x:L):List L:=if x.val < 6 then ws.getD x.val [] else bk (ws.getD (x.val - 6) [])
def sub (ws:List (List L))(u:List L):List L:=u.flatMap (img ws)
theorem ly (x:L):(inv x).val=if x.val < 6 then x.val+6 else x.val - 6:=by unfold inv; split <;> rfl
def InM (n:Nat)(u:List L):Prop:=∀ x∈u,x.val % 6 < n
theorem InM.bk {n:Nat}{u:List L}(h:InM n u):InM n (bk u):=by
 intro x hx
 unfold Wd.bk at hx
 rw [List.mem_reverse,xY] at hx
 obtain ⟨y,hy,rfl⟩:=hx
 have h1:=h y hy
 have:=y.isLt
 rw [ly]
 split <;> omega
end Wd
namespace PySem
section
variable {prog:Program} {w:World} {A:Around} {E:Value→Shared→Prop}
end
end PySem
namespace L2
open PySem PySem.Spec PyProof.Rows Wd
section
variable {X:Cx} {pos:Pos}
end
section
variable {X:Cx}
end
theorem si:∀ i:_root_.Fin 6,("abcdef":Str).cps[i.val]? = some (cp ⟨i.val,by omega⟩):=by decide +kernel
theorem sm_at {i c:Nat}(h:("abcdef":Str).cps[i]? = some c):∃ x:L,x.val=i∧i < 6∧c=cp x:=by
 have hl:i < 6:=by
  obtain ⟨h1,_⟩:=yt.mp h
  have:("abcdef":Str).cps.size=6:=by decide +kernel
  omega
 have:=si ⟨i,hl⟩
 rw [this] at h
 exact ⟨⟨i,by omega⟩,rfl,hl,(wA h).symm⟩
end L2
namespace Kx
open PySem PySem.Spec PyProof.Rows L2 Wd
end Kx
namespace Wd
end Wd
namespace L2
open PySem PySem.Spec PyProof.Rows Wd
section
variable {X:Cx}
end
end L2
namespace Kx
open PySem PySem.Spec PyProof.Rows L2 Wd
end Kx
namespace L2
open PySem PySem.Spec PyProof.Rows Wd
section
variable {X:Cx}
end
end L2
namespace L2
open PySem PySem.Spec PyProof.Rows
section
variable {prog:Program} {w:World} {A:Around} {E:Value→Shared→Prop} {s:Shared}
end
section
variable {X:Cx}
end
end L2
namespace L2
open PySem PySem.Spec PyProof.Rows Wd
section
variable {X:Cx}
end
theorem sj {d:PyData}(h:d.leavesShort 40=true)(hw:d.weight≤2 ^ 18):d.shown.length≤sizeLine:=by
 have:=PyData.shown_le 40 (by decide) d h
 have e:sizeLine=16777216:=Ad
 rw [e]
 omega
end L2
namespace Kx
open PySem PySem.Spec PyProof.Rows L2 Wd
end Kx
namespace L2
open PySem PySem.Spec PyProof.Rows Wd
section
variable {X:Cx}
end
end L2
namespace Wd
def nm (N:List L)(x:L):L:=if x.val < 6 then N.getD x.val 0 else inv (N.getD (x.val - 6) 0)
end Wd
namespace L2
open PySem PySem.Spec PyProof.Rows Wd
theorem c6 {α β:Type}(f:α→β){zs ys:List β}(p:ys.Perm zs):∀ W:List α,ys=W.map f→∃ V:List α,V.Perm W∧zs=V.map f:=by
 induction p with
 | nil =>
  intro W e
  exact ⟨W,.refl _,e⟩
 | cons x _ ih =>
  intro W e
  cases W with
  | nil=>cases e
  | cons w W =>
   obtain ⟨e1,e2⟩:=xM e
   obtain ⟨V,h1,h2⟩:=ih W e2
   exact ⟨w::V,h1.cons w,by rw [h2,e1];rfl⟩
 | swap x y l =>
  intro W e
  match W,e with
  | a::b::W,e =>
   obtain ⟨e1,e2⟩:=xM e
   obtain ⟨e2,e3⟩:=xM e2
   exact ⟨b::a::W,List.Perm.swap a b W,by rw [e1,e2,e3];rfl⟩
 | trans _ _ ih1 ih2 =>
  intro W e
  obtain ⟨V,h1,h2⟩:=ih1 W e
  obtain ⟨V2,h3,h4⟩:=ih2 V h2
  exact ⟨V2,h3.trans h1,h4⟩
section
variable {X:Cx}
end
end L2
namespace Kx
open PySem PySem.Spec PyProof.Rows L2 Wd
end Kx
namespace L2
open PySem PySem.Spec PyProof.Rows
theorem dk (val:Nat→Str):∀ i,(ddp val i).Nodup
 | 0=>by unfold ddp;exact zB
 | i+1=>by
  unfold ddp
  split
  ·exact dk val i
  ·rename_i h
   exact List.nodup_append.mpr ⟨dk val i,xW.mpr ⟨wZ,zB⟩,fun a ha b hb e=>h (by rw [wc] at hb;subst hb;subst e;exact ha)⟩
theorem iu (val:Nat→Str)(z:Str):∀ i,z∈ddp val i ↔ ∃ j,j < i∧val j=z
 | 0=>by unfold ddp;simp
 | i+1=>by
  have ih:=iu val z i
  unfold ddp
  split
  ·rename_i h
   rw [ih]
   constructor
   ·rintro ⟨j,hj,e⟩;exact ⟨j,by omega,e⟩
   ·rintro ⟨j,hj,e⟩
    by_cases q:j=i
    ·subst q
     rw [← e]
     rw [e] at h ⊢
     exact ih.mp h
    ·exact ⟨j,by omega,e⟩
  ·rw [wL,ih,wc]
   constructor
   ·rintro (⟨j,hj,e⟩ | e)
    ·exact ⟨j,by omega,e⟩
    ·exact ⟨i,by omega,e.symm⟩
   ·rintro ⟨j,hj,e⟩
    by_cases q:j=i
    ·subst q;exact .inr e.symm
    ·exact .inl ⟨j,by omega,e⟩
theorem cy:∀ {dl zs:List Str},dl.Nodup→(∀ k∈dl,k∈zs)→zs.length≤dl.length→zs.Perm dl
 | [],zs,_,_,h=>by rw [zo.mp (Nat.le_zero.mp h)]
 | d::dl,zs,nd,m,h=>by
  have hd:=m d wX
  have p:=List.perm_cons_erase hd
  refine p.trans (List.Perm.cons _ ?_)
  obtain ⟨n1,n2⟩:=xW.mp nd
  refine cy n2 (fun k hk=>?_) ?_
  ·have:=m k (wO _ hk)
   exact (List.mem_erase_of_ne (fun e=>n1 (by rw [← e];exact hk))).mpr this
  ·rw [List.length_erase_of_mem hd]
   simp at h
   omega
section
variable {prog:Program} {w:World} {A:Around} {E:Value→Shared→Prop} {s:Shared}
end
section
variable {X:Cx}
def StO (P:Program)(w:World)(a:Addr)(dl:List Str):HO:=.ext fun h=>pL P w h a dl
theorem pL.lay {P:Program}{w:World}{H:Hp}{h:Heap}{a:Addr}{dl:List Str}(x:pL P w h a dl):cY P w H h a (StO P w a dl):=by
 refine ⟨x,?_,fun h1 h2 y k=>y.at k⟩
 obtain ⟨o,_,_,_,e,_⟩:=x
 exact ⟨o,e⟩
inductive cg (K:PySem.W.Frag)(P:PySem.Program)(w:PySem.World)(xs:List V)(H:Hp)(Q:VK):Prop
 | mk:∀ (l:Addr) (ys:List Str),(xs=[.ref l])→(SqL K H l (ys.map V.str))→(ys.length≤4000)→(∀ (p:Addr) (dl:List Str),H p=none→dl.Nodup→(∀ z,z∈dl ↔ z∈ys)→Q (.ref p) (upd H p (StO P w p dl)))→cg K P w xs H Q
theorem eW (hc:X.calm=true):cZ X (.type "set") (cg X.K X.prog X.w):=by
 intro Bp s σ H xs us Q I r h
 obtain ⟨l,ys,rfl,hq,hz,q⟩:=h
 obtain ⟨u,rfl,ru⟩:=cN r
 cases ru
 obtain ⟨Br,rv,pl,_⟩:=I.list hq
 have hlen:Br.length=ys.length:=by rw [← rv.length,wq]
 have hat:∀ (i:Nat) (v:Value),Br.toArray[i]? = some v→∃ t,v = .str (ys.getD i ⟨#[]⟩) t:=fun i v e=>by
  rw [zC] at e
  have hi:i < ys.length:=by
   have:=(wo.mp e).1
   omega
  obtain ⟨u,eu,t,rfl⟩:=rv.get (i:=i) (x:=.str ys[i]) (by rw [xj,fu hi];rfl)
  rw [e] at eu
  cases eu
  exact ⟨t,by rw [wV,fu hi];rfl⟩
 refine k_ (I.ok.hd hc) pl.isList hat (by rw [wB,hlen];show _ < 4096;omega) fun h' tk hS k=>?_
 refine ⟨.ref s.heap.objs.size,_,I.laid (fun b o e=>k b o (wI e) e) (wu _) (pL.lay hS),rfl,q _ _ (I.hok.fresh (wu _)) (dk _ _) fun z=>?_⟩
 rw [iu,wB,hlen]
 constructor
 ·rintro ⟨j,hj,rfl⟩
  rw [wV,fu hj]
  exact wY _
 ·intro hm
  obtain ⟨j,hj,e⟩:=List.mem_iff_getElem.mp hm
  exact ⟨j,hj,by rw [wV,fu hj];exact e⟩
end
section
variable {prog:Program} {w:World} {A:Around} {E:Value→Shared→Prop} {s:Shared}
end
section
variable {X:Cx}
end
end L2
namespace Ts
open PySem PyProof.Rows
def iOf:Value→Int
 | .int x _=>x
 | _=>0
theorem jq:∀ (vs:List Value),(∀ v,v∈vs→∃ x t,v = .int x t)→IntsAre vs (vs.map iOf)
 | [],_=>.nil
 | v::vs,h=>by
  obtain ⟨x,t,rfl⟩:=h v (wX ..)
  exact .cons x t (jq vs fun u hu=>h u (wO _ hu))
end Ts
namespace L2
open PySem PySem.Spec PyProof.Rows Wd Ts
section
variable {prog:Program} {w:World} {A:Around} {E:Value→Shared→Prop} {s:Shared}
theorem ix {l:Addr}{vs:List Value}{Q:List Value→Shared→Prop}(hl:s.heap.IsTuple l vs.toArray)
  (h:Q vs { s with heap:=(s.heap.push (seqObj "list" #[] 0)).update s.heap.objs.size (Obj.mapSeq (· ++ vs.toArray)) }) (hsz:vs.length≤sizeLine:=by size_fits) :
  wpAny (model prog w) A (collect (.ref l)) Q E s:=by
 obtain ⟨o,ho,hc,n,hd⟩:=id hl
 unfold collect
 refine we (AJ (yG entry_proto_collect' ?_))
 show wpAny _ _ (do again (.builtin "list.__iadd__" ⟨[← newList [],.ref l],[]⟩)) _ _ s
 refine we (zJ (wJ ⟨z6 _ (by decide +kernel),yG entry_list_iadd' ?_⟩))
 show wpAny _ _ (Builtin.List.listExtendWith (.ref s.heap.objs.size) (.ref l) (.ref s.heap.objs.size)) _ _ { s with heap:=s.heap.push (seqObj "list" #[] 0) }
 unfold Builtin.List.listExtendWith
 have ho':(s.heap.push (seqObj "list" #[] 0)).get? l=some o:=wg _ ho
 refine we (wpAny_typeOf (T:="tuple") ⟨o,ho',hc⟩ ?_)
 have ht:(Value.type "tuple" == Value.type "tuple")=true:=by rfl
 rw [if_pos (by rw [ht];simp)]
 refine we (zE ho' hd ?_)
 refine we (zE (xs:=#[]) (n:=0) (wK _ rfl) rfl ?_)
 rw [if_neg (by simp)]
 refine we (Am (xs:=#[]) (n:=0) (wK _ rfl) rfl ?_ (xv _) (by show (#[]++vs.toArray).size≤sizeLine+1;simp only [Array.size_append,wB,x8];omega))
 refine wJ ?_
 show wpAny (model prog w) A (do
   let o ← load s.heap.objs.size
   match o.data with
   | .seq xs _=>pure xs.toList
   | _=>unsupported "internal:collect") Q E { s with heap:=(s.heap.push (seqObj "list" #[] 0)).update s.heap.objs.size (Obj.mapSeq (· ++ vs.toArray)) }
 refine we (wpAny_load (get?_update_seq (wK _ rfl) _) ?_)
 show wpAny _ _ (pure ((#[]:Array Value)++vs.toArray).toList) Q E _
 rw [show ((#[]:Array Value)++vs.toArray).toList=vs by simp]
 exact wJ h
end
section
variable {X:Cx}
end
end L2
namespace Tv
open PySem PyProof.Rows
def Pq (h:Heap)(v:Value)(i j:Int):Prop:=∃ (a:Addr) (o:Obj) (t u:Tok) (n:Nat),v = .ref a∧h.get? a=some o∧o.cls = .type "tuple"∧o.data = .seq #[.int i t,.int j u] n
inductive Kn where
 | i
 | s
 | p
def Kn.R:Kn→Heap→Value→List Int→Prop
 | .i,_,v,a=>∃ i t,v = .int i t∧a=[i]
 | .s,_,v,a=>∃ (x:Str) (t:Tok),v = .str x t∧a=x.cps.toList.map Int.ofNat
 | .p,h,v,a=>∃ i j,Pq h v i j∧a=[i,j]
theorem lA {x y:List Nat}(h:x.map Int.ofNat=y.map Int.ofNat):x=y:=(List.map_inj_right (fun _ _ e=>Ao e)).mp h
theorem Kn.one {k:Kn}{h:Heap}{v:Value}{a b:List Int}(x:k.R h v a)(y:k.R h v b):a=b:=by
 cases k with
 | i =>
  obtain ⟨i,t,rfl,rfl⟩:=x
  obtain ⟨j,u,e,rfl⟩:=y
  cases e
  rfl
 | s =>
  obtain ⟨i,t,rfl,rfl⟩:=x
  obtain ⟨j,u,e,rfl⟩:=y
  cases e
  rfl
 | p =>
  obtain ⟨i,j,⟨c,o,t,u,n,rfl,e,_,d⟩,rfl⟩:=x
  obtain ⟨k,l,⟨c',o',t',u',n',e0,e',_,d'⟩,rfl⟩:=y
  cases e0
  rw [e] at e'
  cases e'
  rw [d] at d'
  injection d' with d1 _
  have d1:=wR Array.toList d1
  simp only [zj,Value.int.injEq,AM] at d1
  rw [d1.1.1,d1.2.1]
structure jJ (prog:Program) (w:World) (A:Around) (k:Kn):Prop where
 eq:∀ {s:Shared} {E:Value→Shared→Prop} {v u:Value} {a b:List Int} {Q:Bool→Shared→Prop},k.R s.heap v a→k.R s.heap u b→Q (decide (a=b)) s→wpAny (model prog w) A (eqBool v u) Q E s
 lt:∀ {s:Shared} {E:Value→Shared→Prop} {c:Bool} {v u:Value} {a b:List Int} {Q:Bool→Shared→Prop},(c=true→k ≠ .p)→k.R s.heap v a→k.R s.heap u b→a≠b→Q (decide (a < b)) s→wpAny (model prog w) A (oneLt' c v u) Q E s
section
variable {prog:Program} {w:World} {A:Around} {E:Value→Shared→Prop} {s:Shared}
theorem vS:jJ prog w A .i:=by
 refine ⟨fun {s E v u a b Q} x y q=>?_,fun {s E c v u a b Q} _ x y ne q=>?_⟩
 ·obtain ⟨i,t,rfl,rfl⟩:=x
  obtain ⟨j,t',rfl,rfl⟩:=y
  refine wpAny_eqBool_int ?_
  have:decide ([i]=[j])=(i == j):=by rw [xh];simp
  rwa [this] at q
 ·obtain ⟨i,t,rfl,rfl⟩:=x
  obtain ⟨j,t',rfl,rfl⟩:=y
  have:decide ([i] < [j])=decide (i < j):=by
   rw [xh,wz,wz,x_]
   exact ⟨fun h=>h.elim id fun h=>absurd h.2 (AK _),.inl⟩
  rw [this] at q
  cases c with
  | true=>exact oneLt_int q
  | false =>
   rw [oneLt'_eq]
   simp only [wN,xS]
   show wpAny _ _ (compareOp .Lt (.int i t) (.int j t') >>= _) Q E s
   exact we (wpAny_lt_int (yo q))
theorem oB:∀ (x y:List Nat),x.map Int.ofNat < y.map Int.ofNat ↔ x < y
 | [],[]=>by simp
 | [],_::_=>by simp
 | _::_,[]=>by simp
 | a::x,b::y=>by
  rw [xX,xX,x_,x_,oB x y]
  constructor
  ·rintro (h | ⟨h,g⟩)
   ·exact .inl (Int.ofNat_lt.mp h)
   ·exact .inr ⟨Ao h,g⟩
  ·rintro (h | ⟨h,g⟩)
   ·exact .inl (Int.ofNat_lt.mpr h)
   ·exact .inr ⟨wR _ h,g⟩
theorem vT:jJ prog w A .s:=by
 refine ⟨fun {s E v u a b Q} x y q=>?_,fun {s E c v u a b Q} _ x y ne q=>?_⟩
 ·obtain ⟨x,t,rfl,rfl⟩:=x
  obtain ⟨y,t',rfl,rfl⟩:=y
  refine wpAny_eqBool_str ?_
  have:decide (x.cps.toList.map Int.ofNat=y.cps.toList.map Int.ofNat)=decide (x=y):=by
   rw [xh,wz,wz]
   refine ⟨fun h=>?_,fun h=>by rw [h]⟩
   have:=Au.mp (lA h)
   cases x;cases y;simp_all
  rwa [this] at q
 ·obtain ⟨x,t,rfl,rfl⟩:=x
  obtain ⟨y,t',rfl,rfl⟩:=y
  have:decide (x.cps.toList.map Int.ofNat < y.cps.toList.map Int.ofNat)=decide (x.cps.toList < y.cps.toList):=by
   rw [xh,wz,wz,oB]
  rw [this] at q
  cases c with
  | true=>exact oneLt_str q
  | false =>
   rw [oneLt'_eq]
   simp only [wN,xS]
   show wpAny _ _ (compareOp .Lt (.str x t) (.str y t') >>= _) Q E s
   exact we (PyProof.Rows.lt_str (yo q))
end
inductive FlR (h:Heap):List Kn→List Value→List (List Int)→Prop
 | nil:FlR h [] [] []
 | cons {k:Kn} {ks:List Kn} {v:Value} {vs:List Value} {a:List Int} {as:List (List Int)} (x:k.R h v a) (r:FlR h ks vs as):FlR h (k::ks) (v::vs) (a::as)
theorem FlR.one {h:Heap}{ks:List Kn}{vs:List Value}{as:List (List Int)}(x:FlR h ks vs as):∀ {bs:List (List Int)},FlR h ks vs bs→as=bs:=by
 induction x with
 | nil=>intro bs y;cases y;rfl
 | cons x r ih=>intro bs y;cases y with | cons y q=>rw [Kn.one x y,ih q]
theorem FlR.len {h:Heap}{ks:List Kn}{vs us:List Value}{as bs:List (List Int)}(x:FlR h ks vs as):FlR h ks us bs→vs.length=us.length:=by
 induction x generalizing us bs with
 | nil=>intro y;cases y;rfl
 | cons x r ih=>intro y;cases y with | cons y q=>rw [xu,xu,ih q]
theorem FlR.stay {h h':Heap}(k:∀ b o,h.get? b=some o→o.cls = .type "tuple"→h'.get? b=some o){ks:List Kn}{vs:List Value}{as:List (List Int)}(x:FlR h ks vs as):FlR h' ks vs as:=by
 induction x with
 | nil=>exact .nil
 | @cons kn ks v vs a as x r ih =>
  refine .cons ?_ ih
  cases kn with
  | i=>exact x
  | s=>exact x
  | p =>
   obtain ⟨i,j,⟨c,o,t,u,n,e0,e,hc,d⟩,ea⟩:=x
   exact ⟨i,j,⟨c,o,t,u,n,e0,k _ _ e hc,hc,d⟩,ea⟩
abbrev cO:=List (List Int)
def Kd (f:Kn)(sh:List Int→List Kn)(h:Heap)(v:Value)(k:cO):Prop:=∃ (a:Addr) (o:Obj) (vs:List Value) (n:Nat),v = .ref a∧h.get? a=some o∧o.cls = .type "tuple"∧o.data = .seq vs.toArray n∧FlR h (f::sh (k.headD [])) vs k
theorem Kd.one {f:Kn}{sh:List Int→List Kn}{h:Heap}{v:Value}{k l:cO}(x:Kd f sh h v k)(y:Kd f sh h v l):k=l:=by
 obtain ⟨a,o,vs,n,rfl,e,_,d,g⟩:=x
 obtain ⟨a',o',vs',n',e0,e',_,d',g'⟩:=y
 cases e0
 rw [e] at e'
 cases e'
 rw [d] at d'
 injection d' with d1 _
 have d1:=wR Array.toList d1
 simp only at d1
 subst d1
 cases g with
 | cons x r =>
  cases g' with
  | cons y q =>
   have e1:=Kn.one x y
   subst e1
   exact wR _ (FlR.one r q)
open Classical in
def qG (f:Kn)(sh:List Int→List Kn)(h:Heap)(v:Value):Option cO:=if hx:∃ p:cO,Kd f sh h v p then some (Classical.choose hx) else none
theorem Kd.of {f:Kn}{sh:List Int→List Kn}{h:Heap}{v:Value}{k:cO}(x:Kd f sh h v k):qG f sh h v=some k:=by
 unfold qG
 rw [dif_pos ⟨k,x⟩]
 exact wR some ((Classical.choose_spec (⟨k,x⟩:∃ p:cO,Kd f sh h v p)).one x)
theorem Kd.is {f:Kn}{sh:List Int→List Kn}{h:Heap}{v:Value}{k:cO}(e:qG f sh h v=some k):Kd f sh h v k:=by
 unfold qG at e
 split at e
 ·rename_i hx
  cases e
  exact Classical.choose_spec hx
 ·cases e
theorem Kd.stay {f:Kn}{sh:List Int→List Kn}{h h':Heap}{v:Value}{k:cO}(kp:∀ b o,h.get? b=some o→o.cls = .type "tuple"→h'.get? b=some o)(x:Kd f sh h v k):Kd f sh h' v k:=by
 obtain ⟨a,o,vs,n,e0,e,c,d,g⟩:=x
 exact ⟨a,o,vs,n,e0,kp _ _ e c,c,d,g.stay kp⟩
@[reducible] noncomputable def kdK (f:Kn) (sh:List Int→List Kn) (h:Heap):KeyKind where
 α:=cO
 blt a b:=decide (a < b)
 irrefl a:=by simpa using AK a
 trans a b c h1 h2:=by simp only [zy] at *;exact List.lt_trans h1 h2
 negTrans a b c h:=by
  simp only [zy] at *
  by_cases hab:a < b
  ·exact .inl hab
  ·exact .inr (List.lt_of_le_of_lt (Ap.mp hab) h)
 total a b h1 h2:=by simp only [Aq] at *;exact List.le_antisymm (Ap.mp h2) (Ap.mp h1)
 keyOf v:=qG f sh h v
 dflt:=[]
def jK (b:Bool)(L:List ((Value × Value) × Nat))(z:Bool):Sem Bool:=do
 for ((p,q),i) in L do
  if !(← eqBool p q) then return ← oneLt' (b && i == 0) p q
 return z
theorem lC (b:Bool)(x y:Value):keyLt' (tuples' b) x y=(do
  let xs ← Builtin.List.listItems x;let ys ← Builtin.List.listItems y
  jK b (xs.toList.zip ys.toList).zipIdx (decide (xs.size < ys.size))):=rfl
theorem lD (b z:Bool)(p q:Value)(i:Nat)(L:List ((Value × Value) × Nat)):jK b (((p,q),i)::L) z=(eqBool p q >>= fun r=>if r then jK b L z else oneLt' (b && i == 0) p q):=by
 unfold jK
 rw [List.forIn_cons]
 simp only [bind_assoc]
 congr 1
 funext r
 cases r <;> simp
theorem lE {a b:List Int}{as bs:cO}:decide (a::as < b::bs)=if a=b then decide (as < bs) else decide (a < b):=by
 rw [xh,wz,x_]
 by_cases e:a=b
 ·rw [if_pos e,wz]
  subst e
  exact ⟨fun h=>h.elim (fun h=>absurd h (AK _)) fun h=>h.2,fun h=>.inr ⟨rfl,h⟩⟩
 ·rw [if_neg e,wz]
  exact ⟨fun h=>h.elim id fun h=>absurd h.1 e,.inl⟩
section
variable {prog:Program} {w:World} {A:Around} {E:Value→Shared→Prop} {s:Shared}
theorem uE {b:Bool}{ks:List Kn}{vs:List Value}{as:cO}(ok:∀ k∈ks,jJ prog w A k)(x:FlR s.heap ks vs as):∀ {us:List Value} {bs:cO} {m:Nat} {Q:Bool→Shared→Prop},(m=0→b=true→∀ k r,ks=k::r→k ≠ .p)→FlR s.heap ks us bs→Q (decide (as < bs)) s→wpAny (model prog w) A (jK b ((vs.zip us).zipIdx m) false) Q E s:=by
 induction x with
 | nil =>
  intro us bs m Q _ y q
  cases y
  exact wJ (by simpa using q)
 | @cons k ks v vs a as x r ih =>
  intro us bs m Q hp y q
  cases y with
  | @cons _ _ u us c bs y r2 =>
  rw [yf,Av,lD]
  have K:=ok k wX
  rw [lE] at q
  refine we (K.eq x y ?_)
  by_cases e:a=c
  ·rw [wF e,if_pos rfl]
   rw [if_pos e] at q
   exact ih (fun k hk=>ok k (wO _ hk)) (fun z=>by omega) r2 q
  ·rw [wm e,if_neg (by decide)]
   rw [if_neg e] at q
   refine K.lt (fun z=>?_) x y e q
   have z:(b && (m == 0))=true:=z
   rw [yh] at z
   exact hp (by simpa using z.2) z.1 _ _ rfl
theorem uF {f:Kn}{sh:List Int→List Kn}{b:Bool}{x y:Value}{k l:cO}{Q:Bool→Shared→Prop}(hf:f ≠ .p)(okf:jJ prog w A f)(ok:∀ a,∀ k∈sh a,jJ prog w A k)(hx:Kd f sh s.heap x k)(hy:Kd f sh s.heap y l)(h:Q (decide (k < l)) s) :
  wpAny (model prog w) A (keyLt' (tuples' b) x y) Q E s:=by
 obtain ⟨a,o,vs,n,rfl,e,_,d,g⟩:=hx
 obtain ⟨a',o',us,n',rfl,e',_,d',g'⟩:=hy
 rw [lC]
 refine we (zE e d (we (zE e' d' ?_)))
 cases g with
 | @cons _ _ v vs a as x r =>
 cases g' with
 | @cons _ _ u us c bs y r2 =>
 show wpAny _ _ (jK b ((v::vs).zip (u::us)).zipIdx _) Q E s
 rw [yf,Av,lD]
 rw [lE] at h
 refine we (okf.eq x y ?_)
 by_cases e2:a=c
 ·subst e2
  rw [wF rfl,if_pos rfl]
  rw [if_pos rfl] at h
  have hz:decide ((v::vs).toArray.size < (u::us).toArray.size)=false:=by
   have:=r.len r2
   simp [this]
  rw [hz]
  exact uE (ok _) r (fun z=>by omega) r2 h
 ·rw [wm e2,if_neg (by decide)]
  rw [if_neg e2] at h
  exact okf.lt (fun _=>hf) x y e2 h
theorem lF {α β:Type}{g:α→Sem β}{f:α→β}:∀ {vs:List α} {Q:List β→Shared→Prop},(∀ v∈vs,∀ Q:β→Shared→Prop,Q (f v) s→wpAny (model prog w) A (g v) Q E s)→Q (vs.map f) s→wpAny (model prog w) A (vs.mapM g) Q E s
 | [],Q,_,h=>by rw [List.mapM_nil];exact wJ h
 | v::vs,Q,hg,h=>by
  rw [List.mapM_cons]
  refine we (hg v wX _ (we (lF (fun u hu=>hg u (wO _ hu)) (wJ ?_))))
  exact h
def jL (h:Heap):Value→Option Value:=fun v=>match v with
 | .ref a=>match h.get? a with
  | some o=>match o.data with
   | .seq xs _=>xs[0]?
   | _=>none
  | none=>none
 | _=>none
theorem pP {f:Kn}{sh:List Int→List Kn}{vs:List Value}(hf:f ≠ .p)(hv:∀ v∈vs,∃ k,Kd f sh s.heap v k)(ne:vs≠[]){Q:SortKind→Shared→Prop}(h:Q (tuples' true) s):wpAny (model prog w) A (keyKind' vs.toArray) Q E s:=by
 rw [keyKind'_eq,List.mapM_toArray]
 show wpAny _ _ ((List.toArray <$> vs.mapM firstOfTuple') >>= _) Q E s
 have hq:∀ v∈vs,∃ a o xs n x c,v = .ref a∧s.heap.get? a=some o∧o.cls = .type "tuple"∧o.data = .seq (x::xs:List Value).toArray n∧jL s.heap v=some x∧f.R s.heap x c:=fun v hv'=>by
  obtain ⟨k,a,o,us,n,rfl,e,hc,d,g⟩:=hv v hv'
  cases g with
  | @cons _ _ x xs c as q r =>
   refine ⟨a,o,xs,n,x,c,rfl,e,hc,d,?_,q⟩
   unfold jL
   dsimp only
   rw [e]
   dsimp only
   rw [d]
   rfl
 refine we (wpAny_map (lF (f:=jL s.heap) (fun v hv' Q' q=>?_) ?_))
 ·obtain ⟨a,o,xs,n,x,c,rfl,e,hc,d,ef,_⟩:=hq v hv'
  show wpAny _ _ (typeOf (.ref a) >>= fun ty=>if (ty != Value.type "tuple")=true then pure none else (do let xs ← Builtin.List.listItems (.ref a);pure xs[0]?)) Q' E s
  refine we (wpAny_typeOf (T:="tuple") ⟨o,e,hc⟩ ?_)
  have ht:(Value.type "tuple" != Value.type "tuple")=false:=by rfl
  rw [ht]
  simp only [wN,xS]
  refine we (zE e d (wJ ?_))
  rw [ef] at q
  exact q
 ·have h1:((vs.map (jL s.heap)).toArray.all (·.isSome))=true:=by
   simp only [List.all_toArray,List.all_map,zc]
   intro v hv'
   obtain ⟨_,_,_,_,x,_,_,_,_,_,ef,_⟩:=hq v hv'
   show (jL s.heap v).isSome=true
   rw [ef]
   rfl
  rw [if_pos h1]
  refine we (yC ?_)
  obtain ⟨T,hTn,hT⟩:∃ T:Value,(T != Value.type "tuple")=true∧((vs.map (jL s.heap)).filterMap id).mapM typeOf=pure (((vs.map (jL s.heap)).filterMap id).map fun _=>T):=by
   clear h1 ne hv h
   cases f with
   | p=>exact absurd rfl hf
   | i =>
    refine ⟨.type "int",rfl,mapM_typeOf_ints (ns:=((vs.map (jL s.heap)).filterMap id).map Ts.iOf) ?_⟩
    refine Ts.jq _ fun x hx=>?_
    obtain ⟨y,hy,e⟩:=zZ.mp hx
    obtain ⟨v,hv',rfl⟩:=xY.mp hy
    obtain ⟨_,_,_,_,x',_,_,_,_,_,ef,i,t,rfl,_⟩:=hq v hv'
    rw [ef] at e
    cases e
    exact ⟨i,t,rfl⟩
   | s =>
    refine ⟨.type "str",rfl,?_⟩
    obtain ⟨ns,hI⟩:∃ ns,StrsAre ((vs.map (jL s.heap)).filterMap id) ns:=by
     induction vs with
     | nil=>exact ⟨[],.nil⟩
     | cons v r ih =>
      obtain ⟨_,_,_,_,x',_,_,_,_,_,ef,i,t,rfl,_⟩:=hq v wX
      obtain ⟨ns,q⟩:=ih fun u hu=>hq u (wO _ hu)
      refine ⟨i::ns,?_⟩
      rw [xX,ef]
      exact .cons i t q
    exact mapM_typeOf_strs hI
  have e2:(vs.map (jL s.heap)).toArray.filterMap id=((vs.map (jL s.heap)).filterMap id).toArray:=by simp
  rw [e2,oneTypeOnly'_eq,List.mapM_toArray,hT]
  simp only [map_pure,pure_bind]
  have ne2:(vs.map (jL s.heap)).filterMap id≠[]:=by
   cases vs with
   | nil=>exact absurd rfl ne
   | cons v r =>
    obtain ⟨_,_,_,_,x',_,_,_,_,_,ef,_⟩:=hq v wX
    rw [xX,ef]
    simp
  generalize (vs.map (jL s.heap)).filterMap id=fs at ne2
  cases fs with
  | nil=>exact absurd rfl ne2
  | cons x r =>
   have h0:(List.map (fun _=>T) (x::r)).toArray[0]? = some T:=by simp
   have hall:((List.map (fun _=>T) (x::r)).toArray.all fun y=>y == T)=true:=by
    simp only [List.all_toArray,List.all_map,zc]
    intro _ _
    exact beq_self_eq_true T
   rw [h0]
   simp only [hall,yK,pure_bind]
   refine wJ ?_
   rw [show Option.any (fun x=>x != Value.type "tuple") (some T)=true from hTn]
   exact h
end
end Tv
namespace Tv
open PySem PyProof.Rows
def qle (k l:cO):Prop:=¬ l < k
theorem nC {k l:cO}(h:qle k l)(g:qle l k):k=l:=List.le_antisymm (Ap.mp h) (Ap.mp g)
theorem eL {α:Type}:∀ (l:List α),l.zip l=l.map fun x=>(x,x)
 | []=>rfl
 | x::r=>by rw [yf,eL r];rfl
section
variable {prog:Program} {w:World} {A:Around} {E:Value→Shared→Prop} {s:Shared}
end
end Tv
namespace L2
open PySem PySem.Spec PyProof.Rows Wd Tv
section
variable {X:Cx}
theorem dG:∀ {as:List Addr} {us:List Value},bg (as.map V.ref) us→us=as.map Value.ref
 | [],_,.nil=>rfl
 | a::as,_,.cons r t=>by cases r;rw [dG t];rfl
theorem fg:∀ (as:List Addr),bg (as.map V.ref) (as.map Value.ref)
 | []=>.nil
 | a::as=>.cons rfl (fg as)
inductive FlQ (H:Hp):List Kn→List V→cO→Prop
 | nil:FlQ H [] [] []
 | i {ks:List Kn} {xs:List V} {as:cO} (i:Int) (r:FlQ H ks xs as):FlQ H (.i::ks) (.int i::xs) ([i]::as)
 | s {ks:List Kn} {xs:List V} {as:cO} (x:Str) (r:FlQ H ks xs as):FlQ H (.s::ks) (.str x::xs) (x.cps.toList.map Int.ofNat::as)
 | p {ks:List Kn} {xs:List V} {as:cO} {b:Addr} {i j:Int} (p:H b=some (.tup [.int i,.int j])) (r:FlQ H ks xs as):FlQ H (.p::ks) (.ref b::xs) ([i,j]::as)
def KdQ (f:Kn)(sh:List Int→List Kn)(H:Hp)(a:Addr)(k:cO):Prop:=∃ xs,H a=some (.tup xs)∧FlQ H (f::sh (k.headD [])) xs k
theorem sk {Bp:List (Addr × Obj)}{σ:St}{H:Hp}{s:Shared}(I:Inv X Bp σ H s){ks:List Kn}{xs:List V}{as:cO}(f:FlQ H ks xs as):∀ {us:List Value},bg xs us→FlR s.heap ks us as:=by
 induction f with
 | nil=>intro us r;cases r;exact .nil
 | i i f ih =>
  intro us r
  cases r with
  | cons r1 r2 =>
   obtain ⟨t,rfl⟩:=r1
   exact .cons ⟨i,t,rfl,rfl⟩ (ih r2)
 | s x f ih =>
  intro us r
  cases r with
  | cons r1 r2 =>
   obtain ⟨t,rfl⟩:=r1
   exact .cons ⟨x,t,rfl,rfl⟩ (ih r2)
 | @p ks xs as b i j p f ih =>
  intro us r
  cases r with
  | cons r1 r2 =>
   cases r1
   obtain ⟨Br,r,pl,_⟩:=I.tuple (SqT.of p)
   obtain ⟨u1,u2,rfl,⟨t,rfl⟩,⟨u,rfl⟩⟩:=oU r
   obtain ⟨o,e,c,n,d⟩:=pl
   exact .cons ⟨i,j,⟨b,o,t,u,n,rfl,e,c,d⟩,rfl⟩ (ih r2)
theorem sq {Bp:List (Addr × Obj)}{σ:St}{H:Hp}{s:Shared}(I:Inv X Bp σ H s){f:Kn}{sh:List Int→List Kn}{a:Addr}{k:cO}(h:KdQ f sh H a k):Kd f sh s.heap (.ref a) k:=by
 obtain ⟨xs,h1,h2⟩:=h
 obtain ⟨Br,r,pl,_⟩:=I.tuple (SqT.of h1)
 obtain ⟨o,e,c,n,d⟩:=pl
 exact ⟨a,o,Br,n,rfl,e,c,d,sk I h2 r⟩
end
end L2
namespace Tv
open PySem PyProof.Rows
section
variable {prog:Program} {w:World} {A:Around} {E:Value→Shared→Prop} {s:Shared}
theorem nD {f:Kn}{sh:List Int→List Kn}{zs0:List (Addr × cO)}{h:Heap}(hp:∀ z∈zs0,Kd f sh h (.ref z.1) z.2){xs:Array Keyed}(pm:xs.Perm (pairsOf (zs0.map fun z=>Value.ref z.1)))(hs:SortedToK (kdK f sh h) xs (pairsOf (zs0.map fun z=>Value.ref z.1)).size) :
  ∃ zs:List (Addr × cO),zs.Perm zs0∧(xs.map (·.2)).toList=zs.map (fun z=>Value.ref z.1)∧(zs.map (·.2)).Pairwise qle:=by
 have hl:xs.toList.Perm (zs0.map fun z=>(Value.ref z.1,Value.ref z.1)):=by
  have:=yu.mp pm
  rw [pairsOf_toList,eL,xT] at this
  exact this
 obtain ⟨zs,h1,h2⟩:=L2.c6 (fun z:Addr × cO=>((Value.ref z.1,Value.ref z.1):Keyed)) hl.symm zs0 rfl
 refine ⟨zs,h1,?_,?_⟩
 ·rw [Array.toList_map,h2,xT]
  rfl
 ·have hz:zs.length=xs.size:=by rw [← wk,h2,wq]
  rw [yB]
  intro i j hi hj BD
  rw [wq] at hi hj
  have q:=hs i j (Ay BD) (by rw [← pm.size_eq];omega)
  have key:∀ k (hk:k < zs.length),KK (kdK f sh h) xs k=zs[k].2:=fun k hk=>by
   unfold KK
   have e:xs[k]? = some (Value.ref zs[k].1,Value.ref zs[k].1):=by
    rw [← xk,h2,xj,fu hk]
    rfl
   rw [e]
   show ((qG f sh h (.ref zs[k].1)).getD [])=_
   rw [(hp _ (h1.mem_iff.mp (wY hk))).of]
   rfl
  rw [key i hi,key j hj] at q
  rw [List.getElem_map,List.getElem_map]
  exact of_decide_eq_false q
theorem oD {f:Kn}{sh:List Int→List Kn}(hf:f ≠ .p)(okf:jJ prog w A f)(ok:∀ a,∀ k∈sh a,jJ prog w A k){a:Addr}{zs0:List (Addr × cO)}{m:Nat}{P:Fin→Shared→Prop}(at_:s.heap.get? a=some (seqObj "list" (zs0.map fun z=>Value.ref z.1).toArray m))(hp:∀ z∈zs0,Kd f sh s.heap (.ref z.1) z.2)(lim:zs0.length≤sizeLine)
  (q:∀ (out:Array Value) (zs:List (Addr × cO)),zs.Perm zs0→out.toList=zs.map (fun z=>Value.ref z.1)→(zs.map (·.2)).Pairwise qle→P (.done (.ret .none)) { s with heap:=sortedHeap s.heap a (zs0.map fun z=>Value.ref z.1) out }) :
  wpAny (model prog w) A (Builtin.«list.sort» ⟨[.ref a],[]⟩) P E s:=by
 have la:=wI at_
 -- the pairs stay while the list is empty
 have stay:∀ z∈zs0,Kd f sh (((s.heap.update a (Obj.mapSeq fun _=>#[])).push (seqObj "tuple" (zs0.map fun z=>Value.ref z.1).toArray 0)).push (seqObj "list" #[] 0)) (.ref z.1) z.2:=fun z hz=>by
  refine Kd.stay (fun b o g c=>?_) (hp z hz)
  have hba:b≠a:=fun x=>by
   subst x
   rw [at_] at g
   rw [← wA g] at c
   simp [seqObj] at c
  exact wg _ (wg _ ((xA _ _ (Ne.symm hba)).trans g))
 refine ny (κ:=kdK f sh (((s.heap.update a (Obj.mapSeq fun _=>#[])).push (seqObj "tuple" (zs0.map fun z=>Value.ref z.1).toArray 0)).push (seqObj "list" #[] 0))) (kd:=tuples' true) at_ ?_ ?_ ?_ (by rw [wq];exact lim) ?_
 ·intro p hp'
  rw [pairsOf_toList,eL,xT] at hp'
  obtain ⟨z,hz,rfl⟩:=xY.mp hp'
  exact ⟨_,(stay z hz).of⟩
 ·intro E' x y ka kb Q' hx hy hq
  exact uF hf okf ok (Kd.is hx) (Kd.is hy) hq
 ·intro x y r e Q' hq
  refine pP (f:=f) (sh:=sh) hf (fun v hv=>?_) (by simp) hq
  rw [← e] at hv
  obtain ⟨z,hz,rfl⟩:=xY.mp hv
  exact ⟨_,stay z hz⟩
 ·intro st c1 c2
  obtain ⟨zs,h1,h2,h3⟩:=nD stay c1 c2
  exact q _ zs h1 h2 h3
theorem lG {f:Kn}{sh:List Int→List Kn}(hf:f ≠ .p)(okf:∀ A':Around,A'.units≤A.units+8→jJ prog w A' f)(ok:∀ A':Around,A'.units≤A.units+8→∀ a,∀ k∈sh a,jJ prog w A' k){l:Addr}{zs0:List (Addr × cO)}{Q:Value→Shared→Prop}(hl:s.heap.IsList l (zs0.map fun z=>Value.ref z.1).toArray ∨ s.heap.IsTuple l (zs0.map fun z=>Value.ref z.1).toArray)(hp:∀ z∈zs0,Kd f sh s.heap (.ref z.1) z.2)(lim:zs0.length≤sizeLine)
  (q:∀ (out:Array Value) (zs:List (Addr × cO)),zs.Perm zs0→out.toList=zs.map (fun z=>Value.ref z.1)→(zs.map (·.2)).Pairwise qle→Q (.ref (s.heap.objs.size+1)) { s with heap:=sortedAll s.heap (zs0.map fun z=>Value.ref z.1) out }) :
  wpAny (model prog w) A (call (.builtin "sorted") [.ref l]) Q E s:=by
 have lim':(zs0.map fun z=>Value.ref z.1).length≤sizeLine:=by rw [wq];exact lim
 refine Calls.call_function_entry kind_sorted plain_sorted entry_sorted (args_sorted1 _) ?_
 unfold Builtin.«sorted»
 rcases hl with hl | hl
 ·refine we (m:=checkCount "sorted" 1 1 _) (wJ (we (collect_list hl (we (zJ ?_)) (hsz:=lim'))))
  have z1:((s.heap.push (seqObj "list" #[] 0)).update s.heap.objs.size (Obj.mapSeq (· ++ (zs0.map fun z=>Value.ref z.1).toArray))).objs.size=s.heap.objs.size+1:=(Heap.size_update ..).trans (size_push' ..)
  have g:(((s.heap.push (seqObj "list" #[] 0)).update s.heap.objs.size (Obj.mapSeq (· ++ (zs0.map fun z=>Value.ref z.1).toArray))).push (seqObj "list" (zs0.map fun z=>Value.ref z.1).toArray 0)).get? (s.heap.objs.size+1)=some (seqObj "list" (zs0.map fun z=>Value.ref z.1).toArray 0):=z1 ▸ wK _ rfl
  have old:∀ b o,s.heap.get? b=some o→(((s.heap.push (seqObj "list" #[] 0)).update s.heap.objs.size (Obj.mapSeq (· ++ (zs0.map fun z=>Value.ref z.1).toArray))).push (seqObj "list" (zs0.map fun z=>Value.ref z.1).toArray 0)).get? b=some o:=fun b o e =>
   wg _ ((xA _ _ (Az (wI e))).trans (wg _ e))
  show wpAny _ _ _ _ _ { s with heap:=((s.heap.push (seqObj "list" #[] 0)).update s.heap.objs.size (Obj.mapSeq (· ++ (zs0.map fun z=>Value.ref z.1).toArray))).push (seqObj "list" (zs0.map fun z=>Value.ref z.1).toArray 0) }
  rw [z1]
  refine we (yy (zd slot_list_sort ⟨_,g,rfl⟩ entry_list_sort (oD (f:=f) (sh:=sh) hf (okf _ (by show A.units+1+1≤_;omega)) (ok _ (by show A.units+1+1≤_;omega)) (zs0:=zs0) g (fun z hz=>(hp z hz).stay fun b o e _=>old b o e) lim fun out zs h1 h2 h3=>⟨_,rfl,?_⟩) (args_list_sort _)))
  exact wJ ⟨_,rfl,q _ zs h1 h2 h3⟩
 ·refine we (m:=checkCount "sorted" 1 1 _) (wJ (we (L2.ix hl (we (zJ ?_)) (hsz:=lim'))))
  have z1:((s.heap.push (seqObj "list" #[] 0)).update s.heap.objs.size (Obj.mapSeq (· ++ (zs0.map fun z=>Value.ref z.1).toArray))).objs.size=s.heap.objs.size+1:=(Heap.size_update ..).trans (size_push' ..)
  have g:(((s.heap.push (seqObj "list" #[] 0)).update s.heap.objs.size (Obj.mapSeq (· ++ (zs0.map fun z=>Value.ref z.1).toArray))).push (seqObj "list" (zs0.map fun z=>Value.ref z.1).toArray 0)).get? (s.heap.objs.size+1)=some (seqObj "list" (zs0.map fun z=>Value.ref z.1).toArray 0):=z1 ▸ wK _ rfl
  have old:∀ b o,s.heap.get? b=some o→(((s.heap.push (seqObj "list" #[] 0)).update s.heap.objs.size (Obj.mapSeq (· ++ (zs0.map fun z=>Value.ref z.1).toArray))).push (seqObj "list" (zs0.map fun z=>Value.ref z.1).toArray 0)).get? b=some o:=fun b o e =>
   wg _ ((xA _ _ (Az (wI e))).trans (wg _ e))
  show wpAny _ _ _ _ _ { s with heap:=((s.heap.push (seqObj "list" #[] 0)).update s.heap.objs.size (Obj.mapSeq (· ++ (zs0.map fun z=>Value.ref z.1).toArray))).push (seqObj "list" (zs0.map fun z=>Value.ref z.1).toArray 0) }
  rw [z1]
  refine we (yy (zd slot_list_sort ⟨_,g,rfl⟩ entry_list_sort (oD (f:=f) (sh:=sh) hf (okf _ (by show A.units+1+1≤_;omega)) (ok _ (by show A.units+1+1≤_;omega)) (zs0:=zs0) g (fun z hz=>(hp z hz).stay fun b o e _=>old b o e) lim fun out zs h1 h2 h3=>⟨_,rfl,?_⟩) (args_list_sort _)))
  exact wJ ⟨_,rfl,q _ zs h1 h2 h3⟩
end
end Tv
namespace L2
open PySem PySem.Spec PyProof.Rows Wd Tv
section
variable {X:Cx}
inductive bM (f:Kn)(sh:List Int→List Kn)(K:PySem.W.Frag)(xs:List V)(H:Hp)(Q:VK):Prop
 | mk:∀ (l:Addr) (zs0:List (Addr × cO)),(xs=[.ref l])→(SqL K H l ((zs0.map (·.1)).map V.ref) ∨ SqT K H l ((zs0.map (·.1)).map V.ref))→(∀ z∈zs0,KdQ f sh H z.1 z.2) →
   (∀ (p:Addr) (zs:List (Addr × cO)),H p=none→zs.Perm zs0→(zs.map (·.2)).Pairwise qle→Q (.ref p) (upd H p (.lst ((zs.map (·.1)).map V.ref))))→bM f sh K xs H Q
theorem fT {f:Kn}{sh:List Int→List Kn}{K:PySem.W.Frag}(hf:f ≠ .p)(okf:∀ A:Around,A.units≤X.A.units+8→jJ X.prog X.w A f)(ok:∀ A:Around,A.units≤X.A.units+8→∀ a,∀ k∈sh a,jJ X.prog X.w A k)(hK:X.K=K):cZ X (.builtin "sorted") (bM f sh K):=by
 subst hK
 intro Bp s σ H xs us Q I r h
 obtain ⟨l,zs0,rfl,hq,hp,q⟩:=h
 obtain ⟨u,rfl,ru⟩:=cN r
 cases ru
 have em:∀ zs:List (Addr × cO),(zs.map (·.1)).map Value.ref=zs.map fun z=>Value.ref z.1:=fun zs=>by rw [xT];rfl
 obtain ⟨pl,hz⟩:(s.heap.IsList l (zs0.map fun z=>Value.ref z.1).toArray ∨ s.heap.IsTuple l (zs0.map fun z=>Value.ref z.1).toArray)∧((zs0.map (·.1)).map V.ref).length≤sizeLine:=by
  rcases hq with hq | hq
  ·obtain ⟨Br,rv,pl,hz⟩:=I.list hq
   rw [dG rv,em] at pl
   exact ⟨.inl pl.isList,hz⟩
  ·obtain ⟨Br,rv,pl,hz⟩:=I.tuple hq
   rw [dG rv,em] at pl
   exact ⟨.inr pl,hz⟩
 rw [wq,wq] at hz
 refine lG hf okf ok pl (fun z hz'=>sq I (hp z hz')) hz fun out zs h1 h2 h3=>?_
 obtain ⟨e,he⟩:=sortedAll_at s.heap (zs0.map fun z=>Value.ref z.1) out
 have I2:Inv X Bp σ (upd H (s.heap.objs.size+1) (.lst ((zs.map (·.1)).map V.ref))) { s with heap:=sortedAll s.heap (zs0.map fun z=>Value.ref z.1) out,toks:=s.toks } :=
  I.laid (fun b o e=>sortedAll_old e) (Ah _) ⟨by rw [wq,wq,h1.length_eq];exact hz,out.toList,e,by rw [h2,← em];exact fg _,by simpa [seqObj] using he⟩
 exact ⟨.ref (s.heap.objs.size+1),_,I2,rfl,q _ zs (I.hok.fresh (Ah _)) h1 h3⟩
end
end L2
namespace Tv
open PySem PyProof.Rows
theorem vU {prog:Program}{w:World}{A:Around}(hu:A.units+8 < cLine):jJ prog w A .p:=by
 refine ⟨fun {s E v u a b Q} x y q=>?_,fun {s E c v u a b Q} hc x y ne q=>?_⟩
 ·obtain ⟨i,j,⟨a,o,t,t',n,rfl,e,hc,d⟩,rfl⟩:=x
  obtain ⟨k,l,⟨a2,o2,t2,t2',n2,rfl,e2,hc2,d2⟩,rfl⟩:=y
  have rd:∀ {a:Addr} {o:Obj} {t t':Tok} {n:Nat} {i j:Int},s.heap.get? a=some o→o.cls = .type "tuple"→o.data = .seq #[.int i t,.int j t'] n→Reads s.heap (.ref a) (.tuple [.int i,.int j]) []:=fun g1 g2 g3=>.tuple g1 g2 g3 (.cons (as:=[]) (bs:=[]) (.int _ _) (.cons (as:=[]) (bs:=[]) (.int _ _) .nil))
  refine SeqAt.eqAt_reads _ _ A s _ _ _ _ (rd e hc d) (rd e2 hc2 d2) rfl rfl (by show A.units+min 1 1 < cLine;omega) prog w E _ ?_
  have eq:PyData.eqv (.tuple [.int i,.int j]) (.tuple [.int k,.int l])=((i == k) && ((j == l) && true)):=rfl
  rw [eq]
  have:decide ([i,j]=[k,l])=((i == k) && ((j == l) && true)):=by
   rw [xh]
   simp
  rwa [this] at q
 ·obtain ⟨i,j,⟨a,o,t,t',n,rfl,e,hc1,d⟩,rfl⟩:=x
  obtain ⟨k,l,⟨a2,o2,t2,t2',n2,rfl,e2,hc2,d2⟩,rfl⟩:=y
  have hb:c=false:=by
   cases c with
   | true=>exact absurd rfl (hc rfl)
   | false=>rfl
  rw [hb,oneLt'_eq]
  simp only [wN,xS]
  refine we (HT.e8 ⟨o,e,hc1,n,d⟩ ⟨o2,e2,hc2,n2,d2⟩ (.cons _ _ (.cons _ _ .nil)) (.cons _ _ (.cons _ _ .nil)) (by omega) (yo ?_))
  have:HT.bD [i,j] [k,l]=decide ([i,j] < [k,l]):=by
   rw [xh,wz,x_,x_,HT.bE,HT.bE]
   by_cases c1:i=k
   ·have c2:¬ j=l:=fun z=>ne (by rw [c1,z])
    rw [if_pos c1,if_neg c2,wz]
    exact ⟨fun h=>.inr ⟨c1,.inl h⟩,fun h=>h.elim (fun h=>by omega) fun h=>h.2.elim id fun h=>absurd h.1 c2⟩
   ·rw [if_neg c1,wz]
    exact ⟨.inl,fun h=>h.elim id fun h=>absurd h.1 c1⟩
  rw [this]
  exact q
theorem oE {prog:Program}{w:World}{A:Around}(hu:A.units+8 < cLine):∀ k,jJ prog w A k
 | .i=>vS
 | .s=>vT
 | .p=>vU hu
end Tv
namespace L2
open PySem PySem.Spec PyProof.Rows Wd Tv
theorem cX {X:Cx}{f:Kn}{sh:List Int→List Kn}{K:PySem.W.Frag}(hf:f ≠ .p)(hu:X.A.units+64 < cLine)(hK:X.K=K):cZ X (.builtin "sorted") (bM f sh K):=fT hf (fun A h=>oE (by omega) f) (fun A h _ k _=>oE (by omega) k) hK
end L2
namespace L2
open PySem PySem.Spec PyProof.Rows
section
variable {X:Cx}
open Classical in
end
end L2
namespace HT
open PySem PyProof.Rows
theorem nE (A:Around)(s:Shared)(a:Int)(t:Tok)(c:Int)(u:Tok)(prog:Program)(w:World)(E:Value→Shared→Prop)(Q:Value→Shared→Prop)(h:Q (.bool (decide (c < a))) s) :
  wpAny (model prog w) A (richCompare .Gt (.int a t) (.int c u)) Q E s :=
 (PyProof.Rows.gt_int (by exact h):wpAny (model prog w) A (compareOp .Gt (.int a t) (.int c u)) Q E s)
section
open PySem.SeqAt
open PySem.AutoSeq1 (wpAny_loadPart')
open PySem.MeetsSeq PySem.MeetsSeq2 PySem.MeetsSeq3
theorem fU (l b:Addr)(items Bw:Array Value)(n n2:Nat)(dd dd2:Option Addr)(sl sl2:Array (Option Value))(ns ms:List Int)(hi:IntsAre items.toList ns)(hj:IntsAre Bw.toList ms) :
  Meets (Builtin.«tuple.__gt__» ⟨[.ref l,.ref b],[]⟩)
   (fun _ R s=>s.heap.get? l=some { cls:=.type "tuple",dict:=dd,data:=.seq items n,slots:=sl }∧s.heap.get? b=some { cls:=.type "tuple",dict:=dd2,data:=.seq Bw n2,slots:=sl2 } ∧
    R (.ok (.ret (.bool (bD ms ns)))) s) :=
 .of_wp fun prog w A R s h=>by
  obtain ⟨hp,g,d,tk,os⟩:=s;obtain ⟨hl,hb,h⟩:=h
  have f2:=z9
  have z1:items.size=ns.length:=by rw [← hi.length];simp
  have z2:Bw.size=ms.length:=by rw [← hj.length];simp
  wp_walk using wpAny_loadPart' hl,wpAny_loadPart' hb,wpAny_forIn_list _ (fun rest b s'=>b.1=none∧s'=⟨hp,g,d,tk,os⟩∧∃ (vs ws:List Value) (ns' ms':List Int),rest=vs.zip ws ∧
   IntsAre vs ns'∧IntsAre ws ms'∧ns'.length+Bw.size=ms'.length+items.size∧R (.ok (.ret (.bool (bD ms' ns')))) ⟨hp,g,d,tk,os⟩) _
  case turn =>
   rintro ⟨y,x⟩ rest b s' ⟨hb',rfl,vs,ws,ns',ms',hz,hvi,hwi,hlen,hR⟩
   cases hvi with
   | nil=>rw [List.zip_nil_left] at hz;cases hz
   | cons a t hvi' =>
    cases hwi with
    | nil=>rw [List.zip_nil_right] at hz;cases hz
    | cons c u hwi' =>
     rw [yf] at hz
     injection hz with hyx hrest
     injection hyx with hy hx
     subst hy hx
     rw [bE] at hR
     simp only [xu] at hlen
     obtain ⟨e,he,hiff⟩:=i3 A.in1 ⟨hp,g,d,tk,os⟩ a t c u
     refine we (he prog w _ _ ?_)
     cases e with
     | true =>
      rw [if_pos (hiff.mp rfl).symm] at hR
      wp_walk
      exact ⟨rfl,rfl,_,_,_,_,hrest,hvi',hwi',by omega,hR⟩
     | false =>
      rw [if_neg (fun q=>absurd (hiff.mpr q.symm) wM)] at hR
      have hri:=nE A.in1 ⟨hp,g,d,tk,os⟩ a t c u prog w
      wp_walk using hri
      exact ⟨_,rfl,by simpa using hR⟩
  case fin =>
   rintro ⟨b1,b2⟩ s' ⟨hb',rfl,vs,ws,ns',ms',hz,hvi,hwi,hlen,hR⟩
   simp only at hb'
   subst hb'
   have hv:bD ms' ns'=decide (Bw.size < items.size):=by
    cases hvi with
    | nil =>
     cases hwi with
     | nil =>
      simp only [x8] at hlen
      rw [bW]
      exact (wm (by omega)).symm
     | cons c u hw =>
      simp only [x8,xu] at hlen
      rw [cR]
      exact (wm (by omega)).symm
    | cons a t hv =>
     cases hwi with
     | nil =>
      simp only [x8,xu] at hlen
      rw [cQ]
      exact (wF (by omega)).symm
     | cons c u hw =>
      rw [yf] at hz
      cases hz
   rw [hv] at hR
   wp_walk
   exact ⟨_,rfl,by simpa [Builtin.Tuple.tupleCompareSizes] using hR⟩
  case h =>
   exact ⟨rfl,rfl,items.toList,Bw.toList,ns,ms,rfl,hi,hj,by omega,h⟩
end
section
variable {prog:Program} {w:World} {A:Around} {E:Value→Shared→Prop} {s:Shared}
theorem jM {l b:Addr}{items Bw:Array Value}{ns ms:List Int}{Q:Value→Shared→Prop}(hl:IsTup s.heap l items)(hb:IsTup s.heap b Bw)(hi:IntsAre items.toList ns)(hj:IntsAre Bw.toList ms)
  (hu:A.units < cLine) (h:Q (.bool (bD ms ns)) s):wpAny (model prog w) A (richCompare .Gt (.ref l) (.ref b)) Q E s:=by
 obtain ⟨⟨cls,dd,data,sl⟩,ho,hc,n,hd⟩:=id hl
 obtain ⟨⟨cls2,dd2,data2,sl2⟩,ho2,hc2,n2,hd2⟩:=id hb
 simp only at hc hd hc2 hd2
 subst hc hd hc2 hd2
 exact richCompare_meets_room (op:=.Gt) ⟨_,ho,rfl⟩ ⟨_,ho2,rfl⟩ PySem.F.slot_tuple_gt PySem.F.entry_tuple_gt (PySem.F.args_tuple_gt_2 _ _) (fU l b items Bw n n2 dd dd2 sl sl2 ns ms hi hj)
  ⟨ho,ho2,show Value.bool (bD ms ns)≠Value.notImplemented∧Q (.bool (bD ms ns)) s from ⟨(fun x=>nomatch x),h⟩⟩ hu
end
end HT
namespace L2
open PySem PySem.Spec PyProof.Rows
section
variable {X:Cx}
end
end L2
namespace PySem
open Sem (wp)
section
variable {K:Type} [DecidableEq K] {prog:Program} {w:World} {knd:KeyKind prog w K} {A:Around} {E:Value→Shared→Prop} {s:Shared}
set_option maxHeartbeats 3200000 in
theorem jN (dd:Nat→List K){z:Str}{zt:Tok}{val:Nat→K}{Q:Value→Shared→Prop}(hh:A.handled=none)(hl:z.cps.all (· < 128)=true)(d0:dd 0=[])(d1:∀ i,val i∈dd i→dd (i+1)=dd i)(d2:∀ i,val i∉dd i→dd (i+1)=dd i++[val i])(dl:∀ i,(dd i).length≤i)(B7:∀ (i:Nat) (v:Value),(∃ c u,z.cps[i]? = some c∧v = .str ⟨#[c]⟩ u)→knd.is (val i) v=true∧v.scannable=true)(hb:z.cps.size+1 < scanBound)
  (h:∀ (h':Heap) (tk:Nat),ir knd h' s.heap.objs.size (dd z.cps.size)→(∀ b o,b < s.heap.objs.size→s.heap.get? b=some o→h'.get? b=some o)→Q (.ref s.heap.objs.size) { s with heap:=h',toks:=tk }) :
  wpAny (model prog w) A (call (.type "set") [.str z zt]) Q E s:=by
 obtain ⟨c,tl,hmro⟩:=F.called_set.mro
 have hmade:=F.called_set.made
 have hsub:=F.called_set.sub
 refine wpAny_call (AF ?_)
 show wpAny _ _ (callAny (.type "set") _) _ _ _
 refine wJ ⟨z6 _ (by decide +kernel),yG F.entry_type_call ?_⟩
 rw [Around.under_plain (weight_type_call_type "set" [.str z zt] []) rfl]
 have x1:=F.called_set.notType
 have x2:=F.called_set.canCreate
 have x3:=F.typeCall_set_1 (.str z zt)
 repeat (any_goals (first | assumption | wp_step))
 refine zf (dj (.str z zt) (E:=E) (Q₁:=fun ob s1=>ob = .ref s.heap.objs.size∧s1={ s with heap:=s.heap.push (sob (ldr w)) }) ⟨rfl,rfl⟩) fun r s1 hr=>?_
 cases r with
 | error e=>exact hr
 | ok fl =>
  cases fl with
  | ret ob =>
   obtain ⟨rfl,rfl⟩:=hr
   have gS:(s.heap.push (sob (ldr w))).get? s.heap.objs.size=some (sob (ldr w)):=wK _ rfl
   have hT:Shared.TypeIs { s with heap:=s.heap.push (sob (ldr w)) } (.ref s.heap.objs.size) "set":=⟨_,gS,rfl⟩
   have x4:=F.called_set.init.lookup
   have x5:=F.called_set.init.bind (.ref s.heap.objs.size)
   repeat (any_goals (first | assumption | wp_step))
   refine zf (codeAny_call_builtin (R:=wants (fun r s2=>r = .none∧∃ h' tk,s2={ s with heap:=h',toks:=tk }∧ir knd h' s.heap.objs.size (dd z.cps.size)∧(∀ b o,b < s.heap.objs.size→s.heap.get? b=some o→h'.get? b=some o)) E) F.called_set.init.plain F.entry_set_init (check_set_init_1 hT ?_)) fun r2 s2 hr2=>?_
   ·have y1:=F.sub_str_set
    have y2:=F.sub_str_frozenset
    have y3:(Value.type "str" == Value.type "dict")=false:=by decide
    unfold Builtin.«set.__init__» noKeywords Builtin.Frozenset.updateFrom
    generalize hPI:pyIter=PI
    wp_walk
    subst hPI
    refine wpAny_pyIter_ascii hl (we (AJ ?_))
    have z1:(s.heap.push (sob (ldr w))).objs.size=s.heap.objs.size+1:=zA ..
    have nf:s.heap.objs.size∉[(s.heap.push (sob (ldr w))).objs.size]:=by
     rw [z1];simp only [wc]
     exact xp (yw _)
    refine rZ dd ((Walks.strAscii (by simp [hh]) _ z zt).toS) s.heap.objs.size nf val d1 d2 dl B7 hb (z.cps.size - 0) 0 _ (by omega) (xv _) ⟨_,wK _ rfl,rfl,rfl⟩ ?s0 ?rr
    case s0=>exact ⟨_,#[],0,_,wg _ gS,⟨rfl,rfl,rfl⟩,rfl,fun e he=>by simp at he,fun k=>by rw [d0];simp,by decide,by rfl,by rw [d0];rfl,⟨rfl,jk⟩,rfl⟩
    case rr =>
     intro s' mv hS'
     obtain ⟨h',g',d',tk',os'⟩:=s'
     obtain rfl:g'=s.gens:=mv.gens
     obtain rfl:d'=s.drawn:=mv.drawn
     obtain rfl:os'=s.os:=mv.os
     show wpAny _ _ _ _ _ _
     refine wJ ?_
     show wpAny _ _ (ret Value.none) _ _ _
     refine wJ ⟨rfl,h',tk',rfl,hS',fun b o BA e=>mv.heap b o ?_ (wg _ (wg _ e))⟩
     simp only [wH,wc,wZ,yg,not_or]
     exact ⟨xp BA,by rw [z1];exact xp (y8 BA)⟩
   ·cases r2 with
    | error e=>exact hr2
    | ok fl2 =>
     cases fl2 with
     | ret r =>
      obtain ⟨rfl,h',tk,rfl,hS',hk'⟩:=hr2
      repeat (any_goals (first | assumption | wp_step))
      exact h _ _ hS' hk'
     | _=>exact hr2.elim
  | _=>exact hr.elim
end
end PySem
namespace L2
open PySem PySem.Spec PyProof.Rows Wd
section
variable {X:Cx}
inductive dm (P:PySem.Program)(w:PySem.World)(xs:List V)(H:Hp)(Q:VK):Prop
 | mk:∀ (a:Addr) (dl:List Str),(xs=[.ref a])→(H a=some (StO P w a dl))→(Q (.int (dl.length:Int)) H)→dm P w xs H Q
theorem eM:cZ X (.builtin "len") (dm X.prog X.w):=by
 intro Bp s σ H xs us Q I r h
 obtain ⟨a,dl,rfl,ha,q⟩:=h
 obtain ⟨u,rfl,ru⟩:=cN r
 cases ru
 have hS:pL X.prog X.w s.heap a dl:=(I.hok a _ ha).1
 obtain ⟨o,es,ep,t,ho,hex,hd,hel,hm,hb,hf,hn,hpl,BK⟩:=hS
 have hb:es.size < 4096:=hb
 refine call_len_set ho hex hd hf (by omega) ?_
 rw [hn]
 exact ⟨.int (dl.length:Int),H,(I.tok _).tok _,⟨_,rfl⟩,q⟩
inductive dq (K:PySem.W.Frag)(xs:List V)(H:Hp)(Q:VK):Prop
 | mk:∀ p i j,(xs=[.ref p])→(SqL K H p [.int i,.int j])→(Q (.int (if j < i then j else i)) H)→dq K xs H Q
theorem iy (hc:X.calm=true):cZ X (.builtin "min") (dq X.K):=by
 intro Bp s σ H xs us Q I r h
 obtain ⟨p,i,j,rfl,hq,q⟩:=h
 obtain ⟨u,rfl,ru⟩:=cN r
 cases ru
 obtain ⟨Br,rv,pl,_⟩:=I.list hq
 have ht:=pl.isList
 obtain ⟨t,u,rfl⟩:=fe rv
 have BA:p < s.heap.objs.size:=by obtain ⟨_,e,_⟩:=ht;exact wI e
 refine call_min_walk (zx ht ?_)
 refine ⟨_,_,_,_,_,_,fun a b=>decide (nAt i j a < nAt i j b),rfl,Walks.list (A:=X.A.in1) (I.ok.hd hc) _ p (xp BA) _,⟨⟨_,wK _ rfl,rfl,rfl⟩,ht.push _⟩,fun b hb=>?_,?_,?_,fun v h' tk hP hk=>?_⟩
 ·show b < (s.heap.push _).objs.size
  rw [zA]
  rcases wH.mp hb with e | hb
  ·rw [e];exact yw _
  ·rw [wc.mp hb];exact y8 BA
 ·exact Nat.zero_lt_succ 1
 ·refine CmpOf.ints_lt (nAt i j) fun a v hv=>?_
  match a,hv with
  | 0,hv=>exact ⟨t,(wA hv).symm⟩
  | 1,hv=>exact ⟨u,(wA hv).symm⟩
  | (a+2),hv=>simp at hv
 ·have old:∀ b o,s.heap.get? b=some o→h'.get? b=some o:=fun b o e=>hk b o (fun z=>by rw [wc.mp z] at e;exact absurd (wI e) (xV _)) (wg _ e)
  have hP:[Value.int i t,Value.int j u].toArray[if decide (j < i)=true then 1 else 0]? = some v:=hP
  by_cases h:j < i
  ·rw [if_pos (wF h)] at hP
   rw [if_pos h] at q
   exact ⟨.int j,H,I.kept old,⟨u,(wA hP).symm⟩,q⟩
  ·rw [wm h] at hP
   rw [if_neg h] at q
   exact ⟨.int i,H,I.kept old,⟨t,(wA hP).symm⟩,q⟩
inductive du (K:PySem.W.Frag)(xs:List V)(H:Hp)(Q:VK):Prop
 | mk:∀ p i j,(xs=[.ref p])→(SqL K H p [.int i,.int j])→(Q (.int (if j > i then j else i)) H)→du K xs H Q
theorem iz (hc:X.calm=true):cZ X (.builtin "max") (du X.K):=by
 intro Bp s σ H xs us Q I r h
 obtain ⟨p,i,j,rfl,hq,q⟩:=h
 obtain ⟨u,rfl,ru⟩:=cN r
 cases ru
 obtain ⟨Br,rv,pl,_⟩:=I.list hq
 have ht:=pl.isList
 obtain ⟨t,u,rfl⟩:=fe rv
 have BA:p < s.heap.objs.size:=by obtain ⟨_,e,_⟩:=ht;exact wI e
 refine call_max_walk (zx ht ?_)
 refine ⟨_,_,_,_,_,_,fun a b=>decide (nAt i j a > nAt i j b),rfl,Walks.list (A:=X.A.in1) (I.ok.hd hc) _ p (xp BA) _,⟨⟨_,wK _ rfl,rfl,rfl⟩,ht.push _⟩,fun b hb=>?_,?_,?_,fun v h' tk hP hk=>?_⟩
 ·show b < (s.heap.push _).objs.size
  rw [zA]
  rcases wH.mp hb with e | hb
  ·rw [e];exact yw _
  ·rw [wc.mp hb];exact y8 BA
 ·exact Nat.zero_lt_succ 1
 ·refine CmpOf.ints_gt (nAt i j) fun a v hv=>?_
  match a,hv with
  | 0,hv=>exact ⟨t,(wA hv).symm⟩
  | 1,hv=>exact ⟨u,(wA hv).symm⟩
  | (a+2),hv=>simp at hv
 ·have old:∀ b o,s.heap.get? b=some o→h'.get? b=some o:=fun b o e=>hk b o (fun z=>by rw [wc.mp z] at e;exact absurd (wI e) (xV _)) (wg _ e)
  have hP:[Value.int i t,Value.int j u].toArray[if decide (j > i)=true then 1 else 0]? = some v:=hP
  by_cases h:j > i
  ·rw [if_pos (wF h)] at hP
   rw [if_pos h] at q
   exact ⟨.int j,H,I.kept old,⟨u,(wA hP).symm⟩,q⟩
  ·rw [wm h] at hP
   rw [if_neg h] at q
   exact ⟨.int i,H,I.kept old,⟨t,(wA hP).symm⟩,q⟩
inductive vk (K:PySem.W.Frag)(x:V)(y:V)(H:Hp)(Q:VK):Prop
 | mk:∀ a b ns ms,(x = .ref a)→(y = .ref b)→(SqT K H a (ns.map V.int))→(SqT K H b (ms.map V.int))→(Q (.bl (HT.bD ms ns)) H)→vk K x y H Q
theorem su {K:PySem.W.Frag}(hK:X.K=K)(hu:X.A.units+64 < cLine):OpR X (compareOp .Gt) (vk K):=by
 subst hK
 intro Bp s σ H x y v u Q I rx ry h
 obtain ⟨a,b,ns,ms,rfl,rfl,ha,hb,q⟩:=h
 cases rx
 cases ry
 obtain ⟨Br,r1,p1,_⟩:=I.tuple ha
 obtain ⟨BS,r2,p2,_⟩:=I.tuple hb
 have i1:IntsAre Br.toArray.toList ns:=cI r1
 have i2:IntsAre BS.toArray.toList ms:=cI r2
 exact HT.jM p1 p2 i1 i2 (by omega) ⟨.bl (HT.bD ms ns),H,I,rfl,q⟩
inductive cC (P:PySem.Program)(w:PySem.World)(xs:List V)(H:Hp)(Q:VK):Prop
 | mk:∀ (u:List L),(xs=[tx u])→(u.length≤4000)→(∀ (p:Addr) (dl:List Str),H p=none→dl.Nodup→(∀ z,z∈dl ↔ ∃ x∈u,z=toS [x])→Q (.ref p) (upd H p (StO P w p dl)))→cC P w xs H Q
theorem fV (hc:X.calm=true):cZ X (.type "set") (cC X.prog X.w):=by
 intro Bp s σ H xs us Q I r h
 obtain ⟨v,rfl,hz,q⟩:=h
 obtain ⟨u,rfl,ru⟩:=cN r
 obtain ⟨zt,rfl⟩:=ru
 have hsz:(toS v).cps.size=v.length:=bh v
 have B7:∀ (i:Nat) (x:Value),(∃ c u,(toS v).cps[i]? = some c∧x = .str ⟨#[c]⟩ u)→∃ t,x = .str (toS [v.getD i 0]) t:=fun i x ⟨c,u,hc,e⟩=>by
  obtain ⟨y,hy,ey⟩:=c5 hc
  refine ⟨u,?_⟩
  rw [e,ey,wV,hy]
  rfl
 refine jN (knd:=strKind X.prog X.w) (val:=fun i=>toS [v.getD i 0]) (ddp fun i=>toS [v.getD i 0]) (I.ok.hd hc) (Kx.asc v) (by unfold ddp;rfl) (fun i m=>by rw [ddp,if_pos m]) (fun i m=>by rw [ddp,if_neg m]) (ip _) (fun i x e=>by obtain ⟨t,rfl⟩:=B7 i x e;exact ⟨strKind_is _ _ _ _,rfl⟩) (by rw [hsz];show _ < 4096;omega) fun h' tk hS k=>?_
 refine ⟨.ref s.heap.objs.size,_,I.laid (fun b o e=>k b o (wI e) e) (wu _) (pL.lay hS),rfl,q _ _ (I.hok.fresh (wu _)) (dk _ _) fun z=>?_⟩
 rw [iu,hsz]
 constructor
 ·rintro ⟨j,hj,rfl⟩
  refine ⟨v[j],wY hj,?_⟩
  show toS [v.getD j 0]=_
  rw [wV,fu hj]
  rfl
 ·rintro ⟨x,hx,rfl⟩
  obtain ⟨j,hj,rfl⟩:=List.getElem_of_mem hx
  refine ⟨j,hj,?_⟩
  show toS [v.getD j 0]=_
  rw [wV,fu hj]
  rfl
end
end L2
namespace L2
open PySem PySem.Spec PyProof.Rows
theorem iA {X:Cx}{K:PySem.W.Frag}(hK:X.K=K)(hu:X.A.units < cLine):OpR X (compareOp .Lt) (uc K):=by subst hK; exact rA hu
end L2
namespace Kx
open PySem PySem.Spec PyProof.Rows L2 Wd Tv
theorem sv:bootBuiltins "set" = some (.type "set"):=by kernel_rfl
theorem vV {α:Type}{us:List α}(h:us.length=7):∃ a0 a1 a2 a3 a4 a5 a6,us=[a0,a1,a2,a3,a4,a5,a6]:=by
 match us,h with
 | [a0,a1,a2,a3,a4,a5,a6],_=>exact ⟨a0,a1,a2,a3,a4,a5,a6,rfl⟩
theorem cD {n:Nat}(h:n≤16777216):n≤sizeLine:=by rw [aX]; exact h
theorem lH {t u:TS}{D:gq}{σ:L2.St}{H:Hp}(h:t D σ H):cj t u D σ true H:=qF h
theorem fW {t u:TS}{D:gq}{σ:L2.St}{H:Hp}(h:u D σ H):cj t u D σ false H:=mQ h
theorem vW {u:TT}{σ:L2.St}{Q:Bool→Hp→Prop}{H:Hp}(h:Q true H):jY u σ Q true H:=qF h
theorem vX {u:TT}{σ:L2.St}{Q:Bool→Hp→Prop}{H:Hp}(h:u σ H Q):jY u σ Q false H:=mQ h
theorem jO {u:TT}{σ:L2.St}{Q:Bool→Hp→Prop}{H:Hp}(h:u σ H Q):bU u σ Q true H:=qF h
theorem jP {u:TT}{σ:L2.St}{Q:Bool→Hp→Prop}{H:Hp}(h:Q false H):bU u σ Q false H:=mQ h
theorem tK {ta tb:TE}{σ:L2.St}{Q:VK}{H:Hp}(h:ta σ H Q):j3 ta tb σ Q true H:=qF h
theorem tL {ta tb:TE}{σ:L2.St}{Q:VK}{H:Hp}(h:tb σ H Q):j3 ta tb σ Q false H:=mQ h
theorem nkT {Q:Bool→Hp→Prop}{H:Hp}(h:Q false H):jZ Q true H:=h
theorem lt0 {n c:Nat}(h:n+64 < c):n < c:=by omega
def atZ (w:List L)(j:Int):L:=w.getD (j % (w.length:Int)).toNat 0
def sgZ (w:List L)(p wy k:Int):L:=if wy=1 then atZ w (p+wy*k) else inv (atZ w (p+wy*k))
theorem fX {w:List L}(j:Int):atZ w (j+(w.length:Int))=atZ w j:=by
 unfold atZ
 rw [Int.add_emod_right]
theorem oF {w:List L}{wy:Int}(hw:wy=1 ∨ wy = -1)(p k:Int):sgZ w p wy (k+(w.length:Int))=sgZ w p wy k:=by
 unfold sgZ
 rcases hw with rfl | rfl
 ·rw [if_pos rfl,if_pos rfl,← fX (p+1*k)]
  congr 1
  omega
 ·rw [if_neg (by decide),if_neg (by decide),← fX (p + -1*(k+(w.length:Int)))]
  congr 2
  omega
theorem nF {f g:Int→L}{a b:Int}(ha:0 < a)(hb:0 < b)(pf:∀ k,f (k+a)=f k)(pg:∀ k,g (k+b)=g k)(h:∀ k,0≤k→k < a+b→f k=g k):f (-1)=g (-1):=by
 have e1:=pf (-1)
 have e2:=h (-1+a) (by omega) (by omega)
 have e3:=pg (-1+a)
 have e4:=h (-1+a+b) (by omega) (by omega)
 have e5:=pf (-1+b)
 have e6:=h (-1+b) (by omega) (by omega)
 have e7:=pg (-1)
 rw [← e1,e2,← e3,← e4,show -1+a+b = -1+b+a by omega,e5,e6,e7]
def frN (f g:Int→L):Nat→Nat→Nat
 | k,0=>k
 | k,b+1=>if f k=g k then frN f g (k+1) b else k
theorem dH (f g:Int→L):∀ (b k:Nat),k≤frN f g k b∧frN f g k b≤k+b∧(∀ j:Nat,k≤j→j < frN f g k b→f j=g j)∧(frN f g k b < k+b→f (frN f g k b)≠g (frN f g k b))
 | 0,k=>⟨wu _,wu _,fun j h1 h2=>absurd h2 (by show ¬ j < k;omega),fun h=>absurd h (by show ¬ k < k+0;omega)⟩
 | b+1,k=>by
  unfold frN
  by_cases e:f k=g k
  ·rw [if_pos e]
   obtain ⟨h1,h2,h3,h4⟩:=dH f g b (k+1)
   refine ⟨by omega,by omega,fun j hj hl=>?_,fun h=>h4 (by omega)⟩
   by_cases hk:j=k
   ·rw [hk];exact e
   ·exact h3 j (by omega) hl
  ·rw [if_neg e]
   exact ⟨wu _,by omega,fun j h1 h2=>by omega,fun _=>e⟩
def ptB (u:List L)(f g:Int→L)(n:Nat):Bool:=decide (0 < n) && (decide (f (-1)≠g (-1)) && (decide (f n≠g n) && (decide (rfI u (inv (f ((n:Int) - 1))) (f n) < rfI u (inv (f ((n:Int) - 1))) (g n)) == decide (rfI u (f 0) (inv (f (-1))) < rfI u (f 0) (inv (g (-1)))))))
theorem dY {u:List L}{f g:Int→L}{n:Nat}(h:f (-1)=g (-1)):ptB u f g n=false:=by
 unfold ptB
 rw [wm (p:=f (-1)≠g (-1)) (fun z=>z h),xU,yA]
theorem oG {w v:List L}(hw:w≠[])(hv:v≠[]){p q wy:Int}(hy:wy=1 ∨ wy = -1)(h:sgZ w p 1 (-1)≠sgZ v q wy (-1)):frN (sgZ w p 1) (sgZ v q wy) 0 (w.length+v.length) < w.length+v.length∧sgZ w p 1 (frN (sgZ w p 1) (sgZ v q wy) 0 (w.length+v.length))≠sgZ v q wy (frN (sgZ w p 1) (sgZ v q wy) 0 (w.length+v.length)):=by
 have l1:=xf.mpr hw
 have l2:=xf.mpr hv
 obtain ⟨_,h2,h3,h4⟩:=dH (sgZ w p 1) (sgZ v q wy) (w.length+v.length) 0
 generalize frN (sgZ w p 1) (sgZ v q wy) 0 (w.length+v.length)=n at h2 h3 h4 ⊢
 by_cases c:n < w.length+v.length
 ·exact ⟨c,h4 (by omega)⟩
 ·refine absurd (nF (f:=sgZ w p 1) (g:=sgZ v q wy) (a:=(w.length:Int)) (b:=(v.length:Int)) (by omega) (by omega) (oF (.inl rfl) p) (oF hy q) fun k hk hl=>?_) h
  obtain ⟨m,rfl⟩:=xK hk
  exact h3 m (xv _) (by omega)
theorem pQ {w:List L}(h:Rd w){a:Nat}(ha:a+1 < w.length):w[a+1]≠inv w[a]:=by
 have e:w=w.take (a+1)++w.drop (a+1):=(wW _ _).symm
 rw [e] at h
 obtain ⟨_,_,j⟩:=(bz _ _).mp h
 refine j _ _ ?_ ?_
 ·rw [y_,wD,show min (a+1) w.length - 1=a by omega,xG (by omega),fu (by omega)]
 ·rw [zr,xx,fu (by omega)]
theorem rnd_at {w:List L}(R:Rnd w)(j:Int):atZ w (j+1)≠inv (atZ w j):=by
 have l1:=xf.mpr R.ne
 have e0:=xP j (show (w.length:Int)≠0 by omega)
 have e1:=xC j (show (0:Int) < (w.length:Int) by omega)
 obtain ⟨a,ha⟩:=xK e0
 have hal:a < w.length:=by omega
 have ea:atZ w j=w[a]:=by
  unfold atZ
  rw [ha,wV,xE,fu hal]
  rfl
 rw [ea]
 by_cases c:a+1 < w.length
 ·have e2:(j+1) % (w.length:Int)=((a+1:Nat):Int):=by
   rw [AS,ha,show (1:Int) % (w.length:Int)=1 from yE (by omega) (by omega)]
   exact yE (by omega) (by omega)
  have e3:atZ w (j+1)=w[a+1]:=by
   unfold atZ
   rw [e2,wV,xE,fu c]
   rfl
  rw [e3]
  exact pQ R.rd c
 ·have e2:(j+1) % (w.length:Int)=0:=by
   have:j+1=(w.length:Int)*(j / (w.length:Int))+(w.length:Int):=by
    have:=Int.mul_ediv_add_emod j (w.length:Int)
    omega
   rw [this,Int.add_emod_right,Int.mul_emod_right]
  have e3:atZ w (j+1)=w[0]:=by
   unfold atZ
   rw [e2,wV,show (0:Int).toNat=0 from rfl,fu l1]
   rfl
  rw [e3]
  have hl:w.getLast? = some w[a]:=by
   rw [y_,show w.length - 1=a by omega,fu hal]
  have hh:w.head? = some w[0]:=by rw [zr,fu l1]
  exact R.jn _ _ hl hh
theorem pR {w:List L}(R:Rnd w){p q:Int}{n:Nat}(hn:0 < n)(h:∀ j:Nat,j < n→sgZ w p 1 j=sgZ w q (-1) j)(hq:(q - n+1) % (w.length:Int)=p % (w.length:Int)):False:=by
 have at_mod:∀ {i j:Int},i % (w.length:Int)=j % (w.length:Int)→atZ w i=atZ w j:=fun e=>by unfold atZ;rw [e]
 have key:∀ j:Nat,j < n→atZ w (p+j)=inv (atZ w (p+(n:Int) - 1 - j)):=fun j hj=>by
  have:=h j hj
  unfold sgZ at this
  rw [if_pos rfl,if_neg (by decide)] at this
  rw [show p+(j:Int)=p+1*(j:Int) by omega,this]
  congr 1
  refine at_mod ?_
  have e:q + -1*(j:Int)=(q - n+1)+((n:Int) - 1 - j):=by omega
  rw [e,AS,hq,← AS]
  congr 1
  omega
 by_cases c:n % 2=1
 ·obtain ⟨r,hr⟩:∃ r,n=2*r+1:=⟨n / 2,by omega⟩
  have:=key r (by omega)
  rw [show p+(n:Int) - 1 - (r:Int)=p+r by omega] at this
  exact gL _ this.symm
 ·obtain ⟨r,hr⟩:∃ r,n=2*(r+1):=⟨n / 2 - 1,by omega⟩
  have:=key (r+1) (by omega)
  rw [show p+(n:Int) - 1 - ((r+1:Nat):Int)=p+r by omega,show p+((r+1:Nat):Int)=(p+r)+1 by omega] at this
  exact rnd_at R _ this
abbrev P2:=Int × Int
inductive Lk where
 | b (s t:P2)
 | a (s t:P2) (n:Nat)
 | g (s t:P2) (n:Nat)
def cB:List Int:=("beside":Str).cps.toList.map Int.ofNat
def cA:List Int:=("along":Str).cps.toList.map Int.ofNat
def cG:List Int:=("against":Str).cps.toList.map Int.ofNat
theorem uG:cB≠cA:=by decide +kernel
theorem uH:cB≠cG:=by decide +kernel
theorem vm:cA≠cG:=by decide +kernel
def pZ (s:P2):List Int:=[s.1,s.2]
theorem fh {s t:P2}(h:pZ s=pZ t):s=t:=by
 unfold pZ at h
 simp only [zj,AM] at h
 exact Prod.ext h.1 h.2
def Lk.key:Lk→cO
 | .b s t=>[cB,pZ s,pZ t]
 | .a s t n=>[cA,pZ s,pZ t,[(n:Int)]]
 | .g s t n=>[cG,pZ s,pZ t,[(n:Int)]]
theorem Lk.inj {k l:Lk}(h:k.key=l.key):k=l:=by
 cases k <;> cases l <;> unfold Lk.key at h <;> simp only [zj,AM] at h
 ·rw [fh h.2.1,fh h.2.2]
 ·exact absurd h.1 uG
 ·exact absurd h.1 uH
 ·exact absurd h.1.symm uG
 ·rw [fh h.2.1,fh h.2.2.1,Ao h.2.2.2]
 ·exact absurd h.1 vm
 ·exact absurd h.1.symm uH
 ·exact absurd h.1.symm vm
 ·rw [fh h.2.1,fh h.2.2.1,Ao h.2.2.2]
def stD (p:P2):PyData:=.tuple [.int p.1,.int p.2]
def Lk.dat:Lk→PyData
 | .b s t=>.tuple [.str "beside",stD s,stD t]
 | .a s t n=>.tuple [.str "along",stD s,stD t,.int (n:Nat)]
 | .g s t n=>.tuple [.str "against",stD s,stD t,.int (n:Nat)]
def shL:List Int→List Kn:=fun x=>if x=cB then [.p,.p] else [.p,.p,.i]
abbrev Sp2 (H:Hp)(a:Addr)(s:P2):Prop:=H a=some (.tup [.int s.1,.int s.2])
def lI (H:Hp)(r:Addr):Lk→Prop
 | .b s t=>∃ a c,H r=some (.tup [.str "beside",.ref a,.ref c])∧Sp2 H a s∧Sp2 H c t
 | .a s t n=>∃ a c,H r=some (.tup [.str "along",.ref a,.ref c,.int (n:Nat)])∧Sp2 H a s∧Sp2 H c t
 | .g s t n=>∃ a c,H r=some (.tup [.str "against",.ref a,.ref c,.int (n:Nat)])∧Sp2 H a s∧Sp2 H c t
theorem lI.to {H H':Hp}{r:Addr}{k:Lk}(h:lI H r k)(s:∀ b ys,H b=some (.tup ys)→H' b=some (.tup ys)):lI H' r k:=by
 cases k with
 | b _ _=>obtain ⟨a,c,h1,h2,h3⟩:=h;exact ⟨a,c,s _ _ h1,s _ _ h2,s _ _ h3⟩
 | a _ _ _=>obtain ⟨a,c,h1,h2,h3⟩:=h;exact ⟨a,c,s _ _ h1,s _ _ h2,s _ _ h3⟩
 | g _ _ _=>obtain ⟨a,c,h1,h2,h3⟩:=h;exact ⟨a,c,s _ _ h1,s _ _ h2,s _ _ h3⟩
theorem lI.kd {H:Hp}{r:Addr}{k:Lk}(h:lI H r k):KdQ .s shL H r k.key:=by
 cases k with
 | b s t =>
  obtain ⟨a,c,h1,h2,h3⟩:=h
  refine ⟨_,h1,?_⟩
  show FlQ H (.s::shL cB) _ [cB,pZ s,pZ t]
  unfold shL
  rw [if_pos rfl]
  exact .s _ (.p h2 (.p h3 .nil))
 | a s t n =>
  obtain ⟨a,c,h1,h2,h3⟩:=h
  refine ⟨_,h1,?_⟩
  show FlQ H (.s::shL cA) _ [cA,pZ s,pZ t,[(n:Int)]]
  unfold shL
  rw [if_neg uG.symm]
  exact .s _ (.p h2 (.p h3 (.i _ .nil)))
 | g s t n =>
  obtain ⟨a,c,h1,h2,h3⟩:=h
  refine ⟨_,h1,?_⟩
  show FlQ H (.s::shL cG) _ [cG,pZ s,pZ t,[(n:Int)]]
  unfold shL
  rw [if_neg uH.symm]
  exact .s _ (.p h2 (.p h3 (.i _ .nil)))
theorem lI.dt {H:Hp}{r:Addr}{k:Lk}(h:lI H r k):Dt H (.ref r) k.dat:=by
 cases k with
 | b _ _=>obtain ⟨a,c,h1,h2,h3⟩:=h;exact .tup h1 (.cons (.str _) (.cons (.tup h2 (.cons (.int _) (.cons (.int _) .nil))) (.cons (.tup h3 (.cons (.int _) (.cons (.int _) .nil))) .nil)))
 | a _ _ _=>obtain ⟨a,c,h1,h2,h3⟩:=h;exact .tup h1 (.cons (.str _) (.cons (.tup h2 (.cons (.int _) (.cons (.int _) .nil))) (.cons (.tup h3 (.cons (.int _) (.cons (.int _) .nil))) (.cons (.int _) .nil))))
 | g _ _ _=>obtain ⟨a,c,h1,h2,h3⟩:=h;exact .tup h1 (.cons (.str _) (.cons (.tup h2 (.cons (.int _) (.cons (.int _) .nil))) (.cons (.tup h3 (.cons (.int _) (.cons (.int _) .nil))) (.cons (.int _) .nil))))
def LkA (H:Hp)(zs:List (Addr × Lk)):Prop:=∀ z∈zs,lI H z.1 z.2
theorem LkA.to {H H':Hp}{zs:List (Addr × Lk)}(h:LkA H zs)(s:∀ b ys,H b=some (.tup ys)→H' b=some (.tup ys)):LkA H' zs:=fun z hz=>(h z hz).to s
theorem LkA.same {H H':Hp}{zs:List (Addr × Lk)}(h:LkA H zs)(s:aA H H'):LkA H' zs:=h.to fun _ _ e=>s _ _ e
theorem LkA.app {H:Hp}{zs ys:List (Addr × Lk)}(h:LkA H zs)(g:LkA H ys):LkA H (zs++ys):=fun z hz=>(wL.mp hz).elim (h z) (g z)
theorem LkA.dts {H:Hp}:∀ {zs:List (Addr × Lk)},LkA H zs→Dts H ((zs.map (·.1)).map V.ref) ((zs.map (·.2)).map Lk.dat)
 | [],_=>.nil
 | z::zs,h=>.cons (h z wX).dt (LkA.dts fun y hy=>h y (wO _ hy))
def ltP (s t:P2):Bool:=HT.bD [s.1,s.2] [t.1,t.2]
theorem lJ {s t:P2}:ltP s t=true ↔ s.1 < t.1 ∨ (s.1=t.1∧s.2 < t.2):=by
 unfold ltP
 rw [HT.bE,HT.bE,HT.bW]
 by_cases e1:s.1=t.1
 ·rw [if_pos e1]
  by_cases e2:s.2=t.2
  ·rw [if_pos e2]
   simp only [wN,false_iff,not_or,not_and]
   omega
  ·rw [if_neg e2,wz]
   omega
 ·rw [if_neg e1,wz]
  omega
def dI (u:List L)(a b c d:L):Bool:=decide ([a,b,c,d].Nodup) && (decide (rfI u a c < rfI u a b) != decide (rfI u a d < rfI u a b))
def wyZ (W:List (List L))(i:Int):List L:=W.getD i.toNat []
def fZ (W:List (List L))(s:P2)(wy:Int):Int→L:=sgZ (wyZ W s.1) s.2 wy
def nZ (W:List (List L))(s t:P2)(wy:Int):Nat:=frN (fZ W s 1) (fZ W t wy) 0 ((wyZ W s.1).length+(wyZ W t.1).length)
def mB (u:List L)(W:List (List L))(s t:P2):List Lk:=if ltP s t && dI u (inv (fZ W s 1 0)) (fZ W s 1 1) (inv (fZ W t 1 0)) (fZ W t 1 1) then [.b s t] else []
def hE (u:List L)(W:List (List L))(s t:P2):List Lk:=if ltP s t && ptB u (fZ W s 1) (fZ W t 1) (nZ W s t 1) then [.a s t (nZ W s t 1)] else []
def jQ (W:List (List L))(s t:P2)(n:Nat):P2:=(t.1,(t.2 - (n:Int)+1) % ((wyZ W t.1).length:Int))
def fi (u:List L)(W:List (List L))(s t:P2):List Lk:=if ltP s (jQ W s t (nZ W s t (-1))) && ptB u (fZ W s 1) (fZ W t (-1)) (nZ W s t (-1)) then [.g s t (nZ W s t (-1))] else []
structure WyR (n:Nat) (W:List (List L)):Prop where
 le:W.length≤4
 lo:1≤W.length
 ws:∀ w∈W,Rnd w∧w.length≤30∧InM n w
structure WyA (n:Nat) (W:List (List L)) (H:Hp) (a:Addr):Prop where
 at_:H a=some (.tup (W.map tx))
 ok:WyR n W
theorem WyA.same {n:Nat}{W:List (List L)}{H H':Hp}{a:Addr}(h:WyA n W H a)(s:aA H H'):WyA n W H' a:=⟨s _ _ h.at_,h.ok⟩
def okP (W:List (List L))(s:P2):Prop:=0≤s.1∧s.1 < (W.length:Int)∧0≤s.2∧s.2 < ((wyZ W s.1).length:Int)
theorem WyR.get {n:Nat}{W:List (List L)}(h:WyR n W){i:Int}(h0:0≤i)(h1:i < (W.length:Int)):wyZ W i∈W∧atI (W.map tx) i=some (tx (wyZ W i))∧Rnd (wyZ W i)∧(wyZ W i).length≤30∧0 < (wyZ W i).length∧InM n (wyZ W i):=by
 obtain ⟨m,rfl⟩:=xK h0
 have hm:m < W.length:=by omega
 have e:wyZ W (m:Int)=W[m]:=by
  unfold wyZ
  rw [xE,wV,fu hm]
  rfl
 rw [e]
 have hmem:=wY hm
 obtain ⟨a,b,c⟩:=h.ws _ hmem
 exact ⟨hmem,o3 (j:=m) (by rw [xj,fu hm];rfl),a,b,xf.mpr a.ne,c⟩
theorem iB {w:List L}(h:0 < w.length)(j:Int):atZ w j∈w:=by
 have e0:=xP j (show (w.length:Int)≠0 by omega)
 have e1:=xC j (show (0:Int) < (w.length:Int) by omega)
 unfold atZ
 rw [wV,fu (show (j % (w.length:Int)).toNat < w.length by omega)]
 exact wY _
theorem iC {n:Nat}{w:List L}(h:0 < w.length)(hi:InM n w)(p wy k:Int):(sgZ w p wy k).val % 6 < n:=by
 unfold sgZ
 have:=hi _ (iB h (p+wy*k))
 split
 ·exact this
 ·rw [ly]
  have:=(atZ w (p+wy*k)).isLt
  split <;> omega
theorem nG {n:Nat}{u:List L}{W:List (List L)}(hW:WyR n W){s t:P2}(hs:okP W s)(ht:okP W t)(hb:fZ W s 1 (-1)≠fZ W t (-1) (-1)):(if ltP (jQ W s t (nZ W s t (-1))) s then [] else if ptB u (fZ W s 1) (fZ W t (-1)) (nZ W s t (-1)) then [Lk.g s t (nZ W s t (-1))] else [])=fi u W s t:=by
 unfold fi
 by_cases c1:ltP (jQ W s t (nZ W s t (-1))) s=true
 ·rw [if_pos c1]
  have:ltP s (jQ W s t (nZ W s t (-1)))=false:=by
   rw [Bool.eq_false_iff]
   intro z
   rw [lJ] at c1 z
   omega
  rw [this,xU,if_neg (by decide)]
 ·rw [if_neg c1]
  by_cases c2:ltP s (jQ W s t (nZ W s t (-1)))=true
  ·rw [c2,ym]
  ·have e:s=jQ W s t (nZ W s t (-1)):=by
    have c1:¬ (ltP (jQ W s t (nZ W s t (-1))) s=true):=c1
    rw [lJ] at c1 c2
    exact Prod.ext (by omega) (by omega)
   have:ptB u (fZ W s 1) (fZ W t (-1)) (nZ W s t (-1))=false:=by
    rw [Bool.eq_false_iff]
    intro z
    unfold ptB at z
    rw [yh,wz] at z
    obtain ⟨hn,_⟩:=z
    have e1:s.1=t.1:=by
     have:=wR Prod.fst e
     exact this
    have e2:s.2=(t.2 - (nZ W s t (-1):Nat)+1) % ((wyZ W t.1).length:Int):=wR Prod.snd e
    obtain ⟨_,_,R,_,lp,_⟩:=hW.get hs.1 hs.2.1
    refine pR (w:=wyZ W s.1) (p:=s.2) (q:=t.2) R hn (fun j hj=>?_) ?_
    ·have:=(dH (fZ W s 1) (fZ W t (-1)) ((wyZ W s.1).length+(wyZ W t.1).length) 0).2.2.1 j (xv _) hj
     unfold fZ at this
     rw [← e1] at this
     exact this
    ·rw [← e1] at e2
     rw [e2,Int.emod_emod_of_dvd _ (Int.dvd_refl _)]
   rw [this,yA]
def lkZ (u:List L)(W:List (List L))(s t:P2):List Lk:=mB u W s t++(hE u W s t++fi u W s t)
def jR (u:List L)(W:List (List L))(i j:Int)(p:Nat)(m:Nat):List Lk:=(List.range m).flatMap fun q:Nat=>lkZ u W (i,(p:Int)) (j,(q:Int))
def jr (u:List L)(W:List (List L))(i j:Int)(m:Nat):List Lk:=(List.range m).flatMap fun p:Nat=>jR u W i j p (wyZ W j).length
theorem fY (u:List L)(W:List (List L))(i j:Int)(p m:Nat):jR u W i j p (m+1)=jR u W i j p m++lkZ u W (i,(p:Int)) (j,(m:Int)):=by
 unfold jR
 rw [AB,zT]
 simp
theorem f_ (u:List L)(W:List (List L))(i j:Int)(m:Nat):jr u W i j (m+1)=jr u W i j m++jR u W i j m (wyZ W j).length:=by
 unfold jr
 rw [AB,zT]
 simp
theorem oH (u:List L)(W:List (List L))(s t:P2):(lkZ u W s t).length≤3:=by
 unfold lkZ mB hE fi
 rw [wj,wj]
 have h:∀ (b:Bool) (x:Lk),(if b=true then [x] else []).length≤1:=fun b x=>by cases b <;> simp
 have h1:=h (ltP s t && dI u (inv (fZ W s 1 0)) (fZ W s 1 1) (inv (fZ W t 1 0)) (fZ W t 1 1)) (.b s t)
 have h2:=h (ltP s t && ptB u (fZ W s 1) (fZ W t 1) (nZ W s t 1)) (.a s t (nZ W s t 1))
 have h3:=h (ltP s (jQ W s t (nZ W s t (-1))) && ptB u (fZ W s 1) (fZ W t (-1)) (nZ W s t (-1))) (.g s t (nZ W s t (-1)))
 omega
theorem gc (u:List L)(W:List (List L))(i j:Int)(p:Nat):∀ m,(jR u W i j p m).length≤3*m
 | 0=>wu _
 | m+1=>by
  have:=gc u W i j p m
  have:=oH u W (i,(p:Int)) (j,(m:Int))
  rw [fY,wj]
  omega
theorem eN (u:List L)(W:List (List L))(i j:Int){b:Nat}(hb:(wyZ W j).length≤b):∀ m,(jr u W i j m).length≤3*b*m
 | 0=>wu _
 | m+1=>by
  have:=eN u W i j hb m
  have:=gc u W i j m (wyZ W j).length
  rw [f_,wj,Nat.mul_add,Nat.mul_one]
  omega
abbrev Wk3 (H:Hp)(x:Addr)(s:P2)(wy:Int):Prop:=H x=some (.tup [.int s.1,.int s.2,.int wy])
inductive uI (vs:List V)(H:Hp)(Q:VK)(BC:XK):Prop
 | mk:∀ (u:List L) (k:Nat) (a b:L),(vs=[tx u,tx [a],tx [b]])→SK u k→a∈u→b∈u→Q (.int (rfI u a b)) H→uI vs H Q BC
inductive pS (vs:List V)(H:Hp)(Q:VK)(BC:XK):Prop
 | mk:∀ (u:List L) (k:Nat) (s a b:L),(vs=[tx u,tx [s],tx [a],tx [b]])→SK u k→s∈u→a∈u→b∈u→(∀ H',aA H H'→Q (.bl (decide (rfI u s a < rfI u s b))) H')→pS vs H Q BC
inductive gT (vs:List V)(H:Hp)(Q:VK)(BC:XK):Prop
 | mk:∀ (a x:Addr) (n:Nat) (W:List (List L)) (s:P2) (wy k:Int),(vs=[.ref a,.ref x,.int k])→WyA n W H a→Wk3 H x s wy→0≤s.1→s.1 < (W.length:Int)→(wy=1 ∨ wy = -1)→(∀ H',aA H H'→Q (tx [fZ W s wy k]) H')→gT vs H Q BC
inductive js (vs:List V)(H:Hp)(Q:VK)(BC:XK):Prop
 | mk:∀ (a x y:Addr) (n:Nat) (W:List (List L)) (s t:P2) (wy:Int),(vs=[.ref a,.ref x,.ref y])→WyA n W H a→Wk3 H x s 1→Wk3 H y t wy→okP W s→okP W t→(wy=1 ∨ wy = -1)→(∀ H',aA H H'→Q (.int ((if fZ W s 1 (-1)=fZ W t wy (-1) then 0 else nZ W s t wy:Nat):Int)) H')→js vs H Q BC
def gf (u:List L)(f g:Int→L)(n:Nat):Bool:=decide (0 < n) && (decide (rfI u (inv (f ((n:Int) - 1))) (f n) < rfI u (inv (f ((n:Int) - 1))) (g n)) == decide (rfI u (f 0) (inv (f (-1))) < rfI u (f 0) (inv (g (-1)))))
inductive jt (vs:List V)(H:Hp)(Q:VK)(BC:XK):Prop
 | mk:∀ (u:List L) (a x y:Addr) (n m:Nat) (W:List (List L)) (s t:P2) (wy:Int),(vs=[tx u,.ref a,.ref x,.ref y,.int (m:Nat)])→SK u n→WyA n W H a→Wk3 H x s 1→Wk3 H y t wy→okP W s→okP W t→(wy=1 ∨ wy = -1)→(∀ H',aA H H'→Q (.bl (gf u (fZ W s 1) (fZ W t wy) m)) H')→jt vs H Q BC
inductive uJ (vs:List V)(H:Hp)(Q:VK)(BC:XK):Prop
 | mk:∀ (a x:Addr) (n:Nat) (W:List (List L)) (s:P2),(vs=[.ref a,.ref x])→WyA n W H a→Sp2 H x s→okP W s→(∀ H',aA H H'→Q (tx [inv (fZ W s 1 0),fZ W s 1 1]) H')→uJ vs H Q BC
inductive lK (r:List L→List (List L)→P2→P2→List Lk)(vs:List V)(H:Hp)(Q:VK)(BC:XK):Prop
 | mk:∀ (u:List L) (a x y:Addr) (n:Nat) (W:List (List L)) (s t:P2),(vs=[tx u,.ref a,.ref x,.ref y])→SK u n→WyA n W H a→Sp2 H x s→Sp2 H y t→okP W s→okP W t →
  (∀ (l:Addr) (zs:List (Addr × Lk)) (H':Hp),H l=none→aA H H'→H' l=some (.lst ((zs.map (·.1)).map V.ref))→LkA H' zs→zs.map (·.2)=r u W s t→Q (.ref l) H')→lK r vs H Q BC
def sC (u:List L)(W:List (List L))(s t:P2):List Lk:=if dI u (inv (fZ W s 1 0)) (fZ W s 1 1) (inv (fZ W t 1 0)) (fZ W t 1 1) then [.b s t] else []
def pT (u:List L)(W:List (List L))(s t:P2):List Lk:=if ptB u (fZ W s 1) (fZ W t 1) (nZ W s t 1) then [.a s t (nZ W s t 1)] else []
def qH (u:List L)(W:List (List L))(s t:P2):List Lk:=fi u W s t++(if ltP s t then pT u W s t++sC u W s t else [])
theorem lL (u:List L)(W:List (List L))(s t:P2):(qH u W s t).Perm (lkZ u W s t):=by
 unfold qH lkZ hE mB pT sC
 cases ltP s t with
 | true =>
  rw [if_pos rfl,ym,ym]
  refine xJ.trans ?_
  rw [← wt]
  exact (xJ).append_right _
 | false =>
  rw [if_neg (by decide),xU,xU,if_neg (by decide),if_neg (by decide)]
  simp
inductive eO (vs:List V)(H:Hp)(Q:VK)(BC:XK):Prop
 | mk:∀ (u:List L) (a:Addr) (n:Nat) (W:List (List L)) (i j:Int),(vs=[tx u,.ref a,.int i,.int j])→SK u n→WyA n W H a→0≤i→i < (W.length:Int)→0≤j→j < (W.length:Int) →
  (∀ (l:Addr) (zs:List (Addr × Lk)) (H':Hp),H l=none→aA H H'→H' l=some (.lst ((zs.map (·.1)).map V.ref))→LkA H' zs→(zs.map (·.2)).Perm (jr u W i j (wyZ W i).length)→((zs.map (·.2)).map Lk.key).Pairwise qle→Q (.ref l) H')→eO vs H Q BC
theorem lM {ks ls ms:List Lk}(p:ks.Perm ms)(q:ls.Perm ms)(h:(ks.map Lk.key).Pairwise qle)(g:(ls.map Lk.key).Pairwise qle):ks=ls:=by
 have e:ks.map Lk.key=ls.map Lk.key:=List.Perm.eq_of_pairwise (fun x y _ _ h1 h2=>nC h1 h2) h g ((p.trans q.symm).map _)
 exact (List.map_inj_right (fun _ _ e=>Lk.inj e)).mp e
inductive ju (vs:List V)(H:Hp)(Q:VK)(BC:XK):Prop
 | mk:∀ (u:List L) (k:Nat) (b a c:L),(vs=[tx u,tx [b],tx [a],tx [c]])→SK u k→b∈u→a∈u→c∈u→a≠c→(∀ H',aA H H'→Q (.bl (decide (rfI u b a < rfI u b c))) H')→ju vs H Q BC
inductive eP (vs:List V)(H:Hp)(Q:VK)(BC:XK):Prop
 | mk:∀ (w:List L) (p wy k:Int),(vs=[tx w,.int p,.int wy,.int k])→w≠[]→w.length≤60→(wy=1 ∨ wy = -1)→(∀ H',aA H H'→Q (tx [sgZ w p wy k]) H')→eP vs H Q BC
inductive lN (vs:List V)(H:Hp)(Q:VK)(BC:XK):Prop
 | mk:∀ (w v:List L) (p q wy:Int),(vs=[tx w,.int p,tx v,.int q,.int wy])→w≠[]→v≠[]→w.length≤60→v.length≤60→(wy=1 ∨ wy = -1)→(∀ H',aA H H'→Q (.int ((frN (sgZ w p 1) (sgZ v q wy) 0 (w.length+v.length):Nat):Int)) H')→lN vs H Q BC
inductive lO (vs:List V)(H:Hp)(Q:VK)(BC:XK):Prop
 | mk:∀ (u:List L) (a x y:Addr) (n:Nat) (W:List (List L)) (s t:P2),(vs=[tx u,.ref a,.ref x,.ref y])→SK u n→WyA n W H a→Sp2 H x s→Sp2 H y t→okP W s→okP W t→(∀ H',aA H H'→Q (.bl (dI u (inv (fZ W s 1 0)) (fZ W s 1 1) (inv (fZ W t 1 0)) (fZ W t 1 1))) H')→lO vs H Q BC
inductive iD (vs:List V)(H:Hp)(Q:VK)(BC:XK):Prop
 | mk:∀ (u w v:List L) (k m:Nat) (p q wy:Int),(vs=[tx u,tx w,.int p,tx v,.int q,.int wy,.int (m:Nat)])→SK u k→w≠[]→v≠[]→w.length≤60→v.length≤60→InM k w→InM k v→0≤p→p < (w.length:Int)→(wy=1 ∨ wy = -1)→0 < m→(∀ H',aA H H'→Q (.bl (ptB u (sgZ w p 1) (sgZ v q wy) m)) H')→iD vs H Q BC
theorem dw {n:Nat}{u:List L}(U:SK u n){W:List (List L)}(hW:WyR n W){s:P2}(os:okP W s)(wy k:Int):fZ W s wy k∈u∧inv (fZ W s wy k)∈u:=by
 obtain ⟨_,_,_,_,lp,hi⟩:=hW.get os.1 os.2.1
 have:=iC lp hi s.2 wy k
 exact ⟨(U.mem _).mpr this,(U.mem _).mpr (by rw [fL];exact this)⟩
theorem lP {u:List L}{f g:Int→L}{n:Nat}(h:f (-1)≠g (-1))(h':f n≠g n):gf u f g n=ptB u f g n:=by
 unfold gf ptB
 rw [wF h,wF h',ym,ym]
theorem oI {u:List L}{f g:Int→L}:gf u f g 0=false:=rfl
theorem jv {n:Nat}{u:List L}{W:List (List L)}(hW:WyR n W){s t:P2}(os:okP W s)(ot:okP W t){wy:Int}(BP:wy=1 ∨ wy = -1):gf u (fZ W s 1) (fZ W t wy) (if fZ W s 1 (-1)=fZ W t wy (-1) then 0 else nZ W s t wy)=ptB u (fZ W s 1) (fZ W t wy) (nZ W s t wy):=by
 by_cases e:fZ W s 1 (-1)=fZ W t wy (-1)
 ·rw [if_pos e,oI,dY e]
 ·rw [if_neg e]
  obtain ⟨_,_,Rw,_⟩:=hW.get os.1 os.2.1
  obtain ⟨_,_,Rv,_⟩:=hW.get ot.1 ot.2.1
  exact lP e (oG Rw.ne Rv.ne BP e).2
theorem pU (a b:Bool):(a == b)=decide (V.bl a=V.bl b):=by cases a <;> cases b <;> rfl
theorem gU {H H4:Hp}{Q:VK}{r:List Lk}{l:Addr}(q:aA H H4)(hl:H4 l=none)(k:∀ (l:Addr) (zs:List (Addr × Lk)) (H':Hp),H l=none→aA H H'→H' l=some (.lst ((zs.map (·.1)).map V.ref))→LkA H' zs→zs.map (·.2)=r→Q (.ref l) H')(e:r=[]):Q (.ref l) (upd H4 l (.lst [])) :=
 k l [] _ (q.free hl) (q.trans (aA.new hl)) ag (fun _ h=>absurd h (by simp)) e.symm
theorem iE {H H4:Hp}{Q:VK}{r:List Lk}{m:Lk}{l c:Addr}{ys:List V}(q:aA H H4)(hc:H4 c=none)(hl:(upd H4 c (.tup ys)) l=none)(hm:lI (upd H4 c (.tup ys)) c m)(k:∀ (l:Addr) (zs:List (Addr × Lk)) (H':Hp),H l=none→aA H H'→H' l=some (.lst ((zs.map (·.1)).map V.ref))→LkA H' zs→zs.map (·.2)=r→Q (.ref l) H')(e:r=[m]):Q (.ref l) (upd (upd H4 c (.tup ys)) l (.lst [.ref c])):=by
 have q1:=q.trans (aA.new (o:=.tup ys) hc)
 refine k l [(c,m)] _ (q1.free hl) (q1.trans (aA.new hl)) ag (fun z h=>?_) e.symm
 rw [wc.mp h]
 exact hm.to fun _ _ e=>aA.new hl _ _ e
theorem cE {H H2:Hp}{l:Addr}{o:HO}(s:aA H H2)(h:H l=none):aA H (upd H2 l o):=fun b u e=>by rw [aP (aC e h)]; exact s b u e
theorem cM {H:Hp}{l:Addr}{xs:List V}{o:HO}(h:H l=some (.lst xs)):∀ b ys,H b=some (.tup ys)→(upd H l o) b=some (.tup ys):=fun b ys e=>by
 have:b≠l:=fun z=>by rw [z,h] at e;cases e
 rw [aP this]
 exact e
theorem dZ (xs ys:List (Addr × Lk)):((xs.map (·.1)).map V.ref)++((ys.map (·.1)).map V.ref)=((xs++ys).map (·.1)).map V.ref:=by rw [xr,xr]
theorem tM {w:List L}{j:Int}(h:0 < (w.length:Int)):atI (toS w).cps.toList (j % (w.length:Int))=some (cp (atZ w j)):=by
 have e0:=xP j (show (w.length:Int)≠0 by omega)
 have e1:=xC j h
 refine b7 (k:=(j % (w.length:Int)).toNat) (by omega) ?_
 unfold atZ
 rw [wV,fu (show (j % (w.length:Int)).toNat < w.length by omega)]
 rfl
theorem sD (y a c:L):inV (tx [y]) [tx [a],tx [c]]=decide (y=a ∨ y=c):=by
 have e:∀ a y:L,eqV (tx [a]) (tx [y])=decide (y=a):=fun a y=>by
  show (toS [a] == toS [y])=_
  rw [xh,AN,wz]
  constructor
  ·intro h
   exact (xM (ie h)).1.symm
  ·intro h
   rw [h]
 unfold inV
 rw [Af,Af,List.any_nil,e,e,Ae,xh,Bool.or_eq_true,wz,wz,wz]
theorem gX {F:List L}{x:L}(h:F.head? = some x):atI (bo F) 0=some (tx [x]):=by
 cases F with
 | nil=>simp at h
 | cons z r =>
  have:z=x:=wA h
  subst this
  unfold atI ixN bo
  rw [if_pos (by decide),if_pos (by simp)]
  rfl
theorem sE {f g:Int→L}{N i:Nat}(h:∀ j:Nat,j < i→f j=g j)(hi:i≤N)(he:i=N ∨ f i≠g i):frN f g 0 N=i:=by
 obtain ⟨_,h2,h3,h4⟩:=dH f g N 0
 generalize frN f g 0 N=n at h2 h3 h4 ⊢
 by_cases c:n < i
 ·exact absurd (h n c) (h4 (by omega))
 ·by_cases c2:i < n
  ·rcases he with rfl | he
   ·omega
   ·exact absurd (h3 i (xv _) c2) he
  ·omega
theorem sg1 {w:List L}(p:Int)(k:Int):sgZ w p 1 k=atZ w (p+k):=by
 unfold sgZ
 rw [if_pos rfl,Int.one_mul]
theorem vn {a b c d:L}{dl:List Str}(nd:dl.Nodup)(hm:∀ z,z∈dl ↔ ∃ x∈[a,b,c,d],z=toS [x]):decide ((dl.length:Int) < 4)=!decide ([a,b,c,d].Nodup):=by
 by_cases h:[a,b,c,d].Nodup
 ·rw [wF h]
  refine wm ?_
  have nd2:([a,b,c,d].map fun x=>toS [x]).Nodup:=List.Pairwise.map _ (fun x y n e=>n (xM (ie e)).1) h
  have p:([a,b,c,d].map fun x=>toS [x]).Perm dl:=(List.perm_ext_iff_of_nodup nd2 nd).mpr fun z=>by
   rw [hm,xY]
   exact ⟨fun ⟨x,h1,h2⟩=>⟨x,h1,h2.symm⟩,fun ⟨x,h1,h2⟩=>⟨x,h1,h2.symm⟩⟩
  have:=p.length_eq
  rw [wq] at this
  have:dl.length=4:=this.symm
  omega
 ·rw [wm h]
  refine wF ?_
  have key:∀ x y z:L,(∀ v∈[a,b,c,d],v∈[x,y,z])→(dl.length:Int) < 4:=fun x y z hs=>by
   apply Classical.byContradiction
   intro n
   have:=(cy (zs:=[toS [x],toS [y],toS [z]]) nd (fun k hk=>by
    obtain ⟨v,hv,rfl⟩:=(hm k).mp hk
    have:=hs v hv
    simp only [wH,wZ,yg] at this ⊢
    rcases this with rfl | rfl | rfl
    ·exact .inl rfl
    ·exact .inr (.inl rfl)
    ·exact .inr (.inr rfl)) (by show 3≤_;omega)).length_eq
   have:3=dl.length:=this
   omega
  simp only [xW,wH,wZ,yg,Ab,zB,AM,not_or] at h
  by_cases e1:a=b
  ·exact key b c d (by intro v hv;simp only [wH,wZ,yg] at hv ⊢;rw [e1] at hv;rcases hv with h | h | h | h <;> simp [h])
  by_cases e2:a=c
  ·exact key b c d (by intro v hv;simp only [wH,wZ,yg] at hv ⊢;rw [e2] at hv;rcases hv with h | h | h | h <;> simp [h])
  by_cases e3:a=d
  ·exact key b c d (by intro v hv;simp only [wH,wZ,yg] at hv ⊢;rw [e3] at hv;rcases hv with h | h | h | h <;> simp [h])
  by_cases e4:b=c
  ·exact key a c d (by intro v hv;simp only [wH,wZ,yg] at hv ⊢;rw [e4] at hv;rcases hv with h | h | h | h <;> simp [h])
  by_cases e5:b=d
  ·exact key a c d (by intro v hv;simp only [wH,wZ,yg] at hv ⊢;rw [e5] at hv;rcases hv with h | h | h | h <;> simp [h])
  by_cases e6:c=d
  ·exact key a b d (by intro v hv;simp only [wH,wZ,yg] at hv ⊢;rw [e6] at hv;rcases hv with h | h | h | h <;> simp [h])
  exact absurd ⟨⟨e1,e2,e3⟩,⟨e4,e5⟩,e6⟩ h
theorem lQ {w:List L}{j:Int}(h0:0≤j)(h:j < (w.length:Int)):atI (toS w).cps.toList j=some (cp (atZ w j)):=by
 have:=tM (w:=w) (j:=j) (by omega)
 rwa [yE h0 h] at this
def Cyc (w:List L):Prop:=Wd.Rd w∧J w w
theorem Cyc.rnd {w:List L}(h:Cyc w)(n:w≠[]):Rnd w:=⟨n,h.1,h.2⟩
theorem pV:Cyc []:=⟨trivial,fun x y h=>by simp at h⟩
theorem gg (x:L):Rnd [x]:=⟨by simp,trivial,fun a b ha hb=>by
 have ha:x=a:=by simpa using ha
 have hb:x=b:=by simpa using hb
 subst ha hb
 exact fun e=>gL _ e.symm⟩
theorem pX {V:List L}{x:L}(h:Wd.Rd V)(g:∀ y,V.getLast? = some y→x≠inv y):Wd.Rd (V++[x]):=by
 rw [bz]
 refine ⟨h,trivial,fun a b ha hb=>?_⟩
 have hb:x=b:=by simpa using hb
 rw [← hb]
 exact g a ha
theorem sF {x y:L}{mid:List L}(h:Wd.Rd (x::(mid++[y]))):Wd.Rd mid:=((bz _ _).mp h.tail).1
theorem pY {x y:L}{mid:List L}(h:Wd.Rd (x::(mid++[y])))(g:x≠inv y):Cyc (x::(mid++[y])):=⟨h,fun a b ha hb=>by
 have e:x::(mid++[y])=(x::mid)++[y]:=rfl
 rw [e,List.getLast?_append,List.getLast?_singleton] at ha
 have ha:y=a:=by simpa using ha
 have hb:x=b:=by simpa using hb
 rw [← ha,← hb]
 exact g⟩
theorem p5 {w:List L}(h:¬ 1 < w.length):Cyc w:=by
 match w,h with
 | [],_=>exact pV
 | [x],_=>exact ⟨(gg x).rd,(gg x).jn⟩
 | x::y::r,h=>simp at h
theorem p6 {v:List L}{n:Nat}(h:Cyc (rep n v))(hn:rep n v≠[]):Cyc v:=by
 cases n with
 | zero=>exact absurd rfl hn
 | succ n=>exact ⟨(jo (h.rnd hn)).rd,(jo (h.rnd hn)).jn⟩
theorem gY {w:List L}(h:Rnd w):∀ a,Rnd (w.drop a++w.take a)
 | 0=>by rw [z8,List.take_zero,xw];exact h
 | a+1=>by
  have ih:=gY h a
  by_cases c:a < w.length
  ·have e1:w.drop a=w[a]::w.drop (a+1):=xQ c
   have e2:w.take (a+1)=w.take a++[w[a]]:=by rw [y6,fu c];rfl
   rw [e1,List.cons_append] at ih
   rw [e2,← wt]
   exact nB ih
  ·rw [yS (by omega),xm (by omega)] at ih ⊢
   exact ih
def GR (n b:Nat)(w:List L):Prop:=Rnd w∧w.length≤b∧InM n w
theorem GR.bk {n b:Nat}{w:List L}(h:GR n b w):GR n b (bk w):=⟨sf h.1,by rw [bS]; exact h.2.1,InM.bk h.2.2⟩
theorem GR.turn {n b:Nat}{w:List L}(h:GR n b w)(a:Nat):GR n b (w.drop a++w.take a):=by
 refine ⟨gY h.1 a,by rw [wj,xB,wD];have:=h.2.1;omega,fun x hx=>?_⟩
 rcases wL.mp hx with hx | hx
 ·exact h.2.2 x (yi hx)
 ·exact h.2.2 x (xF hx)
theorem GR.le {n b c:Nat}{w:List L}(h:GR n b w)(g:b≤c):GR n c w:=⟨h.1,xq h.2.1 g,h.2.2⟩
theorem sG {w:List L}:(∀ a (h:a+1 < w.length),w[a+1]≠inv w[a])→Wd.Rd w:=by
 induction w with
 | nil=>intro _;trivial
 | cons x r ih =>
  intro h
  cases r with
  | nil=>trivial
  | cons y r =>
   refine ⟨h 0 (by simp),ih fun a ha=>?_⟩
   exact h (a+1) (by simp at ha ⊢;omega)
theorem eQ {w:List L}{a:Nat}(h:a < w.length):atZ w (a:Int)=w[a]:=by
 unfold atZ
 rw [yE (by omega) (by omega),xE,wV,fu h]
 rfl
theorem oJ {w:List L}(B3:w≠[])(h:∀ k:Nat,k < w.length→atZ w (k:Int)≠inv (atZ w ((k:Int) - 1))):Rnd w:=by
 have l1:=xf.mpr B3
 refine ⟨B3,sG fun a ha=>?_,fun x y hx hy=>?_⟩
 ·have:=h (a+1) ha
  rw [eQ ha,show ((a+1:Nat):Int) - 1=(a:Int) by omega,eQ (by omega)] at this
  exact this
 ·have:=h 0 l1
  have e:atZ w (((0:Nat):Int) - 1)=w[w.length - 1]:=by
   rw [← fX,show ((0:Nat):Int) - 1+(w.length:Int)=((w.length - 1:Nat):Int) by omega]
   exact eQ (by omega)
  rw [e,eQ l1] at this
  rw [y_,fu (show w.length - 1 < w.length by omega)] at hx
  rw [zr,fu l1] at hy
  rw [← wA hx,← wA hy]
  exact this
def oK:Sp:=fun vs H Q _=>∃ (d c:Addr) (m:Int),vs=[.ref d,.int m]∧Tp H d c∧1≤m∧m≤6∧∀ (u:List L) (k:Nat) (H':Hp),SK u k→(k:Int)≤m→Tp H' d c→bq d H H'→Q (tx u) H'
inductive d7 (vs:List V)(H:Hp)(Q:VK)(BC:XK):Prop
 | mk:∀ u,(vs=[tx u])→(u.length≤60)→(∀ (v:List L) (H':Hp),v.length≤u.length→(∀ x∈v,x∈u)→Cyc v→aA H H'→Q (tx v) H')→d7 vs H Q BC
inductive d8 (vs:List V)(H:Hp)(Q:VK)(BC:XK):Prop
 | mk:∀ u,(vs=[tx u])→(u.length≤60)→(∀ (v:List L),v.length≤u.length→(∀ x∈v,x∈u)→(Cyc u→Cyc v)→Q (tx v) H)→d8 vs H Q BC
inductive eR (vs:List V)(H:Hp)(Q:VK)(BC:XK):Prop
 | mk:∀ (d c:Addr) (m:Nat) (n:Int),(vs=[.ref d,.int (m:Int),.int n])→(Tp H d c)→(1≤m)→(m≤6)→(1≤n)→(n≤30)→(∀ (v:List L) (H':Hp),GR m n.toNat v→Tp H' d c→bq d H H'→Q (tx v) H')→eR vs H Q BC
inductive gh (vs:List V)(H:Hp)(Q:VK)(BC:XK):Prop
 | mk:∀ (d c:Addr) (m:Nat) (n:Int),(vs=[.ref d,.int (m:Int),.int 3,.int n])→(Tp H d c)→(1≤m)→(m≤6)→(1≤n)→(n≤7)→(∀ (a:Addr) (W:List (List L)) (H':Hp),Tp H' d c→bq d H H'→H' a=some (.tup (W.map tx))→1≤W.length→W.length≤3→(∀ w∈W,GR m 7 w)→Q (.ref a) H')→gh vs H Q BC
inductive iF (vs:List V)(H:Hp)(Q:VK)(BC:XK):Prop
 | mk:∀ (d c:Addr) (m:Nat),(vs=[.ref d,.int (m:Int)])→(Tp H d c)→(2≤m)→(m≤6)→(∀ (a:Addr) (W:List (List L)) (H':Hp),Tp H' d c→bq d H H'→H' a=some (.tup (W.map tx))→W.length=2→(∀ w∈W,GR m 30 w)→Q (.ref a) H')→iF vs H Q BC
inductive lS (vs:List V)(H:Hp)(Q:VK)(BC:XK):Prop
 | mk:∀ (d c:Addr) (m:Nat) (n:Int),(vs=[.ref d,.int (m:Int),.int n])→(Tp H d c)→(1≤m)→(m≤6)→(1≤n)→(n≤7)→(∀ (a:Addr) (W:List (List L)) (H':Hp),H a=none→Tp H' d c→bq d H H'→H' a=some (.lst (W.map tx))→W.length=2→(∀ w∈W,w≠[]∧w.length≤14∧InM m w)→Q (.ref a) H')→lS vs H Q BC
inductive gi (vs:List V)(H:Hp)(Q:VK)(BC:XK):Prop
 | mk:∀ (w:List L),(vs=[tx w])→w≠[]→w.length≤60→(∀ (b:Bool) (H':Hp),(b=true→Rnd w)→aA H H'→Q (.bl b) H')→gi vs H Q BC
inductive dy (vs:List V)(H:Hp)(Q:VK)(BC:XK):Prop
 | mk:∀ (u:List L) (a:Addr) (n:Nat) (W:List (List L)),(vs=[tx u,.ref a])→SK u n→WyA n W H a→(∀ H',aA H H'→Q (.bl true) H')→dy vs H Q BC
def sP (s:P2):Prop:=∃ a b:Nat,a < 64∧b < 64∧s=((a:Int),(b:Int))
def SmL:Lk→Prop
 | .b s t=>sP s∧sP t
 | .a s t n=>sP s∧sP t∧n < 64
 | .g s t n=>sP s∧sP t∧n < 64
theorem oM:∀ k:Nat,k < 64→(PyData.int (k:Nat)).showable=true∧(PyData.int (k:Nat)).leavesShort 40=true∧(PyData.int (k:Nat)).weight≤8:=by decide +kernel
def Shk (n w:Nat)(d:PyData):Prop:=d.showable=true∧d.hasDict=false∧d.depth≤n∧d.leavesShort 40=true∧d.weight≤w
theorem iG {n w:Nat}:∀ {ds:List PyData},(∀ d∈ds,Shk n w d)→PyData.showableAll ds=true∧PyData.hasDictAll ds=false∧PyData.depthAll ds≤n∧PyData.leavesShortAll 40 ds=true∧PyData.weightAll ds≤ds.length*(w+1)
 | [],_=>⟨rfl,rfl,xv _,rfl,xv _⟩
 | d::r,h=>by
  obtain ⟨a,b,c,e,f⟩:=iG fun x hx=>h x (wO _ hx)
  obtain ⟨a',b',c',e',f'⟩:=h d wX
  refine ⟨?_,?_,?_,?_,?_⟩
  ·show (PyData.showable d && PyData.showableAll r)=true
   rw [a',a];rfl
  ·show (PyData.hasDict d || PyData.hasDictAll r)=false
   rw [b',b];rfl
  ·show max (PyData.depth d) (PyData.depthAll r)≤n
   omega
  ·show (PyData.leavesShort 40 d && PyData.leavesShortAll 40 r)=true
   rw [e',e];rfl
  ·show PyData.weight d+1+PyData.weightAll r≤(r.length+1)*(w+1)
   rw [Nat.succ_mul]
   omega
theorem gj {n w m:Nat}{ds:List PyData}(h:∀ d∈ds,Shk n w d)(hm:ds.length*(w+1)≤m):Shk (n+1) m (.tuple ds):=by
 obtain ⟨a,b,c,e,f⟩:=iG h
 exact ⟨a,b,by show PyData.depthAll ds+1≤_;omega,e,xq f hm⟩
theorem lU {k:Nat}(h:k < 64):Shk 1 18 (.int (k:Nat)):=by
 obtain ⟨a,b,c⟩:=oM k h
 exact ⟨a,rfl,xv _,b,by omega⟩
theorem fj {s:P2}(h:sP s):Shk 1 18 (stD s):=by
 obtain ⟨a,b,ha,hb,rfl⟩:=h
 refine gj (n:=0) (w:=8) (fun d hd=>?_) (by show 2*9≤18;decide)
 simp only [wH,wZ,yg] at hd
 have q:∀ k:Nat,k < 64→Shk 0 8 (.int (k:Nat)):=fun k hk=>by
  obtain ⟨a,b,c⟩:=oM k hk
  exact ⟨a,rfl,wu _,b,c⟩
 rcases hd with rfl | rfl
 ·exact q a ha
 ·exact q b hb
theorem uK:Shk 1 18 (.str "beside"):=by unfold Shk; decide +kernel
theorem uL:Shk 1 18 (.str "along"):=by unfold Shk; decide +kernel
theorem uM:Shk 1 18 (.str "against"):=by unfold Shk; decide +kernel
theorem SmL.shk {k:Lk}(h:SmL k):Shk 2 80 k.dat:=by
 cases k with
 | b s t =>
  refine gj (n:=1) (w:=18) (fun d hd=>?_) (by show 3*19≤80;decide)
  simp only [wH,wZ,yg] at hd
  rcases hd with rfl | rfl | rfl
  ·exact uK
  ·exact fj h.1
  ·exact fj h.2
 | a s t n =>
  refine gj (n:=1) (w:=18) (fun d hd=>?_) (by show 4*19≤80;decide)
  simp only [wH,wZ,yg] at hd
  rcases hd with rfl | rfl | rfl | rfl
  ·exact uL
  ·exact fj h.1
  ·exact fj h.2.1
  ·exact lU h.2.2
 | g s t n =>
  refine gj (n:=1) (w:=18) (fun d hd=>?_) (by show 4*19≤80;decide)
  simp only [wH,wZ,yg] at hd
  rcases hd with rfl | rfl | rfl | rfl
  ·exact uM
  ·exact fj h.1
  ·exact fj h.2.1
  ·exact lU h.2.2
theorem sH {ks:List Lk}(h:∀ k∈ks,SmL k)(hl:ks.length≤2700):Sh (.list (ks.map Lk.dat)):=by
 obtain ⟨a,b,c,e,f⟩:=iG (n:=2) (w:=80) (ds:=ks.map Lk.dat) fun d hd=>by
  obtain ⟨k,hk,rfl⟩:=xY.mp hd
  exact (h k hk).shk
 rw [wq] at f
 have:ks.length*81≤2700*81:=Nat.mul_le_mul_right _ hl
 exact ⟨a,b,by show PyData.depthAll _+1≤10;omega,sj e (by show PyData.weightAll _≤2 ^ 18;omega)⟩
theorem okP.sm {n:Nat}{W:List (List L)}(hW:WyR n W){s:P2}(h:okP W s):sP s:=by
 obtain ⟨h1,h2,h3,h4⟩:=h
 have:=hW.le
 have:=(hW.get h1 h2).2.2.2.1
 exact ⟨s.1.toNat,s.2.toNat,by omega,by omega,Prod.ext (by show s.1=_;omega) (by show s.2=_;omega)⟩
theorem sI {n:Nat}{W:List (List L)}(hW:WyR n W){s t:P2}(hs:okP W s)(ht:okP W t)(wy:Int):nZ W s t wy < 64:=by
 have h1:=(hW.get hs.1 hs.2.1).2.2.2.1
 have h2:=(hW.get ht.1 ht.2.1).2.2.2.1
 have h:=(dH (fZ W s 1) (fZ W t wy) ((wyZ W s.1).length+(wyZ W t.1).length) 0).2.1
 unfold nZ
 omega
theorem uN {n:Nat}{u:List L}{W:List (List L)}(hW:WyR n W){s t:P2}(hs:okP W s)(ht:okP W t):∀ k∈lkZ u W s t,SmL k:=by
 intro k hk
 have q:∀ {b:Bool} {x:Lk},k∈(if b=true then [x] else [])→k=x:=fun {b x} h=>by
  cases b with
  | true=>exact wc.mp h
  | false=>cases h
 unfold lkZ mB hE fi at hk
 rcases wL.mp hk with hk | hk
 ·rw [q hk];exact ⟨hs.sm hW,ht.sm hW⟩
 ·rcases wL.mp hk with hk | hk
  ·rw [q hk];exact ⟨hs.sm hW,ht.sm hW,sI hW hs ht _⟩
  ·rw [q hk];exact ⟨hs.sm hW,ht.sm hW,sI hW hs ht _⟩
theorem p7 {n:Nat}{u:List L}{W:List (List L)}(hW:WyR n W){i j:Int}(i0:0≤i)(i1:i < (W.length:Int))(j0:0≤j)(j1:j < (W.length:Int)):∀ k∈jr u W i j (wyZ W i).length,SmL k:=by
 intro k hk
 unfold jr jR at hk
 obtain ⟨p,hp,hk⟩:=List.mem_flatMap.mp hk
 obtain ⟨q,hq,hk⟩:=List.mem_flatMap.mp hk
 rw [List.mem_range] at hp hq
 exact uN hW ⟨i0,i1,by show (0:Int)≤(p:Int);omega,by show (p:Int) < ((wyZ W i).length:Int);omega⟩ ⟨j0,j1,by show (0:Int)≤(q:Int);omega,by show (q:Int) < ((wyZ W j).length:Int);omega⟩ k hk
theorem jw {n:Nat}{u:List L}{W:List (List L)}(hW:WyR n W){i j:Int}(i0:0≤i)(i1:i < (W.length:Int))(j0:0≤j)(j1:j < (W.length:Int)){ks:List Lk}(h:ks.Perm (jr u W i j (wyZ W i).length)):Sh (.list (ks.map Lk.dat)):=by
 refine sH (fun k hk=>p7 hW i0 i1 j0 j1 k (h.mem_iff.mp hk)) ?_
 rw [h.length_eq]
 have h1:=(hW.get i0 i1).2.2.2.1
 have h2:=eN u W i j (hW.get j0 j1).2.2.2.1 (wyZ W i).length
 omega
end Kx
namespace Kx
open PySem PySem.Spec PyProof.Rows L2 Wd
def top (i:Nat):Stmt:=PySem.Challenge.pw_ringwords_k38_links_of_two_ways.main.body.getD i (.Pass ⟨0,0,0,0⟩)
theorem qI {α:Type}{us:List α}(h:us.length=1):∃ a0,us=[a0]:=by
 cases us with
 | nil=>cases h
 | cons a0 us =>
  cases us with
  | nil=>exact ⟨a0,rfl⟩
  | cons b us=>cases h
theorem qJ {α:Type}{us:List α}(h:us.length=2):∃ a0 a1,us=[a0,a1]:=by
 cases us with
 | nil=>cases h
 | cons a0 us =>
  cases us with
  | nil=>cases h
  | cons a1 us =>
   cases us with
   | nil=>exact ⟨a0,a1,rfl⟩
   | cons b us=>cases h
theorem sJ {α:Type}{us:List α}(h:us.length=3):∃ a0 a1 a2,us=[a0,a1,a2]:=by
 cases us with
 | nil=>cases h
 | cons a0 us =>
  cases us with
  | nil=>cases h
  | cons a1 us =>
   cases us with
   | nil=>cases h
   | cons a2 us =>
    cases us with
    | nil=>exact ⟨a0,a1,a2,rfl⟩
    | cons b us=>cases h
theorem jU {α:Type}{us:List α}(h:us.length=4):∃ a0 a1 a2 a3,us=[a0,a1,a2,a3]:=by
 cases us with
 | nil=>cases h
 | cons a0 us =>
  cases us with
  | nil=>cases h
  | cons a1 us =>
   cases us with
   | nil=>cases h
   | cons a2 us =>
    cases us with
    | nil=>cases h
    | cons a3 us =>
     cases us with
     | nil=>exact ⟨a0,a1,a2,a3,rfl⟩
     | cons b us=>cases h
theorem vo {α:Type}{us:List α}(h:us.length=5):∃ a0 a1 a2 a3 a4,us=[a0,a1,a2,a3,a4]:=by
 cases us with
 | nil=>cases h
 | cons a0 us =>
  cases us with
  | nil=>cases h
  | cons a1 us =>
   cases us with
   | nil=>cases h
   | cons a2 us =>
    cases us with
    | nil=>cases h
    | cons a3 us =>
     cases us with
     | nil=>cases h
     | cons a4 us =>
      cases us with
      | nil=>exact ⟨a0,a1,a2,a3,a4,rfl⟩
      | cons b us=>cases h
section
variable {P:Program} {w:World} {K:PySem.W.Frag} {mg:Str→Option Value} {base:Heap} {aB:Addr}
abbrev lV:Stmt:=top 19
theorem p8:aG ["_law_script"] ["_law_script"] (ak lV):=⟨rfl,rfl,rfl,by decide +kernel,rfl,by decide +kernel,by decide +kernel⟩
def _root_.AV {a b c}:=@aj a b c
def _root_.AW {a b c d}:=@aL a b c d
def _root_.AX {a b c d}:=@aZ a b c d
def _root_.AY {a b c d e}:=@aa a b c d e
def _root_.AZ {a b c d e f g h i}:=@bt a b c d e f g h i
def _root_.A0 {a b c d e f g h i j}:=@aM a b c d e f g h i j
def _root_.A2 {a b c}:=@aR a b c
theorem sL (D:Df K mg "_law_tape" lV)(T:Bt K w mg aB):Fnc P w K mg base "_law_tape" ["_law_script"] 1 (kP K):=by
 have sc:=p8
 refine D.ok sc (fun _ _ _ _ _ _ us hl=>by obtain ⟨_,rfl⟩:=qI hl;rfl) (fun vs H Q E h=>?_) (fun f Bx A outer s H vs Q E hr h=>?_)
 ·obtain ⟨a,ns,rfl,_⟩:=h
  rfl
 ·obtain ⟨a,ns,rfl,hS,hlen,k⟩:=h
  refine ⟨_,(AV (AW (AX (AY (AZ dN (by rfl) T.list oo (AY (A0 eB (pv 0) aV (A2 ai)) af)) (AY ai (AY ai (AY ai af))))))),?_⟩
  refine ⟨_,rfl,_,rfl,a,_,rfl,hS,fun q1 hq1=>?_⟩
  rw [uv hlen]
  have s2:aA H (upd H q1 (.lst (ns.map V.int))):=aA.new hq1
  have l2:(upd H q1 (.lst (ns.map V.int))) q1=some (.lst (ns.map V.int)):=ag
  generalize upd H q1 (.lst (ns.map V.int))=H2 at s2 l2 ⊢
  refine ⟨q1,_,rfl,.inl (SqL.of l2),fun q2 hq2=>?_⟩
  have s3:aA H2 (upd H2 q2 (.lst (ns.map V.int))):=aA.new hq2
  have l3:(upd H2 q2 (.lst (ns.map V.int))) q2=some (.lst (ns.map V.int)):=ag
  generalize upd H2 q2 (.lst (ns.map V.int))=H3 at s3 l3 ⊢
  refine ⟨(by show 4≤sizeLine;decide),fun d hd=>?_⟩
  have n1:=none_of s2 hq2
  have n0:=none_of s2 (none_of s3 hd)
  exact k d q2 _ n0 n1 ⟨0,0,0,ns,ag,(aA.new hd) _ _ l3,aC l3 hd,hlen⟩ ((s2.trans s3).trans (aA.new hd))
abbrev lX:Stmt:=top 20
theorem p9:aG ["_law_tape_here","_law_many","_law_spot","_law_cell","_law_mixed","_law_found"] ["_law_tape_here","_law_many"] (ak lX):=⟨rfl,rfl,rfl,by decide +kernel,rfl,by decide +kernel,by decide +kernel⟩
def _root_.A3 {a b c d e}:=@ah a b c d e
def _root_.A4 {a b c d e f g h}:=@aH a b c d e f g h
def _root_.A5 {a b c d e f g}:=@aD a b c d e f g
def _root_.A6 {a b c d e f g h}:=@bN a b c d e f g h
def _root_.A7 {a b c d e f g h}:=@aF a b c d e f g h
def _root_.A8 {a b} (c) {d e f g}:=@aq a b c d e f g
def _root_.A9 {a b c d e f g h i}:=@az a b c d e f g h i
def _root_.A_ {a b c}:=@PW.pt a b c
theorem sM (D:Df K mg "_law_draw" lX)(T:Bt K w mg aB):Fnc P w K mg base "_law_draw" ["_law_tape_here","_law_many"] 1 cx:=by
 have sc:=p9
 refine D.ok sc (fun _ _ _ _ _ _ us hl=>by obtain ⟨_,_,rfl⟩:=qJ hl;rfl) (fun vs H Q E h=>?_) (fun f Bx A outer s H vs Q E hr h=>?_)
 ·obtain ⟨d,c,m,rfl,_⟩:=h
  rfl
 ·obtain ⟨d,c,m,rfl,F,m0,m1,k⟩:=h
  have hu:=uf hr
  refine ⟨_,(A3 (@iU _ _ _ _ _ _ (A4 br (A5 aJ (pv 0) ai (fun _ _=>rfl)) ai) (@iT _ _ _ _ _ _ _ (pv 0) ai dR (by intro _ ;rfl)) (by rfl) (by rfl) (by rfl)) (A3 (A6 (A7 bF (A5 aJ (pv 0) ai (fun _ _=>rfl)) ai (aI _)) (A3 (A8 (2) sc.nd rfl (Or.inl rfl) (A5 aJ (pv 0) ai (fun _ _=>rfl))) (A3 (@iU _ _ _ _ _ _ (A4 br (pv 2) ai) (@iT _ _ _ _ _ _ _ (pv 0) ai dR (by intro _ ;rfl)) (by rfl) (by rfl) (by rfl)) (A3 (A8 (3) sc.nd rfl (Or.inl rfl) ai) (A3 (A6 (A7 hX (A9 aS (by rfl) T.len wQ (AY (A5 aJ (pv 0) ai (fun _ _=>rfl)) af)) ai (aI _)) (AV (A8 (3) sc.nd rfl (Or.inl rfl) (A5 aJ (A5 aJ (pv 0) ai (fun _ _=>rfl)) (A4 b_ (pv 2) (A9 aS (by rfl) T.len wQ (AY (A5 aJ (pv 0) ai (fun _ _=>rfl)) af))) (fun _ _=>rfl)))) aY) (A3 (A6 (A_ (@qR _ _ _ _ _ _ _ (A7 eV (pv 3) (A4 rf ai ai) (aI _)) (@nY _ _ _ _ (A7 t_ (pv 2) (A9 aS (by rfl) T.len wQ (AY (A5 aJ (pv 0) ai (fun _ _=>rfl)) af)) (aI _))))) (A3 (A8 (4) sc.nd rfl (Or.inl rfl) (A4 b_ (A4 cP (A4 br (A4 b_ (pv 3) ai) (A4 cP ai (A5 aJ (pv 0) ai (fun _ _=>rfl)))) ai) ai)) (A3 (A8 (4) sc.nd rfl (Or.inl rfl) (A4 b_ (A4 cP (A4 br (A4 d9 (pv 4) ai) (A4 cP ai (A5 aJ (pv 0) ai (fun _ _=>rfl)))) ai) ai)) (AV (AW (A4 b_ (A4 d9 (pv 4) ai) (pv 1)))))) aY) (AV (@iU _ _ _ _ _ _ (pv 3) (@iT _ _ _ _ _ _ _ (pv 0) ai dR (by intro _ ;rfl)) (by rfl) (by rfl) (by rfl)))))))) aY) (A3 (A8 (5) sc.nd rfl (Or.inl rfl) (A4 b_ (A5 aJ (pv 0) ai (fun _ _=>rfl)) (pv 1))) (A3 (@iU _ _ _ _ _ _ (A4 d9 (A5 aJ (pv 0) ai (fun _ _=>rfl)) (pv 1)) (@iT _ _ _ _ _ _ _ (pv 0) ai dR (by intro _ ;rfl)) (by rfl) (by rfl) (by rfl)) (AV (AW (pv 5))))))),?_⟩
  obtain ⟨i,l,t,ns,hd,hc,dc,h63⟩:=F.ex
  have fin:∀ (r i' l' t':Int),0≤r→r < m→Q (.int r) (upd H d (.lst [.ref c,.int i',.int l',.int t'])):=fun r i' l' t' h0 h1 =>
   k r _ h0 h1 ⟨i',l',t',ns,ag,by rw [aP dc];exact hc,dc,h63⟩ bq.upd
  have c1:∀ o,(upd H d o) c=some (.lst (ns.map V.int)):=fun o=>by rw [aP dc];exact hc
  refine ⟨_,rfl,d,_,_,_,rfl,rfl,SqL.of hd,rfl,_,_,rfl,rfl,_,rfl,d,_,_,_,rfl,rfl,hd,rfl,?_⟩
  refine ⟨_,rfl,d,_,_,_,rfl,rfl,SqL.of ag,rfl,rfl,_,rfl,?_⟩
  refine gH (fun _=>?_) (fun _=>?_)
  rotate_left
  ·refine ⟨_,rfl,d,_,_,_,rfl,rfl,SqL.of ag,rfl,_,rfl,_,_,rfl,rfl,m0,?_⟩
   refine ⟨_,rfl,d,_,_,_,rfl,rfl,SqL.of ag,rfl,_,rfl,_,_,rfl,rfl,⟨m0,by omega⟩,_,rfl,d,_,_,_,rfl,rfl,ag,rfl,?_⟩
   refine ⟨_,rfl,?_⟩
   rw [dz]
   exact fin _ _ _ _ (xP _ (by omega)) (xC _ m0)
  refine ⟨_,rfl,d,_,_,_,rfl,rfl,SqL.of ag,rfl,?_⟩
  refine ⟨_,rfl,_,_,rfl,rfl,_,rfl,d,_,_,_,rfl,rfl,ag,rfl,?_⟩
  rw [dz]
  refine ⟨_,rfl,d,_,_,_,rfl,rfl,SqL.of ag,rfl,c,_,rfl,.inl (SqL.of (c1 _)),_,_,rfl,rfl,_,rfl,?_⟩
  refine gH (fun h0=>?_) (fun h0=>?_)
  ·have B3:ns≠[]:=by
    intro e
    subst e
    simp at h0
   have hl0:(0:Int) < ((ns.map V.int).length:Int):=by
    rw [wq]
    have:=xf.mpr B3
    omega
   obtain ⟨n,hn⟩:=ph B3 i
   refine ⟨_,rfl,d,_,_,_,rfl,rfl,SqL.of ag,rfl,_,rfl,_,rfl,d,_,_,_,rfl,rfl,SqL.of ag,rfl,c,_,rfl,.inl (SqL.of (c1 _)),_,_,rfl,rfl,hl0,c,_,_,_,rfl,rfl,SqL.of (c1 _),hn,?_⟩
   refine ⟨_,rfl,_,_,rfl,rfl,⟨by decide,by decide,by decide⟩,_,_,rfl,rfl,_,rfl,?_⟩
   refine gH (fun h1=>?_) (fun h1=>?_)
   ·refine ⟨_,rfl,_,_,rfl,rfl,(by show (0:Int) < 1000003;decide),_,rfl,d,_,_,_,rfl,rfl,SqL.of ag,rfl,_,_,rfl,rfl,.inl ⟨by decide,by decide⟩,_,_,rfl,rfl,_,_,rfl,rfl,.inr ⟨by decide,by decide⟩,_,_,rfl,rfl,(by show (0:Int) < 2147483647;decide),?_⟩
    refine ⟨_,rfl,_,_,rfl,rfl,⟨by decide,by decide⟩,_,rfl,d,_,_,_,rfl,rfl,SqL.of ag,rfl,_,_,rfl,rfl,.inl ⟨by decide,by decide⟩,_,_,rfl,rfl,_,_,rfl,rfl,.inr ⟨by decide,by decide⟩,_,_,rfl,rfl,(by show (0:Int) < 2147483587;decide),?_⟩
    refine ⟨_,rfl,_,_,rfl,rfl,⟨by decide,by decide⟩,_,rfl,_,_,rfl,rfl,m0,?_⟩
    exact fin _ _ _ _ (xP _ (by omega)) (xC _ m0)
   ·refine ⟨_,rfl,_,rfl,d,_,_,_,rfl,rfl,SqL.of ag,rfl,c,_,rfl,.inl (SqL.of (c1 _)),_,_,rfl,rfl,_,rfl,?_⟩
    refine gH (fun h2=>?_) (fun h2=>?_)
    ·refine ⟨_,rfl,_,_,rfl,rfl,(by show (0:Int) < 1000003;decide),_,rfl,d,_,_,_,rfl,rfl,SqL.of ag,rfl,_,_,rfl,rfl,.inl ⟨by decide,by decide⟩,_,_,rfl,rfl,_,_,rfl,rfl,.inr ⟨by decide,by decide⟩,_,_,rfl,rfl,(by show (0:Int) < 2147483647;decide),?_⟩
     refine ⟨_,rfl,_,_,rfl,rfl,⟨by decide,by decide⟩,_,rfl,d,_,_,_,rfl,rfl,SqL.of ag,rfl,_,_,rfl,rfl,.inl ⟨by decide,by decide⟩,_,_,rfl,rfl,_,_,rfl,rfl,.inr ⟨by decide,by decide⟩,_,_,rfl,rfl,(by show (0:Int) < 2147483587;decide),?_⟩
     refine ⟨_,rfl,_,_,rfl,rfl,⟨by decide,by decide⟩,_,rfl,_,_,rfl,rfl,m0,?_⟩
     exact fin _ _ _ _ (xP _ (by omega)) (xC _ m0)
    ·refine ⟨_,rfl,_,rfl,d,_,_,_,rfl,rfl,ag,rfl,?_⟩
     rw [dz]
     refine ⟨_,rfl,d,_,_,_,rfl,rfl,SqL.of ag,rfl,_,rfl,_,_,rfl,rfl,m0,?_⟩
     refine ⟨_,rfl,d,_,_,_,rfl,rfl,SqL.of ag,rfl,_,rfl,_,_,rfl,rfl,⟨m0,by omega⟩,_,rfl,d,_,_,_,rfl,rfl,ag,rfl,?_⟩
     refine ⟨_,rfl,?_⟩
     rw [dz]
     exact fin _ _ _ _ (xP _ (by omega)) (xC _ m0)
  ·refine ⟨_,rfl,_,_,rfl,rfl,⟨by decide,by decide,by decide⟩,_,_,rfl,rfl,_,rfl,?_⟩
   refine gH (fun h1=>?_) (fun h1=>?_)
   ·refine ⟨_,rfl,_,_,rfl,rfl,(by show (0:Int) < 1000003;decide),_,rfl,d,_,_,_,rfl,rfl,SqL.of ag,rfl,_,_,rfl,rfl,.inl ⟨by decide,by decide⟩,_,_,rfl,rfl,_,_,rfl,rfl,.inr ⟨by decide,by decide⟩,_,_,rfl,rfl,(by show (0:Int) < 2147483647;decide),?_⟩
    refine ⟨_,rfl,_,_,rfl,rfl,⟨by decide,by decide⟩,_,rfl,d,_,_,_,rfl,rfl,SqL.of ag,rfl,_,_,rfl,rfl,.inl ⟨by decide,by decide⟩,_,_,rfl,rfl,_,_,rfl,rfl,.inr ⟨by decide,by decide⟩,_,_,rfl,rfl,(by show (0:Int) < 2147483587;decide),?_⟩
    refine ⟨_,rfl,_,_,rfl,rfl,⟨by decide,by decide⟩,_,rfl,_,_,rfl,rfl,m0,?_⟩
    exact fin _ _ _ _ (xP _ (by omega)) (xC _ m0)
   ·refine ⟨_,rfl,_,rfl,d,_,_,_,rfl,rfl,SqL.of ag,rfl,c,_,rfl,.inl (SqL.of (c1 _)),_,_,rfl,rfl,_,rfl,?_⟩
    refine gH (fun h2=>?_) (fun h2=>?_)
    ·refine ⟨_,rfl,_,_,rfl,rfl,(by show (0:Int) < 1000003;decide),_,rfl,d,_,_,_,rfl,rfl,SqL.of ag,rfl,_,_,rfl,rfl,.inl ⟨by decide,by decide⟩,_,_,rfl,rfl,_,_,rfl,rfl,.inr ⟨by decide,by decide⟩,_,_,rfl,rfl,(by show (0:Int) < 2147483647;decide),?_⟩
     refine ⟨_,rfl,_,_,rfl,rfl,⟨by decide,by decide⟩,_,rfl,d,_,_,_,rfl,rfl,SqL.of ag,rfl,_,_,rfl,rfl,.inl ⟨by decide,by decide⟩,_,_,rfl,rfl,_,_,rfl,rfl,.inr ⟨by decide,by decide⟩,_,_,rfl,rfl,(by show (0:Int) < 2147483587;decide),?_⟩
     refine ⟨_,rfl,_,_,rfl,rfl,⟨by decide,by decide⟩,_,rfl,_,_,rfl,rfl,m0,?_⟩
     exact fin _ _ _ _ (xP _ (by omega)) (xC _ m0)
    ·refine ⟨_,rfl,_,rfl,d,_,_,_,rfl,rfl,ag,rfl,?_⟩
     rw [dz]
     refine ⟨_,rfl,d,_,_,_,rfl,rfl,SqL.of ag,rfl,_,rfl,_,_,rfl,rfl,m0,?_⟩
     refine ⟨_,rfl,d,_,_,_,rfl,rfl,SqL.of ag,rfl,_,rfl,_,_,rfl,rfl,⟨m0,by omega⟩,_,rfl,d,_,_,_,rfl,rfl,ag,rfl,?_⟩
     refine ⟨_,rfl,?_⟩
     rw [dz]
     exact fin _ _ _ _ (xP _ (by omega)) (xC _ m0)
abbrev lY:Stmt:=top 2
theorem p_:aG ["word"] ["word"] (ak lY):=⟨rfl,rfl,rfl,by decide +kernel,rfl,by decide +kernel,by decide +kernel⟩
def _root_.Ba {a b c d e f g h i j k l}:=@bH a b c d e f g h i j k l
def _root_.Bb {a b c d e f g} (h i j) {k l m n}:=@c4 a b c d e f g h i j k l m n
def _root_.Bc {a b c d e f}:=@cV a b c d e f
def _root_.Bd {a b} (c) {d}:=@aO a b c d
theorem sN (D:Df K mg "back" lY)(T:Bt K w mg aB):Fnc P w K mg base "back" ["word"] 1 i7:=by
 have sc:=p_
 refine D.ok sc (fun _ _ _ _ _ _ us hl=>by obtain ⟨_,rfl⟩:=qI hl;rfl) (fun vs H Q E h=>?_) (fun f Bx A outer s H vs Q E hr h=>?_)
 ·obtain ⟨u,rfl,_⟩:=h
  rfl
 ·obtain ⟨u,rfl,hu,k⟩:=h
  have BL:=aX
  refine ⟨_,(AV (AW (Ba w9 yd ye dD bp (AY (Bb (["letter"]) (["letter"]) ([]) (Bc rfl (by kernel_rfl)) rfl (@o8 _ _ _ _ _ _ rfl T.reversed jD (AY (pv 0) af) (by rfl)) (fun _ _ _ _=>Bd (0) (show (["letter"]:List Str).Nodup from by decide +kernel) rfl (Or.inl rfl)) (fun _ _ _ _=>cJ) (fun _ _ _ _=>by (exact (@o9 _ _ _ _ _ _ _ _ _ T.dB rfl rfl rfl T.mgB (pv 0) (fun _ _=>rfl) (by decide))))) af)))),?_⟩
  refine ⟨rfl,_,rfl,_,rfl,(by rw [ae];omega),?_⟩
  refine bY (own:=["letter"]) (cap:=[]) (J:=ug (toS u)) u.length (fun i ys σ H'=>H'=H∧ys=bo ((bk u).take i)∧∃ v,σ = [v]) ⟨rfl,rfl,none,rfl⟩ (fun i ys σ H' hi ⟨_,e,_⟩=>?_) (by omega) (fun i ys σ H' hi _=>?_) (fun ys σ H' _=>?_) ?_ ?_
  ·rw [e,aK,wD];omega
  ·show i < (toS u).cps.size;rw [bh];exact hi
  ·show _=(toS u).cps.size;rw [bh]
  ·rintro i ys σ H1 x H2 N hi ⟨rfl,rfl,v,rfl⟩ ⟨rfl,c,hc,rfl⟩ hN
   rw [bh] at hc
   obtain ⟨y,hy,e⟩:=c5 hc
   obtain ⟨t,ht⟩:=T.gB y
   refine ⟨_,rfl,toS [y],toS [inv y],t,by rw [e],ht,hN _ _ _ ⟨rfl,?_,_,rfl⟩⟩
   rw [cw (ou u hi hy),← bu]
   rfl
  ·rintro ys σ H1 l ⟨rfl,rfl,v,rfl⟩ hl
   rw [xm (by rw [bS];exact wu _)]
   refine ⟨_,l,(bk u).map fun x=>toS [x],rfl,rfl,SqL.of (by rw [ag,b8]),bK _ (by rw [bS];omega),?_⟩
   rw [bJ]
   exact k _ (aA.new hl)
abbrev iH:Stmt:=top 21
theorem nH:aG ["_law_word"] ["_law_word"] (ak iH):=⟨rfl,rfl,rfl,by decide +kernel,rfl,by decide +kernel,by decide +kernel⟩
def _root_.Be {a b c d e f}:=@dQ a b c d e f
def _root_.Bf {a b c d e f g h}:=@bV a b c d e f g h
theorem qa (D:Df K mg "_law_back" iH):Fnc P w K mg base "_law_back" ["_law_word"] 1 i7:=by
 have sc:=nH
 refine D.ok sc (fun _ _ _ _ _ _ us hl=>by obtain ⟨_,rfl⟩:=qI hl;rfl) (fun vs H Q E h=>?_) (fun f Bx A outer s H vs Q E hr h=>?_)
 ·obtain ⟨u,rfl,_⟩:=h
  rfl
 ·obtain ⟨u,rfl,hu,k⟩:=h
  have BL:=aX
  refine ⟨_,(AV (AW (Ba w9 yd ye dD bp (AY (Bb (["_law_sign_here"]) (["_law_sign_here"]) ([]) (Bc rfl (by kernel_rfl)) rfl (@gI _ _ _ _ (@pk _ _ _ _ _ _ _ (pv 0) (Be cf ai))) (fun _ _ _ _=>Bd (0) (show (["_law_sign_here"]:List Str).Nodup from by decide +kernel) rfl (Or.inl rfl)) (fun _ _ _ _=>cJ) (fun _ _ _ _=>by (exact (Bf (A7 kg (pv 0) bp rfl) (@fK _ _ _ _ _ _ _ _ _ (K) rfl w9 zu zw fD (pv 0) (by rfl) (by rfl)) (@fK _ _ _ _ _ _ _ _ _ (K) rfl w9 PySem.F.slot_str_upper PySem.F.type_str_upper mR (pv 0) (by rfl) (by rfl)))))) af)))),?_⟩
  refine ⟨rfl,_,rfl,_,rfl,toS u,rfl,rfl,(by rw [ae];omega),?_⟩
  rw [m5]
  refine ⟨_,rfl,?_⟩
  refine bY (own:=["_law_sign"]) (cap:=[]) (J:=Its (toS u.reverse)) u.length (fun i ys σ H'=>H'=H∧ys=bo ((bk u).take i)∧∃ v,σ = [v]) ⟨rfl,rfl,none,rfl⟩ (fun i ys σ H' hi ⟨_,e,_⟩=>?_) (by omega) (fun i ys σ H' hi _=>?_) (fun ys σ H' _=>?_) ?_ ?_
  ·rw [e,aK,wD];omega
  ·show i < (toS u.reverse).cps.size;rw [bh,List.length_reverse];exact hi
  ·show _=(toS u.reverse).cps.size;rw [bh,List.length_reverse]
  ·rintro i ys σ H1 x H2 N hi ⟨rfl,rfl,v,rfl⟩ ⟨rfl,c,hc,rfl⟩ hN
   obtain ⟨y,hy,e⟩:=c5 hc
   have hb:(bk u)[i]? = some (inv y):=ou u hi (by rw [zD hi] at hy;exact hy)
   refine ⟨_,rfl,_,_,rfl,rfl,_,rfl,?_⟩
   rw [e,rQ]
   refine gH (fun h=>?_) (fun h=>?_)
   ·have h:¬ y.val < 6:=by simpa using h
    exact ⟨_,rfl,rfl,_,rfl,rfl,(by rw [ae];show 1≤5592405;decide),hN _ _ _ ⟨rfl,by rw [kI h,cw hb,← bu];rfl,_,rfl⟩⟩
   ·have h:y.val < 6:=by simpa using h
    exact ⟨_,rfl,rfl,_,rfl,rfl,(by rw [ae];show 1≤5592405;decide),hN _ _ _ ⟨rfl,by rw [kH h,cw hb,← bu];rfl,_,rfl⟩⟩
  ·rintro ys σ H1 l ⟨rfl,rfl,v,rfl⟩ hl
   rw [xm (by rw [bS];exact wu _)]
   refine ⟨_,l,(bk u).map fun x=>toS [x],rfl,rfl,SqL.of (by rw [ag,b8]),bK _ (by rw [bS];omega),?_⟩
   rw [bJ]
   exact k _ (aA.new hl)
abbrev lZ:Stmt:=top 4
theorem qb:aG ["ways","walk","step","way","letter"] ["ways","walk","step"] (ak lZ):=⟨rfl,rfl,rfl,by decide +kernel,rfl,by decide +kernel,by decide +kernel⟩
def _root_.Bg {a b c d e f g h i j k}:=@au a b c d e f g h i j k
theorem sO (D:Df K mg "met" lZ)(T:Bt K w mg aB)(BG:Fnc P w K mg base "back" ["word"] 1 i7):Fnc P w K mg base "met" ["ways","walk","step"] 2 gT:=by
 have sc:=qb
 refine D.ok sc (fun _ _ _ _ _ _ us hl=>by obtain ⟨_,_,_,rfl⟩:=sJ hl;rfl) (fun vs H Q E h=>?_) (fun f Bx A outer s H vs Q E hr h=>?_)
 ·obtain ⟨a,x,n,W,s,wy,kk,rfl,_⟩:=h
  rfl
 ·obtain ⟨a,x,n,W,s,wy,kk,rfl,hW,hp,i0,i1,BP,k⟩:=h
  have BL:=aX
  obtain ⟨_,hat,_,l30,lp,_⟩:=hW.ok.get i0 i1
  have k:∀ H',aA H H'→Q (tx [sgZ (wyZ W s.1) s.2 wy kk]) H':=k
  generalize wyZ W s.1=v at hat l30 lp k
  refine ⟨_,(A3 (A8 (3) sc.nd rfl (Or.inl rfl) (A5 aN (pv 0) (A5 aN (pv 1) ai (fun _ _=>rfl)) (fun _ _=>rfl))) (A3 (A8 (4) sc.nd rfl (Or.inl rfl) (A5 bG (pv 3) (A4 b_ (A4 br (A5 aN (pv 1) ai (fun _ _=>rfl)) (A4 cP (A5 aN (pv 1) ai (fun _ _=>rfl)) (pv 2))) (A9 aE (by rfl) T.len wQ (AY (pv 3) af))) (fun _ _=>rfl))) (AV (AW (Bf (A7 bF (A5 aN (pv 1) ai (fun _ _=>rfl)) ai (aI _)) (pv 4) (Bg BG hr (by decide) rfl (AY (pv 4) af))))))),?_⟩
  refine ⟨_,rfl,_,rfl,x,_,_,_,rfl,rfl,SqT.of hp,rfl,a,_,_,_,rfl,rfl,SqT.of hW.at_,hat,?_⟩
  have cm:rb wy kk:=.inl ⟨by rcases BP with rfl | rfl <;> decide,by rcases BP with rfl | rfl <;> decide⟩
  refine ⟨_,rfl,_,rfl,x,_,_,_,rfl,rfl,SqT.of hp,rfl,_,rfl,x,_,_,_,rfl,rfl,SqT.of hp,rfl,_,rfl,_,_,rfl,rfl,cm,_,_,rfl,rfl,_,rfl,_,rfl,(by rw [ae];omega),_,_,rfl,rfl,(by rw [ae];omega),?_⟩
  rw [ae]
  refine ⟨_,_,_,rfl,rfl,(by rw [ae];omega),tM (by omega),?_⟩
  refine ⟨_,rfl,x,_,_,_,rfl,rfl,SqT.of hp,rfl,?_⟩
  refine ⟨rfl,_,rfl,?_⟩
  rcases BP with rfl | rfl
  ·refine i8 rfl ⟨_,rfl,?_⟩
   have:=k _ (aA.refl _)
   unfold sgZ at this
   rw [if_pos rfl] at this
   exact this
  ·refine i9 rfl ⟨_,rfl,[atZ v (s.2 + -1*kk)],rfl,(by show 1≤_;decide),fun H' s'=>?_⟩
   have:=k _ s'
   unfold sgZ at this
   rw [if_neg (by decide)] at this
   exact this
abbrev uO:Stmt:=top 6
theorem uP:aG ["surface","start","end"] ["surface","start","end"] (ak uO):=⟨rfl,rfl,rfl,by decide +kernel,rfl,by decide +kernel,by decide +kernel⟩
theorem vY (D:Df K mg "round_from" uO)(T:Bt K w mg aB):Fnc P w K mg base "round_from" ["surface","start","end"] 1 uI:=by
 have sc:=uP
 refine D.ok sc (fun _ _ _ _ _ _ us hl=>by obtain ⟨_,_,_,rfl⟩:=sJ hl;rfl) (fun vs H Q E h=>?_) (fun f Bx A outer s H vs Q E hr h=>?_)
 ·obtain ⟨u,k,a,b,rfl,_⟩:=h
  rfl
 ·obtain ⟨u,k,a,b,rfl,U,ha,hb,q⟩:=h
  have BL:=aX
  have hl:=U.len
  have h1:=U.lo
  have h6:=U.hi
  obtain ⟨r1,o1⟩:=i_ ha
  obtain ⟨r2,o2⟩:=i_ hb
  refine ⟨_,(AV (AW (A4 b_ (A4 eX (Ba w9 yq yr dg (pv 0) (AY (pv 2) af)) (Ba w9 yq yr dg (pv 0) (AY (pv 1) af))) (A9 aE (by rfl) T.len wQ (AY (pv 0) af))))),?_⟩
  refine ⟨_,rfl,rfl,_,rfl,_,_,_,r2,rfl,rfl,o2,_,rfl,rfl,_,rfl,_,_,_,r1,rfl,rfl,o1,_,_,rfl,rfl,_,rfl,_,rfl,(by rw [ae];omega),_,_,rfl,rfl,(by rw [ae];omega),?_⟩
  rw [ae]
  exact q
abbrev qc:Stmt:=top 17
theorem sQ:aG ["surface","start","end","other"] ["surface","start","end","other"] (ak qc):=⟨rfl,rfl,rfl,by decide +kernel,rfl,by decide +kernel,by decide +kernel⟩
def _root_.Bh {a b c d e f g h}:=@bO a b c d e f g h
theorem uQ (D:Df K mg "is_first" qc)(T:Bt K w mg aB)(F_rf:Fnc P w K mg base "round_from" ["surface","start","end"] 1 uI):Fnc P w K mg base "is_first" ["surface","start","end","other"] 2 pS:=by
 have sc:=sQ
 refine D.ok sc (fun _ _ _ _ _ _ us hl=>by obtain ⟨_,_,_,_,rfl⟩:=jU hl;rfl) (fun vs H Q E h=>?_) (fun f Bx A outer s H vs Q E hr h=>?_)
 ·obtain ⟨u,k,s,a,b,rfl,_⟩:=h
  rfl
 ·obtain ⟨u,kk,s,a,b,rfl,U,hs,ha,hb,k⟩:=h
  refine ⟨_,(AV (AW (Bh eV (Bg F_rf hr (by decide) rfl (AY (pv 0) (AY (pv 1) (AY (pv 2) af)))) (Bg F_rf hr (by decide) rfl (AY (pv 0) (AY (pv 1) (AY (pv 3) af)))) (aI _)))),?_⟩
  exact ⟨_,rfl,_,rfl,_,rfl,u,kk,s,a,rfl,U,hs,ha,_,rfl,_,rfl,_,rfl,u,kk,s,b,rfl,U,hs,hb,_,_,rfl,rfl,k _ (aA.refl _)⟩
abbrev uR:Stmt:=top 12
theorem uS:aG ["ways","strand","walk"] ["ways","strand"] (ak uR):=⟨rfl,rfl,rfl,by decide +kernel,rfl,by decide +kernel,by decide +kernel⟩
def _root_.Bi {a b c d e}:=@bj a b c d e
theorem vZ (D:Df K mg "chord_ends" uR)(T:Bt K w mg aB)(BG:Fnc P w K mg base "back" ["word"] 1 i7)(By:Fnc P w K mg base "met" ["ways","walk","step"] 2 gT):Fnc P w K mg base "chord_ends" ["ways","strand"] 3 uJ:=by
 have sc:=uS
 refine D.ok sc (fun _ _ _ _ _ _ us hl=>by obtain ⟨_,_,rfl⟩:=qJ hl;rfl) (fun vs H Q E h=>?_) (fun f Bx A outer s H vs Q E hr h=>?_)
 ·obtain ⟨a,x,n,W,s,rfl,_⟩:=h
  rfl
 ·obtain ⟨a,x,n,W,s,rfl,hW,hx,ok,k⟩:=h
  have BL:=aX
  refine ⟨_,(A3 (A8 (2) sc.nd rfl (Or.inl rfl) (Bi (AY (A5 aN (pv 1) ai (fun _ _=>rfl)) (AY (A5 aN (pv 1) ai (fun _ _=>rfl)) (AY ai af))))) (AV (AW (A4 aT (Bg BG hr (by decide) rfl (AY (Bg By hr (by decide) rfl (AY (pv 0) (AY (pv 2) (AY ai af)))) af)) (Bg By hr (by decide) rfl (AY (pv 0) (AY (pv 2) (AY ai af)))))))),?_⟩
  refine ⟨_,rfl,x,_,_,_,rfl,rfl,SqT.of hx,rfl,_,rfl,x,_,_,_,rfl,rfl,SqT.of hx,rfl,(cD (n:=3) (by decide)),fun p hp=>?_⟩
  have s1:aA H (upd H p (.tup [.int s.1,.int s.2,.int 1])):=aA.new hp
  have f1:(upd H p (.tup [.int s.1,.int s.2,.int 1])) p=some (.tup [.int s.1,.int s.2,.int 1]):=ag
  generalize upd H p (.tup [.int s.1,.int s.2,.int 1])=H1 at s1 f1 ⊢
  refine ⟨_,rfl,_,rfl,a,p,n,W,s,1,0,rfl,hW.same s1,f1,ok.1,ok.2.1,.inl rfl,fun H2 s2=>⟨[fZ W s 1 0],rfl,(by show 1≤_;decide),fun H3 s3=>?_⟩⟩
  have s13:=(s1.trans s2).trans s3
  refine ⟨_,rfl,_,rfl,a,p,n,W,s,1,1,rfl,hW.same s13,s3 _ _ (s2 _ _ f1),ok.1,ok.2.1,.inl rfl,fun H4 s4=>⟨_,_,rfl,rfl,(by rw [ae,ae,bS];show 1+1≤_;omega),?_⟩⟩
  rw [cv,cq]
  exact k _ (s13.trans s4)
abbrev qd:Stmt:=top 15
theorem sR:aG ["ways","one","other","many"] ["ways","one","other"] (ak qd):=⟨rfl,rfl,rfl,by decide +kernel,rfl,by decide +kernel,by decide +kernel⟩
theorem uT (D:Df K mg "stretch" qd)(T:Bt K w mg aB)(By:Fnc P w K mg base "met" ["ways","walk","step"] 2 gT):Fnc P w K mg base "stretch" ["ways","one","other"] 3 js:=by
 have sc:=sR
 refine D.ok sc (fun _ _ _ _ _ _ us hl=>by obtain ⟨_,_,_,rfl⟩:=sJ hl;rfl) (fun vs H Q E h=>?_) (fun f Bx A outer s H vs Q E hr h=>?_)
 ·obtain ⟨a,x,y,n,W,s,t,wy,rfl,_⟩:=h
  rfl
 ·obtain ⟨a,x,y,n,W,s,t,wy,rfl,hW,hx,hy,os,ot,BP,k⟩:=h
  have BL:=aX
  obtain ⟨_,_,Rw,lw30,lwp,_⟩:=hW.ok.get os.1 os.2.1
  obtain ⟨_,_,Rv,lv30,lvp,_⟩:=hW.ok.get ot.1 ot.2.1
  refine ⟨_,(A3 (A6 (A7 bF (Bg By hr (by decide) rfl (AY (pv 0) (AY (pv 1) (AY (Be cf ai) af)))) (Bg By hr (by decide) rfl (AY (pv 0) (AY (pv 2) (AY (Be cf ai) af)))) (aI _)) (AV (AW ai)) aY) (A3 (A8 (3) sc.nd rfl (Or.inl rfl) ai) (A3 (@fk _ _ _ _ _ _ xo (A7 bF (Bg By hr (by decide) rfl (AY (pv 0) (AY (pv 1) (AY (pv 3) af)))) (Bg By hr (by decide) rfl (AY (pv 0) (AY (pv 2) (AY (pv 3) af)))) (aI _)) (AV (@qV _ _ (3) _ _ _ _ _ _ sc.nd rfl (Or.inl rfl) ai qW (by first | exact .inl rfl | exact .inr rfl | assumption)))) (AV (AW (pv 3)))))),?_⟩
  refine ⟨_,rfl,_,rfl,_,rfl,a,x,n,W,s,1,-1,rfl,hW,hx,os.1,os.2.1,.inl rfl,fun H1 s1=>?_⟩
  refine ⟨_,rfl,_,rfl,_,rfl,a,y,n,W,t,wy,-1,rfl,hW.same s1,s1 _ _ hy,ot.1,ot.2.1,BP,fun H2 s2=>⟨rfl,_,rfl,?_⟩⟩
  have s12:=s1.trans s2
  rw [fc]
  by_cases e:fZ W s 1 (-1)=fZ W t wy (-1)
  ·rw [wF (by rw [e])]
   refine lH ?_
   have:=k _ s12
   rw [if_pos e] at this
   exact this
  ·rw [wm (fun z=>e (xM z).1)]
   refine fW ?_
   rw [if_neg e] at k
   obtain ⟨hend,B3⟩:=oG Rw.ne Rv.ne BP e
   obtain ⟨_,_,hal,_⟩:=dH (fZ W s 1) (fZ W t wy) ((wyZ W s.1).length+(wyZ W t.1).length) 0
   have B3:fZ W s 1 (nZ W s t wy)≠fZ W t wy (nZ W s t wy):=B3
   have hal:∀ j:Nat,0≤j→j < nZ W s t wy→fZ W s 1 j=fZ W t wy j:=hal
   refine ⟨fun m σ H'=>∃ i:Nat,σ = [some (.ref a),some (.ref x),some (.ref y),some (.int (i:Int))]∧i≤nZ W s t wy∧m=nZ W s t wy - i∧aA H H',⟨_,0,rfl,xv _,rfl,s12⟩,?_⟩
   rintro m σ H3 ⟨i,rfl,hi,rfl,s3⟩
   refine ⟨_,rfl,_,rfl,_,rfl,a,x,n,W,s,1,(i:Int),rfl,hW.same s3,s3 _ _ hx,os.1,os.2.1,.inl rfl,fun H4 s4=>?_⟩
   refine ⟨_,rfl,_,rfl,_,rfl,a,y,n,W,t,wy,(i:Int),rfl,hW.same (s3.trans s4),(s3.trans s4) _ _ hy,ot.1,ot.2.1,BP,fun H5 s5=>⟨rfl,_,rfl,?_⟩⟩
   have s35:=(s3.trans s4).trans s5
   rw [fc]
   by_cases c:i < nZ W s t wy
   ·refine gH (fun _=>?_) (fun z=>?_)
    ·refine ⟨_,fun σ' H' q=>q,?_⟩
     refine ⟨_,rfl,_,_,rfl,rfl,?_⟩
     exact ⟨_,Nat.sub_lt_sub_left c (yw i),i+1,(by rw [show (((i+1:Nat):Int))=(i:Int)+1 by omega];rfl),c,rfl,s35⟩
    ·rw [hal i (xv _) c] at z
     simp at z
   ·obtain rfl:i=nZ W s t wy:=by omega
    refine gH (fun z=>?_) (fun _=>?_)
    ·exact absurd (by simpa using z) B3
    ·exact ⟨_,rfl,k _ s35⟩
abbrev l6:Stmt:=top 16
theorem qe:aG ["surface","ways","one","other","many","end","ahead","begin"] ["surface","ways","one","other","many"] (ak l6):=⟨rfl,rfl,rfl,by decide +kernel,rfl,by decide +kernel,by decide +kernel⟩
theorem sS (D:Df K mg "is_parted" l6)(T:Bt K w mg aB)(BG:Fnc P w K mg base "back" ["word"] 1 i7)(By:Fnc P w K mg base "met" ["ways","walk","step"] 2 gT)(F_fst:Fnc P w K mg base "is_first" ["surface","start","end","other"] 2 pS):Fnc P w K mg base "is_parted" ["surface","ways","one","other","many"] 3 jt:=by
 have sc:=qe
 refine D.ok sc (fun _ _ _ _ _ _ us hl=>by obtain ⟨_,_,_,_,_,rfl⟩:=vo hl;rfl) (fun vs H Q E h=>?_) (fun f Bx A outer s H vs Q E hr h=>?_)
 ·obtain ⟨u,a,x,y,n,m,W,s,t,wy,rfl,_⟩:=h
  rfl
 ·obtain ⟨u,a,x,y,n,m,W,s,t,wy,rfl,U,hW,hx,hy,os,ot,BP,k⟩:=h
  have one:1≤100000:=by decide
  refine ⟨_,(A3 (A6 (A7 bF (pv 4) ai (aI _)) (AV (AW hU)) aY) (A3 (A8 (5) sc.nd rfl (Or.inl rfl) (Bg BG hr (by decide) rfl (AY (Bg By hr (by decide) rfl (AY (pv 1) (AY (pv 2) (AY (A4 eX (pv 4) ai) af)))) af))) (A3 (A8 (6) sc.nd rfl (Or.inl rfl) (Bg F_fst hr (by decide) rfl (AY (pv 0) (AY (pv 5) (AY (Bg By hr (by decide) rfl (AY (pv 1) (AY (pv 2) (AY (pv 4) af)))) (AY (Bg By hr (by decide) rfl (AY (pv 1) (AY (pv 3) (AY (pv 4) af)))) af)))))) (A3 (A8 (7) sc.nd rfl (Or.inl rfl) (Bg By hr (by decide) rfl (AY (pv 1) (AY (pv 2) (AY ai af))))) (AV (AW (Bh bF (pv 6) (Bg F_fst hr (by decide) rfl (AY (pv 0) (AY (pv 7) (AY (Bg BG hr (by decide) rfl (AY (Bg By hr (by decide) rfl (AY (pv 1) (AY (pv 2) (AY (Be cf ai) af)))) af)) (AY (Bg BG hr (by decide) rfl (AY (Bg By hr (by decide) rfl (AY (pv 1) (AY (pv 3) (AY (Be cf ai) af)))) af)) af))))) (aI _)))))))),?_⟩
  refine ⟨_,rfl,rfl,_,rfl,?_⟩
  by_cases e:m=0
  ·subst e
   exact lH (k _ (aA.refl _))
  ·have ez:decide (V.int (m:Int)=V.int 0)=false:=wm (fun z=>e (by injection z with z;omega))
   rw [ez]
   refine fW ?_
   have ws:=fun {H'} (q:aA H H')=>hW.same q
   refine ⟨_,rfl,_,rfl,_,rfl,_,_,rfl,rfl,a,x,n,W,s,1,_,rfl,hW,hx,os.1,os.2.1,.inl rfl,fun H1 s1=>?_⟩
   refine ⟨[fZ W s 1 ((m:Int) - 1)],rfl,(by show 1≤_;decide),fun H2 s2=>?_⟩
   rw [cq]
   have q2:=s1.trans s2
   refine ⟨_,rfl,_,rfl,_,rfl,_,rfl,_,rfl,a,x,n,W,s,1,_,rfl,ws q2,q2 _ _ hx,os.1,os.2.1,.inl rfl,fun H3 s3=>?_⟩
   have q3:=q2.trans s3
   refine ⟨_,rfl,_,rfl,_,rfl,a,y,n,W,t,wy,_,rfl,ws q3,q3 _ _ hy,ot.1,ot.2.1,BP,fun H4 s4=>?_⟩
   have q4:=q3.trans s4
   refine ⟨u,n,_,_,_,rfl,U,(dw U hW.ok os 1 _).2,(dw U hW.ok os 1 _).1,(dw U hW.ok ot wy _).1,fun H5 s5=>?_⟩
   have q5:=q4.trans s5
   refine ⟨_,rfl,_,rfl,a,x,n,W,s,1,_,rfl,ws q5,q5 _ _ hx,os.1,os.2.1,.inl rfl,fun H6 s6=>?_⟩
   have q6:=q5.trans s6
   refine ⟨_,rfl,_,rfl,_,rfl,_,rfl,_,rfl,_,rfl,a,x,n,W,s,1,_,rfl,ws q6,q6 _ _ hx,os.1,os.2.1,.inl rfl,fun H7 s7=>?_⟩
   refine ⟨[fZ W s 1 (-1)],rfl,(by show 1≤_;decide),fun H8 s8=>?_⟩
   rw [cq]
   have q8:=(q6.trans s7).trans s8
   refine ⟨_,rfl,_,rfl,_,rfl,a,y,n,W,t,wy,_,rfl,ws q8,q8 _ _ hy,ot.1,ot.2.1,BP,fun H9 s9=>?_⟩
   refine ⟨[fZ W t wy (-1)],rfl,(by show 1≤_;decide),fun H10 s10=>?_⟩
   rw [cq]
   have q10:=(q8.trans s9).trans s10
   refine ⟨u,n,_,_,_,rfl,U,(dw U hW.ok os 1 _).1,(dw U hW.ok os 1 _).2,(dw U hW.ok ot wy _).2,fun H11 s11=>?_⟩
   have:=k _ (q10.trans s11)
   unfold gf at this
   rw [wF (show 0 < m by omega),ym] at this
   refine ⟨rfl,?_⟩
   refine cast (wR (fun b=>Q (.bl b) H11) ?_) this
   exact pU _ _
abbrev qf:Stmt:=top 13
theorem sT:aG ["surface","ways","one","other","mine","theirs","many"] ["surface","ways","one","other"] (ak qf):=⟨rfl,rfl,rfl,by decide +kernel,rfl,by decide +kernel,by decide +kernel⟩
def _root_.Bj {a b c d e}:=@eU a b c d e
theorem uU (D:Df K mg "along_at" qf)(T:Bt K w mg aB)(B5:Fnc P w K mg base "stretch" ["ways","one","other"] 3 js)(BO:Fnc P w K mg base "is_parted" ["surface","ways","one","other","many"] 3 jt):Fnc P w K mg base "along_at" ["surface","ways","one","other"] 4 (lK pT):=by
 have sc:=sT
 refine D.ok sc (fun _ _ _ _ _ _ us hl=>by obtain ⟨_,_,_,_,rfl⟩:=jU hl;rfl) (fun vs H Q E h=>?_) (fun f Bx A outer s H vs Q E hr h=>?_)
 ·obtain ⟨u,a,x,y,n,W,s,t,rfl,_⟩:=h
  rfl
 ·obtain ⟨u,a,x,y,n,W,s,t,rfl,U,hW,hx,hy,os,ot,k⟩:=h
  refine ⟨_,(A3 (A8 (4) sc.nd rfl (Or.inl rfl) (Bi (AY (A5 aN (pv 2) ai (fun _ _=>rfl)) (AY (A5 aN (pv 2) ai (fun _ _=>rfl)) (AY ai af))))) (A3 (A8 (5) sc.nd rfl (Or.inl rfl) (Bi (AY (A5 aN (pv 3) ai (fun _ _=>rfl)) (AY (A5 aN (pv 3) ai (fun _ _=>rfl)) (AY ai af))))) (A3 (A8 (6) sc.nd rfl (Or.inl rfl) (Bg B5 hr (by decide) rfl (AY (pv 1) (AY (pv 4) (AY (pv 5) af))))) (AV (AW (Bf (@cH _ _ _ (Bg BO hr (by decide) rfl (Bj (pv 0) (Bj (pv 1) (Bj (pv 4) (Bj (pv 5) (Bj (pv 6) af)))))) (fun _=>rfl)) (AX (AY (Bi (AY bp (AY (pv 2) (AY (pv 3) (AY (pv 6) af))))) af)) (AX af))))))),?_⟩
  refine ⟨_,rfl,x,_,_,_,rfl,rfl,SqT.of hx,rfl,_,rfl,x,_,_,_,rfl,rfl,SqT.of hx,rfl,(by show 3≤_;decide),fun p hp=>?_⟩
  have s1:aA H (upd H p (.tup [.int s.1,.int s.2,.int 1])):=aA.new hp
  have f1:(upd H p (.tup [.int s.1,.int s.2,.int 1])) p=some (.tup [.int s.1,.int s.2,.int 1]):=ag
  generalize upd H p (.tup [.int s.1,.int s.2,.int 1])=H1 at s1 f1 ⊢
  refine ⟨_,rfl,y,_,_,_,rfl,rfl,SqT.of (s1 _ _ hy),rfl,_,rfl,y,_,_,_,rfl,rfl,SqT.of (s1 _ _ hy),rfl,(by show 3≤_;decide),fun q hq=>?_⟩
  have s2:aA H1 (upd H1 q (.tup [.int t.1,.int t.2,.int 1])):=aA.new hq
  have f2:(upd H1 q (.tup [.int t.1,.int t.2,.int 1])) q=some (.tup [.int t.1,.int t.2,.int 1]):=ag
  generalize upd H1 q (.tup [.int t.1,.int t.2,.int 1])=H2 at s2 f2 ⊢
  have q2:=s1.trans s2
  refine ⟨_,rfl,_,rfl,_,rfl,a,p,q,n,W,s,t,1,rfl,hW.same q2,s2 _ _ f1,f2,os,ot,.inl rfl,fun H3 s3=>?_⟩
  have q3:=q2.trans s3
  refine ⟨_,rfl,_,rfl,_,rfl,_,rfl,_,rfl,u,a,p,q,n,_,W,s,t,1,rfl,U,hW.same q3,s3 _ _ (s2 _ _ f1),s3 _ _ f2,os,ot,.inl rfl,fun H4 s4=>⟨_,rfl,?_⟩⟩
  rw [jv hW.ok os ot (.inl rfl)]
  have q4:=q3.trans s4
  by_cases c:ptB u (fZ W s 1) (fZ W t 1) (nZ W s t 1)=true
  ·have hb:¬ fZ W s 1 (-1)=fZ W t 1 (-1):=fun z=>by rw [dY z] at c;cases c
   rw [c,if_neg hb]
   refine tK ⟨_,rfl,_,rfl,_,rfl,(by show 4≤_;decide),fun r hr'=>⟨(by show 1≤_;decide),fun l hl=>?_⟩⟩
   refine iE (m:=.a s t (nZ W s t 1)) q4 hr' hl ⟨x,y,ag,(q4.trans (aA.new hr')) _ _ hx,(q4.trans (aA.new hr')) _ _ hy⟩ k ?_
   unfold pT
   rw [c]
   rfl
  ·rw [xZ] at c
   rw [c]
   refine tL ⟨(by show 0≤_;decide),fun l hl=>?_⟩
   refine gU q4 hl k ?_
   unfold pT
   rw [c]
   rfl
abbrev qg:Stmt:=top 14
theorem sU:aG ["surface","ways","one","other","mine","theirs","many"] ["surface","ways","one","other"] (ak qg):=⟨rfl,rfl,rfl,by decide +kernel,rfl,by decide +kernel,by decide +kernel⟩
theorem uV (D:Df K mg "against_at" qg)(T:Bt K w mg aB)(B5:Fnc P w K mg base "stretch" ["ways","one","other"] 3 js)(BO:Fnc P w K mg base "is_parted" ["surface","ways","one","other","many"] 3 jt):Fnc P w K mg base "against_at" ["surface","ways","one","other"] 4 (lK fi):=by
 have sc:=sU
 refine D.ok sc (fun _ _ _ _ _ _ us hl=>by obtain ⟨_,_,_,_,rfl⟩:=jU hl;rfl) (fun vs H Q E h=>?_) (fun f Bx A outer s H vs Q E hr h=>?_)
 ·obtain ⟨u,a,x,y,n,W,s,t,rfl,_⟩:=h
  rfl
 ·obtain ⟨u,a,x,y,n,W,s,t,rfl,U,hW,hx,hy,os,ot,k⟩:=h
  have BL:=aX
  obtain ⟨_,hat,_,l30,lp,_⟩:=hW.ok.get ot.1 ot.2.1
  refine ⟨_,(A3 (A8 (4) sc.nd rfl (Or.inl rfl) (Bi (AY (A5 aN (pv 2) ai (fun _ _=>rfl)) (AY (A5 aN (pv 2) ai (fun _ _=>rfl)) (AY ai af))))) (A3 (A8 (5) sc.nd rfl (Or.inl rfl) (Bi (AY (A5 aN (pv 3) ai (fun _ _=>rfl)) (AY (A5 aN (pv 3) ai (fun _ _=>rfl)) (AY (Be cf ai) af))))) (A3 (A8 (6) sc.nd rfl (Or.inl rfl) (Bg B5 hr (by decide) rfl (AY (pv 1) (AY (pv 4) (AY (pv 5) af))))) (A3 (A6 (A7 (@su _ (K) rfl (by exact hr.units)) (pv 2) (Bi (AY (A5 aN (pv 3) ai (fun _ _=>rfl)) (AY (A4 b_ (A4 br (A4 eX (A5 aN (pv 3) ai (fun _ _=>rfl)) (pv 6)) ai) (A9 aE (by rfl) T.len wQ (AY (A5 aN (pv 1) (A5 aN (pv 3) ai (fun _ _=>rfl)) (fun _ _=>rfl)) af))) af))) (aI _)) (AV (AW (AX af))) aY) (AV (AW (Bf (@cH _ _ _ (Bg BO hr (by decide) rfl (Bj (pv 0) (Bj (pv 1) (Bj (pv 4) (Bj (pv 5) (Bj (pv 6) af)))))) (fun _=>rfl)) (AX (AY (Bi (AY bp (AY (pv 2) (AY (pv 3) (AY (pv 6) af))))) af)) (AX af)))))))),?_⟩
  refine ⟨_,rfl,x,_,_,_,rfl,rfl,SqT.of hx,rfl,_,rfl,x,_,_,_,rfl,rfl,SqT.of hx,rfl,(by show 3≤_;decide),fun p hp=>?_⟩
  have s1:aA H (upd H p (.tup [.int s.1,.int s.2,.int 1])):=aA.new hp
  have f1:(upd H p (.tup [.int s.1,.int s.2,.int 1])) p=some (.tup [.int s.1,.int s.2,.int 1]):=ag
  generalize upd H p (.tup [.int s.1,.int s.2,.int 1])=H1 at s1 f1 ⊢
  refine ⟨_,rfl,y,_,_,_,rfl,rfl,SqT.of (s1 _ _ hy),rfl,_,rfl,y,_,_,_,rfl,rfl,SqT.of (s1 _ _ hy),rfl,_,rfl,(by show 3≤_;decide),fun q hq=>?_⟩
  have s2:aA H1 (upd H1 q (.tup [.int t.1,.int t.2,.int (-1)])):=aA.new hq
  have f2:(upd H1 q (.tup [.int t.1,.int t.2,.int (-1)])) q=some (.tup [.int t.1,.int t.2,.int (-1)]):=ag
  generalize upd H1 q (.tup [.int t.1,.int t.2,.int (-1)])=H2 at s2 f2 ⊢
  have q2:=s1.trans s2
  refine ⟨_,rfl,_,rfl,_,rfl,a,p,q,n,W,s,t,-1,rfl,hW.same q2,s2 _ _ f1,f2,os,ot,.inr rfl,fun H3 s3=>?_⟩
  have q3:=q2.trans s3
  have hy3:=q3 _ _ hy
  generalize hm:(if fZ W s 1 (-1)=fZ W t (-1) (-1) then 0 else nZ W s t (-1))=m
  refine ⟨_,rfl,_,rfl,y,_,_,_,rfl,rfl,SqT.of hy3,rfl,_,rfl,y,_,_,_,rfl,rfl,SqT.of hy3,rfl,_,rfl,_,_,rfl,rfl,_,_,rfl,rfl,_,rfl,_,rfl,y,_,_,_,rfl,rfl,SqT.of hy3,rfl,?_⟩
  refine ⟨a,_,_,_,rfl,rfl,SqT.of (q3 _ _ hW.at_),hat,_,rfl,(by rw [ae];omega),_,_,rfl,rfl,(by rw [ae];omega),(by show 2≤_;decide),fun r hr'=>?_⟩
  rw [ae]
  have s4:aA H3 (upd H3 r (.tup [.int t.1,.int ((t.2 - (m:Int)+1) % ((wyZ W t.1).length:Int))])):=aA.new hr'
  have f4:(upd H3 r (.tup [.int t.1,.int ((t.2 - (m:Int)+1) % ((wyZ W t.1).length:Int))])) r=some (.tup [.int t.1,.int ((t.2 - (m:Int)+1) % ((wyZ W t.1).length:Int))]):=ag
  generalize upd H3 r (.tup [.int t.1,.int ((t.2 - (m:Int)+1) % ((wyZ W t.1).length:Int))])=H4 at s4 f4 ⊢
  have q4:=q3.trans s4
  refine ⟨x,r,[s.1,s.2],[t.1,(t.2 - (m:Int)+1) % ((wyZ W t.1).length:Int)],rfl,rfl,SqT.of (q4 _ _ hx),SqT.of f4,_,rfl,?_⟩
  have he:fi u W s t=if ltP (jQ W s t m) s then [] else if gf u (fZ W s 1) (fZ W t (-1)) m then [Lk.g s t m] else []:=by
   rw [← hm]
   by_cases e:fZ W s 1 (-1)=fZ W t (-1) (-1)
   ·rw [if_pos e,oI]
    unfold fi
    rw [dY e,yA,if_neg (by decide)]
    split <;> rfl
   ·rw [← nG hW.ok os ot e,jv hW.ok os ot (.inr rfl),if_neg e]
  show cj _ _ _ _ (ltP (jQ W s t m) s) _
  by_cases c:ltP (jQ W s t m) s=true
  ·rw [c]
   rw [c] at he
   exact lH ⟨(by show 0≤_;decide),fun l hl=>gU q4 hl k he⟩
  ·rw [xZ] at c
   rw [c]
   rw [c] at he
   refine fW ?_
   refine ⟨_,rfl,_,rfl,_,rfl,_,rfl,_,rfl,u,a,p,q,n,_,W,s,t,-1,rfl,U,hW.same q4,s4 _ _ (s3 _ _ (s2 _ _ f1)),s4 _ _ (s3 _ _ f2),os,ot,.inr rfl,fun H5 s5=>⟨_,rfl,?_⟩⟩
   have q5:=q4.trans s5
   by_cases c2:gf u (fZ W s 1) (fZ W t (-1)) m=true
   ·rw [c2]
    rw [c2] at he
    refine tK ⟨_,rfl,_,rfl,_,rfl,(by show 4≤_;decide),fun r hr'=>⟨(by show 1≤_;decide),fun l hl=>?_⟩⟩
    exact iE (m:=.g s t m) q5 hr' hl ⟨x,y,ag,(q5.trans (aA.new hr')) _ _ hx,(q5.trans (aA.new hr')) _ _ hy⟩ k he
   ·rw [xZ] at c2
    rw [c2]
    rw [c2] at he
    exact tL ⟨(by show 0≤_;decide),fun l hl=>gU q5 hl k he⟩
theorem oN {u:List L}{a b c:L}(ha:a∈u)(hb:b∈u)(hc:c∈u)(ab:a≠b)(ac:a≠c)(bc:b≠c):decide (rfI u a c < rfI u a b)=(decide (min (u.idxOf a) (u.idxOf b) < u.idxOf c∧u.idxOf c < max (u.idxOf a) (u.idxOf b)) != decide (u.idxOf b < u.idxOf a)):=by
 have inj:∀ {x y:L},x∈u→y∈u→x≠y→u.idxOf x≠u.idxOf y:=fun hx hy n e=>n (by
  have h1:=zk (dh hx)
  have h2:=zk (dh hy)
  rw [← h1,← h2]
  simp only [e])
 have n1:=inj ha hb ab
 have n2:=inj ha hc ac
 have n3:=inj hb hc bc
 have l1:=dh ha
 have l2:=dh hb
 have l3:=dh hc
 rw [oy ha hc,oy ha hb]
 by_cases o:u.idxOf b < u.idxOf a
 ·rw [wF o,if_neg (show ¬ u.idxOf a≤u.idxOf b by omega),xh,wz]
  rw [show ∀ x:Bool,(x != true)=!x by decide,Bool.not_eq_true',Aq]
  split <;> omega
 ·rw [wm o,if_pos (show u.idxOf a≤u.idxOf b by omega),Bool.bne_false,xh,wz,wz]
  split <;> omega
theorem nJ {u:List L}{a b c d:L}(ha:a∈u)(hb:b∈u)(hc:c∈u)(hd:d∈u)(h:[a,b,c,d].Nodup):dI u a b c d=(decide (min (u.idxOf a) (u.idxOf b) < u.idxOf c∧u.idxOf c < max (u.idxOf a) (u.idxOf b)) != decide (min (u.idxOf a) (u.idxOf b) < u.idxOf d∧u.idxOf d < max (u.idxOf a) (u.idxOf b))):=by
 unfold dI
 rw [wF h,ym]
 simp only [xW,wH,wZ,yg,Ab,zB,AM,not_or] at h
 obtain ⟨⟨e1,e2,e3⟩,⟨e4,e5⟩,e6⟩:=h
 rw [oN ha hb hc e1 e2 e4,oN ha hb hd e1 e3 e5]
 generalize decide (u.idxOf b < u.idxOf a)=z
 exact (show ∀ x y z:Bool,((x != z) != (y != z))=(x != y) by decide) _ _ _
inductive qh (vs:List V)(H:Hp)(Q:VK)(BC:XK):Prop
 | mk:∀ (p q:Addr) (a b c d:Nat),(vs=[.ref p,.ref q])→H p=some (.lst [.int a,.int b])→H q=some (.lst [.int c,.int d])→Q (.bl (decide (min a b < c∧c < max a b) != decide (min a b < d∧d < max a b))) H→qh vs H Q BC
abbrev qi:Stmt:=top 7
theorem sV:aG ["one","other","low","high"] ["one","other"] (ak qi):=⟨rfl,rfl,rfl,by decide +kernel,rfl,by decide +kernel,by decide +kernel⟩
theorem uW (D:Df K mg "are_met_by_turns" qi)(T:Bt K w mg aB):Fnc P w K mg base "are_met_by_turns" ["one","other"] 1 qh:=by
 have sc:=sV
 refine D.ok sc (fun _ _ _ _ _ _ us hl=>by obtain ⟨_,_,rfl⟩:=qJ hl;rfl) (fun vs H Q E h=>?_) (fun f Bx A outer s H vs Q E hr h=>?_)
 ·obtain ⟨p,q,a,b,c,d,rfl,_⟩:=h
  rfl
 ·obtain ⟨p,q,a,b,c,d,rfl,hp,hq,k⟩:=h
  have BL:=aX
  refine ⟨_,(A3 (A8 (2) sc.nd rfl (Or.inl rfl) (A9 (@iy _ rfl) (by rfl) T.min uu (AY (pv 0) af))) (A3 (A8 (3) sc.nd rfl (Or.inl rfl) (A9 (@iz _ rfl) (by rfl) T.max ur (AY (pv 0) af))) (AV (AW (Bh kf (@iX _ _ _ _ _ _ _ _ _ _ _ _ eV eV (pv 2) (A5 aJ (pv 1) ai (fun _ _=>rfl)) (pv 3) (by with_unfolding_all rfl)) (@iX _ _ _ _ _ _ _ _ _ _ _ _ eV eV (pv 2) (A5 aJ (pv 1) ai (fun _ _=>rfl)) (pv 3) (by with_unfolding_all rfl)) (aI _)))))),?_⟩
  refine ⟨_,rfl,p,_,_,rfl,SqL.of hp,?_⟩
  refine ⟨_,rfl,p,_,_,rfl,SqL.of hp,?_⟩
  have e1:(if (b:Int) < (a:Int) then (b:Int) else (a:Int))=((min a b:Nat):Int):=by split <;> omega
  have e2:(if (b:Int) > (a:Int) then (b:Int) else (a:Int))=((max a b:Nat):Int):=by split <;> omega
  rw [e1,e2]
  have fin:∀ v1 v2:Bool,v1=decide (min a b < c∧c < max a b)→v2=decide (min a b < d∧d < max a b)→Q (.bl (!decide (V.bl v1=V.bl v2))) H:=fun v1 v2 e1 e2=>by
   subst e1 e2
   have e:∀ x y:Bool,(!decide (V.bl x=V.bl y))=(x != y):=by intro x y;cases x <;> cases y <;> rfl
   rw [e]
   exact k
  refine ⟨_,rfl,_,rfl,q,_,_,_,rfl,rfl,SqL.of hq,rfl,_,_,rfl,rfl,_,rfl,?_⟩
  by_cases h1:min a b < c
  ·refine i8 (wF (by omega)) ⟨_,rfl,_,_,rfl,rfl,?_⟩
   refine ⟨_,rfl,_,rfl,q,_,_,_,rfl,rfl,SqL.of hq,rfl,_,_,rfl,rfl,_,rfl,?_⟩
   by_cases h2:min a b < d
   ·exact i8 (wF (by omega)) ⟨_,rfl,_,_,rfl,rfl,rfl,fin _ _ (by rw [xh,wz,wz];omega) (by rw [xh,wz,wz];omega)⟩
   ·exact i9 (wm (by omega)) ⟨rfl,fin _ _ (by rw [xh,wz,wz];omega) (wm (by omega)).symm⟩
  ·refine i9 (wm (by omega)) ?_
   refine ⟨_,rfl,_,rfl,q,_,_,_,rfl,rfl,SqL.of hq,rfl,_,_,rfl,rfl,_,rfl,?_⟩
   by_cases h2:min a b < d
   ·exact i8 (wF (by omega)) ⟨_,rfl,_,_,rfl,rfl,rfl,fin _ _ (wm (by omega)).symm (by rw [xh,wz,wz];omega)⟩
   ·exact i9 (wm (by omega)) ⟨rfl,fin _ _ (wm (by omega)).symm (wm (by omega)).symm⟩
abbrev qj:Stmt:=top 11
theorem sW:aG ["surface","ways","one","other","mine","theirs","places"] ["surface","ways","one","other"] (ak qj):=⟨rfl,rfl,rfl,by decide +kernel,rfl,by decide +kernel,by decide +kernel⟩
theorem uX (D:Df K mg "beside_at" qj)(T:Bt K w mg aB)(Tset:mg "set" = none)(F_ce:Fnc P w K mg base "chord_ends" ["ways","strand"] 3 uJ)(F_met:Fnc P w K mg base "are_met_by_turns" ["one","other"] 1 qh):Fnc P w K mg base "beside_at" ["surface","ways","one","other"] 4 (lK sC):=by
 have sc:=sW
 refine D.ok sc (fun _ _ _ _ _ _ us hl=>by obtain ⟨_,_,_,_,rfl⟩:=jU hl;rfl) (fun vs H Q E h=>?_) (fun f Bx A outer s H vs Q E hr h=>?_)
 ·obtain ⟨u,a,x,y,n,W,s,t,rfl,_⟩:=h
  rfl
 ·obtain ⟨u,a,x,y,n,W,s,t,rfl,U,hW,hx,hy,os,ot,k⟩:=h
  have BL:=aX
  have m1:=(dw U hW.ok os 1 0).2
  have m2:=(dw U hW.ok os 1 1).1
  have m3:=(dw U hW.ok ot 1 0).2
  have m4:=(dw U hW.ok ot 1 1).1
  have k:∀ (l:Addr) (zs:List (Addr × Lk)) (H':Hp),H l=none→aA H H'→H' l=some (.lst ((zs.map (·.1)).map V.ref))→LkA H' zs→zs.map (·.2)=(if dI u (inv (fZ W s 1 0)) (fZ W s 1 1) (inv (fZ W t 1 0)) (fZ W t 1 1) then [.b s t] else [])→Q (.ref l) H':=k
  refine ⟨_,(A3 (A8 (4) sc.nd rfl (Or.inl rfl) (Bg F_ce hr (by decide) rfl (AY (pv 1) (AY (pv 2) af)))) (A3 (A8 (5) sc.nd rfl (Or.inl rfl) (Bg F_ce hr (by decide) rfl (AY (pv 1) (AY (pv 3) af)))) (A3 (A6 (A7 eV (A9 eM (by rfl) T.len wQ (AY (AZ (@fV _ rfl) (by rfl) Tset sv (AY (A4 aT (pv 4) (pv 5)) af)) af)) ai (aI _)) (AV (AW (AX af))) aY) (A3 (@ij _ (6) _ _ _ _ _ _ _ _ _ (["end","surface"]) (["end"]) ([0]) _ _ _ _ sc.nd rfl (Or.inl rfl) (Bc rfl (by kernel_rfl)) rfl (@gI _ _ _ _ (A4 aT (pv 4) (pv 5))) (fun _ _ _ _=>Bd (0) (show (["end","surface"]:List Str).Nodup from by decide +kernel) rfl (Or.inl rfl)) (fun _ _ _ _=>cJ) (fun _ _ _ _=>by (exact (@rN _ _ _ _ _ _ _ _ _ _ _ _ (K) rfl w9 yq yr dg (pv 1) (AY (pv 0) af) (by rfl) (by rfl) (by rfl) (by rfl) (by rfl)))) (by intro _ ;rfl) (by rfl) (by first | exact .inl rfl | exact .inr rfl | assumption)) (AV (AW (Bf (@cH _ _ _ (Bg F_met hr (by decide) rfl (AY (A0 eB (pv 6) aV (A2 ai)) (AY (A0 eB (pv 6) (A2 ai) aV) af))) (fun _=>rfl)) (AX (AY (Bi (AY bp (AY (pv 2) (AY (pv 3) af)))) af)) (AX af)))))))),?_⟩
  refine ⟨_,rfl,_,rfl,a,x,n,W,s,rfl,hW,hx,os,fun H1 s1=>?_⟩
  refine ⟨_,rfl,_,rfl,a,y,n,W,t,rfl,hW.same s1,s1 _ _ hy,ot,fun H2 s2=>?_⟩
  have q2:=s1.trans s2
  generalize inv (fZ W s 1 0)=e1 at m1 k ⊢
  generalize fZ W s 1 1=e2 at m2 k ⊢
  generalize inv (fZ W t 1 0)=e3 at m3 k ⊢
  generalize fZ W t 1 1=e4 at m4 k ⊢
  refine ⟨_,rfl,_,rfl,_,_,rfl,rfl,(by rw [ae,ae];show 2+2≤_;omega),?_⟩
  rw [cv]
  refine ⟨[e1,e2,e3,e4],rfl,(by show 4≤4000;decide),fun p dl hp nd hm=>?_⟩
  refine ⟨p,dl,rfl,ag,_,_,rfl,rfl,_,rfl,?_⟩
  rw [vn nd hm]
  generalize hG:upd H2 p (StO _ _ p dl)=H3
  have q3:aA H H3:=hG ▸ q2.trans (aA.new hp)
  by_cases c:[e1,e2,e3,e4].Nodup
  ·rw [wF c]
   refine fW ?_
   have hall:∀ x∈[e1,e2,e3,e4],x∈u:=fun x hx=>by
    simp only [wH,wZ,yg] at hx
    rcases hx with rfl | rfl | rfl | rfl <;> assumption
   have k4:=nJ m1 m2 m3 m4 c
   refine ⟨_,rfl,_,rfl,_,_,rfl,rfl,(by rw [ae,ae];show 2+2≤_;omega),?_⟩
   rw [cv]
   refine ⟨_,rfl,?_⟩
   refine bY (own:=["end"]) (cap:=[0]) (J:=Its (toS [e1,e2,e3,e4])) 4 (fun i ys σ H'=>∃ v:Option V,σ = [v,some (tx u)]∧ys=(([e1,e2,e3,e4].take i).map fun x=>V.int (u.idxOf x:Nat))∧H'=H3) ⟨none,rfl,rfl,rfl⟩ (fun i ys σ H' hi ⟨v,_,e,_⟩=>?_) (by omega) (fun i ys σ H' hi _=>?_) (fun ys σ H' _=>?_) ?_ ?_
   ·rw [e,wq,wD];omega
   ·show i < (toS _).cps.size;rw [bh];exact hi
   ·show _=(toS _).cps.size;rw [bh];rfl
   ·rintro i ys σ H4 y H5 N hi ⟨v,rfl,rfl,rfl⟩ ⟨rfl,cc,hcc,rfl⟩ hN
    obtain ⟨z,hz,ez⟩:=c5 hcc
    rw [ez]
    obtain ⟨r1,o1⟩:=i_ (hall z (xt hz))
    refine ⟨_,rfl,rfl,_,rfl,_,_,_,r1,rfl,rfl,o1,hN _ _ _ ⟨_,rfl,?_,rfl⟩⟩
    rw [cw hz,xr]
    rfl
   ·rintro ys σ H4 l ⟨v,rfl,rfl,rfl⟩ hl
    show dC _ _ _ _ (upd H4 l (.lst [.int (u.idxOf e1:Nat),.int (u.idxOf e2:Nat),.int (u.idxOf e3:Nat),.int (u.idxOf e4:Nat)]))
    have s4:aA H4 (upd H4 l (.lst [.int (u.idxOf e1:Nat),.int (u.idxOf e2:Nat),.int (u.idxOf e3:Nat),.int (u.idxOf e4:Nat)])):=aA.new hl
    have f4:(upd H4 l (.lst [.int (u.idxOf e1:Nat),.int (u.idxOf e2:Nat),.int (u.idxOf e3:Nat),.int (u.idxOf e4:Nat)])) l=some (.lst [.int (u.idxOf e1:Nat),.int (u.idxOf e2:Nat),.int (u.idxOf e3:Nat),.int (u.idxOf e4:Nat)]):=ag
    generalize upd H4 l (.lst [.int (u.idxOf e1:Nat),.int (u.idxOf e2:Nat),.int (u.idxOf e3:Nat),.int (u.idxOf e4:Nat)])=H5 at s4 f4 ⊢
    refine ⟨_,rfl,_,rfl,l,_,rfl,SqL.of f4,fun p1 hp1=>?_⟩
    have s5:=aA.new (o:=.lst (g_ [.int (u.idxOf e1:Nat),.int (u.idxOf e2:Nat),.int (u.idxOf e3:Nat),.int (u.idxOf e4:Nat)] none (some 2))) hp1
    have f5:(upd H5 p1 (.lst (g_ [.int (u.idxOf e1:Nat),.int (u.idxOf e2:Nat),.int (u.idxOf e3:Nat),.int (u.idxOf e4:Nat)] none (some 2)))) p1=some (.lst [.int (u.idxOf e1:Nat),.int (u.idxOf e2:Nat)]):=ag
    generalize upd H5 p1 (.lst (g_ [.int (u.idxOf e1:Nat),.int (u.idxOf e2:Nat),.int (u.idxOf e3:Nat),.int (u.idxOf e4:Nat)] none (some 2)))=H6 at s5 f5 ⊢
    refine ⟨_,rfl,_,rfl,l,_,rfl,SqL.of (s5 _ _ f4),fun p2 hp2=>?_⟩
    have s6:=aA.new (o:=.lst (g_ [.int (u.idxOf e1:Nat),.int (u.idxOf e2:Nat),.int (u.idxOf e3:Nat),.int (u.idxOf e4:Nat)] (some 2) none)) hp2
    have f6:(upd H6 p2 (.lst (g_ [.int (u.idxOf e1:Nat),.int (u.idxOf e2:Nat),.int (u.idxOf e3:Nat),.int (u.idxOf e4:Nat)] (some 2) none))) p2=some (.lst [.int (u.idxOf e3:Nat),.int (u.idxOf e4:Nat)]):=ag
    generalize upd H6 p2 (.lst (g_ [.int (u.idxOf e1:Nat),.int (u.idxOf e2:Nat),.int (u.idxOf e3:Nat),.int (u.idxOf e4:Nat)] (some 2) none))=H7 at s6 f6 ⊢
    refine ⟨p1,p2,_,_,_,_,rfl,s6 _ _ f5,f6,_,rfl,?_⟩
    rw [← k4]
    have q7:=((q3.trans s4).trans s5).trans s6
    by_cases c2:dI u e1 e2 e3 e4=true
    ·rw [c2]
     rw [c2] at k
     refine tK ⟨_,rfl,_,rfl,(by show 3≤_;decide),fun r hr'=>⟨(by show 1≤_;decide),fun l hl=>?_⟩⟩
     exact iE (m:=.b s t) q7 hr' hl ⟨x,y,ag,(q7.trans (aA.new hr')) _ _ hx,(q7.trans (aA.new hr')) _ _ hy⟩ k rfl
    ·rw [xZ] at c2
     rw [c2]
     rw [c2] at k
     exact tL ⟨(by show 0≤_;decide),fun l hl=>gU q7 hl k rfl⟩
  ·rw [wm c]
   refine lH ⟨(by show 0≤_;decide),fun l hl=>gU q3 hl k ?_⟩
   unfold dI
   rw [wm c]
   rfl
abbrev qk:Stmt:=top 10
theorem sX:aG ["surface","ways","one","other","told"] ["surface","ways","one","other"] (ak qk):=⟨rfl,rfl,rfl,by decide +kernel,rfl,by decide +kernel,by decide +kernel⟩
def _root_.Bk {a b c d}:=@bx a b c d
theorem uY (D:Df K mg "links_at" qk)(T:Bt K w mg aB)(F_agn:Fnc P w K mg base "against_at" ["surface","ways","one","other"] 4 (lK fi))(F_alg:Fnc P w K mg base "along_at" ["surface","ways","one","other"] 4 (lK pT))(F_bes:Fnc P w K mg base "beside_at" ["surface","ways","one","other"] 4 (lK sC)):Fnc P w K mg base "links_at" ["surface","ways","one","other"] 5 (lK qH):=by
 have sc:=sX
 refine D.ok sc (fun _ _ _ _ _ _ us hl=>by obtain ⟨_,_,_,_,rfl⟩:=jU hl;rfl) (fun vs H Q E h=>?_) (fun f Bx A outer s H vs Q E hr h=>?_)
 ·obtain ⟨u,a,x,y,n,W,s,t,rfl,_⟩:=h
  rfl
 ·obtain ⟨u,a,x,y,n,W,s,t,rfl,U,hW,hx,hy,os,ot,k⟩:=h
  have BL:=aX
  refine ⟨_,(A3 (A8 (4) sc.nd rfl (Or.inl rfl) (Bg F_agn hr (by decide) rfl (AY (pv 0) (AY (pv 1) (AY (pv 2) (AY (pv 3) af)))))) (A3 (A6 (A7 (iA (K:=K) rfl (by exact lt0 hr.units)) (pv 2) (pv 3) (aI _)) (A3 (Bk (Ba xg yI yJ c9 (pv 4) (AY (Bg F_alg hr (by decide) rfl (AY (pv 0) (AY (pv 1) (AY (pv 2) (AY (pv 3) af))))) af))) (AV (Bk (Ba xg yI yJ c9 (pv 4) (AY (Bg F_bes hr (by decide) rfl (AY (pv 0) (AY (pv 1) (AY (pv 2) (AY (pv 3) af))))) af))))) aY) (AV (AW (pv 4))))),?_⟩
  refine ⟨_,rfl,_,rfl,_,rfl,_,rfl,u,a,x,y,n,W,s,t,rfl,U,hW,hx,hy,os,ot,fun l1 z1 H1 n1 s1 f1 k1 e1=>?_⟩
  refine ⟨_,rfl,_,rfl,x,y,[s.1,s.2],[t.1,t.2],rfl,rfl,SqT.of (s1 _ _ hx),SqT.of (s1 _ _ hy),_,rfl,?_⟩
  show cj _ _ _ _ (ltP s t) _
  by_cases c:ltP s t=true
  ·rw [c]
   refine lH ?_
   have len:∀ {zs:List (Addr × Lk)} {r:List Lk} {m:Nat},zs.map (·.2)=r→r.length≤m→zs.length≤m:=fun e h=>by rw [← e,wq] at h;exact h
   have la1:z1.length≤1:=len e1 (by unfold fi;split <;> simp)
   refine ⟨_,rfl,.inl ⟨rfl,_,SqL.of f1⟩,_,rfl,_,rfl,_,rfl,_,rfl,u,a,x,y,n,W,s,t,rfl,U,hW.same s1,s1 _ _ hx,s1 _ _ hy,os,ot,fun l2 z2 H2 n2 s2 f2 k2 e2=>?_⟩
   have la2:z2.length≤1:=len e2 (by unfold pT;split <;> simp)
   have g1:=s2 _ _ f1
   refine ⟨l1,l2,_,_,rfl,rfl,g1,f2,(by simp only [wq];omega),?_⟩
   rw [dZ]
   have s3:aA H (upd H2 l1 (.lst (((z1++z2).map (·.1)).map V.ref))):=cE (s1.trans s2) n1
   have f3:(upd H2 l1 (.lst (((z1++z2).map (·.1)).map V.ref))) l1=some (.lst (((z1++z2).map (·.1)).map V.ref)):=ag
   have k3:LkA (upd H2 l1 (.lst (((z1++z2).map (·.1)).map V.ref))) (z1++z2):=((k1.same s2).app k2).to (cM g1)
   generalize upd H2 l1 (.lst (((z1++z2).map (·.1)).map V.ref))=H3 at s3 f3 k3 ⊢
   refine ⟨_,rfl,.inl ⟨rfl,_,SqL.of f3⟩,_,rfl,_,rfl,_,rfl,_,rfl,u,a,x,y,n,W,s,t,rfl,U,hW.same s3,s3 _ _ hx,s3 _ _ hy,os,ot,fun l4 z4 H4 n4 s4 f4 k4 e4=>?_⟩
   have la4:z4.length≤1:=len e4 (by unfold sC;split <;> simp)
   have g3:=s4 _ _ f3
   refine ⟨l1,l4,_,_,rfl,rfl,g3,f4,(by simp only [wq,wj];omega),?_⟩
   rw [dZ]
   refine ⟨_,rfl,k l1 (z1++z2++z4) _ n1 (cE (s3.trans s4) n1) ag (((k3.same s4).app k4).to (cM g3)) ?_⟩
   unfold qH
   rw [c,if_pos rfl,xr,xr,e1,e2,e4,wt]
  ·rw [xZ] at c
   rw [c]
   refine fW ⟨_,rfl,k l1 z1 H1 n1 s1 f1 k1 ?_⟩
   unfold qH
   rw [c,e1]
   simp
abbrev iI:Stmt:=top 9
theorem nK:aG ["surface","ways","i","j","told","p","q"] ["surface","ways","i","j"] (ak iI):=⟨rfl,rfl,rfl,by decide +kernel,rfl,by decide +kernel,by decide +kernel⟩
def _root_.Bl {a b c d e f g h}:=@bC a b c d e f g h
def _root_.Bm {a b c d e f}:=@a8 a b c d e f
theorem ql (D:Df K mg "links" iI)(T:Bt K w mg aB)(F_lat:Fnc P w K mg base "links_at" ["surface","ways","one","other"] 5 (lK qH)):Fnc P w K mg base "links" ["surface","ways","i","j"] 6 eO:=by
 have sc:=nK
 refine D.ok sc (fun _ _ _ _ _ _ us hl=>by obtain ⟨_,_,_,_,rfl⟩:=jU hl;rfl) (fun vs H Q E h=>?_) (fun f Bx A outer s H vs Q E hr h=>?_)
 ·obtain ⟨u,a,n,W,i,j,rfl,_⟩:=h
  rfl
 ·obtain ⟨u,a,n,W,i,j,rfl,U,hW,i0,i1,j0,j1,k⟩:=h
  have BL:=aX
  obtain ⟨_,ati,_,li,_,_⟩:=hW.ok.get i0 i1
  obtain ⟨_,atj,_,lj,_,_⟩:=hW.ok.get j0 j1
  refine ⟨_,(A3 (A8 (4) sc.nd rfl (Or.inl rfl) (AX af)) (A3 (Bl xo rfl (Bm rfl T.range (AY (A9 aE (by rfl) T.len wQ (AY (A5 aN (pv 1) (pv 2) (fun _ _=>rfl)) af)) af)) (Bd (5) sc.nd rfl (Or.inl rfl)) (AV (Bl xo rfl (Bm rfl T.range (AY (A9 aE (by rfl) T.len wQ (AY (A5 aN (pv 1) (pv 3) (fun _ _=>rfl)) af)) af)) (Bd (6) sc.nd rfl (Or.inl rfl)) (AV (Bk (Ba xg yI yJ c9 (pv 4) (AY (Bg F_lat hr (by decide) rfl (AY (pv 0) (AY (pv 1) (AY (Bi (AY (pv 2) (AY (pv 5) af))) (AY (Bi (AY (pv 3) (AY (pv 6) af))) af))))) af))))))) (AV (AW (A9 (@cX _ (.s) (shL) _ (fun z=>by cases z) (by exact hr.units) rfl) (by rfl) T.sorted i6 (AY (pv 4) af)))))),?_⟩
  refine ⟨(by show 0≤_;decide),fun l hl=>?_⟩
  have s0:aA H (upd H l (.lst [])):=aA.new hl
  have f0:(upd H l (.lst [])) l=some (.lst []):=ag
  generalize upd H l (.lst [])=H0 at s0 f0 ⊢
  refine ⟨_,rfl,_,rfl,a,_,_,_,rfl,rfl,SqT.of (s0 _ _ hW.at_),ati,_,rfl,(by rw [ae];omega),_,rfl,?_⟩
  rw [ae]
  refine ⟨by omega,by omega,?_⟩
  refine a_ (lo:=0) (n:=((wyZ W i).length:Int).toNat) (fun m σ H'=>∃ (v1 v2:Option V) (zs:List (Addr × Lk)),σ = [some (tx u),some (.ref a),some (.int i),some (.int j),some (.ref l),v1,v2]∧aA H H'∧H' l=some (.lst ((zs.map (·.1)).map V.ref))∧LkA H' zs∧(zs.map (·.2)).Perm (jr u W i j m)) ⟨none,none,[],rfl,s0,f0,(fun _ h=>absurd h (by simp)),yR _⟩ ?_ ?_
  ·rintro p σ H1 hp ⟨v1,v2,zs,rfl,s1,f1,k1,e1⟩
   have hp':p < (wyZ W i).length:=by omega
   refine ⟨_,rfl,_,rfl,a,_,_,_,rfl,rfl,SqT.of (s1 _ _ hW.at_),atj,_,rfl,(by rw [ae];omega),_,rfl,?_⟩
   rw [ae]
   refine ⟨by omega,by omega,?_⟩
   rw [show ((0:Int)+(p:Int))=(p:Int) by omega]
   refine a_ (lo:=0) (n:=((wyZ W j).length:Int).toNat) (fun m σ H'=>∃ (v2:Option V) (zs:List (Addr × Lk)),σ = [some (tx u),some (.ref a),some (.int i),some (.int j),some (.ref l),some (.int (p:Int)),v2]∧aA H H'∧H' l=some (.lst ((zs.map (·.1)).map V.ref))∧LkA H' zs∧(zs.map (·.2)).Perm (jr u W i j p++jR u W i j p m)) ⟨v2,zs,rfl,s1,f1,k1,by rw [show jR u W i j p 0=[] from rfl,xw];exact e1⟩ ?_ ?_
   ·clear e1 k1 f1 s1 zs
    rintro q σ H2 hq ⟨v2,zs,rfl,s2,f2,k2,e2⟩
    have hq':q < (wyZ W j).length:=by omega
    rw [show ((0:Int)+(q:Int))=(q:Int) by omega]
    refine ⟨_,rfl,.inl ⟨rfl,_,SqL.of f2⟩,_,rfl,_,rfl,_,rfl,_,rfl,(by show 2≤_;decide),fun x hx=>?_⟩
    have s3:aA H2 (upd H2 x (.tup [.int i,.int (p:Int)])):=aA.new hx
    have f3:(upd H2 x (.tup [.int i,.int (p:Int)])) x=some (.tup [.int i,.int (p:Int)]):=ag
    generalize upd H2 x (.tup [.int i,.int (p:Int)])=H3 at s3 f3 ⊢
    refine ⟨_,rfl,_,rfl,(by show 2≤_;decide),fun y hy=>?_⟩
    have s4:aA H3 (upd H3 y (.tup [.int j,.int (q:Int)])):=aA.new hy
    have f4:(upd H3 y (.tup [.int j,.int (q:Int)])) y=some (.tup [.int j,.int (q:Int)]):=ag
    generalize upd H3 y (.tup [.int j,.int (q:Int)])=H4 at s4 f4 ⊢
    have s24:=s3.trans s4
    refine ⟨u,a,x,y,n,W,(i,(p:Int)),(j,(q:Int)),rfl,U,hW.same (s2.trans s24),s4 _ _ f3,f4,⟨i0,i1,by omega,by show (p:Int) < ((wyZ W i).length:Int);omega⟩,⟨j0,j1,by omega,by show (q:Int) < ((wyZ W j).length:Int);omega⟩,fun l5 z5 H5 n5 s5 f5 k5 e5=>?_⟩
    have s25:=s24.trans s5
    have g2:=s25 _ _ f2
    have ez:(z5.map (·.2)).Perm (lkZ u W (i,(p:Int)) (j,(q:Int))):=by rw [e5];exact lL _ _ _ _
    have en:((zs++z5).map (·.2)).Perm (jr u W i j p++jR u W i j p (q+1)):=by
     rw [xr,fY,← wt]
     exact e2.append ez
    have hlen:zs.length+z5.length≤3*30*p+3*(q+1):=by
     have h1:=en.length_eq
     rw [wq,wj,wj] at h1
     have h2:=eN u W i j lj p
     have h3:=gc u W i j p (q+1)
     omega
    refine ⟨l,l5,_,_,rfl,rfl,g2,f5,(by simp only [wq];omega),?_⟩
    rw [dZ]
    exact ⟨_,zs++z5,rfl,cE (s2.trans s25) hl,ag,((k2.same s25).app k5).to (cM g2),en⟩
   ·clear e1 k1 f1 s1 zs
    rintro σ H2 ⟨v2,zs,rfl,s2,f2,k2,e2⟩
    refine ⟨_,_,zs,rfl,s2,f2,k2,?_⟩
    rw [f_]
    exact e2
  ·rintro σ H1 ⟨v1,v2,zs,rfl,s1,f1,k1,e1⟩
   have em:zs.map (·.1)=(zs.map fun z=>(z.1,z.2.key)).map (·.1):=by rw [xT];rfl
   rw [em] at f1
   refine ⟨_,rfl,l,zs.map fun z=>(z.1,z.2.key),rfl,.inl (SqL.of f1),fun z hz=>?_,fun p ks hp pm pw=>?_⟩
   ·obtain ⟨y,hy,rfl⟩:=xY.mp hz
    exact (k1 y hy).kd
   ·obtain ⟨ys,h1,h2⟩:=c6 (fun z:Addr × Lk=>(z.1,z.2.key)) pm.symm zs rfl
    have e2:ks.map (·.1)=ys.map (·.1):=by rw [h2,xT];rfl
    have e3:ks.map (·.2)=(ys.map (·.2)).map Lk.key:=by rw [h2,xT,xT];rfl
    rw [e2]
    rw [e3] at pw
    refine k p ys _ (s1.free hp) (s1.trans (aA.new hp)) ag (fun z hz=>?_) ((h1.map _).trans e1) pw
    exact (k1 z (h1.mem_iff.mp hz)).to fun b o e=>aA.new hp _ _ e
abbrev l7:Stmt:=top 27
theorem qm:aG ["_law_surface","_law_begin","_law_one","_law_other","_law_row"] ["_law_surface","_law_begin","_law_one","_law_other"] (ak l7):=⟨rfl,rfl,rfl,by decide +kernel,rfl,by decide +kernel,by decide +kernel⟩
theorem sY (D:Df K mg "_law_sooner" l7)(T:Bt K w mg aB):Fnc P w K mg base "_law_sooner" ["_law_surface","_law_begin","_law_one","_law_other"] 1 ju:=by
 have sc:=qm
 refine D.ok sc (fun _ _ _ _ _ _ us hl=>by obtain ⟨_,_,_,_,rfl⟩:=jU hl;rfl) (fun vs H Q E h=>?_) (fun f Bx A outer s H vs Q E hr h=>?_)
 ·obtain ⟨u,k,b,a,c,rfl,_⟩:=h
  rfl
 ·obtain ⟨u,k,b,a,c,rfl,U,hb,ha,hc,hac,q⟩:=h
  have BL:=aX
  have hl:=U.len
  have h6:=U.hi
  obtain ⟨r1,o1⟩:=i_ hb
  have hll:(toS u).length≤sizeLine:=by rw [ae];omega
  have c1:Txt.slice (toS u) (some ((u.idxOf b:Nat):Int)) none=toS (u.drop (u.idxOf b)):=by rw [aW,dU _ (by omega)];rfl
  have c2:Txt.slice (toS u) none (some ((u.idxOf b:Nat):Int))=toS (u.take (u.idxOf b)):=by rw [aW,cW _ (by omega)];rfl
  refine ⟨_,(A3 (A8 (4) sc.nd rfl (Or.inl rfl) (A4 aT (A0 bw (pv 0) (A2 (Ba w9 yq yr dg (pv 0) (AY (pv 1) af))) aV) (A0 bw (pv 0) aV (A2 (Ba w9 yq yr dg (pv 0) (AY (pv 1) af)))))) (AV (AW (Bh bF (A5 aJ (Bb (["_law_sign_here","_law_one","_law_other"]) (["_law_sign_here"]) ([2,3]) (Bc rfl (by kernel_rfl)) rfl (@gI _ _ _ _ (pv 4)) (fun _ _ _ _=>Bd (0) (show (["_law_sign_here","_law_one","_law_other"]:List Str).Nodup from by decide +kernel) rfl (Or.inl rfl)) (fun _ _ _ _=>(@dS _ _ _ (by exact (A7 (@pq _ (K) rfl) (pv 0) (Bi (AY (pv 1) (AY (pv 2) af))) rfl)))) (fun _ _ _ _=>by (exact (pv 0)))) ai (fun _ _=>rfl)) (pv 2) (aI _))))),?_⟩
  refine ⟨_,rfl,_,rfl,rfl,_,rfl,_,_,_,r1,rfl,rfl,o1,_,rfl,_,rfl,hll,?_⟩
  rw [c1]
  refine ⟨_,rfl,_,rfl,rfl,_,rfl,_,_,_,r1,rfl,rfl,o1,_,rfl,_,rfl,hll,?_⟩
  rw [c2]
  refine ⟨_,_,rfl,rfl,(by rw [ae,ae,xB,wD];omega),?_⟩
  rw [cv]
  have er:u.drop (u.idxOf b)++u.take (u.idxOf b)=rot u (u.idxOf b):=rfl
  rw [er]
  have pm:=fM u (u.idxOf b)
  have fo:=jb hac (rot u (u.idxOf b)) (pm.nodup_iff.mpr U.srf.nd) (pm.mem_iff.mpr ha) (pm.mem_iff.mpr hc)
  have i1:=ja U.srf.nd hb ha
  have i2:=ja U.srf.nd hb hc
  have hle:(rot u (u.idxOf b)).length≤12:=by rw [pm.length_eq];omega
  generalize rot u (u.idxOf b)=R at fo i1 i2 hle ⊢
  refine ⟨_,rfl,_,rfl,?_⟩
  refine bY (own:=["_law_sign_here"]) (cap:=[2,3]) (J:=Its (toS R)) R.length (fun i ys σ H'=>∃ v:Option V,σ = [v,some (tx [a]),some (tx [c])]∧ys=bo ((R.take i).filter fun z=>decide (z=a ∨ z=c))∧aA H H') ⟨none,rfl,rfl,aA.refl _⟩ (fun i ys σ H' hi ⟨v,_,e,_⟩=>?_) (by omega) (fun i ys σ H' hi _=>?_) (fun ys σ H' _=>?_) ?_ ?_
  ·rw [e,aK]
   exact xq (zF _ _) (by rw [wD];omega)
  ·show i < (toS R).cps.size;rw [bh];exact hi
  ·show _=(toS R).cps.size;rw [bh]
  ·rintro i ys σ H1 x H2 N hi ⟨v,rfl,rfl,s1⟩ ⟨rfl,cc,hcc,rfl⟩ hN
   obtain ⟨y,hy,e⟩:=c5 hcc
   rw [e]
   refine ⟨_,rfl,_,rfl,_,rfl,(cD (n:=2) (by decide)),fun p hp=>⟨p,_,rfl,.inr (SqT.of ag),rfl,rfl,_,rfl,?_⟩⟩
   have t2:inV (V.str (toS [y])) [tx [a],tx [c]]=decide (y=a ∨ y=c):=sD y a c
   rw [if_neg (show ¬ (false=true) by decide),t2]
   have sn:=s1.then (o:=.tup [tx [a],tx [c]]) hp
   by_cases hyc:y=a ∨ y=c
   ·refine i8 (wF hyc) ⟨_,rfl,hN _ _ _ ⟨_,rfl,?_,sn⟩⟩
    rw [b9 _ hy,if_pos (wF hyc),← bu]
    rfl
   ·refine i9 (wm hyc) (hN _ _ _ ⟨_,rfl,?_,sn⟩)
    rw [b9 _ hy,if_neg (by simpa using hyc),xw]
  ·rintro ys σ H1 l ⟨v,rfl,rfl,s1⟩ hl
   rw [ze]
   refine ⟨l,_,_,_,rfl,rfl,SqL.of ag,gX fo,_,rfl,rfl,?_⟩
   have ev:decide (tx [if R.idxOf a < R.idxOf c then a else c]=tx [a])=decide (rfI u b a < rfI u b c):=by
    rw [xh,wz,wz,← i1,← i2]
    by_cases h:R.idxOf a < R.idxOf c
    ·rw [if_pos h]
     exact ⟨fun _=>by omega,fun _=>rfl⟩
    ·rw [if_neg h]
     exact ⟨fun e=>absurd (xM (gM e)).1.symm hac,fun z=>by omega⟩
   show Q (.bl (decide (tx [if R.idxOf a < R.idxOf c then a else c]=tx [a]))) _
   rw [ev]
   exact q _ (s1.then hl)
abbrev iJ:Stmt:=top 28
theorem nM:aG ["_law_word","_law_place","_law_way","_law_k","_law_sign_here"] ["_law_word","_law_place","_law_way","_law_k"] (ak iJ):=⟨rfl,rfl,rfl,by decide +kernel,rfl,by decide +kernel,by decide +kernel⟩
theorem qo (D:Df K mg "_law_sign" iJ)(T:Bt K w mg aB)(Bu:Fnc P w K mg base "_law_back" ["_law_word"] 1 i7):Fnc P w K mg base "_law_sign" ["_law_word","_law_place","_law_way","_law_k"] 2 eP:=by
 have sc:=nM
 refine D.ok sc (fun _ _ _ _ _ _ us hl=>by obtain ⟨_,_,_,_,rfl⟩:=jU hl;rfl) (fun vs H Q E h=>?_) (fun f Bx A outer s H vs Q E hr h=>?_)
 ·obtain ⟨w,p,wy,k,rfl,_⟩:=h
  rfl
 ·obtain ⟨v,p,wy,kk,rfl,hv,hl,BP,k⟩:=h
  have BL:=aX
  have vp:0 < (v.length:Int):=by have:=xf.mpr hv;omega
  refine ⟨_,(A3 (A8 (4) sc.nd rfl (Or.inl rfl) (A5 bG (pv 0) (A4 b_ (A4 br (pv 1) (A4 cP (pv 2) (pv 3))) (A9 aE (by rfl) T.len wQ (AY (pv 0) af))) (fun _ _=>rfl))) (AV (AW (Bf (A7 hX (pv 2) ai (aI _)) (pv 4) (Bg Bu hr (by decide) rfl (AY (pv 4) af)))))),?_⟩
  have cm:rb wy kk:=.inl ⟨by rcases BP with rfl | rfl <;> decide,by rcases BP with rfl | rfl <;> decide⟩
  refine ⟨_,rfl,_,rfl,_,rfl,_,rfl,_,_,rfl,rfl,cm,_,_,rfl,rfl,_,rfl,_,rfl,(by rw [ae];omega),_,_,rfl,rfl,(by rw [ae];omega),?_⟩
  rw [ae]
  refine ⟨_,_,_,rfl,rfl,(by rw [ae];omega),tM vp,?_⟩
  refine ⟨_,rfl,_,_,rfl,rfl,_,rfl,?_⟩
  rcases BP with rfl | rfl
  ·refine i8 rfl ⟨_,rfl,?_⟩
   have:=k _ (aA.refl _)
   unfold sgZ at this
   rw [if_pos rfl] at this
   exact this
  ·refine i9 rfl ⟨_,rfl,[atZ v (p + -1*kk)],rfl,(by show 1≤_;decide),fun H' s'=>?_⟩
   have:=k _ s'
   unfold sgZ at this
   rw [if_neg (by decide)] at this
   exact this
abbrev l8:Stmt:=top 30
theorem qp:aG ["_law_mine","_law_p","_law_theirs","_law_q","_law_way","_law_many"] ["_law_mine","_law_p","_law_theirs","_law_q","_law_way"] (ak l8):=⟨rfl,rfl,rfl,by decide +kernel,rfl,by decide +kernel,by decide +kernel⟩
theorem sZ (D:Df K mg "_law_run" l8)(T:Bt K w mg aB)(Bz:Fnc P w K mg base "_law_sign" ["_law_word","_law_place","_law_way","_law_k"] 2 eP):Fnc P w K mg base "_law_run" ["_law_mine","_law_p","_law_theirs","_law_q","_law_way"] 3 lN:=by
 have sc:=qp
 refine D.ok sc (fun _ _ _ _ _ _ us hl=>by obtain ⟨_,_,_,_,_,rfl⟩:=vo hl;rfl) (fun vs H Q E h=>?_) (fun f Bx A outer s H vs Q E hr h=>?_)
 ·obtain ⟨w,v,p,q,wy,rfl,_⟩:=h
  rfl
 ·obtain ⟨u,v,p,q,wy,rfl,hu,hv,ul,vl,BP,k⟩:=h
  have BL:=aX
  have up:0 < (u.length:Int):=by have:=xf.mpr hu;omega
  refine ⟨_,(A3 (A8 (5) sc.nd rfl (Or.inl rfl) ai) (A3 (@fk _ _ _ _ _ _ xo (A7 eV (pv 5) (A4 br (A9 aE (by rfl) T.len wQ (AY (pv 0) af)) (A9 aE (by rfl) T.len wQ (AY (pv 2) af))) (aI _)) (A3 (A6 (A7 kf (A5 bG (pv 0) (A4 b_ (A4 br (pv 1) (pv 5)) (A9 aE (by rfl) T.len wQ (AY (pv 0) af))) (fun _ _=>rfl)) (Bg Bz hr (by decide) rfl (AY (pv 2) (AY (pv 3) (AY (pv 4) (AY (pv 5) af))))) (aI _)) (AV (AW (pv 5))) aY) (AV (A8 (5) sc.nd rfl (Or.inl rfl) (A4 br (pv 5) ai))))) (AV (AW (pv 5))))),?_⟩
  refine mY (fun m σ H'=>∃ i:Nat,σ = [some (tx u),some (.int p),some (tx v),some (.int q),some (.int wy),some (.int (i:Int))]∧i≤u.length+v.length∧m=u.length+v.length - i∧(∀ j:Nat,j < i→sgZ u p 1 j=sgZ v q wy j)∧aA H H')
   (fun σ H'=>σ = [some (tx u),some (.int p),some (tx v),some (.int q),some (.int wy),some (.int ((u.length+v.length:Nat):Int))]∧(∀ j:Nat,j < u.length+v.length→sgZ u p 1 j=sgZ v q wy j)∧aA H H') ⟨_,0,rfl,xv _,rfl,(fun j hj=>by omega),aA.refl _⟩ ?_ ?_
  ·rintro nx hnx m σ H1 ⟨i,rfl,hi,rfl,al,s1⟩
   refine ⟨_,rfl,_,rfl,_,rfl,(by rw [ae];omega),_,rfl,_,rfl,(by rw [ae];omega),_,_,rfl,rfl,_,_,rfl,rfl,_,rfl,?_⟩
   rw [ae,ae]
   by_cases c:i < u.length+v.length
   ·refine i8 (wF (by omega)) ⟨fun σ' H'=>∃ m',m' < u.length+v.length - i∧_,fun _ _ h=>h,?_⟩
    refine ⟨_,rfl,_,rfl,_,rfl,_,_,rfl,rfl,_,rfl,_,rfl,(by rw [ae];omega),_,_,rfl,rfl,(by rw [ae];omega),?_⟩
    rw [ae]
    refine ⟨_,_,_,rfl,rfl,(by rw [ae];omega),tM up,?_⟩
    refine ⟨_,rfl,_,rfl,_,rfl,_,rfl,v,q,wy,(i:Int),rfl,hv,vl,BP,fun H2 s2=>⟨rfl,_,rfl,?_⟩⟩
    have ea:(!decide (V.str ⟨#[cp (atZ u (p+(i:Int)))]⟩=tx [sgZ v q wy (i:Int)]))=!decide (sgZ u p 1 i=sgZ v q wy i):=by
     have e0:V.str ⟨#[cp (atZ u (p+(i:Int)))]⟩=tx [sgZ u p 1 i]:=by rw [sg1];rfl
     rw [e0,fc]
     congr 1
     exact zH.mpr ⟨fun e=>(xM e).1,fun e=>by rw [e]⟩
    refine (wR (fun b=>cj _ _ _ _ b _) ea).mpr ?_
    by_cases cb:sgZ u p 1 i=sgZ v q wy i
    ·rw [wF cb]
     refine fW ⟨_,rfl,_,_,rfl,rfl,_,Nat.sub_lt_sub_left c (yw i),i+1,?_,by omega,rfl,fun j hj=>?_,s1.trans s2⟩
     ·rw [show (((i+1:Nat):Int))=(i:Int)+1 by omega];rfl
     ·by_cases e:j=i
      ·rw [e];exact cb
      ·exact al j (by omega)
    ·rw [wm cb]
     have:=k _ (s1.trans s2)
     rw [sE al hi (.inr cb)] at this
     exact lH ⟨_,rfl,this⟩
   ·have ei:i=u.length+v.length:=by omega
    subst ei
    exact i9 (wm (by omega)) (hnx _ _ ⟨rfl,al,s1⟩)
  ·rintro σ H1 ⟨rfl,al,s1⟩
   have:=k _ s1
   rw [sE al (wu _) (.inl rfl)] at this
   exact ⟨_,rfl,this⟩
abbrev l9:Stmt:=top 29
theorem qq:aG ["_law_surface","_law_ways","_law_one","_law_other","_law_mine","_law_theirs","_law_begin","_law_end","_law_some","_law_first"] ["_law_surface","_law_ways","_law_one","_law_other"] (ak l9):=⟨rfl,rfl,rfl,by decide +kernel,rfl,by decide +kernel,by decide +kernel⟩
def _root_.Bn {a b} (c d) {e f g h i j k l m n o}:=@iV a b c d e f g h i j k l m n o
theorem s_ (D:Df K mg "_law_four_ends" l9)(T:Bt K w mg aB)(Tset:mg "set" = none)(Bu:Fnc P w K mg base "_law_back" ["_law_word"] 1 i7)(Bz:Fnc P w K mg base "_law_sign" ["_law_word","_law_place","_law_way","_law_k"] 2 eP)(BI:Fnc P w K mg base "_law_sooner" ["_law_surface","_law_begin","_law_one","_law_other"] 1 ju):Fnc P w K mg base "_law_four_ends" ["_law_surface","_law_ways","_law_one","_law_other"] 3 lO:=by
 have sc:=qq
 refine D.ok sc (fun _ _ _ _ _ _ us hl=>by obtain ⟨_,_,_,_,rfl⟩:=jU hl;rfl) (fun vs H Q E h=>?_) (fun f Bx A outer s H vs Q E hr h=>?_)
 ·obtain ⟨u,a,x,y,n,W,s,t,rfl,_⟩:=h
  rfl
 ·obtain ⟨u,a,x,y,n,W,s,t,rfl,U,hW,hx,hy,os,ot,k⟩:=h
  have BL:=aX
  obtain ⟨_,ats,Rs,ls,lps,_⟩:=hW.ok.get os.1 os.2.1
  obtain ⟨_,att,Rt,lt,lpt,_⟩:=hW.ok.get ot.1 ot.2.1
  have m1:=(dw U hW.ok os 1 0).2
  have m2:=(dw U hW.ok os 1 1).1
  have m3:=(dw U hW.ok ot 1 0).2
  have m4:=(dw U hW.ok ot 1 1).1
  have z1:fZ W s 1 0=atZ (wyZ W s.1) s.2:=by unfold fZ;rw [sg1,AU]
  have z2:fZ W t 1 0=atZ (wyZ W t.1) t.2:=by unfold fZ;rw [sg1,AU]
  refine ⟨_,(A3 (Bn (4) (5) rfl sc.nd rfl rfl (by decide) rfl rfl (AY (A5 aN (pv 1) (A5 aN (pv 2) ai (fun _ _=>rfl)) (fun _ _=>rfl)) (AY (A5 aN (pv 1) (A5 aN (pv 3) ai (fun _ _=>rfl)) (fun _ _=>rfl)) af)) rfl) (A3 (Bn (6) (7) rfl sc.nd rfl rfl (by decide) rfl rfl (AY (Bg Bu hr (by decide) rfl (AY (A5 bG (pv 4) (A5 aN (pv 2) ai (fun _ _=>rfl)) (fun _ _=>rfl)) af)) (AY (Bg Bz hr (by decide) rfl (AY (pv 4) (AY (A5 aN (pv 2) ai (fun _ _=>rfl)) (AY ai (AY ai af))))) af)) rfl) (A3 (A8 (8) sc.nd rfl (Or.inl rfl) (AX (AY (Bg Bu hr (by decide) rfl (AY (A5 bG (pv 5) (A5 aN (pv 3) ai (fun _ _=>rfl)) (fun _ _=>rfl)) af)) (AY (Bg Bz hr (by decide) rfl (AY (pv 5) (AY (A5 aN (pv 3) ai (fun _ _=>rfl)) (AY ai (AY ai af))))) af)))) (A3 (A6 (A7 eV (A9 eM (by rfl) T.len wQ (AY (AZ (@eW _ rfl) (by rfl) Tset sv (AY (A4 oh (AX (AY (pv 6) (AY (pv 7) af))) (pv 8)) af)) af)) ai (aI _)) (AV (AW hU)) aY) (A3 (A8 (9) sc.nd rfl (Or.inl rfl) (Bg BI hr (by decide) rfl (AY (pv 0) (AY (pv 6) (AY (A5 aJ (pv 8) ai (fun _ _=>rfl)) (AY (pv 7) af)))))) (AV (AW (Bh kf (pv 9) (Bg BI hr (by decide) rfl (AY (pv 0) (AY (pv 6) (AY (A5 aJ (pv 8) ai (fun _ _=>rfl)) (AY (pv 7) af))))) (aI _))))))))),?_⟩
  refine ⟨_,rfl,_,rfl,x,_,_,_,rfl,rfl,SqT.of hx,rfl,a,_,_,_,rfl,rfl,SqT.of hW.at_,ats,_,rfl,_,rfl,y,_,_,_,rfl,rfl,SqT.of hy,rfl,a,_,_,_,rfl,rfl,SqT.of hW.at_,att,_,_,rfl,?_⟩
  refine ⟨_,rfl,_,rfl,x,_,_,_,rfl,rfl,SqT.of hx,rfl,_,_,_,rfl,rfl,(by rw [ae];omega),lQ os.2.2.1 os.2.2.2,[atZ (wyZ W s.1) s.2],rfl,(by show 1≤_;decide),fun H1 s1=>?_⟩
  rw [cq,← z1]
  refine ⟨_,rfl,_,rfl,x,_,_,_,rfl,rfl,SqT.of (s1 _ _ hx),rfl,wyZ W s.1,s.2,1,1,rfl,Rs.ne,by omega,.inl rfl,fun H2 s2=>⟨_,_,rfl,?_⟩⟩
  have q2:=s1.trans s2
  refine ⟨_,rfl,_,rfl,y,_,_,_,rfl,rfl,SqT.of (q2 _ _ hy),rfl,_,_,_,rfl,rfl,(by rw [ae];omega),lQ ot.2.2.1 ot.2.2.2,[atZ (wyZ W t.1) t.2],rfl,(by show 1≤_;decide),fun H3 s3=>?_⟩
  rw [cq,← z2]
  have q3:=q2.trans s3
  refine ⟨_,rfl,_,rfl,y,_,_,_,rfl,rfl,SqT.of (q3 _ _ hy),rfl,wyZ W t.1,t.2,1,1,rfl,Rt.ne,by omega,.inl rfl,fun H4 s4=>⟨(by show 2≤_;decide),fun l hl=>?_⟩⟩
  have q4:=q3.trans s4
  change aA H H4 at q4
  have e2:sgZ (wyZ W s.1) s.2 1 1=fZ W s 1 1:=rfl
  have e4:sgZ (wyZ W t.1) t.2 1 1=fZ W t 1 1:=rfl
  rw [e2,e4]
  generalize inv (fZ W s 1 0)=e1 at m1 k ⊢
  generalize fZ W s 1 1=e2 at m2 k ⊢
  generalize inv (fZ W t 1 0)=e3 at m3 k ⊢
  generalize fZ W t 1 1=e4 at m4 k ⊢
  have s5:aA H4 (upd H4 l (.lst [tx [e3],tx [e4]])):=aA.new hl
  have f5:(upd H4 l (.lst [tx [e3],tx [e4]])) l=some (.lst [tx [e3],tx [e4]]):=ag
  generalize upd H4 l (.lst [tx [e3],tx [e4]])=H5 at s5 f5 ⊢
  refine ⟨_,rfl,_,rfl,(by show 2≤_;decide),fun l2 hl2=>?_⟩
  have s6:aA H5 (upd H5 l2 (.lst [tx [e1],tx [e2]])):=aA.new hl2
  have f6:(upd H5 l2 (.lst [tx [e1],tx [e2]])) l2=some (.lst [tx [e1],tx [e2]]):=ag
  generalize upd H5 l2 (.lst [tx [e1],tx [e2]])=H6 at s6 f6 ⊢
  refine ⟨_,rfl,l2,l,_,_,rfl,rfl,f6,s6 _ _ f5,(by show 2+2≤_;omega),fun l3 hl3=>?_⟩
  refine ⟨l3,[toS [e1],toS [e2],toS [e3],toS [e4]],rfl,SqL.of ag,(by show 4≤4000;decide),fun p dl hp nd hm=>⟨p,dl,rfl,ag,_,_,rfl,rfl,_,rfl,?_⟩⟩
  have hm':∀ z,z∈dl ↔ ∃ x∈[e1,e2,e3,e4],z=toS [x]:=fun z=>by
   rw [hm]
   simp only [wH,wZ,yg,exists_eq_or_imp,exists_eq_left]
  rw [vn nd hm']
  generalize hG:upd (upd H6 l3 _) p (StO _ _ p dl)=H7
  have s7:aA H6 H7:=hG ▸ (aA.new hl3).trans (aA.new hp)
  have q7:=((q4.trans s5).trans s6).trans s7
  have f7:=s6.trans s7 _ _ f5
  by_cases c:[e1,e2,e3,e4].Nodup
  ·rw [wF c]
   refine fW ?_
   have k:∀ H',aA H H'→Q (.bl (decide (rfI u e1 e3 < rfI u e1 e2) != decide (rfI u e1 e4 < rfI u e1 e2))) H':=fun H' s'=>by
    have:=k H' s'
    unfold dI at this
    rw [wF c,ym] at this
    exact this
   simp only [xW,wH,wZ,yg,Ab,zB,AM,not_or] at c
   obtain ⟨⟨d1,d2,d3⟩,⟨d4,d5⟩,d6⟩:=c
   refine ⟨_,rfl,_,rfl,_,rfl,l,_,_,_,rfl,rfl,SqL.of f7,rfl,_,rfl,u,n,e1,e3,e2,rfl,U,m1,m3,m2,fun z=>d4 z.symm,fun H8 s8=>?_⟩
   refine ⟨_,rfl,_,rfl,_,rfl,_,rfl,l,_,_,_,rfl,rfl,SqL.of (s8 _ _ f7),rfl,_,rfl,u,n,e1,e4,e2,rfl,U,m1,m4,m2,fun z=>d5 z.symm,fun H9 s9=>⟨rfl,?_⟩⟩
   have:=k _ ((q7.trans s8).trans s9)
   refine cast (wR (fun b=>Q (.bl b) H9) ?_) this
   exact wR (! ·) (pU _ _)
  ·rw [wm c]
   have:=k _ q7
   unfold dI at this
   rw [wm c,xU] at this
   exact lH this
abbrev iK:Stmt:=top 31
theorem nN:aG ["_law_surface","_law_mine","_law_p","_law_theirs","_law_q","_law_way","_law_many","_law_before","_law_after","_law_last","_law_sides"] ["_law_surface","_law_mine","_law_p","_law_theirs","_law_q","_law_way","_law_many"] (ak iK):=⟨rfl,rfl,rfl,by decide +kernel,rfl,by decide +kernel,by decide +kernel⟩
theorem qr (D:Df K mg "_law_parted" iK)(T:Bt K w mg aB)(Bu:Fnc P w K mg base "_law_back" ["_law_word"] 1 i7)(Bz:Fnc P w K mg base "_law_sign" ["_law_word","_law_place","_law_way","_law_k"] 2 eP)(BI:Fnc P w K mg base "_law_sooner" ["_law_surface","_law_begin","_law_one","_law_other"] 1 ju):Fnc P w K mg base "_law_parted" ["_law_surface","_law_mine","_law_p","_law_theirs","_law_q","_law_way","_law_many"] 3 iD:=by
 have sc:=nN
 refine D.ok sc (fun _ _ _ _ _ _ us hl=>by obtain ⟨_,_,_,_,_,_,_,rfl⟩:=vV hl;rfl) (fun vs H Q E h=>?_) (fun f Bx A outer s H vs Q E hr h=>?_)
 ·obtain ⟨u,w,v,k,m,p,q,wy,rfl,_⟩:=h
  rfl
 ·obtain ⟨u,w,v,kk,m,p,q,wy,rfl,U,hw,hv,wl,vl,iw,iv,p0,p1,BP,m0,k⟩:=h
  have BL:=aX
  have mw:∀ j,sgZ w p 1 j∈u∧inv (sgZ w p 1 j)∈u:=fun j=>by
   have:=iC (xf.mpr hw) iw p 1 j
   exact ⟨(U.mem _).mpr this,(U.mem _).mpr (by rw [fL];exact this)⟩
  have mv:∀ j,sgZ v q wy j∈u∧inv (sgZ v q wy j)∈u:=fun j=>by
   have:=iC (xf.mpr hv) iv q wy j
   exact ⟨(U.mem _).mpr this,(U.mem _).mpr (by rw [fL];exact this)⟩
  refine ⟨_,(A3 (A8 (7) sc.nd rfl (Or.inl rfl) (AX (AY (Bg Bz hr (by decide) rfl (AY (pv 1) (AY (pv 2) (AY ai (AY (Be cf ai) af))))) (AY (Bg Bz hr (by decide) rfl (AY (pv 3) (AY (pv 4) (AY (pv 5) (AY (Be cf ai) af))))) af)))) (A3 (A8 (8) sc.nd rfl (Or.inl rfl) (AX (AY (Bg Bz hr (by decide) rfl (AY (pv 1) (AY (pv 2) (AY ai (AY (pv 6) af))))) (AY (Bg Bz hr (by decide) rfl (AY (pv 3) (AY (pv 4) (AY (pv 5) (AY (pv 6) af))))) af)))) (A3 (A6 (A_ (@qR _ _ _ _ _ _ _ (A7 bF (A5 aJ (pv 7) ai (fun _ _=>rfl)) (A5 aJ (pv 7) ai (fun _ _=>rfl)) (aI _)) (@nY _ _ _ _ (A7 bF (A5 aJ (pv 8) ai (fun _ _=>rfl)) (A5 aJ (pv 8) ai (fun _ _=>rfl)) (aI _))))) (AV (AW hU)) aY) (A3 (A8 (9) sc.nd rfl (Or.inl rfl) (Bg Bu hr (by decide) rfl (AY (Bg Bz hr (by decide) rfl (AY (pv 1) (AY (pv 2) (AY ai (AY (A4 eX (pv 6) ai) af))))) af))) (A3 (A8 (10) sc.nd rfl (Or.inl rfl) (Bg BI hr (by decide) rfl (AY (pv 0) (AY (pv 9) (AY (A5 aJ (pv 8) ai (fun _ _=>rfl)) (AY (A5 aJ (pv 8) ai (fun _ _=>rfl)) af)))))) (A3 (@ij _ (7) _ _ _ _ _ _ _ _ _ (["_law_sign_here"]) (["_law_sign_here"]) ([]) _ _ _ _ sc.nd rfl (Or.inl rfl) (Bc rfl (by kernel_rfl)) rfl (@j7 _ _ _ _ (pv 7)) (fun _ _ _ _=>Bd (0) (show (["_law_sign_here"]:List Str).Nodup from by decide +kernel) rfl (Or.inl rfl)) (fun _ _ _ _=>cJ) (fun _ _ _ _=>by (exact (Bg Bu hr (by decide) rfl (AY (pv 0) af)))) (by intro _ ;rfl) (by rfl) (by first | exact .inl rfl | exact .inr rfl | assumption)) (AV (AW (Bh bF (pv 10) (Bg BI hr (by decide) rfl (AY (pv 0) (AY (A5 bG (pv 1) (pv 2) (fun _ _=>rfl)) (AY (A5 aJ (pv 7) ai (fun _ _=>rfl)) (AY (A5 aJ (pv 7) ai (fun _ _=>rfl)) af))))) (aI _)))))))))),?_⟩
  refine ⟨_,rfl,_,rfl,_,rfl,w,p,1,-1,rfl,hw,wl,.inl rfl,fun H1 s1=>?_⟩
  refine ⟨_,rfl,_,rfl,_,rfl,_,rfl,v,q,wy,-1,rfl,hv,vl,BP,fun H2 s2=>⟨(by show 2≤_;decide),fun l hl=>?_⟩⟩
  have s3:aA H2 (upd H2 l (.lst [tx [sgZ w p 1 (-1)],tx [sgZ v q wy (-1)]])):=aA.new hl
  have f3:(upd H2 l (.lst [tx [sgZ w p 1 (-1)],tx [sgZ v q wy (-1)]])) l=some (.lst [tx [sgZ w p 1 (-1)],tx [sgZ v q wy (-1)]]):=ag
  generalize upd H2 l (.lst [tx [sgZ w p 1 (-1)],tx [sgZ v q wy (-1)]])=H3 at s3 f3 ⊢
  have q3:=(s1.trans s2).trans s3
  refine ⟨_,rfl,_,rfl,_,rfl,w,p,1,(m:Int),rfl,hw,wl,.inl rfl,fun H4 s4=>?_⟩
  refine ⟨_,rfl,_,rfl,_,rfl,_,rfl,v,q,wy,(m:Int),rfl,hv,vl,BP,fun H5 s5=>⟨(by show 2≤_;decide),fun l2 hl2=>?_⟩⟩
  have s6:aA H5 (upd H5 l2 (.lst [tx [sgZ w p 1 (m:Int)],tx [sgZ v q wy (m:Int)]])):=aA.new hl2
  have f6:(upd H5 l2 (.lst [tx [sgZ w p 1 (m:Int)],tx [sgZ v q wy (m:Int)]])) l2=some (.lst [tx [sgZ w p 1 (m:Int)],tx [sgZ v q wy (m:Int)]]):=ag
  generalize upd H5 l2 (.lst [tx [sgZ w p 1 (m:Int)],tx [sgZ v q wy (m:Int)]])=H6 at s6 f6 ⊢
  have s36:=(s4.trans s5).trans s6
  have f36:=s36 _ _ f3
  have q6:=q3.trans s36
  have eE:∀ a b:L,decide (tx [a]=tx [b])=decide (a=b):=fun a b=>by rw [fc];exact zH.mpr ⟨fun e=>(xM e).1,fun e=>by rw [e]⟩
  refine ⟨_,rfl,l,_,_,_,rfl,rfl,SqL.of f36,rfl,_,rfl,l,_,_,_,rfl,rfl,SqL.of f36,rfl,rfl,_,rfl,?_⟩
  rw [eE]
  by_cases c1:sgZ w p 1 (-1)=sgZ v q wy (-1)
  ·have:=k _ q6
   rw [dY c1] at this
   rw [wF c1]
   exact vW (lH this)
  ·rw [wm c1]
   refine vX ?_
   refine ⟨_,rfl,l2,_,_,_,rfl,rfl,SqL.of f6,rfl,_,rfl,l2,_,_,_,rfl,rfl,SqL.of f6,rfl,rfl,_,rfl,?_⟩
   rw [eE]
   by_cases c2:sgZ w p 1 (m:Int)=sgZ v q wy (m:Int)
   ·have:=k _ q6
    unfold ptB at this
    rw [wm (p:=sgZ w p 1 (m:Int)≠sgZ v q wy (m:Int)) (fun z=>z c2),xU,yA,yA] at this
    rw [wF c2]
    exact lH this
   ·rw [wm c2]
    refine fW ?_
    rw [← lP c1 c2] at k
    unfold gf at k
    rw [wF m0,ym] at k
    refine ⟨_,rfl,_,rfl,_,rfl,_,_,rfl,rfl,w,p,1,(m:Int) - 1,rfl,hw,wl,.inl rfl,fun H7 s7=>⟨[sgZ w p 1 ((m:Int) - 1)],rfl,(by show 1≤_;decide),fun H8 s8=>?_⟩⟩
    rw [cq]
    have s68:=s7.trans s8
    refine ⟨_,rfl,_,rfl,_,rfl,l2,_,_,_,rfl,rfl,SqL.of (s68 _ _ f6),rfl,_,rfl,l2,_,_,_,rfl,rfl,SqL.of (s68 _ _ f6),rfl,u,kk,_,_,_,rfl,U,(mw _).2,(mw _).1,(mv _).1,c2,fun H9 s9=>?_⟩
    have s69:=s68.trans s9
    have q9:=q6.trans s69
    have f9:=s69 _ _ f36
    refine ⟨_,rfl,l,rfl,⟨_,SqL.of f9⟩,?_⟩
    refine gN (xs:=[tx [sgZ w p 1 (-1)],tx [sgZ v q wy (-1)]]) (own:=["_law_sign_here"]) (cap:=[]) (fun i ys σ H'=>∃ b:Option V,σ = [b]∧ys=([sgZ w p 1 (-1),sgZ v q wy (-1)].take i).map (fun x=>tx [inv x])∧aA H9 H') ⟨none,rfl,rfl,aA.refl _⟩ (fun i ys σ H' hi ⟨_,_,e,_⟩=>?_) (by show 2≤_;decide) (fun i ys σ H' ⟨_,_,_,q⟩=>SqL.of (q _ _ f9)) ?_ ?_
    ·rw [e,wq,wD];omega
    ·rintro i ys σ H10 y N hy ⟨b,rfl,rfl,s10⟩ hN
     have hy':([sgZ w p 1 (-1),sgZ v q wy (-1)].map fun x=>tx [x])[i]? = some y:=hy
     rw [xj] at hy'
     cases hz:([sgZ w p 1 (-1),sgZ v q wy (-1)])[i]? with
     | none=>rw [hz] at hy';cases hy'
     | some z =>
      rw [hz] at hy'
      obtain rfl:=wA hy'
      refine ⟨_,rfl,[z],rfl,(by show 1≤_;decide),fun H11 s11=>hN _ _ _ ⟨_,rfl,?_,s10.trans s11⟩⟩
      rw [mX _ hz,cq]
    ·rintro ys σ H10 l3 ⟨b,rfl,rfl,s10⟩ hl3
     have s11:=s10.trans (aA.new (o:=.lst ([tx [inv (sgZ w p 1 (-1))],tx [inv (sgZ v q wy (-1))]])) hl3)
     have f11:(upd H10 l3 (.lst ([tx [inv (sgZ w p 1 (-1))],tx [inv (sgZ v q wy (-1))]]))) l3=some (.lst ([tx [inv (sgZ w p 1 (-1))],tx [inv (sgZ v q wy (-1))]])):=ag
     show dC _ _ _ _ (upd H10 l3 (.lst ([tx [inv (sgZ w p 1 (-1))],tx [inv (sgZ v q wy (-1))]])))
     generalize upd H10 l3 (.lst ([tx [inv (sgZ w p 1 (-1))],tx [inv (sgZ v q wy (-1))]]))=H11 at s11 f11 ⊢
     have z0:sgZ w p 1 0=atZ w p:=by rw [sg1,AU]
     refine ⟨_,rfl,_,rfl,_,rfl,_,rfl,_,_,_,rfl,rfl,(by rw [ae];omega),lQ p0 p1,_,rfl,l3,_,_,_,rfl,rfl,SqL.of f11,rfl,_,rfl,l3,_,_,_,rfl,rfl,SqL.of f11,rfl,?_⟩
     have nb:inv (sgZ w p 1 (-1))≠inv (sgZ v q wy (-1)):=fun z=>c1 (by have:=wR inv z;rwa [bQ,bQ] at this)
     refine ⟨u,kk,atZ w p,_,_,rfl,U,(by rw [← z0];exact (mw 0).1),(mw _).2,(mv _).2,nb,fun H12 s12=>⟨rfl,?_⟩⟩
     have:=k _ ((q9.trans s11).trans s12)
     rw [z0] at this
     refine cast (wR (fun b=>Q (.bl b) H12) ?_) this
     exact pU _ _
theorem l_ {t u:TS}{D:gq}{σ:L2.St}{H:Hp}(R:L2.St→Hp→Prop)(h1:∀ nx:L2.St→Hp→Prop,(∀ σ2 H2,R σ2 H2→nx σ2 H2)→t ⟨nx,D.rt,D.bk,D.ct⟩ σ H)(h2:∀ σ2 H2,R σ2 H2→u D σ2 H2):tQ t u D σ H:=h1 _ h2
theorem ma {nx:L2.St→Hp→Prop}{rt:VK}{bk ct:L2.St→Hp→Prop}{i:Nat}{σ:L2.St}{x:V}{H:Hp}(h:nx (σ.set i (some x)) H):dC (j4 i) ⟨nx,rt,bk,ct⟩ σ x H:=h
def Fnd (H:Hp)(l:Addr)(ks:List Lk)(H':Hp):Prop:=∃ zs:List (Addr × Lk),aA H H'∧H' l=some (.lst ((zs.map (·.1)).map V.ref))∧LkA H' zs∧zs.map (·.2)=ks
theorem Fnd.same {H H1 H2:Hp}{l:Addr}{ks:List Lk}(h:Fnd H l ks H1)(s:aA H1 H2):Fnd H l ks H2:=by
 obtain ⟨zs,h1,h2,h3,h4⟩:=h
 exact ⟨zs,h1.trans s,s _ _ h2,h3.same s,h4⟩
theorem Fnd.add {H H1:Hp}{l r:Addr}{ks:List Lk}{m:Lk}(hl:H l=none)(h:Fnd H l ks H1)(hr:lI H1 r m):∃ xs,H1 l=some (.lst xs)∧xs.length=ks.length∧Fnd H l (ks++[m]) (upd H1 l (.lst (xs++[.ref r]))):=by
 obtain ⟨zs,h1,h2,h3,h4⟩:=h
 refine ⟨_,h2,by rw [← h4];simp only [wq],zs++[(r,m)],cE h1 hl,?_,?_,by rw [xr,h4];rfl⟩
 ·rw [ag,xr,xr]
  rfl
 ·exact (h3.app (ys:=[(r,m)]) fun z hz=>by rw [wc.mp hz];exact hr).to (cM h2)
theorem tf {u:List L}{W:List (List L)}{s t:P2}(i:Nat):(mB u W s t++([hE u W s t,fi u W s t].take i).flatten).length≤3:=by
 have h:=oH u W s t
 unfold lkZ at h
 rw [wj,wj] at h
 rw [wj]
 match i with
 | 0=>show _+0≤3;omega
 | 1=>show _+(hE u W s t++[]).length≤3;rw [xw];omega
 | i+2=>rw [xm (by show 2≤i+2;omega)];show _+(hE u W s t++(fi u W s t++[])).length≤3;rw [xw,wj];omega
abbrev me:Stmt:=top 32
theorem qt:aG ["_law_surface","_law_ways","_law_one","_law_other","_law_mine","_law_theirs","_law_p","_law_q","_law_found","_law_word","_law_way","_law_many","_law_first"] ["_law_surface","_law_ways","_law_one","_law_other"] (ak me):=⟨rfl,rfl,rfl,by decide +kernel,rfl,by decide +kernel,by decide +kernel⟩
def _root_.Bo {a b c d e f g}:=@dJ a b c d e f g
theorem tj (D:Df K mg "_law_linked_at" me)(T:Bt K w mg aB)(F_four:Fnc P w K mg base "_law_four_ends" ["_law_surface","_law_ways","_law_one","_law_other"] 3 lO)(F_lrun:Fnc P w K mg base "_law_run" ["_law_mine","_law_p","_law_theirs","_law_q","_law_way"] 3 lN)(B_:Fnc P w K mg base "_law_parted" ["_law_surface","_law_mine","_law_p","_law_theirs","_law_q","_law_way","_law_many"] 3 iD):Fnc P w K mg base "_law_linked_at" ["_law_surface","_law_ways","_law_one","_law_other"] 4 (lK lkZ):=by
 have sc:=qt
 refine D.ok sc (fun _ _ _ _ _ _ us hl=>by obtain ⟨_,_,_,_,rfl⟩:=jU hl;rfl) (fun vs H Q E h=>?_) (fun f Bx A outer s H vs Q E hr h=>?_)
 ·obtain ⟨u,a,x,y,n,W,s,t,rfl,_⟩:=h
  rfl
 ·obtain ⟨u,a,x,y,n,W,s,t,rfl,U,hW,hx,hy,os,ot,k⟩:=h
  have BL:=aX
  obtain ⟨_,ats,Rs,ls,lps,is⟩:=hW.ok.get os.1 os.2.1
  obtain ⟨_,att,Rt,lt,lpt,it⟩:=hW.ok.get ot.1 ot.2.1
  refine ⟨_,(A3 (Bn (4) (5) rfl sc.nd rfl rfl (by decide) rfl rfl (AY (A5 aN (pv 1) (A5 aN (pv 2) ai (fun _ _=>rfl)) (fun _ _=>rfl)) (AY (A5 aN (pv 1) (A5 aN (pv 3) ai (fun _ _=>rfl)) (fun _ _=>rfl)) af)) rfl) (A3 (Bn (6) (7) rfl sc.nd rfl rfl (by decide) rfl rfl (AY (A5 aN (pv 2) ai (fun _ _=>rfl)) (AY (A5 aN (pv 3) ai (fun _ _=>rfl)) af)) rfl) (A3 (A8 (8) sc.nd rfl (Or.inl rfl) (AX af)) (A3 (A6 (A_ (Bo (A7 (iA (K:=K) rfl (by exact lt0 hr.units)) (pv 2) (pv 3) (aI _)) (@dA _ _ _ _ (@cH _ _ _ (Bg F_four hr (by decide) rfl (AY (pv 0) (AY (pv 1) (AY (pv 2) (AY (pv 3) af))))) (fun _=>rfl))))) (AV (Bk (Ba xg xH xI bI (pv 8) (AY (Bi (AY bp (AY (pv 2) (AY (pv 3) af)))) af)))) aY) (A3 (Bl xo rfl (@j8 _ _ _ _ (Bi (AY (Bi (AY bp (AY ai af))) (AY (Bi (AY bp (AY (Be cf ai) af))) af)))) (@qU _ _ _ _ _ _ rfl (@iS _ _ _ _ _ (Bd (9) sc.nd rfl (Or.inl rfl)) (@iS _ _ _ _ _ (Bd (10) sc.nd rfl (Or.inl rfl)) oR (by rfl)) (by rfl)) (by rfl) (by rfl)) (A3 (A8 (11) sc.nd rfl (Or.inl rfl) (Bg F_lrun hr (by decide) rfl (Bj (pv 4) (Bj (pv 6) (Bj (pv 5) (Bj (pv 7) (Bj (pv 10) af))))))) (A3 (A8 (12) sc.nd rfl (Or.inl rfl) (Bf (A7 hX (pv 10) ai (aI _)) (pv 3) (Bi (AY (A5 aN (pv 3) ai (fun _ _=>rfl)) (AY (A4 b_ (A4 br (A4 eX (pv 7) (pv 11)) ai) (A9 aE (by rfl) T.len wQ (AY (pv 5) af))) af))))) (AV (A6 (A_ (Bo (A7 (iA (K:=K) rfl (by exact lt0 hr.units)) (pv 2) (pv 12) (aI _)) (Bo (A7 hX (pv 11) ai (aI _)) (@dA _ _ _ _ (@cH _ _ _ (Bg B_ hr (by decide) rfl (Bj (pv 0) (Bj (pv 4) (Bj (pv 6) (Bj (pv 5) (Bj (pv 7) (Bj (pv 10) (Bj (pv 11) af)))))))) (fun _=>rfl)))))) (AV (Bk (Ba xg xH xI bI (pv 8) (AY (Bi (AY (pv 9) (AY (pv 2) (AY (pv 3) (AY (pv 11) af))))) af)))) aY))))) (AV (AW (pv 8)))))))),?_⟩
  refine ⟨_,rfl,_,rfl,x,_,_,_,rfl,rfl,SqT.of hx,rfl,a,_,_,_,rfl,rfl,SqT.of hW.at_,ats,_,rfl,_,rfl,y,_,_,_,rfl,rfl,SqT.of hy,rfl,a,_,_,_,rfl,rfl,SqT.of hW.at_,att,_,_,rfl,?_⟩
  refine ⟨_,rfl,x,_,_,_,rfl,rfl,SqT.of hx,rfl,_,rfl,y,_,_,_,rfl,rfl,SqT.of hy,rfl,_,_,rfl,?_⟩
  refine ⟨(by show 0≤_;decide),fun l hl=>?_⟩
  have F0:Fnd H l [] (upd H l (.lst [])):=⟨[],aA.new hl,ag,(fun _ h=>absurd h (by simp)),rfl⟩
  generalize upd H l (.lst [])=H0 at F0 ⊢
  have sm:∀ {ks H'},Fnd H l ks H'→aA H H':=fun ⟨_,h,_⟩=>h
  refine ma ?_
  refine l_ (fun σ H'=>σ = [some (tx u),some (.ref a),some (.ref x),some (.ref y),some (tx (wyZ W s.1)),some (tx (wyZ W t.1)),some (.int s.2),some (.int t.2),some (.ref l),none,none,none,none]∧Fnd H l (mB u W s t) H') ?_ ?_
  ·intro nx hn
   refine ⟨_,rfl,_,rfl,x,y,[s.1,s.2],[t.1,t.2],rfl,rfl,SqT.of (sm F0 _ _ hx),SqT.of (sm F0 _ _ hy),_,rfl,?_⟩
   show bU _ _ _ (ltP s t) _
   have eb:mB u W s t=if ltP s t && dI u (inv (fZ W s 1 0)) (fZ W s 1 1) (inv (fZ W t 1 0)) (fZ W t 1 1) then [.b s t] else []:=rfl
   by_cases c:ltP s t=true
   ·rw [c,ym] at eb
    rw [c]
    refine jO ⟨_,rfl,_,rfl,_,rfl,_,rfl,u,a,x,y,n,W,s,t,rfl,U,hW.same (sm F0),sm F0 _ _ hx,sm F0 _ _ hy,os,ot,fun H1 s1=>⟨_,rfl,?_⟩⟩
    have F1:=F0.same s1
    by_cases c2:dI u (inv (fZ W s 1 0)) (fZ W s 1 1) (inv (fZ W t 1 0)) (fZ W t 1 1)=true
    ·rw [c2] at eb
     rw [c2]
     obtain ⟨_,_,f1,_⟩:=id F1
     refine lH ⟨_,rfl,.inl ⟨rfl,_,SqL.of f1⟩,_,rfl,_,rfl,(by show 3≤_;decide),fun r hr'=>?_⟩
     have F2:=F1.same (aA.new (o:=.tup [.str "beside",.ref x,.ref y]) hr')
     obtain ⟨xs,g2,hlen,F3⟩:=F2.add (m:=.b s t) hl ⟨x,y,ag,sm F2 _ _ hx,sm F2 _ _ hy⟩
     exact ⟨l,xs,_,rfl,rfl,g2,(by rw [hlen];show 0 < _;omega),hn _ _ ⟨rfl,by rw [eb];exact F3⟩⟩
    ·rw [xZ] at c2
     rw [c2] at eb
     rw [c2]
     exact fW (hn _ _ ⟨rfl,by rw [eb];exact F1⟩)
   ·rw [xZ] at c
    rw [c,xU] at eb
    rw [c]
    exact jP (fW (hn _ _ ⟨rfl,by rw [eb];exact F0⟩))
  ·rintro σ H1 ⟨rfl,F1⟩
   refine ⟨(by show 2≤_;decide),fun t1 ht1=>?_⟩
   have s2:aA H1 (upd H1 t1 (.tup [.str "along",.int 1])):=aA.new ht1
   have g2:(upd H1 t1 (.tup [.str "along",.int 1])) t1=some (.tup [.str "along",.int 1]):=ag
   generalize upd H1 t1 (.tup [.str "along",.int 1])=H2 at s2 g2 ⊢
   refine ⟨_,rfl,(by show 2≤_;decide),fun t2 ht2=>?_⟩
   have s3:aA H2 (upd H2 t2 (.tup [.str "against",.int (-1)])):=aA.new ht2
   have g3:(upd H2 t2 (.tup [.str "against",.int (-1)])) t2=some (.tup [.str "against",.int (-1)]):=ag
   generalize upd H2 t2 (.tup [.str "against",.int (-1)])=H3 at s3 g3 ⊢
   refine ⟨(by show 2≤_;decide),fun t3 ht3=>?_⟩
   have s4:aA H3 (upd H3 t3 (.tup [.ref t1,.ref t2])):=aA.new ht3
   have g4:(upd H3 t3 (.tup [.ref t1,.ref t2])) t3=some (.tup [.ref t1,.ref t2]):=ag
   generalize upd H3 t3 (.tup [.ref t1,.ref t2])=H4 at s4 g4 ⊢
   have F4:=((F1.same s2).same s3).same s4
   have g2:=s4 _ _ (s3 _ _ g2)
   have g3:=s4 _ _ g3
   refine ⟨t3,rfl,⟨_,SqT.of g4⟩,?_⟩
   refine hV (xs:=[V.ref t1,.ref t2]) (fun i σ H'=>∃ v9 v10 v11 v12:Option V,σ = [some (tx u),some (.ref a),some (.ref x),some (.ref y),some (tx (wyZ W s.1)),some (tx (wyZ W t.1)),some (.int s.2),some (.int t.2),some (.ref l),v9,v10,v11,v12]∧Fnd H l (mB u W s t++([hE u W s t,fi u W s t].take i).flatten) H'∧H' t1=some (.tup [.str "along",.int 1])∧H' t2=some (.tup [.str "against",.int (-1)])∧H' t3=some (.tup [.ref t1,.ref t2])) ⟨none,none,none,none,rfl,by rw [show ([hE u W s t,fi u W s t].take 0).flatten=[] from rfl,xw];exact F4,g2,g3,g4⟩ (fun i σ H' _ ⟨_,_,_,_,_,_,_,_,e⟩=>SqT.of e) ?_ ?_
   ·rintro i z σ H5 hz ⟨v9,v10,v11,v12,rfl,F5,k1,k2,k3⟩
    obtain ⟨tz,wd,wy,mk,fs,rfl,kz,BP,hmk,hfs,ez⟩:∃ (tz:Addr) (wd:Str) (wy:Int) (mk:Nat→Lk) (fs:P2),z = .ref tz∧H5 tz=some (.tup [.str wd,.int wy])∧(wy=1 ∨ wy = -1)∧(∀ {H':Hp} {r:Addr} {m:Nat},H' r=some (.tup [.str wd,.ref x,.ref y,.int (m:Nat)])→Sp2 H' x s→Sp2 H' y t→lI H' r (mk m))∧fs=(if wy=1 then t else jQ W s t (nZ W s t wy))∧([hE u W s t,fi u W s t].take (i+1)).flatten=([hE u W s t,fi u W s t].take i).flatten++(if ltP s fs && ptB u (fZ W s 1) (fZ W t wy) (nZ W s t wy) then [mk (nZ W s t wy)] else []):=by
     match i,hz with
     | 0,hz=>exact ⟨t1,"along",1,.a s t,t,(wA hz).symm,k1,.inl rfl,fun h1 h2 h3=>⟨x,y,h1,h2,h3⟩,rfl,by show hE u W s t++[]=_;rw [xw];rfl⟩
     | 1,hz=>exact ⟨t2,"against",-1,.g s t,jQ W s t (nZ W s t (-1)),(wA hz).symm,k2,.inr rfl,fun h1 h2 h3=>⟨x,y,h1,h2,h3⟩,rfl,by show hE u W s t++(fi u W s t++[])=(hE u W s t++[])++_;rw [xw,xw];rfl⟩
     | i+2,hz=>simp at hz
    have Fs:=sm F5
    have en:frN (sgZ (wyZ W s.1) s.2 1) (sgZ (wyZ W t.1) t.2 wy) 0 ((wyZ W s.1).length+(wyZ W t.1).length)=nZ W s t wy:=rfl
    refine ⟨tz,_,rfl,SqT.of kz,rfl,_,_,rfl,_,_,rfl,rfl,?_⟩
    refine ⟨_,rfl,_,rfl,_,rfl,_,rfl,_,rfl,wyZ W s.1,wyZ W t.1,s.2,t.2,wy,rfl,Rs.ne,Rt.ne,by omega,by omega,BP,fun H6 s6=>?_⟩
    rw [en]
    have F6:=F5.same s6
    refine ma ?_
    refine l_ (fun σ H'=>∃ r:Addr,σ = [some (tx u),some (.ref a),some (.ref x),some (.ref y),some (tx (wyZ W s.1)),some (tx (wyZ W t.1)),some (.int s.2),some (.int t.2),some (.ref l),some (.str wd),some (.int wy),some (.int (nZ W s t wy:Nat)),some (.ref r)]∧aA H6 H'∧Sp2 H' r fs) ?_ ?_
    ·intro nx hn
     refine ⟨_,rfl,_,_,rfl,rfl,_,rfl,?_⟩
     have hy6:=s6 _ _ (Fs _ _ hy)
     rcases BP with rfl | rfl
     ·rw [if_pos rfl] at hfs
      exact tK ⟨_,rfl,hn _ _ ⟨y,rfl,aA.refl _,by rw [hfs];exact hy6⟩⟩
     ·rw [if_neg (by decide)] at hfs
      refine tL ⟨_,rfl,y,_,_,_,rfl,rfl,SqT.of hy6,rfl,_,rfl,_,rfl,_,_,rfl,rfl,_,_,rfl,rfl,_,rfl,_,rfl,(by rw [ae];omega),_,_,rfl,rfl,(by rw [ae];omega),(by show 2≤_;decide),fun r hr'=>?_⟩
      rw [ae]
      exact hn _ _ ⟨r,rfl,aA.new hr',by rw [hfs];exact ag⟩
    ·rintro σ H7 ⟨r,rfl,s7,g7⟩
     have F7:=F6.same s7
     have s57:=s6.trans s7
     have fin:∀ (b:Bool) (H':Hp),b=(ltP s fs && ptB u (fZ W s 1) (fZ W t wy) (nZ W s t wy))→b=false→aA H7 H'→∃ v9 v10 v11 v12:Option V,[some (tx u),some (V.ref a),some (.ref x),some (.ref y),some (tx (wyZ W s.1)),some (tx (wyZ W t.1)),some (.int s.2),some (.int t.2),some (.ref l),some (.str wd),some (.int wy),some (.int (nZ W s t wy:Nat)),some (.ref r)]=[some (tx u),some (.ref a),some (.ref x),some (.ref y),some (tx (wyZ W s.1)),some (tx (wyZ W t.1)),some (.int s.2),some (.int t.2),some (.ref l),v9,v10,v11,v12]∧Fnd H l (mB u W s t++([hE u W s t,fi u W s t].take (i+1)).flatten) H'∧H' t1=some (.tup [.str "along",.int 1])∧H' t2=some (.tup [.str "against",.int (-1)])∧H' t3=some (.tup [.ref t1,.ref t2]):=fun b H' e e2 s8=>by
      have s58:=s57.trans s8
      refine ⟨_,_,_,_,rfl,?_,s58 _ _ k1,s58 _ _ k2,s58 _ _ k3⟩
      rw [ez,← e,e2,if_neg (by decide),xw]
      exact F7.same s8
     have q7:=sm F7
     refine ⟨_,rfl,_,rfl,x,r,[s.1,s.2],[fs.1,fs.2],rfl,rfl,SqT.of (q7 _ _ hx),SqT.of g7,_,rfl,?_⟩
     show bU _ _ _ (ltP s fs) _
     by_cases c:ltP s fs=true
     ·rw [c]
      refine jO ⟨_,rfl,_,_,rfl,rfl,_,rfl,?_⟩
      by_cases c0:0 < nZ W s t wy
      ·refine (wR (fun b=>bU _ _ _ b _) (wF (show (0:Int) < ((nZ W s t wy:Nat):Int) by omega))).mpr ?_
       refine jO ⟨_,rfl,_,rfl,_,rfl,_,rfl,_,rfl,_,rfl,_,rfl,u,wyZ W s.1,wyZ W t.1,n,nZ W s t wy,s.2,t.2,wy,rfl,U,Rs.ne,Rt.ne,by omega,by omega,is,it,os.2.2.1,os.2.2.2,BP,c0,fun H8 s8=>⟨_,rfl,?_⟩⟩
       show cj _ _ _ _ (ptB u (fZ W s 1) (fZ W t wy) (nZ W s t wy)) _
       by_cases c2:ptB u (fZ W s 1) (fZ W t wy) (nZ W s t wy)=true
       ·rw [c2]
        have F8:=F7.same s8
        obtain ⟨_,_,f8,_⟩:=id F8
        refine lH ⟨_,rfl,.inl ⟨rfl,_,SqL.of f8⟩,_,rfl,_,rfl,_,rfl,_,rfl,(by show 4≤_;decide),fun r9 hr9=>?_⟩
        have s9:=aA.new (o:=.tup [.str wd,.ref x,.ref y,.int (nZ W s t wy:Nat)]) hr9
        have F9:=F8.same s9
        obtain ⟨xs,g9,hlen,F10⟩:=F9.add (m:=mk (nZ W s t wy)) hl (hmk ag (sm F9 _ _ hx) (sm F9 _ _ hy))
        have s59:=(s57.trans s8).trans s9
        have ot:=cM (o:=.lst (xs++[.ref r9])) g9
        refine ⟨l,xs,_,rfl,rfl,g9,?_,_,_,_,_,rfl,?_,ot _ _ (s59 _ _ k1),ot _ _ (s59 _ _ k2),ot _ _ (s59 _ _ k3)⟩
        ·rw [hlen]
         exact Nat.lt_of_le_of_lt (tf i) (by omega)
        ·rw [ez,c,c2,← wt]
         exact F10
       ·rw [xZ] at c2
        rw [c2]
        exact fW (fin _ _ rfl (by rw [c2,yA]) s8)
      ·refine (wR (fun b=>bU _ _ _ b _) (wm (show ¬ (0:Int) < ((nZ W s t wy:Nat):Int) by omega))).mpr ?_
       refine jP (fW (fin _ _ rfl ?_ (aA.refl _)))
       unfold ptB
       rw [wm c0,xU,yA]
     ·rw [xZ] at c
      rw [c]
      exact jP (fW (fin _ _ rfl (by rw [c,xU]) (aA.refl _)))
   ·rintro σ H5 ⟨v9,v10,v11,v12,rfl,⟨zs,s5,f5,k5,e5⟩,_⟩
    refine ⟨_,rfl,k l zs H5 hl s5 f5 k5 ?_⟩
    rw [e5]
    unfold lkZ
    show mB u W s t++(hE u W s t++(fi u W s t++[]))=_
    rw [xw]
abbrev mf:Stmt:=top 33
theorem qu:aG ["_law_surface","_law_ways","_law_i","_law_j","_law_found","_law_p","_law_q"] ["_law_surface","_law_ways","_law_i","_law_j"] (ak mf):=⟨rfl,rfl,rfl,by decide +kernel,rfl,by decide +kernel,by decide +kernel⟩
theorem tm (D:Df K mg "_law_linked" mf)(T:Bt K w mg aB)(F_lkat:Fnc P w K mg base "_law_linked_at" ["_law_surface","_law_ways","_law_one","_law_other"] 4 (lK lkZ)):Fnc P w K mg base "_law_linked" ["_law_surface","_law_ways","_law_i","_law_j"] 5 eO:=by
 have sc:=qu
 refine D.ok sc (fun _ _ _ _ _ _ us hl=>by obtain ⟨_,_,_,_,rfl⟩:=jU hl;rfl) (fun vs H Q E h=>?_) (fun f Bx A outer s H vs Q E hr h=>?_)
 ·obtain ⟨u,a,n,W,i,j,rfl,_⟩:=h
  rfl
 ·obtain ⟨u,a,n,W,i,j,rfl,U,hW,i0,i1,j0,j1,k⟩:=h
  have BL:=aX
  obtain ⟨_,ati,_,li,_,_⟩:=hW.ok.get i0 i1
  obtain ⟨_,atj,_,lj,_,_⟩:=hW.ok.get j0 j1
  refine ⟨_,(A3 (A8 (4) sc.nd rfl (Or.inl rfl) (AX af)) (A3 (Bl xo rfl (Bm rfl T.range (AY (A9 aE (by rfl) T.len wQ (AY (A5 aN (pv 1) (pv 2) (fun _ _=>rfl)) af)) af)) (Bd (5) sc.nd rfl (Or.inl rfl)) (AV (Bl xo rfl (Bm rfl T.range (AY (A9 aE (by rfl) T.len wQ (AY (A5 aN (pv 1) (pv 3) (fun _ _=>rfl)) af)) af)) (Bd (6) sc.nd rfl (Or.inl rfl)) (AV (Bk (Ba xg yI yJ c9 (pv 4) (AY (Bg F_lkat hr (by decide) rfl (AY (pv 0) (AY (pv 1) (AY (Bi (AY (pv 2) (AY (pv 5) af))) (AY (Bi (AY (pv 3) (AY (pv 6) af))) af))))) af))))))) (AV (AW (A9 (@cX _ (.s) (shL) _ (fun z=>by cases z) (by exact hr.units) rfl) (by rfl) T.sorted i6 (AY (pv 4) af)))))),?_⟩
  refine ⟨(by show 0≤_;decide),fun l hl=>?_⟩
  have s0:aA H (upd H l (.lst [])):=aA.new hl
  have f0:(upd H l (.lst [])) l=some (.lst []):=ag
  generalize upd H l (.lst [])=H0 at s0 f0 ⊢
  refine ⟨_,rfl,_,rfl,a,_,_,_,rfl,rfl,SqT.of (s0 _ _ hW.at_),ati,_,rfl,(by rw [ae];omega),_,rfl,?_⟩
  rw [ae]
  refine ⟨by omega,by omega,?_⟩
  refine a_ (lo:=0) (n:=((wyZ W i).length:Int).toNat) (fun m σ H'=>∃ (v1 v2:Option V) (zs:List (Addr × Lk)),σ = [some (tx u),some (.ref a),some (.int i),some (.int j),some (.ref l),v1,v2]∧aA H H'∧H' l=some (.lst ((zs.map (·.1)).map V.ref))∧LkA H' zs∧(zs.map (·.2)).Perm (jr u W i j m)) ⟨none,none,[],rfl,s0,f0,(fun _ h=>absurd h (by simp)),yR _⟩ ?_ ?_
  ·rintro p σ H1 hp ⟨v1,v2,zs,rfl,s1,f1,k1,e1⟩
   have hp':p < (wyZ W i).length:=by omega
   refine ⟨_,rfl,_,rfl,a,_,_,_,rfl,rfl,SqT.of (s1 _ _ hW.at_),atj,_,rfl,(by rw [ae];omega),_,rfl,?_⟩
   rw [ae]
   refine ⟨by omega,by omega,?_⟩
   rw [show ((0:Int)+(p:Int))=(p:Int) by omega]
   refine a_ (lo:=0) (n:=((wyZ W j).length:Int).toNat) (fun m σ H'=>∃ (v2:Option V) (zs:List (Addr × Lk)),σ = [some (tx u),some (.ref a),some (.int i),some (.int j),some (.ref l),some (.int (p:Int)),v2]∧aA H H'∧H' l=some (.lst ((zs.map (·.1)).map V.ref))∧LkA H' zs∧(zs.map (·.2)).Perm (jr u W i j p++jR u W i j p m)) ⟨v2,zs,rfl,s1,f1,k1,by rw [show jR u W i j p 0=[] from rfl,xw];exact e1⟩ ?_ ?_
   ·clear e1 k1 f1 s1 zs
    rintro q σ H2 hq ⟨v2,zs,rfl,s2,f2,k2,e2⟩
    have hq':q < (wyZ W j).length:=by omega
    rw [show ((0:Int)+(q:Int))=(q:Int) by omega]
    refine ⟨_,rfl,.inl ⟨rfl,_,SqL.of f2⟩,_,rfl,_,rfl,_,rfl,_,rfl,(by show 2≤_;decide),fun x hx=>?_⟩
    have s3:aA H2 (upd H2 x (.tup [.int i,.int (p:Int)])):=aA.new hx
    have f3:(upd H2 x (.tup [.int i,.int (p:Int)])) x=some (.tup [.int i,.int (p:Int)]):=ag
    generalize upd H2 x (.tup [.int i,.int (p:Int)])=H3 at s3 f3 ⊢
    refine ⟨_,rfl,_,rfl,(by show 2≤_;decide),fun y hy=>?_⟩
    have s4:aA H3 (upd H3 y (.tup [.int j,.int (q:Int)])):=aA.new hy
    have f4:(upd H3 y (.tup [.int j,.int (q:Int)])) y=some (.tup [.int j,.int (q:Int)]):=ag
    generalize upd H3 y (.tup [.int j,.int (q:Int)])=H4 at s4 f4 ⊢
    have s24:=s3.trans s4
    refine ⟨u,a,x,y,n,W,(i,(p:Int)),(j,(q:Int)),rfl,U,hW.same (s2.trans s24),s4 _ _ f3,f4,⟨i0,i1,by omega,by show (p:Int) < ((wyZ W i).length:Int);omega⟩,⟨j0,j1,by omega,by show (q:Int) < ((wyZ W j).length:Int);omega⟩,fun l5 z5 H5 n5 s5 f5 k5 e5=>?_⟩
    have s25:=s24.trans s5
    have g2:=s25 _ _ f2
    have ez:(z5.map (·.2)).Perm (lkZ u W (i,(p:Int)) (j,(q:Int))):=by rw [e5]
    have en:((zs++z5).map (·.2)).Perm (jr u W i j p++jR u W i j p (q+1)):=by
     rw [xr,fY,← wt]
     exact e2.append ez
    have hlen:zs.length+z5.length≤3*30*p+3*(q+1):=by
     have h1:=en.length_eq
     rw [wq,wj,wj] at h1
     have h2:=eN u W i j lj p
     have h3:=gc u W i j p (q+1)
     omega
    refine ⟨l,l5,_,_,rfl,rfl,g2,f5,(by simp only [wq];omega),?_⟩
    rw [dZ]
    exact ⟨_,zs++z5,rfl,cE (s2.trans s25) hl,ag,((k2.same s25).app k5).to (cM g2),en⟩
   ·clear e1 k1 f1 s1 zs
    rintro σ H2 ⟨v2,zs,rfl,s2,f2,k2,e2⟩
    refine ⟨_,_,zs,rfl,s2,f2,k2,?_⟩
    rw [f_]
    exact e2
  ·rintro σ H1 ⟨v1,v2,zs,rfl,s1,f1,k1,e1⟩
   have em:zs.map (·.1)=(zs.map fun z=>(z.1,z.2.key)).map (·.1):=by rw [xT];rfl
   rw [em] at f1
   refine ⟨_,rfl,l,zs.map fun z=>(z.1,z.2.key),rfl,.inl (SqL.of f1),fun z hz=>?_,fun p ks hp pm pw=>?_⟩
   ·obtain ⟨y,hy,rfl⟩:=xY.mp hz
    exact (k1 y hy).kd
   ·obtain ⟨ys,h1,h2⟩:=c6 (fun z:Addr × Lk=>(z.1,z.2.key)) pm.symm zs rfl
    have e2:ks.map (·.1)=ys.map (·.1):=by rw [h2,xT];rfl
    have e3:ks.map (·.2)=(ys.map (·.2)).map Lk.key:=by rw [h2,xT,xT];rfl
    rw [e2]
    rw [e3] at pw
    refine k p ys _ (s1.free hp) (s1.trans (aA.new hp)) ag (fun z hz=>?_) ((h1.map _).trans e1) pw
    exact (k1 z (h1.mem_iff.mp hz)).to fun b o e=>aA.new hp _ _ e
abbrev qv:Stmt:=top 22
theorem tp:aG ["_law_tape_here","_law_most","_law_row","_law_k","_law_sign_here"] ["_law_tape_here","_law_most"] (ak qv):=⟨rfl,rfl,rfl,by decide +kernel,rfl,by decide +kernel,by decide +kernel⟩
theorem uZ (D:Df K mg "_law_any_row" qv)(T:Bt K w mg aB)(Bs:Fnc P w K mg base "_law_draw" ["_law_tape_here","_law_many"] 1 cx):Fnc P w K mg base "_law_any_row" ["_law_tape_here","_law_most"] 2 oK:=by
 have sc:=tp
 refine D.ok sc (fun _ _ _ _ _ _ us hl=>by obtain ⟨_,_,rfl⟩:=qJ hl;rfl) (fun vs H Q E h=>?_) (fun f Bx A outer s H vs Q E hr h=>?_)
 ·obtain ⟨d,c,m,rfl,_⟩:=h
  rfl
 ·obtain ⟨d,c,m,rfl,F,m1,m6,k⟩:=h
  have BL:=aX
  refine ⟨_,(A3 (A8 (2) sc.nd rfl (Or.inl rfl) (AX af)) (A3 (Bl xo rfl (Bm rfl T.range (AY (A4 br ai (Bg Bs hr (by decide) rfl (AY (pv 0) (AY (pv 1) af)))) af)) (Bd (3) sc.nd rfl (Or.inl rfl)) (AV (Bl xo rfl (@j8 _ _ _ _ (Bi (AY (A5 bG bp (pv 3) (fun _ _=>rfl)) (AY (A5 bG bp (pv 3) (fun _ _=>rfl)) af)))) (Bd (4) sc.nd rfl (Or.inl rfl)) (AV (Bk (Ba xg z_ PySem.F.type_list_insert kN (pv 2) (AY (Bg Bs hr (by decide) rfl (AY (pv 0) (AY (A4 br (A9 aS (by rfl) T.len wQ (AY (pv 2) af)) ai) af))) (AY (pv 4) af)))))))) (AV (AW (Ba w9 yd ye dD bp (AY (pv 2) af)))))),?_⟩
  refine ⟨(by show 0≤sizeLine;decide),fun p hp=>?_⟩
  have hpd:=F.ne hp
  have hpc:=F.nec hp
  refine ⟨_,rfl,_,rfl,d,c,m,rfl,F.new hp,by omega,by omega,fun r H1 r0 r1 F1 sb1=>?_⟩
  have f1:=sb1 _ _ hpd ag
  have sb1:=((aA.new (o:=.lst []) hp).b (d:=d)).trans sb1
  refine ⟨_,_,rfl,rfl,_,rfl,by omega,by omega,?_⟩
  refine a_ (lo:=0) (n:=(1+r).toNat) (fun i σ H'=>∃ (a b:Option V) (W:List L),σ = [some (.ref d),some (.int m),some (.ref p),a,b]∧H' p=some (.lst (bo W))∧W.Perm (fam i)∧Tp H' d c∧bq d H H') ⟨none,none,[],rfl,f1,yR _,F1,sb1⟩ ?_ ?_
  ·rintro i σ H2 hi ⟨a,b,W,rfl,hW,pW,F2,sb2⟩
   have hi:i < 6:=by omega
   rw [Int.zero_add]
   have lW:(bo W).length≤12:=by
    obtain ⟨_,_,c⟩:=gO ⟨i,by omega⟩
    have c:(fam i).length=2*i:=c
    have:=pW.length_eq
    rw [aK]
    omega
   refine ⟨_,rfl,_,_,_,rfl,rfl,(by rw [eG];omega),sm_at hi,_,rfl,_,_,_,rfl,rfl,(by rw [eH];omega),uz hi,?_⟩
   refine ⟨(cD (n:=2) (by decide)),fun t ht=>?_⟩
   generalize ex:(⟨i,by omega⟩:L)=x
   generalize ey:(⟨i+6,by omega⟩:L)=y
   have htp:t≠p:=(aC hW ht).symm
   have htd:t≠d:=F2.ne ht
   refine ⟨t,rfl,⟨_,SqT.of ag⟩,hV (xs:=[tx [x],tx [y]]) (fun j σ H'=>∃ (b:Option V) (W:List L),σ = [some (.ref d),some (.int m),some (.ref p),some (.int (i:Int)),b]∧H' p=some (.lst (bo W))∧W.Perm (fam i++[x,y].take j)∧Tp H' d c∧bq d H H'∧H' t=some (.tup [tx [x],tx [y]])) ⟨b,W,rfl,(aA.new ht) _ _ hW,by rw [List.take_zero,xw];exact pW,F2.new ht,sb2.trans (aA.new ht).b,ag⟩ (fun j σ H' hj ⟨_,_,_,_,_,_,_,q⟩=>SqT.of q) ?_ ?_⟩
   ·rintro j z σ H3 hz ⟨b,W,rfl,hW,pW,F3,sb3,h3⟩
    have hj:j < 2:=by
     have:=(wo.mp hz).1
     exact this
    have lW:(bo W).length≤14:=by
     obtain ⟨_,_,c⟩:=gO ⟨i,by omega⟩
     have c:(fam i).length=2*i:=c
     have:=pW.length_eq
     rw [wj,wD,c] at this
     rw [aK,this]
     simp only [xu,x8]
     omega
    obtain ⟨z',ez,hz'⟩:∃ z',z=tx [z']∧[x,y][j]? = some z':=by
     have:j=0 ∨ j=1:=by omega
     rcases this with rfl | rfl
     ·exact ⟨x,(wA hz).symm,rfl⟩
     ·exact ⟨y,(wA hz).symm,rfl⟩
    subst ez
    refine ⟨_,rfl,.inl ⟨rfl,_,SqL.of hW⟩,_,rfl,_,rfl,p,_,rfl,.inl (SqL.of hW),_,_,rfl,rfl,d,c,_,rfl,F3,by omega,by omega,fun q H4 q0 q1 F4 BW=>?_⟩
    have h4:=BW _ _ hpd hW
    refine ⟨_,rfl,p,_,q,_,rfl,rfl,h4,q0,by omega,by omega,?_⟩
    rw [m9]
    have s5:bq p H4 (upd H4 p (.lst (bo (W.take q.toNat++z'::W.drop q.toNat)))):=bq.upd
    refine ⟨_,_,rfl,ag,?_,F4.but hpd hpc s5,fun b o n e=>s5 _ _ (aC e hp) (BW _ _ n (sb3 _ _ n e)),s5 _ _ htp (BW _ _ htd h3)⟩
    have e:[x,y].take (j+1)=[x,y].take j++[z']:=cw hz'
    rw [e,← wt]
    exact m8 z' q.toNat pW
   ·rintro σ H3 ⟨b,W,rfl,hW,pW,F3,sb3,h3⟩
    refine ⟨_,_,W,rfl,hW,?_,F3,sb3⟩
    rw [m7 hi,ex,ey]
    exact pW
  ·rintro σ H2 ⟨a,b,W,rfl,hW,pW,F2,sb2⟩
   have hl:=pW.length_eq
   obtain ⟨_,_,c⟩:=gO ⟨(1+r).toNat,by omega⟩
   have c:(fam (1+r).toNat).length=2*(1+r).toNat:=c
   refine ⟨rfl,_,rfl,_,p,W.map fun x=>toS [x],rfl,rfl,SqL.of (by rw [hW,b8]),bK _ (by omega),?_⟩
   rw [bJ]
   exact k _ _ _ ⟨pW,by omega,by omega⟩ (by omega) F2 sb2
theorem tq (V0:List L)(y:L):(bo (V0++[y]))[(bo (V0++[y])).length - 1]? = some (tx [y]):=by
 unfold bo
 simp
theorem nO (V0:List L)(y:L):some (HO.lst (bo (V0++[y])).dropLast)=some (HO.lst (bo V0)):=by
 unfold bo
 simp
theorem nP (x y:L)(mid:List L):g_ (bo (x::(mid++[y]))) (some 1) (some (-1))=bo mid:=by
 unfold g_
 have hl:(bo (x::(mid++[y]))).length=mid.length+2:=by rw [aK];simp
 have e1:HT.sIx (bo (x::(mid++[y]))).length 0 (some 1)=1:=by
  have q:=HT.eA (bo (x::(mid++[y]))).length 0 1
  rw [show ((1:Nat):Int)=1 from rfl] at q
  rw [q,hl]
  omega
 have e2:HT.sIx (bo (x::(mid++[y]))).length (bo (x::(mid++[y]))).length (some (-1))=mid.length+1:=by
  show (if (-1:Int) < 0 then ((-1:Int)+((bo (x::(mid++[y]))).length:Int)).toNat else min (-1:Int).toNat (bo (x::(mid++[y]))).length)=_
  rw [if_pos (by decide),hl]
  omega
 rw [e1,e2]
 unfold bo
 simp
abbrev eS:Stmt:=top 24
theorem jS:aG ["_law_word","_law_size"] ["_law_word"] (ak eS):=⟨rfl,rfl,rfl,by decide +kernel,rfl,by decide +kernel,by decide +kernel⟩
theorem mh (D:Df K mg "_law_rooted" eS)(T:Bt K w mg aB):Fnc P w K mg base "_law_rooted" ["_law_word"] 1 d8:=by
 have sc:=jS
 refine D.ok sc (fun _ _ _ _ _ _ us hl=>by obtain ⟨_,rfl⟩:=qI hl;rfl) (fun vs H Q E h=>?_) (fun f Bx A outer s H vs Q E hr h=>?_)
 ·obtain ⟨u,rfl,_⟩:=h
  rfl
 ·obtain ⟨u,rfl,hu,k⟩:=h
  have BL:=aX
  have hll:(toS u).length≤sizeLine:=by rw [ae];omega
  refine ⟨_,(A3 (Bl xo rfl (@gs _ _ _ _ _ _ _ rfl T.range (AY ai (AY (A9 aE (by rfl) T.len wQ (AY (pv 0) af)) af)) (by rfl) (by rfl)) (Bd (1) sc.nd rfl (Or.inl rfl)) (AV (A6 (A7 bF (A4 cK (A0 bw (pv 0) aV (A2 (pv 1))) (A4 d9 (A9 aE (by rfl) T.len wQ (AY (pv 0) af)) (pv 1))) (pv 0) (aI _)) (AV (AW (A0 bw (pv 0) aV (A2 (pv 1))))) aY))) (AV (AW (pv 0)))),?_⟩
  refine ⟨_,rfl,_,rfl,hll,_,_,rfl,(by first | omega | (rw [ae];omega)),?_⟩
  rw [ae]
  refine a_ (lo:=1) (n:=((u.length:Int) - 1).toNat) (fun i σ H'=>∃ v:Option V,σ = [some (tx u),v]∧H'=H) ⟨none,rfl,rfl⟩ ?_ ?_
  ·rintro i σ H1 hi ⟨v,rfl,rfl⟩
   have hi:i+1 < u.length:=by omega
   have e1:(1:Int)+(i:Int)=((i+1:Nat):Int):=by omega
   rw [e1]
   have c1:Txt.slice (toS u) none (some ((i+1:Nat):Int))=toS (u.take (i+1)):=by rw [aW,cW _ (by omega)];rfl
   have dv:((toS u).length:Int) / ((i+1:Nat):Int)=((u.length / (i+1):Nat):Int):=by rw [ae];rfl
   have db:u.length / (i+1)≤u.length:=Nat.div_le_self _ _
   refine ⟨_,rfl,_,rfl,_,rfl,_,rfl,hll,?_⟩
   rw [c1]
   refine ⟨_,rfl,_,rfl,hll,_,rfl,_,_,rfl,rfl,⟨by omega,by omega⟩,?_⟩
   refine ⟨_,((u.length / (i+1):Nat):Int),rfl,wR V.int dv,da _ (Int.le_trans (by decide) (Int.natCast_nonneg _)) (Int.ofNat_le.mpr (show u.length / (i+1)≤1000 by omega)) (by rw [wD];omega),?_⟩
   rw [fI,xE]
   refine ⟨_,rfl,rfl,_,rfl,?_⟩
   by_cases he:rep (u.length / (i+1)) (u.take (i+1))=u
   ·refine i8 (by rw [he];exact wF rfl) ?_
    refine ⟨_,rfl,_,rfl,_,rfl,_,rfl,hll,?_⟩
    rw [c1]
    exact k _ (by rw [wD];omega) (fun x hx=>xF hx) fun C=>p6 (by rw [he];exact C) (by rw [he];exact xf.mp (by omega))
   ·exact i9 (wm fun e=>he (gM e)) ⟨_,rfl,rfl⟩
  ·rintro σ H1 ⟨v,rfl,rfl⟩
   exact ⟨_,rfl,k u (wu _) (fun x hx=>hx) fun C=>C⟩
abbrev iL:Stmt:=top 23
theorem nQ:aG ["_law_word","_law_left","_law_sign_here"] ["_law_word"] (ak iL):=⟨rfl,rfl,rfl,by decide +kernel,rfl,by decide +kernel,by decide +kernel⟩
theorem qw (D:Df K mg "_law_inner" iL)(T:Bt K w mg aB)(Bu:Fnc P w K mg base "_law_back" ["_law_word"] 1 i7):Fnc P w K mg base "_law_inner" ["_law_word"] 2 d7:=by
 have sc:=nQ
 refine D.ok sc (fun _ _ _ _ _ _ us hl=>by obtain ⟨_,rfl⟩:=qI hl;rfl) (fun vs H Q E h=>?_) (fun f Bx A outer s H vs Q E hr h=>?_)
 ·obtain ⟨u,rfl,_⟩:=h
  rfl
 ·obtain ⟨u,rfl,hu,k⟩:=h
  have BL:=aX
  refine ⟨_,(A3 (A8 (1) sc.nd rfl (Or.inl rfl) (AX af)) (A3 (Bl xo rfl (@gI _ _ _ _ (pv 0)) (Bd (2) sc.nd rfl (Or.inl rfl)) (AV (A6 (A_ (Bo (A7 hX (A9 aS (by rfl) T.len wQ (AY (pv 1) af)) ai (aI _)) (@dA _ _ _ _ (A7 bF (A5 aJ (pv 1) (Be cf ai) (fun _ _=>rfl)) (Bg Bu hr (by decide) rfl (AY (pv 2) af)) (aI _))))) (AV (Bk (@og _ _ _ _ _ _ _ _ _ xg PySem.F.slot_list_pop PySem.F.type_list_pop rG (pv 1) (by rfl) (by rfl)))) (AV (Bk (Ba xg xH xI bI (pv 1) (AY (pv 2) af))))))) (A3 (@fk _ _ _ _ _ _ xo (A_ (Bo (A7 hX (A9 aS (by rfl) T.len wQ (AY (pv 1) af)) ai (aI _)) (@dA _ _ _ _ (A7 bF (A5 aJ (pv 1) ai (fun _ _=>rfl)) (Bg Bu hr (by decide) rfl (AY (A5 aJ (pv 1) (Be cf ai) (fun _ _=>rfl)) af)) (aI _))))) (AV (A8 (1) sc.nd rfl (Or.inl rfl) (A0 eB (pv 1) (A2 ai) (A2 (Be cf ai)))))) (AV (AW (Ba w9 yd ye dD bp (AY (pv 1) af))))))),?_⟩
  refine ⟨(by show 0≤sizeLine;decide),fun l hl=>?_⟩
  refine ⟨_,rfl,_,rfl,o7 (z:=toS u) (fun i σ H'=>∃ (v:Option V) (W:List L),σ = [some (tx u),some (.ref l),v]∧H' l=some (.lst (bo W))∧W.length≤i∧(∀ x∈W,x∈u)∧Wd.Rd W∧aA H H') ⟨none,[],rfl,ag,wu _,(fun x hx=>by cases hx),trivial,aA.new hl⟩ ?_ ?_⟩
  ·rintro i cc σ H1 hc ⟨v,W,rfl,h1,hW,mW,rW,s1⟩
   obtain ⟨x,hx,ex⟩:=c5 hc
   rw [ex]
   have hi:i < u.length:=(wo.mp hx).1
   have push:∀ H2,(∀ y,W.getLast? = some y→x≠inv y)→aA H1 H2→∃ (v:Option V) (W':List L),[some (tx u),some (V.ref l),some (V.str (toS [x]))]=[some (tx u),some (V.ref l),v]∧(upd H2 l (.lst (bo W++[V.str (toS [x])]))) l=some (.lst (bo W'))∧W'.length≤i+1∧(∀ x∈W',x∈u)∧Wd.Rd W'∧aA H (upd H2 l (.lst (bo W++[V.str (toS [x])]))):=fun H2 nx s2=>by
    refine ⟨_,W++[x],rfl,?_,by rw [wj];simp;omega,fun y hy=>?_,pX rW nx,fun b o e=>?_⟩
    ·rw [ag,← bu]
     rfl
    ·rcases wL.mp hy with hy | hy
     ·exact mW y hy
     ·rw [wc.mp hy]
      exact xt hx
    ·rw [aP (aC e hl)]
     exact s2 _ _ (s1 _ _ e)
   refine ⟨_,rfl,l,_,rfl,.inl (SqL.of h1),_,_,rfl,rfl,_,rfl,?_⟩
   by_cases h0:W=[]
   ·subst h0
    refine i9 (wm (by simp [bo])) (mQ ?_)
    refine ⟨_,rfl,.inl ⟨rfl,_,SqL.of h1⟩,_,rfl,l,_,_,rfl,rfl,h1,(by rw [aK];simp;omega),?_⟩
    exact push H1 (fun y hy=>by simp at hy) (aA.refl _)
   ·obtain ⟨V0,y,rfl⟩:∃ V0 y,W=V0++[y]:=⟨W.dropLast,W.getLast h0,(yU h0).symm⟩
    have hl1:(bo (V0++[y])).length=V0.length+1:=by rw [aK];simp
    have al:atI (bo (V0++[y])) (-1)=some (tx [y]):=by
     unfold bo
     rw [xr]
     exact ft _ _
    refine i8 (wF (by rw [hl1];omega)) ?_
    refine ⟨_,rfl,_,rfl,l,_,_,_,rfl,rfl,SqL.of h1,al,_,rfl,[x],rfl,(by show 1≤5000;decide),fun H2 s2=>?_⟩
    refine ⟨rfl,_,rfl,?_⟩
    rw [cq]
    by_cases hyx:y=inv x
    ·refine i8 (by rw [hyx];exact wF rfl) ?_
     have h2:=s2 _ _ h1
     refine ⟨_,rfl,.inl ⟨rfl,_,SqL.of h2⟩,l,_,_,rfl,rfl,h2,tq _ _,_,V0,rfl,?_,by simp at hW;omega,fun z hz=>mW z (w_ _ hz),((bz _ _).mp rW).1,fun b o e=>?_⟩
     ·rw [ag,nO]
     ·rw [aP (aC e hl)]
      exact s2 _ _ (s1 _ _ e)
    ·refine i9 (wm fun e=>hyx (xM (gM e)).1) ?_
     refine ⟨_,rfl,.inl ⟨rfl,_,SqL.of (s2 _ _ h1)⟩,_,rfl,l,_,_,rfl,rfl,s2 _ _ h1,(by rw [hl1];simp at hW;omega),?_⟩
     exact push H2 (fun z hz e=>hyx (by rw [e,bQ];simpa using hz)) s2
  ·rintro σ H1 ⟨v,W,rfl,h1,hW,mW,rW,s1⟩
   rw [bh] at hW
   refine ⟨fun m σ H'=>∃ (v:Option V) (W:List L) (l2:Addr),σ = [some (tx u),some (.ref l2),v]∧H' l2=some (.lst (bo W))∧W.length≤u.length∧(∀ x∈W,x∈u)∧Wd.Rd W∧aA H H'∧m=W.length,⟨_,v,W,l,rfl,h1,hW,mW,rW,s1,rfl⟩,?_⟩
   rintro m σ H2 ⟨v,W,l2,rfl,h2,hW2,mW2,rW2,s2,rfl⟩
   have fin:∀ H3,Cyc W→aA H2 H3→Q (tx W) H3:=fun H3 c s3=>k W H3 hW2 mW2 c (s2.trans s3)
   refine ⟨_,rfl,l2,_,rfl,.inl (SqL.of h2),_,_,rfl,rfl,_,rfl,?_⟩
   rw [aK]
   by_cases g1:1 < W.length
   ·refine i8 (wF (by omega)) ?_
    obtain ⟨x,mid,y,rfl⟩:∃ x mid y,W=x::(mid++[y]):=by
     cases W with
     | nil=>simp at g1
     | cons x r =>
      have hr:r≠[]:=by
       intro e
       subst e
       simp at g1
      exact ⟨x,r.dropLast,r.getLast hr,by rw [yU]⟩
    have a0:atI (bo (x::(mid++[y]))) 0=some (tx [x]):=gX rfl
    have al:atI (bo (x::(mid++[y]))) (-1)=some (tx [y]):=by
     have e:bo (x::(mid++[y]))=bo (x::mid)++[tx [y]]:=by rw [bu];rfl
     rw [e]
     exact ft _ _
    refine ⟨_,rfl,l2,_,_,_,rfl,rfl,SqL.of h2,a0,_,rfl,_,rfl,l2,_,_,_,rfl,rfl,SqL.of h2,al,[y],rfl,(by show 1≤5000;decide),fun H3 s3=>?_⟩
    refine ⟨rfl,_,rfl,?_⟩
    rw [cq]
    by_cases hxy:x=inv y
    ·refine i8 (by rw [hxy];exact wF rfl) ⟨_,fun σ' H' q=>q,?_⟩
     refine ⟨_,rfl,_,rfl,_,rfl,_,rfl,l2,_,rfl,SqL.of (s3 _ _ h2),fun l3 hl3=>?_⟩
     rw [nP]
     refine ⟨mid.length,by simp;omega,v,mid,l3,rfl,ag,by simp at hW2;omega,fun z hz=>mW2 z (wO _ (w_ _ hz)),sF rW2,(s2.trans s3).then hl3,rfl⟩
    ·refine i9 (wm fun e=>hxy (xM (gM e)).1) ?_
     exact ⟨rfl,_,rfl,_,l2,(_:List L).map fun x=>toS [x],rfl,rfl,SqL.of (by rw [s3 _ _ h2,b8]),bK _ (by omega),by rw [bJ];exact fin H3 (pY rW2 hxy) s3⟩
   ·refine i9 (wm (by omega)) (mQ ?_)
    exact ⟨rfl,_,rfl,_,l2,(_:List L).map fun x=>toS [x],rfl,rfl,SqL.of (by rw [(aA.refl _) _ _ h2,b8]),bK _ (by omega),by rw [bJ];exact fin H2 (p5 g1) (aA.refl _)⟩
theorem tu {m:Nat}(h:m≤6){x:L}(hx:x∈sg (m:Int)):x.val % 6 < m:=by
 have q:∀ (m:Fin 7) (x:L),x∈([0,1,2,3,4,5]:List L).take m.val++([6,7,8,9,10,11]:List L).take m.val→x.val % 6 < m.val:=by decide
 exact q ⟨m,by omega⟩ x hx
theorem mi {u:List L}{x:L}:∀ {n:Nat},x∈rep n u→x∈u
 | 0,h=>by cases h
 | n+1,h=>by
  have h:x∈rep n u++u:=h
  rcases wL.mp h with h | h
  ·exact mi h
  ·exact h
abbrev u3:Stmt:=top 25
theorem u4:aG ["_law_tape_here","_law_many","_law_long","_law_signs","_law_word","_law_at"] ["_law_tape_here","_law_many","_law_long"] (ak u3):=⟨rfl,rfl,rfl,by decide +kernel,rfl,by decide +kernel,by decide +kernel⟩
theorem v_ (D:Df K mg "_law_any_way" u3)(T:Bt K w mg aB)(Bs:Fnc P w K mg base "_law_draw" ["_law_tape_here","_law_many"] 1 cx)(BJ:Fnc P w K mg base "_law_inner" ["_law_word"] 2 d7)(BF:Fnc P w K mg base "_law_rooted" ["_law_word"] 1 d8):Fnc P w K mg base "_law_any_way" ["_law_tape_here","_law_many","_law_long"] 3 eR:=by
 have sc:=u4
 refine D.ok sc (fun _ _ _ _ _ _ us hl=>by obtain ⟨_,_,_,rfl⟩:=sJ hl;rfl) (fun vs H Q E h=>?_) (fun f Bx A outer s H vs Q E hr h=>?_)
 ·obtain ⟨d,c,m,n,rfl,_⟩:=h
  rfl
 ·obtain ⟨d,c,m0,n,rfl,F,m1,m2,n1,n2,k⟩:=h
  have m1:(1:Int)≤(m0:Int):=by omega
  have m2:(m0:Int)≤6:=by omega
  have k:∀ (v:List L) (H2:Hp),Rnd v→v.length≤n.toNat→(∀ x∈v,x∈sg (m0:Int))→Tp H2 d c→bq d H H2→Q (tx v) H2:=fun v H2 a1 a2 a3=>k v H2 ⟨a1,a2,fun x hx=>tu (by omega) (a3 x hx)⟩
  generalize (m0:Int)=m at m1 m2 k ⊢
  have BL:=aX
  refine ⟨_,(A3 (A8 (3) sc.nd rfl (Or.inr rfl) (A4 aT (A0 bw bp aV (A2 (pv 1))) (A0 bw bp aV (A2 (pv 1))))) (A3 (A8 (4) sc.nd rfl (Or.inl rfl) (Ba w9 yd ye dD bp (AY (Bb (["_law_k","_law_signs","_law_tape_here","_law_many"]) (["_law_k"]) ([3,0,1]) (Bc rfl (by kernel_rfl)) rfl (Bm rfl T.range (AY (A4 br ai (Bg Bs hr (by decide) rfl (AY (pv 0) (AY (pv 2) af)))) af)) (fun _ _ _ _=>Bd (0) (show (["_law_k","_law_signs","_law_tape_here","_law_many"]:List Str).Nodup from by decide +kernel) rfl (Or.inl rfl)) (fun _ _ _ _=>cJ) (fun _ _ _ _=>by (exact (A5 bG (pv 1) (Bg Bs hr (by decide) rfl (AY (pv 2) (AY (A4 cP ai (pv 3)) af))) (fun _ _=>rfl))))) af))) (A3 (A6 (A7 bF (Bg Bs hr (by decide) rfl (AY (pv 0) (AY ai af))) ai (aI _)) (A3 (A8 (5) sc.nd rfl (Or.inl rfl) (A4 br ai (Bg Bs hr (by decide) rfl (AY (pv 0) (AY ai af))))) (AV (A8 (4) sc.nd rfl (Or.inl rfl) (A4 aT (A4 cK (A0 bw (pv 4) aV (A2 (pv 5))) (A4 br ai (Bg Bs hr (by decide) rfl (AY (pv 0) (AY ai af))))) (A0 bw (pv 4) (A2 (pv 5)) aV))))) aY) (AV (AW (@oz _ _ _ _ _ _ _ (Bg BF hr (by decide) rfl (AY (Bg BJ hr (by decide) rfl (AY (A0 bw (pv 4) aV (A2 (pv 2))) af)) af)) (@j2 _ _ _ _ _ (A5 bG (pv 3) ai (fun _ _=>rfl))))))))),?_⟩
  refine ⟨_,rfl,_,rfl,_,rfl,(by rw [eG];omega),_,rfl,_,rfl,_,rfl,(by rw [eH];omega),_,_,rfl,rfl,?_,?_⟩
  ·have h1:=yz ("abcdef":Str) none (some m)
   have h2:=yz ("ABCDEF":Str) none (some m)
   rw [eG] at h1
   rw [eH] at h2
   omega
  rw [fJ m1]
  have hsg:=eF m1 m2
  refine ⟨rfl,_,rfl,_,rfl,d,c,_,rfl,F,by omega,by omega,fun r H1 r0 r1 F1 sb1=>?_⟩
  refine ⟨_,_,rfl,rfl,_,rfl,by omega,by omega,?_⟩
  refine bY (own:=["_law_k"]) (cap:=[3,0,1]) (J:=Itr 0 (1+r).toNat) (1+r).toNat (fun i ys σ H'=>∃ (v:Option V) (W:List L),σ = [v,some (tx (sg m)),some (.ref d),some (.int m)]∧ys=bo W∧W.length=i∧(∀ x∈W,x∈sg m)∧Tp H' d c∧bq d H H')
   ⟨none,[],rfl,rfl,rfl,(fun x hx=>by cases hx),F1,sb1⟩ (fun i ys σ H' hi ⟨v,W,_,e,e2,_⟩=>by rw [e,aK,e2];exact wu _) (by omega) (fun i ys σ H' hi _=>hi) (fun ys σ H' _=>wu _) ?_ ?_
  ·rintro i ys σ H2 x H3 N hi ⟨v,W,rfl,rfl,hW,mW,F2,sb2⟩ ⟨rfl,rfl⟩ hN
   refine ⟨_,rfl,_,rfl,_,rfl,_,_,rfl,rfl,.inl ⟨by decide,by decide⟩,d,c,_,rfl,F2,by omega,by omega,fun q H4 q0 q1 F4 BW=>?_⟩
   have hq:q.toNat < (sg m).length:=by omega
   refine ⟨_,_,cp (sg m)[q.toNat],rfl,rfl,(by rw [ae];omega),b7 (k:=q.toNat) (by omega) (fu hq),hN _ _ _ ⟨_,W++[(sg m)[q.toNat]],rfl,(bu _ _),by rw [wj,hW];rfl,fun x hx=>(wL.mp hx).elim (mW x) (fun hx=>by rw [wc.mp hx];exact wY hq),F4,sb2.trans BW⟩⟩
  rintro ys σ H2 l ⟨v,W,rfl,rfl,hW,mW,F2,sb2⟩ hl
  refine ⟨_,l,W.map fun x=>toS [x],rfl,rfl,SqL.of (by rw [ag,b8]),bK _ (by omega),?_⟩
  rw [bJ]
  have F3:=F2.new (o:=.lst (bo W)) hl
  have sb3:=sb2.trans (aA.new (o:=.lst (bo W)) hl).b
  generalize upd H2 l (.lst (bo W))=H3 at F3 sb3 ⊢
  have hW15:W.length≤30:=by omega
  -- what comes behind
  have hs0:∃ x,(sg m)[0]? = some x:=⟨(sg m)[0]'(by omega),fu (by omega)⟩
  obtain ⟨x0,hx0⟩:=hs0
  refine ⟨_,rfl,d,c,_,rfl,F3,by decide,by decide,fun q H4 q0 q1 F4 BW=>?_⟩
  refine ⟨rfl,_,rfl,?_⟩
  have end_:∀ (Z:List L) (H5:Hp),Z.length≤60→Tp H5 d c→bq d H H5→(∀ (v:List L) (H6:Hp),Rnd v→v.length≤n.toNat→(∀ x∈v,x∈sg m)→aA H5 H6→Q (tx v) H6):=fun Z H5 _ F5 sb5 v H6 ne hv mv s6=>k v H6 ne hv mv (F5.same s6) (sb5.trans s6.b)
  refine gH (fun _=>?_) (fun _=>?_)
  ·refine ⟨_,rfl,d,c,_,rfl,F4,by decide,by decide,fun a H5 a0 a1 F5 sb5=>⟨_,_,rfl,rfl,?_⟩⟩
   have c1:Txt.slice (toS W) none (some (1+a))=toS (W.take (1+a).toNat):=by rw [aW,cW _ (by omega)]
   have c2:Txt.slice (toS W) (some (1+a)) none=toS (W.drop (1+a).toNat):=by rw [aW,dU _ (by omega)]
   refine ⟨_,rfl,_,rfl,_,rfl,_,rfl,(by rw [ae];omega),?_⟩
   rw [c1]
   refine ⟨_,rfl,d,c,_,rfl,F5,by decide,by decide,fun b H6 b0 b1 F6 sb6=>⟨_,_,rfl,rfl,?_⟩⟩
   refine ⟨_,_,rfl,rfl,da _ (by omega) (by omega) (by rw [wD];omega),?_⟩
   rw [fI]
   have hrl:(rep (2+b).toNat (W.take (1+a).toNat)).length≤12:=by
    rw [bT,wD]
    exact xq (Nat.mul_le_mul (show (2+b).toNat≤4 by omega) (show min (1+a).toNat W.length≤3 by omega)) (by decide)
   have hrm:∀ x∈rep (2+b).toNat (W.take (1+a).toNat),x∈sg m:=fun x hx=>mW x (xF (mi hx))
   generalize rep (2+b).toNat (W.take (1+a).toNat)=R1 at hrl hrm ⊢
   refine ⟨_,rfl,_,rfl,_,rfl,_,rfl,(by rw [ae];omega),?_⟩
   rw [c2]
   refine ⟨_,_,rfl,rfl,(by rw [ae,ae,xB];omega),?_⟩
   rw [cv]
   have hZ:(R1++W.drop (1+a).toNat).length≤60:=by rw [wj,xB];omega
   have hZm:∀ x∈R1++W.drop (1+a).toNat,x∈sg m:=fun x hx=>(wL.mp hx).elim (hrm x) fun hx=>mW x (yi hx)
   have sb06:=sb3.trans (BW.trans (sb5.trans sb6))
   generalize R1++W.drop (1+a).toNat=Z at hZ hZm ⊢
   have cz:Txt.slice (toS Z) none (some n)=toS (Z.take n.toNat):=by rw [aW,cW _ (by omega)]
   refine ⟨_,rfl,_,rfl,_,rfl,_,rfl,(by rw [ae];omega),?_⟩
   rw [cz]
   have hzl:(Z.take n.toNat).length≤n.toNat:=by rw [wD];omega
   refine ⟨Z.take n.toNat,rfl,by omega,fun v1 H7 hv1 mv1 cv1 s7=>⟨v1,rfl,by omega,fun v2 hv2 mv2 cv2=>?_⟩⟩
   refine ⟨_,rfl,(by rw [ae];omega),gH (fun e2=>end_ Z _ hZ F6 sb06 v2 H7 ((cv2 cv1).rnd (by rintro rfl;exact absurd e2 (by decide))) (by omega) (fun x hx=>hZm x (xF (mv1 x (mv2 x hx)))) s7) (fun _=>?_)⟩
   refine ⟨_,rfl,_,_,cp x0,rfl,rfl,(by rw [ae];omega),b7 (k:=0) rfl hx0,?_⟩
   exact end_ Z _ hZ F6 sb06 [x0] H7 (gg _) (by show 1≤_;omega) (fun x hx=>by rw [wc.mp hx];exact xt hx0) s7
  ·have hZ:W.length≤60:=by omega
   have sb06:=sb3.trans BW
   have hZm:=mW
   generalize W=Z at hZ hZm ⊢
   have cz:Txt.slice (toS Z) none (some n)=toS (Z.take n.toNat):=by rw [aW,cW _ (by omega)]
   refine ⟨_,rfl,_,rfl,_,rfl,_,rfl,(by rw [ae];omega),?_⟩
   rw [cz]
   have hzl:(Z.take n.toNat).length≤n.toNat:=by rw [wD];omega
   refine ⟨Z.take n.toNat,rfl,by omega,fun v1 H7 hv1 mv1 cv1 s7=>⟨v1,rfl,by omega,fun v2 hv2 mv2 cv2=>?_⟩⟩
   refine ⟨_,rfl,(by rw [ae];omega),gH (fun e2=>end_ Z _ hZ F4 sb06 v2 H7 ((cv2 cv1).rnd (by rintro rfl;exact absurd e2 (by decide))) (by omega) (fun x hx=>hZm x (xF (mv1 x (mv2 x hx)))) s7) (fun _=>?_)⟩
   refine ⟨_,rfl,_,_,cp x0,rfl,rfl,(by rw [ae];omega),b7 (k:=0) rfl hx0,?_⟩
   exact end_ Z _ hZ F4 sb06 [x0] H7 (gg _) (by show 1≤_;omega) (fun x hx=>by rw [wc.mp hx];exact xt hx0) s7
theorem mj {α:Type}{xs:List α}{j:Int}(h0:0≤j)(h1:j < xs.length):∃ v,v∈xs∧atI xs j=some v:=by
 have hj:j.toNat < xs.length:=by omega
 refine ⟨xs[j.toNat],wY hj,?_⟩
 unfold atI ixN
 rw [if_pos h0,if_pos (by omega)]
 exact fu hj
abbrev iM:Stmt:=top 26
theorem nR:aG ["_law_tape_here","_law_many","_law_most","_law_long","_law_ways","_law_k","_law_word","_law_at"] ["_law_tape_here","_law_many","_law_most","_law_long"] (ak iM):=⟨rfl,rfl,rfl,by decide +kernel,rfl,by decide +kernel,by decide +kernel⟩
theorem qx (D:Df K mg "_law_some_ways" iM)(T:Bt K w mg aB)(Bs:Fnc P w K mg base "_law_draw" ["_law_tape_here","_law_many"] 1 cx)(Bu:Fnc P w K mg base "_law_back" ["_law_word"] 1 i7)(BY:Fnc P w K mg base "_law_any_way" ["_law_tape_here","_law_many","_law_long"] 3 eR):Fnc P w K mg base "_law_some_ways" ["_law_tape_here","_law_many","_law_most","_law_long"] 4 gh:=by
 have sc:=nR
 refine D.ok sc (fun _ _ _ _ _ _ us hl=>by obtain ⟨_,_,_,_,rfl⟩:=jU hl;rfl) (fun vs H Q E h=>?_) (fun f Bx A outer s H vs Q E hr h=>?_)
 ·obtain ⟨d,c,m,n,rfl,_⟩:=h
  rfl
 ·obtain ⟨d,c,m,n,rfl,F,m1,m2,n1,n2,k⟩:=h
  have BL:=aX
  refine ⟨_,(A3 (A8 (4) sc.nd rfl (Or.inl rfl) (AX (AY (Bg BY hr (by decide) rfl (AY (pv 0) (AY (pv 1) (AY (pv 3) af)))) af))) (A3 (Bl xo rfl (Bm rfl T.range (AY (Bg Bs hr (by decide) rfl (AY (pv 0) (AY (pv 2) af))) af)) (Bd (5) sc.nd rfl (Or.inl rfl)) (A3 (A8 (6) sc.nd rfl (Or.inl rfl) (Bg BY hr (by decide) rfl (AY (pv 0) (AY (pv 1) (AY (pv 3) af))))) (A3 (A6 (A7 bF (Bg Bs hr (by decide) rfl (AY (pv 0) (AY ai af))) ai (aI _)) (A3 (A8 (6) sc.nd rfl (Or.inl rfl) (A5 aJ (pv 4) (Bg Bs hr (by decide) rfl (AY (pv 0) (AY (A9 aS (by rfl) T.len wQ (AY (pv 4) af)) af))) (fun _ _=>rfl))) (A3 (A8 (7) sc.nd rfl (Or.inl rfl) (Bg Bs hr (by decide) rfl (AY (pv 0) (AY (A9 aE (by rfl) T.len wQ (AY (pv 6) af)) af)))) (A3 (A8 (6) sc.nd rfl (Or.inl rfl) (A5 aJ (AX (AY (pv 6) (AY (Bg Bu hr (by decide) rfl (AY (pv 6) af)) af))) (Bg Bs hr (by decide) rfl (AY (pv 0) (AY ai af))) (fun _ _=>rfl))) (AV (A8 (6) sc.nd rfl (Or.inl rfl) (A4 aT (A0 bw (pv 6) (A2 (pv 7)) aV) (A0 bw (pv 6) aV (A2 (pv 7))))))))) aY) (AV (Bk (Ba xg xH xI bI (pv 4) (AY (pv 6) af))))))) (AV (AW (AZ bX (by rfl) T.tuple ig (AY (pv 4) af)))))),?_⟩
  refine ⟨_,rfl,_,rfl,_,rfl,d,c,m,n,rfl,F,m1,m2,n1,by omega,fun v0 H1 g0 F1 sb1=>⟨(cD (n:=1) (by decide)),fun l hl=>?_⟩⟩
  have BK:=F1.ne hl
  have hlc:=F1.nec hl
  have hlH:H l=none:=by
   cases e:H l with
   | none=>rfl
   | some o =>
    have:=sb1 _ _ BK e
    rw [hl] at this
    cases this
  refine ⟨_,rfl,_,rfl,d,c,3,rfl,F1.new hl,by decide,by decide,fun r H2 r0 r1 F2 sb2=>?_⟩
  have f2:=sb2 _ _ BK (ag (o:=.lst [tx v0]))
  have sb2:=(sb1.trans ((aA.new (o:=.lst [tx v0]) hl).b (d:=d))).trans sb2
  refine ⟨_,rfl,by omega,by omega,?_⟩
  refine a_ (lo:=0) (n:=r.toNat) (fun i σ H'=>∃ (a5 a6 a7:Option V) (W:List (List L)),σ = [some (.ref d),some (.int (m:Int)),some (.int 3),some (.int n),some (.ref l),a5,a6,a7]∧H' l=some (.lst (W.map tx))∧W.length=i+1∧(∀ w∈W,GR m 7 w)∧Tp H' d c∧bq d H H') ⟨none,none,none,[v0],rfl,f2,rfl,(fun w hw=>by rw [wc.mp hw];exact g0.le (by omega)),F2,sb2⟩ ?_ ?_
  ·rintro i σ H3 hi ⟨a5,a6,a7,W,rfl,f3,hW,gW,F3,sb3⟩
   refine ⟨_,rfl,_,rfl,_,rfl,d,c,m,n,rfl,F3,m1,m2,n1,by omega,fun v H4 gv F4 BW=>?_⟩
   have f4:=BW _ _ BK f3
   have BW:=sb3.trans BW
   have fin:∀ (w:List L) (a7:Option V) (H':Hp),GR m 7 w→H' l=some (.lst (W.map tx))→Tp H' d c→bq d H H'→∃ (a5 a6 a7':Option V) (W':List (List L)),[some (V.ref d),some (.int (m:Int)),some (.int 3),some (.int n),some (.ref l),some (.int (0+(i:Int))),some (tx w),a7]=[some (V.ref d),some (.int (m:Int)),some (.int 3),some (.int n),some (.ref l),a5,a6,a7']∧(upd H' l (.lst (W.map tx++[tx w]))) l=some (.lst (W'.map tx))∧W'.length=i+1+1∧(∀ w∈W',GR m 7 w)∧Tp (upd H' l (.lst (W.map tx++[tx w]))) d c∧bq d H (upd H' l (.lst (W.map tx++[tx w]))):=by
    intro w a7 H' hw f' F' sb'
    refine ⟨_,_,_,W++[w],rfl,by rw [ag,xr];rfl,by rw [wj,hW];rfl,fun x hx=>?_,F'.but BK hlc bq.upd,fun b o nb e=>?_⟩
    ·rcases wL.mp hx with hx | hx
     ·exact gW x hx
     ·rw [wc.mp hx];exact hw
    ·rw [aP (aC e hlH)];exact sb' _ _ nb e
   refine ⟨_,rfl,d,c,_,rfl,F4,by decide,by decide,fun q H5 q0 q1 F5 sb5=>⟨rfl,_,rfl,?_⟩⟩
   have f5:=sb5 _ _ BK f4
   have sb5:=BW.trans sb5
   refine gH (fun _=>?_) (fun _=>?_)
   ·refine ⟨_,rfl,_,rfl,_,rfl,l,_,rfl,.inl (SqL.of f5),d,c,_,rfl,F5,by rw [wq];omega,by rw [wq];omega,fun j H6 j0 j1 F6 sb6=>?_⟩
    have f6:=sb6 _ _ BK f5
    have sb6:=sb5.trans sb6
    obtain ⟨x,hx,ax⟩:=mj j0 j1
    obtain ⟨w0,hw0,rfl⟩:=xY.mp hx
    have gw:=gW w0 hw0
    have wl:=gw.2.1
    have wp:0 < w0.length:=xf.mpr gw.1.ne
    refine ⟨l,_,_,_,rfl,rfl,SqL.of f6,ax,?_⟩
    refine ⟨_,rfl,_,rfl,_,rfl,(by rw [ae];omega),d,c,_,rfl,F6,by rw [ae];omega,by rw [ae];omega,fun a H7 a0 a1 F7 B6=>?_⟩
    have f7:=B6 _ _ BK f6
    have B6:=sb6.trans B6
    refine ⟨_,rfl,_,rfl,w0,rfl,by omega,fun H8 s8=>⟨(cD (n:=2) (by decide)),fun p hp=>?_⟩⟩
    have s9:=s8.then (o:=.lst [tx w0,tx (bk w0)]) hp
    have f9:=s9 _ _ f7
    have F9:=F7.same s9
    have sb9:=B6.trans s9.b
    have hpd:=(F7.same s8).ne hp
    refine ⟨_,rfl,d,c,_,rfl,F9,by decide,by decide,fun b H10 b0 b1 F10 BX=>?_⟩
    have f10:=BX _ _ BK f9
    have g10:=BX _ _ hpd (ag (o:=.lst [tx w0,tx (bk w0)]))
    have BX:=sb9.trans BX
    obtain ⟨x,hx,ax⟩:=mj (xs:=[tx w0,tx (bk w0)]) b0 b1
    obtain ⟨w1,g1,rfl⟩:∃ w1,GR m 7 w1∧x=tx w1:=by
     rcases wH.mp hx with rfl | hx
     ·exact ⟨w0,gw,rfl⟩
     ·rw [wc.mp hx]
      exact ⟨_,gw.bk,rfl⟩
    have w1l:=g1.2.1
    refine ⟨p,_,_,_,rfl,rfl,SqL.of g10,ax,?_⟩
    have c1:Txt.slice (toS w1) none (some a)=toS (w1.take a.toNat):=by rw [aW,cW _ (by omega)]
    have c2:Txt.slice (toS w1) (some a) none=toS (w1.drop a.toNat):=by rw [aW,dU _ (by omega)]
    refine ⟨_,rfl,_,rfl,_,rfl,_,rfl,(by rw [ae];omega),?_⟩
    rw [c2]
    refine ⟨_,rfl,_,rfl,_,rfl,_,rfl,(by rw [ae];omega),?_⟩
    rw [c1]
    refine ⟨_,_,rfl,rfl,(by rw [ae,ae,xB,wD];omega),?_⟩
    rw [cv]
    refine ⟨_,rfl,.inl ⟨rfl,_,SqL.of f10⟩,_,rfl,l,_,_,rfl,rfl,f10,by rw [wq];omega,?_⟩
    exact fin _ _ _ (g1.turn _) f10 F10 BX
   ·refine ⟨_,rfl,.inl ⟨rfl,_,SqL.of f5⟩,_,rfl,l,_,_,rfl,rfl,f5,by rw [wq];omega,?_⟩
    exact fin _ _ _ (gv.le (by omega)) f5 F5 sb5
  ·rintro σ H3 ⟨a5,a6,a7,W,rfl,f3,hW,gW,F3,sb3⟩
   refine ⟨_,rfl,l,_,rfl,.inl ⟨SqL.of f3,fun p hp=>?_⟩⟩
   exact k p W _ (F3.new hp) (sb3.trans (aA.new hp).b) ag (by omega) (by omega) gW
theorem oO {m:Nat}(h:m≤6){x:L}(hx:x∈sg (m:Int)):x.val % 6 < m:=by
 have q:∀ (m:Fin 7) (x:L),x∈([0,1,2,3,4,5]:List L).take m.val++([6,7,8,9,10,11]:List L).take m.val→x.val % 6 < m.val:=by decide
 exact q ⟨m,by omega⟩ x hx
theorem ml (x:L):Txt.lower (toS [x])=toS [⟨x.val % 6,by omega⟩]:=by
 have:∀ x:L,Txt.lower (toS [x])=toS [⟨x.val % 6,by omega⟩]:=by decide +kernel
 exact this x
theorem qy {w:List L}{x t:L}(B3:w≠[])(h:∀ y∈w,y=x ∨ y=t)(n:x.val % 6≠t.val % 6):Rnd w:=by
 have lp:=xf.mpr B3
 refine oJ B3 fun k hk e=>?_
 have h1:=h _ (iB lp (k:Int))
 have h2:=h _ (iB lp ((k:Int) - 1))
 rw [e] at h1
 generalize atZ w ((k:Int) - 1)=z at h1 h2
 have hz:=fL z
 rcases h2 with rfl | rfl
 ·rcases h1 with h1 | h1
  ·exact gL _ h1
  ·rw [h1] at hz;exact n hz.symm
 ·rcases h1 with h1 | h1
  ·rw [h1] at hz;exact n hz
  ·exact gL _ h1
theorem gk {u:List L}{x:L}:∀ {n:Nat},x∈rep n u→x∈u
 | 0,h=>by cases h
 | n+1,h=>by
  have h:x∈rep n u++u:=h
  rcases wL.mp h with h | h
  ·exact gk h
  ·exact h
theorem mn {α:Type}{xs:List α}{j:Int}(h0:0≤j)(h1:j < xs.length):∃ v,v∈xs∧atI xs j=some v:=by
 have hj:j.toNat < xs.length:=by omega
 refine ⟨xs[j.toNat],wY hj,?_⟩
 unfold atI ixN
 rw [if_pos h0,if_pos (by omega)]
 exact fu hj
theorem tw {m:Nat}(h2:2≤m)(h6:m≤6)(x:L):(sg (m:Int)).filter (fun y=>decide (y.val % 6≠x.val % 6))≠[]:=by
 have q:∀ (m:Fin 7) (x:L),2≤m.val→(([0,1,2,3,4,5]:List L).take m.val++([6,7,8,9,10,11]:List L).take m.val).filter (fun y=>decide (y.val % 6≠x.val % 6))≠[]:=by decide +kernel
 exact q ⟨m,by omega⟩ x h2
abbrev iN:Stmt:=top 34
theorem nS:aG ["_law_tape_here","_law_many","_law_signs","_law_one","_law_others","_law_tail","_law_often","_law_found","_law_word","_law_at"] ["_law_tape_here","_law_many"] (ak iN):=⟨rfl,rfl,rfl,by decide +kernel,rfl,by decide +kernel,by decide +kernel⟩
theorem qz (D:Df K mg "_law_long_pair" iN)(T:Bt K w mg aB)(Bs:Fnc P w K mg base "_law_draw" ["_law_tape_here","_law_many"] 1 cx)(Bu:Fnc P w K mg base "_law_back" ["_law_word"] 1 i7):Fnc P w K mg base "_law_long_pair" ["_law_tape_here","_law_many"] 2 iF:=by
 have sc:=nS
 refine D.ok sc (fun _ _ _ _ _ _ us hl=>by obtain ⟨_,_,rfl⟩:=qJ hl;rfl) (fun vs H Q E h=>?_) (fun f Bx A outer s H vs Q E hr h=>?_)
 ·obtain ⟨d,c,m,rfl,_⟩:=h
  rfl
 ·obtain ⟨d,c,m,rfl,F,m2,m6,k⟩:=h
  have BL:=aX
  have hsg:=eF (m:=(m:Int)) (by omega) (by omega)
  refine ⟨_,(A3 (A8 (2) sc.nd rfl (Or.inl rfl) (A4 aT (A0 bw bp aV (A2 (pv 1))) (A0 bw bp aV (A2 (pv 1))))) (A3 (A8 (3) sc.nd rfl (Or.inr rfl) (A5 bG (pv 2) (Bg Bs hr (by decide) rfl (AY (pv 0) (AY (A4 cP ai (pv 1)) af))) (fun _ _=>rfl))) (A3 (@ij _ (4) _ _ _ _ _ _ _ _ _ (["_law_sign_here","_law_one"]) (["_law_sign_here"]) ([3]) _ _ _ _ sc.nd rfl (Or.inl rfl) (Bc rfl (by kernel_rfl)) rfl (@gI _ _ _ _ (pv 2)) (fun _ _ _ _=>Bd (0) (show (["_law_sign_here","_law_one"]:List Str).Nodup from by decide +kernel) rfl (Or.inl rfl)) (fun _ _ _ _=>(@dS _ _ _ (by exact (A7 kf (@fK _ _ _ _ _ _ _ _ _ (K) rfl w9 zu zw fD (pv 0) (by rfl) (by rfl)) (@fK _ _ _ _ _ _ _ _ _ (K) rfl w9 zu zw fD (pv 1) (by rfl) (by rfl)) (aI _))))) (fun _ _ _ _=>by (exact (pv 0))) (by intro _ ;rfl) (by rfl) (by first | exact .inl rfl | exact .inr rfl | assumption)) (A3 (A8 (5) sc.nd rfl (Or.inl rfl) (A5 aJ (pv 4) (Bg Bs hr (by decide) rfl (AY (pv 0) (AY (A9 aS (by rfl) T.len wQ (AY (pv 4) af)) af))) (fun _ _=>rfl))) (A3 (A8 (6) sc.nd rfl (Or.inl rfl) (A4 br ai (A5 aJ (AX (AY (Bg Bs hr (by decide) rfl (AY (pv 0) (AY ai af))) (AY ai af))) (AZ gx (by rfl) T.int rM (AY (Bh bF (Bg Bs hr (by decide) rfl (AY (pv 0) (AY ai af))) ai (aI _)) af)) (fun _ _=>rfl)))) (A3 (A8 (7) sc.nd rfl (Or.inl rfl) (AX af)) (A3 (Bl xo rfl (@j8 _ _ _ _ (Bi (AY (A4 aT (A4 cK (pv 3) (pv 6)) (pv 5)) (AY (A4 aT (A4 cK (pv 3) (A4 br (pv 6) ai)) (pv 5)) af)))) (Bd (8) sc.nd rfl (Or.inl rfl)) (A3 (A8 (9) sc.nd rfl (Or.inl rfl) (Bg Bs hr (by decide) rfl (AY (pv 0) (AY (A9 aE (by rfl) T.len wQ (AY (pv 8) af)) af)))) (A3 (A8 (8) sc.nd rfl (Or.inl rfl) (A5 aJ (AX (AY (pv 8) (AY (Bg Bu hr (by decide) rfl (AY (pv 8) af)) af))) (Bg Bs hr (by decide) rfl (AY (pv 0) (AY ai af))) (fun _ _=>rfl))) (AV (Bk (Ba xg xH xI bI (pv 7) (AY (A4 aT (A0 bw (pv 8) (A2 (pv 9)) aV) (A0 bw (pv 8) aV (A2 (pv 9)))) af))))))) (AV (AW (AZ bX (by rfl) T.tuple ig (AY (pv 7) af))))))))))),?_⟩
  refine ⟨_,rfl,_,rfl,_,rfl,(by rw [eG];omega),_,rfl,_,rfl,_,rfl,(by rw [eH];omega),_,_,rfl,rfl,?_,?_⟩
  ·have h1:=yz ("abcdef":Str) none (some (m:Int))
   have h2:=yz ("ABCDEF":Str) none (some (m:Int))
   rw [eG] at h1
   rw [eH] at h2
   omega
  rw [fJ (by omega)]
  refine ⟨_,rfl,_,rfl,_,rfl,_,_,rfl,rfl,.inl ⟨by decide,by decide⟩,d,c,_,rfl,F,by omega,by omega,fun q H1 q0 q1 F1 sb1=>?_⟩
  have hq:q.toNat < (sg (m:Int)).length:=by omega
  refine ⟨_,_,cp (sg (m:Int))[q.toNat],rfl,rfl,(by rw [ae];omega),b7 (k:=q.toNat) (by omega) (fu hq),?_⟩
  have hx:=wY hq
  show dC _ _ _ (tx [(sg (m:Int))[q.toNat]]) _
  generalize (sg (m:Int))[q.toNat]=x at hx ⊢
  refine ⟨_,rfl,_,rfl,?_⟩
  refine bY (own:=["_law_sign_here"]) (cap:=[3]) (J:=Its (toS (sg (m:Int)))) (sg (m:Int)).length (fun i ys σ H'=>∃ v:Option V,σ = [v,some (tx [x])]∧ys=bo (((sg (m:Int)).take i).filter fun y=>decide (y.val % 6≠x.val % 6))∧H'=H1) ⟨none,rfl,rfl,rfl⟩ (fun i ys σ H' hi ⟨v,_,e,_⟩=>?_) (by omega) (fun i ys σ H' hi _=>?_) (fun ys σ H' _=>?_) ?_ ?_
  ·rw [e,aK]
   exact xq (zF _ _) (by rw [wD];omega)
  ·show i < (toS _).cps.size;rw [bh];exact hi
  ·show _=(toS _).cps.size;rw [bh]
  ·rintro i ys σ H2 z H3 N hi ⟨v,rfl,rfl,rfl⟩ ⟨rfl,cc,hcc,rfl⟩ hN
   obtain ⟨y,hy,e⟩:=c5 hcc
   rw [e]
   refine ⟨_,rfl,rfl,_,rfl,rfl,(by rw [ae];show 1≤5592405;decide),?_⟩
   rw [ml]
   refine ⟨_,rfl,rfl,_,rfl,rfl,(by rw [ae];show 1≤5592405;decide),?_⟩
   rw [ml]
   refine ⟨rfl,_,rfl,?_⟩
   have ed:(!decide (V.str (toS [⟨y.val % 6,by omega⟩])=V.str (toS [⟨x.val % 6,by omega⟩])))=decide (y.val % 6≠x.val % 6):=by
    rw [show V.str (toS [(⟨y.val % 6,by omega⟩:L)])=tx [⟨y.val % 6,by omega⟩] from rfl,show V.str (toS [(⟨x.val % 6,by omega⟩:L)])=tx [⟨x.val % 6,by omega⟩] from rfl,fc,decide_not]
    congr 1
    exact zH.mpr ⟨fun e=>wR Fin.val (xM e).1,fun e=>wR (fun q=>[q]) (Fin.ext e)⟩
   rw [ed]
   by_cases hc:y.val % 6≠x.val % 6
   ·refine i8 (wF hc) ⟨_,rfl,hN _ _ _ ⟨_,rfl,?_,rfl⟩⟩
    rw [b9 _ hy,if_pos (wF hc),← bu]
    rfl
   ·refine i9 (wm hc) (hN _ _ _ ⟨_,rfl,?_,rfl⟩)
    rw [b9 _ hy,if_neg (by simpa using hc),xw]
  ·rintro ys σ H2 l ⟨v,rfl,rfl,rfl⟩ hl
   rw [ze]
   have no:=tw m2 m6 x
   have mo:∀ t∈(sg (m:Int)).filter (fun y=>decide (y.val % 6≠x.val % 6)),t∈sg (m:Int)∧x.val % 6≠t.val % 6:=fun t ht=>⟨(zM.mp ht).1,fun e=>by have:=(zM.mp ht).2;simp [e] at this⟩
   have lo:((sg (m:Int)).filter (fun y=>decide (y.val % 6≠x.val % 6))).length≤12:=xq (zF _ _) (by omega)
   generalize (sg (m:Int)).filter (fun y=>decide (y.val % 6≠x.val % 6))=O at no mo lo ⊢
   have op:=xf.mpr no
   have F2:=F1.new (o:=.lst (bo O)) hl
   have f2:(upd H2 l (.lst (bo O))) l=some (.lst (bo O)):=ag
   have BK:=F1.ne hl
   have sb2:=sb1.trans (aA.new (o:=.lst (bo O)) hl).b
   generalize upd H2 l (.lst (bo O))=H3 at F2 f2 sb2 ⊢
   refine ⟨_,rfl,_,rfl,_,rfl,l,_,rfl,.inl (SqL.of f2),d,c,_,rfl,F2,by rw [aK];omega,by rw [aK];omega,fun j H4 j0 j1 F4 BW=>?_⟩
   rw [aK] at j1
   obtain ⟨v,hv,ax⟩:=mn (xs:=bo O) j0 (by rw [aK];exact j1)
   obtain ⟨t,ht,rfl⟩:∃ t∈O,v=tx [t]:=by
    unfold bo at hv
    obtain ⟨t,ht,rfl⟩:=xY.mp hv
    exact ⟨t,ht,rfl⟩
   obtain ⟨hts,hxt⟩:=mo t ht
   refine ⟨l,_,_,_,rfl,rfl,SqL.of (BW _ _ BK f2),ax,?_⟩
   have BW:=sb2.trans BW
   refine ⟨_,rfl,d,c,_,rfl,F4,by decide,by decide,fun r H5 r0 r1 F5 sb5=>⟨(by show 2≤_;decide),fun p hp=>?_⟩⟩
   have F6:=F5.new (o:=.lst [.int r,.int 25]) hp
   have f6:(upd H5 p (.lst [.int r,.int 25])) p=some (.lst [.int r,.int 25]):=ag
   have hpd:=F5.ne hp
   have sb6:=(BW.trans sb5).trans (aA.new (o:=.lst [.int r,.int 25]) hp).b
   generalize upd H5 p (.lst [.int r,.int 25])=H6 at F6 f6 sb6 ⊢
   refine ⟨_,rfl,d,c,_,rfl,F6,by decide,by decide,fun b H7 b0 b1 F7 B6=>⟨rfl,.inr ⟨_,rfl,?_⟩⟩⟩
   have f7:=B6 _ _ hpd f6
   have B6:=sb6.trans B6
   obtain ⟨o,o0,o1,ao⟩:∃ o:Int,0≤o∧o≤25∧atI [V.int r,.int 25] (if decide (V.int b=V.int 0)=true then 1 else 0)=some (.int o):=by
    cases decide (V.int b=V.int 0) with
    | true=>exact ⟨25,by decide,by decide,rfl⟩
    | false=>exact ⟨r,r0,by omega,rfl⟩
   refine ⟨p,_,_,_,rfl,rfl,SqL.of f7,ao,_,_,rfl,rfl,?_⟩
   have gw:∀ n:Int,3≤n→n≤29→GR m 30 (rep n.toNat [x]++[t]):=fun n n0 n1=>by
    refine ⟨qy (x:=x) (t:=t) (by simp) (fun y hy=>?_) hxt,?_,fun y hy=>?_⟩
    ·rcases wL.mp hy with hy | hy
     ·exact .inl (wc.mp (gk hy))
     ·exact .inr (wc.mp hy)
    ·rw [wj,bT]
     show n.toNat*1+1≤30
     omega
    ·rcases wL.mp hy with hy | hy
     ·rw [wc.mp (gk hy)];exact oO m6 hx
     ·rw [wc.mp hy];exact oO m6 hts
   have lw:∀ n:Int,3≤n→n≤29→(toS (rep n.toNat [x])).length+(toS [t]).length≤sizeLine:=fun n n0 n1=>by
    rw [ae,ae,bT]
    show n.toNat*1+1≤_
    omega
   refine ⟨(by show 0≤_;decide),fun l2 hl2=>?_⟩
   have F8:=F7.new (o:=.lst []) hl2
   have f8:(upd H7 l2 (.lst [])) l2=some (.lst []):=ag
   have hl2d:=F7.ne hl2
   have hl2c:=F7.nec hl2
   have hl2H:H l2=none:=by
    cases e:H l2 with
    | none=>rfl
    | some o =>
     have:=B6 _ _ hl2d e
     rw [hl2] at this
     cases this
   have sb8:=B6.trans (aA.new (o:=.lst []) hl2).b
   generalize upd H7 l2 (.lst [])=H8 at F8 f8 sb8 ⊢
   refine ⟨_,rfl,_,rfl,_,_,rfl,rfl,da _ (by omega) (by omega) (by show 1≤_;decide),?_⟩
   rw [fI]
   refine ⟨_,rfl,_,_,rfl,rfl,lw _ (by omega) (by omega),?_⟩
   rw [cv]
   refine ⟨_,rfl,_,rfl,_,_,rfl,rfl,_,_,rfl,rfl,da _ (by omega) (by omega) (by show 1≤_;decide),?_⟩
   rw [fI]
   refine ⟨_,rfl,_,_,rfl,rfl,lw _ (by omega) (by omega),(by show 2≤_;decide),fun t2 ht2=>?_⟩
   rw [cv]
   have g1:=gw (3+o) (by omega) (by omega)
   have g2:=gw (3+o+1) (by omega) (by omega)
   generalize rep (3+o).toNat [x]++[t]=w1 at g1 ⊢
   generalize rep (3+o+1).toNat [x]++[t]=w2 at g2 ⊢
   have F9:=F8.new (o:=.tup [tx w1,tx w2]) ht2
   have f9:(upd H8 t2 (.tup [tx w1,tx w2])) t2=some (.tup [tx w1,tx w2]):=ag
   have ht2d:=F8.ne ht2
   have B3:t2≠l2:=fun e=>by rw [e,f8] at ht2;cases ht2
   have f8:=(aA.new (o:=.tup [tx w1,tx w2]) ht2) _ _ f8
   have sb9:=sb8.trans (aA.new (o:=.tup [tx w1,tx w2]) ht2).b
   generalize upd H8 t2 (.tup [tx w1,tx w2])=H9 at F9 f9 f8 sb9 ⊢
   refine ⟨t2,rfl,⟨_,SqT.of f9⟩,?_⟩
   refine hV (xs:=[tx w1,tx w2]) (fun i σ H'=>∃ (v8 v9:Option V) (W:List (List L)),σ = [some (.ref d),some (.int (m:Int)),some (tx (sg (m:Int))),some (tx [x]),some (.ref l),some (tx [t]),some (.int (3+o)),some (.ref l2),v8,v9]∧H' l2=some (.lst (W.map tx))∧W.length=i∧(∀ w∈W,GR m 30 w)∧H' t2=some (.tup [tx w1,tx w2])∧Tp H' d c∧bq d H H') ⟨none,none,[],rfl,f8,rfl,(fun w hw=>by cases hw),f9,F9,sb9⟩ (fun i σ H' _ ⟨_,_,_,_,_,_,_,e,_⟩=>SqT.of e) ?_ ?_
   ·rintro i y σ H10 hy ⟨v8,v9,W,rfl,f10,hW,gW,k10,F10,BX⟩
    have hi:i < 2:=(wo.mp hy).1
    obtain ⟨w0,g0,rfl⟩:∃ w0,GR m 30 w0∧y=tx w0:=by
     rcases wH.mp (xt hy) with rfl | hy
     ·exact ⟨w1,g1,rfl⟩
     ·rw [wc.mp hy]
      exact ⟨w2,g2,rfl⟩
    have wl:=g0.2.1
    have wp:0 < w0.length:=xf.mpr g0.1.ne
    refine ⟨_,rfl,_,rfl,_,rfl,(by rw [ae];omega),d,c,_,rfl,F10,by rw [ae];omega,by rw [ae];omega,fun a H11 a0 a1 F11 sb11=>?_⟩
    have f11:=sb11 _ _ hl2d f10
    have k11:=sb11 _ _ ht2d k10
    have sb11:=BX.trans sb11
    refine ⟨_,rfl,_,rfl,w0,rfl,by omega,fun H12 s12=>⟨(cD (n:=2) (by decide)),fun p3 hp3=>?_⟩⟩
    have s13:=s12.then (o:=.lst [tx w0,tx (bk w0)]) hp3
    have f13:=s13 _ _ f11
    have k13:=s13 _ _ k11
    have F13:=F11.same s13
    have sb13:=sb11.trans s13.b
    have hpd3:=(F11.same s12).ne hp3
    refine ⟨_,rfl,d,c,_,rfl,F13,by decide,by decide,fun b H14 b0 b1 F14 sb14=>?_⟩
    have f14:=sb14 _ _ hl2d f13
    have k14:=sb14 _ _ ht2d k13
    have g14:=sb14 _ _ hpd3 (ag (o:=.lst [tx w0,tx (bk w0)]))
    have sb14:=sb13.trans sb14
    obtain ⟨z,hz,ax⟩:=mn (xs:=[tx w0,tx (bk w0)]) b0 b1
    obtain ⟨w3,g3,rfl⟩:∃ w3,GR m 30 w3∧z=tx w3:=by
     rcases wH.mp hz with rfl | hz
     ·exact ⟨w0,g0,rfl⟩
     ·rw [wc.mp hz]
      exact ⟨_,g0.bk,rfl⟩
    have w3l:=g3.2.1
    refine ⟨p3,_,_,_,rfl,rfl,SqL.of g14,ax,?_⟩
    have c1:Txt.slice (toS w3) none (some a)=toS (w3.take a.toNat):=by rw [aW,cW _ (by omega)]
    have c2:Txt.slice (toS w3) (some a) none=toS (w3.drop a.toNat):=by rw [aW,dU _ (by omega)]
    refine ⟨_,rfl,.inl ⟨rfl,_,SqL.of f14⟩,_,rfl,_,rfl,_,rfl,_,rfl,(by rw [ae];omega),?_⟩
    rw [c2]
    refine ⟨_,rfl,_,rfl,_,rfl,_,rfl,(by rw [ae];omega),?_⟩
    rw [c1]
    refine ⟨_,_,rfl,rfl,(by rw [ae,ae,xB,wD];omega),?_⟩
    rw [cv]
    refine ⟨l2,_,_,rfl,rfl,f14,by rw [wq];omega,?_⟩
    refine ⟨_,_,W++[w3.drop a.toNat++w3.take a.toNat],rfl,by rw [ag,xr];rfl,by rw [wj,hW];rfl,fun v hv=>?_,by rw [aP B3];exact k14,F14.but hl2d hl2c bq.upd,fun b o nb e=>?_⟩
    ·rcases wL.mp hv with hv | hv
     ·exact gW v hv
     ·rw [wc.mp hv];exact g3.turn _
    ·rw [aP (aC e hl2H)];exact sb14 _ _ nb e
   ·rintro σ H10 ⟨v8,v9,W,rfl,f10,hW,gW,k10,F10,BX⟩
    refine ⟨_,rfl,l2,_,rfl,.inl ⟨SqL.of f10,fun q hq=>?_⟩⟩
    exact k q W _ (F10.new hq) (BX.trans (aA.new hq).b) ag hW gW
theorem oP {m:Nat}(h:m≤6){x:L}(hx:x∈sg (m:Int)):x.val % 6 < m:=by
 have q:∀ (m:Fin 7) (x:L),x∈([0,1,2,3,4,5]:List L).take m.val++([6,7,8,9,10,11]:List L).take m.val→x.val % 6 < m.val:=by decide
 exact q ⟨m,by omega⟩ x hx
theorem qA {α:Type}{xs:List α}{j:Int}(h0:0≤j)(h1:j < xs.length):∃ v,v∈xs∧atI xs j=some v:=by
 have hj:j.toNat < xs.length:=by omega
 refine ⟨xs[j.toNat],wY hj,?_⟩
 unfold atI ixN
 rw [if_pos h0,if_pos (by omega)]
 exact fu hj
abbrev mq:Stmt:=top 35
theorem qB:aG ["_law_tape_here","_law_many","_law_long","_law_signs","_law_piece","_law_found","_law_k","_law_rest","_law_word"] ["_law_tape_here","_law_many","_law_long"] (ak mq):=⟨rfl,rfl,rfl,by decide +kernel,rfl,by decide +kernel,by decide +kernel⟩
theorem tB (D:Df K mg "_law_near" mq)(T:Bt K w mg aB)(Bs:Fnc P w K mg base "_law_draw" ["_law_tape_here","_law_many"] 1 cx)(Bu:Fnc P w K mg base "_law_back" ["_law_word"] 1 i7)(BJ:Fnc P w K mg base "_law_inner" ["_law_word"] 2 d7)(BF:Fnc P w K mg base "_law_rooted" ["_law_word"] 1 d8)(BY:Fnc P w K mg base "_law_any_way" ["_law_tape_here","_law_many","_law_long"] 3 eR):Fnc P w K mg base "_law_near" ["_law_tape_here","_law_many","_law_long"] 4 lS:=by
 have sc:=qB
 refine D.ok sc (fun _ _ _ _ _ _ us hl=>by obtain ⟨_,_,_,rfl⟩:=sJ hl;rfl) (fun vs H Q E h=>?_) (fun f Bx A outer s H vs Q E hr h=>?_)
 ·obtain ⟨d,c,m,n,rfl,_⟩:=h
  rfl
 ·obtain ⟨d,c,m,n,rfl,F,m1,m6,n1,n7,k⟩:=h
  have BL:=aX
  have hsg:=eF (m:=(m:Int)) (by omega) (by omega)
  refine ⟨_,(A3 (A8 (3) sc.nd rfl (Or.inr rfl) (A4 aT (A0 bw bp aV (A2 (pv 1))) (A0 bw bp aV (A2 (pv 1))))) (A3 (A8 (4) sc.nd rfl (Or.inl rfl) (Bg BY hr (by decide) rfl (AY (pv 0) (AY (pv 1) (AY (pv 2) af))))) (A3 (A8 (5) sc.nd rfl (Or.inl rfl) (AX af)) (A3 (Bl xo rfl (Bm rfl T.range (AY ai af)) (Bd (6) sc.nd rfl (Or.inl rfl)) (A3 (A8 (7) sc.nd rfl (Or.inl rfl) (Ba w9 yd ye dD bp (AY (Bb (["_law_j","_law_signs","_law_tape_here","_law_many"]) (["_law_j"]) ([3,0,1]) (Bc rfl (by kernel_rfl)) rfl (Bm rfl T.range (AY (Bg Bs hr (by decide) rfl (AY (pv 0) (AY ai af))) af)) (fun _ _ _ _=>Bd (0) (show (["_law_j","_law_signs","_law_tape_here","_law_many"]:List Str).Nodup from by decide +kernel) rfl (Or.inl rfl)) (fun _ _ _ _=>cJ) (fun _ _ _ _=>by (exact (A5 bG (pv 1) (Bg Bs hr (by decide) rfl (AY (pv 2) (AY (A4 cP ai (pv 3)) af))) (fun _ _=>rfl))))) af))) (A3 (A8 (8) sc.nd rfl (Or.inl rfl) (Bg BJ hr (by decide) rfl (AY (A4 aT (A5 aJ (AX (AY (pv 4) (AY (Bg Bu hr (by decide) rfl (AY (pv 4) af)) af))) (Bg Bs hr (by decide) rfl (AY (pv 0) (AY ai af))) (fun _ _=>rfl)) (pv 7)) af))) (AV (Bk (Ba xg xH xI bI (pv 5) (AY (@oz _ _ _ _ _ _ _ (Bg BF hr (by decide) rfl (AY (A0 bw (pv 8) aV (A2 (A4 cP ai (pv 2)))) af)) (@j2 _ _ _ _ _ (A5 bG (pv 3) ai (fun _ _=>rfl)))) af))))))) (AV (AW (pv 5))))))),?_⟩
  refine ⟨_,rfl,_,rfl,_,rfl,(by rw [eG];omega),_,rfl,_,rfl,_,rfl,(by rw [eH];omega),_,_,rfl,rfl,?_,?_⟩
  ·have h1:=yz ("abcdef":Str) none (some (m:Int))
   have h2:=yz ("ABCDEF":Str) none (some (m:Int))
   rw [eG] at h1
   rw [eH] at h2
   omega
  rw [fJ (by omega)]
  obtain ⟨x0,hx0⟩:∃ x,(sg (m:Int))[0]? = some x:=⟨(sg (m:Int))[0]'(by omega),fu (by omega)⟩
  refine ⟨_,rfl,_,rfl,_,rfl,d,c,m,n,rfl,F,m1,m6,n1,by omega,fun w0 H1 g0 F1 sb1=>⟨(by show 0≤_;decide),fun l hl=>?_⟩⟩
  have wl:w0.length≤7:=xq g0.2.1 (by omega)
  have F2:=F1.new (o:=.lst []) hl
  have f2:(upd H1 l (.lst [])) l=some (.lst []):=ag
  have BK:=F1.ne hl
  have hlc:=F1.nec hl
  have hlH:H l=none:=by
   cases e:H l with
   | none=>rfl
   | some o =>
    have:=sb1 _ _ BK e
    rw [hl] at this
    cases this
  have sb2:=sb1.trans (aA.new (o:=.lst []) hl).b
  generalize upd H1 l (.lst [])=H2 at F2 f2 sb2 ⊢
  refine ⟨_,rfl,by decide,by decide,?_⟩
  refine a_ (lo:=0) (n:=2) (fun i σ H'=>∃ (v6 v7 v8:Option V) (W:List (List L)),σ = [some (.ref d),some (.int (m:Int)),some (.int n),some (tx (sg (m:Int))),some (tx w0),some (.ref l),v6,v7,v8]∧H' l=some (.lst (W.map tx))∧W.length=i∧(∀ w∈W,w≠[]∧w.length≤14∧InM m w)∧Tp H' d c∧bq d H H') ⟨none,none,none,[],rfl,f2,rfl,(fun w hw=>by cases hw),F2,sb2⟩ ?_ ?_
  ·rintro i σ H3 hi ⟨v6,v7,v8,W,rfl,f3,hW,gW,F3,sb3⟩
   refine ⟨rfl,_,rfl,d,c,_,rfl,F3,by decide,by decide,fun r H4 r0 r1 F4 BW=>?_⟩
   have f4:=BW _ _ BK f3
   have BW:=sb3.trans BW
   refine ⟨_,rfl,by omega,by omega,?_⟩
   refine bY (own:=["_law_j"]) (cap:=[3,0,1]) (J:=Itr 0 r.toNat) r.toNat (fun i ys σ H'=>∃ (v:Option V) (Z:List L),σ = [v,some (tx (sg (m:Int))),some (.ref d),some (.int (m:Int))]∧ys=bo Z∧Z.length=i∧(∀ x∈Z,x∈sg (m:Int))∧H' l=some (.lst (W.map tx))∧Tp H' d c∧bq d H H')
    ⟨none,[],rfl,rfl,rfl,(fun x hx=>by cases hx),f4,F4,BW⟩ (fun i ys σ H' hi ⟨v,W,_,e,e2,_⟩=>by rw [e,aK,e2];exact wu _) (by omega) (fun i ys σ H' hi _=>hi) (fun ys σ H' _=>wu _) ?_ ?_
   ·rintro i ys σ H5 x H6 N hi ⟨v,Z,rfl,rfl,hZ,mZ,f5,F5,sb5⟩ ⟨rfl,rfl⟩ hN
    refine ⟨_,rfl,_,rfl,_,rfl,_,_,rfl,rfl,.inl ⟨by decide,by decide⟩,d,c,_,rfl,F5,by omega,by omega,fun q H7 q0 q1 F7 B6=>?_⟩
    have hq:q.toNat < (sg (m:Int)).length:=by omega
    refine ⟨_,_,cp (sg (m:Int))[q.toNat],rfl,rfl,(by rw [ae];omega),b7 (k:=q.toNat) (by omega) (fu hq),hN _ _ _ ⟨_,Z++[(sg (m:Int))[q.toNat]],rfl,(bu _ _),by rw [wj,hZ];rfl,fun x hx=>(wL.mp hx).elim (mZ x) (fun hx=>by rw [wc.mp hx];exact wY hq),B6 _ _ BK f5,F7,sb5.trans B6⟩⟩
   ·rintro ys σ H5 p ⟨v,Z,rfl,rfl,hZ,mZ,f5,F5,sb5⟩ hp
    refine ⟨_,p,Z.map fun x=>toS [x],rfl,rfl,SqL.of (by rw [ag,b8]),bK _ (by omega),?_⟩
    rw [bJ]
    have f6:=(aA.new (o:=.lst (bo Z)) hp) _ _ f5
    have F6:=F5.new (o:=.lst (bo Z)) hp
    have sb6:=sb5.trans (aA.new (o:=.lst (bo Z)) hp).b
    generalize upd H5 p (.lst (bo Z))=H6 at f6 F6 sb6 ⊢
    refine ⟨_,rfl,_,rfl,w0,rfl,by omega,fun H7 s7=>⟨(cD (n:=2) (by decide)),fun p2 hp2=>?_⟩⟩
    have s8:=s7.then (o:=.lst [tx w0,tx (bk w0)]) hp2
    have f8:=s8 _ _ f6
    have F8:=F6.same s8
    have sb8:=sb6.trans s8.b
    have hpd:=(F6.same s7).ne hp2
    refine ⟨_,rfl,d,c,_,rfl,F8,by decide,by decide,fun b H9 b0 b1 F9 sb9=>?_⟩
    have f9:=sb9 _ _ BK f8
    have g9:=sb9 _ _ hpd (ag (o:=.lst [tx w0,tx (bk w0)]))
    have sb9:=sb8.trans sb9
    obtain ⟨z,hz,ax⟩:=qA (xs:=[tx w0,tx (bk w0)]) b0 b1
    obtain ⟨w1,g1,rfl⟩:∃ w1,GR m n.toNat w1∧z=tx w1:=by
     rcases wH.mp hz with rfl | hz
     ·exact ⟨w0,g0,rfl⟩
     ·rw [wc.mp hz]
      exact ⟨_,g0.bk,rfl⟩
    have w1l:w1.length≤7:=xq g1.2.1 (by omega)
    refine ⟨p2,_,_,_,rfl,rfl,SqL.of g9,ax,_,rfl,_,_,rfl,rfl,(by rw [ae,ae];omega),?_⟩
    rw [cv]
    have iZ:InM m (w1++Z):=fun x hx=>(wL.mp hx).elim (g1.2.2 x) fun hx=>oP m6 (mZ x hx)
    refine ⟨w1++Z,rfl,by rw [wj];omega,fun v1 H10 hv1 mv1 cv1 s10=>?_⟩
    have f10:=s10 _ _ f9
    have F10:=F9.same s10
    have BX:=sb9.trans s10.b
    rw [wj] at hv1
    have cz:Txt.slice (toS v1) none (some (2*n))=toS (v1.take (2*n).toNat):=by rw [aW,cW _ (by omega)]
    refine ⟨_,rfl,.inl ⟨rfl,_,SqL.of f10⟩,_,rfl,_,rfl,_,_,rfl,rfl,.inl ⟨by decide,by decide⟩,_,rfl,_,rfl,(by rw [ae];omega),?_⟩
    rw [cz]
    have fin:∀ w2:List L,w2≠[]→w2.length≤14→InM m w2→∃ (v6 v7 v8:Option V) (W':List (List L)),[some (.ref d),some (.int (m:Int)),some (.int n),some (tx (sg (m:Int))),some (tx w0),some (.ref l),some (.int (0+(i:Int))),some (tx Z),some (tx v1)]=[some (V.ref d),some (.int (m:Int)),some (.int n),some (tx (sg (m:Int))),some (tx w0),some (.ref l),v6,v7,v8]∧(upd H10 l (.lst (W.map tx++[tx w2]))) l=some (.lst (W'.map tx))∧W'.length=i+1∧(∀ w∈W',w≠[]∧w.length≤14∧InM m w)∧Tp (upd H10 l (.lst (W.map tx++[tx w2]))) d c∧bq d H (upd H10 l (.lst (W.map tx++[tx w2]))):=fun w2 a1 a2 a3=>by
     refine ⟨_,_,_,W++[w2],rfl,by rw [ag,xr];rfl,by rw [wj,hW];rfl,fun v hv=>?_,F10.but BK hlc bq.upd,fun b o nb e=>?_⟩
     ·rcases wL.mp hv with hv | hv
      ·exact gW v hv
      ·rw [wc.mp hv];exact ⟨a1,a2,a3⟩
     ·rw [aP (aC e hlH)];exact BX _ _ nb e
    have ll:(v1.take (2*n).toNat).length≤14:=by rw [wD];omega
    refine ⟨v1.take (2*n).toNat,rfl,by omega,fun v2 hv2 mv2 _=>?_⟩
    refine ⟨_,rfl,(by rw [ae];omega),gH (fun e2=>?_) (fun _=>?_)⟩
    ·exact ⟨l,_,_,rfl,rfl,f10,by rw [wq];omega,fin v2 (by rintro rfl;exact absurd e2 (by decide)) (by omega) fun x hx=>iZ x (mv1 x (xF (mv2 x hx)))⟩
    ·refine ⟨_,rfl,_,_,cp x0,rfl,rfl,(by rw [ae];omega),b7 (k:=0) rfl hx0,?_⟩
     exact ⟨l,_,_,rfl,rfl,f10,by rw [wq];omega,fin [x0] (by simp) (by show 1≤14;decide) fun x hx=>by rw [wc.mp hx];exact oP m6 (xt hx0)⟩
  ·rintro σ H3 ⟨v6,v7,v8,W,rfl,f3,hW,gW,F3,sb3⟩
   exact ⟨_,rfl,k l W H3 hlH F3 sb3 f3 hW gW⟩
theorem nT {w:List L}{i:Nat}(h:i < w.length):atI (toS w).cps.toList ((i:Int) - 1)=some (cp (atZ w ((i:Int) - 1))):=by
 by_cases c:i=0
 ·subst c
  have e:atZ w (((0:Nat):Int) - 1)=w[w.length - 1]:=by
   rw [← fX,show ((0:Nat):Int) - 1+(w.length:Int)=((w.length - 1:Nat):Int) by omega]
   exact eQ (by omega)
  rw [e,bR]
  have B3:w≠[]:=xf.mp h
  have el:w.map cp=w.dropLast.map cp++[cp w[w.length - 1]]:=by
   have:=(yU B3).symm
   rw [List.getLast_eq_getElem] at this
   rw [← List.map_singleton,← xr,← this]
  rw [el]
  exact ft _ _
 ·exact lQ (by omega) (by omega)
abbrev gp:Stmt:=top 36
theorem mx:aG ["_law_word"] ["_law_word"] (ak gp):=⟨rfl,rfl,rfl,by decide +kernel,rfl,by decide +kernel,by decide +kernel⟩
theorem nU (D:Df K mg "_law_is_round" gp)(T:Bt K w mg aB)(Bu:Fnc P w K mg base "_law_back" ["_law_word"] 1 i7):Fnc P w K mg base "_law_is_round" ["_law_word"] 2 gi:=by
 have sc:=mx
 refine D.ok sc (fun _ _ _ _ _ _ us hl=>by obtain ⟨_,rfl⟩:=qI hl;rfl) (fun vs H Q E h=>?_) (fun f Bx A outer s H vs Q E hr h=>?_)
 ·obtain ⟨w,rfl,_⟩:=h
  rfl
 ·obtain ⟨w,rfl,hw,wl,k⟩:=h
  have BL:=aX
  refine ⟨_,(AV (AW (Bh (@kK _ (by exact hr.units)) (Bb (["_law_k","_law_word"]) (["_law_k"]) ([0]) (Bc rfl (by kernel_rfl)) rfl (Bm rfl T.range (AY (A9 aE (by rfl) T.len wQ (AY (pv 0) af)) af)) (fun _ _ _ _=>Bd (0) (show (["_law_k","_law_word"]:List Str).Nodup from by decide +kernel) rfl (Or.inl rfl)) (fun _ _ _ _=>(@dS _ _ _ (by exact (A7 bF (A5 bG (pv 1) (pv 0) (fun _ _=>rfl)) (Bg Bu hr (by decide) rfl (AY (A5 bG (pv 1) (A4 eX (pv 0) ai) (fun _ _=>rfl)) af)) (aI _))))) (fun _ _ _ _=>by (exact (pv 0)))) (AX af) (aI _)))),?_⟩
  refine ⟨_,rfl,_,rfl,(by rw [ae];omega),_,rfl,?_⟩
  rw [ae]
  refine ⟨by omega,by omega,?_⟩
  refine bY (own:=["_law_k"]) (cap:=[0]) (J:=Itr 0 (w.length:Int).toNat) w.length (fun i ys σ H'=>∃ v:Option V,σ = [v,some (tx w)]∧ys.length≤i∧(ys=[]→∀ k:Nat,k < i→atZ w (k:Int)≠inv (atZ w ((k:Int) - 1)))∧aA H H') ⟨none,rfl,wu _,(fun _ k hk=>by omega),aA.refl _⟩ (fun i ys σ H' hi ⟨v,_,e,_⟩=>e) (by omega) (fun i ys σ H' hi _=>by show i < _;omega) (fun ys σ H' _=>by show _≤_;omega) ?_ ?_
  ·rintro i ys σ H1 x H2 N hi ⟨v,rfl,hy,al,s1⟩ ⟨rfl,rfl⟩ hN
   rw [show (0:Int)+(i:Int)=(i:Int) by omega]
   refine ⟨_,rfl,_,rfl,_,_,_,rfl,rfl,(by rw [ae];omega),lQ (by omega) (by omega),_,rfl,_,rfl,_,_,rfl,rfl,_,_,_,rfl,rfl,(by rw [ae];omega),nT hi,[atZ w ((i:Int) - 1)],rfl,(by show 1≤_;decide),fun H3 s3=>⟨rfl,_,rfl,?_⟩⟩
   rw [cq]
   have ed:decide (V.str ⟨#[cp (atZ w (i:Int))]⟩=tx [inv (atZ w ((i:Int) - 1))])=decide (atZ w (i:Int)=inv (atZ w ((i:Int) - 1))):=by
    rw [show V.str ⟨#[cp (atZ w (i:Int))]⟩=tx [atZ w (i:Int)] from rfl,fc]
    exact zH.mpr ⟨fun e=>(xM e).1,fun e=>by rw [e]⟩
   show if decide (V.str ⟨#[cp (atZ w (i:Int))]⟩=tx [inv (atZ w ((i:Int) - 1))])=true then _ else _
   rw [ed]
   by_cases c:atZ w (i:Int)=inv (atZ w ((i:Int) - 1))
   ·refine i8 (wF c) ⟨_,rfl,hN _ _ _ ⟨_,rfl,by rw [wj];show _+1≤_;omega,fun z=>absurd z (by simp),s1.trans s3⟩⟩
   ·refine i9 (wm c) (hN _ _ _ ⟨_,rfl,by omega,fun z k hk=>?_,s1.trans s3⟩)
    by_cases e:k=i
    ·rw [e];exact c
    ·exact al z k (by omega)
  ·rintro ys σ H1 p ⟨v,rfl,hy,al,s1⟩ hp
   have s2:=s1.then (o:=.lst ys) hp
   have f2:(upd H1 p (.lst ys)) p=some (.lst ys):=ag
   generalize upd H1 p (.lst ys)=H2 at s2 f2 ⊢
   refine ⟨(by show 0≤_;decide),fun p2 hp2=>?_⟩
   refine ⟨p,p2,ys,rfl,rfl,(aA.new hp2) _ _ f2,ag,k _ _ (fun e=>?_) (s2.then hp2)⟩
   exact oJ hw (al (List.isEmpty_iff.mp e))
theorem nV {tb:TE}{σ:L2.St}{Q:VK}{c:Bool}{H:Hp}(h1:∀ b,Q (.bl b) H)(h2:(∀ b,Q (.bl b) H)→tb σ H Q):iR tb σ Q (.bl c) H:=⟨c,rfl,by cases c with | true=>exact qF (h2 h1) | false=>exact mQ (h1 false)⟩
abbrev iO:Stmt:=top 37
theorem nW:aG ["_law_surface","_law_ways","_law_i","_law_j","_law_due","_law_again","_law_found"] ["_law_surface","_law_ways"] (ak iO):=⟨rfl,rfl,rfl,by decide +kernel,rfl,by decide +kernel,by decide +kernel⟩
theorem qC (D:Df K mg "_law_right" iO)(T:Bt K w mg aB)(Cb:Fnc P w K mg base "links" ["surface","ways","i","j"] 6 eO)(F_lked:Fnc P w K mg base "_law_linked" ["_law_surface","_law_ways","_law_i","_law_j"] 5 eO):Fnc P w K mg base "_law_right" ["_law_surface","_law_ways"] 7 dy:=by
 have sc:=nW
 refine D.ok sc (fun _ _ _ _ _ _ us hl=>by obtain ⟨_,_,rfl⟩:=qJ hl;rfl) (fun vs H Q E h=>?_) (fun f Bx A outer s H vs Q E hr h=>?_)
 ·obtain ⟨u,a,n,W,rfl,_⟩:=h
  rfl
 ·obtain ⟨u,a,n,W,rfl,U,hW,k⟩:=h
  have BL:=aX
  have w4:=hW.ok.le
  have w1:=hW.ok.lo
  refine ⟨_,(A3 (Bl xo rfl (Bm rfl T.range (AY (A9 aS (by rfl) T.len wQ (AY (pv 1) af)) af)) (Bd (2) sc.nd rfl (Or.inl rfl)) (AV (Bl xo rfl (@gs _ _ _ _ _ _ _ rfl T.range (AY (pv 2) (AY (A9 aS (by rfl) T.len wQ (AY (pv 1) af)) af)) (by rfl) (by rfl)) (Bd (3) sc.nd rfl (Or.inl rfl)) (A3 (A8 (4) sc.nd rfl (Or.inl rfl) (Bg F_lked hr (by decide) rfl (AY (pv 0) (AY (pv 1) (AY (pv 2) (AY (pv 3) af)))))) (AV (Bl xo rfl (Bm rfl T.range (AY (A4 br ai (AZ gx (by rfl) T.int rM (AY (@qT _ _ _ _ _ _ _ (Bh bF (pv 2) ai (aI _)) (@j2 _ _ _ _ _ (Bh eV (A9 aE (by rfl) T.len wQ (AY (A5 aN (pv 1) ai (fun _ _=>rfl)) af)) ai (aI _)))) af))) af)) (Bd (5) sc.nd rfl (Or.inl rfl)) (A3 (A8 (6) sc.nd rfl (Or.inl rfl) (Bg Cb hr (by decide) rfl (AY (pv 0) (AY (pv 1) (AY (pv 2) (AY (pv 3) af)))))) (A3 (A6 (A7 kf (A9 (@de _ (by exact hr.gd) (by exact hr.units)) (by rfl) T.repr oq (AY (pv 6) af)) (A9 (@de _ (by exact hr.gd) (by exact hr.units)) (by rfl) T.repr oq (AY (pv 4) af)) (aI _)) (AV (AW hU)) aY) (AV (Bk (Ba xg xH xI bI (pv 6) (AY qQ af)))))))))))) (AV (AW hU))),?_⟩
  refine ⟨_,rfl,a,_,rfl,.inr (SqT.of hW.at_),_,rfl,?_⟩
  rw [wq]
  refine ⟨by omega,by omega,?_⟩
  refine a_ (lo:=0) (n:=(W.length:Int).toNat) (fun _ σ H'=>∃ v2 v3 v4 v5 v6:Option V,σ = [some (tx u),some (.ref a),v2,v3,v4,v5,v6]∧aA H H') ⟨none,none,none,none,none,rfl,aA.refl _⟩ ?_ ?_
  ·rintro i σ H1 hi ⟨v2,v3,v4,v5,v6,rfl,s1⟩
   rw [show (0:Int)+(i:Int)=(i:Int) by omega]
   have i1:(i:Int) < (W.length:Int):=by omega
   have i0:(0:Int)≤(i:Int):=by omega
   refine ⟨_,rfl,_,rfl,a,_,rfl,.inr (SqT.of (s1 _ _ hW.at_)),?_⟩
   rw [wq]
   refine ⟨_,_,rfl,⟨by omega,by omega,by omega,by omega⟩,?_⟩
   refine a_ (lo:=(i:Int)) (n:=((W.length:Int) - (i:Int)).toNat) (fun _ σ H'=>∃ v3 v4 v5 v6:Option V,σ = [some (tx u),some (.ref a),some (.int (i:Int)),v3,v4,v5,v6]∧aA H H') ⟨_,_,_,_,rfl,s1⟩ ?_ ?_
   ·rintro j σ H2 hj ⟨v3,v4,v5,v6,rfl,s2⟩
    have j0:(0:Int)≤(i:Int)+(j:Int):=by omega
    have j1:(i:Int)+(j:Int) < (W.length:Int):=by omega
    generalize (i:Int)+(j:Int)=jj at j0 j1 ⊢
    refine ⟨_,rfl,_,rfl,_,rfl,_,rfl,u,a,n,W,(i:Int),jj,rfl,U,hW.same s2,i0,i1,j0,j1,fun l zs H3 n3 s3 f3 k3 e3 w3=>?_⟩
    have s03:=s2.trans s3
    refine ⟨_,rfl,rfl,?_⟩
    obtain ⟨_,at0,_,l30,_,_⟩:=hW.ok.get (i:=0) (by omega) (by omega)
    refine nV (fun b=>.inr ⟨_,rfl,_,_,rfl,rfl,_,rfl,(by cases b <;> decide),(by cases b <;> decide),?_⟩) (fun all=>⟨_,rfl,a,_,_,_,rfl,rfl,SqT.of (s03 _ _ hW.at_),at0,_,rfl,(by rw [ae];omega),_,_,rfl,rfl,all _⟩)
    refine a_ (lo:=0) (n:=(1+if b=true then (1:Int) else 0).toNat) (fun _ σ H'=>∃ v5 v6:Option V,σ = [some (tx u),some (.ref a),some (.int (i:Int)),some (.int jj),some (.ref l),v5,v6]∧aA H3 H') ⟨_,_,rfl,aA.refl _⟩ ?_ ?_
    ·rintro m σ H4 hm ⟨v5,v6,rfl,s4⟩
     have s04:=s03.trans s4
     refine ⟨_,rfl,_,rfl,_,rfl,_,rfl,u,a,n,W,(i:Int),jj,rfl,U,hW.same s04,i0,i1,j0,j1,fun l5 zs5 H5 n5 s5 f5 k5 e5 w5=>?_⟩
     have eq:=lM e5 e3 w5 w3
     have s35:=s4.trans s5
     have d5:Dt H5 (.ref l5) (.list ((zs5.map (·.2)).map Lk.dat)):=.lst f5 k5.dts
     have d3:Dt H5 (.ref l) (.list ((zs.map (·.2)).map Lk.dat)):=.lst (s35 _ _ f3) (k3.same s35).dts
     refine ⟨_,rfl,l5,_,rfl,d5,jw hW.ok i0 i1 j0 j1 e5,_,rfl,l,_,rfl,d3,jw hW.ok i0 i1 j0 j1 e3,rfl,_,rfl,?_⟩
     rw [eq]
     have hl:zs5.length≤2700:=by
      have h1:=e5.length_eq
      have h2:=eN u W (i:Int) jj (hW.ok.get j0 j1).2.2.2.1 (wyZ W (i:Int)).length
      have h3:=(hW.ok.get i0 i1).2.2.2.1
      rw [wq] at h1
      omega
     refine (wR (fun b=>cj _ _ _ _ b _) (show (!decide (V.str (PyData.list ((zs.map (·.2)).map Lk.dat)).shown=V.str (PyData.list ((zs.map (·.2)).map Lk.dat)).shown))=false by rw [wF rfl];rfl)).mpr ?_
     refine fW ⟨_,rfl,.inl ⟨rfl,_,SqL.of f5⟩,l5,_,_,rfl,rfl,f5,by simp only [wq];omega,?_⟩
     exact ⟨_,_,rfl,fun x o e=>by rw [aP (aC (s4 _ _ e) n5)];exact s35 _ _ e⟩
    ·rintro σ H4 ⟨v5,v6,rfl,s4⟩
     exact ⟨_,_,_,_,rfl,s03.trans s4⟩
   ·rintro σ H2 ⟨v3,v4,v5,v6,rfl,s2⟩
    exact ⟨_,_,_,_,_,rfl,s2⟩
  ·rintro σ H1 ⟨v2,v3,v4,v5,v6,rfl,s1⟩
   exact k _ s1
end
inductive my (K:PySem.W.Frag)(vs:List V)(H:Hp)(Q:VK)(BC:XK):Prop
 | mk:∀ (a:Addr) (ns:List Int),(vs=[.ref a])→(SqL K H a (ns.map V.int))→(ns.length≤63)→(∀ H',Q (.bl true) H')→my K vs H Q BC
section
variable {P:Program} {w:World} {K:PySem.W.Frag} {mg:Str→Option Value} {base:Heap} {aB:Addr}
theorem iP {t u:TS}{D:gq}{σ:L2.St}{H:Hp}(R:L2.St→Hp→Prop)(h1:∀ nx:L2.St→Hp→Prop,(∀ σ2 H2,R σ2 H2→nx σ2 H2)→t ⟨nx,D.rt,D.bk,D.ct⟩ σ H)(h2:∀ σ2 H2,R σ2 H2→u D σ2 H2):tQ t u D σ H:=h1 _ h2
theorem qD {nx:L2.St→Hp→Prop}{rt:VK}{bk ct:L2.St→Hp→Prop}{i:Nat}{σ:L2.St}{x:V}{H:Hp}(h:nx (σ.set i (some x)) H):dC (j4 i) ⟨nx,rt,bk,ct⟩ σ x H:=h
theorem qE {α:Type}{xs:List α}{j:Int}(h0:0≤j)(h1:j < xs.length):∃ v,v∈xs∧atI xs j=some v:=by
 have hj:j.toNat < xs.length:=by omega
 refine ⟨xs[j.toNat],wY hj,?_⟩
 unfold atI ixN
 rw [if_pos h0,if_pos (by omega)]
 exact fu hj
def Wss (n:Nat)(W:List (List L)):Prop:=1≤W.length∧W.length≤4∧∀ w∈W,GR n 30 w
abbrev g6:Stmt:=top 38
theorem tD:aG ["_law_script","_law_tape_here","_law_k","_law_surface","_law_many","_law_long","_law_ways"] ["_law_script"] (ak g6):=⟨rfl,rfl,rfl,by decide +kernel,rfl,by decide +kernel,by decide +kernel⟩
theorem u5 {f:Addr}{fd:FuncData}(D:Fun K "law" "law" g6 f fd)(T:Bt K w mg aB)(F_tape:Fnc P w K mg base "_law_tape" ["_law_script"] 1 (kP K))(Bs:Fnc P w K mg base "_law_draw" ["_law_tape_here","_law_many"] 1 cx)(F_row:Fnc P w K mg base "_law_any_row" ["_law_tape_here","_law_most"] 2 oK)(B8:Fnc P w K mg base "_law_some_ways" ["_law_tape_here","_law_many","_law_most","_law_long"] 4 gh)
  (BY:Fnc P w K mg base "_law_any_way" ["_law_tape_here","_law_many","_law_long"] 3 eR) (F_near:Fnc P w K mg base "_law_near" ["_law_tape_here","_law_many","_law_long"] 4 lS) (B2:Fnc P w K mg base "_law_is_round" ["_law_word"] 2 gi) (Ca:Fnc P w K mg base "_law_long_pair" ["_law_tape_here","_law_many"] 2 iF) (B9:Fnc P w K mg base "_law_right" ["_law_surface","_law_ways"] 7 dy):mz P w K mg base CX0 8 f fd ["_law_script"] (my K):=by
 have sc:=tD
 refine D.ok sc (fun vs H Q E h=>?_) (fun Bx A outer s H vs Q E hr h=>?_)
 ·obtain ⟨a,ns,rfl,_⟩:=h
  rfl
 ·obtain ⟨a,ns,rfl,hS,hlen,q⟩:=h
  have BL:=aX
  refine ⟨_,(A3 (A8 (1) sc.nd rfl (Or.inl rfl) (Bg F_tape hr (by decide) rfl (AY (pv 0) af))) (A3 (Bl xo rfl (Bm rfl T.range (AY ai af)) (Bd (2) sc.nd rfl (Or.inl rfl)) (A3 (A8 (3) sc.nd rfl (Or.inl rfl) (Bg F_row hr (by decide) rfl (AY (pv 1) (AY ai af)))) (A3 (A8 (4) sc.nd rfl (Or.inl rfl) (A4 d9 (A9 aE (by rfl) T.len wQ (AY (pv 3) af)) ai)) (A3 (A8 (5) sc.nd rfl (Or.inl rfl) (A5 aJ (AX (AY ai (AY ai (AY ai af)))) (Bg Bs hr (by decide) rfl (AY (pv 1) (AY ai af))) (fun _ _=>rfl))) (A3 (A8 (6) sc.nd rfl (Or.inl rfl) (AZ dN (by rfl) T.list oo (AY (Bg B8 hr (by decide) rfl (AY (pv 1) (AY (pv 4) (AY ai (AY (pv 5) af))))) af))) (A3 (A6 (A7 bF (Bg Bs hr (by decide) rfl (AY (pv 1) (AY ai af))) ai (aI _)) (AV (A8 (6) sc.nd rfl (Or.inl rfl) (A4 oh (A0 eB (pv 6) aV (A2 ai)) (Bb (["_law_word"]) (["_law_word"]) ([]) (Bc rfl (by kernel_rfl)) rfl (@j7 _ _ _ _ (Bg F_near hr (by decide) rfl (AY (pv 1) (AY (pv 4) (AY (pv 5) af))))) (fun _ _ _ _=>Bd (0) (show (["_law_word"]:List Str).Nodup from by decide +kernel) rfl (Or.inl rfl)) (fun _ _ _ _=>(@dS _ _ _ (by exact (@ux _ _ _ (Bg B2 hr (by decide) rfl (AY (pv 0) af)) (fun _=>rfl))))) (fun _ _ _ _=>by (exact (pv 0))))))) aY) (A3 (A6 (A_ (Bo (A7 bF (pv 2) ai (aI _)) (@dA _ _ _ _ (A7 bF (Bg Bs hr (by decide) rfl (AY (pv 1) (AY ai af))) ai (aI _))))) (AV (A8 (6) sc.nd rfl (Or.inl rfl) (AX (AY (Bg BY hr (by decide) rfl (AY (pv 1) (AY (pv 4) (AY ai af)))) (AY (Bg BY hr (by decide) rfl (AY (pv 1) (AY (pv 4) (AY ai af)))) af))))) aY) (A3 (A6 (A_ (Bo (A7 bF (pv 2) ai (aI _)) (Bo (A7 hX (pv 4) ai (aI _)) (@dA _ _ _ _ (A7 bF (Bg Bs hr (by decide) rfl (AY (pv 1) (AY ai af))) ai (aI _)))))) (AV (A8 (6) sc.nd rfl (Or.inl rfl) (Bg Ca hr (by decide) rfl (AY (pv 1) (AY (pv 4) af))))) aY) (AV (A6 (@qS _ _ _ _ (@cH _ _ _ (Bg B9 hr (by decide) rfl (AY (pv 3) (AY (AZ bX (by rfl) T.tuple ig (AY (pv 6) af)) af))) (fun _=>rfl))) (AV (AW hU)) aY)))))))))) (AV (AW hU)))),?_⟩
  refine ⟨_,rfl,a,ns,rfl,hS,hlen,fun d c H1 _ _ F1 _=>?_⟩
  refine ⟨_,rfl,by decide,by decide,a_ (lo:=0) (n:=3) (fun i σ H'=>∃ (b2 b3 b4 b5 b6:Option V),σ = [some (.ref a),some (.ref d),b2,b3,b4,b5,b6]∧Tp H' d c) ⟨none,none,none,none,none,rfl,F1⟩ ?_ ?_⟩
  ·rintro i σ H1 hi ⟨b2,b3,b4,b5,b6,rfl,F1⟩
   rw [show (0:Int)+(i:Int)=(i:Int) by omega]
   refine ⟨_,rfl,d,c,_,rfl,F1,by decide,by decide,fun u n H2 U hn F2 _=>?_⟩
   have hul:=U.len
   have h1:=U.lo
   have h6:=U.hi
   have hll:(toS u).length≤sizeLine:=by rw [ae];omega
   have e2:((toS u).length:Int) / 2=(n:Int):=by rw [ae];omega
   refine ⟨_,rfl,_,rfl,hll,_,_,rfl,rfl,⟨by decide,by decide⟩,?_⟩
   rw [e2]
   refine ⟨(cD (n:=3) (by decide)),fun l0 hl0=>⟨_,rfl,d,c,_,rfl,F2.new hl0,by decide,by decide,fun y H3 y0 y1 F3 sb3=>?_⟩⟩
   have f3:=sb3 _ _ (F2.ne hl0) (ag (o:=.lst [.int 3,.int 5,.int 7]))
   obtain ⟨x,hx,ax⟩:=qE (xs:=[V.int 3,.int 5,.int 7]) y0 y1
   obtain ⟨lng,rfl,lo,hi2⟩:∃ z:Int,x = .int z∧1≤z∧z≤7:=by
    simp only [wH,wZ,yg] at hx
    rcases hx with rfl | rfl | rfl
    ·exact ⟨3,rfl,by decide,by decide⟩
    ·exact ⟨5,rfl,by decide,by decide⟩
    ·exact ⟨7,rfl,by decide,by decide⟩
   refine ⟨l0,_,_,_,rfl,rfl,SqL.of f3,ax,?_⟩
   refine ⟨_,rfl,_,rfl,_,rfl,d,c,n,lng,rfl,F3,h1,h6,lo,hi2,fun aw W H5 F5 sb5 g5 w1 w3 gW=>?_⟩
   refine ⟨aw,_,rfl,.inr (SqT.of g5),fun l hl=>?_⟩
   have F6:=F5.new (o:=.lst (W.map tx)) hl
   have f6:(upd H5 l (.lst (W.map tx))) l=some (.lst (W.map tx)):=ag
   generalize upd H5 l (.lst (W.map tx))=H6 at F6 f6 ⊢
   have W6:Wss n W:=⟨w1,by omega,fun v hv=>(gW v hv).le (by decide)⟩
   refine qD ?_
   refine iP (fun σ H'=>∃ (l:Addr) (W:List (List L)),σ = [some (.ref a),some (.ref d),some (.int (i:Int)),some (tx u),some (.int (n:Int)),some (.int lng),some (.ref l)]∧H' l=some (.lst (W.map tx))∧l≠d∧Wss n W∧Tp H' d c) ?_ ?_
   ·intro nx hn
    have BK:l≠d:=F5.ne hl
    refine ⟨_,rfl,d,c,_,rfl,F6,by decide,by decide,fun r H7 r0 r1 F7 B6=>⟨rfl,_,rfl,?_⟩⟩
    have f7:=B6 _ _ BK f6
    refine gH (fun _=>?_) (fun _=>hn _ _ ⟨l,W,rfl,f7,BK,W6,F7⟩)
    refine ⟨_,rfl,_,rfl,l,_,rfl,SqL.of f7,fun p hp=>?_⟩
    obtain ⟨v0,r0,rfl⟩:∃ v0 r0,W=v0::r0:=by
     cases W with
     | nil=>exact absurd w1 (by decide)
     | cons v r=>exact ⟨v,r,rfl⟩
    have ec:g_ ((v0::r0).map tx) none (some 1)=[tx v0]:=by
     unfold g_
     have e1:HT.sIx ((v0::r0).map tx).length ((v0::r0).map tx).length (some 1)=1:=by
      have q:=HT.eA ((v0::r0).map tx).length ((v0::r0).map tx).length 1
      rw [show ((1:Nat):Int)=1 from rfl] at q
      rw [q,wq,xu]
      omega
     rw [e1]
     rfl
    rw [ec]
    have F8:=F7.new (o:=.lst [tx v0]) hp
    have f8:(upd H7 p (.lst [tx v0])) p=some (.lst [tx v0]):=ag
    have hpd:p≠d:=F7.ne hp
    generalize upd H7 p (.lst [tx v0])=H8 at F8 f8 ⊢
    refine ⟨_,rfl,_,rfl,_,rfl,d,c,n,lng,rfl,F8,h1,h6,lo,hi2,fun l2 W2 H9 n9 F9 sb9 f9 w2 gW2=>⟨l2,rfl,⟨_,SqL.of f9⟩,?_⟩⟩
    have f89:=sb9 _ _ hpd f8
    refine gN (xs:=W2.map tx) (own:=["_law_word"]) (cap:=[]) (fun i ys σ H'=>∃ (b:Option V) (Z:List (List L)),σ = [b]∧ys=Z.map tx∧Z.length≤i∧(∀ v∈Z,GR n 30 v)∧aA H9 H') ⟨none,[],rfl,rfl,wu _,(fun v hv=>by cases hv),aA.refl _⟩ (fun i ys σ H' hi ⟨_,_,_,e,e2,_⟩=>by rw [e,wq];exact e2) (by rw [wq];omega) (fun i ys σ H' ⟨_,_,_,_,_,_,q⟩=>SqL.of (q _ _ f9)) ?_ ?_
    ·rintro j ys σ H10 z N hz ⟨b,Z,rfl,rfl,hZ,gZ,s10⟩ hN
     rw [xj] at hz
     cases hw2:W2[j]? with
     | none=>rw [hw2] at hz;cases hz
     | some v =>
      rw [hw2] at hz
      obtain rfl:=wA hz
      obtain ⟨a1,a2,a3⟩:=gW2 v (xt hw2)
      refine ⟨_,rfl,v,rfl,a1,by omega,fun bb H11 hb s11=>⟨_,rfl,?_⟩⟩
      cases bb with
      | true =>
       refine qF ⟨_,rfl,hN _ _ _ ⟨_,Z++[v],rfl,by rw [xr];rfl,by rw [wj];show _+1≤_;omega,fun y hy=>?_,s10.trans s11⟩⟩
       rcases wL.mp hy with hy | hy
       ·exact gZ y hy
       ·rw [wc.mp hy];exact ⟨hb rfl,by omega,a3⟩
      | false=>exact mQ (hN _ _ _ ⟨_,Z,rfl,rfl,by omega,gZ,s10.trans s11⟩)
    ·rintro ys σ H10 p2 ⟨b,Z,rfl,rfl,hZ,gZ,s10⟩ hp2
     rw [wq] at hZ
     have s11:=s10.then (o:=.lst (Z.map tx)) hp2
     have f11:(upd H10 p2 (.lst (Z.map tx))) p2=some (.lst (Z.map tx)):=ag
     generalize upd H10 p2 (.lst (Z.map tx))=H11 at s11 f11 ⊢
     have F11:=F9.same s11
     refine ⟨p,p2,_,_,rfl,rfl,s11 _ _ f89,f11,by rw [wq];show 1+_≤_;omega,fun p3 hp3=>hn _ _ ⟨p3,v0::Z,rfl,ag,F11.ne hp3,⟨by show 1≤_+1;omega,by show Z.length+1≤4;omega,fun v hv=>?_⟩,F11.new hp3⟩⟩
     rcases wH.mp hv with rfl | hv
     ·exact W6.2.2 _ wX
     ·exact gZ v hv
   ·clear W6 f6 F6 hl l gW w3 w1 g5 sb5 F5 W
    rintro σ H6 ⟨l,W,rfl,f6,BK,W6,F6⟩
    refine iP (fun σ H'=>∃ (l:Addr) (W:List (List L)),σ = [some (.ref a),some (.ref d),some (.int (i:Int)),some (tx u),some (.int (n:Int)),some (.int lng),some (.ref l)]∧H' l=some (.lst (W.map tx))∧l≠d∧Wss n W∧Tp H' d c) ?_ ?_
    ·intro nx hn
     refine ⟨_,rfl,rfl,_,rfl,?_⟩
     generalize decide (V.int (i:Int)=V.int 0)=bb
     cases bb with
     | false=>exact jP (fW (hn _ _ ⟨l,W,rfl,f6,BK,W6,F6⟩))
     | true =>
      refine jO ⟨_,rfl,d,c,_,rfl,F6,by decide,by decide,fun r H7 r0 r1 F7 B6=>⟨rfl,_,rfl,?_⟩⟩
      refine gH (fun _=>?_) (fun _=>hn _ _ ⟨l,W,rfl,B6 _ _ BK f6,BK,W6,F7⟩)
      refine ⟨_,rfl,_,rfl,d,c,n,30,rfl,F7,h1,h6,by decide,by decide,fun v1 H8 g1 F8 sb8=>?_⟩
      refine ⟨_,rfl,_,rfl,d,c,n,30,rfl,F8,h1,h6,by decide,by decide,fun v2 H9 g2 F9 sb9=>⟨(by show 2≤_;decide),fun p hp=>?_⟩⟩
      refine hn _ _ ⟨p,[v1,v2],rfl,ag,F9.ne hp,⟨by show 1≤2;decide,by show 2≤4;decide,fun v hv=>?_⟩,F9.new hp⟩
      simp only [wH,wZ,yg] at hv
      rcases hv with rfl | rfl
      ·exact g1
      ·exact g2
    ·clear W6 f6 F6 BK l W
     rintro σ H6 ⟨l,W,rfl,f6,BK,W6,F6⟩
     refine iP (fun σ H'=>∃ (l:Addr) (W:List (List L)),σ = [some (.ref a),some (.ref d),some (.int (i:Int)),some (tx u),some (.int (n:Int)),some (.int lng),some (.ref l)]∧(H' l=some (.lst (W.map tx)) ∨ H' l=some (.tup (W.map tx)))∧Wss n W∧Tp H' d c) ?_ ?_
     ·intro nx hn
      refine ⟨_,rfl,rfl,_,rfl,?_⟩
      generalize decide (V.int (i:Int)=V.int 1)=bb
      cases bb with
      | false=>exact jP (fW (hn _ _ ⟨l,W,rfl,.inl f6,W6,F6⟩))
      | true =>
       refine jO ⟨_,rfl,_,_,rfl,rfl,_,rfl,?_⟩
       by_cases c1:1 < n
       ·refine (wR (fun b=>bU _ _ _ b _) (wF (show (1:Int) < (n:Int) by omega))).mpr ?_
        refine jO ⟨_,rfl,d,c,_,rfl,F6,by decide,by decide,fun r H7 r0 r1 F7 B6=>⟨rfl,_,rfl,?_⟩⟩
        refine gH (fun _=>?_) (fun _=>hn _ _ ⟨l,W,rfl,.inl (B6 _ _ BK f6),W6,F7⟩)
        exact ⟨_,rfl,_,rfl,d,c,n,rfl,F7,c1,h6,fun aw W2 H8 F8 sb8 g8 w2 gW=>hn _ _ ⟨aw,W2,rfl,.inr g8,⟨by omega,by omega,gW⟩,F8⟩⟩
       ·refine (wR (fun b=>bU _ _ _ b _) (wm (show ¬ (1:Int) < (n:Int) by omega))).mpr ?_
        exact jP (fW (hn _ _ ⟨l,W,rfl,.inl f6,W6,F6⟩))
     ·clear W6 f6 F6 BK l W
      rintro σ H6 ⟨l,W,rfl,f6,W6,F6⟩
      have fin:∀ (p:Addr) (H7:Hp),Tp H7 d c→H7 p=some (.tup (W.map tx))→∀ Q2:VK,(∀ H8,Tp H8 d c→Q2 (.bl true) H8)→dy [tx u,.ref p] H7 Q2 E0:=fun p H7 F7 g7 Q2 hq=>⟨u,p,n,W,rfl,U,⟨g7,W6.2.1,W6.1,W6.2.2⟩,fun H8 s8=>hq H8 (F7.same s8)⟩
      refine ⟨_,rfl,_,rfl,l,W.map tx,rfl,?_⟩
      rcases f6 with f6 | f6
      ·exact .inl ⟨SqL.of f6,fun p hp=>fin p _ (F6.new hp) ag _ fun H8 F8=>⟨_,rfl,nkT (fW ⟨_,_,_,_,_,rfl,F8⟩)⟩⟩
      ·exact .inr ⟨SqT.of f6,fin l _ F6 f6 _ fun H8 F8=>⟨_,rfl,nkT (fW ⟨_,_,_,_,_,rfl,F8⟩)⟩⟩
  ·rintro σ H1 ⟨b2,b3,b4,b5,b6,rfl,F1⟩
   exact q _
end
theorem u6 {K:PySem.W.Frag}{h:Heap}{mg:Str→Option Value}{x:Str}{st:Stmt}{f:Addr}{oc:Value}{od an:Option Addr}{osl:Array (Option Value)}{kV doc pm Bx ct:Value}(X:K.In h)(G:h.Ns mainGlobals mg)(a:PySem.W.nsIn K mainGlobals x=some (some (.ref f)))
  (l:K.lookup f=some ⟨oc,od,.func (PySem.W.fnOf x x (bP st) (bA st) (ak st) .none kV doc pm an Bx ct),osl⟩) (c:PySem.W.codeIn K Bx x=true) (k:PySem.W.keepIn K (.ref f)=true):Df K mg x st:=⟨f,_,Ag X G a,oi l c k⟩
inductive DI (K:PySem.W.Frag)(x:Str)(st:Stmt):Prop
 | mk {f:Addr} {oc:Value} {od an:Option Addr} {osl:Array (Option Value)} {kV doc pm Bx ct:Value} (a:PySem.W.nsIn K mainGlobals x=some (some (.ref f))) (l:K.lookup f=some ⟨oc,od,.func (PySem.W.fnOf x x (bP st) (bA st) (ak st) .none kV doc pm an Bx ct),osl⟩) (c:PySem.W.codeIn K Bx x=true) (k:PySem.W.keepIn K (.ref f)=true):DI K x st
theorem DI.df {K:PySem.W.Frag}{h:Heap}{mg:Str→Option Value}{x:Str}{st:Stmt}(d:DI K x st)(X:K.In h)(G:h.Ns mainGlobals mg):Df K mg x st:=by
 cases d with
 | mk a l c k=>exact u6 X G a l c k
inductive DL where
 | n
 | c (x:Str) (st:Stmt) (r:DL)
def DIs (K:PySem.W.Frag):DL→Prop
 | .n=>True
 | .c x st r=>DI K x st∧DIs K r
theorem DIs.on {K:PySem.W.Frag}{x:Str}{st:Stmt}{r:DL}{f:Addr}{oc:Value}{od an:Option Addr}{osl:Array (Option Value)}{kV doc pm Bx ct:Value}(a:PySem.W.nsIn K mainGlobals x=some (some (.ref f)))(l:K.lookup f=some ⟨oc,od,.func (PySem.W.fnOf x x (bP st) (bA st) (ak st) .none kV doc pm an Bx ct),osl⟩)(c:PySem.W.codeIn K Bx x=true)(k:PySem.W.keepIn K (.ref f)=true)(hr:DIs K r):DIs K (.c x st r):=⟨.mk a l c k,hr⟩
theorem tE {l:PySem.W.OpenLaw}{w:World}{K:PySem.W.Frag}{h:Heap}{mg:Str→Option Value}{fa:Addr}(X:K.In h)(G:h.Ns mainGlobals mg)(hfa:mg "law" = some (.ref fa))
  {f32:Addr} {od32 an32:Option Addr} {sl32:Array (Option Value)} {oc32 kV32 dc32 pm32 cd32 ct32:Value} {aB:Addr} {es:Array DictEntry} {en:Nat}  {t0 t1 t2 t3 t4 t5 t6 t7 t8 t9 t10 t11:Tok}
  (hs:DIs K (.c "back" lY <| .c "met" lZ <| .c "round_from" uO <| .c "are_met_by_turns" qi <| .c "links" iI <| .c "links_at" qk <| .c "beside_at" qj <| .c "chord_ends" uR <| .c "along_at" qf <| .c "against_at" qg <| .c "stretch" qd <| .c "is_parted" l6 <| .c "is_first" qc <| .c "_law_tape" lV <| .c "_law_draw" lX <| .c "_law_back" iH <| .c "_law_any_row" qv <| .c "_law_inner" iL <| .c "_law_rooted" eS <| .c "_law_any_way" u3 <| .c "_law_some_ways" iM <| .c "_law_sooner" l7 <| .c "_law_sign" iJ <| .c "_law_four_ends" l9 <| .c "_law_run" l8 <| .c "_law_parted" iK <| .c "_law_linked_at" me <| .c "_law_linked" mf <| .c "_law_long_pair" iN <| .c "_law_near" mq <| .c "_law_is_round" gp <| .c "_law_right" iO <| .n))
  (a32:PySem.W.nsIn K mainGlobals "law" = some (some (.ref f32)))
  (l32:K.lookup f32=some ⟨oc32,od32,.func (PySem.W.fnOf "law" "law" (bP g6) (bA g6) (ak g6) .none kV32 dc32 pm32 an32 cd32 ct32),sl32⟩)
  (c32:PySem.W.codeIn K cd32 "law" = true)
  (k32:PySem.W.keepIn K (.ref f32)=true)
  (z_len:PySem.W.nsIn K mainGlobals "len" = some none)
  (z_repr:PySem.W.nsIn K mainGlobals "repr" = some none)
  (z_abs:PySem.W.nsIn K mainGlobals "abs" = some none)
  (z_max:PySem.W.nsIn K mainGlobals "max" = some none)
  (z_int:PySem.W.nsIn K mainGlobals "int" = some none)
  (z_list:PySem.W.nsIn K mainGlobals "list" = some none)
  (z_range:PySem.W.nsIn K mainGlobals "range" = some none)
  (z_reversed:PySem.W.nsIn K mainGlobals "reversed" = some none)
  (z_min:PySem.W.nsIn K mainGlobals "min" = some none)
  (z_sorted:PySem.W.nsIn K mainGlobals "sorted" = some none)
  (z_tuple:PySem.W.nsIn K mainGlobals "tuple" = some none)
  (z_isinstance:PySem.W.nsIn K mainGlobals "isinstance" = some none)
  (z_all:PySem.W.nsIn K mainGlobals "all" = some none)
  (z_str:PySem.W.nsIn K mainGlobals "str" = some none)
  (z_zip:PySem.W.nsIn K mainGlobals "zip" = some none)
  (aBk:PySem.W.nsIn K mainGlobals "BACKS" = some (some (.ref aB)))
  (lB:K.lookup aB=some ⟨.type "dict",none,.dict es en,#[]⟩)
  (kB:PySem.W.KeysLit w.params es.toList)
  (zS:PySem.W.nsIn K mainGlobals "set" = some none)
  (gl0:PySem.W.nsIn K aB "a" = some (some (.str "A" t0)))
  (gl1:PySem.W.nsIn K aB "b" = some (some (.str "B" t1)))
  (gl2:PySem.W.nsIn K aB "c" = some (some (.str "C" t2)))
  (gl3:PySem.W.nsIn K aB "d" = some (some (.str "D" t3)))
  (gl4:PySem.W.nsIn K aB "e" = some (some (.str "E" t4)))
  (gl5:PySem.W.nsIn K aB "f" = some (some (.str "F" t5)))
  (gl6:PySem.W.nsIn K aB "A" = some (some (.str "a" t6)))
  (gl7:PySem.W.nsIn K aB "B" = some (some (.str "b" t7)))
  (gl8:PySem.W.nsIn K aB "C" = some (some (.str "c" t8)))
  (gl9:PySem.W.nsIn K aB "D" = some (some (.str "d" t9)))
  (gl10:PySem.W.nsIn K aB "E" = some (some (.str "e" t10)))
  (gl11:PySem.W.nsIn K aB "F" = some (some (.str "f" t11))) :
  ∃ fd:FuncData,(∀ (s:Shared) (v:Value),BindsTo s fd ⟨[v],[]⟩ [("_law_script",v)])∧∀ base:Heap,K.In base→base.Ns mainGlobals mg→mz l.prog w K mg base CX0 8 fa fd ["_law_script"] (my K):=by
 have e:=hfa.symm.trans (Ag X G a32)
 cases e
 have gB:∀ x:L,∃ t,PySem.W.nsIn K aB (toS [x])=some (some (.str (toS [inv x]) t)):=by
  have q:∀ (x:L) (u v:Str) (t:Tok),PySem.W.nsIn K aB u=some (some (.str v t))→toS [x]=u→toS [inv x]=v→∃ t,PySem.W.nsIn K aB (toS [x])=some (some (.str (toS [inv x]) t)):=fun x u v t g e1 e2=>⟨t,by rw [e1,e2];exact g⟩
  intro x
  match x with
  | ⟨0,_⟩=>exact q 0 "a" "A" _ gl0 (by decide +kernel) (by decide +kernel)
  | ⟨1,_⟩=>exact q 1 "b" "B" _ gl1 (by decide +kernel) (by decide +kernel)
  | ⟨2,_⟩=>exact q 2 "c" "C" _ gl2 (by decide +kernel) (by decide +kernel)
  | ⟨3,_⟩=>exact q 3 "d" "D" _ gl3 (by decide +kernel) (by decide +kernel)
  | ⟨4,_⟩=>exact q 4 "e" "E" _ gl4 (by decide +kernel) (by decide +kernel)
  | ⟨5,_⟩=>exact q 5 "f" "F" _ gl5 (by decide +kernel) (by decide +kernel)
  | ⟨6,_⟩=>exact q 6 "A" "a" _ gl6 (by decide +kernel) (by decide +kernel)
  | ⟨7,_⟩=>exact q 7 "B" "b" _ gl7 (by decide +kernel) (by decide +kernel)
  | ⟨8,_⟩=>exact q 8 "C" "c" _ gl8 (by decide +kernel) (by decide +kernel)
  | ⟨9,_⟩=>exact q 9 "D" "d" _ gl9 (by decide +kernel) (by decide +kernel)
  | ⟨10,_⟩=>exact q 10 "E" "e" _ gl10 (by decide +kernel) (by decide +kernel)
  | ⟨11,_⟩=>exact q 11 "F" "f" _ gl11 (by decide +kernel) (by decide +kernel)
 have T:Bt K w mg aB:=⟨xi X G z_len,xi X G z_repr,xi X G z_abs,xi X G z_max,xi X G z_int,xi X G z_list,xi X G z_range,xi X G z_reversed,xi X G z_min,xi X G z_sorted,xi X G z_tuple,xi X G z_isinstance,xi X G z_all,xi X G z_str,xi X G z_zip,Ag X G aBk,⟨es,en,lB,kB⟩,gB⟩
 have Tset:mg "set" = none:=xi X G zS
 refine ⟨PySem.W.fnOf "law" "law" (bP g6) (bA g6) (ak g6) .none kV32 dc32 pm32 an32 cd32 ct32,fun s v=>.of_eq rfl,fun base _ _=>?_⟩
 obtain ⟨h0,h1,h2,h3,h4,h5,h6,h7,h8,h9,h10,h11,h12,h13,h14,h15,h16,h17,h18,h19,h20,h21,h22,h23,h24,h25,h26,h27,h28,h29,h30,h31,_⟩:=hs
 have F_tape:=sL (P:=l.prog) (w:=w) (base:=base) (h13.df X G) T
 have Bs:=sM (P:=l.prog) (w:=w) (base:=base) (h14.df X G) T
 have BG:=sN (P:=l.prog) (w:=w) (base:=base) (h0.df X G) T
 have Bu:=qa (P:=l.prog) (w:=w) (base:=base) (h15.df X G)
 have By:=sO (P:=l.prog) (w:=w) (base:=base) (h1.df X G) T BG
 have F_rf:=vY (P:=l.prog) (w:=w) (base:=base) (h2.df X G) T
 have F_fst:=uQ (P:=l.prog) (w:=w) (base:=base) (h12.df X G) T F_rf
 have F_ce:=vZ (P:=l.prog) (w:=w) (base:=base) (h7.df X G) T BG By
 have B5:=uT (P:=l.prog) (w:=w) (base:=base) (h10.df X G) T By
 have BO:=sS (P:=l.prog) (w:=w) (base:=base) (h11.df X G) T BG By F_fst
 have F_alg:=uU (P:=l.prog) (w:=w) (base:=base) (h8.df X G) T B5 BO
 have F_agn:=uV (P:=l.prog) (w:=w) (base:=base) (h9.df X G) T B5 BO
 have F_met:=uW (P:=l.prog) (w:=w) (base:=base) (h3.df X G) T
 have F_bes:=uX (P:=l.prog) (w:=w) (base:=base) (h6.df X G) T Tset F_ce F_met
 have F_lat:=uY (P:=l.prog) (w:=w) (base:=base) (h5.df X G) T F_agn F_alg F_bes
 have Cb:=ql (P:=l.prog) (w:=w) (base:=base) (h4.df X G) T F_lat
 have BI:=sY (P:=l.prog) (w:=w) (base:=base) (h21.df X G) T
 have Bz:=qo (P:=l.prog) (w:=w) (base:=base) (h22.df X G) T Bu
 have F_lrun:=sZ (P:=l.prog) (w:=w) (base:=base) (h24.df X G) T Bz
 have F_four:=s_ (P:=l.prog) (w:=w) (base:=base) (h23.df X G) T Tset Bu Bz BI
 have B_:=qr (P:=l.prog) (w:=w) (base:=base) (h25.df X G) T Bu Bz BI
 have F_lkat:=tj (P:=l.prog) (w:=w) (base:=base) (h26.df X G) T F_four F_lrun B_
 have F_lked:=tm (P:=l.prog) (w:=w) (base:=base) (h27.df X G) T F_lkat
 have F_row:=uZ (P:=l.prog) (w:=w) (base:=base) (h16.df X G) T Bs
 have BF:=mh (P:=l.prog) (w:=w) (base:=base) (h18.df X G) T
 have BJ:=qw (P:=l.prog) (w:=w) (base:=base) (h17.df X G) T Bu
 have BY:=v_ (P:=l.prog) (w:=w) (base:=base) (h19.df X G) T Bs BJ BF
 have B8:=qx (P:=l.prog) (w:=w) (base:=base) (h20.df X G) T Bs Bu BY
 have Ca:=qz (P:=l.prog) (w:=w) (base:=base) (h28.df X G) T Bs Bu
 have F_near:=tB (P:=l.prog) (w:=w) (base:=base) (h29.df X G) T Bs Bu BJ BF BY
 have B2:=nU (P:=l.prog) (w:=w) (base:=base) (h30.df X G) T Bu
 have B9:=qC (P:=l.prog) (w:=w) (base:=base) (h31.df X G) T Cb F_lked
 exact u5 (oi l32 c32 k32) T F_tape Bs F_row B8 BY F_near B2 Ca B9
theorem wa {l:PySem.W.OpenLaw}{q:Program}{loose:List Str}{XP:(Str→Option Value)→Heap→Prop}{YP:World→Heap→Prop}{d:DefRec}{K:Params→PySem.W.Frag}(hn:l.most=some 63)(hdf:d.params.defaults=[])
  (hY:∀ (w:World) (h:Heap),YP w h→(K w.params).In h)
  (F:∀ (w:World) (mg:Str→Option Value) (fa:Addr) (h:Heap),(K w.params).In h→h.Ns mainGlobals mg→mg d.name=some (.ref fa) →
   ∃ fd:FuncData,(∀ (s:Shared) (u:Value),BindsTo s fd ⟨[u],[]⟩ [("_law_script",u)])∧∀ base:Heap,(K w.params).In base→base.Ns mainGlobals mg→mz l.prog w (K w.params) mg base CX0 8 fa fd ["_law_script"] (my (K w.params))) :
  PySem.W.WalkO q loose XP YP l.row.toRowW d [] (fun f vs=>PySem.call f vs) :=
 L2.ky (n:=63) (k:=8) (x:="_law_script") (CX:=fun _=>CX0) (sp:=fun w=>my (K w.params)) hn (by decide) hdf ⟨rfl,by decide,by decide,rfl⟩ hY F (fun _ _ a ns hl _ hS=>⟨a,ns,rfl,hS,hl,fun _=>rfl⟩) fun _ _ _ _ _ z=>z
end Kx
namespace Kx
open PySem
def tF (s:String):Str:=⟨⟨PySem.W.R.mapR Char.toNat (PySem.W.S.toListS s)⟩⟩
theorem nX:Str.ofString=tF:=by
 funext s
 rw [Str.ofString_eq_toList,PySem.W.S.toListS_eq]
 show _=(⟨⟨PySem.W.R.mapR Char.toNat (PySem.W.S.toListS s)⟩⟩:Str)
 rw [← PySem.W.R.mapR_eq]
def apG (G:(String→Str)→Program)(x:String→Str):Program:=G x
def Gs:{ G:(String→Str)→Program // apG G Str.ofString=PySem.Challenge.pw_ringwords_k38_links_of_two_ways }:=by
 refine ⟨?G,?h⟩
 case h =>
  delta PySem.Challenge.pw_ringwords_k38_links_of_two_ways
  generalize Str.ofString=x
  exact rfl
end Kx
def PySem.W.Fast.tw11719806267886203887:PySem.Program:=Kx.Gs.1 Kx.tF
theorem PySem.W.Fast.te11719806267886203887:PySem.Challenge.pw_ringwords_k38_links_of_two_ways=PySem.W.Fast.tw11719806267886203887:=Kx.Gs.2.symm.trans (wR (Kx.apG Kx.Gs.1) Kx.nX)
namespace PySem.W.Fast
theorem te17536054744441561923:True:=trivial
theorem tw846152602014914267:True:=trivial
theorem tw4120161130124347764:True:=trivial
theorem tw13425802108943677832:True:=trivial
theorem tw4688271420470940753:True:=trivial
theorem tw3871613340495292568:True:=trivial
theorem tw8905992460460689117:True:=trivial
theorem tw15584928596329951239:True:=trivial
theorem tw16315921545372312545:True:=trivial
theorem tw3002033184861950929:True:=trivial
theorem tw13967886020347505281:True:=trivial
theorem tw17347605510679058899:True:=trivial
theorem tw502402945505951146:True:=trivial
theorem tw5556196485302674448:True:=trivial
theorem tw13159059130577487504:True:=trivial
theorem tw270970458449662213:True:=trivial
theorem tw9919723267107410393:True:=trivial
theorem tw2521036881348638530:True:=trivial
theorem tw8901019053099759391:True:=trivial
theorem tw8934680128848624408:True:=trivial
theorem tw14579193429099711544:True:=trivial
theorem tw3045258297335575295:True:=trivial
theorem tw5381222333058211023:True:=trivial
theorem tw9304989385200325298:True:=trivial
theorem tw7452210399665070863:True:=trivial
theorem tw3919729777601271578:True:=trivial
theorem tw14894964134733712913:True:=trivial
theorem tw10332468787830909455:True:=trivial
theorem tw3049856889211680497:True:=trivial
theorem tw16455336509691994752:True:=trivial
theorem tw7971711344268029143:True:=trivial
theorem tw13044434678080959385:True:=trivial
theorem tw13529952766953835262:True:=trivial
theorem tw4470969790651487355:True:=trivial
theorem tw14222297533030671213:True:=trivial
theorem tw15872061213356203987:True:=trivial
theorem tw12484375547869214454:True:=trivial
theorem tw3846426531205238115:True:=trivial
theorem tw13067851344633459612:True:=trivial
theorem tw16604484579361145675:True:=trivial
theorem tw6655336688161735270:True:=trivial
theorem tw9243257433322812887:True:=trivial
theorem tw145853201041980153:True:=trivial
theorem tw3405900632433441370:True:=trivial
theorem tw12404410045687819660:True:=trivial
theorem tw12308015102558427830:True:=trivial
theorem tw3985078584667031595:True:=trivial
theorem tw17513654138861833702:True:=trivial
theorem tw10754039550236399270:True:=trivial
theorem tw4990527943276687804:True:=trivial
theorem tw3150779066756951952:True:=trivial
theorem tw8907428462216913184:True:=trivial
theorem tw7157881065441859296:True:=trivial
theorem tw6125267834695677195:True:=trivial
theorem tw11633482549906475518:True:=trivial
theorem tw16428056994965340280:True:=trivial
theorem tw9825981167603898787:True:=trivial
theorem tw2984290874637831130:True:=trivial
theorem tw604938029932749502:True:=trivial
theorem tw6286710167331744640:True:=trivial
theorem tw18031363420814656967:True:=trivial
theorem tw11586742340090206470:True:=trivial
theorem tw17423843846543912352:True:=trivial
theorem tw7294537252406727565:True:=trivial
theorem tw4911991157969484813:True:=trivial
theorem tw7840057001322257678:True:=trivial
theorem tw3807679785273010417:True:=trivial
theorem tw5927487621252947552:True:=trivial
theorem tw16631162915862745307:True:=trivial
theorem tw9962977716277856517:True:=trivial
theorem tw9578623286817799214:True:=trivial
theorem tw17266697010664739639:True:=trivial
theorem tw3753407824801690634:True:=trivial
theorem tw13337376759545211764:True:=trivial
theorem tw4819909781187053845:True:=trivial
theorem tw15901878164486412750:True:=trivial
theorem tw7390148426486445095:True:=trivial
theorem tw18088358704716008186:True:=trivial
theorem tw14408606752625242592:True:=trivial
theorem tw16560427907194533385:True:=trivial
theorem tw9209832519359868887:True:=trivial
theorem tw8312605466505496726:True:=trivial
theorem tw4844913300702159865:True:=trivial
theorem tw4872823058008060064:True:=trivial
theorem tw7107278581346620492:True:=trivial
theorem tw4212248207314850387:True:=trivial
theorem tw16349092087823685449:True:=trivial
theorem tw247708795256999975:True:=trivial
theorem tw14339558934948491983:True:=trivial
theorem tw13963689655656410349:True:=trivial
theorem tw4163865069334040103:True:=trivial
theorem tw577161120308386190:True:=trivial
theorem tw17811266031159667500:True:=trivial
theorem tw4830313645082906797:True:=trivial
theorem tw8593653891115347548:True:=trivial
theorem tw11253973626199570350:True:=trivial
theorem tw5670651405539520747:True:=trivial
theorem tw17033173393971706358:True:=trivial
theorem tw3920535671169321009:True:=trivial
theorem tw9189486609970673539:True:=trivial
theorem tw5873836494014700673:True:=trivial
theorem tw9253907726622579999:True:=trivial
theorem tw1473861189231605076:True:=trivial
theorem tw244688432764171427:True:=trivial
end PySem.W.Fast
open PySem PySem.W PyProof.Rows
set_option maxRecDepth 100000 in
set_option maxHeartbeats 0 in
theorem PySem.Challenge.cw_ringwords_k38_links_of_two_ways_holds : PySem.Challenge.rw_ringwords_k38_links_of_two_ways.Holds := by
 w_on; o_law; k_head; (case hw=>w_witness2)
 k_fill
 refine Kx.wa (l:=PySem.Challenge.rw_ringwords_k38_links_of_two_ways) rfl rfl (fun w h Y=>PySem.W.kIn_of Y) ?F
 case F =>
  intro w mg fa h KX G hmg
  refine' Kx.tE KX G hmg ?hs ?a32 ?l32 ?c32 ?k32 ?z_len ?z_repr ?z_abs ?z_max ?z_int ?z_list ?z_range ?z_reversed ?z_min ?z_sorted ?z_tuple ?z_isinstance ?z_all ?z_str ?z_zip ?aBk ?lB ?kB ?zS ?gl0 ?gl1 ?gl2 ?gl3 ?gl4 ?gl5 ?gl6 ?gl7 ?gl8 ?gl9 ?gl10 ?gl11
  (case hs=>(iterate 32 (refine' Kx.DIs.on ?_ ?_ ?_ ?_ ?_; rotate_left 10; k_is; k_is; k_is; k_is)); exact trivial)
  (case a32 | l32 | c32 | k32 | z_len | z_repr | z_abs | z_max | z_int | z_list | z_range | z_reversed | z_min | z_sorted | z_tuple | z_isinstance | z_all | z_str | z_zip | aBk | lB=>k_is)
  (case kB=>exact ⟨⟨_,_,rfl,rfl⟩,⟨_,_,rfl,rfl⟩,⟨_,_,rfl,rfl⟩,⟨_,_,rfl,rfl⟩,⟨_,_,rfl,rfl⟩,⟨_,_,rfl,rfl⟩,⟨_,_,rfl,rfl⟩,⟨_,_,rfl,rfl⟩,⟨_,_,rfl,rfl⟩,⟨_,_,rfl,rfl⟩,⟨_,_,rfl,rfl⟩,⟨_,_,rfl,rfl⟩,trivial⟩)
  (case zS | gl0 | gl1 | gl2 | gl3 | gl4 | gl5 | gl6 | gl7 | gl8 | gl9 | gl10 | gl11=>k_is)
end
