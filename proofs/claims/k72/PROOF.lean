import PyProof.Rows.All
import Wide.All
import OpenK.AllK
import Wide.FinOn
import Lean
import PyProof.EqAt
import PyProof.EqKinds
import PyProof.TupleCall
import KE.KRevIter
import PyProof.ExcInit
import PyProof.InstStoreFacts
import PyProof.NsDelKeeps
import PyProof.FString5
import PyProof.NeData
import PyProof.TupleOfStr
import PyProof.IsRules
import PyProof.ListRange
import PyProof.FactsAll.tuple_3
import PyProof.SeqRoads
import PyProof.FactsAll.range_1
import PyProof.Rows.SortShellK
import PyProof.Rows.SortRunsK
import PySem.Challenge.RW_ringwords_k72_whole_cut_and_glued
set_option Elab.async false
set_option linter.all false
set_option maxRecDepth 100000
namespace L2
open PySem PySem.Spec PyProof.Rows
noncomputable abbrev Key:=Sum Int Str
noncomputable def keyIs:Key→Value→Bool
 | .inl k,v=>Value.isInt k v
 | .inr x,v=>Value.isStrOf x v
noncomputable def keyH (w:World):Key→Int
 | .inl k=>hashInt k
 | .inr x=>hashStr w x
theorem keyIs_shape:∀ {k:Key} {v:Value},keyIs k v=true→(∃ i t,k=Sum.inl i∧v=Value.int i t) ∨ (∃ x t,k=Sum.inr x∧v=Value.str x t)
 | .inl i,v,h=>by
  obtain ⟨t,e⟩:=Value.isInt_shape (k:=i) (v:=v) h
  exact .inl ⟨i,t,rfl,e⟩
 | .inr x,v,h=>by
  obtain ⟨t,e⟩:=Value.isStrOf_shape (x:=x) (v:=v) h
  exact .inr ⟨x,t,rfl,e⟩
theorem keyIs_int (i:Int)(t:Tok):keyIs (.inl i) (.int i t)=true:=by simp [keyIs,Value.isInt]
theorem keyIs_str (x:Str)(t:Tok):keyIs (.inr x) (.str x t)=true:=by simp [keyIs,Value.isStrOf]
theorem key_ll (a b:Int):decide ((Sum.inl a:Key)=Sum.inl b)=(a == b):=by
 by_cases e:a=b
 ·subst e;simp
 ·have h:¬ (Sum.inl a:Key)=Sum.inl b:=fun q=>e (Sum.inl.inj q)
  rw [decide_eq_false h]
  exact (beq_eq_false_iff_ne.mpr e).symm
theorem key_rr (a b:Str):decide ((Sum.inr a:Key)=Sum.inr b)=decide (a=b):=by
 by_cases e:a=b
 ·subst e;simp
 ·have h:¬ (Sum.inr a:Key)=Sum.inr b:=fun q=>e (Sum.inr.inj q)
  rw [decide_eq_false h,decide_eq_false e]
theorem key_lr (a:Int)(b:Str):decide ((Sum.inl a:Key)=Sum.inr b)=false:=decide_eq_false (fun q=>nomatch q)
theorem key_rl (a:Str)(b:Int):decide ((Sum.inr a:Key)=Sum.inl b)=false:=decide_eq_false (fun q=>nomatch q)
noncomputable def mixKind (prog:Program)(w:World):PySem.KeyKind prog w Key where
 is:=keyIs
 hash:=keyH w
 inj:=fun v a b ha hb=>by
  rcases keyIs_shape ha with ⟨i,t,rfl,rfl⟩ | ⟨x,t,rfl,rfl⟩
  ·rcases keyIs_shape hb with ⟨j,u,rfl,e⟩ | ⟨y,u,rfl,e⟩
   ·injection e with e1 _;rw [e1]
   ·exact nomatch e
  ·rcases keyIs_shape hb with ⟨j,u,rfl,e⟩ | ⟨y,u,rfl,e⟩
   ·exact nomatch e
   ·injection e with e1 _;rw [e1]
 byValue:=fun k v h=>by
  rcases keyIs_shape h with ⟨i,t,rfl,rfl⟩ | ⟨x,t,rfl,rfl⟩ <;> rfl
 pyHash:=fun hv h=>by
  rcases keyIs_shape hv with ⟨i,t,rfl,rfl⟩ | ⟨x,t,rfl,rfl⟩
  ·exact wpAny_pyHash_int h
  ·exact wpAny_pyHash_str h
 eqBool:=fun hu hv h=>by
  rcases keyIs_shape hu with ⟨i,t,rfl,rfl⟩ | ⟨x,t,rfl,rfl⟩
  ·rcases keyIs_shape hv with ⟨j,u,rfl,rfl⟩ | ⟨y,u,rfl,rfl⟩
   ·rw [key_ll] at h;exact wpAny_eqBool_int h
   ·rw [key_lr] at h;exact SeqAt.EqAt.int_str i t y u _ _ _ _ h
  ·rcases keyIs_shape hv with ⟨j,u,rfl,rfl⟩ | ⟨y,u,rfl,rfl⟩
   ·rw [key_rl] at h;exact SeqAt.EqAt.str_int x t j u _ _ _ _ h
   ·rw [key_rr] at h;exact wpAny_eqBool_str h
 «strs»:=fun k x t v h=>by
  rcases keyIs_shape h with ⟨i,u,rfl,e⟩ | ⟨y,u,rfl,e⟩
  ·exact nomatch e
  ·injection e with e1 _
   subst e1
   cases v <;> rfl
theorem mixKind_int (prog:Program)(w:World)(i:Int)(t:Tok):(mixKind prog w).is (.inl i) (.int i t)=true:=keyIs_int i t
theorem mixKind_str (prog:Program)(w:World)(x:Str)(t:Tok):(mixKind prog w).is (.inr x) (.str x t)=true:=keyIs_str x t
end L2
namespace L2
open PySem PySem.Spec PyProof.Rows
inductive V where
 | non | bl (b:Bool) | int (i:Int) | str (x:Str) | byt (b:Array UInt8) | flt (b:UInt64) | ref (a:Addr) | ty (n:String) | tks (x:Str) (t:Tok)
 deriving DecidableEq
noncomputable def RelV:V→Value→Prop
 | .non,u=>u=Value.none
 | .bl b,u=>u=Value.bool b
 | .int i,u=>∃ t,u=Value.int i t
 | .str x,u=>∃ t,u=Value.str x t
 | .byt b,u=>∃ t,u=Value.bytes b t
 | .flt b,u=>∃ t,u=Value.float b t
 | .ref a,u=>u=Value.ref a
 | .ty n,u=>u=Value.type n
 | .tks x t,u=>u=Value.str x t
noncomputable def V.pl:V→Bool
 | .tks ..=>false
 | _=>true
noncomputable abbrev Vals:List V→List Value→Prop:=Paired RelV
theorem Vals.length {xs:List V}{us:List Value}(r:Vals xs us):xs.length=us.length:=Paired.length r
theorem Vals.get:∀ {xs:List V} {us:List Value} {i:Nat} {x:V},Vals xs us→xs[i]? = some x→∃ u,us[i]? = some u∧RelV x u
 | _,_,_,_,.nil,e=>by simp at e
 | _,_,0,_,.cons r _,e=>by simp at e;subst e;exact ⟨_,rfl,r⟩
 | _,_,i+1,x,.cons _ t,e=>by
  obtain ⟨u,h1,h2⟩:=Vals.get (i:=i) (x:=x) t (by simpa using e)
  exact ⟨u,by simpa using h1,h2⟩
theorem Vals.append:∀ {xs ys:List V} {us ws:List Value},Vals xs us→Vals ys ws→Vals (xs++ys) (us++ws)
 | _,_,_,_,.nil,s=>s
 | _,_,_,_,.cons r t,s=>.cons r (Vals.append t s)
theorem Vals.take:∀ {xs:List V} {us:List Value} (n:Nat),Vals xs us→Vals (xs.take n) (us.take n)
 | _,_,0,_=>.nil
 | _,_,_+1,.nil=>.nil
 | _,_,n+1,.cons r t=>.cons r (Vals.take n t)
theorem Vals.drop:∀ {xs:List V} {us:List Value} (n:Nat),Vals xs us→Vals (xs.drop n) (us.drop n)
 | _,_,0,r=>r
 | _,_,_+1,.nil=>.nil
 | _,_,n+1,.cons _ t=>Vals.drop n t
noncomputable def RelO:Option V→Option Value→Prop
 | some v,some u=>RelV v u
 | none,none=>True
 | _,_=>False
noncomputable def KV {κ:Type}:List (κ × V)→List (κ × Value)→Prop:=Paired fun (p:κ × V) (q:κ × Value)=>p.1=q.1∧RelV p.2 q.2
noncomputable def kV:Key→V
 | .inl i=>.int i
 | .inr x=>.str x
inductive HO where
 | lst (xs:List V)
 | tup (xs:List V)
 | dK (kvs:List (Key × V)) | dT (kvs:List (List Key × V))
 | set (S:Int→Bool) (n:Nat)
 | ins (C dx:Addr) (fs:List (Str × V))
 | own (x:Addr)
 | xd (fs:List (Str × V))
 | met (f x:Addr)
 | rng (lo hi:Int)
 | frz (o:Obj) (u:HO)
 | tbl (ps:Array Value)
 | ext (φ:Heap→Prop)
noncomputable abbrev Hp:=Addr→Option HO
noncomputable def upd (H:Hp)(a:Addr)(o:HO):Hp:=fun b=>if b=a then some o else H b
theorem upd_same {H:Hp}{a:Addr}{o:HO}:upd H a o a=some o:=by unfold upd; rw [if_pos rfl]
theorem upd_ne {H:Hp}{a b:Addr}{o:HO}(h:b≠a):upd H a o b=H b:=by unfold upd; rw [if_neg h]
theorem upd_upd {H:Hp}{a:Addr}{o u:HO}:upd (upd H a o) a u=upd H a u:=by
 funext b;unfold upd;split <;> rfl
theorem ne_of {H:Hp}{a b:Addr}{o u:HO}(h:H a=some o)(h':H b=some u)(d:o≠u):a≠b:=by
 intro e;subst e;rw [h] at h';exact d (Option.some.inj h')
theorem ne_of_none {H:Hp}{a b:Addr}{o:HO}(h:H a=some o)(h':H b=none):a≠b:=by
 intro e;subst e;rw [h] at h';cases h'
section
variable (P:Program) (w:World)
noncomputable def NoD (h:Heap)(a:Addr):Prop:=∃ o,h.get? a=some o∧o.dict=none
theorem NoD.new (h:Heap)(o:Obj)(e:o.dict=none)(hf:o.isFreed=false:=by rfl):NoD (h.push o) h.objs.size:=⟨o,Heap.get?_push_size _ hf,e⟩
noncomputable def ObjOk (H:Hp)(h:Heap)(a:Addr):HO→Prop
 | .lst xs=>xs.length≤sizeLine∧∃ (its:List Value) (n:Nat),Vals xs its∧h.get? a=some { cls:=.type "list",data:=.seq its.toArray n }
 | .tup xs=>xs.length≤sizeLine∧∃ its:List Value,Vals xs its∧IsTup h a its.toArray∧NoD h a
 | .dK kvs=>kvs.length≤sizeLine∧(a == sysModules)=false∧∃ vs,KV kvs vs∧h.DictOf (mixKind P w) a vs
 | .dT kvs=>kvs.length≤sizeLine∧(a == sysModules)=false∧∃ xs:List (List Key × Addr × Value),
   Paired (fun (p:List Key × V) (q:List Key × Addr × Value)=>p.1=q.1∧H q.2.1=some (.tup (p.1.map kV))∧RelV p.2 q.2.2) kvs xs ∧
   ∃ o es ep,h.get? a=some o∧o.ExactDict∧o.data = .dict es ep∧es.toList=xs.map (entryOfKey (tupleKind (mixKind P w)))∧(xs.map (·.1)).Nodup
 | .set S n=>h.SetOf (intKind P w) a S n
 | .ins C dx fs=>H dx=some (.own a)∧fs.length≤1000∧dx≠a∧h.get? a=some (PySem.W.instObj C dx) ∧
   ∃ mA,h.Ns1 dx mA∧(∀ f,RelO (fs.lookup f) (mA f))∧PySem.Within mA (fs.map (·.1))
 | .own _=>∃ o,h.get? a=some o
 | .xd fs=>∃ mA,h.Ns1 a mA∧∀ f,RelO (fs.lookup f) (mA f)
 | .rng lo hi=>∃ t u v,h.get? a=some { cls:=.type "range",data:=.fields #[.int lo t,.int hi u,.int 1 v] }
 | .frz o u=>h.get? a=some o∧ObjOk H h a u
 | .tbl ps=>h.get? a=some { cls:=.none,data:=.fields ps }
 | .met f x=>h.get? a=some (PySem.W.methodObj (.ref f) (.ref x))
 | .ext φ=>φ h∧(∃ o,h.get? a=some o)∧∀ h1 h2:Heap,φ h1→(∀ o,h1.get? a=some o→h2.get? a=some o)→φ h2
noncomputable def HOk (H:Hp)(h:Heap):Prop:=∀ a o,H a=some o→ObjOk P w H h a o
end
section
variable {P:Program} {w:World} {H H':Hp} {h h':Heap} {a:Addr} {o:HO}
theorem ObjOk.lt (x:ObjOk P w H h a o):a < h.objs.size:=by
 cases o with
 | lst xs=>obtain ⟨_,_,_,_,e⟩:=x;exact Heap.lt_size e
 | tup xs=>obtain ⟨_,_,_,p,_⟩:=x;exact p.lt
 | dK kvs=>obtain ⟨_,_,_,_,o,_,_,e,_⟩:=x;exact Heap.lt_size e
 | dT kvs=>obtain ⟨_,_,_,_,o,_,_,e,_⟩:=x;exact Heap.lt_size e
 | set S n=>obtain ⟨o,_,_,_,e,_⟩:=x;exact Heap.lt_size e
 | ins C dx fs=>obtain ⟨_,_,_,e,_⟩:=x;exact Heap.lt_size e
 | own y=>obtain ⟨_,e⟩:=x;exact Heap.lt_size e
 | xd fs=>obtain ⟨_,⟨_,_,_,e,_⟩,_⟩:=x;exact Heap.lt_size e
 | rng lo hi=>obtain ⟨_,_,_,e⟩:=x;exact Heap.lt_size e
 | frz ob u=>obtain ⟨e,_⟩:=x;exact Heap.lt_size e
 | tbl ps=>exact Heap.lt_size (show h.get? a=some _ from x)
 | met f y=>exact Heap.lt_size (show h.get? a=some _ from x)
 | ext φ=>obtain ⟨_,⟨_,e⟩,_⟩:=x;exact Heap.lt_size e
theorem Paired.mapP {α β:Type}{F G:α→β→Prop}:∀ {l₁:List α} {l₂:List β},Paired F l₁ l₂→(∀ a b,F a b→G a b)→Paired G l₁ l₂
 | _,_,.nil,_=>.nil
 | _,_,.cons r t,f=>.cons (f _ _ r) (Paired.mapP t f)
theorem ObjOk.stay (x:ObjOk P w H h a o)(k:∀ b u,(b=a ∨ H b=some (.own a))→h.get? b=some u→h'.get? b=some u)
  (ho:∀ b,H b=some (.own a)→H' b=some (.own a)) (ht:∀ b xs,H b=some (.tup xs)→H' b=some (.tup xs)):ObjOk P w H' h' a o:=by
 induction o with
 | lst xs=>obtain ⟨z,its,n,r,e⟩:=x;exact ⟨z,its,n,r,k _ _ (.inl rfl) e⟩
 | tup xs=>obtain ⟨z,its,r,⟨ob,e,c⟩,o2,e2,c2⟩:=x;exact ⟨z,its,r,⟨ob,k _ _ (.inl rfl) e,c⟩,o2,k _ _ (.inl rfl) e2,c2⟩
 | dK kvs=>obtain ⟨z,y,vs,r,ob,es,ep,e,c⟩:=x;exact ⟨z,y,vs,r,ob,es,ep,k _ _ (.inl rfl) e,c⟩
 | dT kvs =>
  obtain ⟨z,y,xs,r,ob,es,ep,e,c⟩:=x
  exact ⟨z,y,xs,Paired.mapP r fun p q z=>⟨z.1,ht _ _ z.2.1,z.2.2⟩,ob,es,ep,k _ _ (.inl rfl) e,c⟩
 | set S n=>obtain ⟨ob,es,ep,t,e,c⟩:=x;exact ⟨ob,es,ep,t,k _ _ (.inl rfl) e,c⟩
 | ins C dx fs =>
  obtain ⟨d,z,ne,e,mA,⟨od,es,ep,e2,c⟩,r⟩:=x
  exact ⟨ho _ d,z,ne,k _ _ (.inl rfl) e,mA,⟨od,es,ep,k _ _ (.inr d) e2,c⟩,r⟩
 | own y=>obtain ⟨ob,e⟩:=x;exact ⟨ob,k _ _ (.inl rfl) e⟩
 | xd fs=>obtain ⟨mA,⟨od,es,ep,e,c⟩,r⟩:=x;exact ⟨mA,⟨od,es,ep,k _ _ (.inl rfl) e,c⟩,r⟩
 | rng lo hi=>obtain ⟨t,u,v,e⟩:=x;exact ⟨t,u,v,k _ _ (.inl rfl) e⟩
 | frz ob u ih=>obtain ⟨e,q⟩:=x;exact ⟨k _ _ (.inl rfl) e,ih q⟩
 | tbl ps =>
  have e:h.get? a=some { cls:=.none,data:=.fields ps }:=x
  show h'.get? a=some { cls:=.none,data:=.fields ps }
  exact k a _ (.inl rfl) e
 | met f y =>
  have e:h.get? a=some (PySem.W.methodObj (.ref f) (.ref y)):=x
  show h'.get? a=some (PySem.W.methodObj (.ref f) (.ref y))
  exact k a _ (.inl rfl) e
 | ext φ=>obtain ⟨p,⟨o,e⟩,st⟩:=x;exact ⟨st _ _ p fun o q=>k _ _ (.inl rfl) q,⟨o,k _ _ (.inl rfl) e⟩,st⟩
theorem HOk.lt (x:HOk P w H h)(e:H a=some o):a < h.objs.size:=(x a o e).lt
theorem HOk.fresh (x:HOk P w H h)(e:h.objs.size≤a):H a=none:=by
 cases q:H a with
 | none=>rfl
 | some u=>exact absurd (Nat.lt_of_lt_of_le (x.lt q) e) (Nat.lt_irrefl _)
theorem HOk.kept (x:HOk P w H h)(k:∀ b u,h.get? b=some u→h'.get? b=some u):HOk P w H h':=fun a o e =>
 (x a o e).stay (fun b u _ q=>k b u q) (fun _ q=>q) fun _ _ q=>q
theorem HOk.laid (x:HOk P w H h)(k:∀ b u,h.get? b=some u→h'.get? b=some u)(hp:h.objs.size≤a)(new:ObjOk P w (upd H a o) h' a o):HOk P w (upd H a o) h':=fun b u e=>by
 have hn:=x.fresh hp
 by_cases hb:b=a
 ·subst hb;rw [upd_same] at e;cases e;exact new
 ·rw [upd_ne hb] at e
  exact (x b u e).stay (fun c v _ q=>k c v q) (fun c q=>by rw [upd_ne (ne_of_none q hn)];exact q) fun c xs q=>by rw [upd_ne (ne_of_none q hn)];exact q
end
noncomputable def Rd (H:Hp)(a:Addr)(u:HO):Prop:=H a=some u ∨ ∃ o,H a=some (.frz o u)
theorem Rd.ok {P:Program}{w:World}{H:Hp}{h:Heap}{a:Addr}{u:HO}(r:Rd H a u)(x:HOk P w H h):ObjOk P w H h a u:=by
 rcases r with r | ⟨o,r⟩
 ·exact x a u r
 ·obtain ⟨_,q⟩:=x a _ r
  exact q
noncomputable def Mut:Option HO→Prop
 | some (.lst _)=>True
 | some (.dK _)=>True
 | some (.dT _)=>True
 | some (.set _ _)=>True
 | some (.ins _ _ _)=>True
 | some (.ext _)=>True
 | _=>False
section
variable {P:Program} {w:World} {H:Hp} {h h':Heap} {x e:Addr} {o':HO}
theorem HOk.write (ok:HOk P w H h)(mu:Mut (H x))(he:e=x ∨ H e=some (.own x))(k:∀ b u,b≠e→h.get? b=some u→h'.get? b=some u)(heo:∃ u,h'.get? e=some u)
  (new:ObjOk P w (upd H x o') h' x o'):HOk P w (upd H x o') h':=fun b u q=>by
 have nown:∀ c y,H c=some (.own y)→c≠x:=fun c y r z=>by subst z;rw [r] at mu;exact mu
 have ntup:∀ c xs,H c=some (.tup xs)→c≠x:=fun c xs r z=>by subst z;rw [r] at mu;exact mu
 by_cases hb:b=x
 ·subst hb;rw [upd_same] at q;cases q;exact new
 ·rw [upd_ne hb] at q
  by_cases hbe:b=e
  ·have q':H b=some (.own x):=by
    rcases he with z | z
    ·exact absurd (hbe.trans z) hb
    ·rw [hbe];exact z
   rw [q] at q';cases q'
   obtain ⟨v,hv⟩:=heo
   exact ⟨v,by rw [hbe];exact hv⟩
  ·refine (ok b u q).stay (fun c v hc r=>k c v ?_ r) (fun c r=>by rw [upd_ne (nown c b r)];exact r) fun c xs r=>by rw [upd_ne (ntup c xs r)];exact r
   rcases hc with rfl | hc
   ·exact hbe
   ·rintro rfl
    rcases he with z | z
    ·exact nown c b hc z
    ·rw [hc] at z;cases z;exact hb rfl
end
structure Un (fs ex:List Addr) (H H':Hp) (h h':Heap):Prop where
 keep:∀ b o,h.get? b=some o→H b=none→b∉fs→b∉ex→h'.get? b=some o
 slot:∀ b o,h.get? b=some o→H b=none→b∈fs→b∉ex→∃ sl,h'.get? b=some { o with slots:=sl }
 free:∀ b o,h.get? b=some o→H b=none→b∉ex→H' b=none
 there:∀ b o,h.get? b=some o→b∉ex→∃ o',h'.get? b=some o'
 tups:∀ b xs,H b=some (.tup xs)→H' b=some (.tup xs)
 frzs:∀ b o u,H b=some (.frz o u)→H' b=some (.frz o u)
 tbls:∀ b ps,H b=some (.tbl ps)→∃ more,H' b=some (.tbl (ps++more))
section
variable {fs fs' ex ex':List Addr} {H H1 H2:Hp} {h h1 h2 h':Heap} {a x e:Addr} {o:HO}
theorem Un.any (u:Un fs ex H H1 h h1){b:Addr}{ob:Obj}(q:h.get? b=some ob)(n:H b=none)(hx:b∉ex):∃ sl,h1.get? b=some { ob with slots:=sl }:=by
 by_cases hb:b∈fs
 ·exact u.slot b ob q n hb hx
 ·exact ⟨ob.slots,u.keep b ob q n hb hx⟩
theorem Un.kept (k:∀ b u,h.get? b=some u→h'.get? b=some u):Un fs ex H H h h' :=
 ⟨fun b ob q _ _ _=>k b ob q,fun b ob q _ _ _=>⟨ob.slots,k b ob q⟩,fun _ _ _ n _=>n,fun b ob q _=>⟨ob,k b ob q⟩,fun _ _ q=>q,fun _ _ _ q=>q,fun _ ps q=>⟨#[],by rw [q];simp⟩⟩
theorem Un.refl:Un fs ex H H h h:=Un.kept fun _ _ q=>q
theorem Un.laid (k:∀ b u,h.get? b=some u→h'.get? b=some u)(hp:h.objs.size≤a)(hn:H a=none):Un fs ex H (upd H a o) h h' where
 keep:=fun b u q _ _ _=>k b u q
 slot:=fun b u q _ _ _=>⟨u.slots,k b u q⟩
 free:=fun b u q n _=>by rw [upd_ne (Nat.ne_of_lt (Nat.lt_of_lt_of_le (Heap.lt_size q) hp))];exact n
 there:=fun b u q _=>⟨u,k b u q⟩
 tups:=fun b xs q=>by rw [upd_ne (ne_of_none q hn)];exact q
 frzs:=fun b u xs q=>by rw [upd_ne (ne_of_none q hn)];exact q
 tbls:=fun b ps q=>⟨#[],by rw [upd_ne (ne_of_none q hn),q];simp⟩
theorem Un.write (mu:Mut (H x))(he:e=x ∨ H e=some (.own x))(k:∀ b u,b≠e→h.get? b=some u→h'.get? b=some u)(heo:∃ u,h'.get? e=some u):Un fs ex H (upd H x o) h h':=by
 have hx:∀ b,H b=none→b≠x:=fun b n z=>by subst z;rw [n] at mu;exact mu
 have hb:∀ b,H b=none→b≠e:=fun b n z=>by
  subst z
  rcases he with r | r
  ·exact hx b n r
  ·rw [n] at r;cases r
 have hm:∀ b u,H b=some u→¬ Mut (some u)→b≠x:=fun b u q nm z=>by subst z;rw [q] at mu;exact nm mu
 refine ⟨fun b u q n _ _=>k b u (hb b n) q,fun b u q n _ _=>⟨u.slots,k b u (hb b n) q⟩,fun b u q n _=>by rw [upd_ne (hx b n)];exact n,fun b u q _=>?_,
  fun b xs q=>by rw [upd_ne (hm b _ q fun z=>z)];exact q,fun b u xs q=>by rw [upd_ne (hm b _ q fun z=>z)];exact q,fun b ps q=>⟨#[],by rw [upd_ne (hm b _ q fun z=>z),q];simp⟩⟩
 by_cases hbe:b=e
 ·subst hbe;exact heo
 ·exact ⟨u,k b u hbe q⟩
end
noncomputable def trk (h:Heap)(H:Hp):List Addr:=(List.range h.objs.size).filter fun a=>(H a).isSome
noncomputable def hidT (h:Heap)(H:Hp):Heap:=PySem.W.hideAll h (trk h H)
theorem hidT_size (h:Heap)(H:Hp):(hidT h H).objs.size=h.objs.size:=PySem.W.hideAll_size _ _
theorem hidT_get {h:Heap}{H:Hp}{b:Addr}{o:Obj}(e:h.get? b=some o)(n:H b=none):(hidT h H).get? b=some o :=
 PySem.W.hideAll_get _ e fun hm=>by
  have q:(H b).isSome=true:=(List.mem_filter.mp hm).2
  rw [n] at q;simp at q
theorem of_hidT {h:Heap}{H:Hp}{b:Addr}{o:Obj}(e:(hidT h H).get? b=some o):h.get? b=some o∧H b=none:=by
 have e':h.get? b=some o:=PySem.W.of_hideAll (trk h H) e
 refine ⟨e',?_⟩
 cases q:H b with
 | none=>rfl
 | some x =>
  have hm:b∈trk h H:=List.mem_filter.mpr ⟨List.mem_range.mpr (Heap.lt_size e'),by simp [q]⟩
  have z:(hidT h H).get? b=none:=PySem.W.hideAll_none (trk h H) hm
  rw [z] at e;cases e
noncomputable def allNews (g h:Heap)(L:Addr):List (Addr × Obj):=(List.range h.objs.size).filterMap fun a=>if a=L ∨ (g.get? a).isSome=true then none else (h.get? a).map fun o=>(a,o)
noncomputable def rest (g h:Heap)(L d:Addr):List (Addr × Obj):=(allNews g h L).filter fun p=>decide (p.1≠d)
end L2
namespace L2
open PySem PySem.Spec PyProof.Rows
structure Mod (K:PySem.W.Frag) (mg:Str→Option Value) (base:Heap):Prop where
 kin:K.In base
 glob:base.Ns mainGlobals mg
 blt:∃ mb,base.Ns builtinsNs mb∧∀ x:Str,x ≠ "__name__"→mb x=bootBuiltins x
 nolimit:base.NoLimit
/-- the context: a def's body (or a comprehension's block) running. base: fixed through the whole law;s₀,H₀: the entry;outer: the frames whose slots others may change (a def's callers);stack: all frames that run;
  ex: iterators that were made ahead of the entry and are walked here (a comprehension's);fn: the names whose cells were made at the entry (a def: all;a comprehension's block: its own);calm: not within an except suite;pn: pins that every state bears;xe: what is wanted of an exception that leaves the code -/
structure Cx where
 prog:Program
 w:World
 K:PySem.W.Frag
 mg:Str→Option Value
 base:Heap
 A:Around
 N:List Str
 s₀:Shared
 H₀:Hp
 env:Env
 outer:List Env
 stack:List Env
 ex:List Addr
 fn:Str→Bool
 calm:Bool
 pn:List (Addr × Obj)
 xe:Value→Shared→Prop
 lo:Nat
noncomputable def frs (l:List Env):List Addr:=l.filterMap (·.frame)
noncomputable abbrev Cx.fs (X:Cx):List Addr:=frs X.outer
noncomputable def Vis (sc:Scope)(x:Str):Prop:=sc.names.lookup x=some .local ∨ sc.names.lookup x=some .cell ∨ sc.names.lookup x=some .free
noncomputable def Loc (sc:Scope)(x:Str):Prop:=sc.names.lookup x=some .local ∨ sc.names.lookup x=some .cell
noncomputable def Look (env:Env)(h:Heap)(m:Str→Option Value)(x:Str)(u:Value):Prop :=
 (env.kindOf x=some .local∧m x=some u) ∨ ((env.kindOf x=some .cell ∨ env.kindOf x=some .free)∧∃ c,env.cells.lookup x=some c∧h.IsCell c (some u))
structure Cx.Ok (X:Cx):Prop where
 mod:Mod X.K X.mg X.base
 kind:X.env.scope.kind = .function
 glob:X.env.globals=mainGlobals
 blt:X.env.builtins=builtinsNs
 above:X.s₀.heap.objs.size≤X.env.locals
 inj:∀ x y c,X.env.cells.lookup x=some c→X.env.cells.lookup y=some c→x=y
 has:∀ x,(X.env.kindOf x=some .cell ∨ X.env.kindOf x=some .free)→∃ c,X.env.cells.lookup x=some c
 cab:∀ x c,X.fn x=true→X.env.cells.lookup x=some c→X.s₀.heap.objs.size≤c
 hd:X.calm=true→X.A.handled=none
 frames:X.A.frames=some X.stack
 stk:X.stack=X.outer ∨ (X.stack=X.env::X.outer∧X.env.frame=some X.env.locals)
 exf:∀ b∈X.ex,b≠X.env.locals∧∀ x c,X.env.cells.lookup x=some c→c≠b
 bs:∀ b o,X.base.get? b=some o→X.s₀.heap.get? b=some o∧X.H₀ b=none
 bsz:X.base.objs.size≤X.s₀.heap.objs.size
 noex:∀ b o,X.base.get? b=some o→b∉X.ex
 exfs:∀ b∈X.ex,b∉X.fs
 funs:X.s₀.heap.FunFrames X.base X.outer
 frf:∀ b∈X.fs,X.H₀ b=none
structure InvW (X:Cx) (pins:List (Addr × Obj)) (σ:List (Option V)) (H:Hp) (s:Shared):Prop where
 ok:X.Ok
 os:s.os=X.s₀.os
 bare:AllBare s.gens
 base:Un X.fs X.ex X.H₀ H X.s₀.heap s.heap
 loc:∃ m,s.heap.Ns X.env.locals m∧∀ (i:Nat) (x:Str) (v:V),X.N[i]? = some x→σ[i]? = some (some v)→Vis X.env.scope x→∃ u,RelV v u∧Look X.env s.heap m x u
 cell:∀ x c,X.env.cells.lookup x=some c→∃ v,s.heap.IsCell c v
 free:H X.env.locals=none
 freeC:∀ x c,X.env.cells.lookup x=some c→H c=none
 pin:∀ p∈X.pn++pins,s.heap.get? p.1=some p.2∧H p.1=none∧p.1≠X.env.locals∧p.1∉X.fs∧∀ v,p.2.data ≠ .cell v
 hok:HOk X.prog X.w H s.heap
 len:σ.length=X.N.length
section
variable {X:Cx} {pins:List (Addr × Obj)} {σ:List (Option V)} {H H':Hp} {s:Shared} {h':Heap}
theorem Cx.Ok.nofr (ok:X.Ok){b:Addr}{o:Obj}(e:X.base.get? b=some o):b∉X.fs:=fun hb=>by
 have:=(ok.funs.mem hb).1
 rw [e] at this;cases this
theorem InvW.bs (I:InvW X pins σ H s):∀ b o,X.base.get? b=some o→s.heap.get? b=some o∧H b=none:=fun b o e =>
 ⟨I.base.keep b o (I.ok.bs b o e).1 (I.ok.bs b o e).2 (I.ok.nofr e) (I.ok.noex b o e),I.base.free b o (I.ok.bs b o e).1 (I.ok.bs b o e).2 (I.ok.noex b o e)⟩
theorem InvW.bk (I:InvW X pins σ H s):∀ b o,X.base.get? b=some o→s.heap.get? b=some o:=fun b o e=>(I.bs b o e).1
theorem InvW.mod (I:InvW X pins σ H s):Mod X.K X.mg X.base:=I.ok.mod
theorem InvW.kIn (I:InvW X pins σ H s):X.K.In s.heap:=I.ok.mod.kin.keeps I.bk
theorem InvW.fr (I:InvW X pins σ H s):∃ m,Fr X.base X.env.locals s.heap m :=
 let ⟨m,hn,_⟩:=I.loc
 ⟨m,hn,I.bk,Nat.le_trans I.ok.bsz I.ok.above⟩
theorem InvW.lt (I:InvW X pins σ H s):X.env.locals < s.heap.objs.size:=let ⟨_,hn,_⟩:=I.loc; hn.lt
theorem InvW.sz (I:InvW X pins σ H s):X.s₀.heap.objs.size≤s.heap.objs.size:=Nat.le_trans I.ok.above (Nat.le_of_lt I.lt)
theorem InvW.nofs (I:InvW X pins σ H s){a:Addr}(h:s.heap.objs.size≤a):a∉X.fs:=fun hb=>by
 obtain ⟨_,o,ho,_⟩:=I.ok.funs.mem hb
 exact absurd (Nat.lt_of_lt_of_le (Heap.lt_size ho) (Nat.le_trans I.sz h)) (Nat.lt_irrefl _)
theorem InvW.cne (I:InvW X pins σ H s):∀ x c,X.env.cells.lookup x=some c→c≠X.env.locals:=fun x c e z=>by
 obtain ⟨v,o,ho,hd⟩:=I.cell x c e
 obtain ⟨m,⟨o',es,ep,ho',hd',_⟩,_⟩:=I.loc
 rw [z,ho'] at ho;cases ho;rw [hd'] at hd;cases hd
theorem InvW.funs (I:InvW X pins σ H s):s.heap.FunFrames X.base X.outer:=by
 have all:∀ (l:List Env),(∀ b∈frs l,b∈X.fs)→X.s₀.heap.FunFrames X.base l→s.heap.FunFrames X.base l:=by
  intro l
  induction l with
  | nil=>intro _ _;trivial
  | cons env r ih =>
   intro hs hl
   obtain ⟨hk,⟨L,o,hf,hn,ho,hd⟩,hr⟩:=hl
   have hL:L∈X.fs:=hs L (by unfold frs;rw [List.filterMap_cons,hf];exact List.mem_cons_self)
   obtain ⟨sl,e⟩:=I.base.slot L o ho (I.ok.frf L hL) hL fun z=>I.ok.exfs L z hL
   exact ⟨hk,⟨L,_,hf,hn,e,hd⟩,ih (fun b hb=>hs b (by unfold frs;rw [List.filterMap_cons,hf];exact List.mem_cons_of_mem _ hb)) hr⟩
 exact all X.outer (fun _ hb=>hb) I.ok.funs
theorem InvW.stack (I:InvW X pins σ H s):s.heap.FunFrames X.base X.stack:=by
 rcases I.ok.stk with e | ⟨e,hf⟩
 ·rw [e];exact I.funs
 ·rw [e]
  obtain ⟨m,hn,_⟩:=I.loc
  refine .cons (by rw [I.ok.kind];decide) hf hn ?_ I.funs
  exact Heap.get?_none_of_le (Nat.le_trans I.ok.bsz I.ok.above)
theorem InvW.stkSub (I:InvW X pins σ H s):∀ b∈frs X.stack,b∈X.env.locals::X.fs:=fun b hb=>by
 rcases I.ok.stk with e | ⟨e,hf⟩
 ·rw [e] at hb;exact List.mem_cons_of_mem _ hb
 ·rw [e] at hb
  unfold frs at hb
  rw [List.filterMap_cons,hf] at hb
  exact hb
theorem InvW.stkFree (I:InvW X pins σ H s):∀ b∈frs X.stack,H b=none:=fun b hb=>by
 rcases List.mem_cons.mp (I.stkSub b hb) with e | hb
 ·rw [e];exact I.free
 ·obtain ⟨_,o,ho,_⟩:=I.ok.funs.mem hb
  exact I.base.free b o ho (I.ok.frf b hb) fun z=>I.ok.exfs b z hb
theorem InvW.step {g':Array GenState}{t':Nat}{d':Drawn}{ch:List Addr}(I:InvW X pins σ H s)
  (hch:∀ b∈ch,(b∈X.ex ∨ X.s₀.heap.objs.size≤b)∧b≠X.env.locals∧(∀ x c,X.env.cells.lookup x=some c→c≠b)∧∀ p∈X.pn++pins,p.1≠b)
  (keep:∀ b o,b≠X.env.locals→b∉X.fs→b∉ch→s.heap.get? b=some o→H b=none→h'.get? b=some o)
  (slot:∀ b o,b≠X.env.locals→b∈X.fs→b∉ch→s.heap.get? b=some o→H b=none→∃ sl,h'.get? b=some { o with slots:=sl }) (free:∀ b o,b∉ch→s.heap.get? b=some o→H b=none→H' b=none)
  (there:∀ b o,b∉ch→s.heap.get? b=some o→∃ o',h'.get? b=some o')
  (tups:∀ b xs,H b=some (.tup xs)→H' b=some (.tup xs)) (frzs:∀ b o u,H b=some (.frz o u)→H' b=some (.frz o u)) (tbls:∀ b ps,H b=some (.tbl ps)→∃ more,H' b=some (.tbl (ps++more)))
  (ns:∀ m,s.heap.Ns X.env.locals m→h'.Ns X.env.locals m) (hok:HOk X.prog X.w H' h') (hg:AllBare g') :
  InvW X pins σ H' { s with heap:=h',gens:=g',drawn:=d',toks:=t' }:=by
 have neL:∀ b o,X.s₀.heap.get? b=some o→b≠X.env.locals:=fun b o e=>Nat.ne_of_lt (Nat.lt_of_lt_of_le (Heap.lt_size e) I.ok.above)
 have neC:∀ b o,X.s₀.heap.get? b=some o→b∉X.ex→b∉ch:=fun b o e hx hb=>by
  rcases (hch b hb).1 with z | z
  ·exact hx z
  ·exact absurd (Nat.lt_of_lt_of_le (Heap.lt_size e) z) (Nat.lt_irrefl _)
 have cellK:∀ x c,X.env.cells.lookup x=some c→∀ v,s.heap.IsCell c v→h'.IsCell c v:=fun x c e v ⟨o,ho,hd⟩=>by
  have nch:c∉ch:=fun z=>(hch c z).2.2.1 x c e rfl
  by_cases hc:c∈X.fs
  ·obtain ⟨sl,q⟩:=slot c o (I.cne x c e) hc nch ho (I.freeC x c e)
   exact ⟨_,q,hd⟩
  ·exact ⟨o,keep c o (I.cne x c e) hc nch ho (I.freeC x c e),hd⟩
 refine ⟨I.ok,I.os,hg,⟨fun b o e n hb hx=>?_,fun b o e n hb hx=>?_,fun b o e n hx=>?_,fun b o e hx=>?_,fun b xs e=>tups b xs (I.base.tups b xs e),fun b o xs e=>frzs b o xs (I.base.frzs b o xs e),fun b ps e=>?_⟩,?_,fun x c e=>?_,?_,fun x c e=>?_,fun p hp=>?_,hok,I.len⟩
 ·exact keep b o (neL b o e) hb (neC b o e hx) (I.base.keep b o e n hb hx) (I.base.free b o e n hx)
 ·obtain ⟨sl,e1⟩:=I.base.slot b o e n hb hx
  obtain ⟨sl',e2⟩:=slot b _ (neL b o e) hb (neC b o e hx) e1 (I.base.free b o e n hx)
  exact ⟨sl',e2⟩
 ·obtain ⟨o',e1⟩:=I.base.there b o e hx
  exact free b o' (neC b o e hx) e1 (I.base.free b o e n hx)
 ·obtain ⟨o',e1⟩:=I.base.there b o e hx
  exact there b o' (neC b o e hx) e1
 ·obtain ⟨m1,e1⟩:=I.base.tbls b ps e
  obtain ⟨m2,e2⟩:=tbls b _ e1
  exact ⟨m1++m2,by rw [e2,Array.append_assoc]⟩
 ·obtain ⟨m,hn,hl⟩:=I.loc
  refine ⟨m,ns m hn,fun i x v e1 e2 e3=>?_⟩
  obtain ⟨u,r,l⟩:=hl i x v e1 e2 e3
  refine ⟨u,r,?_⟩
  rcases l with l | ⟨k,c,e,z⟩
  ·exact .inl l
  ·exact .inr ⟨k,c,e,cellK x c e _ z⟩
 ·obtain ⟨v,z⟩:=I.cell x c e
  exact ⟨v,cellK x c e v z⟩
 ·obtain ⟨m,⟨o,_,_,ho,_⟩,_⟩:=I.loc
  exact free _ o (fun z=>(hch _ z).2.1 rfl) ho I.free
 ·obtain ⟨v,o,ho,hd⟩:=I.cell x c e
  exact free c o (fun z=>(hch c z).2.2.1 x c e rfl) ho (I.freeC x c e)
 ·obtain ⟨e,n,ne,nf,d⟩:=I.pin p hp
  have nch:p.1∉ch:=fun z=>(hch p.1 z).2.2.2 p hp rfl
  exact ⟨keep p.1 p.2 ne nf nch e n,free p.1 p.2 nch e n,ne,nf,d⟩
theorem InvW.un {t':Nat}(I:InvW X pins σ H s)(u:Un X.fs [] H H' s.heap h')(hok:HOk X.prog X.w H' h'):InvW X pins σ H' { s with heap:=h',toks:=t' }:=by
 obtain ⟨m,⟨o,es,ep,ho,r⟩,_⟩:=id I.loc
 obtain ⟨sl,hL⟩:=u.any ho I.free (by simp)
 exact I.step (g':=s.gens) (d':=s.drawn) (ch:=[]) (fun _ z=>nomatch z) (fun b o _ hb _ e n=>u.keep b o e n hb (by simp)) (fun b o _ hb _ e n=>u.slot b o e n hb (by simp)) (fun b o _ e n=>u.free b o e n (by simp)) (fun b o _ e=>u.there b o e (by simp)) u.tups u.frzs u.tbls (fun m' hm=>by
  obtain ⟨o',es',ep',ho',r'⟩:=hm
  rw [ho] at ho';cases ho'
  exact ⟨_,es',ep',hL,r'⟩) hok I.bare
theorem InvW.call {g':Array GenState}{t':Nat}{d':Drawn}{ch:List Addr}(I:InvW X pins σ H s)(u:Un (frs X.stack) ch H H' s.heap h')(hok:HOk X.prog X.w H' h')(hg:AllBare g')
  (hch:∀ b∈ch,(b∈X.ex ∨ X.s₀.heap.objs.size≤b)∧b≠X.env.locals∧(∀ x c,X.env.cells.lookup x=some c→c≠b)∧∀ p∈X.pn++pins,p.1≠b) :
  InvW X pins σ H' { s with heap:=h',gens:=g',drawn:=d',toks:=t' }:=by
 obtain ⟨m,⟨o,es,ep,ho,r⟩,_⟩:=id I.loc
 obtain ⟨sl,hL⟩:=u.any ho I.free fun z=>(hch _ z).2.1 rfl
 exact I.step (ch:=ch) hch (fun b o hL hb hc e n=>u.keep b o e n (fun z=>(List.mem_cons.mp (I.stkSub b z)).elim hL hb) hc) (fun b o _ _ hc e n=>u.any e n hc) (fun b o hc e n=>u.free b o e n hc) (fun b o hc e=>u.there b o e hc) u.tups u.frzs u.tbls (fun m' hm=>by
  obtain ⟨o',es',ep',ho',r'⟩:=hm
  rw [ho] at ho';cases ho'
  exact ⟨_,es',ep',hL,r'⟩) hok hg
theorem InvW.turned {t':Nat}{it:Addr}(I:InvW X pins σ H s)(k:∀ b o,b≠it→s.heap.get? b=some o→h'.get? b=some o)(hn:H it=none)(hL:it≠X.env.locals)
  (h1:it∈X.ex ∨ X.s₀.heap.objs.size≤it) (h2:∀ x c,X.env.cells.lookup x=some c→c≠it) (h3:∀ p∈X.pn++pins,p.1≠it):InvW X pins σ H { s with heap:=h',toks:=t' }:=by
 have nit:∀ b u,H b=some u→b≠it:=fun b u e z=>by rw [z,hn] at e;cases e
 refine I.step (g':=s.gens) (d':=s.drawn) (ch:=[it]) (fun b hb=>?_) (fun b o _ _ hc e _=>k b o (fun z=>hc (by simp [z])) e) (fun b o _ _ hc e _=>⟨o.slots,k b o (fun z=>hc (by simp [z])) e⟩) (fun _ _ _ _ n=>n)
  (fun b o hc e=>⟨o,k b o (fun z=>hc (by simp [z])) e⟩) (fun _ _ e=>e) (fun _ _ _ e=>e) (fun b ps e=>⟨#[],by rw [e];simp⟩) (fun m hm=>?_) (fun b u e=>?_) I.bare
 ·have e:b=it:=by simpa using hb
  subst e
  exact ⟨h1,hL,h2,h3⟩
 ·obtain ⟨o,es,ep,ho,r⟩:=hm
  exact ⟨o,es,ep,k _ o (Ne.symm hL) ho,r⟩
 ·refine (I.hok b u e).stay (fun c v hc q=>k c v ?_ q) (fun _ q=>q) fun _ _ q=>q
  rcases hc with z | z
  ·rw [z];exact nit b u e
  ·exact nit c _ z
theorem InvW.tok (I:InvW X pins σ H s)(t:Nat):InvW X pins σ H { s with toks:=t }:=I.un (h':=s.heap) (t':=t) Un.refl I.hok
theorem InvW.kept {t':Nat}(I:InvW X pins σ H s)(k:∀ b u,s.heap.get? b=some u→h'.get? b=some u):InvW X pins σ H { s with heap:=h',toks:=t' }:=I.un (Un.kept k) (I.hok.kept k)
theorem InvW.laid {a:Addr}{o:HO}{t':Nat}(I:InvW X pins σ H s)(k:∀ b u,s.heap.get? b=some u→h'.get? b=some u)(hp:s.heap.objs.size≤a)(new:ObjOk X.prog X.w (upd H a o) h' a o) :
  InvW X pins σ (upd H a o) { s with heap:=h',toks:=t' }:=I.un (Un.laid k hp (I.hok.fresh hp)) (I.hok.laid k hp new)
theorem InvW.write {x e:Addr}{o:HO}{t':Nat}(I:InvW X pins σ H s)(mu:Mut (H x))(he:e=x ∨ H e=some (.own x))(k:∀ b u,b≠e→s.heap.get? b=some u→h'.get? b=some u)(heo:∃ u,h'.get? e=some u)
  (new:ObjOk X.prog X.w (upd H x o) h' x o):InvW X pins σ (upd H x o) { s with heap:=h',toks:=t' }:=I.un (Un.write mu he k heo) (I.hok.write mu he k heo new)
theorem InvW.pins_of {pins':List (Addr × Obj)}(I:InvW X pins σ H s)(h:∀ p∈pins',s.heap.get? p.1=some p.2∧H p.1=none∧p.1≠X.env.locals∧p.1∉X.fs∧∀ v,p.2.data ≠ .cell v):InvW X pins' σ H s :=
 ⟨I.ok,I.os,I.bare,I.base,I.loc,I.cell,I.free,I.freeC,fun p hp=>(List.mem_append.mp hp).elim (fun z=>I.pin p (List.mem_append_left _ z)) (h p),I.hok,I.len⟩
theorem nodup_ix {N:List Str}(hN:N.Nodup){i j:Nat}{x:Str}(a:N[i]? = some x)(b:N[j]? = some x):i=j:=by
 obtain ⟨h1,e1⟩:=List.getElem?_eq_some_iff.mp a
 obtain ⟨h2,e2⟩:=List.getElem?_eq_some_iff.mp b
 exact (List.getElem_inj hN).mp (e1.trans e2.symm)
theorem store_okW2 {M:Model}{A:Around}{E:Value→Shared→Prop}{i:Nat}{x:Str}{v:V}{u:Value}{Q:Unit→Shared→Prop}(I:InvW X pins σ H s)(hN:X.N.Nodup)(hi:X.N[i]? = some x)(hx:Loc X.env.scope x)(r:RelV v u)
  (h:∀ s',InvW X pins (σ.set i (some v)) H s'→(∃ a,Heap.SameBut a s.heap s'.heap∧(a=X.env.locals ∨ X.env.cells.lookup x=some a))→Q () s') (hf:X.fn x=true ∨ X.env.scope.names.lookup x=some .local:=by first | exact .inl rfl | exact .inr rfl | assumption):wpAny M A (storeName X.env x u) Q E s:=by
 obtain ⟨m,hn,hl⟩:=id I.loc
 have hcls:(X.env.scope.kind == .class || (X.env.scope.kind == .module && X.env.locals != X.env.globals))=false:=by rw [I.ok.kind];rfl
 have hiσ:i < σ.length:=by rw [I.len];exact (List.getElem?_eq_some_iff.mp hi).1
 have cne:=I.cne
 have tracked:∀ {a:Addr} {h':Heap},(∃ o,s.heap.get? a=some o∧H a=none)→Heap.SameBut a s.heap h'→HOk X.prog X.w H h':=fun {a h'} ha hs b ob e=>by
  obtain ⟨_,_,hfree⟩:=ha
  refine (I.hok b ob e).stay (fun c w' hc q=>(hs.2 c ?_).trans q) (fun _ q=>q) fun _ _ q=>q
  rintro rfl
  rcases hc with rfl | hc
  ·rw [hfree] at e;cases e
  ·rw [hfree] at hc;cases hc
 rcases hx with hk | hk
 ·refine wpAny_storeName_local hk hn (fun h' hn' hs=>?_) hcls
  obtain ⟨oL,_,_,hoL,_⟩:=id hn
  refine h _ ⟨I.ok,I.os,I.bare,⟨fun b o e n hb hx=>?_,fun b o e n hb hx=>?_,I.base.free,fun b o e hx=>?_,I.base.tups,I.base.frzs,I.base.tbls⟩,⟨_,hn',fun j y v' e1 e2 e3=>?_⟩,fun y c e=>?_,I.free,I.freeC,fun p hp=>?_,tracked ⟨oL,hoL,I.free⟩ hs,by simpa using I.len⟩ ⟨_,hs,.inl rfl⟩
  ·exact (hs.2 b (Nat.ne_of_lt (Nat.lt_of_lt_of_le (Heap.lt_size e) I.ok.above))).trans (I.base.keep b o e n hb hx)
  ·obtain ⟨sl,e1⟩:=I.base.slot b o e n hb hx
   exact ⟨sl,(hs.2 b (Nat.ne_of_lt (Nat.lt_of_lt_of_le (Heap.lt_size e) I.ok.above))).trans e1⟩
  ·obtain ⟨o',e1⟩:=I.base.there b o e hx
   exact ⟨o',(hs.2 b (Nat.ne_of_lt (Nat.lt_of_lt_of_le (Heap.lt_size e) I.ok.above))).trans e1⟩
  ·by_cases hj:j=i
   ·subst hj
    rw [hi] at e1;cases e1
    rw [List.getElem?_set_self hiσ] at e2
    cases e2
    exact ⟨u,r,.inl ⟨hk,by simp⟩⟩
   ·rw [List.getElem?_set_ne (Ne.symm hj)] at e2
    obtain ⟨u',r',q⟩:=hl j y v' e1 e2 e3
    refine ⟨u',r',?_⟩
    rcases q with ⟨k,e⟩ | ⟨k,c,e,z⟩
    ·refine .inl ⟨k,?_⟩
     have:y≠x:=fun e=>hj (nodup_ix hN e1 (e ▸ hi))
     simp [this,e]
    ·exact .inr ⟨k,c,e,z.sameBut hs (cne y c e)⟩
  ·obtain ⟨w',z⟩:=I.cell y c e
   exact ⟨w',z.sameBut hs (cne y c e)⟩
  ·obtain ⟨e,n,ne,nf,d⟩:=I.pin p hp
   exact ⟨(hs.2 p.1 ne).trans e,n,ne,nf,d⟩
 ·have hfn:X.fn x=true:=by
   rcases hf with z | z
   ·exact z
   ·rw [z] at hk;cases hk
  obtain ⟨c,hc⟩:=I.ok.has x (.inl hk)
  obtain ⟨w',z⟩:=I.cell x c hc
  refine wpAny_storeName_cell I.ok.kind hk hc z (fun h' hc' hs=>?_)
  obtain ⟨oc,hoc,hocd⟩:=id z
  refine h { s with heap:=h' } ⟨I.ok,I.os,I.bare,⟨fun b o e n hb hx=>?_,fun b o e n hb hx=>?_,I.base.free,fun b o e hx=>?_,I.base.tups,I.base.frzs,I.base.tbls⟩,⟨m,hn.sameBut hs (Ne.symm (cne x c hc)),fun j y v' e1 e2 e3=>?_⟩,fun y c' e=>?_,I.free,I.freeC,fun p hp=>?_,tracked ⟨oc,hoc,I.freeC x c hc⟩ hs,by simpa using I.len⟩ ⟨c,hs,.inr hc⟩
  ·exact (hs.2 b (Nat.ne_of_lt (Nat.lt_of_lt_of_le (Heap.lt_size e) (I.ok.cab x c hfn hc)))).trans (I.base.keep b o e n hb hx)
  ·obtain ⟨sl,e1⟩:=I.base.slot b o e n hb hx
   exact ⟨sl,(hs.2 b (Nat.ne_of_lt (Nat.lt_of_lt_of_le (Heap.lt_size e) (I.ok.cab x c hfn hc)))).trans e1⟩
  ·obtain ⟨o',e1⟩:=I.base.there b o e hx
   exact ⟨o',(hs.2 b (Nat.ne_of_lt (Nat.lt_of_lt_of_le (Heap.lt_size e) (I.ok.cab x c hfn hc)))).trans e1⟩
  ·by_cases hj:j=i
   ·subst hj
    rw [hi] at e1;cases e1
    rw [List.getElem?_set_self hiσ] at e2
    cases e2
    exact ⟨u,r,.inr ⟨.inl hk,c,hc,hc'⟩⟩
   ·rw [List.getElem?_set_ne (Ne.symm hj)] at e2
    obtain ⟨u',r',q⟩:=hl j y v' e1 e2 e3
    refine ⟨u',r',?_⟩
    rcases q with q | ⟨k,c',e,z'⟩
    ·exact .inl q
    ·refine .inr ⟨k,c',e,z'.sameBut hs ?_⟩
     rintro rfl
     exact hj (nodup_ix hN e1 (I.ok.inj _ _ _ e hc ▸ hi))
  ·by_cases hcc:c'=c
   ·subst hcc;exact ⟨_,hc'⟩
   ·obtain ⟨w2,z2⟩:=I.cell y c' e
    exact ⟨w2,z2.sameBut hs hcc⟩
  ·obtain ⟨e,n,ne,nf,d⟩:=I.pin p hp
   refine ⟨(hs.2 p.1 ?_).trans e,n,ne,nf,d⟩
   intro q
   rw [q,hoc] at e
   have q':oc=p.2:=Option.some.inj e
   exact d w' (by rw [← q'];exact hocd)
theorem InvW.call' {s':Shared}{ch:List Addr}(I:InvW X pins σ H s)(ho:s'.os=s.os)(u:Un (frs X.stack) ch H H' s.heap s'.heap)(hok:HOk X.prog X.w H' s'.heap)(hg:AllBare s'.gens)
  (hch:∀ b∈ch,(b∈X.ex ∨ X.s₀.heap.objs.size≤b)∧b≠X.env.locals∧(∀ x c,X.env.cells.lookup x=some c→c≠b)∧∀ p∈X.pn++pins,p.1≠b):InvW X pins σ H' s':=by
 obtain ⟨h',g',d',t',o'⟩:=s'
 have e:o'=s.os:=ho
 subst e
 exact I.call (g':=g') (t':=t') (d':=d') u hok hg hch
structure Inv (X:Cx) (pins:List (Addr × Obj)) (σ:List (Option V)) (H:Hp) (s:Shared):Prop extends InvW X pins σ H s where
 low:X.lo≤s.toks
instance:Coe (Inv X pins σ H s) (InvW X pins σ H s):=⟨Inv.toInvW⟩
theorem InvW.up {s:Shared}(I:InvW X pins σ H s)(l:X.lo≤s.toks):Inv X pins σ H s:=⟨I,l⟩
theorem wt {α:Type}{M:Model}{A:Around}{t:Sem α}{Q:α→Shared→Prop}{E:Value→Shared→Prop}{n:Nat}{s:Shared}(hn:n≤s.toks)(h:wpAny M A t (fun a s'=>n≤s'.toks→Q a s') E s):wpAny M A t Q E s :=
 wpAny_with_toks hn (wpAny_mono h (fun _ _ x=>x) fun _ _ x _=>x)
theorem store_ok2 {M:Model}{A:Around}{E:Value→Shared→Prop}{i:Nat}{x:Str}{v:V}{u:Value}{Q:Unit→Shared→Prop}(I:Inv X pins σ H s)(hN:X.N.Nodup)(hi:X.N[i]? = some x)(hx:Loc X.env.scope x)(r:RelV v u)
  (h:∀ s',Inv X pins (σ.set i (some v)) H s'→(∃ a,Heap.SameBut a s.heap s'.heap∧(a=X.env.locals ∨ X.env.cells.lookup x=some a))→Q () s') (hf:X.fn x=true ∨ X.env.scope.names.lookup x=some .local:=by first | exact .inl rfl | exact .inr rfl | assumption):wpAny M A (storeName X.env x u) Q E s :=
 wt I.low (store_okW2 I.toInvW hN hi hx r (fun s' I' z l=>h s' ⟨I',l⟩ z) hf)
theorem store_ok {M:Model}{A:Around}{E:Value→Shared→Prop}{i:Nat}{x:Str}{v:V}{u:Value}{Q:Unit→Shared→Prop}(I:Inv X pins σ H s)(hN:X.N.Nodup)(hi:X.N[i]? = some x)(hx:Loc X.env.scope x)(r:RelV v u)
  (h:∀ s',Inv X pins (σ.set i (some v)) H s'→Q () s') (hf:X.fn x=true ∨ X.env.scope.names.lookup x=some .local:=by first | exact .inl rfl | exact .inr rfl | assumption):wpAny M A (storeName X.env x u) Q E s :=
 store_ok2 I hN hi hx r (fun s' I' _=>h s' I') hf
theorem Inv.pins_of {pins':List (Addr × Obj)}(I:Inv X pins σ H s)(h:∀ p∈pins',s.heap.get? p.1=some p.2∧H p.1=none∧p.1≠X.env.locals∧p.1∉X.fs∧∀ v,p.2.data ≠ .cell v):Inv X pins' σ H s:=⟨I.toInvW.pins_of h,I.low⟩
end
noncomputable abbrev XK:=Value→Option Addr→Hp→Prop
noncomputable abbrev St:=List (Option V)
noncomputable abbrev VK:=V→Hp→Prop
noncomputable abbrev TE:=St→Hp→VK→Prop
noncomputable abbrev TT:=St→Hp→(Bool→Hp→Prop)→Prop
noncomputable abbrev TA:=St→Hp→(List V→Hp→Prop)→Prop
structure Ends where
 nx:St→Hp→Prop
 rt:VK
 bk:St→Hp→Prop:=fun _ _=>False
 ct:St→Hp→Prop:=fun _ _=>False
noncomputable abbrev TS:=Ends→St→Hp→Prop
noncomputable def EP (X:Cx)(pins:List (Addr × Obj))(σ:St)(Q:VK)(u:Value)(s':Shared):Prop:=∃ v H',InvW X pins σ H' s'∧RelV v u∧Q v H'
noncomputable def EPs (X:Cx)(pins:List (Addr × Obj))(σ:St)(Q:VK)(u:Value)(s':Shared):Prop:=∃ v H',Inv X pins σ H' s'∧RelV v u∧Q v H'
noncomputable def TP (X:Cx)(pins:List (Addr × Obj))(σ:St)(Q:Bool→Hp→Prop)(b:Bool)(s':Shared):Prop:=∃ H',InvW X pins σ H' s'∧Q b H'
noncomputable def TPs (X:Cx)(pins:List (Addr × Obj))(σ:St)(Q:Bool→Hp→Prop)(b:Bool)(s':Shared):Prop:=∃ H',Inv X pins σ H' s'∧Q b H'
noncomputable def AP (X:Cx)(pins:List (Addr × Obj))(σ:St)(Q:List V→Hp→Prop)(us:List Value)(s':Shared):Prop:=∃ vs H',InvW X pins σ H' s'∧Vals vs us∧Q vs H'
noncomputable def APs (X:Cx)(pins:List (Addr × Obj))(σ:St)(Q:List V→Hp→Prop)(us:List Value)(s':Shared):Prop:=∃ vs H',Inv X pins σ H' s'∧Vals vs us∧Q vs H'
noncomputable def SP (X:Cx)(pins:List (Addr × Obj))(D:Ends)(f:Flow)(s':Shared):Prop :=
 match f with
 | .next=>∃ σ' H',InvW X pins σ' H' s'∧D.nx σ' H'
 | .brk=>∃ σ' H',InvW X pins σ' H' s'∧D.bk σ' H'
 | .cont=>∃ σ' H',InvW X pins σ' H' s'∧D.ct σ' H'
 | .ret u=>∃ v σ' H',InvW X pins σ' H' s'∧RelV v u∧D.rt v H'
noncomputable def SPs (X:Cx)(pins:List (Addr × Obj))(D:Ends)(f:Flow)(s':Shared):Prop :=
 match f with
 | .next=>∃ σ' H',Inv X pins σ' H' s'∧D.nx σ' H'
 | .brk=>∃ σ' H',Inv X pins σ' H' s'∧D.bk σ' H'
 | .cont=>∃ σ' H',Inv X pins σ' H' s'∧D.ct σ' H'
 | .ret u=>∃ v σ' H',Inv X pins σ' H' s'∧RelV v u∧D.rt v H'
noncomputable def PE (X:Cx)(e:Expr)(t:TE):Prop :=
 ∀ (pins:List (Addr × Obj)) (s:Shared) (σ:St) (H:Hp) (Q:VK),Inv X pins σ H s→t σ H Q→wpAny (model X.prog X.w) X.A (eval e X.env) (EP X pins σ Q) X.xe s
noncomputable def PT (X:Cx)(e:Expr)(t:TT):Prop :=
 ∀ (pins:List (Addr × Obj)) (s:Shared) (σ:St) (H:Hp) (Q:Bool→Hp→Prop),Inv X pins σ H s→t σ H Q→wpAny (model X.prog X.w) X.A (isTrue e X.env (eval e X.env)) (TP X pins σ Q) X.xe s
noncomputable def PW (X:Cx)(e:Expr)(t:TT):Prop :=
 ∀ (whole:Sem Value) (pins:List (Addr × Obj)) (s:Shared) (σ:St) (H:Hp) (Q:Bool→Hp→Prop),Inv X pins σ H s→t σ H Q→wpAny (model X.prog X.w) X.A (isTrue e X.env whole) (TP X pins σ Q) X.xe s
theorem PW.pt {X:Cx}{e:Expr}{t:TT}(h:PW X e t):PT X e t:=h _
noncomputable def PA (X:Cx)(es:List Expr)(t:TA):Prop :=
 ∀ (pos:Pos) (pins:List (Addr × Obj)) (s:Shared) (σ:St) (H:Hp) (Q:List V→Hp→Prop),Inv X pins σ H s→t σ H Q→wpAny (model X.prog X.w) X.A (spliced (backTo pos (starEach es X.env))) (AP X pins σ Q) X.xe s
noncomputable def PS (X:Cx)(st:Stmt)(t:TS):Prop :=
 ∀ (pins:List (Addr × Obj)) (s:Shared) (σ:St) (H:Hp) (D:Ends),Inv X pins σ H s→t D σ H→wpAny (model X.prog X.w) X.A (exec st X.env) (SP X pins D) X.xe s
noncomputable def PSs (X:Cx)(st:List Stmt)(t:TS):Prop :=
 ∀ (pins:List (Addr × Obj)) (s:Shared) (σ:St) (H:Hp) (D:Ends),Inv X pins σ H s→t D σ H→wpAny (model X.prog X.w) X.A (execs st X.env) (SP X pins D) X.xe s
class Upg {α:Type} (Q:α→Shared→Prop) (n:outParam Nat) (Q':outParam (α→Shared→Prop)):Prop where
 up:∀ a s,n≤s.toks→Q a s→Q' a s
instance (priority:=low) {α:Type} (Q:α→Shared→Prop):Upg Q 0 Q:=⟨fun _ _ _ h=>h⟩
section
variable {X:Cx} {pins:List (Addr × Obj)} {σ:St}
instance {Q:VK}:Upg (EP X pins σ Q) X.lo (EPs X pins σ Q):=⟨fun _ _ l ⟨v,H,I,r⟩=>⟨v,H,I.up l,r⟩⟩
instance {Q:Bool→Hp→Prop}:Upg (TP X pins σ Q) X.lo (TPs X pins σ Q):=⟨fun _ _ l ⟨H,I,r⟩=>⟨H,I.up l,r⟩⟩
instance {Q:List V→Hp→Prop}:Upg (AP X pins σ Q) X.lo (APs X pins σ Q):=⟨fun _ _ l ⟨v,H,I,r⟩=>⟨v,H,I.up l,r⟩⟩
instance {D:Ends}:Upg (SP X pins D) X.lo (SPs X pins D):=⟨fun f _ l h=>match f,h with
 | .next,⟨σ,H,I,r⟩=>⟨σ,H,I.up l,r⟩
 | .brk,⟨σ,H,I,r⟩=>⟨σ,H,I.up l,r⟩
 | .cont,⟨σ,H,I,r⟩=>⟨σ,H,I.up l,r⟩
 | .ret _,⟨v,σ,H,I,r⟩=>⟨v,σ,H,I.up l,r⟩⟩
end
theorem TPs.w {X:Cx}{pins:List (Addr × Obj)}{σ:St}{Q:Bool→Hp→Prop}{b:Bool}{s:Shared}(h:TPs X pins σ Q b s):TP X pins σ Q b s:=let ⟨H,I,r⟩:=h; ⟨H,I.toInvW,r⟩
theorem SPs.w {X:Cx}{pins:List (Addr × Obj)}{D:Ends}{f:Flow}{s:Shared}(h:SPs X pins D f s):SP X pins D f s:=match f,h with
 | .next,⟨σ,H,I,r⟩=>⟨σ,H,I.toInvW,r⟩
 | .brk,⟨σ,H,I,r⟩=>⟨σ,H,I.toInvW,r⟩
 | .cont,⟨σ,H,I,r⟩=>⟨σ,H,I.toInvW,r⟩
 | .ret _,⟨v,σ,H,I,r⟩=>⟨v,σ,H,I.toInvW,r⟩
theorem thw {α:Type}{t:Sem α}{Q Q':α→Shared→Prop}{M:Model}{A:Around}{E:Value→Shared→Prop}{s:Shared}(h:wpAny M A t Q E s)(hQ:∀ a s,Q a s→Q' a s):wpAny M A t Q' E s:=wpAny_mono h hQ fun _ _ x=>x
theorem thn {α:Type}{t:Sem α}{Q Qs Q':α→Shared→Prop}{n:Nat}{M:Model}{A:Around}{E:Value→Shared→Prop}{s:Shared}(h:wpAny M A t Q E s)[u:Upg Q n Qs](hQ:∀ a s,Qs a s→Q' a s)(hn:n≤s.toks:=by first | exact Nat.zero_le _ | assumption | (apply Inv.low; assumption)):wpAny M A t Q' E s :=
 wt hn (wpAny_mono h (fun a s' x l=>hQ a s' (u.up a s' l x)) fun _ _ x=>x)
end L2
namespace L2
open PySem PySem.Spec PyProof.Rows
section
variable {X:Cx}
inductive tVar (i:Nat)(σ:St)(H:Hp)(Q:VK):Prop
 | mk:∀ v,(σ[i]? = some (some v))→(Q v H)→tVar i σ H Q
noncomputable def tC (v:V):TE:=fun _ H Q=>Q v H
theorem pe_var {i:Nat}{x:Str}{pos:Pos}(hN:X.N[i]? = some x)(hv:Vis X.env.scope x)(hd:(x == ("__debug__":Str))=false:=by decide)(hcd:(x == ("__classdict__":Str))=false:=by decide):PE X (.Name x pos) (tVar i):=by
 intro pins s σ H Q I h
 obtain ⟨v,e,h⟩:=h
 obtain ⟨m,hn,hl⟩:=I.loc
 obtain ⟨u,r,l⟩:=hl i x v hN e hv
 have fin:EP X pins σ Q u s:=⟨v,H,I,r,h⟩
 rcases l with ⟨hk,hm⟩ | ⟨hk,c,hc,hcell⟩
 ·exact wpAny_Name (wpAny_loadName_local I.ok.kind hk hn hm fin) hd
 ·rcases hk with hk | hk
  ·exact wpAny_Name (wpAny_loadName_cell I.ok.kind hk hc hcell fin) hd
  ·exact wpAny_Name (wpAny_loadName_free I.ok.kind hk hc hcell fin hcd) hd
theorem pe_int {i j pos}:PE X (.Constant (.int i) j pos) (tC (.int i)):=fun _ _ _ H _ I h=>wpAny_Constant_int ⟨.int i,H,I.tok _,⟨_,rfl⟩,h⟩
theorem pe_bl {b j pos}:PE X (.Constant (.bool b) j pos) (tC (.bl b)):=fun _ _ _ H _ I h=>Constant_bool ⟨.bl b,H,I,rfl,h⟩
theorem pe_non {j pos}:PE X (.Constant .none j pos) (tC .non):=fun _ _ _ H _ I h=>Constant_none ⟨.non,H,I,rfl,h⟩
theorem pe_str {x j pos}:PE X (.Constant (.str x) j pos) (tC (.str x)):=fun _ _ _ H _ I h=>Calls.Constant_str ⟨.str x,H,I.tok _,⟨_,rfl⟩,h⟩
noncomputable def Gl (X:Cx)(x:Str):Prop:=X.env.kindOf x=some .globalImplicit
theorem ld_glob {E:Value→Shared→Prop}{pins:List (Addr × Obj)}{s:Shared}{σ:St}{H:Hp}{x:Str}{u:Value}{pos:Pos}{Q:Value→Shared→Prop}(I:Inv X pins σ H s)(hg:Gl X x)(hm:X.mg x=some u)(h:Q u s)
  (hd:(x == ("__debug__":Str))=false:=by decide):wpAny (model X.prog X.w) X.A (eval (.Name x pos) X.env) Q E s :=
 Calls.Name_function_global I.ok.kind hg (Calls.loadGlobal_global (by rw [I.ok.glob];exact I.mod.glob.keeps I.bk) hm h) hd
theorem ld_blt {E:Value→Shared→Prop}{pins:List (Addr × Obj)}{s:Shared}{σ:St}{H:Hp}{x:Str}{u:Value}{pos:Pos}{Q:Value→Shared→Prop}(I:Inv X pins σ H s)(hg:Gl X x)(hm:X.mg x=none)(hv:bootBuiltins x=some u)(h:Q u s)
  (hn:x ≠ "__name__":=by decide) (hd:(x == ("__debug__":Str))=false:=by decide):wpAny (model X.prog X.w) X.A (eval (.Name x pos) X.env) Q E s:=by
 obtain ⟨mb,h1,h2⟩:=I.mod.blt
 exact Calls.Name_function_global I.ok.kind hg (Calls.loadGlobal_builtin (by rw [I.ok.glob];exact I.mod.glob.keeps I.bk) hm (by rw [I.ok.blt];exact h1.keeps I.bk) ((h2 x hn).trans hv) h) hd
theorem pe_glob {x:Str}{v:V}{u:Value}{pos:Pos}(hg:Gl X x)(hm:X.mg x=some u)(r:RelV v u)(hd:(x == ("__debug__":Str))=false:=by decide):PE X (.Name x pos) (tC v) :=
 fun _ _ _ H _ I h=>ld_glob I hg hm ⟨v,H,I,r,h⟩ hd
variable {a b:Expr} {ta tb:TE} {pos:Pos}
noncomputable def PC (X:Cx)(op:CmpOp)(a b:Expr)(t:TE):Prop :=
 ∀ (pins:List (Addr × Obj)) (s:Shared) (σ:St) (H:Hp) (Q:VK),Inv X pins σ H s→t σ H Q →
  wpAny (model X.prog X.w) X.A (eval a X.env) (fun v s₁=>wpAny (model X.prog X.w) X.A (eval b X.env) (fun u s₂=>wpAny (model X.prog X.w) X.A (compareOp op v u) (EP X pins σ Q) X.xe s₂) X.xe s₁) X.xe s
theorem nobehind (b:Expr){op:CmpOp}(h:op ≠ .In)(h2:op ≠ .NotIn):behindInMarks op b=false:=by
 have e1:(op == CmpOp.In)=false:=by cases op <;> first | rfl | exact absurd rfl h
 have e2:(op == CmpOp.NotIn)=false:=by cases op <;> first | rfl | exact absurd rfl h2
 cases b <;> simp [behindInMarks,e1,e2]
inductive IsB (x:V)(H:Hp)(Q:Bool→Hp→Prop):Prop
 | mk:∀ c,(x = .bl c)→(Q c H)→IsB x H Q
noncomputable def tB_k1 (Q:(Bool→Hp→Prop)):V→Hp→Prop:=fun x H1=>IsB x H1 Q
noncomputable def tB (t:TE):TT:=fun σ H Q=>t σ H (tB_k1 Q)
theorem pt_cmp {op:CmpOp}{t:TE}(h:PC X op a b t)(h1:behindInMarks op b=false:=by first | exact nobehind _ (by decide) (by decide) | rfl):PT X (.Compare a [op] [b] pos) (tB t):=by
 intro pins s σ H Q I hw
 refine wpAny_isTrue_Compare1 (thw (h pins s σ H _ I hw) fun v s1 h1=>thw h1 fun u s2 h2=>thw h2 fun c s3 zq5=>?_) h1
 obtain ⟨x,H1,I1,r1,q1⟩:=zq5
 obtain ⟨d,rfl,q⟩:=q1
 cases r1
 exact wpAny_truthy_bool ⟨H1,I1,q⟩
variable {tA tB':TT} {rest:List Expr}
noncomputable def tAnd_k1 (u:TT)(σ:St)(Q:(Bool→Hp→Prop)):Bool→Hp→Prop:=fun c H1=>if c=true then u σ H1 Q else Q false H1
noncomputable def tAnd (t u:TT):TT:=fun σ H Q=>t σ H (tAnd_k1 u σ Q)
noncomputable def tOr_k1 (u:TT)(σ:St)(Q:(Bool→Hp→Prop)):Bool→Hp→Prop:=fun c H1=>if c=true then Q true H1 else u σ H1 Q
noncomputable def tOr (t u:TT):TT:=fun σ H Q=>t σ H (tOr_k1 u σ Q)
noncomputable def tNot_k1 (Q:(Bool→Hp→Prop)):Bool→Hp→Prop:=fun c H1=>Q (!c) H1
noncomputable def tNot (t:TT):TT:=fun σ H Q=>t σ H (tNot_k1 Q)
theorem pw_and1 (ha:PT X a tA):PW X (.BoolOp .And [a] pos) tA:=by
 intro wh pins s σ H Q I h
 refine isTrue_and (thn (ha pins s σ H Q I h) fun c s1 e=>?_)
 cases c with
 | true=>exact isTrue_and_nil e.w
 | false=>exact e.w
theorem pw_or1 (ha:PT X a tA):PW X (.BoolOp .Or [a] pos) tA:=by
 intro wh pins s σ H Q I h
 refine isTrue_or (thn (ha pins s σ H Q I h) fun c s1 e=>?_)
 cases c with
 | false=>exact isTrue_or_nil e.w
 | true=>exact e.w
theorem pw_and (ha:PT X a tA)(hb:PW X (.BoolOp .And (b::rest) pos) tB'):PW X (.BoolOp .And (a::b::rest) pos) (tAnd tA tB'):=by
 intro wh pins s σ H Q I h
 refine isTrue_and (thn (ha pins s σ H _ I h) fun c s1 zq7=>?_)
 obtain ⟨H1,I1,q1⟩:=zq7
 cases c with
 | true=>exact hb wh pins s1 σ H1 Q I1 q1
 | false=>exact ⟨H1,I1,q1⟩
theorem pw_or (ha:PT X a tA)(hb:PW X (.BoolOp .Or (b::rest) pos) tB'):PW X (.BoolOp .Or (a::b::rest) pos) (tOr tA tB'):=by
 intro wh pins s σ H Q I h
 refine isTrue_or (thn (ha pins s σ H _ I h) fun c s1 zq8=>?_)
 obtain ⟨H1,I1,q1⟩:=zq8
 cases c with
 | true=>exact ⟨H1,I1,q1⟩
 | false=>exact hb wh pins s1 σ H1 Q I1 q1
theorem pt_not (ha:PT X a tA):PT X (.UnaryOp .Not a pos) (tNot tA):=by
 intro pins s σ H Q I h
 exact isTrue_not (ha pins s σ H (fun c H1=>Q (!c) H1) I h)
noncomputable def tIf_k1 (ta:TE)(tb:TE)(σ:St)(Q:VK):Bool→Hp→Prop:=fun c H1=>if c=true then ta σ H1 Q else tb σ H1 Q
noncomputable def tIf (t:TT)(ta tb:TE):TE:=fun σ H Q=>t σ H (tIf_k1 ta tb σ Q)
theorem pe_ifExp {c:Expr}(hc:PT X c tA)(ha:PE X a ta)(hb:PE X b tb):PE X (.IfExp c a b pos) (tIf tA ta tb):=by
 intro pins s σ H Q I h
 refine wpAny_IfExp (thn (hc pins s σ H _ I h) fun d s1 zq12=>?_)
 obtain ⟨H1,I1,q1⟩:=zq12
 cases d with
 | true=>exact ha pins s1 σ H1 Q I1 q1
 | false=>exact hb pins s1 σ H1 Q I1 q1
end
end L2
namespace L2
open PySem PySem.Spec PyProof.Rows
noncomputable def SqL (K:PySem.W.Frag)(H:Hp)(a:Addr)(xs:List V):Prop :=
 Rd H a (.lst xs) ∨
  ∃ (o:Obj) (its:Array Value) (n:Nat),K.lookup a=some o∧o.cls = .type "list"∧o.dict=none∧o.data = .seq its n∧its.size≤sizeLine∧Vals xs its.toList∧xs.all V.pl=true
noncomputable def SqT (K:PySem.W.Frag)(H:Hp)(a:Addr)(xs:List V):Prop :=
 Rd H a (.tup xs) ∨
  ∃ (o:Obj) (its:Array Value) (n:Nat),K.lookup a=some o∧o.cls = .type "tuple"∧o.data = .seq its n∧its.size≤sizeLine∧Vals xs its.toList∧xs.all V.pl=true
noncomputable def absV:Value→Option V
 | .none=>some .non
 | .bool b=>some (.bl b)
 | .int i _=>some (.int i)
 | .str x _=>some (.str x)
 | .bytes b _=>some (.byt b)
 | .float b _=>some (.flt b)
 | .ref a=>some (.ref a)
 | .type n=>some (.ty n)
 | _=>none
theorem RelV.abs {x:V}{u:Value}(r:RelV x u)(hp:x.pl=true):absV u=some x:=by
 cases x with
 | tks _ _=>cases hp
 | non=>cases r;rfl
 | bl _=>cases r;rfl
 | int _=>obtain ⟨t,rfl⟩:=r;rfl
 | str _=>obtain ⟨t,rfl⟩:=r;rfl
 | byt _=>obtain ⟨t,rfl⟩:=r;rfl
 | flt _=>obtain ⟨t,rfl⟩:=r;rfl
 | ref _=>cases r;rfl
 | ty _=>cases r;rfl
theorem RelV.inj {x y:V}{u:Value}(r:RelV x u)(q:RelV y u)(hx:x.pl=true)(hy:y.pl=true):x=y:=Option.some.inj ((r.abs hx).symm.trans (q.abs hy))
theorem Vals.inj:∀ {xs ys:List V} {us:List Value},Vals xs us→Vals ys us→xs.all V.pl=true→ys.all V.pl=true→xs=ys
 | _,_,_,.nil,.nil,_,_=>rfl
 | _,_,_,.cons r t,.cons r' t',hx,hy=>by
  rw [List.all_cons,Bool.and_eq_true] at hx hy
  rw [r.inj r' hx.1 hy.1,Vals.inj t t' hx.2 hy.2]
section
variable {X:Cx} {pins:List (Addr × Obj)} {σ:St} {H:Hp} {s:Shared} {a:Addr} {xs ys:List V}
theorem SqL.of {K:PySem.W.Frag}(h:H a=some (.lst xs)):SqL K H a xs:=.inl (.inl h)
theorem SqT.of {K:PySem.W.Frag}(h:H a=some (.tup xs)):SqT K H a xs:=.inl (.inl h)
theorem Inv.list (I:Inv X pins σ H s)(h:SqL X.K H a xs):∃ its:List Value,Vals xs its∧PlainL s.heap a its.toArray∧xs.length≤sizeLine:=by
 rcases h with h | ⟨o,its,n,hk,hc,hd,hs,hz,r,_⟩
 ·obtain ⟨z,its,n,r,e⟩:=h.ok I.hok
  exact ⟨its,r,⟨_,n,e,rfl,rfl,rfl⟩,z⟩
 ·refine ⟨its.toList,r,⟨o,n,I.kIn a o hk,hc,hd,by simpa using hs⟩,?_⟩
  have e:=r.length
  simp only [Array.length_toList] at e
  omega
theorem Inv.tuple (I:Inv X pins σ H s)(h:SqT X.K H a xs):∃ its:List Value,Vals xs its∧IsTup s.heap a its.toArray∧xs.length≤sizeLine:=by
 rcases h with h | ⟨o,its,n,hk,hc,hs,hz,r,_⟩
 ·obtain ⟨z,its,r,p,_⟩:=h.ok I.hok
  exact ⟨its,r,p,z⟩
 ·refine ⟨its.toList,r,⟨o,I.kIn a o hk,hc,n,by simpa using hs⟩,?_⟩
  have e:=r.length
  simp only [Array.length_toList] at e
  omega
theorem Inv.noRd {u:HO}{o:Obj}(I:Inv X pins σ H s)(h:Rd H a u)(hk:X.K.lookup a=some o):False:=by
 have:=(I.bs a o (I.mod.kin a o hk)).2
 rcases h with h | ⟨_,h⟩ <;> (rw [this] at h;cases h)
theorem Inv.list_inj (I:Inv X pins σ H s)(h:SqL X.K H a xs)(h':SqL X.K H a ys):xs=ys:=by
 rcases h with h | ⟨o,its,n,hk,hc,hd,hs,hz,r,p⟩ <;> rcases h' with h' | ⟨o',its',n',hk',hc',hd',hs',hz',r',p'⟩
 ·rcases h with h | ⟨_,h⟩ <;> rcases h' with h' | ⟨_,h'⟩ <;> (rw [h] at h';cases h';try rfl)
 ·exact (I.noRd h hk').elim
 ·exact (I.noRd h' hk).elim
 ·rw [hk] at hk';cases hk'
  rw [hs] at hs';cases hs'
  exact r.inj r' p p'
theorem Inv.tuple_inj (I:Inv X pins σ H s)(h:SqT X.K H a xs)(h':SqT X.K H a ys):xs=ys:=by
 rcases h with h | ⟨o,its,n,hk,hc,hs,hz,r,p⟩ <;> rcases h' with h' | ⟨o',its',n',hk',hc',hs',hz',r',p'⟩
 ·rcases h with h | ⟨_,h⟩ <;> rcases h' with h' | ⟨_,h'⟩ <;> (rw [h] at h';cases h';try rfl)
 ·exact (I.noRd h hk').elim
 ·exact (I.noRd h' hk).elim
 ·rw [hk] at hk';cases hk'
  rw [hs] at hs';cases hs'
  exact r.inj r' p p'
end
noncomputable abbrev Cx.wish (X:Cx)(E:Value→Shared→Prop):Cx:={ X with xe:=E }
noncomputable abbrev Cx.nox (X:Cx):Cx:=X.wish fun _ _=>False
theorem Cx.Ok.wish {X:Cx}(ok:X.Ok)(E:Value→Shared→Prop):(X.wish E).Ok :=
 ⟨ok.mod,ok.kind,ok.glob,ok.blt,ok.above,ok.inj,ok.has,ok.cab,ok.hd,ok.frames,ok.stk,ok.exf,ok.bs,ok.bsz,ok.noex,ok.exfs,ok.funs,ok.frf⟩
theorem Cx.Ok.unwish {X:Cx}{E:Value→Shared→Prop}(ok:(X.wish E).Ok):X.Ok :=
 ⟨ok.mod,ok.kind,ok.glob,ok.blt,ok.above,ok.inj,ok.has,ok.cab,ok.hd,ok.frames,ok.stk,ok.exf,ok.bs,ok.bsz,ok.noex,ok.exfs,ok.funs,ok.frf⟩
section
variable {X:Cx} {pins:List (Addr × Obj)} {σ:St} {H:Hp} {s:Shared} {E:Value→Shared→Prop}
theorem InvW.wish (I:InvW X pins σ H s)(E:Value→Shared→Prop):InvW (X.wish E) pins σ H s:=⟨I.ok.wish E,I.os,I.bare,I.base,I.loc,I.cell,I.free,I.freeC,I.pin,I.hok,I.len⟩
theorem Inv.wish (I:Inv X pins σ H s)(E:Value→Shared→Prop):Inv (X.wish E) pins σ H s:=⟨I.toInvW.wish E,I.low⟩
theorem InvW.unwish (I:InvW (X.wish E) pins σ H s):InvW X pins σ H s:=⟨I.ok.unwish,I.os,I.bare,I.base,I.loc,I.cell,I.free,I.freeC,I.pin,I.hok,I.len⟩
theorem SP.unwish {D:Ends}{f:Flow}{s':Shared}(h:SP (X.wish E) pins D f s'):SP X pins D f s':=by
 cases f with
 | next=>obtain ⟨σ',H',I,q⟩:=h;exact ⟨σ',H',I.unwish,q⟩
 | brk=>obtain ⟨σ',H',I,q⟩:=h;exact ⟨σ',H',I.unwish,q⟩
 | cont=>obtain ⟨σ',H',I,q⟩:=h;exact ⟨σ',H',I.unwish,q⟩
 | ret u=>obtain ⟨v,σ',H',I,r,q⟩:=h;exact ⟨v,σ',H',I.unwish,r,q⟩
theorem PSs.nox {st:List Stmt}{t:TS}(h:PSs X.nox st t):PSs X st t:=fun pins s σ H D I hw =>
 wpAny_mono (h pins s σ H D (I.wish _) hw) (fun _ _ q=>q.unwish) fun _ _ z=>False.elim z
end
section
variable {X:Cx} {st:Stmt} {rest:List Stmt} {t u:TS} {e:Expr} {te:TE} {pos:Pos}
noncomputable def tNext:TS:=fun D σ H=>D.nx σ H
noncomputable def tSeq (t u:TS):TS:=fun D σ H=>t { D with nx:=u D } σ H
theorem pss_nil:PSs X [] tNext:=fun _ _ σ H _ I h=>wpAny_execs_nil ⟨σ,H,I,h⟩
theorem pss_cons (h1:PS X st t)(h2:PSs X rest u):PSs X (st::rest) (tSeq t u):=by
 intro pins s σ H D I h
 refine wpAny_execs_cons (thn (h1 pins s σ H { D with nx:=u D } I h) fun f s1 q=>?_)
 cases f with
 | next =>
  obtain ⟨σ',H',I',q⟩:=q
  exact h2 pins s1 σ' H' D I' q
 | ret v=>exact q.w
 | brk=>exact q.w
 | cont=>exact q.w
theorem pss_one (h1:PS X st t):PSs X [st] t:=by
 intro pins s σ H D I h
 refine wpAny_execs_cons (thn (h1 pins s σ H D I h) fun f s1 q=>?_)
 cases f with
 | next=>exact wpAny_execs_nil q.w
 | ret v=>exact q.w
 | brk=>exact q.w
 | cont=>exact q.w
theorem Inv.quiet {pins:List (Addr × Obj)}{σ:St}{H:Hp}{s:Shared}(I:Inv X pins σ H s):interactive X.env=false:=by simp [interactive,I.ok.kind]
noncomputable def tDrop_k1 (D:Ends)(σ:St):V→Hp→Prop:=fun _ H1=>D.nx σ H1
noncomputable def tDrop (te:TE):TS:=fun D σ H=>te σ H (tDrop_k1 D σ)
theorem ps_expr (he:PE X e te)(hs:swapsWith e none pos.line X.env=pure false:=by rfl):PS X (.Expr e pos) (tDrop te):=by
 intro pins s σ H D I h
 exact wpAny_Expr_any (thn (he pins s σ H _ I h) fun v s1 zq15=>(by obtain ⟨x,H1,I1,r1,q1⟩:=zq15;exact ⟨σ,H1,I1,q1⟩)) I.quiet hs
noncomputable def tRet (te:TE):TS:=fun D σ H=>te σ H D.rt
theorem ps_ret (he:PE X e te):PS X (.Return (some e) pos) (tRet te):=by
 intro pins s σ H D I h
 exact wpAny_Return_some (thn (he pins s σ H _ I h) fun v s1 zq16=>(by obtain ⟨x,H1,I1,r1,q1⟩:=zq16;exact ⟨x,σ,H1,I1,r1,q1⟩))
noncomputable def tIfS_k1 (t:TS)(u:TS)(D:Ends)(σ:St):Bool→Hp→Prop:=fun b H1=>if b=true then t D σ H1 else u D σ H1
noncomputable def tIfS (c:TT)(t u:TS):TS:=fun D σ H=>c σ H (tIfS_k1 t u D σ)
theorem ps_if {c:Expr}{a b:List Stmt}{tc:TT}(hc:PT X c tc)(ha:PSs X a t)(hb:PSs X b u):PS X (.If c a b pos) (tIfS tc t u):=by
 intro pins s σ H D I h
 refine wpAny_If (thn (hc pins s σ H _ I h) fun d s1 zq17=>?_)
 obtain ⟨H1,I1,q1⟩:=zq17
 cases d with
 | true=>exact ha pins s1 σ H1 D I1 q1
 | false=>exact hb pins s1 σ H1 D I1 q1
end
noncomputable abbrev TG:=V→St→Hp→(St→Hp→Prop)→Prop
noncomputable abbrev TGs:=List V→St→Hp→(St→Hp→Prop)→Prop
noncomputable def PG (X:Cx)(target:Expr)(t:TG):Prop :=
 ∀ (pins:List (Addr × Obj)) (s:Shared) (σ:St) (H:Hp) (v:V) (u:Value) (Q:St→Hp→Prop),Inv X pins σ H s→RelV v u→t v σ H Q →
  wpAny (model X.prog X.w) X.A (assign target X.env u) (fun _ s'=>∃ σ' H',Inv X pins σ' H' s'∧Q σ' H') X.xe s
noncomputable def PGs (X:Cx)(ts:List Expr)(t:TGs):Prop :=
 ∀ (pins:List (Addr × Obj)) (s:Shared) (σ:St) (H:Hp) (vs:List V) (us:List Value) (Q:St→Hp→Prop),Inv X pins σ H s→Vals vs us→t vs σ H Q →
  wpAny (model X.prog X.w) X.A (assignInOrder ((assignEach ts X.env).map (·.2)) us) (fun _ s'=>∃ σ' H',Inv X pins σ' H' s'∧Q σ' H') X.xe s
noncomputable abbrev TIp:=V→V→Hp→VK→Prop
noncomputable def PIp (X:Cx)(op:Operator)(t:TIp):Prop :=
 ∀ (pins:List (Addr × Obj)) (s:Shared) (σ:St) (H:Hp) (x y:V) (v u:Value) (Q:VK),Inv X pins σ H s→RelV x v→RelV y u→t x y H Q →
  wpAny (model X.prog X.w) X.A (inplaceOp op v u) (EP X pins σ Q) X.xe s
section
variable {X:Cx} {pos:Pos}
noncomputable def gName (i:Nat):TG:=fun v σ H Q=>Q (σ.set i (some v)) H
theorem pg_name {i:Nat}{x:Str}(hN:X.N.Nodup)(hi:X.N[i]? = some x)(hx:Loc X.env.scope x)(hf:X.fn x=true ∨ X.env.scope.names.lookup x=some .local:=by first | exact .inl rfl | exact .inr rfl | assumption):PG X (.Name x pos) (gName i):=by
 intro pins s σ H v u Q I r h
 exact wpAny_assign_Name (store_ok I hN hi hx r (fun s' I'=>⟨_,H,I',h⟩) hf)
noncomputable def gNil:TGs:=fun vs σ H Q=>vs=[]∧Q σ H
noncomputable def gCons (t:TG)(u:TGs):TGs:=fun vs σ H Q=>∃ v r,vs=v::r∧t v σ H fun σ' H'=>u r σ' H' Q
theorem pgs_nil:PGs X [] gNil:=by
 intro pins s σ H vs us Q I r h
 obtain ⟨e,h⟩:=h
 subst e
 cases r
 exact assignInOrder_nil ⟨σ,H,I,h⟩
theorem pgs_cons {e:Expr}{es:List Expr}{t:TG}{u:TGs}(h1:PG X e t)(h2:PGs X es u)
  (hs:(assignEach (e::es) X.env).map (·.2)=assign e X.env::(assignEach es X.env).map (·.2):=by rfl):PGs X (e::es) (gCons t u):=by
 intro pins s σ H vs us Q I r h
 obtain ⟨v,vr,e1,h⟩:=h
 subst e1
 cases r with
 | cons r rr =>
  rw [hs]
  refine assignInOrder_cons (thn (h1 pins s σ H _ _ _ I r h) fun _ s1 zq18=>?_)
  obtain ⟨σ1,H1,I1,q1⟩:=zq18
  exact h2 pins s1 σ1 H1 _ _ Q I1 rr q1
noncomputable def gTup (K:PySem.W.Frag)(n:Nat)(t:TGs):TG:=fun v σ H Q=>∃ a xs,v = .ref a∧SqT K H a xs∧xs.length=n∧t xs σ H Q
theorem pg_tup {es:List Expr}{k:Nat}{t:TGs}{n:Nat}(hc:X.calm=true)(h:PGs X es t)
  (hn:(assignEach es X.env).length=n:=by rfl) (hst:(assignEach es X.env).findIdx? (·.1)=none:=by rfl):PG X (.Tuple es k pos) (gTup X.K n t):=by
 intro pins s σ H v u Q I r hw
 obtain ⟨a,xs,e1,hq,hl,hw⟩:=hw
 subst e1
 cases r
 obtain ⟨its,rv,ht,hz⟩:=I.tuple hq
 refine assign_Tuple_tuple (I.ok.hd hc) ht (by simp [hn,← hl,rv.length]) hst fun h' hx=>?_
 have I1:Inv X pins σ H { s with heap:=h' }:=(I.kept (t':=s.toks) fun b o e=>hx b o (Nat.ne_of_lt (Heap.lt_size e)) e).up I.low
 exact h pins _ σ H xs _ Q I1 (by simpa using rv) hw
noncomputable def tAsg_k1 (g:TG)(D:Ends)(σ:St):V→Hp→Prop:=fun x H1=>g x σ H1 D.nx
noncomputable def tAsg (te:TE)(g:TG):TS:=fun D σ H=>te σ H (tAsg_k1 g D σ)
theorem ps_set {i:Nat}{x:Str}{e:Expr}{te:TE}{pos':Pos}(hN:X.N.Nodup)(hi:X.N[i]? = some x)(hx:Loc X.env.scope x)(he:PE X e te)(hs:swapsWith e (some (.Name x pos')) pos.line X.env=pure false:=by rfl)(hf:X.fn x=true ∨ X.env.scope.names.lookup x=some .local:=by first | exact .inl rfl | exact .inr rfl | assumption) :
  PS X (.Assign [.Name x pos'] e pos) (tAsg te (gName i)):=by
 intro pins s σ H D I h
 refine wpAny_Assign_Name (thn (he pins s σ H _ I h) fun v s1 zq23=>?_) hs
 obtain ⟨y,H1,I1,r1,q1⟩:=zq23
 exact store_ok I1 hN hi hx r1 (fun s2 I2=>⟨_,H1,I2,q1⟩) hf
inductive tAug (i:Nat)(te:TE)(ti:TIp)(D:Ends)(σ:St)(H:Hp):Prop
 | mk:∀ x,(σ[i]? = some (some x))→(te σ H fun y H1=>ti x y H1 fun z H2=>D.nx (σ.set i (some z)) H2)→tAug i te ti D σ H
theorem ps_aug {i:Nat}{x:Str}{e:Expr}{te:TE}{op:Operator}{ti:TIp}{pos':Pos}(hN:X.N.Nodup)(hi:X.N[i]? = some x)(hx:Loc X.env.scope x)(he:PE X e te)(ho:PIp X op ti)(hf:X.fn x=true ∨ X.env.scope.names.lookup x=some .local:=by first | exact .inl rfl | exact .inr rfl | assumption) :
  PS X (.AugAssign (.Name x pos') op e pos) (tAug i te ti):=by
 intro pins s σ H D I h
 obtain ⟨v,e1,h⟩:=h
 obtain ⟨m,hn,hl⟩:=I.loc
 have vis:Vis X.env.scope x:=by rcases hx with k | k;exact .inl k;exact .inr (.inl k)
 obtain ⟨u,r,l⟩:=hl i x v hi e1 vis
 refine wpAny_AugAssign_Name ?_
 have go:wpAny (model X.prog X.w) X.A (eval e X.env) (fun w s₂=>wpAny (model X.prog X.w) X.A (inplaceOp op u w) (fun r s₃=>wpAny (model X.prog X.w) X.A (storeName X.env x r) (fun _=>SP X pins D .next) X.xe s₃) X.xe s₂) X.xe s:=by
  refine thn (he pins s σ H _ I h) fun w s1 zq25=>?_
  obtain ⟨y,H1,I1,r1,q1⟩:=zq25
  refine thn (ho pins s1 σ H1 v y u w _ I1 r r1 q1) fun z s2 zq26=>?_
  obtain ⟨zv,H2,I2,r2,q2⟩:=zq26
  exact store_ok I2 hN hi hx r2 (fun s3 I3=>⟨_,H2,I3,q2⟩) hf
 rcases l with ⟨hk,hm⟩ | ⟨hk,c,hc,hcell⟩
 ·exact wpAny_loadName_local I.ok.kind hk hn hm go
 ·rcases hk with hk | hk
  ·exact wpAny_loadName_cell I.ok.kind hk hc hcell go
  ·rcases hx with k | k
   ·have:X.env.scope.names.lookup x=some .free:=hk
    rw [k] at this;cases this
   ·have:X.env.scope.names.lookup x=some .free:=hk
    rw [k] at this;cases this
noncomputable def ipI (f:Int→Int→Int):TIp:=fun x y H Q=>∃ i j,x = .int i∧y = .int j∧Q (.int (f i j)) H
theorem ip_add:PIp X .Add (ipI fun i j=>i+j):=by
 intro pins s σ H x y v u Q I r1 r2 h
 obtain ⟨i,j,e1,e2,q⟩:=h
 subst e1;subst e2
 obtain ⟨t,rfl⟩:=r1
 obtain ⟨t',rfl⟩:=r2
 exact iadd_int ⟨.int _,H,I.tok _,⟨_,rfl⟩,q⟩
end
section
variable {X:Cx} {pos:Pos}
noncomputable def tWhile (c:TT)(tb:TS):TS:=fun D σ H=>∃ W:Nat→St→Hp→Prop,(∃ m,W m σ H)∧∀ m σ H,W m σ H →
 c σ H fun b H1=>if b=true then ∃ N:St→Hp→Prop,(∀ σ' H',N σ' H'→∃ m',m' < m∧W m' σ' H')∧tb { D with nx:=N,ct:=N,bk:=D.nx } σ H1 else D.nx σ H1
theorem ps_while {c:Expr}{body:List Stmt}{tc:TT}{tb:TS}(hp:PassesOwn (model X.prog X.w) X.A X.env X.xe)(hc:PT X c tc)(hb:PSs X body tb):PS X (.While c body [] pos) (tWhile tc tb):=by
 intro pins s σ H D I h
 obtain ⟨W,⟨m0,w0⟩,turn⟩:=h
 refine wpAny_While (codeAny_whileLoop (fun n s'=>∃ σ' H',Inv X pins σ' H' s'∧W n σ' H') ?_ m0 ⟨σ,H,I,w0⟩)
 rintro n s1 ⟨σ1,H1,I1,w1⟩
 refine wpAny_passesOwn hp (thn (hc pins s1 σ1 H1 _ I1 (turn n σ1 H1 w1)) fun b s2 zq33=>?_)
 obtain ⟨H2,I2,q2⟩:=zq33
 cases b with
 | true =>
  obtain ⟨N,hN,q2⟩:=q2
  rw [if_pos rfl]
  refine wpAny_passesOwn hp (thn (hb pins s2 σ1 H2 _ I2 q2) fun f s3 q3=>?_)
  cases f with
  | next =>
   obtain ⟨σ3,H3,I3,n3⟩:=q3
   obtain ⟨m',hm,w3⟩:=hN σ3 H3 n3
   exact ⟨m',hm,σ3,H3,I3,w3⟩
  | cont =>
   obtain ⟨σ3,H3,I3,n3⟩:=q3
   obtain ⟨m',hm,w3⟩:=hN σ3 H3 n3
   exact ⟨m',hm,σ3,H3,I3,w3⟩
  | brk=>exact q3.w
  | ret v=>exact q3.w
 | false =>
  rw [if_neg Bool.false_ne_true]
  exact wpAny_execs_nil ⟨σ1,H2,I2,q2⟩
end
structure It where
 go:Nat→Hp→Prop
 yld:Nat→Hp→V→Hp→Prop
 stop:Nat→Hp→Prop
noncomputable def FpOk (X:Cx)(pins:List (Addr × Obj))(H:Hp)(b:Addr):Prop :=
 H b=none∧b≠X.env.locals∧b∉X.fs∧(b∈X.ex ∨ X.s₀.heap.objs.size≤b)∧(∀ x c,X.env.cells.lookup x=some c→c≠b)∧∀ p∈X.pn++pins,p.1≠b
theorem Inv.fpOk {X:Cx}{pins:List (Addr × Obj)}{σ:St}{H H':Hp}{s:Shared}{b:Addr}(I:Inv X pins σ H s)(hb:s.heap.objs.size≤b)(hn:H' b=none):FpOk X pins H' b:=by
 refine ⟨hn,Nat.ne_of_gt (Nat.lt_of_lt_of_le I.lt hb),I.nofs hb,.inr (Nat.le_trans I.sz hb),fun x c e z=>?_,fun p hp z=>?_⟩
 ·obtain ⟨v,q⟩:=I.cell x c e
  exact absurd (Nat.lt_of_lt_of_le q.lt (by rw [z];exact hb)) (Nat.lt_irrefl _)
 ·exact absurd (Nat.lt_of_lt_of_le (Heap.lt_size (I.pin p hp).1) (by rw [z];exact hb)) (Nat.lt_irrefl _)
structure Turn (P:Program) (w:World) (K:PySem.W.Frag) (tg:Expr) (J:It) (fp:List Addr) (it:Addr) (tn:Nat→Heap→Prop):Prop where
 mem:it∈fp
 obj:∀ i h,tn i h→∀ b∈fp,∃ o,h.get? b=some o∧∀ v,o.data ≠ .cell v
 keep:∀ i h h',tn i h→(∀ b∈fp,∀ o,h.get? b=some o→h'.get? b=some o)→tn i h'
 item:∀ (X:Cx),X.prog=P→X.w=w→X.K=K→X.calm=true→∀ (i:Nat) (pins:List (Addr × Obj)) (s:Shared) (σ:St) (H:Hp) (E:Value→Shared→Prop),Inv X pins σ H s→(∀ b∈fp,FpOk X pins H b)→tn i s.heap→J.go i H →
  wpAny (model P w) X.A (pyNext (.ref it)) (fun r s1=>∃ u,r=some u ∧
   wpAny (model P w) X.A (letOwnedTupleGo tg (.ref it) u) (fun _ s2=>∃ x H',Inv X pins σ H' s2∧RelV x u∧J.yld i H x H'∧tn (i+1) s2.heap∧∀ b∈fp,H' b=none) E s1) E s
 done:∀ (X:Cx),X.prog=P→X.w=w→X.K=K→X.calm=true→∀ (i:Nat) (pins:List (Addr × Obj)) (s:Shared) (σ:St) (H:Hp) (E:Value→Shared→Prop),Inv X pins σ H s→(∀ b∈fp,FpOk X pins H b)→tn i s.heap→J.stop i H →
  wpAny (model P w) X.A (pyNext (.ref it)) (fun r s1=>r=none∧Inv X pins σ H s1) E s
 self:∀ (A:Around) (i:Nat) (s:Shared) (Q:Value→Shared→Prop) (E:Value→Shared→Prop),tn i s.heap→Q (.ref it) s→wpAny (model P w) A (pyIter (.ref it)) Q E s
noncomputable abbrev TI:=St→Hp→(It→Hp→Prop)→Prop
noncomputable def PIE (X:Cx)(pins:List (Addr × Obj))(σ:St)(tg:Expr)(R:It→Hp→Prop)(itv:Value)(s2:Shared):Prop :=
 ∃ (it:Addr) (fp:List Addr) (tn:Nat→Heap→Prop) (J:It) (H':Hp),itv = .ref it∧Inv X pins σ H' s2∧Turn X.prog X.w X.K tg J fp it tn∧tn 0 s2.heap∧(∀ b∈fp,FpOk X pins H' b)∧R J H'
noncomputable def PI (X:Cx)(tg iter:Expr)(wi:TI):Prop :=
 ∀ (pins:List (Addr × Obj)) (s:Shared) (σ:St) (H:Hp) (R:It→Hp→Prop),Inv X pins σ H s→wi σ H R →
  wpAny (model X.prog X.w) X.A (eval iter X.env) (fun v s1=>wpAny (model X.prog X.w) X.A (pyIter v) (PIE X pins σ tg R) X.xe s1) X.xe s
theorem go_of {M:Model}{A:Around}{E:Value→Shared→Prop}{s:Shared}{tg:Expr}{it:Addr}{u:Value}{o:Obj}{n:String}{vs:Array Value}{Q:Unit→Shared→Prop}(ho:s.heap.get? it=some o)(hc:o.cls = .type n)(hd:o.data = .fields vs)
  (hn:["enumerate","zip","dict_itemiterator","dict_reverseitemiterator","odict_iterator","itertools.zip_longest","itertools.pairwise"].contains n=false) (hQ:Q () s):wpAny M A (letOwnedTupleGo tg (.ref it) u) Q E s:=by
 unfold letOwnedTupleGo
 cases tg <;> first
  | exact wpAny_pure hQ
  | (cases u <;> first
    | exact wpAny_pure hQ
    | (
      refine wpAny_bind (wpAny_load ho ?_)
      rw [hc,hd]
      show wpAny M A (if (["enumerate","zip","dict_itemiterator","dict_reverseitemiterator","odict_iterator","itertools.zip_longest","itertools.pairwise"].contains n && vs[0]? == some (rawInt _))=true then _ else _) Q E s
      rw [if_neg (by intro h;rw [hn,Bool.false_and] at h;cases h)]
      exact wpAny_pure hQ))
noncomputable def Itl (K:PySem.W.Frag)(a:Addr):It :=
 ⟨fun i H=>∃ xs x,SqL K H a xs∧xs[i]? = some x,fun i H x H'=>H'=H∧∀ xs,SqL K H a xs→xs[i]? = some x,fun i H=>∃ xs,SqL K H a xs∧xs.length≤i⟩
noncomputable def Itt (K:PySem.W.Frag)(a:Addr):It :=
 ⟨fun i H=>∃ xs x,SqT K H a xs∧xs[i]? = some x,fun i H x H'=>H'=H∧∀ xs,SqT K H a xs→xs[i]? = some x,fun i H=>∃ xs,SqT K H a xs∧xs.length≤i⟩
noncomputable def Itr (lo:Int)(n:Nat):It:=⟨fun i _=>i < n,fun i H x H'=>H'=H∧x = .int (lo+i),fun i _=>n≤i⟩
theorem turn_list {P:Program}{w:World}{K:PySem.W.Frag}{tg:Expr}(a it:Addr):Turn P w K tg (Itl K a) [it] it (fun i h=>h.IsListIter it a i) where
 mem:=by simp
 obj:=fun i h st b hb=>by
  have e:b=it:=by simpa using hb
  subst e
  obtain ⟨o,e,c,d⟩:=st
  exact ⟨o,e,fun v z=>by rw [d] at z;cases z⟩
 keep:=fun i h h' st k=>st.at fun o e=>k it (by simp) o e
 item:=by
  intro X hP hw hK hc i pins s σ H E I hf st hg
  subst hP hw hK
  obtain ⟨xs,x,hq,hx⟩:=hg
  obtain ⟨its,rv,p,hz⟩:=I.list hq
  obtain ⟨u,hu,ru⟩:=rv.get hx
  obtain ⟨f0,f1,f2,f3,f4,f5⟩:=hf it (by simp)
  refine wpAny_pyNext_list_item st p.isList (x:=u) (by simpa using hu) fun h' st' sb=>?_
  have I1:Inv X pins σ H { s with heap:=h' }:=(I.turned (t':=s.toks) (fun b o hb e=>(sb.2 b hb).trans e) f0 f1 f3 f4 f5).up I.low
  obtain ⟨o,e,c,d⟩:=id st'
  exact ⟨u,rfl,go_of (s:={ s with heap:=h' }) e c d (by decide) ⟨x,H,I1,ru,⟨rfl,fun ys hy=>by rw [I.list_inj hy hq];exact hx⟩,st',fun b hb=>(hf b hb).1⟩⟩
 done:=by
  intro X hP hw hK hc i pins s σ H E I hf st hg
  subst hP hw hK
  obtain ⟨xs,hq,hx⟩:=hg
  obtain ⟨its,rv,p,hz⟩:=I.list hq
  obtain ⟨f0,f1,f2,f3,f4,f5⟩:=hf it (by simp)
  have hl:=rv.length
  exact wpAny_pyNext_list_end (I.ok.hd hc) st p.isList (by simp;omega) fun h' eb=>⟨rfl,(I.turned (t':=s.toks) (fun b o hb e=>eb b o hb e) f0 f1 f3 f4 f5).up I.low⟩
 self:=fun _ _ _ _ _ st h=>wpAny_pyIter_listiter st h
theorem turn_tuple {P:Program}{w:World}{K:PySem.W.Frag}{tg:Expr}(a it:Addr):Turn P w K tg (Itt K a) [it] it (fun i h=>h.IsTupleIter it a i) where
 mem:=by simp
 obj:=fun i h st b hb=>by
  have e:b=it:=by simpa using hb
  subst e
  obtain ⟨o,e,c,d⟩:=st
  exact ⟨o,e,fun v z=>by rw [d] at z;cases z⟩
 keep:=fun i h h' st k=>st.at fun o e=>k it (by simp) o e
 item:=by
  intro X hP hw hK hc i pins s σ H E I hf st hg
  subst hP hw hK
  obtain ⟨xs,x,hq,hx⟩:=hg
  obtain ⟨its,rv,p,hz⟩:=I.tuple hq
  obtain ⟨u,hu,ru⟩:=rv.get hx
  obtain ⟨f0,f1,f2,f3,f4,f5⟩:=hf it (by simp)
  refine wpAny_pyNext_tuple_item st (show s.heap.IsTuple a its.toArray from p) (x:=u) (by simpa using hu) fun h' st' sb=>?_
  have I1:Inv X pins σ H { s with heap:=h' }:=(I.turned (t':=s.toks) (fun b o hb e=>(sb.2 b hb).trans e) f0 f1 f3 f4 f5).up I.low
  obtain ⟨o,e,c,d⟩:=id st'
  exact ⟨u,rfl,go_of (s:={ s with heap:=h' }) e c d (by decide) ⟨x,H,I1,ru,⟨rfl,fun ys hy=>by rw [I.tuple_inj hy hq];exact hx⟩,st',fun b hb=>(hf b hb).1⟩⟩
 done:=by
  intro X hP hw hK hc i pins s σ H E I hf st hg
  subst hP hw hK
  obtain ⟨xs,hq,hx⟩:=hg
  obtain ⟨its,rv,p,hz⟩:=I.tuple hq
  obtain ⟨f0,f1,f2,f3,f4,f5⟩:=hf it (by simp)
  have hl:=rv.length
  exact wpAny_pyNext_tuple_end (I.ok.hd hc) st (show s.heap.IsTuple a its.toArray from p) (by simp;omega) fun h' eb=>⟨rfl,(I.turned (t':=s.toks) (fun b o hb e=>eb b o hb e) f0 f1 f3 f4 f5).up I.low⟩
 self:=fun _ _ _ _ _ st h=>wpAny_pyIter_tupleiter st h
theorem turn_range {P:Program}{w:World}{K:PySem.W.Frag}{tg:Expr}(it:Addr)(lo:Int)(n:Nat):Turn P w K tg (Itr lo n) [it] it (fun i h=>IsRangeIter h it (lo+(i:Nat)*1) ((n:Int) - (i:Nat)) 1) where
 mem:=by simp
 obj:=fun i h st b hb=>by
  have e:b=it:=by simpa using hb
  subst e
  exact ⟨_,st,fun v z=>by
   have z':Data.fields _=Data.cell v:=z
   cases z'⟩
 keep:=fun i h h' st k=>k it (by simp) _ st
 item:=by
  intro X hP hw hK hc i pins s σ H E I hf st hg
  subst hP hw hK
  obtain ⟨f0,f1,f2,f3,f4,f5⟩:=hf it (by simp)
  have W:=Walks.range (prog:=X.prog) (w:=X.w) (I.ok.hd hc) it lo 1 n
  refine wt I.low (W.item i s _ _ hg st fun v h' tk hv st' kk hl=>?_)
  obtain ⟨t,rfl⟩:=hv
  have I1:Inv X pins σ H { s with heap:=h',toks:=tk }:=(I.turned (fun b o hb e=>kk b o (by simpa using hb) e) f0 f1 f3 f4 f5).up hl
  refine ⟨_,rfl,go_of (s:={ s with heap:=h',toks:=tk }) (n:="range_iterator") st' rfl rfl (by decide) ⟨.int (lo+i),H,I1,⟨t,?_⟩,⟨rfl,rfl⟩,st',fun b hb=>(hf b hb).1⟩⟩
  rw [Int.mul_one]
 done:=by
  intro X hP hw hK hc i pins s σ H E I hf st hg
  subst hP hw hK
  obtain ⟨f0,f1,f2,f3,f4,f5⟩:=hf it (by simp)
  exact wpAny_pyNext_range_end (I.ok.hd hc) st (by have:n≤i:=hg;omega) fun h' eb=>⟨rfl,(I.turned (t':=s.toks) (fun b o hb e=>eb b o hb e) f0 f1 f3 f4 f5).up I.low⟩
 self:=fun _ _ _ _ _ st h=>wpAny_pyIter_rangeiter st h
end L2
namespace L2
open PySem PySem.Spec PyProof.Rows
section
variable {X:Cx} {tg:Expr}
noncomputable def iList (K:PySem.W.Frag)(tl:TE):TI:=fun σ H R=>tl σ H fun x H1=>∃ a,x = .ref a∧(∃ xs,SqL K H1 a xs)∧R (Itl K a) H1
noncomputable def iTup (K:PySem.W.Frag)(tl:TE):TI:=fun σ H R=>tl σ H fun x H1=>∃ a,x = .ref a∧(∃ xs,SqT K H1 a xs)∧R (Itt K a) H1
theorem pi_list {l:Expr}{tl:TE}(hl:PE X l tl):PI X tg l (iList X.K tl):=by
 intro pins s σ H R I h
 refine thn (hl pins s σ H _ I h) fun v s1 zq34=>?_
 obtain ⟨x,H1,I1,r1,q1⟩:=zq34
 obtain ⟨a,e,⟨xs,hq⟩,q⟩:=q1
 subst e
 cases r1
 obtain ⟨its,rv,p,hz⟩:=I1.list hq
 refine wpAny_pyIter_list p.isList ?_
 refine ⟨s1.heap.objs.size,[s1.heap.objs.size],_,_,H1,rfl,(I1.kept (t':=s1.toks) fun b o e=>Heap.get?_push_of_some _ e).up I1.low,turn_list a _,⟨_,Heap.get?_push_size _ rfl,rfl,rfl⟩,fun b hb=>?_,q⟩
 have e:b=s1.heap.objs.size:=by simpa using hb
 subst e
 exact I1.fpOk (Nat.le_refl _) (I1.hok.fresh (Nat.le_refl _))
theorem pi_tup {l:Expr}{tl:TE}(hl:PE X l tl):PI X tg l (iTup X.K tl):=by
 intro pins s σ H R I h
 refine thn (hl pins s σ H _ I h) fun v s1 zq35=>?_
 obtain ⟨x,H1,I1,r1,q1⟩:=zq35
 obtain ⟨a,e,⟨xs,hq⟩,q⟩:=q1
 subst e
 cases r1
 obtain ⟨its,rv,p,hz⟩:=I1.tuple hq
 refine wpAny_pyIter_tuple (show s1.heap.IsTuple a its.toArray from p) ?_
 refine ⟨s1.heap.objs.size,[s1.heap.objs.size],_,_,H1,rfl,(I1.kept (t':=s1.toks) fun b o e=>Heap.get?_push_of_some _ e).up I1.low,turn_tuple a _,⟨_,Heap.get?_push_size _ rfl,rfl,rfl⟩,fun b hb=>?_,q⟩
 have e:b=s1.heap.objs.size:=by simpa using hb
 subst e
 exact I1.fpOk (Nat.le_refl _) (I1.hok.fresh (Nat.le_refl _))
theorem range_it {pins:List (Addr × Obj)}{σ:St}{H:Hp}{s:Shared}{R:It→Hp→Prop}{E:Value→Shared→Prop}{lo hi:Int}{t u v:Tok}{tk:Nat}(I:Inv X pins σ H s)(h1:-(2 ^ 62)≤lo)(h2:lo < 2 ^ 62)(h3:-(2 ^ 62)≤hi)(h4:hi < 2 ^ 62)
  (q:R (Itr lo (hi - lo).toNat) H) (hk:X.lo≤tk):wpAny (model X.prog X.w) X.A (pyIter (.ref s.heap.objs.size)) (PIE X pins σ tg R) E { s with heap:=s.heap.push { cls:=.type "range",data:=.fields #[.int lo t,.int hi u,.int 1 v] },toks:=tk }:=by
 refine wpAny_pyIter_range (IsRange.new ..) (small_one h1 h2 h3 h4) ?_
 have I1:Inv X pins σ H { s with heap:=s.heap.push { cls:=.type "range",data:=.fields #[.int lo t,.int hi u,.int 1 v] },toks:=tk }:=(I.kept fun b o e=>Heap.get?_push_of_some _ e).up hk
 refine ⟨(s.heap.push { cls:=.type "range",data:=.fields #[.int lo t,.int hi u,.int 1 v] }).objs.size,[(s.heap.push { cls:=.type "range",data:=.fields #[.int lo t,.int hi u,.int 1 v] }).objs.size],_,_,H,rfl,
  (I1.kept (t':=tk) fun b o e=>Heap.get?_push_of_some _ e).up hk,turn_range _ lo (hi - lo).toNat,?_,fun b hb=>?_,q⟩
 ·have e1:lo+((0:Nat):Int)*1=lo:=by simp
  have e2:(((hi - lo).toNat:Nat):Int) - ((0:Nat):Int)=Builtin.Range.rangeSize lo hi 1:=by rw [rangeSize_one];split <;> omega
  show IsRangeIter _ _ (lo+((0:Nat):Int)*1) ((((hi - lo).toNat:Nat):Int) - ((0:Nat):Int)) 1
  rw [e1,e2]
  exact Heap.get?_push_size _ rfl
 ·have e:b=(s.heap.push { cls:=.type "range",data:=.fields #[.int lo t,.int hi u,.int 1 v] }).objs.size:=by simpa using hb
  subst e
  exact I1.fpOk (Nat.le_refl _) (I1.hok.fresh (Nat.le_refl _))
noncomputable def iRng1 (ta:TA):TI:=fun σ H R=>ta σ H fun vs H1=>∃ j:Int,vs=[.int j]∧-(2 ^ 62)≤j∧j < 2 ^ 62∧R (Itr 0 j.toNat) H1
noncomputable def iRng2 (ta:TA):TI:=fun σ H R=>ta σ H fun vs H1=>∃ i j:Int,vs=[.int i,.int j]∧(-(2 ^ 62)≤i∧i < 2 ^ 62∧-(2 ^ 62)≤j∧j < 2 ^ 62)∧R (Itr i (j - i).toNat) H1
theorem pi_range1 {a:Expr}{ta:TA}{p pos:Pos}(hg:Gl X "range")(hm:X.mg "range" = none)(ha:PA X [a] ta)(hs:starEach [a] X.env=[(false,eval a X.env)]:=by rfl):PI X tg (.Call (.Name "range" p) [a] [] pos) (iRng1 ta):=by
 intro pins s σ H R I h
 refine Call_ (ld_blt I hg hm boot_range (PyProof.Rows.callWith_type1 (thn (ha pos pins s σ H _ I h) fun us s1 zq36=>?_) hs rfl))
 obtain ⟨vs,H1,I1,r1,q1⟩:=zq36
 obtain ⟨j,e,q1,q2,q⟩:=q1
 subst e
 cases r1 with
 | cons r rr =>
  cases rr
  obtain ⟨t,rfl⟩:=r
  exact wt I1.low (call_range_1 fun hl=>range_it I1 (by omega) (by omega) q1 q2 (by simpa using q) hl)
theorem pi_range2 {a b:Expr}{ta:TA}{p pos:Pos}(hg:Gl X "range")(hm:X.mg "range" = none)(ha:PA X [a,b] ta)(hs:starEach [a,b] X.env=[(false,eval a X.env),(false,eval b X.env)]:=by rfl)(hs2:starEach [b] X.env=[(false,eval b X.env)]:=by rfl) :
  PI X tg (.Call (.Name "range" p) [a,b] [] pos) (iRng2 ta):=by
 intro pins s σ H R I h
 refine Call_ (ld_blt I hg hm boot_range (PyProof.Rows.callWith_type1 (thn (ha pos pins s σ H _ I h) fun us s1 zq37=>?_) (by rw [hs,hs2]) (by rw [hs2];rfl)))
 obtain ⟨vs,H1,I1,r1,q1⟩:=zq37
 obtain ⟨i,j,e,⟨q1,q2,q3,q4⟩,q⟩:=q1
 subst e
 cases r1 with
 | cons r rr =>
  cases rr with
  | cons r' rr =>
   cases rr
   obtain ⟨t,rfl⟩:=r
   obtain ⟨t',rfl⟩:=r'
   exact wt I1.low (call_range_2 fun hl=>range_it I1 q1 q2 q3 q4 q hl)
noncomputable def tFor (wi:TI)(g:TG)(tb:TS):TS:=fun D σ H=>wi σ H fun J H1=>∃ W:Nat→Nat→St→Hp→Prop,(∃ m,W 0 m σ H1)∧∀ i m σ H,W i m σ H →
 (J.stop i H∧D.nx σ H) ∨ (J.go i H∧∃ N:St→Hp→Prop,(∀ σ' H',N σ' H'→∃ m',m' < m∧W (i+1) m' σ' H')∧∀ x H',J.yld i H x H'→g x σ H' fun σ2 H2=>tb { D with nx:=N,ct:=N,bk:=D.nx } σ2 H2)
noncomputable def pinsAt (fp:List Addr)(h:Heap):List (Addr × Obj):=fp.filterMap fun b=>(h.get? b).map fun o=>(b,o)
theorem mem_pinsAt {fp:List Addr}{h:Heap}{b:Addr}{o:Obj}(hb:b∈fp)(e:h.get? b=some o):(b,o)∈pinsAt fp h:=List.mem_filterMap.mpr ⟨b,hb,by rw [e]; rfl⟩
theorem of_pinsAt {fp:List Addr}{h:Heap}{p:Addr × Obj}(hp:p∈pinsAt fp h):p.1∈fp∧h.get? p.1=some p.2:=by
 obtain ⟨b,hb,e⟩:=List.mem_filterMap.mp hp
 cases q:h.get? b with
 | none=>rw [q] at e;cases e
 | some o =>
  rw [q] at e
  have e':(b,o)=p:=Option.some.inj e
  subst e'
  exact ⟨hb,q⟩
theorem Inv.pinned {pins:List (Addr × Obj)}{σ:St}{H:Hp}{s:Shared}{fp:List Addr}(I:Inv X pins σ H s)(hf:∀ b∈fp,FpOk X pins H b)(ho:∀ b∈fp,∃ o,s.heap.get? b=some o∧∀ v,o.data ≠ .cell v):Inv X (pins++pinsAt fp s.heap) σ H s :=
 I.pins_of fun p hp=>(List.mem_append.mp hp).elim (fun z=>I.pin p (List.mem_append_right _ z)) fun z=>by
  obtain ⟨hb,e⟩:=of_pinsAt z
  obtain ⟨f0,f1,f2,_⟩:=hf p.1 hb
  obtain ⟨o,e',d⟩:=ho p.1 hb
  rw [e] at e';cases e'
  exact ⟨e,f0,f1,f2,d⟩
theorem Inv.unpinned {pins pl:List (Addr × Obj)}{σ:St}{H:Hp}{s:Shared}(I:Inv X (pins++pl) σ H s):Inv X pins σ H s:=I.pins_of fun p hp=>I.pin p (List.mem_append_right _ (List.mem_append_left _ hp))
theorem ps_for {iter:Expr}{body:List Stmt}{wi:TI}{g:TG}{tb:TS}{pos:Pos}(hp:PassesOwn (model X.prog X.w) X.A X.env X.xe)(hc:X.calm=true)(hi:PI X tg iter wi)(hg:PG X tg g)(hb:PSs X body tb)
  (hs:∀ x,foldedSetIterable iter X.env x=pure x:=by intro _;rfl):PS X (.For tg iter body [] pos) (tFor wi g tb):=by
 intro pins s σ H D I h
 refine wpAny_For (thn (hi pins s σ H _ I h) fun v s1 h1=>thn h1 fun itv s2 h2=>?_) hs
 obtain ⟨it,fp,tn,J,H2,e,I2,T,st2,f2,W,⟨m0,w0⟩,turn⟩:=h2
 subst e
 -- what stays true of the iterator's objects through the loop
 have stat:∀ {H':Hp},(∀ b∈fp,H' b=none)→∀ b∈fp,FpOk X pins H' b:=fun hn b hb=>⟨hn b hb,(f2 b hb).2⟩
 refine codeAny_forLoop_any (fun n s'=>∃ i σ' H',Inv X pins σ' H' s'∧tn i s'.heap∧(∀ b∈fp,H' b=none)∧W i n σ' H') ?_ m0 ⟨0,σ,H2,I2,st2,fun b hb=>(f2 b hb).1,w0⟩
 rintro n s3 ⟨i,σ3,H3,I3,st3,fr3,w3⟩
 rcases turn i n σ3 H3 w3 with ⟨stop,qn⟩ | ⟨go,N,hN,step⟩
 ·refine wpAny_passesOwn hp (thn (T.done X rfl rfl rfl hc i pins s3 σ3 H3 X.xe I3 (stat fr3) st3 stop) fun r s4 zq38=>?_)
  obtain ⟨hr,I4⟩:=zq38
  subst hr
  exact wpAny_execs_nil ⟨σ3,H3,I4,qn⟩
 ·refine wpAny_passesOwn hp (thn (T.item X rfl rfl rfl hc i pins s3 σ3 H3 X.xe I3 (stat fr3) st3 go) fun r s4 zq39=>?_)
  obtain ⟨u,hr,h4⟩:=zq39
  subst hr
  refine wpAny_passesOwn hp (thn h4 fun _ s5 zq40=>?_)
  obtain ⟨x,H5,I5,r5,y5,st5,fr5⟩:=zq40
  have I5':=I5.pinned (stat fr5) (T.obj _ _ st5)
  refine wpAny_passesOwn hp (thn (hg _ s5 σ3 H5 x u _ I5' r5 (step x H5 y5)) fun _ s6 zq41=>?_)
  obtain ⟨σ6,H6,I6,q6⟩:=zq41
  refine wpAny_passesOwn hp (thn (hb _ s6 σ6 H6 _ I6 q6) fun f s7 q7=>?_)
  have again:∀ {σ7:St} {H7:Hp},Inv X (pins++pinsAt fp s5.heap) σ7 H7 s7→N σ7 H7→∃ m,m < n∧∃ i σ' H',Inv X pins σ' H' s7∧tn i s7.heap∧(∀ b∈fp,H' b=none)∧W i m σ' H':=fun {σ7 H7} I7 n7=>by
   obtain ⟨m',hm,w7⟩:=hN σ7 H7 n7
   refine ⟨m',hm,i+1,σ7,H7,I7.unpinned,T.keep _ _ _ st5 fun b hb o e=>(I7.pin (b,o) (List.mem_append_right _ (List.mem_append_right _ (mem_pinsAt hb e)))).1,fun b hb=>?_,w7⟩
   obtain ⟨o,e,d⟩:=T.obj _ _ st5 b hb
   exact (I7.pin (b,o) (List.mem_append_right _ (List.mem_append_right _ (mem_pinsAt hb e)))).2.1
  cases f with
  | next=>obtain ⟨σ7,H7,I7,n7⟩:=q7;exact again I7 n7
  | cont=>obtain ⟨σ7,H7,I7,n7⟩:=q7;exact again I7 n7
  | brk=>obtain ⟨σ7,H7,I7,q7⟩:=q7;exact ⟨σ7,H7,I7.unpinned,q7⟩
  | ret v=>obtain ⟨x7,σ7,H7,I7,r7,q7⟩:=q7;exact ⟨x7,σ7,H7,I7.unpinned,r7,q7⟩
end
theorem for_list {K:PySem.W.Frag}{a:Addr}{xs:List V}{g:TG}{tb:TS}{D:Ends}{σ:St}{H:Hp}(Pv:Nat→St→Hp→Prop)(h0:Pv 0 σ H)(hl:∀ i σ H,i≤xs.length→Pv i σ H→SqL K H a xs)
  (hs:∀ i x σ H,xs[i]? = some x→Pv i σ H→g x σ H fun σ2 H2=>tb { D with nx:=Pv (i+1),ct:=Pv (i+1),bk:=D.nx } σ2 H2) (hd:∀ σ H,Pv xs.length σ H→D.nx σ H) :
  ∃ W:Nat→Nat→St→Hp→Prop,(∃ m,W 0 m σ H)∧∀ i m σ H,W i m σ H →
   ((Itl K a).stop i H∧D.nx σ H) ∨ ((Itl K a).go i H∧∃ N:St→Hp→Prop,(∀ σ' H',N σ' H'→∃ m',m' < m∧W (i+1) m' σ' H')∧∀ x H',(Itl K a).yld i H x H'→g x σ H' fun σ2 H2=>tb { D with nx:=N,ct:=N,bk:=D.nx } σ2 H2):=by
 refine ⟨fun i m σ H=>m=xs.length - i∧i≤xs.length∧Pv i σ H,⟨xs.length,by simp,Nat.zero_le _,h0⟩,?_⟩
 rintro i m σ H ⟨rfl,hi,p⟩
 have q:=hl i σ H hi p
 by_cases hlt:i < xs.length
 ·refine .inr ⟨⟨xs,xs[i],q,by simp [hlt]⟩,Pv (i+1),fun σ' H' p'=>⟨xs.length - (i+1),by omega,rfl,hlt,p'⟩,fun x H' y=>?_⟩
  obtain ⟨e,y⟩:=y
  subst e
  exact hs i x σ _ (y xs q) p
 ·have e:i=xs.length:=by omega
  subst e
  exact .inl ⟨⟨xs,q,Nat.le_refl _⟩,hd σ H p⟩
theorem for_range {lo:Int}{n:Nat}{g:TG}{tb:TS}{D:Ends}{σ:St}{H:Hp}(Pv:Nat→St→Hp→Prop)(h0:Pv 0 σ H)
  (hs:∀ i σ H,i < n→Pv i σ H→g (.int (lo+i)) σ H fun σ2 H2=>tb { D with nx:=Pv (i+1),ct:=Pv (i+1),bk:=D.nx } σ2 H2) (hd:∀ σ H,Pv n σ H→D.nx σ H) :
  ∃ W:Nat→Nat→St→Hp→Prop,(∃ m,W 0 m σ H)∧∀ i m σ H,W i m σ H →
   ((Itr lo n).stop i H∧D.nx σ H) ∨ ((Itr lo n).go i H∧∃ N:St→Hp→Prop,(∀ σ' H',N σ' H'→∃ m',m' < m∧W (i+1) m' σ' H')∧∀ x H',(Itr lo n).yld i H x H'→g x σ H' fun σ2 H2=>tb { D with nx:=N,ct:=N,bk:=D.nx } σ2 H2):=by
 refine ⟨fun i m σ H=>m=n - i∧i≤n∧Pv i σ H,⟨n,by simp,Nat.zero_le _,h0⟩,?_⟩
 rintro i m σ H ⟨rfl,hi,p⟩
 by_cases hlt:i < n
 ·refine .inr ⟨hlt,Pv (i+1),fun σ' H' p'=>⟨n - (i+1),by omega,rfl,hlt,p'⟩,fun x H' y=>?_⟩
  obtain ⟨e,y⟩:=y
  subst e y
  exact hs i σ _ hlt p
 ·have e:i=n:=by omega
  subst e
  exact .inl ⟨Nat.le_refl _,hd σ H p⟩
end L2
namespace L2
open PySem PySem.Spec PyProof.Rows
noncomputable abbrev R2:=V→V→Hp→VK→Prop
noncomputable def OpR (X:Cx)(f:Value→Value→Sem Value)(r:R2):Prop :=
 ∀ (pins:List (Addr × Obj)) (s:Shared) (σ:St) (H:Hp) (x y:V) (v u:Value) (Q:VK),Inv X pins σ H s→RelV x v→RelV y u→r x y H Q →
  wpAny (model X.prog X.w) X.A (f v u) (EP X pins σ Q) X.xe s
noncomputable def UnR (X:Cx)(f:Value→Sem Value)(r:V→Hp→VK→Prop):Prop :=
 ∀ (pins:List (Addr × Obj)) (s:Shared) (σ:St) (H:Hp) (x:V) (v:Value) (Q:VK),Inv X pins σ H s→RelV x v→r x H Q →
  wpAny (model X.prog X.w) X.A (f v) (EP X pins σ Q) X.xe s
noncomputable def CallR (X:Cx)(f:Value)(r:List V→Hp→VK→Prop):Prop :=
 ∀ (pins:List (Addr × Obj)) (s:Shared) (σ:St) (H:Hp) (xs:List V) (us:List Value) (Q:VK),Inv X pins σ H s→Vals xs us→r xs H Q →
  wpAny (model X.prog X.w) X.A (call f us) (EP X pins σ Q) X.xe s
noncomputable def TruR (X:Cx)(r:V→Hp→(Bool→Hp→Prop)→Prop):Prop :=
 ∀ (pins:List (Addr × Obj)) (s:Shared) (σ:St) (H:Hp) (x:V) (v:Value) (Q:Bool→Hp→Prop),Inv X pins σ H s→RelV x v→r x H Q →
  wpAny (model X.prog X.w) X.A (truthy v) (TP X pins σ Q) X.xe s
noncomputable def tOp_k1 (r:R2)(Q:VK)(x:V):V→Hp→Prop:=fun y H2=>r x y H2 Q
noncomputable def tOp_k2 (r:R2)(tb:TE)(σ:St)(Q:VK):V→Hp→Prop:=fun x H1=>tb σ H1 (tOp_k1 r Q x)
noncomputable def tOp (r:R2)(ta tb:TE):TE:=fun σ H Q=>ta σ H (tOp_k2 r tb σ Q)
noncomputable def tUn_k1 (r:V→Hp→VK→Prop)(Q:VK):V→Hp→Prop:=fun x H1=>r x H1 Q
noncomputable def tUn (r:V→Hp→VK→Prop)(ta:TE):TE:=fun σ H Q=>ta σ H (tUn_k1 r Q)
inductive rI (C:Int→Int→Prop)(g:Int→Int→V)(x:V)(y:V)(H:Hp)(Q:VK):Prop
 | mk:∀ i j,(x = .int i)→(y = .int j)→(C i j)→(Q (g i j) H)→rI C g x y H Q
inductive rI0 (g:Int→Int→V)(x:V)(y:V)(H:Hp)(Q:VK):Prop
 | mk:∀ i j,(x = .int i)→(y = .int j)→(Q (g i j) H)→rI0 g x y H Q
inductive rU (g:Int→V)(x:V)(H:Hp)(Q:VK):Prop
 | mk:∀ i,(x = .int i)→(Q (g i) H)→rU g x H Q
section
variable {X:Cx} {a b c:Expr} {ta tb tc:TE} {pos:Pos}
theorem binT (ha:PE X a ta)(hb:PE X b tb){pins:List (Addr × Obj)}{s:Shared}{σ:St}{H:Hp}{R:V→V→Hp→Prop}(I:Inv X pins σ H s)
  (h:ta σ H fun x H1=>tb σ H1 fun y H2=>R x y H2) {Q:Value→Shared→Prop} {f:Value→Value→Sem Value}
  (hf:∀ v u s2 x y H2,Inv X pins σ H2 s2→RelV x v→RelV y u→R x y H2→wpAny (model X.prog X.w) X.A (f v u) Q X.xe s2) :
  wpAny (model X.prog X.w) X.A (eval a X.env) (fun v s₁=>wpAny (model X.prog X.w) X.A (eval b X.env) (fun u s₂=>wpAny (model X.prog X.w) X.A (f v u) Q X.xe s₂) X.xe s₁) X.xe s:=by
 refine thn (ha pins s σ H _ I h) fun v s1 zq42=>?_
 obtain ⟨x,H1,I1,r1,q1⟩:=zq42
 refine thn (hb pins s1 σ H1 _ I1 q1) fun u s2 zq43=>?_
 obtain ⟨y,H2,I2,r2,q2⟩:=zq43
 exact hf v u s2 x y H2 I2 r1 r2 q2
theorem pe_op {op:Operator}{r:R2}(ho:OpR X (binaryOp op) r)(ha:PE X a ta)(hb:PE X b tb):PE X (.BinOp a op b pos) (tOp r ta tb):=by
 intro pins s σ H Q I h
 exact wpAny_BinOp (binT ha hb I h fun v u s2 x y H2 I2 rx ry q=>ho pins s2 σ H2 x y v u Q I2 rx ry q)
theorem pe_un {op:UnaryOp}{r:V→Hp→VK→Prop}(ho:UnR X (unaryOp op) r)(ha:PE X a ta):PE X (.UnaryOp op a pos) (tUn r ta):=by
 intro pins s σ H Q I h
 exact UnaryOp_ (thn (ha pins s σ H _ I h) fun v s1 zq44=>(by obtain ⟨x,H1,I1,r1,q1⟩:=zq44;exact ho pins s1 σ H1 x v Q I1 r1 q1))
theorem opI {f:Value→Value→Sem Value}{C:Int→Int→Prop}{g:Int→Int→Int}
  (rule:∀ (i j:Int) (t u:Tok) (s:Shared) (Q:Value→Shared→Prop) (E:Value→Shared→Prop),C i j→Q (.int (g i j) s.toks) { s with toks:=s.toks+1 }→wpAny (model X.prog X.w) X.A (f (.int i t) (.int j u)) Q E s) :
  OpR X f (rI C fun i j=>.int (g i j)):=by
 intro pins s σ H x y v u Q I rx ry h
 obtain ⟨i,j,rfl,rfl,hc,q⟩:=h
 obtain ⟨t,rfl⟩:=rx
 obtain ⟨t',rfl⟩:=ry
 exact rule i j t t' s _ _ hc ⟨.int (g i j),H,I.tok _,⟨_,rfl⟩,q⟩
theorem opI0 {f:Value→Value→Sem Value}{g:Int→Int→Int}
  (rule:∀ (i j:Int) (t u:Tok) (s:Shared) (Q:Value→Shared→Prop) (E:Value→Shared→Prop),Q (.int (g i j) s.toks) { s with toks:=s.toks+1 }→wpAny (model X.prog X.w) X.A (f (.int i t) (.int j u)) Q E s) :
  OpR X f (rI0 fun i j=>.int (g i j)):=by
 intro pins s σ H x y v u Q I rx ry h
 obtain ⟨i,j,rfl,rfl,q⟩:=h
 obtain ⟨t,rfl⟩:=rx
 obtain ⟨t',rfl⟩:=ry
 exact rule i j t t' s _ _ ⟨.int (g i j),H,I.tok _,⟨_,rfl⟩,q⟩
theorem opB0 {f:Value→Value→Sem Value}{g:Int→Int→Bool}
  (rule:∀ (i j:Int) (t u:Tok) (s:Shared) (Q:Value→Shared→Prop) (E:Value→Shared→Prop),Q (.bool (g i j)) s→wpAny (model X.prog X.w) X.A (f (.int i t) (.int j u)) Q E s) :
  OpR X f (rI0 fun i j=>.bl (g i j)):=by
 intro pins s σ H x y v u Q I rx ry h
 obtain ⟨i,j,rfl,rfl,q⟩:=h
 obtain ⟨t,rfl⟩:=rx
 obtain ⟨t',rfl⟩:=ry
 exact rule i j t t' s _ _ ⟨.bl (g i j),H,I,rfl,q⟩
noncomputable def CDiv (i j:Int):Prop:=0 < j∧j < 1073741824
noncomputable def CPow (i j:Int):Prop:=0≤j∧j≤1000000∧i.natAbs < 2 ^ 64
noncomputable def CMul (i j:Int):Prop:=(-(2 ^ 64) < i∧i < 2 ^ 64) ∨ (-(2 ^ 64) < j∧j < 2 ^ 64)
theorem CMul.ok {i j:Int}(h:CMul i j):IntMulOk i j:=by
 rcases h with ⟨h1,h2⟩ | ⟨h1,h2⟩
 ·exact .of_left (intBits_le_64 h1 h2)
 ·exact .of_right (intBits_le_64 h1 h2)
theorem op_add:OpR X (binaryOp .Add) (rI0 fun i j=>.int (i+j)):=opI0 fun _ _ _ _ _ _ _ q=>add_int q
theorem op_sub:OpR X (binaryOp .Sub) (rI0 fun i j=>.int (i - j)):=opI0 fun _ _ _ _ _ _ _ q=>sub_int q
theorem op_mul:OpR X (binaryOp .Mult) (rI CMul fun i j=>.int (i*j)):=opI fun _ _ _ _ _ _ _ hc q=>mul_int q hc.ok
theorem op_fdiv:OpR X (binaryOp .FloorDiv) (rI CDiv fun i j=>.int (i / j)):=opI fun i j _ _ _ _ _ hc q=>by
 have h1:(0:Int) < j:=hc.1
 have h2:j < 1073741824:=hc.2
 exact floordiv_int (by omega) (by rw [Int.fdiv_eq_ediv_of_nonneg i (by omega)];exact q) (.inl (PyProof.noPylong_small (by omega)))
theorem op_mod:OpR X (binaryOp .Mod) (rI (fun _ j=>0 < j) fun i j=>.int (i % j)):=opI fun i j _ _ _ _ _ hc q=>by
 have h1:(0:Int) < j:=hc
 exact mod_int' (by omega) (by rw [Int.fmod_eq_emod_of_nonneg i (by omega)];exact q)
theorem op_pow:OpR X (binaryOp .Pow) (rI CPow fun i j=>.int (i ^ j.toNat)):=opI fun _ _ _ _ _ _ _ hc q=>pow_int_small hc.1 hc.2.1 hc.2.2 q
theorem unI {f:Value→Sem Value}{g:Int→Int}
  (rule:∀ (i:Int) (t:Tok) (s:Shared) (Q:Value→Shared→Prop) (E:Value→Shared→Prop),Q (.int (g i) s.toks) { s with toks:=s.toks+1 }→wpAny (model X.prog X.w) X.A (f (.int i t)) Q E s) :
  UnR X f (rU fun i=>.int (g i)):=by
 intro pins s σ H x v Q I rx h
 obtain ⟨i,rfl,q⟩:=h
 obtain ⟨t,rfl⟩:=rx
 exact rule i t s _ _ ⟨.int (g i),H,I.tok _,⟨_,rfl⟩,q⟩
theorem un_neg:UnR X (unaryOp .USub) (rU fun i=>.int (-i)):=unI fun _ _ _ _ _ q=>neg_int q
end
noncomputable def scal:V→V→Bool
 | .non,.non=>true | .non,.int _=>true | .int _,.non=>true | .non,.bl _=>true | .bl _,.non=>true | .non,.str _=>true | .str _,.non=>true
 | .int _,.int _=>true | .bl _,.bl _=>true | .str _,.str _=>true | .byt _,.byt _=>true
 | .int _,.str _=>true | .str _,.int _=>true | .bl _,.str _=>true | .str _,.bl _=>true
 | _,_=>false
noncomputable def rEq:R2:=fun x y H Q=>scal x y=true∧Q (.bl (decide (x=y))) H
noncomputable def rNe:R2:=fun x y H Q=>scal x y=true∧Q (.bl (!decide (x=y))) H
theorem dec_int {i j:Int}:decide (V.int i=V.int j)=(i == j):=by
 rw [Bool.eq_iff_iff]
 simp
theorem dec_bl {i j:Bool}:decide (V.bl i=V.bl j)=(i == j):=by
 rw [Bool.eq_iff_iff]
 simp
theorem dec_str {i j:Str}:decide (V.str i=V.str j)=(i == j):=by
 rw [Bool.eq_iff_iff]
 simp
theorem dec_byt {i j:Array UInt8}:decide (V.byt i=V.byt j)=(i.toList == j.toList):=by
 rw [Bool.eq_iff_iff]
 cases i
 cases j
 simp
section
variable {X:Cx} {a b c:Expr} {ta tb tc:TE} {pos:Pos}
theorem fin_bl {pins:List (Addr × Obj)}{σ:St}{H:Hp}{s:Shared}{Q:VK}{k k':Bool}(I:Inv X pins σ H s)(q:Q (.bl k) H)(e:k=k'):EP X pins σ Q (.bool k') s:=by
 subst e
 exact ⟨.bl k,H,I,rfl,q⟩
theorem op_eq:OpR X (compareOp .Eq) rEq:=by
 intro pins s σ H x y v u Q I rx ry h
 obtain ⟨hs,q⟩:=h
 cases x with
 | non =>
  cases rx
  cases y with
  | non=>cases ry;exact PySem.EqNone.eq_none_none (fin_bl I q (by simp))
  | bl j=>cases ry;exact PySem.EqNone.eq_none_bool (fin_bl I q (by simp))
  | int j=>obtain ⟨t',rfl⟩:=ry;exact PySem.EqNone.eq_none_int (fin_bl I q (by simp))
  | str j=>obtain ⟨t',rfl⟩:=ry;exact PySem.EqNone.eq_none_str (fin_bl I q (by simp))
  | _=>exact absurd (show false=true from hs) Bool.false_ne_true
 | bl i =>
  cases rx
  cases y with
  | non=>cases ry;exact PySem.EqNone.eq_bool_none (fin_bl I q (by simp))
  | bl j=>cases ry;exact eq_bool (fin_bl I q dec_bl)
  | str j=>obtain ⟨t',rfl⟩:=ry;exact PySem.EqMixed.eq_bool_str (fin_bl I q (by simp))
  | _=>exact absurd (show false=true from hs) Bool.false_ne_true
 | int i =>
  obtain ⟨t,rfl⟩:=rx
  cases y with
  | non=>cases ry;exact PySem.EqNone.eq_int_none (fin_bl I q (by simp))
  | int j=>obtain ⟨t',rfl⟩:=ry;exact eq_int (fin_bl I q dec_int)
  | str j=>obtain ⟨t',rfl⟩:=ry;exact PySem.EqMixed.eq_int_str (fin_bl I q (by simp))
  | _=>exact absurd (show false=true from hs) Bool.false_ne_true
 | str i =>
  obtain ⟨t,rfl⟩:=rx
  cases y with
  | non=>cases ry;exact PySem.EqNone.eq_str_none (fin_bl I q (by simp))
  | bl j=>cases ry;exact PySem.EqMixed.eq_str_bool (fin_bl I q (by simp))
  | int j=>obtain ⟨t',rfl⟩:=ry;exact PySem.EqMixed.eq_str_int (fin_bl I q (by simp))
  | str j=>obtain ⟨t',rfl⟩:=ry;exact eq_str (fin_bl I q dec_str)
  | _=>exact absurd (show false=true from hs) Bool.false_ne_true
 | byt i =>
  obtain ⟨t,rfl⟩:=rx
  cases y with
  | byt j=>obtain ⟨t',rfl⟩:=ry;exact PySem.W.eq_bytes (fin_bl I q dec_byt)
  | _=>exact absurd (show false=true from hs) Bool.false_ne_true
 | _=>cases y <;> exact absurd (show false=true from hs) Bool.false_ne_true
theorem op_ne:OpR X (compareOp .NotEq) rNe:=by
 intro pins s σ H x y v u Q I rx ry h
 obtain ⟨hs,q⟩:=h
 cases x with
 | non =>
  cases rx
  cases y with
  | non=>cases ry;exact PySem.EqNone.ne_none_none (fin_bl I q (by simp))
  | bl j=>cases ry;exact PySem.EqNone.ne_none_bool (fin_bl I q (by simp))
  | int j=>obtain ⟨t',rfl⟩:=ry;exact PySem.EqNone.ne_none_int (fin_bl I q (by simp))
  | str j=>obtain ⟨t',rfl⟩:=ry;exact PySem.EqNone.ne_none_str (fin_bl I q (by simp))
  | _=>exact absurd (show false=true from hs) Bool.false_ne_true
 | bl i =>
  cases rx
  cases y with
  | non=>cases ry;exact PySem.EqNone.ne_bool_none (fin_bl I q (by simp))
  | bl j=>cases ry;exact ne_bool (fin_bl I q (congrArg not dec_bl))
  | str j=>obtain ⟨t',rfl⟩:=ry;exact PySem.EqMixed.ne_bool_str (fin_bl I q (by simp))
  | _=>exact absurd (show false=true from hs) Bool.false_ne_true
 | int i =>
  obtain ⟨t,rfl⟩:=rx
  cases y with
  | non=>cases ry;exact PySem.EqNone.ne_int_none (fin_bl I q (by simp))
  | int j=>obtain ⟨t',rfl⟩:=ry;exact ne_int (fin_bl I q (congrArg not dec_int))
  | str j=>obtain ⟨t',rfl⟩:=ry;exact PySem.EqMixed.ne_int_str (fin_bl I q (by simp))
  | _=>exact absurd (show false=true from hs) Bool.false_ne_true
 | str i =>
  obtain ⟨t,rfl⟩:=rx
  cases y with
  | non=>cases ry;exact PySem.EqNone.ne_str_none (fin_bl I q (by simp))
  | bl j=>cases ry;exact PySem.EqMixed.ne_str_bool (fin_bl I q (by simp))
  | int j=>obtain ⟨t',rfl⟩:=ry;exact PySem.EqMixed.ne_str_int (fin_bl I q (by simp))
  | str j=>obtain ⟨t',rfl⟩:=ry;exact ne_str (fin_bl I q (congrArg not dec_str))
  | _=>exact absurd (show false=true from hs) Bool.false_ne_true
 | byt i =>
  obtain ⟨t,rfl⟩:=rx
  cases y with
  | byt j=>obtain ⟨t',rfl⟩:=ry;exact PySem.W.ne_bytes (fin_bl I q (congrArg not dec_byt))
  | _=>exact absurd (show false=true from hs) Bool.false_ne_true
 | _=>cases y <;> exact absurd (show false=true from hs) Bool.false_ne_true
theorem op_lt:OpR X (compareOp .Lt) (rI0 fun i j=>.bl (decide (i < j))):=opB0 fun _ _ _ _ _ _ _ q=>lt_int q
theorem op_le:OpR X (compareOp .LtE) (rI0 fun i j=>.bl (decide (i≤j))):=opB0 fun _ _ _ _ _ _ _ q=>le_int q
theorem op_gt:OpR X (compareOp .Gt) (rI0 fun i j=>.bl (decide (j < i))):=opB0 fun _ _ _ _ _ _ _ q=>gt_int q
inductive op_in_str_r  (x:V)(y:V)(H:Hp)(Q:VK):Prop
 | mk:∀ i j,(x = .str i)→(y = .str j)→(Q (.bl (!(Builtin.Str.occurrences j i 0 j.length 1).isEmpty)) H)→op_in_str_r x y H Q
theorem op_in_str:OpR X (compareOp .In) op_in_str_r:=by
 intro pins s σ H x y v u Q I rx ry h
 obtain ⟨i,j,rfl,rfl,q⟩:=h
 obtain ⟨t,rfl⟩:=rx
 obtain ⟨t',rfl⟩:=ry
 exact in_str (fin_bl I q rfl)
theorem nomark (b:Expr){op:CmpOp}(h:op ≠ .In:=by decide)(h2:op ≠ .NotIn:=by decide):behindInMarks op b=false:=by
 have e1:(op == CmpOp.In)=false:=by cases op <;> first | rfl | exact absurd rfl h
 have e2:(op == CmpOp.NotIn)=false:=by cases op <;> first | rfl | exact absurd rfl h2
 cases b <;> simp [behindInMarks,e1,e2]
theorem pe_cmpR {op:CmpOp}{r:R2}(ho:OpR X (compareOp op) r)(ha:PE X a ta)(hb:PE X b tb)(hm:behindInMarks op b=false):PE X (.Compare a [op] [b] pos) (tOp r ta tb):=by
 intro pins s σ H Q I h
 exact wpAny_Compare1 (binT ha hb I h fun v u s2 x y H2 I2 rx ry q=>ho pins s2 σ H2 x y v u Q I2 rx ry q) hm
noncomputable def tTest_k1 (Q:(Bool→Hp→Prop)):V→Hp→Prop:=fun x H'=>IsB x H' Q
noncomputable def tTest (t:TE):TT:=fun σ H Q=>t σ H (tTest_k1 Q)
theorem pt_cmpR {op:CmpOp}{r:R2}(ho:OpR X (compareOp op) r)(ha:PE X a ta)(hb:PE X b tb)(hm:behindInMarks op b=false):PT X (.Compare a [op] [b] pos) (tTest (tOp r ta tb)):=by
 intro pins s σ H Q I h
 refine wpAny_isTrue_Compare1 (thn (ha pins s σ H _ I h) fun v s1 ⟨x,H1,I1,r1,q1⟩=>thn (hb pins s1 σ H1 _ I1 q1) fun u s2 ⟨y,H2,I2,r2,q2⟩ =>
  thn (ho pins s2 σ H2 x y v u _ I2 r1 r2 q2) fun c s3 ⟨z,H3,I3,r3,k,e,q3⟩=>?_) hm
 subst e
 cases r3
 exact wpAny_truthy_bool ⟨H3,I3,q3⟩
noncomputable def tChain (r r':R2)(ta tb tc:TE):TE:=fun σ H Q=>ta σ H fun x H1=>tb σ H1 fun y H2=>r x y H2 fun z H3=>∃ k,z = .bl k ∧
 (if k=true then tc σ H3 fun w' H4=>r' y w' H4 Q else Q (.bl false) H3)
theorem pe_chain {op op':CmpOp}{r r':R2}(ho:OpR X (compareOp op) r)(ho':OpR X (compareOp op') r')(ha:PE X a ta)(hb:PE X b tb)(hc:PE X c tc)
  (hm:lastMarks [op,op'] [b,c]=false:=by with_unfolding_all rfl):PE X (.Compare a [op,op'] [b,c] pos) (tChain r r' ta tb tc):=by
 intro pins s σ H Q I h
 refine Compare_chain (thn (ha pins s σ H _ I h) fun v s1 ⟨x,H1,I1,r1,q1⟩=>chain_link (thn (hb pins s1 σ H1 _ I1 q1) fun u s2 ⟨y,H2,I2,r2,q2⟩ =>
  thn (ho pins s2 σ H2 x y v u _ I2 r1 r2 q2) fun d s3 ⟨z,H3,I3,r3,k,e,q3⟩=>?_)) hm
 subst e
 cases r3
 refine wpAny_truthy_bool ?_
 cases k with
 | false=>exact ite_ff ⟨.bl false,H3,I3,rfl,q3⟩
 | true=>exact ite_tt (chain_last (thn (hc pins s3 σ H3 _ I3 q3) fun w' s4 zq45=>(by obtain ⟨z',H4,I4,r4,q4⟩:=zq45;exact ho' pins s4 σ H4 y z' u w' Q I4 r2 r4 q4)))
theorem pt_chain {op op':CmpOp}{r r':R2}(ho:OpR X (compareOp op) r)(ho':OpR X (compareOp op') r')(ha:PE X a ta)(hb:PE X b tb)(hc:PE X c tc)
  (hm:lastMarks [op,op'] [b,c]=false:=by with_unfolding_all rfl):PT X (.Compare a [op,op'] [b,c] pos) (tTest (tChain r r' ta tb tc)):=by
 intro pins s σ H Q I h
 refine isTrue_chain (thn (ha pins s σ H _ I h) fun v s1 ⟨x,H1,I1,r1,q1⟩=>test_link (thn (hb pins s1 σ H1 _ I1 q1) fun u s2 ⟨y,H2,I2,r2,q2⟩ =>
  thn (ho pins s2 σ H2 x y v u _ I2 r1 r2 q2) fun d s3 ⟨z,H3,I3,r3,k,e,q3⟩=>?_)) hm
 subst e
 cases r3
 refine wpAny_truthy_bool ?_
 cases k with
 | false =>
  obtain ⟨k',e',q'⟩:=q3
  cases e'
  exact ite_ff ⟨H3,I3,q'⟩
 | true =>
  refine ite_tt (test_last (thn (hc pins s3 σ H3 _ I3 q3) fun w' s4 ⟨z',H4,I4,r4,q4⟩=>thn (ho' pins s4 σ H4 y z' u w' _ I4 r2 r4 q4) fun d' s5 zq46=>?_))
  obtain ⟨z2,H5,I5,r5,k2,e2,q5⟩:=zq46
  subst e2
  cases r5
  exact wpAny_truthy_bool ⟨H5,I5,q5⟩
noncomputable def TruV (K:PySem.W.Frag)(x:V)(H:Hp)(k:Bool):Prop :=
 match x with
 | .non=>k=false
 | .bl b=>k=b
 | .int i=>k=(i != 0)
 | .str y=>y.length≤sizeLine∧k=((y.length:Int) != 0)
 | .byt y=>y.size≤sizeLine∧k=((y.size:Int) != 0)
 | .ref p=>(∃ xs,SqL K H p xs∧k=!xs.isEmpty) ∨ (∃ xs,SqT K H p xs∧k=!xs.isEmpty) ∨ ∃ kvs,H p=some (.dK kvs)∧k=!kvs.isEmpty
 | _=>False
theorem isEmpty_kv {κ:Type}{kvs:List (κ × V)}{vs:List (κ × Value)}(r:KV kvs vs):(!vs.isEmpty)=!kvs.isEmpty:=by
 cases r <;> rfl
theorem isEmpty_of {xs:List V}{its:List Value}(r:Vals xs its):(!its.toArray.isEmpty)=!xs.isEmpty:=by
 cases r <;> simp
theorem line63:(sizeLine:Nat) < 2 ^ 63:=by rw [sizeLine_eq]; decide
inductive tru_r (K:PySem.W.Frag)(x:V)(H:Hp)(Q:Bool→Hp→Prop):Prop
 | mk:∀ k,(TruV K x H k)→(Q k H)→tru_r K x H Q
theorem tru_ok:TruR X (tru_r X.K):=by
 intro pins s σ H x v Q I rx h
 obtain ⟨k,e,q⟩:=h
 have hl:=line63
 have hs:sizeLine=16777216:=sizeLine_eq
 cases x with
 | non =>
  cases rx
  have e':k=false:=e
  subst e'
  exact truthy_none ⟨H,I,q⟩
 | bl b =>
  cases rx
  have e':k=b:=e
  subst e'
  exact wpAny_truthy_bool ⟨H,I,q⟩
 | int i =>
  obtain ⟨t,rfl⟩:=rx
  have e':k=(i != 0):=e
  subst e'
  exact PySem.P.truthy_int ⟨H,I,q⟩
 | str y =>
  obtain ⟨t,rfl⟩:=rx
  obtain ⟨hy,e'⟩:y.length≤sizeLine∧k=((y.length:Int) != 0):=e
  subst e'
  exact PySem.P.truthy_str (by omega) ⟨H,I.tok _,q⟩
 | byt y =>
  obtain ⟨t,rfl⟩:=rx
  obtain ⟨hy,e'⟩:y.size≤sizeLine∧k=((y.size:Int) != 0):=e
  subst e'
  exact PySem.W.truthy_bytes (by omega) ⟨H,I.tok _,q⟩
 | ref p =>
  cases rx
  have e':(∃ xs,SqL X.K H p xs∧k=!xs.isEmpty) ∨ (∃ xs,SqT X.K H p xs∧k=!xs.isEmpty) ∨ ∃ kvs,H p=some (.dK kvs)∧k=!kvs.isEmpty:=e
  rcases e' with ⟨xs,hx,e'⟩ | ⟨xs,hx,e'⟩ | ⟨kvs,hx,e'⟩
  ·subst e'
   obtain ⟨its,r,pl,hz⟩:=I.list hx
   have hlen:=r.length
   exact wpAny_truthy_list pl.isList (by simp only [List.size_toArray];omega) ⟨H,I.tok _,by rw [isEmpty_of r];exact q⟩
  ·subst e'
   obtain ⟨its,r,pl,hz⟩:=I.tuple hx
   have hlen:=r.length
   exact truthy_tuple pl (by simp only [List.size_toArray];omega) ⟨H,I.tok _,by rw [isEmpty_of r];exact q⟩
  ·subst e'
   obtain ⟨hz,hS,vs,r,m⟩:kvs.length≤sizeLine∧(p == sysModules)=false∧∃ vs,KV kvs vs∧s.heap.DictOf (mixKind X.prog X.w) p vs:=I.hok p _ hx
   have hlen:kvs.length=vs.length:=Paired.length r
   exact wpAny_truthy_dict hS m (by omega) ⟨H,I.tok _,by rw [isEmpty_kv r];exact q⟩
 | _=>exact (show False from e).elim
noncomputable def tTru_k1 (K:PySem.W.Frag)(Q:(Bool→Hp→Prop)):V→Hp→Prop:=fun x H'=>tru_r K x H' Q
noncomputable def tTru (K:PySem.W.Frag)(ta:TE):TT:=fun σ H Q=>ta σ H (tTru_k1 K Q)
theorem pt_truth (ha:PE X a ta)(he:∀ whole,isTrue a X.env whole=(do let v ← whole; standAt a.pos; holding [v] (truthy v))) :
  PT X a (tTru X.K ta):=by
 intro pins s σ H Q I h
 exact isTrue_plain (thn (ha pins s σ H _ I h) fun v s1 zq47=>(by obtain ⟨x,H1,I1,r1,q1⟩:=zq47;exact tru_ok pins s1 σ H1 x v Q I1 r1 q1)) (he _)
inductive op_add_str_r  (x:V)(y:V)(H:Hp)(Q:VK):Prop
 | mk:∀ i j,(x = .str i)→(y = .str j)→(i.length+j.length≤sizeLine)→(Q (.str (i++j)) H)→op_add_str_r x y H Q
theorem op_add_str:OpR X (binaryOp .Add) op_add_str_r:=by
 intro pins s σ H x y v u Q I rx ry h
 obtain ⟨i,j,rfl,rfl,hz,q⟩:=h
 obtain ⟨t,rfl⟩:=rx
 obtain ⟨t',rfl⟩:=ry
 exact add_str (fun t' tk=>⟨.str (i++j),H,I.tok _,⟨_,rfl⟩,q⟩) hz
theorem vals1 {x:V}{us:List Value}(r:Vals [x] us):∃ u,us=[u]∧RelV x u:=by
 cases r with
 | cons r1 r2=>cases r2;exact ⟨_,rfl,r1⟩
theorem vals2 {x y:V}{us:List Value}(r:Vals [x,y] us):∃ u w',us=[u,w']∧RelV x u∧RelV y w':=by
 cases r with
 | cons r1 r2 =>
  cases r2 with
  | cons r3 r4=>cases r4;exact ⟨_,_,rfl,r1,r3⟩
theorem call_int1:CallR X (.type "int") (fun xs H Q=>(∃ i,xs=[.int i]∧Q (.int i) H) ∨ ∃ k,xs=[.bl k]∧Q (.int (if k then 1 else 0)) H):=by
 intro pins s σ H xs us Q I r h
 rcases h with ⟨i,rfl,q⟩ | ⟨k,rfl,q⟩
 ·obtain ⟨u,rfl,t,rfl⟩:=vals1 r
  exact call_int_int ⟨.int i,H,I,⟨_,rfl⟩,q⟩
 ·obtain ⟨u,rfl,r1⟩:=vals1 r
  cases r1
  exact call_int_bool ⟨.int (if k then 1 else 0),H,I.tok _,⟨_,rfl⟩,q⟩
end
end L2
namespace L2
open PySem PySem.Spec PyProof.Rows
section
variable {prog:Program} {w:World} {A:Around} {E:Value→Shared→Prop} {s:Shared} {K:PySem.W.Frag} {x dx C f:Addr} {mA:Str→Option Value} {name:Str} {v:Value}
end
noncomputable def putF (f:Str)(v:V):List (Str × V)→List (Str × V)
 | []=>[(f,v)]
 | (g,x)::r=>if g=f then (g,v)::r else (g,x)::putF f v r
theorem RelO.some_of {v:V}{o:Option Value}(r:RelO (some v) o):∃ u,o=some u∧RelV v u:=by
 cases o with
 | none=>exact (show False from r).elim
 | some u=>exact ⟨u,rfl,r⟩
section
variable {P:Program} {w:World} {H H':Hp} {h h':Heap} {a C dx:Addr} {fs fs':List (Str × V)}
end
section
variable {X:Cx} {pins:List (Addr × Obj)} {σ:St} {H:Hp} {s:Shared} {a C dx:Addr} {fs:List (Str × V)} {f:Str} {v:V} {A:Around} {E:Value→Shared→Prop}
end
section
variable {X:Cx} {o e value:Expr} {f:Str} {pos pos' tpos:Pos} {ta tv:TE}
end
section
variable {X:Cx} {pins:List (Addr × Obj)} {σ:St} {H:Hp} {s:Shared} {A:Around} {E:Value→Shared→Prop} {Q:Value→Shared→Prop} {c:Value} {b:Bool}
end
end L2
namespace L2
open PySem PySem.Spec PyProof.Rows
structure Room (k:Nat) (A:Around):Prop where
 hd:A.handled=none
 dp:A.depth+3*k+5 < recursionLimit
 un:A.units+16*k+200 < cLine
 gd:A.guards=some []
theorem Room.mono {j k:Nat}{A:Around}(r:Room k A)(h:j≤k):Room j A:=⟨r.hd,by have:=r.dp; omega,by have:=r.un; omega,r.gd⟩
theorem Room.deeper {k:Nat}{A:Around}(r:Room (k+1) A)(env:Env):Room k (A.deeper env) :=
 ⟨r.hd,by have:=r.dp;show A.depth+1+3*k+5 < _;omega,by have:=r.un;show A.units+3+16*k+200 < _;omega,r.gd⟩
theorem make_depth {A:Around}{C:Addr}{us:List Value}{kw:List (Str × Value)}:(A.under (.builtin "type.__call__" ⟨.ref C::us,kw⟩)).depth=A.depth+1:=by
 first | rfl | simp [Around.under,Code.weight,Code.isCreation,Code.isGuard,Code.isCaller,Code.frames,Code.isFrame,guardIds]
theorem make_units {A:Around}{C:Addr}{us:List Value}{kw:List (Str × Value)}:(A.under (.builtin "type.__call__" ⟨.ref C::us,kw⟩)).units=A.units+1:=by
 first | rfl | simp [Around.under,Code.cUnits,Code.frames,Code.isFrame]
theorem Room.make {k:Nat}{A:Around}(r:Room (k+1) A)(C:Addr)(us:List Value)(kw:List (Str × Value)):Room k (A.under (.builtin "type.__call__" ⟨.ref C::us,kw⟩)) :=
 ⟨r.hd,by have:=r.dp;rw [make_depth];omega,by have:=r.un;rw [make_units];omega,by have g:=r.gd;simpa [Around.under,Code.guards,pushGuards,Code.isGuard,guardIds] using g⟩
theorem Room.depth {k:Nat}{A:Around}(r:Room k A):A.depth < recursionLimit:=by have:=r.dp; omega
theorem Room.units {k:Nat}{A:Around}(r:Room k A):A.units+64 < cLine:=by have:=r.un; omega
noncomputable def tNil:TA:=fun _ H Q=>Q [] H
noncomputable def tCons_k1 (Q:(List V→Hp→Prop))(x:V):List V→Hp→Prop:=fun xs H2=>Q (x::xs) H2
noncomputable def tCons_k2 (tr:TA)(σ:St)(Q:(List V→Hp→Prop)):V→Hp→Prop:=fun x H1=>tr σ H1 (tCons_k1 Q x)
noncomputable def tCons (ta:TE)(tr:TA):TA:=fun σ H Q=>ta σ H (tCons_k2 tr σ Q)
section
variable {X:Cx} {e:Expr} {es:List Expr} {te:TE} {t:TA} {pos:Pos}
theorem pa_nil:PA X [] tNil:=fun _ _ _ _ H Q I h=>Calls.spliced_nil ⟨[],H,I,.nil,h⟩
theorem pa_cons (ha:PE X e te)(hr:PA X es t)(hs:starEach (e::es) X.env=(false,eval e X.env)::starEach es X.env:=by rfl):PA X (e::es) (tCons te t):=by
 intro pos pins s σ H Q I h
 rw [hs]
 show wpAny _ _ (spliced ((false,eval e X.env)::backTo pos (starEach es X.env))) _ _ s
 refine Calls.spliced_cons (thn (ha pins s σ H _ I h) fun u s1 zq54=>?_)
 obtain ⟨x,H1,I1,r1,q1⟩:=zq54
 exact thn (hr pos pins s1 σ H1 _ I1 q1) fun us s2 zq55=>(by obtain ⟨xs,H2,I2,r2,q2⟩:=zq55;exact ⟨x::xs,H2,I2,.cons r1 r2,q2⟩)
noncomputable def tTup_k1 (Q:VK):List V→Hp→Prop:=fun xs H1=>xs.length≤sizeLine∧∀ p,H1 p=none→Q (.ref p) (upd H1 p (.tup xs))
noncomputable def tTup (t:TA):TE:=fun σ H Q=>t σ H (tTup_k1 Q)
noncomputable def tLst_k1 (Q:VK):List V→Hp→Prop:=fun xs H1=>xs.length≤sizeLine∧∀ p,H1 p=none→Q (.ref p) (upd H1 p (.lst xs))
noncomputable def tLst (t:TA):TE:=fun σ H Q=>t σ H (tLst_k1 Q)
theorem pe_tup {x1}(h:PA X es t):PE X (.Tuple es x1 pos) (tTup t):=by
 intro pins s σ H Q I hq
 refine wpAny_Tuple_spliced (thn (h pos pins s σ H _ I hq) fun us s1 ⟨xs,H1,I1,r,z,q⟩=>⟨by rw [← r.length];exact z,?_⟩)
 have hf:H1 s1.heap.objs.size=none:=I1.hok.fresh (Nat.le_refl _)
 refine ⟨.ref s1.heap.objs.size,upd H1 s1.heap.objs.size (.tup xs),I1.laid (t':=s1.toks) (fun b u e=>Heap.get?_push_of_some _ e) (Nat.le_refl _) ?_,rfl,q _ hf⟩
 exact ⟨z,us,r,⟨_,Heap.get?_push_size _ rfl,rfl,_,rfl⟩,.new _ _ rfl⟩
theorem pe_lst (h:PA X es t):PE X (.List es pos) (tLst t):=by
 intro pins s σ H Q I hq
 refine wpAny_List_spliced (thn (h pos pins s σ H _ I hq) fun us s1 ⟨xs,H1,I1,r,z,q⟩=>⟨by rw [← r.length];exact z,?_⟩)
 have hf:H1 s1.heap.objs.size=none:=I1.hok.fresh (Nat.le_refl _)
 refine ⟨.ref s1.heap.objs.size,upd H1 s1.heap.objs.size (.lst xs),I1.laid (t':=s1.toks) (fun b u e=>Heap.get?_push_of_some _ e) (Nat.le_refl _) ?_,rfl,q _ hf⟩
 exact ⟨z,us,0,r,Heap.get?_push_size _ rfl⟩
end
noncomputable abbrev Sp:=List V→Hp→VK→XK→Prop
noncomputable abbrev CXT:=List Env→Hp→Shared→XK→Value→Shared→Prop
structure Env0 (P:Program) (w:World) (K:PySem.W.Frag) (mg:Str→Option Value) (base:Heap) (A:Around) (outer:List Env) (s:Shared) (H:Hp):Prop where
 frames:A.frames=some outer
 mod:Mod K mg base
 bs:∀ b o,base.get? b=some o→s.heap.get? b=some o∧H b=none
 bsz:base.objs.size≤s.heap.objs.size
 funs:s.heap.FunFrames base outer
 frf:∀ b∈frs outer,H b=none
 hok:HOk P w H s.heap
 bare:AllBare s.gens
noncomputable def CE (outer:List Env)(P:Program)(w:World)(H:Hp)(s:Shared)(Q:VK)(u:Value)(s':Shared):Prop :=
 ∃ v H',s'.os=s.os∧AllBare s'.gens∧Un (frs outer) [] H H' s.heap s'.heap∧HOk P w H' s'.heap∧RelV v u∧Q v H'
noncomputable def CR (CX:CXT)(outer:List Env)(P:Program)(w:World)(H:Hp)(s:Shared)(Q:VK)(E:XK)(r:Result)(s':Shared):Prop :=
 match r with
 | .ok (.ret u)=>CE outer P w H s Q u s'
 | .ok _=>False
 | .error e=>CX outer H s E e s'
structure FnOk (P:Program) (w:World) (K:PySem.W.Frag) (mg:Str→Option Value) (base:Heap) (CX:CXT) (k:Nat) (f:Addr) (fd:FuncData) (ps:List Str) (sp:Sp):Prop where
 len:∀ vs H Q E,sp vs H Q E→vs.length=ps.length
 run:∀ (A:Around) (outer:List Env) (s:Shared) (H:Hp) (args:Args) (us:List Value) (vs:List V) (Q:VK) (E:XK),Room k A→Env0 P w K mg base A outer s H→BindsTo s fd args (ps.zip us)→Vals vs us→sp vs H Q E →
  codeAny (model P w) A (.call (.ref f) args) (CR CX outer P w H s Q E) s
theorem Env0.make {P:Program}{w:World}{K:PySem.W.Frag}{mg:Str→Option Value}{base:Heap}{A:Around}{outer:List Env}{s:Shared}{H:Hp}(e:Env0 P w K mg base A outer s H)(C:Addr)(us:List Value)(kw:List (Str × Value)) :
  Env0 P w K mg base (A.under (.builtin "type.__call__" ⟨.ref C::us,kw⟩)) outer s H:=⟨by first | exact e.frames | (simpa [Around.under,Code.envs,Code.isFrame,pushEnvs] using e.frames),e.mod,e.bs,e.bsz,e.funs,e.frf,e.hok,e.bare⟩
section
variable {X:Cx} {pins:List (Addr × Obj)} {σ:St} {H:Hp} {s s':Shared}
theorem Inv.env0 (I:Inv X pins σ H s):Env0 X.prog X.w X.K X.mg X.base X.A X.stack s H :=
 ⟨I.ok.frames,I.ok.mod,I.bs,Nat.le_trans I.ok.bsz I.sz,I.stack,I.stkFree,I.hok,I.bare⟩
theorem Inv.after {Q:VK}{u:Value}(I:Inv X pins σ H s)(h:CE X.stack X.prog X.w H s Q u s'):EP X pins σ Q u s':=by
 obtain ⟨v,H',os,bare,un,hok,r,q⟩:=h
 obtain ⟨hh,g,d,t,os'⟩:=s'
 obtain rfl:os'=s.os:=os
 exact ⟨v,H',I.call (h':=hh) (g':=g) (d':=d) (t':=t) (ch:=[]) un hok bare (fun b z=>absurd z (by simp)),r,q⟩
end
noncomputable def tCall_k1 (sp:Sp)(dvs:List V)(E:XK)(Q:VK):List V→Hp→Prop:=fun vs H1=>sp (vs++dvs) H1 Q E
noncomputable def tCall (sp:Sp)(dvs:List V)(E:XK)(t:TA):TE:=fun σ H Q=>t σ H (tCall_k1 sp dvs E Q)
noncomputable def Binds (K:PySem.W.Frag)(fd:FuncData)(ps:List Str)(ds:List Value):Prop :=
 ∀ (s:Shared) (us:List Value),K.In s.heap→(us++ds).length=ps.length→BindsTo s fd ⟨us,[]⟩ (ps.zip (us++ds))
theorem Binds.all {K:PySem.W.Frag}{fd:FuncData}{ps:List Str}(h:∀ us:List Value,us.length=ps.length→bindArgs fd ⟨us,[]⟩=pure (ps.zip us)):Binds K fd ps []:=fun s us _ hl=>by
 rw [List.append_nil] at hl ⊢
 exact .of_eq (h us hl)
noncomputable def Passes (CX:CXT)(X:Cx)(E:XK):Prop:=∀ (pins:List (Addr × Obj)) (σ:St) (H:Hp) (s:Shared) (e:Value) (s':Shared),Inv X pins σ H s→CX X.stack H s E e s'→X.xe e s'
section
variable {X:Cx} {CX:CXT} {k:Nat} {f C:Addr} {fd:FuncData} {ps:List Str} {sp:Sp} {dvs:List V} {ds:List Value} {E:XK} {x m:Str} {p pos apos:Pos} {e o:Expr} {es:List Expr} {ta:TE} {t:TA}
theorem run_fn {pins:List (Addr × Obj)}{σ:St}{H:Hp}{s:Shared}{Q:VK}{us:List Value}{vs:List V}(F:FnOk X.prog X.w X.K X.mg X.base CX k f fd ps sp)(hr:Room k X.A)(hb:Binds X.K fd ps ds)(hd:Vals dvs ds)(hx:Passes CX X E)
  (I:Inv X pins σ H s) (r:Vals vs us) (h:sp (vs++dvs) H Q E):wpAny (model X.prog X.w) X.A (call (.ref f) us) (EP X pins σ Q) X.xe s:=by
 have r2:Vals (vs++dvs) (us++ds):=r.append hd
 have hl:(us++ds).length=ps.length:=by rw [← r2.length];exact F.len _ _ _ _ h
 refine wpAny_call (codeAny_mono (F.run X.A X.stack s H ⟨us,[]⟩ (us++ds) (vs++dvs) Q E hr I.env0 (hb s us I.kIn hl) r2 h) fun r s' hq=>?_)
 cases r with
 | error e=>exact hx pins σ H s e s' I hq
 | ok fl =>
  cases fl with
  | ret u=>exact I.after hq
  | next=>exact False.elim hq
  | brk=>exact False.elim hq
  | cont=>exact False.elim hq
theorem pe_call (F:FnOk X.prog X.w X.K X.mg X.base CX k f fd ps sp)(hr:Room k X.A)(hg:Gl X x)(hm:X.mg x=some (.ref f))(hk:PySem.W.keepIn X.K (.ref f)=true)(hb:Binds X.K fd ps ds)(hd:Vals dvs ds)(hx:Passes CX X E)
  (ha:PA X (e::es) t) (hdb:(x == ("__debug__":Str))=false:=by decide) (he:starEach (e::es) X.env=(false,eval e X.env)::starEach es X.env:=by rfl) (hpl:(backTo pos (starEach es X.env)).any (·.1)=false:=by rfl) :
  PE X (.Call (.Name x p) (e::es) [] pos) (tCall sp dvs E t):=by
 intro pins s σ H Q I h
 refine wpAny_Call_Name_kw (ld_glob I hg hm ?_ hdb)
 refine PySem.W.callWith_K (h₀:=X.base) I.ok.mod.kin hk (thn (ha pos pins s σ H _ I h) fun us s1 ⟨vs,H1,I1,r,q⟩=>⟨I1.kIn,?_⟩) he hpl
 exact run_fn F hr hb hd hx I1 r q
end
section
variable {X:Cx} {CX:CXT} {k:Nat} {f C:Addr} {fd:FuncData} {ps ks:List Str} {sp:Sp} {E:XK} {x m:Str} {p pos apos kpos:Pos} {e o:Expr} {es:List Expr} {kws:List Keyword} {te ta:TE} {t tk:TA} {nm:Option Str}
variable {g:List Value→List Value→List Value} {gV:List V→List V→List V}
end
structure FnScope (N P:List Str) (sc:Scope):Prop where
 kind:sc.kind = .function
 co:sc.isCoroutine=false
 gen:sc.isGenerator=false
 nd:N.Nodup
 pre:N.take P.length=P
 par:∀ x∈P,sc.names.lookup x=some .local ∨ sc.names.lookup x=some .cell
 nofree:∀ y∈sc.names,y.2 ≠ .free
theorem bindL_out {kindOf:Str→Option NameKind}{x:Str}:∀ {binds:List (Str × Value)} {m:Str→Option Value},(∀ v,(x,v)∉binds)→bindL kindOf binds m x=m x
 | [],_,_=>rfl
 | (n,v)::r,m,h=>by
  unfold bindL
  rw [bindL_out fun w hw=>h w (List.mem_cons_of_mem _ hw)]
  split
  ·have:x≠n:=by rintro rfl;exact h v List.mem_cons_self
   simp [this]
  ·rfl
theorem bindC_out {kindOf:Str→Option NameKind}{x:Str}:∀ {binds:List (Str × Value)} {m:Str→Option Value},(∀ v,(x,v)∉binds)→bindC kindOf binds m x=m x
 | [],_,_=>rfl
 | (n,v)::r,m,h=>by
  unfold bindC
  rw [bindC_out fun w hw=>h w (List.mem_cons_of_mem _ hw)]
  split
  ·rfl
  ·have:x≠n:=by rintro rfl;exact h v List.mem_cons_self
   simp [this]
theorem bindL_get {kindOf:Str→Option NameKind}{x:Str}{v:Value}:∀ {P:List Str} {vs:List Value} {i:Nat} {m:Str→Option Value},P.Nodup→P[i]? = some x→vs[i]? = some v→kindOf x=some .local →
  bindL kindOf (P.zip vs) m x=some v
 | [],_,_,_,_,h,_,_=>by simp at h
 | _::_,[],_,_,_,_,h,_=>by simp at h
 | p::P,w::vs,0,m,nd,h1,h2,hk=>by
  simp at h1 h2;subst h1;subst h2
  show bindL kindOf ((p,w)::P.zip vs) m p=_
  unfold bindL
  rw [bindL_out fun v hv=>(List.nodup_cons.mp nd).1 (List.of_mem_zip hv).1,if_pos hk]
  simp
 | p::P,w::vs,i+1,m,nd,h1,h2,hk=>by
  show bindL kindOf ((p,w)::P.zip vs) m x=_
  unfold bindL
  exact bindL_get (i:=i) (List.nodup_cons.mp nd).2 (by simpa using h1) (by simpa using h2) hk
theorem bindC_get {kindOf:Str→Option NameKind}{x:Str}{v:Value}:∀ {P:List Str} {vs:List Value} {i:Nat} {m:Str→Option Value},P.Nodup→P[i]? = some x→vs[i]? = some v→kindOf x≠some .local →
  bindC kindOf (P.zip vs) m x=some v
 | [],_,_,_,_,h,_,_=>by simp at h
 | _::_,[],_,_,_,_,h,_=>by simp at h
 | p::P,w::vs,0,m,nd,h1,h2,hk=>by
  simp at h1 h2;subst h1;subst h2
  show bindC kindOf ((p,w)::P.zip vs) m p=_
  unfold bindC
  rw [bindC_out fun v hv=>(List.nodup_cons.mp nd).1 (List.of_mem_zip hv).1,if_neg hk]
  simp
 | p::P,w::vs,i+1,m,nd,h1,h2,hk=>by
  show bindC kindOf ((p,w)::P.zip vs) m x=_
  unfold bindC
  exact bindC_get (i:=i) (List.nodup_cons.mp nd).2 (by simpa using h1) (by simpa using h2) hk
noncomputable def start (N:List Str)(vs:List V):St:=vs.map some++List.replicate (N.length - vs.length) none
noncomputable def cxOf (CX:CXT)(P:Program)(w:World)(K:PySem.W.Frag)(mg:Str→Option Value)(base:Heap)(N:List Str)(qual:Str)(scope:Scope)(f:Addr)(cd:Value)(A:Around)(outer:List Env)(s:Shared)(H:Hp)(E:XK):Cx where
 prog:=P
 w:=w
 K:=K
 mg:=mg
 base:=base
 A:=A.deeper (envOfC qual scope s.heap.objs.size f cd)
 N:=N
 s₀:=s
 H₀:=H
 env:=envOfC qual scope s.heap.objs.size f cd
 outer:=outer
 stack:=envOfC qual scope s.heap.objs.size f cd::outer
 ex:=[]
 calm:=true
 fn:=fun _=>true
 pn:=[]
 lo:=s.toks
 xe:=fun e s'=>wpAny (model P w) (A.deeper (envOfC qual scope s.heap.objs.size f cd)) (leaving (envOfC qual scope s.heap.objs.size f cd) e) (fun _ s''=>CX outer H s E e s'') (fun e' s''=>CX outer H s E e' s'') s'
theorem cell_has {sc:Scope}{n:Nat}{x:Str}(h:sc.names.lookup x=some .cell):∃ c,(cellsFrom n sc.names []).lookup x=some c:=by
 have q:=PySem.W.cellsFrom_some sc.names n [] (.inl h)
 exact Option.isSome_iff_exists.mp q
theorem inv_start {CX:CXT}{P:Program}{w:World}{K:PySem.W.Frag}{mg:Str→Option Value}{base:Heap}{N ps:List Str}{qual:Str}{scope:Scope}{f:Addr}{cd:Value}{A:Around}{outer:List Env}{s s1:Shared}{H:Hp}{E:XK}{us:List Value}{vs:List V}
  (S:FnScope N ps scope) (hd:A.handled=none) (e0:Env0 P w K mg base A outer s H) (hl:vs.length=ps.length) (r:Vals vs us)
  (x:InCallC s s.heap.objs.size (bindL (envOfC qual scope s.heap.objs.size f cd).kindOf (ps.zip us) fun _=>none) (cellsFrom (s.heap.objs.size+1) scope.names []) (bindC (envOfC qual scope s.heap.objs.size f cd).kindOf (ps.zip us) fun _=>none) s1) :
  InvW (cxOf CX P w K mg base N qual scope f cd A outer s H E) [] (start N vs) H s1:=by
 have hpl:ps.length≤N.length:=by have:=congrArg List.length S.pre;rw [List.length_take] at this;omega
 obtain ⟨h1,tk,rfl,hk⟩:=x.done
 have noA:∀ b:Addr,b∉(cxOf CX P w K mg base N qual scope f cd A outer s H E).ex:=fun b z=>absurd (show b∈([]:List Addr) from z) (by simp)
 refine ⟨⟨e0.mod,S.kind,rfl,rfl,Nat.le_refl _,fun y z c h1 h2=>?_,fun y hy=>?_,fun y c _ h=>?_,fun _=>hd,Around.frames_deeper e0.frames,.inr ⟨rfl,rfl⟩,fun b z=>absurd z (noA b),e0.bs,e0.bsz,fun b _ _=>noA b,fun b z=>absurd z (noA b),e0.funs,e0.frf⟩,
  rfl,e0.bare,Un.kept hk,⟨_,x.toInCall.ns,fun i y v h1 h2 h3=>?_⟩,fun y c h=>⟨_,x.cell y c h⟩,e0.hok.fresh (Nat.le_refl _),fun y c h=>?_,fun p hp=>absurd (show p∈([]:List (Addr × Obj)) from hp) (by simp),e0.hok.kept hk,?_⟩
 ·exact name_of_addr x.apart (PySem.mem_of_lookup h1) (PySem.mem_of_lookup h2)
 ·have hy:scope.names.lookup y=some .cell ∨ scope.names.lookup y=some .free:=hy
  rcases hy with hy | hy
  ·exact cell_has hy
  ·exact absurd rfl (S.nofree _ (PySem.mem_of_lookup hy))
 ·exact Nat.le_of_lt (x.above y c (PySem.mem_of_lookup h))
 ·have hi:i < vs.length:=by
   unfold start at h2
   by_cases hi:i < vs.length
   ·exact hi
   ·rw [List.getElem?_append_right (by simpa using hi)] at h2
    rw [List.getElem?_replicate] at h2
    split at h2 <;> cases h2
  have ha:vs[i]? = some v:=by
   unfold start at h2
   rw [List.getElem?_append_left (by simpa using hi),List.getElem?_map] at h2
   cases e:vs[i]? with
   | none=>rw [e] at h2;cases h2
   | some a=>rw [e] at h2;cases h2;rfl
  obtain ⟨u,hu,rv⟩:=r.get ha
  have hp:ps[i]? = some y:=by
   rw [← S.pre,List.getElem?_take_of_lt (by omega)];exact h1
  have ndP:ps.Nodup:=by rw [← S.pre];exact S.nd.sublist (List.take_sublist _ _)
  refine ⟨u,rv,?_⟩
  rcases S.par y (List.mem_of_getElem? hp) with k | k
  ·exact .inl ⟨k,bindL_get ndP hp hu k⟩
  ·obtain ⟨c,e⟩:=cell_has (n:=s.heap.objs.size+1) k
   refine .inr ⟨.inl k,c,e,?_⟩
   have q:=x.cell y c e
   rw [bindC_get ndP hp hu (by show scope.names.lookup y≠_;rw [k];decide)] at q
   exact q
 ·exact e0.hok.fresh (Nat.le_of_lt (x.above y c (PySem.mem_of_lookup h)))
 ·unfold start
  show _=N.length
  rw [List.length_append,List.length_map,List.length_replicate]
  omega
theorem fn_of {CX:CXT}{P:Program}{w:World}{K:PySem.W.Frag}{mg:Str→Option Value}{base:Heap}{k:Nat}{f:Addr}{name qual:Str}{params:Arguments}{body:List Stmt}{scope:Scope}{dV kV doc pm cdv ct oc:Value}{an od:Option Addr}
  {osl:Array (Option Value)} {N ps:List Str} {sp:Sp} (lk:K.lookup f=some ⟨oc,od,.func (PySem.W.fnOf name qual params body scope dV kV doc pm an cdv ct),osl⟩) (hcd:PySem.W.codeIn K cdv qual=true) (S:FnScope N ps scope)
  (len:∀ vs H Q E,sp vs H Q E→vs.length=ps.length)
  (hbody:∀ (A:Around) (outer:List Env) (s:Shared) (H:Hp) (vs:List V) (Q:VK) (E:XK),Room k (A.deeper (envOfC qual scope s.heap.objs.size f cdv))→sp vs H Q E →
   ∃ t,PSs (cxOf CX P w K mg base N qual scope f cdv A outer s H E) body t∧t { nx:=fun _ H'=>Q .non H',rt:=Q } (start N vs) H) :
  FnOk P w K mg base CX (k+1) f (PySem.W.fnOf name qual params body scope dV kV doc pm an cdv ct) ps sp:=by
 refine ⟨len,fun A outer s H args us vs Q E hr e0 hb r hsp=>?_⟩
 have hl:=len _ _ _ _ hsp
 have KX:K.In s.heap:=e0.mod.kin.keeps fun b o e=>(e0.bs b o e).1
 have lim:s.heap.NoLimit:=e0.mod.nolimit.keeps fun b o e=>(e0.bs b o e).1
 have hkind:∀ y∈ps.zip us,scope.names.lookup y.1=some .local ∨ (scope.names.lookup y.1=some .cell∧((cellsFrom (s.heap.objs.size+1) scope.names []).lookup y.1).isSome=true):=fun ⟨n,v⟩ hy=>by
  rcases S.par n (List.of_mem_zip hy).1 with q | q
  ·exact .inl q
  ·exact .inr ⟨q,PySem.W.cellsFrom_some _ _ _ (.inl q)⟩
 refine codeAny_call_function hr.depth (KX _ _ lk) rfl S.co S.gen rfl (PySem.W.codeRec_of KX hcd) (hb _ _ _ _ ?_)
 refine wt (n:=s.toks) (Nat.le_refl _) (wpAny_newFunctionEnv_cells S.kind hkind fun env he s1 x hlo=>?_)
 subst he
 refine ⟨lim.keeps x.toInCall.keep,codeAny_func ?_⟩
 obtain ⟨t,ht,hq⟩:=hbody A outer s H vs Q E (hr.deeper _) hsp
 have I:Inv (cxOf CX P w K mg base N qual scope f cdv A outer s H E) [] (start N vs) H s1:=(inv_start S hr.hd e0 hl r x).up hlo
 refine wpAny_mono (ht [] s1 (start N vs) H _ I hq) (fun fl s' hs=>?_) fun e s' hs=>hs
 have fin:∀ {σ':St} {H':Hp} {v:V} {u:Value},InvW (cxOf CX P w K mg base N qual scope f cdv A outer s H E) [] σ' H' s'→RelV v u→Q v H'→CE outer P w H s Q u s' :=
  fun {σ' H' v u} J rv q=>⟨v,H',J.os,J.bare,J.base,J.hok,rv,q⟩
 cases fl with
 | ret u =>
  obtain ⟨v,σ',H',J,rv,q⟩:=hs
  exact fin J rv q
 | next =>
  obtain ⟨σ',H',J,q⟩:=hs
  exact fin (v:=V.non) (u:=Value.none) J rfl q
 | brk =>
  obtain ⟨_,_,_,q⟩:=hs
  exact False.elim q
 | cont =>
  obtain ⟨_,_,_,q⟩:=hs
  exact False.elim q
end L2
namespace L2
open PySem PySem.Spec PyProof.Rows
section
variable {X:Cx} {x:Str} {p pos:Pos} {e:Expr} {es:List Expr} {t:TA} {id T:String} {r:List V→Hp→VK→Prop}
noncomputable def tCB_k1 (r:List V→Hp→VK→Prop)(Q:VK):List V→Hp→Prop:=fun vs H1=>r vs H1 Q
noncomputable def tCB (r:List V→Hp→VK→Prop)(t:TA):TE:=fun σ H Q=>t σ H (tCB_k1 r Q)
theorem pe_callB (hc:CallR X (.builtin id) r)(hg:Gl X x)(hm:X.mg x=none)(hv:bootBuiltins x=some (.builtin id))(ha:PA X (e::es) t)(hn:x ≠ "__name__":=by decide)(hdb:(x == ("__debug__":Str))=false:=by decide)
  (he:starEach (e::es) X.env=(false,eval e X.env)::starEach es X.env:=by rfl) (hpl:(backTo pos (starEach es X.env)).any (·.1)=false:=by rfl):PE X (.Call (.Name x p) (e::es) [] pos) (tCB r t):=by
 intro pins s σ H Q I h
 refine wpAny_Call_Name_kw (ld_blt I hg hm hv ?_ hn hdb)
 exact PyProof.Rows.callWith_builtin1 (thn (ha pos pins s σ H _ I h) fun us s1 zq60=>(by obtain ⟨vs,H1,I1,r1,q1⟩:=zq60;exact hc pins s1 σ H1 vs us Q I1 r1 q1)) he hpl
theorem pe_callTy (hc:CallR X (.type T) r)(hg:Gl X x)(hm:X.mg x=none)(hv:bootBuiltins x=some (.type T))(ha:PA X (e::es) t)(hn:x ≠ "__name__":=by decide)(hdb:(x == ("__debug__":Str))=false:=by decide)
  (he:starEach (e::es) X.env=(false,eval e X.env)::starEach es X.env:=by rfl) (hpl:(backTo pos (starEach es X.env)).any (·.1)=false:=by rfl):PE X (.Call (.Name x p) (e::es) [] pos) (tCB r t):=by
 intro pins s σ H Q I h
 refine wpAny_Call_Name_kw (ld_blt I hg hm hv ?_ hn hdb)
 exact PyProof.Rows.callWith_type1 (thn (ha pos pins s σ H _ I h) fun us s1 zq61=>(by obtain ⟨vs,H1,I1,r1,q1⟩:=zq61;exact hc pins s1 σ H1 vs us Q I1 r1 q1)) he hpl
end
end L2
namespace HT
open PySem PyProof.Rows
noncomputable def lexLt:List Int→List Int→Bool
 | [],[]=>false
 | [],_::_=>true
 | _::_,[]=>false
 | x::xs,y::ys=>if x=y then lexLt xs ys else decide (x < y)
theorem lexLt_cons (x y:Int)(xs ys:List Int):lexLt (x::xs) (y::ys)=if x=y then lexLt xs ys else decide (x < y):=rfl
theorem lexLt_nil_nil:lexLt [] []=false:=rfl
theorem lexLt_nil_cons (y:Int)(ys:List Int):lexLt [] (y::ys)=true:=rfl
theorem lexLt_cons_nil (x:Int)(xs:List Int):lexLt (x::xs) []=false:=rfl
theorem eqAt_int (A:Around)(s:Shared)(a:Int)(t:Tok)(c:Int)(u:Tok):∃ e,SeqAt.EqAt A s (.int a t) (.int c u) e∧(e=true ↔ a=c) :=
 ⟨(a == c),SeqAt.EqAt.int_int a t c u,by simp⟩
theorem rcLt_int (A:Around)(s:Shared)(a:Int)(t:Tok)(c:Int)(u:Tok)(prog:Program)(w:World)(E:Value→Shared→Prop)(Q:Value→Shared→Prop)(h:Q (.bool (decide (a < c))) s) :
  wpAny (model prog w) A (richCompare .Lt (.int a t) (.int c u)) Q E s :=
 (PyProof.Rows.lt_int h:wpAny (model prog w) A (compareOp .Lt (.int a t) (.int c u)) Q E s)
section
open PySem.SeqAt
open PySem.AutoSeq1 (wpAny_loadPart')
open PySem.MeetsSeq PySem.MeetsSeq2 PySem.MeetsSeq3
theorem tuple_lt_ints (l b:Addr)(items items2:Array Value)(n n2:Nat)(dd dd2:Option Addr)(sl sl2:Array (Option Value))(ns ms:List Int)(hi:IntsAre items.toList ns)(hj:IntsAre items2.toList ms) :
  Meets (Builtin.«tuple.__lt__» ⟨[.ref l,.ref b],[]⟩)
   (fun _ R s=>s.heap.get? l=some { cls:=.type "tuple",dict:=dd,data:=.seq items n,slots:=sl }∧s.heap.get? b=some { cls:=.type "tuple",dict:=dd2,data:=.seq items2 n2,slots:=sl2 } ∧
    R (.ok (.ret (.bool (lexLt ns ms)))) s) :=
 .of_wp fun prog w A R s h=>by
  obtain ⟨hp,g,d,tk,os⟩:=s;obtain ⟨hl,hb,h⟩:=h
  have f2:=AutoSeq1.sub_tuple_tuple
  have z1:items.size=ns.length:=by rw [← hi.length];simp
  have z2:items2.size=ms.length:=by rw [← hj.length];simp
  wp_walk using wpAny_loadPart' hl,wpAny_loadPart' hb,wpAny_forIn_list _ (fun rest b s'=>b.1=none∧s'=⟨hp,g,d,tk,os⟩∧∃ (vs ws:List Value) (ns' ms':List Int),rest=vs.zip ws ∧
   IntsAre vs ns'∧IntsAre ws ms'∧ns'.length+items2.size=ms'.length+items.size∧R (.ok (.ret (.bool (lexLt ns' ms')))) ⟨hp,g,d,tk,os⟩) _
  case turn =>
   rintro ⟨y,x⟩ rest b s' ⟨hb',rfl,vs,ws,ns',ms',hz,hvi,hwi,hlen,hR⟩
   cases hvi with
   | nil=>rw [List.zip_nil_left] at hz;cases hz
   | cons a t hvi' =>
    cases hwi with
    | nil=>rw [List.zip_nil_right] at hz;cases hz
    | cons c u hwi' =>
     rw [List.zip_cons_cons] at hz
     injection hz with hyx hrest
     injection hyx with hy hx
     subst hy hx
     rw [lexLt_cons] at hR
     simp only [List.length_cons] at hlen
     obtain ⟨e,he,hiff⟩:=eqAt_int A.in1 ⟨hp,g,d,tk,os⟩ a t c u
     refine wpAny_bind (he prog w _ _ ?_)
     cases e with
     | true =>
      rw [if_pos (hiff.mp rfl)] at hR
      wp_walk
      exact ⟨rfl,rfl,_,_,_,_,hrest,hvi',hwi',by omega,hR⟩
     | false =>
      rw [if_neg (fun q=>absurd (hiff.mpr q) Bool.false_ne_true)] at hR
      have hri:=rcLt_int A.in1 ⟨hp,g,d,tk,os⟩ a t c u prog w
      wp_walk using hri
      exact ⟨_,rfl,by simpa using hR⟩
  case fin =>
   rintro ⟨b1,b2⟩ s' ⟨hb',rfl,vs,ws,ns',ms',hz,hvi,hwi,hlen,hR⟩
   simp only at hb'
   subst hb'
   have hv:lexLt ns' ms'=decide (items.size < items2.size):=by
    cases hvi with
    | nil =>
     cases hwi with
     | nil =>
      simp only [List.length_nil] at hlen
      rw [lexLt_nil_nil]
      exact (decide_eq_false (by omega)).symm
     | cons c u hw =>
      simp only [List.length_nil,List.length_cons] at hlen
      rw [lexLt_nil_cons]
      exact (decide_eq_true (by omega)).symm
    | cons a t hv =>
     cases hwi with
     | nil =>
      simp only [List.length_nil,List.length_cons] at hlen
      rw [lexLt_cons_nil]
      exact (decide_eq_false (by omega)).symm
     | cons c u hw =>
      rw [List.zip_cons_cons] at hz
      cases hz
   rw [hv] at hR
   wp_walk
   exact ⟨_,rfl,by simpa [Builtin.Tuple.tupleCompareSizes] using hR⟩
  case h =>
   exact ⟨rfl,rfl,items.toList,items2.toList,ns,ms,rfl,hi,hj,by omega,h⟩
end
section
variable {prog:Program} {w:World} {A:Around} {E:Value→Shared→Prop} {s:Shared}
theorem lt_tupInts {l b:Addr}{items items2:Array Value}{ns ms:List Int}{Q:Value→Shared→Prop}(hl:IsTup s.heap l items)(hb:IsTup s.heap b items2)(hi:IntsAre items.toList ns)(hj:IntsAre items2.toList ms)
  (hu:A.units < cLine) (h:Q (.bool (lexLt ns ms)) s):wpAny (model prog w) A (compareOp .Lt (.ref l) (.ref b)) Q E s:=by
 obtain ⟨⟨cls,dd,data,sl⟩,ho,hc,n,hd⟩:=id hl
 obtain ⟨⟨cls2,dd2,data2,sl2⟩,ho2,hc2,n2,hd2⟩:=id hb
 simp only at hc hd hc2 hd2
 subst hc hd hc2 hd2
 exact richCompare_meets_room (op:=.Lt) ⟨_,ho,rfl⟩ ⟨_,ho2,rfl⟩ PySem.F.slot_tuple_lt PySem.F.entry_tuple_lt (PySem.F.args_tuple_lt_2 _ _) (tuple_lt_ints l b items items2 n n2 dd dd2 sl sl2 ns ms hi hj)
  ⟨ho,ho2,show Value.bool (lexLt ns ms)≠Value.notImplemented∧Q (.bool (lexLt ns ms)) s from ⟨(fun x=>nomatch x),h⟩⟩ hu
noncomputable def sIx (n d:Nat):Option Int→Nat
 | none=>d
 | some v=>if v < 0 then (v+(n:Int)).toNat else min v.toNat n
theorem sIx_none (n d:Nat):sIx n d none=d:=rfl
theorem sIx_nat (n d k:Nat):sIx n d (some (k:Int))=min k n:=by
 show (if (k:Int) < 0 then ((k:Int)+(n:Int)).toNat else min (k:Int).toNat n)=min k n
 rw [if_neg (by omega),Int.toNat_natCast]
theorem sIx_le (n d:Nat)(hd:d≤n)(o:Option Int):sIx n d o≤n:=by
 cases o with
 | none=>exact hd
 | some v =>
  show (if v < 0 then (v+(n:Int)).toNat else min v.toNat n)≤n
  by_cases hv:v < 0
  ·rw [if_pos hv];omega
  ·rw [if_neg hv];exact Nat.min_le_right _ _
end
end HT
namespace L2
open PySem PySem.Spec PyProof.Rows
noncomputable abbrev TO:=St→Hp→(Option Int→Hp→Prop)→Prop
noncomputable def PO (X:Cx)(e:Option Expr)(t:TO):Prop :=
 ∀ (pins:List (Addr × Obj)) (s:Shared) (σ:St) (H:Hp) (Q:Option Int→Hp→Prop),Inv X pins σ H s→t σ H Q →
  wpAny (model X.prog X.w) X.A (evalPart e X.env) (fun u s'=>∃ o H',Inv X pins σ H' s'∧IsPart u o∧Q o H') X.xe s
noncomputable def tNoPart:TO:=fun _ H Q=>Q none H
inductive IsI (x:V)(H:Hp)(Q:Option Int→Hp→Prop):Prop
 | mk:∀ i,(x = .int i)→(Q (some i) H)→IsI x H Q
noncomputable def tPart_k1 (Q:(Option Int→Hp→Prop)):V→Hp→Prop:=fun x H1=>IsI x H1 Q
noncomputable def tPart (t:TE):TO:=fun σ H Q=>t σ H (tPart_k1 Q)
theorem intsAre_of {ns:List Int}:∀ {us:List Value},Vals (ns.map V.int) us→IntsAre us ns:=by
 induction ns with
 | nil=>intro us r;rw [List.map_nil] at r;cases r;exact .nil
 | cons n ns ih =>
  intro us r
  rw [List.map_cons] at r
  cases r with
  | cons r1 r2 =>
   obtain ⟨t,e⟩:=r1
   subst e
   exact .cons n t (ih r2)
section
variable {X:Cx} {e:Expr} {te:TE} {lo hi:Option Expr} {tl th:TO} {pos p2:Pos}
theorem po_none:PO X none tNoPart:=by
 intro pins s σ H Q I h
 rw [evalPart_none]
 exact wpAny_pure ⟨none,H,I,.none,h⟩
theorem po_some (h:PE X e te):PO X (some e) (tPart te):=by
 intro pins s σ H Q I hw
 rw [evalPart_some]
 refine thn (h pins s σ H _ I hw) fun u s1 zq62=>?_
 obtain ⟨x,H1,I1,r1,q1⟩:=zq62
 obtain ⟨i,rfl,q⟩:=q1
 obtain ⟨t,rfl⟩:=r1
 exact ⟨some i,H1,I1,.int i t,q⟩
noncomputable def SlR (X:Cx)(r:V→Option Int→Option Int→Hp→VK→Prop):Prop :=
 ∀ (pins:List (Addr × Obj)) (s:Shared) (σ:St) (H:Hp) (x:V) (v vl vu:Value) (lo hi:Option Int) (sl:Addr) (Q:VK),Inv X pins σ H s→RelV x v→s.heap.IsSliceOf sl vl vu .none→IsPart vl lo→IsPart vu hi→r x lo hi H Q →
  ∃ T id,typeLookup (.type T) "__getitem__" = pure (some (.builtin id))∧s.TypeIs v T∧wpAny (model X.prog X.w) X.A (getItem v (.ref sl)) (EP X pins σ Q) X.xe s
noncomputable def tSl_k1 (r:V→Option Int→Option Int→Hp→VK→Prop)(Q:VK)(x:V)(l:Option Int):Option Int→Hp→Prop:=fun u H3=>r x l u H3 Q
noncomputable def tSl_k2 (r:V→Option Int→Option Int→Hp→VK→Prop)(th:TO)(σ:St)(Q:VK)(x:V):Option Int→Hp→Prop:=fun l H2=>th σ H2 (tSl_k1 r Q x l)
noncomputable def tSl_k3 (r:V→Option Int→Option Int→Hp→VK→Prop)(tl:TO)(th:TO)(σ:St)(Q:VK):V→Hp→Prop:=fun x H1=>tl σ H1 (tSl_k2 r th σ Q x)
noncomputable def tSl (r:V→Option Int→Option Int→Hp→VK→Prop)(te:TE)(tl th:TO):TE:=fun σ H Q=>te σ H (tSl_k3 r tl th σ Q)
theorem pe_slice {r:V→Option Int→Option Int→Hp→VK→Prop}(hr:SlR X r)(he:PE X e te)(hl:PO X lo tl)(hu:PO X hi th):PE X (.Subscript e (.Slice lo hi none p2) pos) (tSl r te tl th):=by
 intro pins s σ H Q I h
 refine Subscript_ (thn (he pins s σ H _ I h) fun v s1 zq63=>?_)
 obtain ⟨x,H1,I1,r1,q1⟩:=zq63
 refine wpAny_Slice (thn (hl pins s1 σ H1 _ I1 q1) fun vl s2 ⟨l,H2,I2,pl,q2⟩=>thn (hu pins s2 σ H2 _ I2 q2) fun vu s3 zq64=>?_)
 obtain ⟨u,H3,I3,pu,q3⟩:=zq64
 rw [evalPart_none]
 refine wpAny_pure ?_
 have I4:Inv X pins σ H3 { s3 with heap:=s3.heap.push { cls:=.type "slice",data:=.fields #[vl,vu,.none] } }:=(I3.kept (t':=s3.toks) fun b ob q=>Heap.get?_push_of_some _ q).up I3.low
 obtain ⟨T,id,hT,ht,hg⟩:=hr pins { s3 with heap:=s3.heap.push { cls:=.type "slice",data:=.fields #[vl,vu,.none] } } σ H3 x v vl vu l u s3.heap.objs.size Q I4 r1 (Heap.IsSliceOf.new ..) pl pu q3
 show wpAny (model X.prog X.w) X.A (subscriptTail e (.Slice lo hi none p2) v (.ref s3.heap.objs.size)) (EP X pins σ Q) X.xe { s3 with heap:=s3.heap.push { cls:=.type "slice",data:=.fields #[vl,vu,.none] } }
 exact tail_any (ops:=[.ref s3.heap.objs.size,v]) ht hT hg (by with_unfolding_all rfl)
noncomputable def cutV (xs:List V)(lo hi:Option Int):List V:=(xs.drop (HT.sIx xs.length 0 lo)).take (HT.sIx xs.length xs.length hi - HT.sIx xs.length 0 lo)
theorem cutV_length (xs:List V)(lo hi:Option Int):(cutV xs lo hi).length≤xs.length:=by
 unfold cutV
 rw [List.length_take,List.length_drop]
 omega
inductive rLtT (K:PySem.W.Frag)(x:V)(y:V)(H:Hp)(Q:VK):Prop
 | mk:∀ a b ns ms,(x = .ref a)→(y = .ref b)→(SqT K H a (ns.map V.int))→(SqT K H b (ms.map V.int))→(Q (.bl (HT.lexLt ns ms)) H)→rLtT K x y H Q
theorem op_ltT (hu:X.A.units < cLine):OpR X (compareOp .Lt) (rLtT X.K):=by
 intro pins s σ H x y v u Q I rx ry h
 obtain ⟨a,b,ns,ms,rfl,rfl,ha,hb,q⟩:=h
 cases rx
 cases ry
 obtain ⟨its,r1,p1,_⟩:=I.tuple ha
 obtain ⟨its2,r2,p2,_⟩:=I.tuple hb
 have i1:IntsAre its.toArray.toList ns:=intsAre_of r1
 have i2:IntsAre its2.toArray.toList ms:=intsAre_of r2
 exact HT.lt_tupInts p1 p2 i1 i2 hu ⟨.bl (HT.lexLt ns ms),H,I,rfl,q⟩
end
end L2
namespace L2
open PySem PySem.Spec PyProof.Rows
noncomputable def ixN (n:Nat)(i:Int):Option Nat:=if 0≤i then (if i < n then some i.toNat else none) else if -(n:Int)≤i then some (i+n).toNat else none
noncomputable def atI {α:Type}(xs:List α)(i:Int):Option α:=(ixN xs.length i).bind fun j=>xs[j]?
theorem ixN_seq {n:Nat}{i:Int}{j:Nat}(h:ixN n i=some j):seqIndex? i n=some j∧j < n∧-(n:Int)≤i∧i < n:=by
 unfold ixN at h
 by_cases h0:0≤i
 ·rw [if_pos h0] at h
  by_cases h1:i < n
  ·rw [if_pos h1] at h
   have e:i.toNat=j:=Option.some.inj h
   exact ⟨by rw [seqIndex_of h0 h1,e],by omega,by omega,h1⟩
  ·rw [if_neg h1] at h;cases h
 ·rw [if_neg h0] at h
  by_cases h1:-(n:Int)≤i
  ·rw [if_pos h1] at h
   have e:(i+n).toNat=j:=Option.some.inj h
   exact ⟨by rw [seqIndex_neg (by omega) h1,e],by omega,h1,by omega⟩
  ·rw [if_neg h1] at h;cases h
theorem atI_get {α:Type}{xs:List α}{i:Int}{v:α}(h:atI xs i=some v):∃ j,seqIndex? i xs.length=some j∧xs[j]? = some v∧j < xs.length∧-(xs.length:Int)≤i∧i < xs.length:=by
 unfold atI at h
 cases e:ixN xs.length i with
 | none=>rw [e] at h;cases h
 | some j =>
  rw [e] at h
  obtain ⟨h1,h2,h3,h4⟩:=ixN_seq e
  exact ⟨j,h1,h,h2,h3,h4⟩
theorem atI_nat {α:Type}{xs:List α}{j:Nat}{v:α}(h:xs[j]? = some v):atI xs (j:Int)=some v:=by
 have hj:j < xs.length:=(List.getElem?_eq_some_iff.mp h).1
 have e:ixN xs.length (j:Int)=some j:=by
  unfold ixN
  rw [if_pos (by omega),if_pos (by omega)];simp
 unfold atI;rw [e];exact h
noncomputable def PlainIx (b:Expr):Prop:=∀ o i,subscripted b false o i=operate [o,i] (getItem o i)
noncomputable def IxR (X:Cx)(r:R2):Prop :=
 ∀ (value slice:Expr) (pins:List (Addr × Obj)) (s:Shared) (σ:St) (H:Hp) (x y:V) (v u:Value) (Q:VK),Inv X pins σ H s→RelV x v→RelV y u→r x y H Q →
  subscripted slice false v u=operate [v,u] (getItem v u)→wpAny (model X.prog X.w) X.A (subscriptTail value slice v u) (EP X pins σ Q) X.xe s
noncomputable def MtR (X:Cx)(id:String)(r:V→List V→Hp→VK→Prop):Prop :=
 ∀ (pins:List (Addr × Obj)) (s:Shared) (σ:St) (H:Hp) (x:V) (xs:List V) (v:Value) (us:List Value) (Q:VK),Inv X pins σ H s→RelV x v→Vals xs us→r x xs H Q →
  wpAny (model X.prog X.w) X.A (call (.builtin id) (v::us)) (EP X pins σ Q) X.xe s
section
variable {X:Cx} {a b:Expr} {ta tb:TE} {pos:Pos}
theorem pe_ix {r:R2}(hr:IxR X r)(ha:PE X a ta)(hb:PE X b tb)(hs:PlainIx b):PE X (.Subscript a b pos) (tOp r ta tb):=by
 intro pins s σ H Q I h
 exact Subscript_ (binT ha hb I h fun v u s2 x y H2 I2 rx ry q=>hr a b pins s2 σ H2 x y v u Q I2 rx ry q (hs _ _))
inductive rIxL (K:PySem.W.Frag)(x:V)(y:V)(H:Hp)(Q:VK):Prop
 | mk:∀ p xs i v,(x = .ref p)→(y = .int i)→(SqL K H p xs)→(atI xs i=some v)→(Q v H)→rIxL K x y H Q
inductive rIxT (K:PySem.W.Frag)(x:V)(y:V)(H:Hp)(Q:VK):Prop
 | mk:∀ p xs i v,(x = .ref p)→(y = .int i)→(SqT K H p xs)→(atI xs i=some v)→(Q v H)→rIxT K x y H Q
inductive rIxS (x:V)(y:V)(H:Hp)(Q:VK):Prop
 | mk:∀ z i c,(x = .str z)→(y = .int i)→(z.length≤sizeLine)→(atI z.cps.toList i=some c)→(Q (.str ⟨#[c]⟩) H)→rIxS x y H Q
theorem ix_list:IxR X (rIxL X.K):=by
 intro value slice pins s σ H x y v u Q I rx ry h hs
 obtain ⟨p,xs,i,z,rfl,rfl,hq,he,q⟩:=h
 cases rx
 obtain ⟨t,rfl⟩:=ry
 obtain ⟨its,r,pl,hz⟩:=I.list hq
 obtain ⟨j,h1,h2,h3,h4,h5⟩:=atI_get he
 obtain ⟨w,ew,rw'⟩:=r.get h2
 have hl:=r.length
 have hn:=line63
 have fin:EP X pins σ Q w s:=⟨z,H,I,rw',q⟩
 by_cases h0:0≤i
 ·have hj:i.toNat=j:=by
   rw [seqIndex_of h0 h5] at h1
   exact Option.some.inj h1
  exact item_listR pl.isList h0 (by omega) (by rw [hj];simpa using ew) fin hs
 ·have hj:(i+(its.toArray.size:Int)).toNat=j:=by
   rw [seqIndex_neg (by omega) h4] at h1
   rw [List.size_toArray,← hl]
   exact Option.some.inj h1
  exact subscriptTail_builtinR (x:=w) pl.isList.typeIs slot_list_getitem.lookup
   (wpAny_getItem_list_neg (Q:=fun r s'=>r=w∧EP X pins σ Q r s') pl.isList (by omega) (by rw [List.size_toArray] <;> omega) (by omega) (by rw [hj];simpa using ew) ⟨rfl,fin⟩) hs
theorem ix_tup:IxR X (rIxT X.K):=by
 intro value slice pins s σ H x y v u Q I rx ry h hs
 obtain ⟨p,xs,i,z,rfl,rfl,hq,he,q⟩:=h
 cases rx
 obtain ⟨t,rfl⟩:=ry
 obtain ⟨its,r,pl,hz⟩:=I.tuple hq
 obtain ⟨j,h1,h2,h3,h4,h5⟩:=atI_get he
 obtain ⟨w,ew,rw'⟩:=r.get h2
 have hl:=r.length
 have hn:=line63
 have fin:EP X pins σ Q w s:=⟨z,H,I,rw',q⟩
 exact subscriptTail_builtinR (x:=w) pl.typeIs slot_tuple_getitem.lookup
  (getItem_tuple (j:=j) (Q:=fun r s'=>r=w∧EP X pins σ Q r s') pl (by omega) (by omega) (by rw [List.size_toArray,← hl];exact h1) (by simpa using ew) ⟨rfl,fin⟩) hs
theorem ix_str:IxR X rIxS:=by
 intro value slice pins s σ H x y v u Q I rx ry h hs
 obtain ⟨z,i,c,rfl,rfl,hz,he,q⟩:=h
 obtain ⟨t,rfl⟩:=rx
 obtain ⟨t',rfl⟩:=ry
 obtain ⟨j,h1,h2,h3,h4,h5⟩:=atI_get he
 have hl:z.cps.toList.length=z.length:=by simp [Str.length]
 rw [hl] at h1 h4 h5
 have hn:=line63
 exact tail_any (typeIs_str s z t) slot_str_getitem.lookup (getItem_str (c:=c) (by
  have e1:decide (i < -(2 ^ 63:Int))=false:=decide_eq_false (by omega)
  have e2:decide (i≥2 ^ 63)=false:=decide_eq_false (by omega)
  rw [e1,e2,Bool.or_false]) (by rw [h1];simpa using h2) ⟨.str ⟨#[c]⟩,H,I.tok _,⟨_,rfl⟩,q⟩) hs
theorem Inv.lst {pins:List (Addr × Obj)}{σ:St}{H:Hp}{s:Shared}{p:Addr}{xs:List V}(I:Inv X pins σ H s)(h:H p=some (.lst xs)) :
  ∃ (its:List Value) (n:Nat),Vals xs its∧s.heap.get? p=some { cls:=.type "list",data:=.seq its.toArray n }∧xs.length≤sizeLine:=by
 obtain ⟨z,its,n,r,e⟩:=I.hok p _ h
 exact ⟨its,n,r,e,z⟩
theorem slice_bounds (lo hi:Option Int)(n:Nat):(sliceBounds lo hi none n).1=((HT.sIx n 0 lo:Nat):Int)∧(sliceBounds lo hi none n).2.1=((HT.sIx n n hi:Nat):Int)∧(sliceBounds lo hi none n).2.2=1:=by
 refine ⟨?_,?_,rfl⟩
 ·cases lo with
  | none=>simp [sliceBounds,HT.sIx]
  | some i =>
   simp only [sliceBounds,HT.sIx,Option.getD_none,show (1:Int) > 0 by decide,if_true]
   by_cases h:i < 0
   ·simp only [h,if_true] <;> omega
   ·simp only [h,if_false] <;> omega
 ·cases hi with
  | none=>simp [sliceBounds,HT.sIx]
  | some i =>
   simp only [sliceBounds,HT.sIx,Option.getD_none,show (1:Int) > 0 by decide,if_true]
   by_cases h:i < 0
   ·simp only [h,if_true] <;> omega
   ·simp only [h,if_false] <;> omega
theorem slicePick_cut (its:List Value)(lo hi:Option Int):slicePick its.toArray lo hi none=((its.drop (HT.sIx its.length 0 lo)).take (HT.sIx its.length its.length hi - HT.sIx its.length 0 lo)).toArray:=by
 obtain ⟨h1,h2,h3⟩:=slice_bounds lo hi its.toArray.size
 unfold slicePick
 rw [h1,h2,h3]
 simp only [sliceRange_one,pick_run,List.size_toArray] <;> rfl
inductive rSlL (K:PySem.W.Frag)(x:V)(lo:Option Int)(hi:Option Int)(H:Hp)(Q:VK):Prop
 | mk:∀ a xs,(x = .ref a)→(SqL K H a xs)→(∀ p,H p=none→Q (.ref p) (upd H p (.lst (cutV xs lo hi))))→rSlL K x lo hi H Q
theorem sl_list:SlR X (rSlL X.K):=by
 intro pins s σ H x v vl vu lo hi sl Q I rx hs pl pu h
 obtain ⟨a,xs,rfl,hx,q⟩:=h
 cases rx
 obtain ⟨its,r,ht,hz⟩:=I.list hx
 have hlen:=r.length
 refine ⟨"list",_,slot_list_getitem.lookup,ht.isList.typeIs,?_⟩
 refine wpAny_getItem_list_slice ht.isList hs pl pu .none (by simp) ?_ (by rw [List.size_toArray] <;> omega)
 rw [slicePick_cut,← hlen]
 refine ⟨.ref s.heap.objs.size,_,I.laid (t':=s.toks) (o:=.lst (cutV xs lo hi)) (fun b ob q=>Heap.get?_push_of_some _ q) (Nat.le_refl _) ?_,rfl,q _ (I.hok.fresh (Nat.le_refl _))⟩
 exact ⟨Nat.le_trans (cutV_length xs lo hi) hz,_,0,(r.drop (HT.sIx xs.length 0 lo)).take (HT.sIx xs.length xs.length hi - HT.sIx xs.length 0 lo),Heap.get?_push_size _ rfl⟩
noncomputable def flatV:V→Bool
 | .non=>true
 | .bl _=>true
 | .int _=>true
 | .str _=>true
 | _=>false
noncomputable def eqV:V→V→Bool
 | .non,.non=>true
 | .bl a,.bl b=>a == b
 | .bl a,.int b=>(if a then 1 else 0) == b
 | .int a,.bl b=>a == (if b then 1 else 0)
 | .int a,.int b=>a == b
 | .str a,.str b=>a == b
 | _,_=>false
theorem eqAt_V {A:Around}{s:Shared}{y x:V}{u v:Value}(ry:RelV y u)(rx:RelV x v)(fy:flatV y=true)(fx:flatV x=true):SeqAt.EqAt A s u v (eqV y x):=by
 cases y with
 | non =>
  cases ry
  cases x with
  | non=>cases rx;exact SeqAt.EqAt.same _
  | bl b=>cases rx;exact SeqAt.EqAt.none_bool b
  | int b=>obtain ⟨t,rfl⟩:=rx;exact SeqAt.EqAt.none_int b t
  | str b=>obtain ⟨t,rfl⟩:=rx;exact SeqAt.EqAt.none_str b t
  | _=>exact absurd (show false=true from fx) Bool.false_ne_true
 | bl a =>
  cases ry
  cases x with
  | non=>cases rx;exact SeqAt.EqAt.bool_none a
  | bl b=>cases rx;exact SeqAt.EqAt.bool_bool a b
  | int b=>obtain ⟨t,rfl⟩:=rx;exact SeqAt.EqAt.bool_int a b t
  | str b=>obtain ⟨t,rfl⟩:=rx;exact SeqAt.EqAt.bool_str a b t
  | _=>exact absurd (show false=true from fx) Bool.false_ne_true
 | int a =>
  obtain ⟨t',rfl⟩:=ry
  cases x with
  | non=>cases rx;exact SeqAt.EqAt.int_none a t'
  | bl b=>cases rx;exact SeqAt.EqAt.int_bool a t' b
  | int b=>obtain ⟨t,rfl⟩:=rx;exact SeqAt.EqAt.int_int a t' b t
  | str b=>obtain ⟨t,rfl⟩:=rx;exact SeqAt.EqAt.int_str a t' b t
  | _=>exact absurd (show false=true from fx) Bool.false_ne_true
 | str a =>
  obtain ⟨t',rfl⟩:=ry
  cases x with
  | non=>cases rx;exact SeqAt.EqAt.str_none a t'
  | bl b=>cases rx;exact SeqAt.EqAt.str_bool a t' b
  | int b=>obtain ⟨t,rfl⟩:=rx;exact SeqAt.EqAt.str_int a t' b t
  | str b=>obtain ⟨t,rfl⟩:=rx;exact SeqAt.EqAt.str_str a t' b t
  | _=>exact absurd (show false=true from fx) Bool.false_ne_true
 | _=>exact absurd (show false=true from fy) Bool.false_ne_true
noncomputable def eqU (x:V)(u:Value):Bool:=match u with
 | .none=>eqV .non x
 | .bool b=>eqV (.bl b) x
 | .int i _=>eqV (.int i) x
 | .str z _=>eqV (.str z) x
 | _=>false
theorem eqU_of {x y:V}{u:Value}(r:RelV y u)(f:flatV y=true):eqU x u=eqV y x:=by
 cases y with
 | non=>cases r;rfl
 | bl b=>cases r;rfl
 | int i=>obtain ⟨t,rfl⟩:=r;rfl
 | str z=>obtain ⟨t,rfl⟩:=r;rfl
 | _=>exact absurd (show false=true from f) Bool.false_ne_true
theorem any_eqU {x:V}:∀ {xs:List V} {us:List Value},Vals xs us→xs.all flatV=true→us.any (eqU x)=xs.any fun y=>eqV y x
 | _,_,.nil,_=>rfl
 | y::xs,u::us,.cons r t,f=>by
  rw [List.all_cons,Bool.and_eq_true] at f
  rw [List.any_cons,List.any_cons,eqU_of r f.1,any_eqU t f.2]
theorem mem_eqAt {A:Around}{s:Shared}{x:V}{v:Value}(rx:RelV x v)(fx:flatV x=true):∀ {xs:List V} {us:List Value},Vals xs us→xs.all flatV=true→∀ u∈us,SeqAt.EqAt A s u v (eqU x u)
 | _,_,.nil,_=>fun u hu=>by cases hu
 | y::xs,u::us,.cons r t,f=>fun u' hu=>by
  rw [List.all_cons,Bool.and_eq_true] at f
  rcases List.mem_cons.mp hu with rfl | hu
  ·rw [eqU_of r f.1];exact eqAt_V r rx f.1 fx
  ·exact mem_eqAt rx fx t f.2 u' hu
noncomputable def inV (x:V)(xs:List V):Bool:=xs.any fun y=>eqV y x
inductive rIn (K:PySem.W.Frag)(neg:Bool)(x:V)(y:V)(H:Hp)(Q:VK):Prop
 | mk:∀ p xs,(y = .ref p)→((SqL K H p xs ∨ SqT K H p xs))→(flatV x=true)→(xs.all flatV=true)→(Q (.bl (if neg then !inV x xs else inV x xs)) H)→rIn K neg x y H Q
theorem op_notIn_seq:OpR X (compareOp .NotIn) (rIn X.K true):=by
 intro pins s σ H x y v u Q I rx ry h
 obtain ⟨p,xs,rfl,hq,fx,fs,q⟩:=h
 cases ry
 rcases hq with hq | hq
 ·obtain ⟨its,r,pl,hz⟩:=I.list hq
  refine SeqAt.notIn_listAt (eqU x) pl.isList (fun w hw=>mem_eqAt rx fx r fs w (by simpa using hw)) ⟨.bl _,H,I,rfl,?_⟩
  rw [show its.toArray.any (eqU x)=its.any (eqU x) by simp,any_eqU r fs]
  exact q
 ·obtain ⟨its,r,pl,hz⟩:=I.tuple hq
  refine SeqAt.notIn_tupleAt (eqU x) pl (fun w hw=>mem_eqAt rx fx r fs w (by simpa using hw)) ⟨.bl _,H,I,rfl,?_⟩
  rw [show its.toArray.any (eqU x)=its.any (eqU x) by simp,any_eqU r fs]
  exact q
inductive call_len_seq_r (K:PySem.W.Frag)(xs:List V)(H:Hp)(Q:VK):Prop
 | mk:∀ p ys,(xs=[.ref p])→((SqL K H p ys ∨ SqT K H p ys))→(Q (.int ys.length) H)→call_len_seq_r K xs H Q
theorem call_len_seq:CallR X (.builtin "len") (call_len_seq_r X.K):=by
 intro pins s σ H xs us Q I r h
 obtain ⟨p,ys,rfl,hq,q⟩:=h
 obtain ⟨u,rfl,rx⟩:=vals1 r
 cases rx
 have hn:=line63
 rcases hq with hq | hq
 ·obtain ⟨its,r',pl,hz⟩:=I.list hq
  have hlen:=r'.length
  exact Calls.call_len_list pl.isList (by simp only [List.size_toArray] <;> omega) ⟨.int ys.length,H,I.tok _,⟨s.toks+1,by rw [List.size_toArray,hlen]⟩,q⟩
 ·obtain ⟨its,r',pl,hz⟩:=I.tuple hq
  have hlen:=r'.length
  exact len_tuple pl (by simp only [List.size_toArray] <;> omega) ⟨.int ys.length,H,I.tok _,⟨s.toks+1,by rw [List.size_toArray,hlen]⟩,q⟩
inductive call_len_str_r  (xs:List V)(H:Hp)(Q:VK):Prop
 | mk:∀ z,(xs=[.str z])→(z.length≤sizeLine)→(Q (.int z.length) H)→call_len_str_r xs H Q
theorem call_len_str:CallR X (.builtin "len") call_len_str_r:=by
 intro pins s σ H xs us Q I r h
 obtain ⟨z,rfl,hz,q⟩:=h
 obtain ⟨u,rfl,t,rfl⟩:=vals1 r
 have hn:=line63
 exact len_str (by omega) ⟨.int z.length,H,I.tok _,⟨_,rfl⟩,q⟩
inductive call_list_of_r (K:PySem.W.Frag)(xs:List V)(H:Hp)(Q:VK):Prop
 | mk:∀ p ys,(xs=[.ref p])→((SqL K H p ys ∨ SqT K H p ys))→(∀ l,H l=none→Q (.ref l) (upd H l (.lst ys)))→call_list_of_r K xs H Q
theorem call_list_of:CallR X (.type "list") (call_list_of_r X.K):=by
 intro pins s σ H xs us Q I r h
 obtain ⟨p,ys,rfl,hq,q⟩:=h
 obtain ⟨u,rfl,rx⟩:=vals1 r
 cases rx
 have fin:∀ (its:List Value),Vals ys its→ys.length≤sizeLine→∀ (h':Heap) (c':Nat),(∀ b o',s.heap.get? b=some o'→h'.get? b=some o') →
   h'.get? s.heap.objs.size=some { cls:=.type "list",dict:=none,data:=.seq its.toArray c',slots:=#[] }→EP X pins σ Q (.ref s.heap.objs.size) { s with heap:=h' }:=fun its r' hz h' c' kp e =>
  ⟨.ref s.heap.objs.size,_,I.laid (t':=s.toks) kp (Nat.le_refl _) (show ObjOk X.prog X.w _ h' _ (.lst ys) from ⟨hz,its,c',r',e⟩),rfl,q _ (I.hok.fresh (Nat.le_refl _))⟩
 rcases hq with hq | hq
 ·obtain ⟨its,r',pl,hz⟩:=I.list hq
  have hlen:=r'.length
  obtain ⟨o,ho,hc,n,hd⟩:=pl.isList
  exact call_list_seq p (.inl rfl) ho hc hd (fun h' c' kp e=>fin its r' hz h' c' kp e) (by simp only [List.size_toArray] <;> omega)
 ·obtain ⟨its,r',pl,hz⟩:=I.tuple hq
  have hlen:=r'.length
  obtain ⟨o,ho,hc,n,hd⟩:=pl
  exact call_list_seq p (.inr rfl) ho hc hd (fun h' c' kp e=>fin its r' hz h' c' kp e) (by simp only [List.size_toArray] <;> omega)
inductive call_tuple_of_r (K:PySem.W.Frag)(xs:List V)(H:Hp)(Q:VK):Prop
 | mk:∀ p ys,(xs=[.ref p])→(((SqL K H p ys∧∀ l,H l=none→Q (.ref l) (upd H l (.tup ys))) ∨ (SqT K H p ys∧Q (.ref p) H)))→call_tuple_of_r K xs H Q
theorem call_tuple_of:CallR X (.type "tuple") (call_tuple_of_r X.K):=by
 intro pins s σ H xs us Q I r h
 obtain ⟨p,ys,rfl,h⟩:=h
 obtain ⟨u,rfl,rx⟩:=vals1 r
 cases rx
 rcases h with ⟨hq,q⟩ | ⟨hq,q⟩
 ·obtain ⟨its,r',pl,hz⟩:=I.list hq
  have hlen:=r'.length
  refine call_tuple_list pl.isList (fun h' kp=>?_) (by simp only [List.size_toArray] <;> omega)
  have I1:InvW X pins σ H { s with heap:=h' }:=I.kept (t':=s.toks) kp
  have I2:InvW X pins σ (upd H h'.objs.size (.tup ys)) { s with heap:=h'.push { cls:=.type "tuple",data:=.seq its.toArray } } :=
   I1.laid (t':=s.toks) (fun b o e=>Heap.get?_push_of_some _ e) (Nat.le_refl _) (show ObjOk X.prog X.w _ _ _ (.tup ys) from ⟨hz,its,r',IsTup.new _ _,.new _ _ rfl⟩)
  exact ⟨.ref h'.objs.size,_,I2,rfl,q _ (I1.hok.fresh (Nat.le_refl _))⟩
 ·obtain ⟨its,r',pl,hz⟩:=I.tuple hq
  exact call_tuple_same pl ⟨.ref p,H,I,rfl,q⟩
noncomputable def tyV (K:PySem.W.Frag)(T:String)(x:V)(H:Hp):Prop:=match x with
 | .str _=>T = "str"
 | .int _=>T = "int"
 | .ref p=>(T = "list"∧∃ xs,SqL K H p xs) ∨ (T = "tuple"∧((∃ o,K.lookup p=some o∧o.cls = .type "tuple"∧o.dict=none) ∨ ∃ xs,H p=some (.tup xs))) ∨
   (T = "dict"∧((∃ kvs,H p=some (.dK kvs)) ∨ ∃ kvs,H p=some (.dT kvs))) ∨ (T = "set"∧∃ S n,H p=some (.set S n))
 | _=>False
theorem tyV_is {pins:List (Addr × Obj)}{σ:St}{H:Hp}{s:Shared}{T:String}{x:V}{v:Value}(I:Inv X pins σ H s)(r:RelV x v)(ty:tyV X.K T x H) :
  s.TypeIs v T∧∀ a,v = .ref a→∃ ob,s.heap.get? a=some ob∧ob.dict=none:=by
 cases x with
 | str z =>
  obtain ⟨t,rfl⟩:=r
  cases (show T = "str" from ty)
  exact ⟨typeIs_str s z t,fun _ e=>nomatch e⟩
 | int i =>
  obtain ⟨t,rfl⟩:=r
  cases (show T = "int" from ty)
  exact ⟨typeIs_int s i t,fun _ e=>nomatch e⟩
 | ref p =>
  cases r
  rcases ty with ⟨rfl,xs,hq⟩ | ⟨rfl,⟨o,hk,hc,hd⟩ | ⟨xs,hk⟩⟩ | ⟨rfl,hk⟩ | ⟨rfl,S,n,hk⟩
  ·obtain ⟨its,_,pl,_⟩:=I.list hq
   refine ⟨pl.isList.typeIs,fun a e=>?_⟩
   cases e
   obtain ⟨o,n,e,c,hd,_⟩:=pl
   exact ⟨o,e,hd⟩
  ·refine ⟨⟨o,I.kIn p o hk,hc⟩,fun a e=>?_⟩
   cases e
   exact ⟨o,I.kIn _ o hk,hd⟩
  ·obtain ⟨_,_,_,⟨o,e,hc,_⟩,hn⟩:=I.hok p _ hk
   refine ⟨⟨o,e,hc⟩,fun a e=>?_⟩
   cases e
   exact hn
  ·have z:∃ o,s.heap.get? p=some o∧o.ExactDict:=by
    rcases hk with ⟨kvs,hk⟩ | ⟨kvs,hk⟩
    ·obtain ⟨_,_,_,_,o,_,_,e,ex,_⟩:=I.hok p _ hk
     exact ⟨o,e,ex⟩
    ·obtain ⟨_,_,_,_,o,_,_,e,ex,_⟩:=I.hok p _ hk
     exact ⟨o,e,ex⟩
   obtain ⟨o,e,ex⟩:=z
   refine ⟨⟨o,e,ex.1⟩,fun a e2=>?_⟩
   cases e2
   exact ⟨o,e,ex.2.1⟩
  ·obtain ⟨o,_,_,_,e,ex,_⟩:=I.hok p _ hk
   refine ⟨⟨o,e,ex.1⟩,fun a e2=>?_⟩
   cases e2
   exact ⟨o,e,ex.2.1⟩
 | _=>exact False.elim ty
noncomputable def tBM0_k1 (K:PySem.W.Frag)(T:String)(r:V→List V→Hp→VK→Prop)(Q:VK):V→Hp→Prop:=fun x H1=>tyV K T x H1∧r x [] H1 Q
noncomputable def tBM0 (K:PySem.W.Frag)(T:String)(r:V→List V→Hp→VK→Prop)(to:TE):TE:=fun σ H Q=>to σ H (tBM0_k1 K T r Q)
noncomputable def tBM_k1 (r:V→List V→Hp→VK→Prop)(Q:VK)(x:V):List V→Hp→Prop:=fun xs H2=>r x xs H2 Q
noncomputable def tBM_k2 (K:PySem.W.Frag)(T:String)(r:V→List V→Hp→VK→Prop)(t:TA)(σ:St)(Q:VK):V→Hp→Prop:=fun x H1=>tyV K T x H1∧t σ H1 (tBM_k1 r Q x)
noncomputable def tBM (K:PySem.W.Frag)(T:String)(r:V→List V→Hp→VK→Prop)(to:TE)(t:TA):TE:=fun σ H Q=>to σ H (tBM_k2 K T r t σ Q)
variable {o e:Expr} {es:List Expr} {to:TE} {t:TA} {name:Str} {apos cpos:Pos} {T id:String} {r:V→List V→Hp→VK→Prop}
theorem pe_bm0 (pa:PlainAttrs T)(slot:Slot T name id)(hty:typeOf (.builtin id)=pure (.type "method_descriptor"))(hm:MtR X id r)(ho:PE X o to)
  (hbase:attributeBase o name X.env (eval o X.env)=eval o X.env:=by rfl) (hline:(apos.endLine == cpos.line)=true:=by rfl):PE X (.Call (.Attribute o name apos) [] [] cpos) (tBM0 X.K T r to):=by
 intro pins s σ H Q I h
 refine wpAny_Call_method0_late hbase hline (thn (ho pins s σ H _ I h) fun v s1 zq65=>?_)
 obtain ⟨x,H1,I1,r1,ty,q1⟩:=zq65
 obtain ⟨h1,h2⟩:=tyV_is I1 r1 ty
 exact ⟨T,id,pa,slot,hty,h1,h2,Calls.callWith_builtin rfl (PySem.evalArgs_none (hm pins s1 σ H1 x [] v [] Q I1 r1 .nil q1))⟩
theorem pe_bm (pa:PlainAttrs T)(slot:Slot T name id)(hty:typeOf (.builtin id)=pure (.type "method_descriptor"))(hm:MtR X id r)(ho:PE X o to)(ha:PA X (e::es) t)
  (hbase:attributeBase o name X.env (eval o X.env)=eval o X.env:=by rfl)
  (hfew:((backTo cpos (starEach (e::es) X.env)).all (fun x=>!x.1) && (backToKw cpos (keywordEach [] X.env)).all (fun x=>x.1.isSome)
   && decide ((e::es).length+([]:List Keyword).length+(if ([]:List Keyword).isEmpty then 0 else 1) < 30))=true:=by rfl)
  (hline:(apos.endLine == cpos.line)=true:=by rfl) (hs:starEach (e::es) X.env=(false,eval e X.env)::starEach es X.env:=by rfl) (hplain:(backTo cpos (starEach es X.env)).any (·.1)=false:=by rfl) :
  PE X (.Call (.Attribute o name apos) (e::es) [] cpos) (tBM X.K T r to t):=by
 intro pins s σ H Q I h
 refine wpAny_Call_method_late hbase hfew hline rfl (thn (ho pins s σ H _ I h) fun v s1 zq66=>?_)
 obtain ⟨x,H1,I1,r1,ty,q1⟩:=zq66
 obtain ⟨h1,h2⟩:=tyV_is I1 r1 ty
 refine ⟨T,id,pa,slot,hty,h1,h2,?_⟩
 have hA:=ha cpos pins s1 σ H1 _ I1 q1
 rw [hs] at hA ⊢
 refine Calls.callWith_builtin (by show (false || (backTo cpos (starEach es X.env)).any (·.1))=false;rw [hplain] <;> rfl) (Calls.evalArgs_plain ?_)
 exact thn hA fun us s2 zq67=>(by obtain ⟨vs,H2,I2,r2,q2⟩:=zq67;exact hm pins s2 σ H2 x vs v us Q I2 r1 r2 q2)
/- xs.append(e),list.index on a module's tuple .. are MtR facts of 06m -/
end
end L2
namespace L2
open PySem PySem.Spec PyProof.Rows
noncomputable def MtM (X:Cx)(id:String)(r:V→List V→Hp→VK→Prop):Prop :=
 ∀ (pins:List (Addr × Obj)) (s:Shared) (σ:St) (H:Hp) (x:V) (xs:List V) (v:Value) (us:List Value) (Q:VK),Inv X pins σ H s→RelV x v→Vals xs us→r x xs H Q →
  wpAny (model X.prog X.w) X.A (call (.builtin id) (v::us)) (EP X pins σ Q) X.xe s
theorem Vals.one:∀ {x:V} {us:List Value},Vals [x] us→∃ u,us=[u]∧RelV x u
 | _,_,.cons r .nil=>⟨_,rfl,r⟩
theorem Vals.eraseIdx:∀ {xs:List V} {us:List Value} (i:Nat),Vals xs us→Vals (xs.eraseIdx i) (us.eraseIdx i)
 | _,_,_,.nil=>.nil
 | _,_,0,.cons _ t=>t
 | _,_,i+1,.cons r t=>.cons r (Vals.eraseIdx i t)
theorem Vals.rep {xs:List V}{us:List Value}(h:Vals xs us):∀ k:Nat,Vals (List.replicate k xs).flatten (List.replicate k us).flatten
 | 0=>.nil
 | k+1=>by
  rw [List.replicate_succ,List.replicate_succ,List.flatten_cons,List.flatten_cons]
  exact Vals.append h (Vals.rep h k)
theorem len_erase {α:Type}:∀ (l:List α) (i:Nat),(l.eraseIdx i).length≤l.length
 | [],_=>Nat.le_refl _
 | _::_,0=>Nat.le_succ _
 | _::r,i+1=>Nat.succ_le_succ (len_erase r i)
theorem foldl_rep (its:List Value):∀ (k:Nat) (acc:List Value),
  List.foldl (fun x1 x2=>x1++x2) acc.toArray (List.replicate k its.toArray)=(acc++(List.replicate k its).flatten).toArray
 | 0,acc=>by simp
 | k+1,acc=>by
  have e:acc.toArray++its.toArray=(acc++its).toArray:=by simp
  have e2:(acc++its)++(List.replicate k its).flatten=acc++(List.replicate (k+1) its).flatten:=by
   rw [List.replicate_succ,List.flatten_cons,List.append_assoc]
  rw [← e2,← foldl_rep its k (acc++its),← e,List.replicate_succ,List.foldl_cons]
section
variable {X:Cx} {pins:List (Addr × Obj)} {σ:St} {H:Hp} {s:Shared} {l b:Addr} {xs ys zs:List V}
theorem Inv.lset {its its':List Value}{n:Nat}{f:Array Value→Array Value}{t':Nat}(I:Inv X pins σ H s)(hH:H l=some (.lst xs))
  (e:s.heap.get? l=some { cls:=.type "list",data:=.seq its.toArray n }) (hf:f its.toArray=its'.toArray) (hv:Vals ys its') (hz:ys.length≤sizeLine) :
  InvW X pins σ (upd H l (.lst ys)) { s with heap:=s.heap.update l (Obj.mapSeq f),toks:=t' }:=by
 have q:=PySem.IsL.update e f
 rw [hf] at q
 refine I.write (x:=l) (e:=l) (by rw [hH];exact trivial) (.inl rfl) (fun b' u hb hu=>(Heap.get?_update_other s.heap (Obj.mapSeq f) (Ne.symm hb)).trans hu) ⟨_,q⟩ ?_
 exact ⟨hz,its',_,hv,q⟩
theorem Inv.lnew {its:List Value}{t':Nat}(I:Inv X pins σ H s)(hv:Vals ys its)(hz:ys.length≤sizeLine) :
  InvW X pins σ (upd H s.heap.objs.size (.lst ys)) { s with heap:=s.heap.push { cls:=.type "list",data:=.seq its.toArray },toks:=t' } :=
 I.laid (fun _ _ q=>Heap.get?_push_of_some _ q) (Nat.le_refl _) ⟨hz,its,0,hv,Heap.get?_push_size _ rfl⟩
theorem Inv.fresh (I:Inv X pins σ H s):H s.heap.objs.size=none:=I.hok.fresh (Nat.le_refl _)
theorem Inv.lstM (I:Inv X pins σ H s)(hH:H l=some (.lst xs)):xs.length≤sizeLine∧∃ (its:List Value) (n:Nat),Vals xs its∧xs.length=its.length∧s.heap.get? l=some { cls:=.type "list",data:=.seq its.toArray n }:=by
 obtain ⟨z,its,n,r,e⟩:=I.hok l _ hH
 exact ⟨z,its,n,r,r.length,e⟩
theorem notLongL {n:Nat}(h:n≤sizeLine):Builtin.List.listTooLong n=false:=by
 unfold Builtin.List.listTooLong
 exact decide_eq_false (by omega)
end
section
variable {X:Cx}
inductive rAppend (x:V)(vs:List V)(H:Hp)(Q:VK):Prop
 | mk:∀ l xs y,(x = .ref l)→(vs=[y])→(H l=some (.lst xs))→(xs.length < sizeLine)→(Q .non (upd H l (.lst (xs++[y]))))→rAppend x vs H Q
theorem mt_append:MtM X "list.append" rAppend:=by
 intro pins s σ H x vs v us Q I rx rv h
 obtain ⟨l,xs,y,rfl,rfl,hH,hz,q⟩:=h
 cases rx
 obtain ⟨u,rfl,ru⟩:=rv.one
 obtain ⟨z,its,n,r,hl,e⟩:=I.lstM hH
 refine call_meets F.slot_list_append ⟨_,e,rfl⟩ F.entry_list_append (F.args_list_append_2 _ _) (PySem.list_append l its.toArray n u (by rw [List.size_toArray];omega)) ⟨e,?_⟩
 refine ⟨.non,_,I.lset (its':=its++[u]) hH e (by simp) (r.append (.cons ru .nil)) ?_,rfl,q⟩
 rw [List.length_append,List.length_singleton]
 omega
inductive rExtend (x:V)(vs:List V)(H:Hp)(Q:VK):Prop
 | mk:∀ l b xs zs,(x = .ref l)→(vs=[.ref b])→(H l=some (.lst xs))→(H b=some (.lst zs))→(xs.length+zs.length≤sizeLine)→(Q .non (upd H l (.lst (xs++zs))))→rExtend x vs H Q
theorem mt_extend:MtM X "list.extend" rExtend:=by
 intro pins s σ H x vs v us Q I rx rv h
 obtain ⟨l,b,xs,zs,rfl,rfl,hH,hB,hz,q⟩:=h
 cases rx
 obtain ⟨u,rfl,ru⟩:=rv.one
 cases ru
 obtain ⟨z,its,n,r,hl,e⟩:=I.lstM hH
 obtain ⟨z2,its2,n2,r2,hl2,e2⟩:=I.lstM hB
 have hsz:its.toArray.size+its2.toArray.size≤sizeLine:=by rw [List.size_toArray,List.size_toArray];omega
 have hlong:¬ (!its.toArray.isEmpty && Builtin.List.listTooLong (its.toArray.size+its2.toArray.size))=true:=by
  rw [notLongL hsz,Bool.and_false]
  exact Bool.false_ne_true
 refine call_meets F.slot_list_extend ⟨_,e,rfl⟩ F.entry_list_extend (F.args_list_extend_2 _ _)
  (AutoSeq1.list_extend_list_list_0 l its.toArray n b its2.toArray n2 hlong (by rw [List.size_toArray];omega) (by omega)) ⟨e,e2,?_⟩
 refine ⟨.non,_,I.lset (its':=its++its2) hH e (by simp) (r.append r2) ?_,rfl,q⟩
 rw [List.length_append]
 omega
inductive rPopAt (x:V)(vs:List V)(H:Hp)(Q:VK):Prop
 | mk:∀ l xs i k y,(x = .ref l)→(vs=[.int i])→(H l=some (.lst xs))→(-(2 ^ 63)≤i)→(i < 2 ^ 63)→(seqIndex? i xs.length=some k)→(xs[k]? = some y)→(Q y (upd H l (.lst (xs.eraseIdx k))))→rPopAt x vs H Q
theorem mt_popAt:MtM X "list.pop" rPopAt:=by
 intro pins s σ H x vs v us Q I rx rv h
 obtain ⟨l,xs,i,k,y,rfl,rfl,hH,h1,h2,hk,hy,q⟩:=h
 cases rx
 obtain ⟨u,rfl,ru⟩:=rv.one
 obtain ⟨t,rfl⟩:=ru
 obtain ⟨z,its,n,r,hl,e⟩:=I.lstM hH
 obtain ⟨w,hw,rw'⟩:=r.get hy
 refine call_meets F.slot_list_pop ⟨_,e,rfl⟩ F.entry_list_pop (F.args_list_pop_2 _ _)
  (MeetsSeq.list_pop_at l its.toArray n i t k w (fitsIndex_both h1 h2) (by rw [List.size_toArray,← hl];exact hk) (by rw [← Array.getElem?_toList];exact hw) (by rw [List.size_toArray];omega)) ⟨e,?_⟩
 refine ⟨y,_,I.lset (its':=its.eraseIdx k) hH e ?_ (r.eraseIdx k) ?_,rw',q⟩
 ·show its.toArray.eraseIdxIfInBounds k=(its.eraseIdx k).toArray
  rw [List.eraseIdxIfInBounds_toArray]
 ·have:=len_erase xs k
  omega
inductive rCat (x:V)(y:V)(H:Hp)(Q:VK):Prop
 | mk:∀ l b xs zs,(x = .ref l)→(y = .ref b)→(H l=some (.lst xs))→(H b=some (.lst zs))→(xs.length+zs.length≤sizeLine)→(∀ p,H p=none→Q (.ref p) (upd H p (.lst (xs++zs))))→rCat x y H Q
theorem op_cat:OpR X (binaryOp .Add) rCat:=by
 intro pins s σ H x y v u Q I rx ry h
 obtain ⟨l,b,xs,zs,rfl,rfl,hH,hB,hz,q⟩:=h
 cases rx
 cases ry
 obtain ⟨z,its,n,r,hl,e⟩:=I.lstM hH
 obtain ⟨z2,its2,n2,r2,hl2,e2⟩:=I.lstM hB
 refine PySem.P.add_list e e2 ?_ (by rw [List.size_toArray,List.size_toArray];omega)
 have ea:its.toArray++its2.toArray=(its++its2).toArray:=by simp
 rw [ea]
 exact ⟨.ref _,_,I.lnew (t':=s.toks) (r.append r2) (by rw [List.length_append];omega),rfl,q _ I.fresh⟩
inductive rRep (x:V)(y:V)(H:Hp)(Q:VK):Prop
 | mk:∀ l k xs,(x = .ref l)→(y = .int k)→(H l=some (.lst xs))→(-(2 ^ 63)≤k)→(k < 2 ^ 63)→(xs.length*k.toNat≤sizeLine)→(∀ p,H p=none→Q (.ref p) (upd H p (.lst (List.replicate k.toNat xs).flatten)))→rRep x y H Q
theorem len_rep {α:Type}(xs:List α)(k:Nat):(List.replicate k xs).flatten.length=k*xs.length:=by
 induction k with
 | zero=>simp
 | succ k ih=>rw [List.replicate_succ,List.flatten_cons,List.length_append,ih,Nat.succ_mul,Nat.add_comm]
theorem op_rep:OpR X (binaryOp .Mult) rRep:=by
 intro pins s σ H x y v u Q I rx ry h
 obtain ⟨l,k,xs,rfl,rfl,hH,h1,h2,hz,q⟩:=h
 cases rx
 obtain ⟨t,rfl⟩:=ry
 obtain ⟨z,its,n,r,hl,e⟩:=I.lstM hH
 have hlen:its.toArray.size*k.toNat≤sizeLine:=by rw [List.size_toArray,← hl];exact hz
 have hcap:¬ its.toArray.size*k.toNat > (2 ^ 63 - 1) / 8:=by
  have:(sizeLine:Nat)≤(2 ^ 63 - 1) / 8:=by decide
  omega
 have hfit:¬ (!Builtin.List.listFitsIndex k)=true:=by
  rw [fitsIndex_both h1 h2]
  exact Bool.false_ne_true
 have hlong:¬ Builtin.List.listTooLong (its.toArray.size*k.toNat)=true:=by
  rw [notLongL hlen]
  exact Bool.false_ne_true
 have hnew:List.foldl (fun x1 x2=>x1++x2) #[] (List.replicate (if its.toArray.isEmpty=true then 0 else k.toNat) its.toArray)=(List.replicate k.toNat its).flatten.toArray:=by
  have f0:∀ m:Nat,List.foldl (fun x1 x2=>x1++x2) #[] (List.replicate m its.toArray)=(List.replicate m its).flatten.toArray:=fun m=>by
   have:=foldl_rep its m []
   rw [List.nil_append] at this
   exact this
  rw [f0]
  cases its with
  | nil=>simp
  | cons a r'=>rw [if_neg (by simp)]
 refine wpAny_binaryOp_repeat_ref (T:="list") (U:="int") (by decide) ⟨_,e,rfl⟩ (fun s'=>typeIs_int s' k t) noFill_list_mul F.fills_int_mul F.slot_int_rmul repeat_list F.slot_int_index.lookup
  (call_meets F.slot_int_rmul (typeIs_int s k t) F.entry_int_rmul (F.args_int_rmul_2 _ _) (int___rmul___int_list k t l its.toArray n)
   ⟨e,rfl,⟨_,e,rfl⟩,call_meets F.slot_list_mul ⟨_,e,rfl⟩ F.entry_list_mul (F.args_list_mul_2 _ _) (AutoListH.list___mul___list_int_3 l its.toArray n k t hfit hcap hlong) ⟨e,?_⟩⟩)
 rw [hnew]
 exact ⟨.ref _,_,I.lnew (t':=s.toks) (r.rep k.toNat) (by rw [len_rep,Nat.mul_comm];exact hz),rfl,q _ I.fresh⟩
end
section
variable {prog:Program} {w:World} {A:Around} {E:Value→Shared→Prop} {s:Shared}
end
section
variable {X:Cx}
end
end L2
namespace L2
open PySem PySem.Spec PyProof.Rows
section
variable {κ:Type} [DecidableEq κ]
noncomputable def valV (kvs:List (κ × V))(k:κ):Option V:=(kvs.find? fun kv=>decide (kv.1=k)).map (·.2)
noncomputable def putK (kvs:List (κ × V))(k:κ)(v:V):List (κ × V) :=
 if (kvs.any fun kv=>decide (kv.1=k))=true then kvs.map (fun kv=>if kv.1=k then (kv.1,v) else kv) else kvs++[(k,v)]
theorem valV_pos {p:κ × V}{r:List (κ × V)}{k:κ}(e:p.1=k):valV (p::r) k=some p.2:=by simp [valV,List.find?_cons,e]
theorem valV_neg {p:κ × V}{r:List (κ × V)}{k:κ}(e:¬ p.1=k):valV (p::r) k=valV r k:=by simp [valV,List.find?_cons,e]
theorem valV_any (k:κ):∀ kvs:List (κ × V),(kvs.any fun kv=>decide (kv.1=k))=(valV kvs k).isSome
 | []=>rfl
 | p::r=>by
  rw [List.any_cons]
  by_cases e:p.1=k
  ·simp only [valV_pos e,decide_eq_true e,Bool.true_or,Option.isSome_some]
  ·rw [valV_neg e,decide_eq_false e,Bool.false_or];exact valV_any k r
theorem length_putK (kvs:List (κ × V))(k:κ)(v:V):(putK kvs k v).length≤kvs.length+1:=by
 unfold putK
 split
 ·rw [List.length_map];omega
 ·rw [List.length_append,List.length_cons,List.length_nil];omega
theorem putK_new {kvs:List (κ × V)}{k:κ}(v:V)(h:valV kvs k=none):putK kvs k v=kvs++[(k,v)]:=by
 unfold putK
 rw [valV_any,h]
 exact if_neg (by decide)
theorem RelO.isSome_eq {o:Option V}{u:Option Value}(r:RelO o u):o.isSome=u.isSome:=by
 cases o with
 | none=>cases u with
  | none=>rfl
  | some _=>exact (show False from r).elim
 | some _=>cases u with
  | none=>exact (show False from r).elim
  | some _=>rfl
theorem KV.val {kvs:List (κ × V)}{vs:List (κ × Value)}(r:KV kvs vs)(k:κ):RelO (valV kvs k) (valueAt vs k):=by
 unfold KV at r
 induction r with
 | nil=>exact True.intro
 | @cons p q ps qs h t ih =>
  obtain ⟨h1,h2⟩:=h
  by_cases e:p.1=k
  ·have e':q.1=k:=h1.symm.trans e
   have b:valueAt (q::qs) k=some q.2:=by simp [valueAt,List.find?_cons,e']
   rw [valV_pos e,b];exact h2
  ·have e':¬ q.1=k:=fun z=>e (h1.trans z)
   have b:valueAt (q::qs) k=valueAt qs k:=by simp [valueAt,List.find?_cons,e']
   rw [valV_neg e,b];exact ih
theorem KV.any {kvs:List (κ × V)}{vs:List (κ × Value)}(r:KV kvs vs)(k:κ):(kvs.any fun kv=>decide (kv.1=k))=vs.any fun kv=>decide (kv.1=k):=by
 unfold KV at r
 induction r with
 | nil=>rfl
 | cons h t ih=>rw [List.any_cons,List.any_cons,ih,h.1]
theorem KV.repl {kvs:List (κ × V)}{vs:List (κ × Value)}(r:KV kvs vs)(k:κ){y:V}{u:Value}(ry:RelV y u) :
  KV (kvs.map fun kv=>if kv.1=k then (kv.1,y) else kv) (vs.map fun kv=>if kv.1=k then (kv.1,u) else kv):=by
 unfold KV at r ⊢
 induction r with
 | nil=>exact .nil
 | @cons p q ps qs h t ih =>
  rw [List.map_cons,List.map_cons]
  refine .cons ?_ ih
  obtain ⟨h1,h2⟩:=h
  by_cases e:p.1=k
  ·rw [if_pos e,if_pos (h1.symm.trans e)];exact ⟨h1,ry⟩
  ·rw [if_neg e,if_neg (fun z=>e (h1.trans z))];exact ⟨h1,h2⟩
theorem KV.put {kvs:List (κ × V)}{vs:List (κ × Value)}(r:KV kvs vs)(k:κ){y:V}{u:Value}(ry:RelV y u):KV (putK kvs k y) (stored vs k u):=by
 unfold putK stored
 rw [r.any k]
 by_cases e:(vs.any fun kv=>decide (kv.1=k))=true
 ·rw [if_pos e,if_pos e];exact r.repl k ry
 ·rw [if_neg e,if_neg e];exact Paired.snoc r ⟨rfl,ry⟩
theorem KV.length {kvs:List (κ × V)}{vs:List (κ × Value)}(r:KV kvs vs):kvs.length=vs.length:=Paired.length r
end
theorem kV_is {P:Program}{w:World}{k:Key}{u:Value}(r:RelV (kV k) u):(mixKind P w).is k u=true:=by
 cases k with
 | inl i=>obtain ⟨t,e⟩:=(show ∃ t,u=Value.int i t from r);subst e;exact mixKind_int P w i t
 | inr x=>obtain ⟨t,e⟩:=(show ∃ t,u=Value.str x t from r);subst e;exact mixKind_str P w x t
theorem items_are {P:Program}{w:World}:∀ {ks:List Key} {us:List Value},Vals (ks.map kV) us→ItemsAre (mixKind P w) ks us
 | [],_,r=>by rw [List.map_nil] at r;cases r;exact .nil
 | k::ks,_,r=>by
  rw [List.map_cons] at r
  cases r with
  | cons h t=>exact .cons (kV_is h) (items_are t)
noncomputable abbrev KT (H:Hp):List (List Key × V)→List (List Key × Addr × Value)→Prop:=Paired fun p q=>p.1=q.1∧H q.2.1=some (.tup (p.1.map kV))∧RelV p.2 q.2.2
theorem KT.val {H:Hp}{kvs:List (List Key × V)}{xs:List (List Key × Addr × Value)}(r:KT H kvs xs)(k:List Key):RelO (valV kvs k) ((atKey xs k).map (·.2)):=by
 induction r with
 | nil=>exact True.intro
 | @cons p q ps qs h t ih =>
  obtain ⟨h1,_,h2⟩:=h
  by_cases e:p.1=k
  ·have e':q.1=k:=h1.symm.trans e
   have b:atKey (q::qs) k=some q.2:=by simp [atKey,List.find?_cons,e']
   rw [valV_pos e,b];exact h2
  ·have e':¬ q.1=k:=fun z=>e (h1.trans z)
   have b:atKey (q::qs) k=atKey qs k:=by simp [atKey,List.find?_cons,e']
   rw [valV_neg e,b];exact ih
theorem KT.repl {H:Hp}{kvs:List (List Key × V)}{xs:List (List Key × Addr × Value)}(r:KT H kvs xs)(k:List Key){y:V}{u:Value}(ry:RelV y u) :
  KT H (kvs.map fun kv=>if kv.1=k then (kv.1,y) else kv) (xs.map (putAt k u)):=by
 induction r with
 | nil=>exact .nil
 | @cons p q ps qs h t ih =>
  rw [List.map_cons,List.map_cons]
  refine .cons ?_ ih
  obtain ⟨h1,h2,h3⟩:=h
  unfold putAt
  by_cases e:p.1=k
  ·rw [if_pos e,if_pos (h1.symm.trans e)];exact ⟨h1,h2,ry⟩
  ·rw [if_neg e,if_neg (fun z=>e (h1.trans z))];exact ⟨h1,h2,h3⟩
theorem KT.put {H:Hp}{kvs:List (List Key × V)}{xs:List (List Key × Addr × Value)}(r:KT H kvs xs)(k:List Key){b:Addr}{y:V}{u:Value}(hb:H b=some (.tup (k.map kV)))(ry:RelV y u) :
  KT H (putK kvs k y) (storedH xs k b u):=by
 have e:(kvs.any fun kv=>decide (kv.1=k))=(atKey xs k).isSome:=by
  rw [valV_any,(r.val k).isSome_eq,Option.isSome_map]
 unfold putK storedH
 rw [e]
 by_cases q:(atKey xs k).isSome=true
 ·rw [if_pos q,if_pos q];exact r.repl k ry
 ·rw [if_neg q,if_neg q];exact Paired.snoc r ⟨rfl,hb,ry⟩
theorem KT.keeps {H H':Hp}{kvs:List (List Key × V)}{xs:List (List Key × Addr × Value)}(r:KT H kvs xs)(ht:∀ b ys,H b=some (.tup ys)→H' b=some (.tup ys)):KT H' kvs xs :=
 Paired.mapP r fun _ _ z=>⟨z.1,ht _ _ z.2.1,z.2.2⟩
section
variable {P:Program} {w:World} {H:Hp} {h:Heap} {a:Addr}
theorem rd_of {u:HO}(ok:HOk P w H h)(e:Rd H a u):ObjOk P w H h a u:=e.ok ok
theorem dk_rd {kvs:List (Key × V)}(ok:HOk P w H h)(e:Rd H a (.dK kvs)):kvs.length≤sizeLine∧(a == sysModules)=false∧∃ vs,KV kvs vs∧h.DictOf (mixKind P w) a vs :=
 show ObjOk P w H h a (.dK kvs) from rd_of ok e
theorem dk_of {kvs:List (Key × V)}(ok:HOk P w H h)(e:H a=some (.dK kvs)):kvs.length≤sizeLine∧(a == sysModules)=false∧∃ vs,KV kvs vs∧h.DictOf (mixKind P w) a vs:=dk_rd ok (.inl e)
theorem key_of {ks:List Key}(ok:HOk P w H h)(e:H a=some (.tup (ks.map kV))):(tupleKind (mixKind P w)).is h ks a:=by
 obtain ⟨_,its,r,⟨o,h1,h2,n,h3⟩,_⟩:=(show ObjOk P w H h a (.tup (ks.map kV)) from ok a _ e)
 exact ⟨o,its.toArray,n,h1,h2,h3,by simpa using items_are r⟩
theorem dt_rd {kvs:List (List Key × V)}(ok:HOk P w H h)(e:Rd H a (.dT kvs)):kvs.length≤sizeLine∧(a == sysModules)=false ∧
  ∃ xs,KT H kvs xs∧h.DictOfH (tupleKind (mixKind P w)) a xs:=by
 obtain ⟨z,y,xs,r,o,es,ep,h1,h2,h3,h4,h5⟩:=(show ObjOk P w H h a (.dT kvs) from rd_of ok e)
 refine ⟨z,y,xs,r,o,es,ep,h1,h2,h3,h4,fun x hx=>?_,h5⟩
 have all:∀ {l:List (List Key × V)} {m:List (List Key × Addr × Value)},KT H l m→∀ x∈m,(tupleKind (mixKind P w)).is h x.1 x.2.1:=by
  intro l m q
  induction q with
  | nil=>intro x hx;exact nomatch hx
  | @cons p q ps qs hq t ih =>
   intro x hx
   rcases List.mem_cons.mp hx with e | hx
   ·subst e
    exact key_of ok (by rw [← hq.1];exact hq.2.1)
   ·exact ih x hx
 exact all r x hx
theorem dt_of {kvs:List (List Key × V)}(ok:HOk P w H h)(e:H a=some (.dT kvs)):kvs.length≤sizeLine∧(a == sysModules)=false ∧
  ∃ xs,KT H kvs xs∧h.DictOfH (tupleKind (mixKind P w)) a xs:=dt_rd ok (.inl e)
end
noncomputable def DGet (H:Hp)(a:Addr)(y:V)(r:Option V):Prop :=
 (∃ kvs k,Rd H a (.dK kvs)∧y=kV k∧r=valV kvs k) ∨ ∃ kvs k b,Rd H a (.dT kvs)∧y = .ref b∧H b=some (.tup (k.map kV))∧r=valV kvs k
noncomputable def DPut (H:Hp)(a:Addr)(y v:V)(H':Hp):Prop :=
 (∃ kvs k,H a=some (.dK kvs)∧y=kV k∧kvs.length < sizeLine∧H'=upd H a (.dK (putK kvs k v))) ∨
 ∃ kvs k b,H a=some (.dT kvs)∧y = .ref b∧H b=some (.tup (k.map kV))∧kvs.length < sizeLine∧H'=upd H a (.dT (putK kvs k v))
theorem DGet.k {H:Hp}{a:Addr}{kvs:List (Key × V)}{k:Key}(e:H a=some (.dK kvs)):DGet H a (kV k) (valV kvs k):=.inl ⟨kvs,k,.inl e,rfl,rfl⟩
theorem DPut.k {H:Hp}{a:Addr}{kvs:List (Key × V)}{k:Key}{v:V}(e:H a=some (.dK kvs))(hl:kvs.length < sizeLine):DPut H a (kV k) v (upd H a (.dK (putK kvs k v))):=.inl ⟨kvs,k,e,rfl,hl,rfl⟩
section
variable {X:Cx} {pins:List (Addr × Obj)} {σ:St} {H:Hp} {s:Shared} {a:Addr} {y v:V} {u r:Value} {o:Option V} {A:Around} {E:Value→Shared→Prop}
theorem Inv.big (I:Inv X pins σ H s):sysModules < s.heap.objs.size:=by
 have h:mainGlobals < s.heap.objs.size:=(I.mod.glob.keeps I.bk).lt
 exact Nat.lt_trans (by decide) h
theorem d_getItem {Q:Value→Shared→Prop}(hu:A.units+1 < cLine)(I:Inv X pins σ H s)(g:DGet H a y (some v))(ry:RelV y u)(h:∀ w' s',InvW X pins σ H s'→RelV v w'→Q w' s') :
  wpAny (model X.prog X.w) A (getItem (.ref a) u) Q E s:=by
 rcases g with ⟨kvs,k,e,ey,l⟩ | ⟨kvs,k,b,e,ey,eb,l⟩
 ·subst ey
  obtain ⟨z,hd,vs,rel,dd⟩:=dk_rd I.hok e
  obtain ⟨w',hw,rw'⟩:=RelO.some_of (v:=v) (o:=valueAt vs k) (by rw [l];exact rel.val k)
  exact wpAny_getItem_of (kV_is ry) dd.mapOf hw (h w' _ (I.tok _) rw')
 ·subst ey
  cases (show u=Value.ref b from ry)
  obtain ⟨z,hd,xs,rel,dd⟩:=dt_rd I.hok e
  obtain ⟨w',hw,rw'⟩:=RelO.some_of (v:=v) (o:=(atKey xs k).map (·.2)) (by rw [l];exact rel.val k)
  obtain ⟨p,hp,hp2⟩:=Option.map_eq_some_iff.mp hw
  refine wpAny_getItem_heap (tupleKind_room_in1 hu) (key_of I.hok eb) dd hp ?_
  rw [hp2]
  exact h w' _ (I.tok _) rw'
theorem d_notIn {Q:Value→Shared→Prop}(hu:A.units+1 < cLine)(I:Inv X pins σ H s)(g:DGet H a y o)(ry:RelV y u)(h:∀ s',InvW X pins σ H s'→Q (.bool (!o.isSome)) s') :
  wpAny (model X.prog X.w) A (compareOp .NotIn u (.ref a)) Q E s:=by
 rcases g with ⟨kvs,k,e,ey,l⟩ | ⟨kvs,k,b,e,ey,eb,l⟩
 ·subst ey
  obtain ⟨z,hd,vs,rel,dd⟩:=dk_rd I.hok e
  refine wpAny_notIn_of (kV_is ry) hd dd.mapOf ?_
  rw [← (rel.val k).isSome_eq,← l]
  exact h _ (I.tok _)
 ·subst ey
  cases (show u=Value.ref b from ry)
  obtain ⟨z,hd,xs,rel,dd⟩:=dt_rd I.hok e
  refine wpAny_notIn_heap (tupleKind_room_in1 hu) (key_of I.hok eb) hd dd ?_
  have q:=(rel.val k).isSome_eq
  rw [Option.isSome_map] at q
  rw [← q,← l]
  exact h _ (I.tok _)
theorem d_write {h':Heap}{t':Nat}{ob:HO}(I:Inv X pins σ H s)(mu:Mut (H a))(hs:Heap.SameBut a s.heap h')(he:∃ q,h'.get? a=some q)(new:ObjOk X.prog X.w (upd H a ob) h' a ob) :
  InvW X pins σ (upd H a ob) { s with heap:=h',toks:=t' } :=
 I.write (x:=a) (e:=a) mu (.inl rfl) (fun b q hb z=>(hs.2 b hb).trans z) he new
theorem dk_new {P:Program}{w:World}{H':Hp}{h':Heap}{kvs:List (Key × V)}{vs:List (Key × Value)}(z:kvs.length≤sizeLine)(hd:(a == sysModules)=false)(rel:KV kvs vs)(dd:h'.DictOf (mixKind P w) a vs) :
  ObjOk P w H' h' a (.dK kvs):=⟨z,hd,vs,rel,dd⟩
theorem d_setItem {H':Hp}{Q:Unit→Shared→Prop}(hu:A.units+1 < cLine)(I:Inv X pins σ H s)(g:DPut H a y v H')(ry:RelV y u)(rv:RelV v r)(h:∀ s',InvW X pins σ H' s'→Q () s') :
  wpAny (model X.prog X.w) A (setItem (.ref a) u r) Q E s:=by
 rcases g with ⟨kvs,k,e,ey,l,eH⟩ | ⟨kvs,k,b,e,ey,eb,l,eH⟩
 ·subst ey eH
  obtain ⟨z,hd,vs,rel,dd⟩:=dk_of I.hok e
  have hz:vs.length≤sizeLine:=by rw [← rel.length];exact z
  have hl:(putK kvs k v).length≤sizeLine:=by have:=length_putK kvs k v;omega
  refine wpAny_setItem_pairs (hsz:=hz) (kV_is ry) dd fun h' dd' hs=>h _ ?_
  have he:∃ q,h'.get? a=some q:=let ⟨q,_,_,hq,_⟩:=dd';⟨q,hq⟩
  exact d_write I (by rw [e];exact True.intro) hs he (dk_new hl hd (rel.put k rv) dd')
 ·subst ey eH
  cases (show u=Value.ref b from ry)
  obtain ⟨z,hd,xs,rel,dd⟩:=dt_of I.hok e
  have hz:xs.length≤sizeLine:=by rw [← Paired.length rel];exact z
  have hl:(putK kvs k v).length≤sizeLine:=by have:=length_putK kvs k v;omega
  refine wpAny_setItem_heap (hsz:=hz) (tupleKind_room_in1 hu) (key_of I.hok eb) dd fun h' dd' hs=>h _ ?_
  obtain ⟨q,es,ep,hq,h2,h3,h4,_,h5⟩:=dd'
  refine d_write I (by rw [e];exact True.intro) hs ⟨q,hq⟩ ⟨hl,hd,_,(rel.put k eb rv).keeps fun c ys ec=>?_,q,es,ep,hq,h2,h3,h4,h5⟩
  rw [upd_ne (ne_of ec e (fun z=>nomatch z))]
  exact ec
end
section
variable {X:Cx} {pins:List (Addr × Obj)} {σ:St} {H:Hp} {s:Shared} {a:Addr} {kvs:List (Key × V)} {k:Key} {u:Value} {A:Around} {E:Value→Shared→Prop}
end
noncomputable def NoSl (i:Expr):Prop:=∀ ov iv,subscripted i false ov iv=operate [ov,iv] (getItem ov iv)
theorem subD_of {prog:Program}{w:World}{A:Around}{E:Value→Shared→Prop}{s:Shared}{env:Env}{value slice:Expr}{pos:Pos}{T id:String}{Q:Value→Shared→Prop}
  (hl:typeLookup (.type T) "__getitem__" = pure (some (.builtin id))) (hs:NoSl slice)
  (h:wpAny (model prog w) A (eval value env) (fun o s₁=>wpAny (model prog w) A (eval slice env) (fun i s₂=>s₂.TypeIs o T∧wpAny (model prog w) A (getItem o i) Q E s₂) E s₁) E s) :
  wpAny (model prog w) A (eval (.Subscript value slice pos) env) Q E s:=by
 refine Subscript_ (wpAny_mono h (fun o s₁ h₁=>wpAny_mono h₁ (fun i s₂ h₂=>?_) fun _ _ x=>x) fun _ _ x=>x)
 obtain ⟨hT,h₂⟩:=h₂
 unfold subscriptTail
 refine wpAny_bind ?_
 rw [getitemInPython_of_ne hT.not_modules]
 refine wpAny_bind (wpAny_specialOf hT hl ?_)
 have fin:wpAny (model prog w) A (subscripted slice false o i) (fun r s₃=>wpAny (model prog w) A (letTemporaryGo value o r >>= fun _=>pure r) Q E s₃) E s₂:=by
  rw [hs o i]
  exact wpAny_operating (wpAny_mono h₂ (fun r s₃ h₃=>wpAny_bind (wpAny_letTemporaryGo (wpAny_pure h₃))) fun _ _ x=>x)
 first
  | exact wpAny_pure (wpAny_bind fin)
  | exact wpAny_bind (wpAny_pure (wpAny_bind fin))
  | exact wpAny_bind fin
theorem dict_typeIs {X:Cx}{pins:List (Addr × Obj)}{σ:St}{H:Hp}{s:Shared}{a:Addr}{y:V}{o:Option V}(I:Inv X pins σ H s)(g:DGet H a y o):s.TypeIs (.ref a) "dict":=by
 rcases g with ⟨kvs,k,e,_,_⟩ | ⟨kvs,k,b,e,_,_,_⟩
 ·obtain ⟨_,_,vs,_,dd⟩:=dk_rd I.hok e
  exact dd.typeIs
 ·obtain ⟨_,_,xs,_,dd⟩:=dt_rd I.hok e
  exact dd.typeIs
noncomputable def tDGet (td ty:TE):TE:=fun σ H Q=>td σ H fun x H1=>ty σ H1 fun y H2=>∃ a v,x = .ref a∧DGet H2 a y (some v)∧Q v H2
noncomputable def tDNotIn (ty td:TE):TE:=fun σ H Q=>ty σ H fun y H1=>td σ H1 fun x H2=>∃ a o,x = .ref a∧DGet H2 a y o∧Q (.bl (!o.isSome)) H2
noncomputable def sDPut (td ty tv:TE):TS:=fun D σ H=>tv σ H fun v H1=>td σ H1 fun x H2=>ty σ H2 fun y H3=>∃ a H4,x = .ref a∧DPut H3 a y v H4∧D.nx σ H4
section
variable {X:Cx} {o i e value:Expr} {pos pos' tpos:Pos} {td ty tv:TE}
theorem pe_dget (hu:X.A.units+1 < cLine)(ho:PE X o td)(hi:PE X i ty)(hs:NoSl i):PE X (.Subscript o i pos) (tDGet td ty):=by
 intro pins s σ H Q I h
 refine subD_of PySem.F.slot_dict_getitem.lookup hs (thn (ho pins s σ H _ I h) fun u s1 ⟨x,H1,I1,rx,q1⟩=>thn (hi pins s1 σ H1 _ I1 q1) fun iv s2 zq68=>?_)
 obtain ⟨y,H2,I2,ry,a,v,ex,g,q2⟩:=zq68
 subst ex
 obtain rfl:u=Value.ref a:=rx
 exact ⟨dict_typeIs I2 g,d_getItem hu I2 g ry fun w' s3 I3 rw'=>⟨v,H2,I3,rw',q2⟩⟩
theorem pc_dnotin (hu:X.A.units+1 < cLine)(hi:PE X i ty)(ho:PE X o td):PC X .NotIn i o (tDNotIn ty td):=by
 intro pins s σ H Q I h
 refine thn (hi pins s σ H _ I h) fun iv s1 ⟨y,H1,I1,ry,q1⟩=>thn (ho pins s1 σ H1 _ I1 q1) fun u s2 zq70=>?_
 obtain ⟨x,H2,I2,rx,a,ov,ex,g,q2⟩:=zq70
 subst ex
 obtain rfl:u=Value.ref a:=rx
 exact d_notIn hu I2 g ry fun s3 I3=>⟨.bl (!ov.isSome),H2,I3,rfl,q2⟩
theorem ps_dput (hu:X.A.units+1 < cLine)(ho:PE X o td)(hi:PE X i ty)(hv:PE X value tv)(hs:swapsWith value (some (.Subscript o i pos')) pos.line X.env=pure false) :
  PS X (.Assign [.Subscript o i pos'] value pos) (sDPut td ty tv):=by
 intro pins s σ H D I h
 refine wpAny_Assign_Subscript (thn (hv pins s σ H _ I h) fun r s1 ⟨v,H1,I1,rv,q1⟩=>thn (ho pins s1 σ H1 _ I1 q1) fun u s2 ⟨x,H2,I2,rx,q2⟩=>thn (hi pins s2 σ H2 _ I2 q2) fun iv s3 zq71=>?_) hs
 obtain ⟨y,H3,I3,ry,a,H4,ex,g,q3⟩:=zq71
 subst ex
 obtain rfl:u=Value.ref a:=rx
 exact d_setItem hu I3 g ry rv fun s4 I4=>⟨σ,H4,I4,q3⟩
end
theorem dk_empty {P:Program}{w:World}{H:Hp}(h:Heap)(hb:sysModules < h.objs.size):ObjOk P w H (h.push { cls:=.type "dict",data:=.dict #[] }) h.objs.size (.dK []) :=
 ⟨Nat.zero_le _,beq_eq_false_iff_ne.mpr (Ne.symm (Nat.ne_of_lt hb)),[],.nil,Heap.DictOf.new h⟩
noncomputable def tDNewK:TE:=fun _ H Q=>∀ p,H p=none→Q (.ref p) (upd H p (.dK []))
section
variable {X:Cx} {pos:Pos}
theorem pe_dnewK:PE X (.Dict [] [] pos) tDNewK:=fun pins s σ H Q I h =>
 wpAny_Dict_empty ⟨.ref s.heap.objs.size,_,I.laid (a:=s.heap.objs.size) (o:=.dK []) (t':=s.toks) (fun _ _ q=>Heap.get?_push_of_some _ q) (Nat.le_refl _) (dk_empty s.heap I.big),rfl,h _ (I.hok.fresh (Nat.le_refl _))⟩
end
noncomputable def tPairs:List (TE × TE)→St→Hp→(List (V × V)→Hp→Prop)→Prop
 | [],_,H,Q=>Q [] H
 | (tk,tv)::r,σ,H,Q=>tk σ H fun x H1=>tv σ H1 fun y H2=>tPairs r σ H2 fun ps H3=>Q ((x,y)::ps) H3
noncomputable abbrev VV:List (V × V)→List (Value × Value)→Prop:=Paired fun p q=>RelV p.1 q.1∧RelV p.2 q.2
noncomputable def PPs (X:Cx)(pos:Pos)(keys:List (Option Expr))(values:List Expr)(trs:List (TE × TE)):Prop :=
 ∀ (pins:List (Addr × Obj)) (s:Shared) (σ:St) (H:Hp) (Q:List (V × V)→Hp→Prop),Inv X pins σ H s→tPairs trs σ H Q →
  wpAny (model X.prog X.w) X.A (evalPairs (pairTrees keys values X.env pos)) (fun vs s'=>∃ ps H',Inv X pins σ H' s'∧VV ps vs∧Q ps H') X.xe s
theorem pps_nil {X:Cx}{pos:Pos}:PPs X pos [] [] []:=fun pins s σ H Q I h=>pairTrees_nil_walk ⟨[],H,I,.nil,h⟩
theorem pps_cons {X:Cx}{pos:Pos}{k v:Expr}{ks:List (Option Expr)}{vs:List Expr}{tk tv:TE}{trs:List (TE × TE)}(hk:PE X k tk)(hv:PE X v tv)(hr:PPs X pos ks vs trs) :
  PPs X pos (some k::ks) (v::vs) ((tk,tv)::trs):=fun pins s σ H Q I h =>
 pairTrees_cons_walk (thn (hk pins s σ H _ I h) fun u s1 ⟨x,H1,I1,rx,q1⟩=>thn (hv pins s1 σ H1 _ I1 q1) fun w2 s2 ⟨y,H2,I2,ry,q2⟩ =>
  thn (hr pins s2 σ H2 _ I2 q2) fun ws s3 zq75=>(by obtain ⟨ps,H3,I3,rel,q3⟩:=zq75;exact ⟨(x,y)::ps,H3,I3,.cons ⟨rx,ry⟩ rel,q3⟩))
noncomputable def mergeK (kvs more:List (Key × V)):List (Key × V):=more.foldl (fun acc kv=>putK acc kv.1 kv.2) kvs
theorem KV.merge:∀ {more:List (Key × V)} {rs:List (Key × Value)} {kvs:List (Key × V)} {vs:List (Key × Value)},KV more rs→KV kvs vs→KV (mergeK kvs more) (merged vs rs):=by
 intro more rs kvs vs r
 unfold KV at r
 induction r generalizing kvs vs with
 | nil=>intro q;exact q
 | @cons p q ps qs h t ih =>
  intro r0
  have e:KV (putK kvs p.1 p.2) (stored vs q.1 q.2):=by
   have:=r0.put p.1 h.2
   rw [← h.1];exact this
  exact ih e
theorem length_mergeK:∀ (more kvs:List (Key × V)),(mergeK kvs more).length≤kvs.length+more.length
 | [],kvs=>by show kvs.length≤kvs.length+0;omega
 | p::r,kvs=>by
  have h1:=length_mergeK r (putK kvs p.1 p.2)
  have h2:=length_putK kvs p.1 p.2
  show (mergeK (putK kvs p.1 p.2) r).length≤_
  rw [List.length_cons];omega
theorem carries_of {P:Program}{w:World}:∀ {kvs:List (Key × V)} {ws:List (Value × Value)},VV (kvs.map fun kv=>(kV kv.1,kv.2)) ws→∃ rs,Carries (mixKind P w) ws rs∧KV kvs rs
 | [],_,r=>by rw [List.map_nil] at r;cases r;exact ⟨[],True.intro,.nil⟩
 | p::kvs,_,r=>by
  rw [List.map_cons] at r
  cases r with
  | @cons a b as bs h t =>
   obtain ⟨rs,c,q⟩:=carries_of (P:=P) (w:=w) t
   obtain ⟨b1,b2⟩:=b
   exact ⟨(p.1,b2)::rs,⟨kV_is h.1,rfl,c⟩,.cons ⟨rfl,h.2⟩ q⟩
noncomputable def tDisp (trs:List (TE × TE)):TE:=fun σ H Q=>∀ p,H p=none→tPairs trs σ (upd H p (.dK [])) fun ps H2=>H2 p=some (.dK [])∧∃ kvs:List (Key × V),ps=kvs.map (fun kv=>(kV kv.1,kv.2))∧kvs.length≤15∧Q (.ref p) (upd H2 p (.dK (mergeK [] kvs)))
theorem pe_disp {X:Cx}{pos:Pos}{keys:List (Option Expr)}{values:List Expr}{trs:List (TE × TE)}(h:PPs X pos keys values trs)(hall:keys.all (·.isSome)=true)(hl:keys.length=values.length)(h0:keys≠[])
  (h15:keys.length≤15):PE X (.Dict keys values pos) (tDisp trs):=by
 intro pins s σ H Q I q
 have hn:=I.hok.fresh (Nat.le_refl s.heap.objs.size)
 have I1:=(I.laid (a:=s.heap.objs.size) (o:=.dK []) (h':=s.heap.push { cls:=.type "dict",data:=.dict #[] }) (t':=s.toks) (fun _ _ q=>Heap.get?_push_of_some _ q) (Nat.le_refl _) (dk_empty s.heap I.big)).up I.low
 refine wpAny_Dict_walk (knd:=mixKind X.prog X.w) hall hl h0 h15 (thn (h pins _ σ _ _ I1 (q _ hn)) fun ws s2 zq76=>?_)
 obtain ⟨ps,H2,I2,rel,e,kvs,ep,lk,q2⟩:=zq76
 subst ep
 obtain ⟨rs,c,rk⟩:=carries_of (P:=X.prog) (w:=X.w) rel
 obtain ⟨z,hd,vs0,r0,dd⟩:=dk_of I2.hok e
 cases r0
 refine ⟨rs,c,dd,fun h' dd' hs=>⟨.ref s.heap.objs.size,_,?_,rfl,q2⟩⟩
 have hz:(mergeK [] kvs).length≤sizeLine:=by
  have h1:=length_mergeK kvs []
  rw [List.length_nil] at h1
  rw [sizeLine_eq];omega
 have he:∃ q,h'.get? s.heap.objs.size=some q:=let ⟨q,_,_,hq,_⟩:=dd';⟨q,hq⟩
 exact d_write I2 (by rw [e];exact True.intro) hs he (dk_new hz hd (rk.merge .nil) dd')
structure M1 (X:Cx) (o:Expr) (m:Str) (apos:Pos) (e:Expr) (cpos:Pos):Prop where
 base:attributeBase o m X.env (eval o X.env)=eval o X.env
 few:((backTo cpos (starEach [e] X.env)).all (fun x=>!x.1) && (backToKw cpos (keywordEach [] X.env)).all (fun x=>x.1.isSome)
  && decide (([e]:List Expr).length+([]:List Keyword).length+(if ([]:List Keyword).isEmpty then 0 else 1) < 30))=true
 line:(apos.endLine == cpos.line)=true
 trees:backTo cpos (starEach [e] X.env)=[(false,eval e X.env)]
structure M2 (X:Cx) (o:Expr) (m:Str) (apos:Pos) (e f:Expr) (cpos:Pos):Prop where
 base:attributeBase o m X.env (eval o X.env)=eval o X.env
 few:((backTo cpos (starEach [e,f] X.env)).all (fun x=>!x.1) && (backToKw cpos (keywordEach [] X.env)).all (fun x=>x.1.isSome)
  && decide (([e,f]:List Expr).length+([]:List Keyword).length+(if ([]:List Keyword).isEmpty then 0 else 1) < 30))=true
 line:(apos.endLine == cpos.line)=true
 trees:backTo cpos (starEach [e,f] X.env)=[(false,eval e X.env),(false,eval f X.env)]
section
variable {X:Cx} {pins:List (Addr × Obj)} {σ:St} {H:Hp} {s:Shared} {a:Addr} {y d:V} {u r:Value} {o:Option V} {A:Around} {E:Value→Shared→Prop}
end
section
variable {X:Cx} {o e f:Expr} {apos cpos:Pos} {td ty tx:TE}
end
section
variable {X:Cx} {pins:List (Addr × Obj)} {σ:St} {H:Hp} {s:Shared} {a:Addr} {kvs:List (Key × V)} {A:Around} {E:Value→Shared→Prop}
end
section
variable {X:Cx} {pins:List (Addr × Obj)} {σ:St} {H:Hp} {s:Shared} {a:Addr} {y:V} {u:Value} {A:Around} {E:Value→Shared→Prop}
end
end L2
namespace Att
open PySem PySem.W PySem.Calls PyProof.Rows
theorem ints_of_wellAll {P:Params}{h:Heap}:∀ (ns:List Int) (vs:List Value),WellAll P h vs (ns.map WData.int)→IntsAre vs ns:=by
 intro ns
 induction ns with
 | nil =>
  intro vs w
  rw [List.map_nil] at w
  cases w
  exact .nil
 | cons n ns ih =>
  intro vs w
  rw [List.map_cons] at w
  cases w with
  | cons a b =>
   cases a
   exact .cons _ _ (ih _ b)
theorem script_of {l:OpenLaw}{n:Nat}(hn:l.most=some n){P:Params}{h:Heap}{args:List WData}{vals:List Value}
  (hpre:l.row.toRowW.claim.pre args=true) (hwl:WellAll P h vals args) :
  ∃ a vs ns,vals=[Value.ref a]∧args=[WData.list (ns.map WData.int)]∧h.get? a=some { cls:=.type "list",data:=.seq vs.toArray }∧IntsAre vs ns∧ns.length≤n:=by
 have hsh:WShape.hasAll [] args [.list .int]=true:=(pre_splitW hpre).1
 have hc:l.pre.holds [] { args:=args }=true:=(pre_splitW hpre).2
 obtain ⟨d,r,rfl,h1,h2⟩:=hasAllW_cons hsh
 obtain rfl:=hasAllW_nil h2
 obtain ⟨xs,rfl,h3⟩:=hasW_list h1
 obtain ⟨ns,rfl⟩:=items_int h3
 have hlen:ns.length≤n:=by
  unfold OpenLaw.pre at hc
  have h4:(WTm.not (.lt (.lit (.int (n:Int))) (.len (.arg 0)))).holds [] { args:=[.list (ns.map .int)] }=true:=by
   have h4:=(holds_andW hc).1
   rw [hn] at h4
   exact h4
  have h5:=condW_of h4 (w_not (w_lt w_lit (w_len_list (w_arg rfl))))
  rw [List.length_map] at h5
  refine Nat.le_of_not_lt fun q=>?_
  have q':(n:Int) < ((ns.length:Nat):Int):=by omega
  first
   | (rw [decide_eq_true q'] at h5;exact absurd h5 (by decide))
   | (simp at h5;omega)
 cases hwl with
 | cons w1 w2 =>
  cases w2
  cases w1 with
  | list ho hall=>exact ⟨_,_,ns,rfl,rfl,ho,ints_of_wellAll ns _ hall,hlen⟩
theorem post_true (l:OpenLaw)(args:List WData):l.row.toRowW.claim.post args (.bool true) args=true :=
 postW_of (r:=l.row.toRowW) (X:=(true == true))
  (show WShape.has [] (.bool true) .bool=true by first | rfl | decide | simp [WShape.has,WShape.arms,WShape.armsAll])
  (show (WTm.eq .res (.lit (.bool true))).value [] { args:=args,res:=some (.bool true),after:=args }=some (.bool (true == true)) from w_eq_bool (w_res rfl) w_lit) rfl
section
variable {prog:Program} {w:World} {A:Around} {E:Value→Shared→Prop} {s:Shared} {K:Frag}
end
end Att
namespace L2
open PySem PySem.Spec PyProof.Rows
theorem vals_ints:∀ {vs:List Value} {ns:List Int},IntsAre vs ns→Vals (ns.map V.int) vs
 | _,_,.nil=>.nil
 | _,_,.cons n t h=>.cons ⟨t,rfl⟩ (vals_ints h)
noncomputable def Only (H:Hp):Prop:=∀ b,H b=none ∨ ∃ o xs,H b=some (.frz o (.lst xs))
end L2
namespace L2
open PySem PySem.Spec PyProof.Rows
end L2
/- THE LAST THEOREM (shape;LID,My.* are yours):
  My.Adr: a structure of the addresses that your layer names (classes,functions);My.Txt K t: a structure (Prop) of the equations over K;
  My.txt_mk:{K} {implicit addresses ..} (e1:nsIn K mainGlobals "law" = some (some (.ref f))) (e2:K.lookup f=some ⟨oc,od,.func (fnOf "law" "law" params body scope dV kV doc pm an cdv ct),sl⟩) (e3:codeIn K cdv "law" = true) ..:∃ t,My.Txt K t
set_option maxRecDepth 100000 in
set_option maxHeartbeats 0 in
theorem PySem.Challenge.cw_LID_holds : PySem.Challenge.rw_LID.Holds := by
 w_on;o_law;k_head;(case hw=>w_witness2)
 k_fill
 refine L2.walk_of (l:=PySem.Challenge.rw_LID) (n:=63) (k:=40) (x:="script") (CX:=fun w=>..) (sp:=fun _=>My.sp_law) rfl (by decide) rfl ⟨rfl,by decide,by decide⟩ (fun w h Y=>PySem.W.kIn_of Y) ?F ?S ?C
 case F =>
  intro w mg fa h KX G hmg
  have T:∃ t,My.Txt (L2.KOf KX) t:=by
   dsimp only [L2.KOf]                          -- K must stand as «<heap const> w.params» for k_is
   refine' My.txt_mk ?e1 ?e2 ?e3 ..
   (case e1=>PySem.W.k_is)                    -- in the order: a name -> its address -> its object -> its parts
   (case e2=>PySem.W.k_is)
   ..
  obtain ⟨t,T⟩:=T
  have e0:=hmg.symm.trans (PySem.W.mg_of KX G T.law)
  cases e0                                       -- fa is the law's own address
  exact ⟨_,fun s u=>.of_eq rfl,fun base kb nb=>My.law_fn T kb nb⟩     -- if «.of_eq rfl» comes too early: refine' ⟨_,?b,fun base kb nb=>My.law_fn T kb nb⟩;exact fun s u=>.of_eq rfl
 case S=>exact fun w H a ns hl hO hS=>..
 case C=>exact ..
(the tactic k_is has no namespace: write k_is) -/
namespace L2
open PySem PySem.Spec PyProof.Rows
noncomputable def defArgs (s:Stmt):Arguments:=match s with
 | .FunctionDef _ a _ _ _ _ _ _ _ _=>a
 | _=>{ posonlyargs:=[],args:=[],vararg:=none,kwonlyargs:=[],kw_defaults:=[],kwarg:=none,defaults:=[] }
noncomputable def defBody (s:Stmt):List Stmt:=match s with
 | .FunctionDef _ _ b _ _ _ _ _ _ _=>b
 | _=>[]
noncomputable def defScope (s:Stmt):Scope:=match s with
 | .FunctionDef _ _ _ _ _ _ sc _ _ _=>sc
 | _=>{ kind:=.function,names:=[],isGenerator:=false,isCoroutine:=false }
noncomputable abbrev CX0:CXT:=fun _ _ _ _ _ _=>False
noncomputable abbrev E0:XK:=fun _ _ _=>False
theorem pass0 {X:Cx}:Passes CX0 X E0:=fun _ _ _ _ _ _ _ h=>h.elim
structure Fun (K:PySem.W.Frag) (x qual:Str) (st:Stmt) (f:Addr) (fd:FuncData):Prop where
 ex:∃ (oc:Value) (od:Option Addr) (kV doc pm:Value) (an:Option Addr) (cdv ct:Value) (osl:Array (Option Value)),
  fd=PySem.W.fnOf x qual (defArgs st) (defBody st) (defScope st) .none kV doc pm an cdv ct∧K.lookup f=some ⟨oc,od,.func fd,osl⟩∧PySem.W.codeIn K cdv qual=true
 kp:PySem.W.keepIn K (.ref f)=true
section
variable {P:Program} {w:World} {K:PySem.W.Frag} {mg:Str→Option Value} {base:Heap}
theorem Fun.ok {x qual:Str}{st:Stmt}{f:Addr}{fd:FuncData}{N ps:List Str}{k:Nat}{sp:Sp}(F:Fun K x qual st f fd)(S:FnScope N ps (defScope st))(len:∀ vs H Q E,sp vs H Q E→vs.length=ps.length)
  (hbody:∀ (cdv:Value) (A:Around) (outer:List Env) (s:Shared) (H:Hp) (vs:List V) (Q:VK) (E:XK),Room k (A.deeper (envOfC qual (defScope st) s.heap.objs.size f cdv))→sp vs H Q E →
   ∃ t,PSs (cxOf CX0 P w K mg base N qual (defScope st) f cdv A outer s H E).nox (defBody st) t∧t { nx:=fun _ H'=>Q .non H',rt:=Q } (start N vs) H):FnOk P w K mg base CX0 (k+1) f fd ps sp:=by
 obtain ⟨oc,od,kV,doc,pm,an,cdv,ct,osl,rfl,lk,hcd⟩:=F.ex
 refine fn_of lk hcd S len fun A outer s H vs Q E hr hsp=>?_
 obtain ⟨t,h,q⟩:=hbody cdv A outer s H vs Q E hr hsp
 exact ⟨t,h.nox,q⟩
theorem Fun.binds {x qual:Str}{st:Stmt}{f:Addr}{fd:FuncData}{ps:List Str}(F:Fun K x qual st f fd)
  (h:∀ (kV doc pm:Value) (an:Option Addr) (cdv ct:Value) (us:List Value),us.length=ps.length→bindArgs (PySem.W.fnOf x qual (defArgs st) (defBody st) (defScope st) .none kV doc pm an cdv ct) ⟨us,[]⟩=pure (ps.zip us)):Binds K fd ps []:=by
 obtain ⟨oc,od,kV,doc,pm,an,cdv,ct,osl,rfl,lk,hcd⟩:=F.ex
 exact .all (h kV doc pm an cdv ct)
theorem fun_mk {x qual:Str}{st:Stmt}{f:Addr}{oc:Value}{od an:Option Addr}{osl:Array (Option Value)}{kV doc pm cdv ct:Value}(l:K.lookup f=some ⟨oc,od,.func (PySem.W.fnOf x qual (defArgs st) (defBody st) (defScope st) .none kV doc pm an cdv ct),osl⟩)
  (c:PySem.W.codeIn K cdv qual=true) (k:PySem.W.keepIn K (.ref f)=true):Fun K x qual st f (PySem.W.fnOf x qual (defArgs st) (defBody st) (defScope st) .none kV doc pm an cdv ct):=⟨⟨oc,od,kV,doc,pm,an,cdv,ct,osl,rfl,l,c⟩,k⟩
end
theorem hu_of {A:Around}{k:Nat}(hr:Room k A):A.units+1 < cLine:=Nat.lt_of_le_of_lt (Nat.add_le_add_left (by decide:1≤64) _) hr.units
section
variable {X:Cx}
theorem pv (i:Nat){x:Str}{pos:Pos}(hN:X.N[i]? = some x:=by rfl)(hv:Vis X.env.scope x:=by first | exact Or.inl rfl | exact Or.inr (Or.inl rfl) | exact Or.inr (Or.inr rfl))(hd:(x == ("__debug__":Str))=false:=by decide)
  (hcd:(x == ("__classdict__":Str))=false:=by decide):PE X (.Name x pos) (tVar i):=pe_var hN hv hd hcd
end
theorem iteF {A B:Prop}(h:B):if false=true then A else B:=by
 rw [if_neg Bool.false_ne_true]
 exact h
theorem iteT {A B:Prop}(h:A):if true=true then A else B:=by
 rw [if_pos rfl]
 exact h
theorem ite2 {c A B:Prop}[Decidable c](h1:c→A)(h2:¬ c→B):if c then A else B:=by
 by_cases h:c
 ·rw [if_pos h]
  exact h1 h
 ·rw [if_neg h]
  exact h2 h
noncomputable def Same (H H':Hp):Prop:=∀ b o,H b=some o→H' b=some o
theorem Same.refl (H:Hp):Same H H:=fun _ _ h=>h
theorem Same.trans {H H1 H2:Hp}(a:Same H H1)(b:Same H1 H2):Same H H2:=fun c o h=>b c o (a c o h)
theorem Same.free {H H':Hp}(e:Same H H'){l:Addr}(h:H' l=Option.none):H l=Option.none:=by
 cases q:H l with
 | none=>rfl
 | some o =>
  rw [e l o q] at h
  cases h
theorem Same.seq {K:PySem.W.Frag}{H H':Hp}{a:Addr}{xs:List V}(e:Same H H')(h:SqL K H a xs):SqL K H' a xs:=by
 rcases h with (h | ⟨o,h⟩) | h
 ·exact .inl (.inl (e _ _ h))
 ·exact .inl (.inr ⟨o,e _ _ h⟩)
 ·exact .inr h
section
variable {κ:Type} [DecidableEq κ]
end
end L2
namespace L2
open PySem PySem.Spec PyProof.Rows
noncomputable def clOf (cells:List (Str × Addr)):List (Str × NameKind)→List (Str × Addr)→List (Str × Addr)
 | [],acc=>acc
 | (x,k)::r,acc=>if k == NameKind.free then clOf cells r ((x,(cells.lookup x).getD 0)::acc) else clOf cells r acc
theorem clOf_mem {cells:List (Str × Addr)}{p:Str × Addr}:∀ {names:List (Str × NameKind)} {acc:List (Str × Addr)},p∈clOf cells names acc→p∈acc ∨ ((p.1,NameKind.free)∈names∧p.2=(cells.lookup p.1).getD 0)
 | [],_,h=>.inl h
 | (x,k)::r,acc,h=>by
  unfold clOf at h
  by_cases hk:(k == NameKind.free)=true
  ·rw [if_pos hk] at h
   have ek:k=NameKind.free:=by simpa using hk
   subst ek
   rcases clOf_mem h with h | ⟨h,e⟩
   ·rcases List.mem_cons.mp h with h | h
    ·subst h
     exact .inr ⟨List.mem_cons_self,rfl⟩
    ·exact .inl h
   ·exact .inr ⟨List.mem_cons_of_mem _ h,e⟩
  ·rw [if_neg hk] at h
   rcases clOf_mem h with h | ⟨h,e⟩
   ·exact .inl h
   ·exact .inr ⟨List.mem_cons_of_mem _ h,e⟩
theorem clOf_acc {cells:List (Str × Addr)}{p:Str × Addr}:∀ {names:List (Str × NameKind)} {acc:List (Str × Addr)},p∈acc→p∈clOf cells names acc
 | [],_,h=>h
 | (x,k)::r,acc,h=>by
  unfold clOf
  split
  ·exact clOf_acc (List.mem_cons_of_mem _ h)
  ·exact clOf_acc h
theorem clOf_has {cells:List (Str × Addr)}{x:Str}:∀ {names:List (Str × NameKind)} {acc:List (Str × Addr)},(x,NameKind.free)∈names→(x,(cells.lookup x).getD 0)∈clOf cells names acc
 | [],_,h=>by simp at h
 | (y,k)::r,acc,h=>by
  unfold clOf
  rcases List.mem_cons.mp h with h | h
  ·have e1:x=y:=congrArg Prod.fst h
   have e2:NameKind.free=k:=congrArg Prod.snd h
   subst e1 e2
   rw [if_pos (by simp)]
   exact clOf_acc List.mem_cons_self
  ·split
   ·exact clOf_has h
   ·exact clOf_has h
theorem lookup_of_mem {x:Str}{c:Addr}:∀ {l:List (Str × Addr)},(x,c)∈l→∃ d,l.lookup x=some d
 | [],h=>by simp at h
 | (y,d)::r,h=>by
  rw [List.lookup_cons]
  by_cases e:(x == y)=true
  ·rw [e];exact ⟨d,rfl⟩
  ·have e':(x == y)=false:=by simpa using e
   rw [e']
   rcases List.mem_cons.mp h with h | h
   ·have:x=y:=congrArg Prod.fst h
    exact absurd (by simpa using this) e
   ·exact lookup_of_mem h
theorem closureFor_is {env:Env}{scope:Scope}(h:∀ y∈scope.names,y.2=NameKind.free→∃ c,env.cells.lookup y.1=some c):closureFor scope env=pure (clOf env.cells scope.names []):=by
 have all:∀ (names:List (Str × NameKind)) (acc:List (Str × Addr)),(∀ y∈names,y.2=NameKind.free→∃ c,env.cells.lookup y.1=some c) →
   (forIn names acc (fun (p:Str × NameKind) (r:List (Str × Addr))=>(if (p.2 == NameKind.free)=true then (do let a ← cellOf env p.1;pure (ForInStep.yield ((p.1,a)::r))) else pure (ForInStep.yield r):Sem (ForInStep (List (Str × Addr))))))=(pure (clOf env.cells names acc):Sem (List (Str × Addr))):=by
  intro names
  induction names with
  | nil=>intro acc _;rfl
  | cons p r ih =>
   intro acc hh
   obtain ⟨x,k⟩:=p
   have hr:∀ y∈r,y.2=NameKind.free→∃ c,env.cells.lookup y.1=some c:=fun y hy=>hh y (List.mem_cons_of_mem _ hy)
   rw [List.forIn_cons]
   unfold clOf
   by_cases hk:(k == NameKind.free)=true
   ·obtain ⟨c,hc⟩:=hh (x,k) List.mem_cons_self (by simpa using hk)
    have hc:env.cells.lookup x=some c:=hc
    have ec:cellOf env x=pure c:=by
     unfold cellOf
     rw [hc]
    simp only [hk,if_true,ec,pure_bind,hc,Option.getD_some]
    exact ih _ hr
   ·simp only [hk,if_false,pure_bind]
    exact ih _ hr
 have e:=all scope.names [] h
 unfold closureFor
 simp only [bind_pure]
 exact e
noncomputable def blkOk (scope sc:Scope)(NB own:List Str)(cap:List Nat)(N:List Str):Bool :=
 (scope.kind == .function) && (sc.kind == .function) &&
 (scope.names.all fun y=>match y.2 with
  | .cell=>false
  | .free=>sc.names.lookup y.1 == some NameKind.cell
  | .local=>scope.names.lookup y.1 == some NameKind.local
  | _=>true) &&
 (own.all fun x=>scope.names.lookup x == some NameKind.local && scope.names.all fun y=>!(y.1 == x) || y.2 == NameKind.local) &&
 (NB == own++cap.map fun i=>N.getD i "") && (cap.all fun i=>decide (i < N.length) && scope.names.lookup (N.getD i "") == some NameKind.free)
structure Blk (X:Cx) (scope:Scope) (NB own:List Str) (cap:List Nat):Prop where
 kind:scope.kind = .function
 outk:X.env.scope.kind = .function
 nocell:∀ y∈scope.names,y.2 ≠ .cell
 free:∀ y∈scope.names,y.2 = .free→X.env.kindOf y.1=some .cell
 names:∀ y∈scope.names,y.2 = .local→scope.names.lookup y.1=some .local
 owns:∀ x∈own,∀ y∈scope.names,y.1=x→y.2 = .local
 nb:NB=own++cap.map fun i=>X.N.getD i ""
 caps:∀ i∈cap,i < X.N.length∧scope.names.lookup (X.N.getD i "")=some .free
theorem blk_of {X:Cx}{scope sc:Scope}{NB own:List Str}{cap:List Nat}(hs:X.env.scope=sc)(h:blkOk scope sc NB own cap X.N=true):Blk X scope NB own cap:=by
 unfold blkOk at h
 simp only [Bool.and_eq_true] at h
 obtain ⟨⟨⟨⟨⟨h1,h2⟩,h3⟩,h4⟩,h5⟩,h6⟩:=h
 rw [List.all_eq_true] at h3 h4 h6
 subst hs
 refine ⟨by simpa using h1,by simpa using h2,fun y hy e=>?_,fun y hy e=>?_,fun y hy e=>?_,fun x hx y hy e=>?_,by simpa using h5,fun i hi=>?_⟩
 ·have:=h3 y hy
  rw [e] at this
  exact absurd this (by simp)
 ·have:=h3 y hy
  rw [e] at this
  show X.env.scope.names.lookup y.1=some .cell
  simpa using this
 ·have:=h3 y hy
  rw [e] at this
  simpa using this
 ·have:=h4 x hx
  simp only [Bool.and_eq_true,List.all_eq_true] at this
  have q:=this.2 y hy
  subst e
  simpa using q
 ·have:=h6 i hi
  simp only [Bool.and_eq_true] at this
  exact ⟨of_decide_eq_true this.1,by simpa using this.2⟩
noncomputable def cxB (X:Cx)(NB own:List Str)(scope:Scope)(C:Addr)(fp:List Addr)(s₀:Shared)(H₀:Hp):Cx where
 prog:=X.prog
 w:=X.w
 K:=X.K
 mg:=X.mg
 base:=X.base
 A:=X.A
 N:=NB
 s₀:=s₀
 H₀:=H₀
 env:=compEnvC scope (clOf X.env.cells scope.names []) C X.env
 outer:=X.stack
 stack:=X.stack
 ex:=fp
 fn:=fun x=>own.contains x
 calm:=X.calm
 pn:=[]
 lo:=X.lo
 xe:=fun _ _=>False
theorem relabel_free {env:Env}{x:Str}{k:NameKind}(hk:k = .cell ∨ k = .free):∀ {names:List (Str × NameKind)},(∀ y∈names,y.2 ≠ .cell) →
  (names.map fun (n,k)=>if (k == NameKind.free && env.scope.kind == .function && env.kindOf n == some .cell) then (n,NameKind.cell) else (n,k)).lookup x=some k→(x,NameKind.free)∈names
 | [],_,h=>by simp at h
 | (n,q)::r,hn,h=>by
  have ih:=@relabel_free env x k hk r fun y hy=>hn y (List.mem_cons_of_mem _ hy)
  rw [List.map_cons,List.lookup_cons] at h
  have key:(if (q == NameKind.free && env.scope.kind == .function && env.kindOf n == some .cell)=true then (n,NameKind.cell) else (n,q)).1=n:=by split <;> rfl
  by_cases e:(x == n)=true
  ·have en:x=n:=by simpa using e
   subst en
   by_cases hq:q = .free
   ·subst hq;exact List.mem_cons_self
   ·have hqf:(q == NameKind.free)=false:=by simpa using hq
    simp only [hqf,Bool.false_and,Bool.false_eq_true,if_false,beq_self_eq_true] at h
    have h':q=k:=Option.some.inj h
    rcases hk with z | z
    ·exact absurd (h'.trans z) (hn (x,q) List.mem_cons_self)
    ·exact absurd (h'.trans z) hq
  ·have e':(x == n)=false:=by simpa using e
   refine List.mem_cons_of_mem _ (ih ?_)
   have e2:(x == (if (q == NameKind.free && env.scope.kind == .function && env.kindOf n == some .cell)=true then (n,NameKind.cell) else (n,q)).1)=false:=by rw [key];exact e'
   rw [e2] at h
   exact h
theorem relabel_cap {env:Env}{x:Str}(hk:env.scope.kind = .function)(hc:env.kindOf x=some .cell):∀ {names:List (Str × NameKind)},names.lookup x=some .free →
  (names.map fun (n,k)=>if (k == NameKind.free && env.scope.kind == .function && env.kindOf n == some .cell) then (n,NameKind.cell) else (n,k)).lookup x=some .cell
 | [],h=>by simp at h
 | (n,q)::r,h=>by
  have ih:=@relabel_cap env x hk hc r
  rw [List.lookup_cons] at h
  rw [List.map_cons,List.lookup_cons]
  by_cases e:(x == n)=true
  ·have en:x=n:=by simpa using e
   subst en
   rw [e] at h
   have hq:q = .free:=Option.some.inj h
   subst hq
   simp [hk,hc]
  ·have e':(x == n)=false:=by simpa using e
   rw [e'] at h
   have key:(if (q == NameKind.free && env.scope.kind == .function && env.kindOf n == some .cell)=true then (n,NameKind.cell) else (n,q)).1=n:=by split <;> rfl
   have e2:(x == (if (q == NameKind.free && env.scope.kind == .function && env.kindOf n == some .cell)=true then (n,NameKind.cell) else (n,q)).1)=false:=by rw [key];exact e'
   rw [e2]
   exact ih h
noncomputable def stB (own:List Str)(cap:List Nat)(σ:St):St:=(own.map fun _=>none)++cap.map fun i=>(σ[i]?).getD none
section
variable {X:Cx} {pins:List (Addr × Obj)} {σ:St} {H:Hp} {s:Shared} {scope:Scope} {NB own:List Str} {cap:List Nat} {fp:List Addr} {C:Addr}
theorem Blk.cells (B:Blk X scope NB own cap)(ok:X.Ok){x:Str}{c:Addr}(h:(clOf X.env.cells scope.names []).lookup x=some c):X.env.cells.lookup x=some c∧(x,NameKind.free)∈scope.names:=by
 rcases clOf_mem (PySem.mem_of_lookup h) with q | ⟨q,e⟩
 ·simp at q
 ·obtain ⟨d,hd⟩:=ok.has x (.inl (B.free (x,.free) q rfl))
  have e:c=(X.env.cells.lookup x).getD 0:=e
  rw [hd] at e
  refine ⟨?_,q⟩
  rw [hd,e];rfl
theorem Blk.cell (B:Blk X scope NB own cap)(ok:X.Ok){x:Str}(h:(x,NameKind.free)∈scope.names):∃ c,(clOf X.env.cells scope.names []).lookup x=some c:=lookup_of_mem (clOf_has h)
theorem Blk.start (B:Blk X scope NB own cap)(I:Inv X pins σ H s)(hf:∀ b∈fp,FpOk X pins H b)(hfs:∀ b∈fp,∃ o,s.heap.get? b=some o){h':Heap}{tk:Nat}{m:Str→Option Value}(hC:s.heap.objs.size≤C)
  (k:∀ b o,s.heap.get? b=some o→h'.get? b=some o) (hn:h'.Ns C m) (hk:s.toks≤tk) :
  Inv (cxB X NB own scope C fp s H) [] (stB own cap σ) H { s with heap:=h',toks:=tk }:=by
 have hlen:NB.length=own.length+cap.length:=by rw [B.nb];simp
 have okB:(cxB X NB own scope C fp s H).Ok:=by
  refine ⟨I.ok.mod,B.kind,I.ok.glob,I.ok.blt,hC,fun x y c h1 h2=>I.ok.inj x y c (B.cells I.ok h1).1 (B.cells I.ok h2).1,fun x hx=>?_,fun x c h1 h2=>?_,I.ok.hd,I.ok.frames,.inl rfl,fun b hb=>⟨?_,fun x c h=>?_⟩,I.bs,Nat.le_trans I.ok.bsz I.sz,fun b o e hb=>?_,fun b hb z=>?_,I.stack,I.stkFree⟩
  ·have:(x,NameKind.free)∈scope.names:=by
    rcases hx with z | z
    ·exact relabel_free (.inl rfl) B.nocell z
    ·exact relabel_free (.inr rfl) B.nocell z
   exact B.cell I.ok this
  ·have hx:x∈own:=by simpa [cxB] using h1
   have q:=B.owns x hx _ (B.cells I.ok h2).2 rfl
   exact absurd q (by simp)
  ·obtain ⟨o,e⟩:=hfs b hb
   exact Nat.ne_of_lt (Nat.lt_of_lt_of_le (Heap.lt_size e) hC)
  ·exact (hf b hb).2.2.2.2.1 x c (B.cells I.ok h).1
  ·have hb:b∈fp:=hb
   rcases (hf b hb).2.2.2.1 with z | z
   ·exact I.ok.noex b o e z
   ·exact absurd (Nat.lt_of_lt_of_le (Heap.lt_size e) (Nat.le_trans I.ok.bsz z)) (Nat.lt_irrefl _)
  ·rcases List.mem_cons.mp (I.stkSub b z) with z | z
   ·exact (hf b hb).2.1 z
   ·exact (hf b hb).2.2.1 z
 refine InvW.up (X:=cxB X NB own scope C fp s H) ?_ (Nat.le_trans I.low hk)
 refine ⟨okB,rfl,I.bare,Un.kept k,⟨m,hn,fun i x v e1 e2 e3=>?_⟩,fun x c h=>?_,I.hok.fresh hC,fun x c h=>I.freeC x c (B.cells I.ok h).1,fun p hp=>absurd (show p∈([]:List (Addr × Obj)) from hp) (by simp),I.hok.kept k,?_⟩
 ·have e1:NB[i]? = some x:=e1
  have hi:¬ i < own.length:=fun hi=>by
   unfold stB at e2
   rw [List.getElem?_append_left (by simpa using hi),List.getElem?_map] at e2
   cases q:own[i]? <;> rw [q] at e2 <;> cases e2
  unfold stB at e2
  rw [List.getElem?_append_right (by simpa using hi),List.getElem?_map] at e2
  rw [B.nb,List.getElem?_append_right (by omega),List.getElem?_map] at e1
  simp only [List.length_map] at e2
  cases q:cap[i - own.length]? with
  | none=>rw [q] at e1;cases e1
  | some j =>
   rw [q] at e1 e2
   have ex:X.N.getD j "" = x:=Option.some.inj e1
   have ev:(σ[j]?).getD none=some v:=Option.some.inj e2
   obtain ⟨hj,hjf⟩:=B.caps j (List.mem_of_getElem? q)
   rw [ex] at hjf
   have hN:X.N[j]? = some x:=by rw [← ex,List.getD_eq_getElem?_getD,List.getElem?_eq_getElem hj];rfl
   have hσ:σ[j]? = some (some v):=by
    cases z:σ[j]? with
    | none=>rw [z] at ev;cases ev
    | some u=>rw [z] at ev;exact congrArg some ev
   have hmem:(x,NameKind.free)∈scope.names:=PySem.mem_of_lookup hjf
   have hkc:=B.free _ hmem rfl
   obtain ⟨m0,hn0,hl⟩:=I.loc
   obtain ⟨u,r,l⟩:=hl j x v hN hσ (.inr (.inl hkc))
   refine ⟨u,r,.inr ⟨.inl (relabel_cap B.outk hkc hjf),?_⟩⟩
   obtain ⟨c,hc⟩:=B.cell I.ok hmem
   refine ⟨c,hc,?_⟩
   rcases l with ⟨z,_⟩ | ⟨_,c',hc',⟨oc,hoc,hd⟩⟩
   ·rw [show X.env.kindOf x=some .cell from hkc] at z;cases z
   ·have:=(B.cells I.ok hc).1
    rw [hc'] at this
    have:c'=c:=Option.some.inj this
    subst this
    exact ⟨oc,k _ _ hoc,hd⟩
 ·obtain ⟨v,oc,hoc,hd⟩:=I.cell x c (B.cells I.ok h).1
  exact ⟨v,oc,k _ _ hoc,hd⟩
 ·show (stB own cap σ).length=NB.length
  unfold stB
  rw [hlen];simp
theorem Blk.done (B:Blk X scope NB own cap)(I:Inv X pins σ H s)(hf:∀ b∈fp,FpOk X pins H b){σB:St}{H':Hp}{s':Shared}{h'':Heap}{D:Addr}{ys:List V}{its:List Value}{n:Nat}(hC:s.heap.objs.size≤C)(hD:s.heap.objs.size≤D)(hDC:D≠C)
  (J:Inv (cxB X NB own scope C fp s H) [] σB H' s') (hn:H' D=none) (e:s'.heap.get? D=some { cls:=.type "list",data:=.seq its.toArray n }) (hv:Vals ys its) (hz:ys.length≤sizeLine)
  (sb:Heap.SameBut C s'.heap h''):InvW X pins σ (upd H' D (.lst ys)) { s' with heap:=h'' }:=by
 have un:Un (frs X.stack) fp H H' s.heap s'.heap:=J.base
 have neC:∀ {b o},s.heap.get? b=some o→b≠C:=fun q=>Nat.ne_of_lt (Nat.lt_of_lt_of_le (Heap.lt_size q) hC)
 have neD:∀ {b o},s.heap.get? b=some o→b≠D:=fun q=>Nat.ne_of_lt (Nat.lt_of_lt_of_le (Heap.lt_size q) hD)
 have hCn:H' C=none:=J.free
 refine I.call' (s':={ s' with heap:=h'' }) (ch:=fp) J.os ⟨fun b o q n hb hx=>?_,fun b o q n hb hx=>?_,fun b o q n hx=>?_,fun b o q hx=>?_,fun b xs q=>?_,fun b o u q=>?_,fun b ps q=>?_⟩ (fun b u q=>?_) J.bare fun b hb=>?_
 ·exact (sb.2 b (neC q)).trans (un.keep b o q n hb hx)
 ·obtain ⟨sl,r⟩:=un.slot b o q n hb hx
  exact ⟨sl,(sb.2 b (neC q)).trans r⟩
 ·rw [upd_ne (neD q)]
  exact un.free b o q n hx
 ·obtain ⟨o',r⟩:=un.there b o q hx
  exact ⟨o',(sb.2 b (neC q)).trans r⟩
 ·have r:=un.tups b xs q
  rw [upd_ne (ne_of_none r hn)]
  exact r
 ·have r:=un.frzs b o u q
  rw [upd_ne (ne_of_none r hn)]
  exact r
 ·obtain ⟨more,r⟩:=un.tbls b ps q
  exact ⟨more,by rw [upd_ne (ne_of_none r hn)];exact r⟩
 ·by_cases hb:b=D
  ·subst hb
   rw [upd_same] at q
   cases q
   exact ⟨hz,its,n,hv,(sb.2 b hDC).trans e⟩
  ·rw [upd_ne hb] at q
   refine (J.hok b u q).stay (fun c v hc r=>(sb.2 c ?_).trans r) (fun c r=>?_) fun c xs r=>?_
   ·rcases hc with z | z
    ·rw [z];exact ne_of_none q hCn
    ·exact ne_of_none z hCn
   ·rw [upd_ne (ne_of_none r hn)];exact r
   ·rw [upd_ne (ne_of_none r hn)];exact r
 ·obtain ⟨_,f1,_,f3,f4,f5⟩:=hf b hb
  exact ⟨f3,f1,f4,f5⟩
end
noncomputable def PIf (X:Cx)(ifs:List Expr)(t:TT):Prop :=
 ∀ (pins:List (Addr × Obj)) (s:Shared) (σ:St) (H:Hp) (Q:Bool→Hp→Prop),Inv X pins σ H s→t σ H Q →
  wpAny (model X.prog X.w) X.A (forIn ifs true fun c r=>if r=true then do let ok ← isTrue c X.env (eval c X.env);pure (ForInStep.yield ok) else pure (ForInStep.yield r)) (TP X pins σ Q) X.xe s
noncomputable def tYes:TT:=fun _ H Q=>Q true H
theorem pifs_nil {X:Cx}:PIf X [] tYes:=fun _ _ _ H _ I h=>wpAny_tests_nil ⟨H,I,h⟩
theorem pifs_one {X:Cx}{c:Expr}{t:TT}(h:PT X c t):PIf X [c] t:=fun pins s σ H Q I q=>wpAny_tests_one (h pins s σ H Q I q)
section
variable {prog:Program} {w:World} {A:Around} {R:Result→Shared→Prop} {s:Shared}
noncomputable abbrev noE:Value→Shared→Prop:=fun _ _=>False
theorem comp_loop {elt tg iter:Expr}{ifs:List Expr}{scope:Scope}{pos:Pos}{it acc:Value}{env:Env}(I:Nat→Shared→Prop)
  (turn:∀ n s,I n s→wpAny (model prog w) A (pyNext it) (fun r s₁=>match r with
   | none=>R (.ok .next) s₁
   | some v=>wpAny (model prog w) A (letOwnedTupleGo tg it v) (fun _ s₀=>wpAny (model prog w) A (assign tg env v) (fun _ s₂ =>
     wpAny (model prog w) A (forIn ifs true fun c r=>if r=true then do let ok ← isTrue c env (eval c env);pure (ForInStep.yield ok) else pure (ForInStep.yield r)) (fun ok s₃ =>
      if ok=true then wpAny (model prog w) A (eval elt env) (fun x s₄=>wpAny (model prog w) A (call (.builtin "list.append") [acc,x]) (fun _ s₅=>∃ m,m < n∧I m s₅) noE s₄) noE s₃
      else ∃ m,m < n∧I m s₃) noE s₂) noE s₀) noE s₁) noE s)
  (n:Nat) (h:I n s):codeAny (model prog w) A (.compLoop (.ListComp elt [⟨tg,iter,ifs,0⟩] scope pos) 0 it acc env) R s:=by
 refine codeAny_loop rfl I (fun n s hI=>?_) n h
 show wpAny _ A ((compTurn (.ListComp elt [⟨tg,iter,ifs,0⟩] scope pos) 0 it acc env).onRaise (fun x=>do noteFrame x env;theTreesLotGoes x)) _ _ s
 refine wpAny_noted ?_
 rw [compTurn_list]
 refine wpAny_bind (wpAny_standAt (wpAny_bind (wpAny_mono (turn n s hI) (fun r s₁ h₁=>?_) fun _ _ z=>False.elim z)))
 cases r with
 | none=>exact wpAny_pure h₁
 | some v =>
  refine wpAny_bind (wpAny_mono h₁ (fun _ s₀ h₀=>wpAny_bind (wpAny_mono h₀ (fun _ s₂ h₂=>wpAny_bind (wpAny_mono h₂ (fun ok s₃ h₃=>?_) fun _ _ z=>False.elim z)) fun _ _ z=>False.elim z)) fun _ _ z=>False.elim z)
  cases ok with
  | false=>exact wpAny_pure ⟨rfl,h₃⟩
  | true=>exact wpAny_bind (wpAny_bind (wpAny_mono h₃ (fun x s₄ h₄=>wpAny_bind (wpAny_mono h₄ (fun _ s₅ h₅=>wpAny_pure (wpAny_pure ⟨rfl,h₅⟩)) fun _ _ z=>False.elim z)) fun _ _ z=>False.elim z))
end
noncomputable def CompW (own:List Str)(cap:List Nat)(g:TG)(ti:TT)(te:TE)(Q:VK)(σ:St)(J:It)(H1:Hp):Prop:=∃ W:Nat→Nat→List V→St→Hp→Prop,(∃ m,W 0 m [] (stB own cap σ) H1)∧∀ i m ys σ H,W i m ys σ H →
 (J.stop i H∧ys.length≤sizeLine∧∀ D,H D=none→Q (.ref D) (upd H D (.lst ys))) ∨
 (J.go i H∧ys.length < sizeLine∧∀ x H',J.yld i H x H'→g x σ H' fun σ2 H2=>ti σ2 H2 fun b H3=>if b=true then te σ2 H3 fun y H4=>∃ m',m' < m∧W (i+1) m' (ys++[y]) σ2 H4 else ∃ m',m' < m∧W (i+1) m' ys σ2 H3)
noncomputable def tComp (own:List Str)(cap:List Nat)(wi:TI)(g:TG)(ti:TT)(te:TE):TE:=fun σ H Q=>wi σ H fun J H1=>CompW own cap g ti te Q σ J H1
theorem comp_gen {X:Cx}{pos2:Pos}{use:Option (Value→Sem Unit)}{QQ:Value→Shared→Prop}{pins:List (Addr × Obj)}{s:Shared}{σ:St}{H:Hp}{Q:VK}{elt iter tg:Expr}{ifs:List Expr}{scope:Scope}{pos:Pos}{NB own:List Str}{cap:List Nat}{wi:TI}{g:TG}{ti:TT}{te:TE}(B:Blk X scope NB own cap)(hc:X.calm=true)(hi:PI X tg iter wi)
  (hg:∀ C fp s₀ H₀,PG (cxB X NB own scope C fp s₀ H₀) tg g) (ht:∀ C fp s₀ H₀,PIf (cxB X NB own scope C fp s₀ H₀) ifs ti) (he:∀ C fp s₀ H₀,PE (cxB X NB own scope C fp s₀ H₀) elt te)
  (hs:∀ x,foldedSetIterable iter X.env x=pure x) (I0:Inv X pins σ H s) (h:tComp own cap wi g ti te σ H Q)
  (fin:∀ (fp:List Addr) (C:Addr) (s2 s4:Shared) (H2 H3:Hp) (σ3:St) (its:List Value) (ys:List V) (k:Nat),Inv X pins σ H2 s2→(∀ b∈fp,FpOk X pins H2 b)→s2.heap.objs.size≤C→s2.heap.objs.size≠C→Inv (cxB X NB own scope C fp s2 H2) [] σ3 H3 s4→H3 s2.heap.objs.size=none→s4.heap.get? s2.heap.objs.size=some { cls:=.type "list",data:=.seq its.toArray k }→Vals ys its→ys.length≤sizeLine→Q (.ref s2.heap.objs.size) (upd H3 s2.heap.objs.size (.lst ys)) →
   compPost (model X.prog X.w) X.A X.xe use QQ (.ref s2.heap.objs.size) C (.ok .next) s4):wpAny (model X.prog X.w) X.A (comprehension (.ListComp elt [⟨tg,iter,ifs,0⟩] scope pos) scope X.env pos2 (newList []) false (eval iter X.env) use) QQ X.xe s:=by
 have hclos:=closureFor_is (env:=X.env) (scope:=scope) fun y hy e=>I0.ok.has y.1 (.inl (B.free y hy e))
 refine wpAny_comprehension_free (use:=use) rfl hs hclos B.kind B.names (thn (hi pins s σ H _ I0 h) fun v s1 h1=>thn h1 fun itv s2 h2=>?_)
 obtain ⟨it,fp,tn,J,H2,rfl,I,T,st2,f2,W,⟨m0,w0⟩,turn⟩:=h2
 refine wpAny_newList ?_
 refine wpAny_newFunctionEnv B.nocell (by intro y hy;simp at hy) (fun h₁ hns₁ hsb₁=>?_) B.kind
 dsimp only at hns₁ hsb₁ ⊢
 generalize hP:s2.heap.push { cls:=.type "list",dict:=none,data:=.seq ([]:List Value).toArray }=P at hns₁ hsb₁ ⊢
 have hC:P.objs.size=s2.heap.objs.size+1:=by rw [← hP,Heap.size_push]
 have hDC:s2.heap.objs.size≠P.objs.size:=by rw [hC];exact Nat.ne_of_lt (Nat.lt_succ_self _)
 have hCle:s2.heap.objs.size≤P.objs.size:=by rw [hC];exact Nat.le_succ _
 have old:∀ b o,s2.heap.get? b=some o→h₁.get? b=some o:=fun b o e=>by
  refine (hsb₁.2 b ?_).trans (Heap.get?_push_of_some _ (hP ▸ Heap.get?_push_of_some _ e))
  exact Nat.ne_of_lt (Nat.lt_of_lt_of_le (Heap.lt_size e) hCle)
 have hD:h₁.get? s2.heap.objs.size=some { cls:=.type "list",data:=.seq ([]:List Value).toArray 0 }:=by
  refine (hsb₁.2 _ hDC).trans (Heap.get?_push_of_some _ ?_)
  rw [← hP]
  exact Heap.get?_push_size _ rfl
 have hfs:∀ b∈fp,∃ o,s2.heap.get? b=some o:=fun b hb=>let ⟨o,e,_⟩:=T.obj _ _ st2 b hb;⟨o,e⟩
 have st4:tn 0 h₁:=T.keep _ _ _ st2 fun b _ o e=>old b o e
 generalize htk:s2.toks+([]:List (Str × Value)).length=tk4
 have I4:=B.start (C:=P.objs.size) (tk:=tk4) I f2 hfs hCle old hns₁ (htk ▸ Nat.le_add_right _ _)
 have fOk:∀ {H':Hp} {b:Addr} {ob:Obj},b∈fp→H' b=none→FpOk (cxB X NB own scope P.objs.size fp s2 H2) [(s2.heap.objs.size,ob)] H' b:=fun {H' b ob} hb hn=>by
  obtain ⟨o,e⟩:=hfs b hb
  refine ⟨hn,(I4.ok.exf b hb).1,I4.ok.exfs b hb,.inl hb,(I4.ok.exf b hb).2,fun p hp=>?_⟩
  have ep:p=(s2.heap.objs.size,ob):=List.mem_singleton.mp (show p∈[(s2.heap.objs.size,ob)] from hp)
  rw [ep]
  exact fun z=>absurd (Heap.lt_size e) (by rw [← z];exact Nat.lt_irrefl _)
 have dnf:s2.heap.objs.size∉frs X.stack:=fun z=>by
  rcases List.mem_cons.mp (I.stkSub _ z) with z | z
  ·exact absurd I.lt (by rw [← z];exact Nat.lt_irrefl _)
  ·exact I.nofs (Nat.le_refl _) z
 have I3D:∀ {σ3:St} {H3:Hp} {s3:Shared} {its:List Value} {k:Nat},Inv (cxB X NB own scope P.objs.size fp s2 H2) [] σ3 H3 s3→s3.heap.get? s2.heap.objs.size=some { cls:=.type "list",data:=.seq its.toArray k }→H3 s2.heap.objs.size=none →
   Inv (cxB X NB own scope P.objs.size fp s2 H2) [(s2.heap.objs.size,{ cls:=.type "list",data:=.seq its.toArray k })] σ3 H3 s3:=fun I3 e n=>I3.pins_of fun p hp=>by
  have ep:=List.mem_singleton.mp hp
  subst ep
  exact ⟨e,n,hDC,dnf,fun v z=>by cases z⟩
 have ndf:s2.heap.objs.size∉fp:=fun z=>by
  obtain ⟨o,e⟩:=hfs _ z
  exact absurd (Heap.lt_size e) (Nat.lt_irrefl _)
 have nCD:∀ x c,(cxB X NB own scope P.objs.size fp s2 H2).env.cells.lookup x=some c→c≠s2.heap.objs.size:=fun x c e z=>by
  obtain ⟨v,o,ho,_⟩:=I.cell x c (B.cells I.ok e).1
  rw [z] at ho
  exact absurd (Heap.lt_size ho) (Nat.lt_irrefl _)
 have loop:∀ s₃:Shared,s₃ = { s2 with heap:=h₁,toks:=tk4 }→codeAny (model X.prog X.w) X.A (.compLoop (.ListComp elt [⟨tg,iter,ifs,0⟩] scope pos) 0 (.ref it) (.ref s2.heap.objs.size) (cxB X NB own scope P.objs.size fp s2 H2).env)
   (compPost (model X.prog X.w) X.A X.xe use QQ (.ref s2.heap.objs.size) P.objs.size) s₃:=by
  rintro s₃ rfl
  refine comp_loop (fun n s'=>∃ i σB H' ys its k,Inv (cxB X NB own scope P.objs.size fp s2 H2) [] σB H' s'∧tn i s'.heap∧(∀ b∈fp,H' b=none)∧s'.heap.get? s2.heap.objs.size=some { cls:=.type "list",data:=.seq (its:List Value).toArray k }∧Vals ys its∧H' s2.heap.objs.size=none∧W i n ys σB H') ?_ m0
   ⟨0,stB own cap σ,H2,[],[],0,I4,st4,fun b hb=>(f2 b hb).1,hD,.nil,I.hok.fresh (Nat.le_refl _),w0⟩
  rintro n s3 ⟨i,σ3,H3,ys,its,k,I3,st3,fr3,hD3,rv,hn3,w3⟩
  rcases turn i n ys σ3 H3 w3 with ⟨stop,hz,q⟩ | ⟨go,hz,step⟩
  ·refine thn (T.done (cxB X NB own scope P.objs.size fp s2 H2) rfl rfl rfl hc i _ s3 σ3 H3 noE (I3D I3 hD3 hn3) (fun b hb=>fOk hb (fr3 b hb)) st3 stop) fun r s4 zq1=>?_
   obtain ⟨hr,I4'⟩:=zq1
   subst hr
   have hD4:s4.heap.get? s2.heap.objs.size=some { cls:=.type "list",data:=.seq (its:List Value).toArray k }:=(I4'.pin (s2.heap.objs.size,_) (List.mem_append_right _ (List.mem_singleton.mpr rfl))).1
   have I5:Inv (cxB X NB own scope P.objs.size fp s2 H2) [] σ3 H3 s4:=I4'.pins_of fun p hp=>absurd (show p∈([]:List (Addr × Obj)) from hp) (by simp)
   exact fin fp _ s2 s4 H2 H3 σ3 its ys k I f2 hCle hDC I5 hn3 hD4 rv hz (q _ hn3)
  ·refine thn (T.item (cxB X NB own scope P.objs.size fp s2 H2) rfl rfl rfl hc i _ s3 σ3 H3 noE (I3D I3 hD3 hn3) (fun b hb=>fOk hb (fr3 b hb)) st3 go) fun r s4 zq2=>?_
   obtain ⟨u,hr,h4⟩:=zq2
   subst hr
   refine thn h4 fun _ s5 zq3=>?_
   obtain ⟨x,H5,I5,r5,y5,st5,fr5⟩:=zq3
   have I5':=I5.pinned (fun b hb=>fOk hb (fr5 b hb)) (T.obj _ _ st5)
   refine thn (hg _ fp s2 H2 _ s5 σ3 H5 x u _ I5' r5 (step x H5 y5)) fun _ s6 zq4=>?_
   obtain ⟨σ6,H6,I6,q6⟩:=zq4
   refine thn (ht _ fp s2 H2 _ s6 σ6 H6 _ I6 q6) fun b s7 zq5=>?_
   obtain ⟨H7,I7,q7⟩:=zq5
   have pinned:∀ {σ8:St} {H8:Hp} {s8:Shared},Inv (cxB X NB own scope P.objs.size fp s2 H2) ([(s2.heap.objs.size,{ cls:=.type "list",data:=.seq (its:List Value).toArray k })]++pinsAt fp s5.heap) σ8 H8 s8 →
     tn (i+1) s8.heap∧(∀ b∈fp,H8 b=none)∧s8.heap.get? s2.heap.objs.size=some { cls:=.type "list",data:=.seq (its:List Value).toArray k }∧H8 s2.heap.objs.size=none:=fun {σ8 H8 s8} I8=>by
    refine ⟨T.keep _ _ _ st5 fun b hb o e=>(I8.pin (b,o) (List.mem_append_right _ (List.mem_append_right _ (mem_pinsAt hb e)))).1,fun b hb=>?_,?_,?_⟩
    ·obtain ⟨o,e,d⟩:=T.obj _ _ st5 b hb
     exact (I8.pin (b,o) (List.mem_append_right _ (List.mem_append_right _ (mem_pinsAt hb e)))).2.1
    ·exact (I8.pin (s2.heap.objs.size,_) (List.mem_append_right _ (List.mem_append_left _ (List.mem_singleton.mpr rfl)))).1
    ·exact (I8.pin (s2.heap.objs.size,_) (List.mem_append_right _ (List.mem_append_left _ (List.mem_singleton.mpr rfl)))).2.1
   have nopin:∀ {pp:List (Addr × Obj)} {σ8:St} {H8:Hp} {s8:Shared},Inv (cxB X NB own scope P.objs.size fp s2 H2) pp σ8 H8 s8→Inv (cxB X NB own scope P.objs.size fp s2 H2) [] σ8 H8 s8:=fun I8=>I8.pins_of fun p hp=>absurd (show p∈([]:List (Addr × Obj)) from hp) (by simp)
   cases b with
   | false =>
    rw [if_neg Bool.false_ne_true] at q7 ⊢
    obtain ⟨m',hm,w7⟩:=q7
    obtain ⟨p1,p2,p3,p4⟩:=pinned I7
    exact ⟨m',hm,i+1,σ6,H7,ys,its,k,nopin I7,p1,p2,p3,rv,p4,w7⟩
   | true =>
    rw [if_pos rfl] at q7 ⊢
    refine thn (he _ fp s2 H2 _ s7 σ6 H7 _ I7 q7) fun yv s8 zq6=>?_
    obtain ⟨y,H8,I8,r8,m',hm,w8⟩:=zq6
    obtain ⟨p1,p2,p3,p4⟩:=pinned I8
    refine call_meets F.slot_list_append ⟨_,p3,rfl⟩ F.entry_list_append (F.args_list_append_2 _ _) (PySem.list_append s2.heap.objs.size its.toArray k yv (by rw [List.size_toArray,← rv.length];omega)) ⟨p3,?_⟩
    have q:=PySem.IsL.update p3 fun a=>a.push yv
    have ea:its.toArray.push yv=(its++[yv]).toArray:=by simp
    rw [ea] at q
    have I9:Inv (cxB X NB own scope P.objs.size fp s2 H2) [] σ6 H8 { s8 with heap:=s8.heap.update s2.heap.objs.size (Obj.mapSeq fun a=>a.push yv),toks:=s8.toks } :=
     ((nopin I8).turned (it:=s2.heap.objs.size) (fun b o hb e=>(Heap.get?_update_other s8.heap _ (Ne.symm hb)).trans e) p4 hDC (.inr (Nat.le_refl _)) (fun x c e=>nCD x c e) fun p hp=>absurd (show p∈([]:List (Addr × Obj)) from hp) (by simp)).up I8.low
    refine ⟨m',hm,i+1,σ6,H8,ys++[y],its++[yv],_,I9,?_,p2,q,rv.append (.cons r8 .nil),p4,w8⟩
    refine T.keep _ _ _ p1 fun b hb o e=>(Heap.get?_update_other s8.heap _ ?_).trans e
    intro z
    rw [z] at ndf
    exact ndf hb
 exact codeAny_compStart_list (loop _ rfl) (T.self X.A 0 _ _ _ st4 (loop _ rfl))
theorem pe_comp {X:Cx}{elt iter tg:Expr}{ifs:List Expr}{scope:Scope}{pos:Pos}{NB own:List Str}{cap:List Nat}{wi:TI}{g:TG}{ti:TT}{te:TE}(B:Blk X scope NB own cap)(hc:X.calm=true)(hi:PI X tg iter wi)
  (hg:∀ C fp s₀ H₀,PG (cxB X NB own scope C fp s₀ H₀) tg g) (ht:∀ C fp s₀ H₀,PIf (cxB X NB own scope C fp s₀ H₀) ifs ti) (he:∀ C fp s₀ H₀,PE (cxB X NB own scope C fp s₀ H₀) elt te)
  (hs:∀ x,foldedSetIterable iter X.env x=pure x:=by intro _;rfl):PE X (.ListComp elt [⟨tg,iter,ifs,0⟩] scope pos) (tComp own cap wi g ti te):=by
 intro pins s σ H Q I0 h
 rw [eval_ListComp]
 refine comp_gen (use:=none) (QQ:=EP X pins σ Q) B hc hi hg ht he hs I0 h fun fp C s2 s4 H2 H3 σ3 its ys k I f2 hCle hDC I5 hn3 hD4 rv hz q=>?_
 obtain ⟨mC,hnC,_⟩:=I5.loc
 exact ⟨mC,hnC,fun h'' sb=>⟨.ref s2.heap.objs.size,_,B.done I f2 hCle (Nat.le_refl _) hDC I5 hn3 hD4 rv hz sb,rfl,q⟩⟩
theorem comp_by {own:List Str}{cap:List Nat}{J:It}{g:TG}{ti:TT}{te:TE}{σ:St}{H:Hp}{Q:VK}(n:Nat)(Pv:Nat→List V→St→Hp→Prop)(h0:Pv 0 [] (stB own cap σ) H)(hz:∀ i ys σ H,i≤n→Pv i ys σ H→ys.length≤i)(hn:n≤sizeLine)
  (hgo:∀ i ys σ H,i < n→Pv i ys σ H→J.go i H) (hst:∀ ys σ H,Pv n ys σ H→J.stop n H)
  (hs:∀ i ys σ H x H' (N:List V→St→Hp→Prop),i < n→Pv i ys σ H→J.yld i H x H'→(∀ ys' σ' H'',Pv (i+1) ys' σ' H''→N ys' σ' H'')→g x σ H' fun σ2 H2=>ti σ2 H2 fun b H3=>if b=true then te σ2 H3 fun y H4=>N (ys++[y]) σ2 H4 else N ys σ2 H3)
  (hd:∀ ys σ H D,Pv n ys σ H→H D=none→Q (.ref D) (upd H D (.lst ys))) :
  CompW own cap g ti te Q σ J H:=by
 refine ⟨fun i m ys σ H=>m=n - i∧i≤n∧Pv i ys σ H,⟨n,by simp,Nat.zero_le _,h0⟩,?_⟩
 rintro i m ys σ H ⟨rfl,hi,p⟩
 have hl:=hz i ys σ H hi p
 by_cases hlt:i < n
 ·refine .inr ⟨hgo i ys σ H hlt p,by omega,fun x H' y=>?_⟩
  exact hs i ys σ H x H' (fun ys' σ' H''=>∃ m',m' < n - i∧m'=n - (i+1)∧i+1≤n∧Pv (i+1) ys' σ' H'') hlt p y fun ys' σ' H'' q=>⟨n - (i+1),by omega,rfl,hlt,q⟩
 ·have e:i=n:=by omega
  subst e
  exact .inl ⟨hst ys σ H p,by omega,fun D hD=>hd ys σ H D p hD⟩
end L2
namespace L2
open PySem PySem.Spec PyProof.Rows
noncomputable def Its (z:Str):It:=⟨fun i _=>i < z.cps.size,fun i H x H'=>H'=H∧∃ c,z.cps[i]? = some c∧x = .str ⟨#[c]⟩,fun i _=>i=z.cps.size⟩
theorem turn_of_walks {P:Program}{w:World}{K:PySem.W.Frag}{tg:Expr}{it n:Nat}{Pv:Nat→Value→Prop}{st:Nat→Heap→Prop}{J:It}{T:String}{fl:Nat→Array Value}
  (W:∀ A:Around,A.handled=none→Walks P w A it [it] [it] n Pv st) (hst:∀ i h,st i h→∃ o,h.get? it=some o∧o.cls = .type T∧o.data = .fields (fl i))
  (hT:["enumerate","zip","dict_itemiterator","dict_reverseitemiterator","odict_iterator","itertools.zip_longest","itertools.pairwise"].contains T=false)
  (hgo:∀ i H,J.go i H→i < n) (hstop:∀ i H,J.stop i H→i=n) (hy:∀ i H u,J.go i H→Pv i u→∃ x,RelV x u∧J.yld i H x H)
  (hself:∀ (A:Around) (i:Nat) (s:Shared) (Q:Value→Shared→Prop) (E:Value→Shared→Prop),st i s.heap→Q (.ref it) s→wpAny (model P w) A (pyIter (.ref it)) Q E s):Turn P w K tg J [it] it st where
 mem:=by simp
 obj:=fun i h s b hb=>by
  have e:b=it:=by simpa using hb
  subst e
  obtain ⟨o,e,c,d⟩:=hst i h s
  exact ⟨o,e,fun v z=>by rw [d] at z;cases z⟩
 keep:=fun i h h' s k=>(W {} rfl).frame i h h' s k
 item:=by
  intro X hP hw hK hc i pins s σ H E I hf s0 hg
  subst hP hw hK
  obtain ⟨f0,f1,f2,f3,f4,f5⟩:=hf it (by simp)
  refine wt I.low ((W X.A (I.ok.hd hc)).item i s _ _ (hgo i H hg) s0 fun v h' tk hv st' kk hl=>?_)
  have I1:Inv X pins σ H { s with heap:=h',toks:=tk }:=(I.turned (fun b o hb e=>kk b o (by simpa using hb) e) f0 f1 f3 f4 f5).up hl
  obtain ⟨o,e,c,d⟩:=hst _ _ st'
  obtain ⟨x,rx,yx⟩:=hy i H v hg hv
  exact ⟨v,rfl,go_of (s:={ s with heap:=h',toks:=tk }) e c d hT ⟨x,H,I1,rx,yx,st',fun b hb=>(hf b hb).1⟩⟩
 done:=by
  intro X hP hw hK hc i pins s σ H E I hf s0 hg
  subst hP hw hK
  obtain ⟨f0,f1,f2,f3,f4,f5⟩:=hf it (by simp)
  have e:=hstop i H hg
  subst e
  exact wt I.low ((W X.A (I.ok.hd hc)).done s _ _ s0 fun h' tk kk hl=>⟨rfl,(I.turned (fun b o hb e=>kk b o (by simpa using hb) e) f0 f1 f3 f4 f5).up hl⟩)
 self:=hself
section
variable {X:Cx} {tg:Expr}
noncomputable def iStr (tl:TE):TI:=fun σ H R=>tl σ H fun x H1=>∃ z,x = .str z∧R (Its z) H1
theorem its_yld {z:Str}{i:Nat}{H:Hp}{u:Value}(h:SignAt z i u):∃ x,RelV x u∧(Its z).yld i H x H:=by
 obtain ⟨c,t,e,rfl⟩:=h
 exact ⟨.str ⟨#[c]⟩,⟨t,rfl⟩,rfl,c,e,rfl⟩
theorem pi_str {l:Expr}{tl:TE}(hl:PE X l tl):PI X tg l (iStr tl):=by
 intro pins s σ H R I h
 refine thn (hl pins s σ H _ I h) fun v s1 zq1=>?_
 obtain ⟨x,H1,I1,r1,q1⟩:=zq1
 obtain ⟨z,rfl,q⟩:=q1
 obtain ⟨t,rfl⟩:=r1
 have fp:∀ b∈[s1.heap.objs.size],FpOk X pins H1 b:=fun b hb=>by
  have e:b=s1.heap.objs.size:=by simpa using hb
  subst e
  exact I1.fpOk (Nat.le_refl _) (I1.hok.fresh (Nat.le_refl _))
 cases ha:z.cps.all (· < 128)
 ·refine wpAny_pyIter_wide ha ⟨s1.heap.objs.size,[s1.heap.objs.size],_,Its z,H1,rfl,(I1.kept (t':=s1.toks) fun b o e=>Heap.get?_push_of_some _ e).up I1.low,
   turn_of_walks (T:="str_iterator") (fl:=fun i=>#[.str z t,.int i 0]) (fun A hh=>Walks.strWide hh _ z t) (fun i h st=>st) (by decide) (fun i H g=>g) (fun i H g=>g) (fun i H u _ hu=>its_yld hu) (fun A i s Q E st h=>wpAny_pyIter_striter_wide st h),⟨_,Heap.get?_push_size _ rfl,rfl,rfl⟩,fp,q⟩
 ·refine wpAny_pyIter_ascii ha ⟨s1.heap.objs.size,[s1.heap.objs.size],_,Its z,H1,rfl,(I1.kept (t':=s1.toks) fun b o e=>Heap.get?_push_of_some _ e).up I1.low,
   turn_of_walks (T:="str_ascii_iterator") (fl:=fun i=>#[.str z t,.int i 0]) (fun A hh=>Walks.strAscii hh _ z t) (fun i h st=>st) (by decide) (fun i H g=>g) (fun i H g=>g) (fun i H u _ hu=>its_yld hu) (fun A i s Q E st h=>wpAny_pyIter_striter_ascii st h),⟨_,Heap.get?_push_size _ rfl,rfl,rfl⟩,fp,q⟩
inductive rSlS (x:V)(lo:Option Int)(hi:Option Int)(H:Hp)(Q:VK):Prop
 | mk:∀ z,(x = .str z)→(z.length≤sizeLine)→(Q (.str (Txt.slice z lo hi)) H)→rSlS x lo hi H Q
theorem sl_str:SlR X rSlS:=by
 intro pins s σ H x v vl vu lo hi sl Q I rx hs pl pu h
 obtain ⟨z,rfl,hz,q⟩:=h
 obtain ⟨t,rfl⟩:=rx
 have fin:∀ (lo hi:Option Int),Q (.str (Txt.slice z lo hi)) H→∀ t' k,EP X pins σ Q (.str (Txt.slice z lo hi) t') { s with toks:=k }:=fun lo hi q t' k=>⟨.str _,H,I.tok _,⟨_,rfl⟩,q⟩
 refine ⟨"str",_,F.slot_str_getitem.lookup,typeIs_str _ _ _,?_⟩
 cases pl with
 | none =>
  cases pu with
  | none=>exact wpAny_getItem_str_slice (l:=none) (u:=none) (st:=none) hs rfl (post_val_or_str ⟨Nat.le_trans (Txt.slice_le z _ _) hz,fun t' k=>fin _ _ q t' k⟩)
  | int j uj=>exact wpAny_getItem_str_slice (l:=none) (u:=some (j,uj)) (st:=none) hs rfl (post_val_or_str ⟨Nat.le_trans (Txt.slice_le z _ _) hz,fun t' k=>fin _ _ q t' k⟩)
 | int i ui =>
  cases pu with
  | none=>exact wpAny_getItem_str_slice (l:=some (i,ui)) (u:=none) (st:=none) hs rfl (post_val_or_str ⟨Nat.le_trans (Txt.slice_le z _ _) hz,fun t' k=>fin _ _ q t' k⟩)
  | int j uj=>exact wpAny_getItem_str_slice (l:=some (i,ui)) (u:=some (j,uj)) (st:=none) hs rfl (post_val_or_str ⟨Nat.le_trans (Txt.slice_le z _ _) hz,fun t' k=>fin _ _ q t' k⟩)
inductive rUpper (x:V)(vs:List V)(H:Hp)(Q:VK):Prop
 | mk:∀ z,(x = .str z)→(vs=[])→(z.length≤5592405)→(Q (.str (Txt.upper z)) H)→rUpper x vs H Q
inductive rLower (x:V)(vs:List V)(H:Hp)(Q:VK):Prop
 | mk:∀ z,(x = .str z)→(vs=[])→(z.length≤5592405)→(Q (.str (Txt.lower z)) H)→rLower x vs H Q
theorem mt_upper:MtR X "str.upper" rUpper:=by
 intro pins s σ H x vs v us Q I rx rv h
 obtain ⟨z,rfl,rfl,hz,q⟩:=h
 obtain ⟨t,rfl⟩:=rx
 cases rv
 exact SCL.upper hz fun _=>⟨.str _,H,I.tok _,⟨_,rfl⟩,q⟩
theorem mt_lower:MtR X "str.lower" rLower:=by
 intro pins s σ H x vs v us Q I rx rv h
 obtain ⟨z,rfl,rfl,hz,q⟩:=h
 obtain ⟨t,rfl⟩:=rx
 cases rv
 exact SCL.lower hz fun _=>⟨.str _,H,I.tok _,⟨_,rfl⟩,q⟩
theorem strsAre_of:∀ {ys:List Str} {us:List Value},Vals (ys.map V.str) us→StrsAre us ys
 | [],_,r=>by
  rw [List.map_nil] at r
  cases r
  exact .nil
 | y::ys,us,r=>by
  rw [List.map_cons] at r
  cases r with
  | cons r1 r2 =>
   obtain ⟨t,e⟩:=r1
   subst e
   exact .cons y t (strsAre_of r2)
inductive rJoin (K:PySem.W.Frag)(x:V)(vs:List V)(H:Hp)(Q:VK):Prop
 | mk:∀ z p ys,(x = .str z)→(vs=[.ref p])→(SqL K H p (ys.map V.str))→((ys.map (·.length)).sum+ys.length*z.length≤16777216)→(Q (.str (Txt.join z ys)) H)→rJoin K x vs H Q
theorem mt_join:MtR X "str.join" (rJoin X.K):=by
 intro pins s σ H x vs v us Q I rx rv h
 obtain ⟨z,p,ys,rfl,rfl,hq,hz,q⟩:=h
 obtain ⟨t,rfl⟩:=rx
 obtain ⟨u,rfl,ru⟩:=vals1 rv
 cases ru
 obtain ⟨its,r,pl,_⟩:=I.list hq
 exact join_list pl.isList (by simpa using strsAre_of r) hz fun t' k=>⟨.str _,H,I.tok _,⟨_,rfl⟩,q⟩
inductive op_mul_str_r  (x:V)(y:V)(H:Hp)(Q:VK):Prop
 | mk:∀ z n,(x = .str z)→(y = .int n)→(MulOk z n)→(Q (.str (Txt.mul z n)) H)→op_mul_str_r x y H Q
theorem op_mul_str:OpR X (binaryOp .Mult) op_mul_str_r:=by
 intro pins s σ H x y v u Q I rx ry h
 obtain ⟨z,n,rfl,rfl,hz,q⟩:=h
 obtain ⟨t,rfl⟩:=rx
 obtain ⟨t',rfl⟩:=ry
 exact SB.mul hz fun t' k=>⟨.str _,H,I.tok _,⟨_,rfl⟩,q⟩
end
theorem for_str {z:Str}{g:TG}{tb:TS}{D:Ends}{σ:St}{H:Hp}(Pv:Nat→St→Hp→Prop)(h0:Pv 0 σ H)
  (hs:∀ i c σ H,z.cps[i]? = some c→Pv i σ H→g (.str ⟨#[c]⟩) σ H fun σ2 H2=>tb { D with nx:=Pv (i+1),ct:=Pv (i+1),bk:=D.nx } σ2 H2) (hd:∀ σ H,Pv z.cps.size σ H→D.nx σ H) :
  ∃ W:Nat→Nat→St→Hp→Prop,(∃ m,W 0 m σ H)∧∀ i m σ H,W i m σ H →
   ((Its z).stop i H∧D.nx σ H) ∨ ((Its z).go i H∧∃ N:St→Hp→Prop,(∀ σ' H',N σ' H'→∃ m',m' < m∧W (i+1) m' σ' H')∧∀ x H',(Its z).yld i H x H'→g x σ H' fun σ2 H2=>tb { D with nx:=N,ct:=N,bk:=D.nx } σ2 H2):=by
 refine ⟨fun i m σ H=>m=z.cps.size - i∧i≤z.cps.size∧Pv i σ H,⟨z.cps.size,by simp,Nat.zero_le _,h0⟩,?_⟩
 rintro i m σ H ⟨rfl,hi,p⟩
 by_cases hlt:i < z.cps.size
 ·refine .inr ⟨hlt,Pv (i+1),fun σ' H' p'=>⟨z.cps.size - (i+1),by omega,rfl,hlt,p'⟩,fun x H' y=>?_⟩
  obtain ⟨e,c,hc,ex⟩:=y
  subst e ex
  exact hs i c σ _ hc p
 ·have e:i=z.cps.size:=by omega
  subst e
  exact .inl ⟨rfl,hd σ H p⟩
end L2
namespace PySem
open Sem (wp)
open Builtin Builtin.SmallTypes
namespace F
theorem lookup_str_reversed:typeLookup (.type "str") "__reversed__" = pure none:=by rw [typeLookup_type,builtinLookup_eq_fast]; kernel_rfl
theorem slot_rvs_init:Slot "reversed" "__init__" "object.__init__" :=
 .of (owner:="object") (n:="__init__") (by rw [typeLookup_type,builtinLookup_eq_fast];kernel_rfl) (by decide +kernel) (by decide +kernel) (by decide +kernel)
  (by first | exact .inl (by decide +kernel) | exact .inr (by decide +kernel)) (by rw [isSubtype_type];kernel_rfl)
theorem called_rvs:TypeCalled "reversed" "reversed.__new__" "object.__init__" :=
 ⟨by decide +kernel,create_reversed,⟨_,_,mro_reversed⟩,made_reversed,plain_reversed_new,sub_reversed_self,slot_rvs_init⟩
end F
set_option maxHeartbeats 1000000 in
theorem meets_rvs (x:Str)(t:Tok):Meets (Builtin.«reversed.__new__» ⟨[.type "reversed",.str x t],[]⟩) (fun _ R s=>¬ (x.length:Int)≥2 ^ 63 ∧
   ∀ tk,R (.ok (.ret (.ref s.heap.objs.size))) { s with heap:=s.heap.push { cls:=.type "reversed",data:=.fields #[.str x t,rawInt ((x.length:Int) - 1)] },toks:=tk }) :=
 .of_wp fun prog w A R s h=>by
  obtain ⟨hx,h⟩:=h
  unfold Builtin.«reversed.__new__»
  refine wpAny_bind (wpAny_of_eq (newClass_reversed _) ?_)
  try dsimp only
  refine wpAny_bind (wpAny_of_eq (a:=()) (by first | rfl | kernel_rfl) ?_)
  refine wpAny_bind (wpAny_of_eq (a:=()) (by first | rfl | kernel_rfl) ?_)
  try dsimp only
  refine wpAny_bind (wpAny_specialOf (typeIs_str s x t) F.lookup_str_reversed ?_)
  try dsimp only
  refine wpAny_bind ?_
  have hl:=F.slot_str_getitem.lookup
  have hT:=typeIs_str s x t
  have hD:isSubtype (.type "str") (.type "dict")=pure false:=by rw [isSubtype_type];kernel_rfl
  repeat (any_goals (first | assumption | refine PySem.P.len_str hx ?_ | wp_step))
  exact ⟨_,rfl,h _⟩
noncomputable def Heap.IsRvs (h:Heap)(a:Addr)(x:Str)(t:Tok)(i:Int):Prop:=∃ o,h.get? a=some o∧o.cls = .type "reversed"∧o.data = .fields #[.str x t,rawInt i]
theorem Heap.IsRvs.typeIs {s:Shared}{a:Addr}{x:Str}{t:Tok}{i:Int}(y:s.heap.IsRvs a x t i):s.TypeIs (.ref a) "reversed":=let ⟨o,ho,hc,_⟩:=y; ⟨o,ho,hc⟩
namespace F
theorem slot_rvs_next:Slot "reversed" "__next__" "reversed.__next__" :=
 .of (owner:="reversed") (n:="__next__") (by rw [typeLookup_type,builtinLookup_eq_fast];kernel_rfl) (by decide +kernel) (by decide +kernel) (by decide +kernel)
  (by first | exact .inl (by decide +kernel) | exact .inr (by decide +kernel)) (by rw [isSubtype_type];kernel_rfl)
theorem entry_rvs_next:entryFor table "reversed.__next__" = some Builtin.«reversed.__next__»:=entryFor_of_tree (by kernel_rfl)
theorem args_rvs_next (a:Value):argsOk "reversed.__next__" ⟨[a],[]⟩:=by unfold argsOk; kernel_rfl
theorem slot_rvs_iter:Slot "reversed" "__iter__" "reversed.__iter__" :=
 .of (owner:="reversed") (n:="__iter__") (by rw [typeLookup_type,builtinLookup_eq_fast];kernel_rfl) (by decide +kernel) (by decide +kernel) (by decide +kernel)
  (by first | exact .inl (by decide +kernel) | exact .inr (by decide +kernel)) (by rw [isSubtype_type];kernel_rfl)
theorem args_rvs_iter (a:Value):argsOk "reversed.__iter__" ⟨[a],[]⟩:=by unfold argsOk; kernel_rfl
theorem entry_rvs_iter:entryFor table "reversed.__iter__" = some Builtin.«dict_keyiterator.__iter__» :=
 entryFor_alias (id':="dict_keyiterator.__iter__") (by kernel_rfl) rfl (by decide +kernel) (by kernel_rfl)
end F
section
variable {prog:Program} {w:World} {A:Around} {E:Value→Shared→Prop} {s:Shared} {x:Str} {t:Tok}
theorem call_rvs_str {Q:Value→Shared→Prop}(hx:¬ (x.length:Int)≥2 ^ 63)
  (h:∀ tk,Q (.ref s.heap.objs.size) { s with heap:=s.heap.push { cls:=.type "reversed",data:=.fields #[.str x t,rawInt ((x.length:Int) - 1)] },toks:=tk }):wpAny (model prog w) A (call (.type "reversed") [.str x t]) Q E s :=
 callType_new F.called_rvs (by decide) (F.typeCall_reversed_1 _) (F.newCall_reversed_1 _) (fun obj=>F.args_object_init_2 obj _) F.entry_reversed_new (meets_rvs x t) ⟨hx,fun tk=>⟨⟨_,Heap.get?_push_size _ rfl,rfl⟩,h tk⟩⟩
theorem iter_rvs {it:Addr}{i:Int}{Q:Value→Shared→Prop}(hit:s.heap.IsRvs it x t i)(h:Q (.ref it) s):wpAny (model prog w) A (pyIter (.ref it)) Q E s:=by
 refine wpAny_pyIter_slot hit.typeIs F.slot_rvs_iter (wpAny_call_entry F.slot_rvs_iter hit.typeIs F.entry_rvs_iter ?_ (F.args_rvs_iter _))
 show wpAny _ _ (ret (.ref it)) _ _ s
 exact wpAny_pure ⟨_,rfl,"reversed",_,hit.typeIs,F.slot_rvs_next.lookup,h⟩
theorem next_rvs_item {it:Addr}{i:Nat}{c:Nat}{Q:Option Value→Shared→Prop}(hit:s.heap.IsRvs it x t (i:Int))(hx:x.cps[i]? = some c)(h63:(i:Int) < 2 ^ 63)
  (hQ:∀ h' tk u,h'.IsRvs it x t ((i:Int) - 1)→Heap.SameBut it s.heap h'→Q (some (.str ⟨#[c]⟩ u)) { s with heap:=h',toks:=tk }):wpAny (model prog w) A (pyNext (.ref it)) Q E s:=by
 obtain ⟨o,ho,hc,hd⟩:=id hit
 unfold pyNext
 refine wpAny_bind (wpAny_attempt (wpAny_callSpecial?_slot (name:=Str.ofString "__next__") hit.typeIs F.slot_rvs_next
  (wpAny_call_entry F.slot_rvs_next hit.typeIs F.entry_rvs_next ?_ (F.args_rvs_next _))))
 unfold Builtin.«reversed.__next__»
 refine wpAny_bind (wpAny_of_eq (a:=(Value.ref it,[])) rfl ?_)
 try dsimp only
 refine wpAny_bind (wpAny_field ho hd (x:=.str x t) rfl ?_)
 refine wpAny_bind (wpAny_field ho hd (x:=rawInt (i:Int)) rfl ?_)
 show wpAny _ _ (if (i:Int) < 0 then _ else _) _ _ s
 rw [if_neg (by omega)]
 refine wpAny_bind (wpAny_specialOf (typeIs_str s x t) F.slot_str_getitem.lookup ?_)
 show wpAny _ _ (if (some (Value.builtin "str.__getitem__")).isNone=true then _ else _) _ _ s
 rw [if_neg (by decide)]
 refine wpAny_bind (wpAny_mkInt ?_)
 have hlt:i < x.length:=by
  have:=Array.getElem?_eq_some_iff.mp hx
  exact this.1
 refine wpAny_bind (wpAny_attempt (PySem.P.getItem_str (c:=c) ?_ ?_ ?_))
 ·have e1:decide ((i:Int) < -(2 ^ 63:Int))=false:=decide_eq_false (by omega)
  have e2:decide ((i:Int)≥2 ^ 63)=false:=decide_eq_false (by omega)
  rw [e1,e2,Bool.or_false]
 ·rw [PySem.StrLaws.seqIndex_nonneg (by omega) (by omega)]
  simpa using hx
 try dsimp only
 refine wpAny_bind (wpAny_field ho hd (x:=rawInt (i:Int)) rfl ?_)
 show wpAny _ _ (setField (.ref it) 1 (rawInt ((i:Int) - 1)) >>= _) _ _ _
 refine wpAny_bind (wpAny_setField ho hd (by simp) ?_)
 refine wpAny_pure ⟨_,rfl,wpAny_pure (hQ _ _ _ ?_ (Heap.SameBut.update ..))⟩
 exact ⟨_,Heap.get?_update_self _ ho (Obj.isFreed_of_fields (Obj.data_mapFields hd _)),(Obj.cls_mapFields ..).trans hc,by
  rw [Obj.data_mapFields hd];simp⟩
theorem next_rvs_end {it:Addr}{Q:Option Value→Shared→Prop}(hh:A.handled=none)(hit:s.heap.IsRvs it x t (-1))
  (hQ:∀ h',(∀ b o,b≠it→s.heap.get? b=some o→h'.get? b=some o)→Q none { s with heap:=h' }):wpAny (model prog w) A (pyNext (.ref it)) Q E s:=by
 obtain ⟨o,ho,hc,hd⟩:=id hit
 unfold pyNext
 refine wpAny_bind (wpAny_attempt (wpAny_callSpecial?_slot (name:=Str.ofString "__next__") hit.typeIs F.slot_rvs_next
  (wpAny_call_entry F.slot_rvs_next hit.typeIs F.entry_rvs_next ?_ (F.args_rvs_next _))))
 unfold Builtin.«reversed.__next__»
 refine wpAny_bind (wpAny_of_eq (a:=(Value.ref it,[])) rfl ?_)
 try dsimp only
 refine wpAny_bind (wpAny_field ho hd (x:=.str x t) rfl ?_)
 refine wpAny_bind (wpAny_field ho hd (x:=rawInt (-1)) rfl ?_)
 show wpAny _ _ (if (-1:Int) < 0 then _ else _) _ _ s
 rw [if_pos (by decide)]
 refine wpAny_bind (wpAny_rule ?_)
 refine wpAny_bind ?_
 show wpAny _ _ (setField (.ref it) 1 (rawInt (-1)) >>= fun _=>setField (.ref it) 0 .none) _ _ s
 refine wpAny_bind (wpAny_setField ho hd (by simp) ?_)
 have ho2:=Heap.get?_update_self (Obj.mapFields fun a=>a.setIfInBounds 1 (rawInt (-1))) ho (Obj.isFreed_of_fields (Obj.data_mapFields hd _))
 have hd2:=Obj.data_mapFields hd fun a=>a.setIfInBounds 1 (rawInt (-1))
 refine wpAny_setField ho2 hd2 (by simp) ?_
 generalize hh2:(s.heap.update it _).update it _=h2
 have kk:∀ b o,b≠it→s.heap.get? b=some o→h2.get? b=some o:=fun b o hb e=>by
  rw [← hh2]
  exact (Heap.get?_update_other _ _ (Ne.symm hb)).trans ((Heap.get?_update_other _ _ (Ne.symm hb)).trans e)
 have hz:A.in1.handled=none:=hh
 have sub:=isSubtype_stop
 repeat (any_goals (first | assumption | wp_step))
 unfold raiseNew
 refine wpAny_bind (wpAny_handled ?_)
 rw [hz]
 refine wpAny_bind (wpAny_pure (wpAny_throw ?_))
 refine wpAny_bind (wpAny_isInstance (T:="StopIteration") (b:=true) ?_ sub (wpAny_pure (hQ _ fun b o hb e=>?_)))
 ·exact ⟨_,Heap.get?_push_size _ rfl,rfl⟩
 exact Heap.get?_push_of_some _ (Heap.get?_push_of_some _ (kk b o hb e))
theorem walks_rvs (hh:A.handled=none)(it:Addr)(x:Str)(t:Tok)(h63:(x.cps.size:Int) < 2 ^ 63) :
  Walks prog w A it [it] [it] x.cps.size (fun i v=>∃ c u,x.cps[x.cps.size - 1 - i]? = some c∧v = .str ⟨#[c]⟩ u) (fun i h=>i≤x.cps.size∧h.IsRvs it x t ((x.cps.size:Int) - 1 - (i:Int))) where
 sub:=fun _ hb=>hb
 frame:=fun _ _ _ st hk=>let ⟨l,o,ho,r⟩:=st;⟨l,o,hk it (by simp) o ho,r⟩
 item:=fun i s Q E hi y hQ=>by
  have e:(x.cps.size:Int) - 1 - (i:Int)=((x.cps.size - 1 - i:Nat):Int):=by omega
  have hit:=y.2
  rw [e] at hit
  have hx:x.cps[x.cps.size - 1 - i]? = some (x.cps[x.cps.size - 1 - i]'(by omega)):=Array.getElem?_eq_getElem (by omega)
  refine next_rvs_item hit hx (by omega) fun h' tk u hit' hs'=>?_
  have e2:((x.cps.size - 1 - i:Nat):Int) - 1=(x.cps.size:Int) - 1 - ((i+1:Nat):Int):=by omega
  rw [e2] at hit'
  exact hQ _ h' tk ⟨_,u,hx,rfl⟩ ⟨hi,hit'⟩ fun b o hb eo=>hs'.extBut b o (fun h=>hb (by simp [h])) eo
 done:=fun s Q E y hQ=>by
  have e:(x.cps.size:Int) - 1 - (x.cps.size:Int) = -1:=by omega
  have hit:=y.2
  rw [e] at hit
  exact next_rvs_end hh hit fun h' he'=>hQ h' s.toks fun b o hb eo=>he' b o (fun h=>hb (by simp [h])) eo
 self:=fun _ _ _ _ y hQ=>iter_rvs y.2 hQ
end
end PySem
namespace L2
open PySem PySem.Spec PyProof.Rows
noncomputable def Itsr (z:Str):It:=⟨fun i _=>i < z.cps.size,fun i H x H'=>H'=H∧∃ c,z.cps[z.cps.size - 1 - i]? = some c∧x = .str ⟨#[c]⟩,fun i _=>i=z.cps.size⟩
section
variable {X:Cx} {tg:Expr}
noncomputable def iStrR (ta:TA):TI:=fun σ H R=>ta σ H fun vs H1=>∃ z,vs=[.str z]∧z.length≤sizeLine∧R (Itsr z) H1
theorem pi_strR {a:Expr}{ta:TA}{p pos:Pos}(hg:Gl X "reversed")(hm:X.mg "reversed" = none)(hb:bootBuiltins "reversed" = some (.type "reversed"))(ha:PA X [a] ta)(hs:starEach [a] X.env=[(false,eval a X.env)]:=by rfl) :
  PI X tg (.Call (.Name "reversed" p) [a] [] pos) (iStrR ta):=by
 intro pins s σ H R I h
 refine Call_ (ld_blt I hg hm hb (PyProof.Rows.callWith_type1 (thn (ha pos pins s σ H _ I h) fun us s1 zq1=>?_) hs rfl))
 obtain ⟨vs,H1,I1,r1,q1⟩:=zq1
 obtain ⟨z,rfl,hz,q⟩:=q1
 obtain ⟨u,rfl,t,rfl⟩:=vals1 r1
 have hn:=line63
 have hsz:z.cps.size=z.length:=rfl
 refine wt I1.low (call_rvs_str (by omega) fun tk hl=>?_)
 have hit:Heap.IsRvs (s1.heap.push { cls:=.type "reversed",data:=.fields #[.str z t,rawInt ((z.length:Int) - 1)] }) s1.heap.objs.size z t ((z.length:Int) - 1):=⟨_,Heap.get?_push_size _ rfl,rfl,rfl⟩
 refine iter_rvs (s:={ s1 with heap:=s1.heap.push { cls:=.type "reversed",data:=.fields #[.str z t,rawInt ((z.length:Int) - 1)] },toks:=tk }) hit ?_
 refine ⟨s1.heap.objs.size,[s1.heap.objs.size],_,Itsr z,H1,rfl,(I1.kept (t':=tk) fun b o e=>Heap.get?_push_of_some _ e).up hl,
  turn_of_walks (T:="reversed") (fl:=fun i=>#[.str z t,rawInt ((z.cps.size:Int) - 1 - (i:Int))]) (fun A hh=>walks_rvs hh _ z t (by omega)) (fun i h st=>st.2) (by decide) (fun i H g=>g) (fun i H g=>g)
   (fun i H u _ ⟨c,t',e,eu⟩=>⟨.str ⟨#[c]⟩,⟨t',eu⟩,rfl,c,e,rfl⟩) (fun A i s Q E st h=>iter_rvs st.2 h),⟨Nat.zero_le _,by simpa [hsz] using hit⟩,fun b hb=>?_,q⟩
 have e:b=s1.heap.objs.size:=by simpa using hb
 subst e
 exact I1.fpOk (Nat.le_refl _) (I1.hok.fresh (Nat.le_refl _))
structure DTx (K:PySem.W.Frag) (w:World) (a:Addr):Prop where
 ob:∃ (es:Array DictEntry) (n:Nat),K.lookup a=some ⟨.type "dict",none,.dict es n,#[]⟩∧PySem.W.KeysLit w.params es.toList
theorem ix_kdict {a:Addr}(D:DTx X.K X.w a):IxR X (fun x y H Q=>∃ z z' t,x = .ref a∧y = .str z∧PySem.W.nsIn X.K a z=some (some (.str z' t))∧Q (.str z') H):=by
 intro value slice pins s σ H x y v u Q I rx ry h hs
 obtain ⟨z,z',t',rfl,rfl,e,q⟩:=h
 cases rx
 obtain ⟨t,rfl⟩:=ry
 obtain ⟨es,n,hl,hk⟩:=D.ob
 obtain ⟨m,F⟩:=I.fr
 exact PySem.W.topItem_K F I.ok.mod.kin hl hk e ⟨.str z',H,I.tok _,⟨_,rfl⟩,q⟩ hs
noncomputable def tKGet_k1 (K:PySem.W.Frag)(a:Addr)(Q:VK):V→Hp→Prop:=fun y H1=>∃ z z' t,y = .str z∧PySem.W.nsIn K a z=some (some (.str z' t))∧Q (.str z') H1
noncomputable def tKGet (K:PySem.W.Frag)(a:Addr)(ti:TE):TE:=fun σ H Q=>ti σ H (tKGet_k1 K a Q)
theorem pe_kget {K:PySem.W.Frag}{w:World}{a:Addr}{x:Str}{i:Expr}{ti:TE}{p pos:Pos}(D:DTx K w a)(hK:X.K=K)(hw:X.w=w)(hg:Gl X x)(hm:X.mg x=some (.ref a))(hi:PE X i ti)(hs:PlainIx i)
  (hd:(x == ("__debug__":Str))=false:=by decide):PE X (.Subscript (.Name x p) i pos) (tKGet K a ti):=by
 subst hK hw
 intro pins s σ H Q I h
 refine Subscript_ (ld_glob I hg hm (thn (hi pins s σ H _ I h) fun u s2 zq2=>?_) hd)
 obtain ⟨y,H2,I2,ry,z,z',t',e1,e2,q⟩:=zq2
 exact ix_kdict D _ _ pins s2 σ H2 (.ref a) y (.ref a) u Q I2 rfl ry ⟨z,z',t',rfl,e1,e2,q⟩ (hs _ _)
end
end L2
namespace Wd
noncomputable abbrev L:=Fin 12
noncomputable def inv (x:L):L:=if h:x.val < 6 then ⟨x.val+6,by omega⟩ else ⟨x.val - 6,by omega⟩
theorem inv_inv:∀ x:L,inv (inv x)=x:=by decide
theorem inv_ne:∀ x:L,inv x≠x:=by decide
noncomputable def bk (w:List L):List L:=(w.map inv).reverse
theorem bk_append (u v:List L):bk (u++v)=bk v++bk u:=by simp [bk]
theorem bk_length (w:List L):(bk w).length=w.length:=by simp [bk]
theorem bk_one (x:L):bk [x]=[inv x]:=rfl
noncomputable def push (st:List L)(x:L):List L:=match st with
 | []=>[x]
 | y::r=>if y=inv x then r else x::y::r
noncomputable def act (w:List L)(st:List L):List L:=w.foldl push st
theorem act_cons (x:L)(w st:List L):act (x::w) st=act w (push st x):=rfl
theorem act_append (u v st:List L):act (u++v) st=act v (act u st):=by simp [act,List.foldl_append]
theorem act_snoc (u:List L)(x:L)(st:List L):act (u++[x]) st=push (act u st) x:=by rw [act_append]; rfl
noncomputable def Rd:List L→Prop
 | []=>True
 | [_]=>True
 | x::y::r=>y≠inv x∧Rd (y::r)
theorem Rd.tail:∀ {x:L} {r:List L},Rd (x::r)→Rd r
 | _,[],_=>trivial
 | _,_::_,h=>h.2
theorem push_rd {st:List L}(x:L)(h:Rd st):Rd (push st x):=by
 cases st with
 | nil=>trivial
 | cons y r =>
  show Rd (if y=inv x then r else x::y::r)
  split
  ·exact h.tail
  ·rename_i hn
   exact ⟨hn,h⟩
theorem act_rd:∀ (w:List L) {st:List L},Rd st→Rd (act w st)
 | [],_,h=>h
 | x::w,st,h=>act_rd w (push_rd x h)
noncomputable def red (w:List L):List L:=(act w []).reverse
theorem nil_rd:Rd []:=trivial
theorem push_length (st:List L)(x:L):(push st x).length≤st.length+1:=by
 cases st with
 | nil=>simp [push]
 | cons y r =>
  show (if y=inv x then r else x::y::r).length≤_
  split
  ·simp only [List.length_cons];omega
  ·simp
theorem act_length:∀ (w st:List L),(act w st).length≤st.length+w.length
 | [],_=>by simp [act]
 | x::w,st=>by
  have:=act_length w (push st x)
  have:=push_length st x
  rw [act_cons,List.length_cons]
  omega
theorem red_length (w:List L):(red w).length≤w.length:=by
 have:=act_length w []
 simpa [red] using this
noncomputable def rep:Nat→List L→List L
 | 0,_=>[]
 | n+1,w=>rep n w++w
theorem rep_comm (w:List L):∀ n,rep n w++w=w++rep n w
 | 0=>by simp [rep]
 | n+1=>by
  show (rep n w++w)++w=w++(rep n w++w)
  rw [← List.append_assoc,← rep_comm w n]
theorem rep_length (w:List L):∀ n,(rep n w).length=n*w.length
 | 0=>by simp [rep]
 | n+1=>by
  show (rep n w++w).length=_
  rw [List.length_append,rep_length w n,Nat.succ_mul]
noncomputable def pw (w:List L)(n:Int):List L:=rep n.natAbs (if n < 0 then bk w else w)
end Wd
namespace L2
open PySem PySem.Spec PyProof.Rows Wd
noncomputable def cp (x:L):Nat:=if x.val < 6 then 97+x.val else 59+x.val
theorem cp_lt:∀ x:L,cp x < 128:=by decide
theorem cp_inj:∀ x y:L,cp x=cp y→x=y:=by decide
noncomputable def toS (w:List L):Str:=⟨(w.map cp).toArray⟩
noncomputable def tx (w:List L):V:=.str (toS w)
theorem toS_cps (w:List L):(toS w).cps.toList=w.map cp:=by simp [toS]
theorem toS_length (w:List L):(toS w).length=w.length:=by simp [toS,Str.length]
theorem toS_size (w:List L):(toS w).cps.size=w.length:=by simp [toS]
theorem toS_append (u v:List L):toS u++toS v=toS (u++v):=by
 apply Str.ext'
 rw [Str.cps_append]
 simp [toS]
theorem map_cp_inj:∀ {u v:List L},u.map cp=v.map cp→u=v
 | [],[],_=>rfl
 | [],_::_,h=>by simp at h
 | _::_,[],h=>by simp at h
 | x::u,y::v,h=>by
  simp only [List.map_cons,List.cons.injEq] at h
  rw [cp_inj x y h.1,map_cp_inj h.2]
theorem toS_inj {u v:List L}(h:toS u=toS v):u=v:=by
 have:(toS u).cps.toList=(toS v).cps.toList:=by rw [h]
 rw [toS_cps,toS_cps] at this
 exact map_cp_inj this
theorem tx_inj {u v:List L}(h:tx u=tx v):u=v:=toS_inj (V.str.inj h)
theorem toS_nil:toS []=("":Str):=by decide +kernel
theorem tx_nil:tx []=V.str ("":Str):=congrArg V.str toS_nil
theorem dec_tx (u v:List L):decide (tx u=tx v)=decide (u=v):=by
 by_cases h:u=v
 ·subst h;simp
 ·rw [decide_eq_false h,decide_eq_false fun e=>h (tx_inj e)]
theorem small:toS [0,1,2,3,4,5]=("abcdef":Str):=by decide +kernel
theorem big:toS [6,7,8,9,10,11]=("ABCDEF":Str):=by decide +kernel
theorem sign_at {w:List L}{i c:Nat}(h:(toS w).cps[i]? = some c):∃ x,w[i]? = some x∧(⟨#[c]⟩:Str)=toS [x]:=by
 have h:((w.map cp).toArray)[i]? = some c:=h
 rw [List.getElem?_toArray,List.getElem?_map] at h
 cases e:w[i]? with
 | none=>rw [e] at h;cases h
 | some x =>
  rw [e] at h
  have:cp x=c:=Option.some.inj h
  exact ⟨x,rfl,by rw [← this];rfl⟩
theorem atI_toS {w:List L}{k:Nat}{x:L}{i:Int}(hk:i=(k:Int))(h:w[k]? = some x):atI (toS w).cps.toList i=some (cp x):=by
 subst hk
 rw [toS_cps]
 obtain ⟨hl,e⟩:=List.getElem?_eq_some_iff.mp h
 unfold atI ixN
 rw [if_pos (by omega),if_pos (by rw [List.length_map];omega)]
 show (w.map cp)[((k:Nat):Int).toNat]? = _
 rw [Int.toNat_natCast,List.getElem?_map,h]
 rfl
noncomputable def cutL (w:List L)(lo hi:Option Int):List L:=(w.drop (HT.sIx w.length 0 lo)).take (HT.sIx w.length w.length hi - HT.sIx w.length 0 lo)
theorem idx_gen (lo hi:Option Int)(n:Nat):Builtin.Str.strSliceIndices lo hi 1 n=(List.range (HT.sIx n n hi - HT.sIx n 0 lo)).map (fun k=>HT.sIx n 0 lo+k):=by
 have cl:∀ v:Int,max (0:Int) (min (if v < 0 then v+(n:Int) else v) (n:Int))=(((if v < 0 then (v+(n:Int)).toNat else min v.toNat n):Nat):Int):=fun v=>by
  by_cases hv:v < 0
  ·simp only [if_pos hv];omega
  ·simp only [if_neg hv];omega
 have fin:∀ a b:Nat,sliceRange (a:Int) (b:Int) 1=(List.range (b - a)).map (fun k=>a+k):=fun a b=>by
  unfold sliceRange
  simp only [show ((1:Int) > 0)=True from by simp,if_true]
  by_cases hlt:(a:Int) < b
  ·have e3:(((b:Int) - a+1 - 1) / 1).toNat=b - a:=by first | omega | (simp;done) | (simp;omega)
   simp only [hlt,if_true,e3]
   exact List.map_congr_left fun k _=>by omega
  ·have:b - a=0:=by omega
   simp [hlt,this]
 unfold Builtin.Str.strSliceIndices
 simp only [show ((1:Int) > 0)=True from by simp,if_true]
 cases lo with
 | none =>
  cases hi with
  | none=>exact fin 0 n
  | some j=>simp only [cl];exact fin 0 _
 | some i =>
  cases hi with
  | none=>simp only [cl];exact fin _ n
  | some j=>simp only [cl];exact fin _ _
theorem slice_toS (w:List L)(lo hi:Option Int):Txt.slice (toS w) lo hi=toS (cutL w lo hi):=by
 have h1:=HT.sIx_le w.length 0 (Nat.zero_le _) lo
 have h2:=HT.sIx_le w.length w.length (Nat.le_refl _) hi
 unfold Txt.slice
 rw [idx_gen,toS_length]
 split
 ·rename_i h
  have hl:HT.sIx w.length w.length hi - HT.sIx w.length 0 lo=w.length:=by simpa using h
  have e:cutL w lo hi=w:=by
   unfold cutL
   rw [hl]
   have ha:HT.sIx w.length 0 lo=0 ∨ w.length=0:=by omega
   rcases ha with ha | ha
   ·rw [ha,List.drop_zero,List.take_length]
   ·have:w=[]:=List.eq_nil_of_length_eq_zero ha
    subst this
    simp
  rw [e]
 ·apply Str.ext'
  show (List.filterMap _ _).toArray=_
  have e:=StrLaws.picks (w.map cp) (HT.sIx w.length w.length hi - HT.sIx w.length 0 lo) (HT.sIx w.length 0 lo)
  by_cases hle:HT.sIx w.length 0 lo≤HT.sIx w.length w.length hi
  ·have e:=e (by rw [List.length_map];omega)
   have e2:(fun k:Nat=>(toS w).cps[k]?)=fun k:Nat=>(w.map cp)[k]?:=funext fun k=>by simp [toS]
   rw [e2,e]
   simp [toS,cutL,List.map_take,List.map_drop]
  ·have z:HT.sIx w.length w.length hi - HT.sIx w.length 0 lo=0:=by omega
   rw [z]
   simp [toS,cutL,z]
theorem cut_to (w:List L){n:Int}(h:0≤n):cutL w none (some n)=w.take n.toNat:=by
 obtain ⟨k,rfl⟩:=Int.eq_ofNat_of_zero_le h
 unfold cutL
 rw [HT.sIx_none,HT.sIx_nat,List.drop_zero,Nat.sub_zero,Int.toNat_natCast]
 by_cases hk:k≤w.length
 ·rw [Nat.min_eq_left hk]
 ·rw [Nat.min_eq_right (by omega),List.take_length,List.take_of_length_le (by omega)]
theorem cut_from (w:List L){n:Int}(h:0≤n):cutL w (some n) none=w.drop n.toNat:=by
 obtain ⟨k,rfl⟩:=Int.eq_ofNat_of_zero_le h
 unfold cutL
 rw [HT.sIx_none,HT.sIx_nat,Int.toNat_natCast]
 by_cases hk:k≤w.length
 ·rw [Nat.min_eq_left hk,List.take_of_length_le (by rw [List.length_drop];omega)]
 ·rw [Nat.min_eq_right (by omega),List.drop_length,List.drop_eq_nil_of_le (by omega)]
  simp
theorem upper_toS (w:List L):Txt.upper (toS w)=⟨((w.map cp).map up1).toArray⟩:=by
 rw [upper_ascii fun c hc=>by rw [toS_cps] at hc;obtain ⟨x,_,rfl⟩:=List.mem_map.mp hc;exact cp_lt x]
 simp [toS]
theorem lower_toS (w:List L):Txt.lower (toS w)=⟨((w.map cp).map lo1).toArray⟩:=by
 rw [lower_ascii fun c hc=>by rw [toS_cps] at hc;obtain ⟨x,_,rfl⟩:=List.mem_map.mp hc;exact cp_lt x]
 simp [toS]
theorem up_cp:∀ x:L,x.val < 6→up1 (cp x)=cp (inv x):=by decide
theorem lo_cp:∀ x:L,¬ x.val < 6→lo1 (cp x)=cp (inv x):=by decide
theorem upper_one {x:L}(h:x.val < 6):Txt.upper (toS [x])=toS [inv x]:=by
 rw [upper_toS]
 show (⟨#[up1 (cp x)]⟩:Str)=⟨#[cp (inv x)]⟩
 rw [up_cp x h]
theorem lower_one {x:L}(h:¬ x.val < 6):Txt.lower (toS [x])=toS [inv x]:=by
 rw [lower_toS]
 show (⟨#[lo1 (cp x)]⟩:Str)=⟨#[cp (inv x)]⟩
 rw [lo_cp x h]
theorem ex1:∀ x:L,cp x∈List.map cp [0,1,2,3,4,5]→x.val < 6:=by decide
theorem ex2:∀ x:L,x.val < 6→(List.map cp [0,1,2,3,4,5])[x.val]? = some (cp x):=by decide
theorem in_small (x:L):(!(Builtin.Str.occurrences ("abcdef":Str) (toS [x]) 0 ("abcdef":Str).length 1).isEmpty)=decide (x.val < 6):=by
 have h:=StrLaws.found_iff ("abcdef":Str) (toS [x])
 have e:(∃ i,i+(toS [x]).length≤("abcdef":Str).length∧Builtin.Str.subAt ("abcdef":Str) (toS [x]) i=true) ↔ x.val < 6:=by
  have e2:∀ i,(i+(toS [x]).length≤("abcdef":Str).length∧Builtin.Str.subAt ("abcdef":Str) (toS [x]) i=true) ↔ ("abcdef":Str).cps.toList[i]? = some (cp x):=fun i=>StrLaws.subAt_one _ _ _
  rw [show (("abcdef":Str))=toS [0,1,2,3,4,5] from small.symm] at e2 ⊢
  constructor
  ·rintro ⟨i,hi⟩
   have hi:=(e2 i).mp hi
   rw [toS_cps] at hi
   exact ex1 x (List.mem_of_getElem? hi)
  ·intro hx
   refine ⟨x.val,(e2 x.val).mpr ?_⟩
   rw [toS_cps]
   exact ex2 x hx
 rw [Bool.eq_iff_iff,h,e,decide_eq_true_iff]
theorem join_one:∀ w:List L,Txt.join ("":Str) (w.map fun x=>toS [x])=toS w:=by
 intro w
 have e0:("":Str)=Str.empty:=by decide +kernel
 unfold Txt.join
 rw [StrLaws.glued_eq_join,e0]
 induction w with
 | nil=>rfl
 | cons x r ih =>
  cases r with
  | nil=>rfl
  | cons y r =>
   show toS [x]++Str.empty++Str.join Str.empty ((y::r).map fun x=>toS [x])=_
   rw [ih,Str.append_empty,toS_append]
   rfl
theorem sum_one (w:List L):((w.map fun x=>toS [x]).map (·.length)).sum=w.length:=by
 induction w with
 | nil=>rfl
 | cons x r ih =>
  simp only [List.map_cons,List.sum_cons,List.length_cons]
  rw [ih,toS_length]
  simp only [List.length_singleton]
  omega
theorem foldl_rep_cp (w:List L):∀ (n:Nat) (acc:Array Nat),(List.replicate n (toS w).cps).foldl (· ++ ·) acc=acc++((rep n w).map cp).toArray
 | 0,acc=>by simp [rep]
 | n+1,acc=>by
  rw [List.replicate_succ,List.foldl_cons,foldl_rep_cp w n]
  show _=acc++((rep n w++w).map cp).toArray
  rw [rep_comm]
  simp [toS]
theorem rep_nil:∀ n,rep n ([]:List L)=[]
 | 0=>rfl
 | n+1=>by show rep n []++[]=[];rw [rep_nil n];rfl
theorem rep_toS (w:List L)(n:Int):Txt.mul (toS w) n=toS (rep n.toNat w):=by
 unfold Txt.mul
 by_cases h1:n < 1
 ·rw [if_pos h1]
  have:n.toNat=0:=by omega
  rw [this]
  rfl
 ·rw [if_neg h1]
  split
  ·rename_i h
   rw [toS_length] at h
   simp only [Bool.or_eq_true,beq_iff_eq] at h
   rcases h with h | h
   ·subst h
    show toS w=toS (rep 1 w)
    show toS w=toS ([]++w)
    rfl
   ·have:w=[]:=List.eq_nil_of_length_eq_zero h
    subst this
    rw [rep_nil]
  ·apply Str.ext'
   show (List.replicate n.toNat (toS w).cps).foldl (· ++ ·) #[]=_
   rw [foldl_rep_cp]
   simp [toS]
theorem mulOk_toS (w:List L){n:Int}(h1:-1000000≤n)(h2:n≤1000)(hw:w.length≤10000):MulOk (toS w) n:=by
 refine ⟨?_,fun hn _=>?_,fun hn _=>?_⟩
 ·have e1:decide (n < -(2 ^ 63:Int))=false:=decide_eq_false (by omega)
  have e2:decide (n≥2 ^ 63)=false:=decide_eq_false (by omega)
  rw [e1,e2,Bool.or_false]
 ·rw [toS_length]
  have hn1:1≤n:=by omega
  have q:(9223372036854775:Int)≤(2 ^ 63 - 1) / n:=by
   rw [Int.le_ediv_iff_mul_le (by omega)]
   omega
  omega
 ·rw [toS_length]
  unfold Builtin.Str.tooLong
  have e:sizeLine=16777216:=sizeLine_eq
  obtain ⟨k,rfl⟩:=Int.eq_ofNat_of_zero_le (show 0≤n by omega)
  have hk:k≤1000:=by omega
  rw [Int.toNat_natCast]
  have q:w.length*k≤10000*1000:=Nat.mul_le_mul hw hk
  exact decide_eq_false (by omega)
end L2
namespace L2
open PySem PySem.Spec PyProof.Rows Wd
structure Fnc (P:Program) (w:World) (K:PySem.W.Frag) (mg:Str→Option Value) (base:Heap) (x:Str) (ps:List Str) (k:Nat) (sp:Sp):Prop where
 ex:∃ (f:Addr) (fd:FuncData),mg x=some (.ref f)∧PySem.W.keepIn K (.ref f)=true∧Binds K fd ps []∧FnOk P w K mg base CX0 k f fd ps sp
theorem pe_fn {X:Cx}{x:Str}{ps:List Str}{k j:Nat}{sp:Sp}{e:Expr}{es:List Expr}{t:TA}{p pos:Pos}(F:Fnc X.prog X.w X.K X.mg X.base x ps j sp)(hr:Room k X.A)(hj:j≤k)(hg:Gl X x)(ha:PA X (e::es) t)
  (hdb:(x == ("__debug__":Str))=false:=by decide) (he:starEach (e::es) X.env=(false,eval e X.env)::starEach es X.env:=by rfl) (hpl:(backTo pos (starEach es X.env)).any (·.1)=false:=by rfl) :
  PE X (.Call (.Name x p) (e::es) [] pos) (tCall sp [] E0 t):=by
 obtain ⟨f,fd,hm,hk,hb,F⟩:=F.ex
 exact pe_call F (hr.mono hj) hg hm hk hb .nil pass0 ha hdb he hpl
structure Df (K:PySem.W.Frag) (mg:Str→Option Value) (x:Str) (st:Stmt):Prop where
 ex:∃ (f:Addr) (fd:FuncData),mg x=some (.ref f)∧Fun K x x st f fd
theorem Df.ok {P:Program}{w:World}{K:PySem.W.Frag}{mg:Str→Option Value}{base:Heap}{x:Str}{st:Stmt}{N ps:List Str}{k:Nat}{sp:Sp}(D:Df K mg x st)(S:FnScope N ps (defScope st))
  (hb:∀ (kV doc pm:Value) (an:Option Addr) (cdv ct:Value) (us:List Value),us.length=ps.length→bindArgs (PySem.W.fnOf x x (defArgs st) (defBody st) (defScope st) .none kV doc pm an cdv ct) ⟨us,[]⟩=pure (ps.zip us))
  (len:∀ vs H Q E,sp vs H Q E→vs.length=ps.length)
  (hbody:∀ (f:Addr) (cdv:Value) (A:Around) (outer:List Env) (s:Shared) (H:Hp) (vs:List V) (Q:VK) (E:XK),Room k (A.deeper (envOfC x (defScope st) s.heap.objs.size f cdv))→sp vs H Q E →
   ∃ t,PSs (cxOf CX0 P w K mg base N x (defScope st) f cdv A outer s H E).nox (defBody st) t∧t { nx:=fun _ H'=>Q .non H',rt:=Q } (start N vs) H):Fnc P w K mg base x ps (k+1) sp:=by
 obtain ⟨f,fd,hm,F⟩:=D.ex
 exact ⟨f,fd,hm,F.kp,F.binds hb,F.ok S len fun cdv A outer s H vs Q E hr h=>hbody f cdv A outer s H vs Q E hr h⟩
noncomputable def SameB (d:Addr)(H H':Hp):Prop:=∀ b o,b≠d→H b=some o→H' b=some o
theorem SameB.refl (d:Addr)(H:Hp):SameB d H H:=fun _ _ _ h=>h
theorem SameB.trans {d:Addr}{H H1 H2:Hp}(a:SameB d H H1)(b:SameB d H1 H2):SameB d H H2:=fun c o n h=>b c o n (a c o n h)
theorem Same.b {d:Addr}{H H':Hp}(a:Same H H'):SameB d H H':=fun b o _ h=>a b o h
theorem Same.new {H:Hp}{a:Addr}{o:HO}(h:H a=none):Same H (upd H a o):=fun b u e=>by rw [upd_ne (ne_of_none e h)]; exact e
theorem SameB.upd {d:Addr}{H:Hp}{o:HO}:SameB d H (upd H d o):=fun b u n e=>by rw [upd_ne n]; exact e
theorem Same.then {H H1:Hp}{a:Addr}{o:HO}(s:Same H H1)(h:H1 a=none):Same H (L2.upd H1 a o):=s.trans (Same.new h)
noncomputable def kS (x:Str):Key:=.inr x
noncomputable def fkv (c:Addr)(i l t:Int):List (Key × V):=[(kS "cells",.ref c),(kS "at",.int i),(kS "left",.int l),(kS "turn",.int t)]
theorem n_ca:¬ (kS "cells" = kS "at"):=by decide +kernel
theorem n_cl:¬ (kS "cells" = kS "left"):=by decide +kernel
theorem n_ct:¬ (kS "cells" = kS "turn"):=by decide +kernel
theorem n_al:¬ (kS "at" = kS "left"):=by decide +kernel
theorem n_at:¬ (kS "at" = kS "turn"):=by decide +kernel
theorem n_lt:¬ (kS "left" = kS "turn"):=by decide +kernel
theorem valV_hit {κ:Type}[DecidableEq κ]{k:κ}{v:V}{r:List (κ × V)}:valV ((k,v)::r) k=some v:=by unfold valV; simp
theorem valV_skip {κ:Type}[DecidableEq κ]{k k':κ}{v:V}{r:List (κ × V)}(h:¬ k'=k):valV ((k',v)::r) k=valV r k:=by unfold valV; simp [h]
theorem g_cells (c:Addr)(i l t:Int):valV (fkv c i l t) (kS "cells")=some (.ref c):=valV_hit
theorem g_at (c:Addr)(i l t:Int):valV (fkv c i l t) (kS "at")=some (.int i):=(valV_skip n_ca).trans valV_hit
theorem g_left (c:Addr)(i l t:Int):valV (fkv c i l t) (kS "left")=some (.int l):=(valV_skip n_cl).trans ((valV_skip n_al).trans valV_hit)
theorem g_turn (c:Addr)(i l t:Int):valV (fkv c i l t) (kS "turn")=some (.int t):=(valV_skip n_ct).trans ((valV_skip n_at).trans ((valV_skip n_lt).trans valV_hit))
theorem n_ta:¬ (kS "turn" = kS "at"):=fun e=>n_at e.symm
theorem n_la:¬ (kS "left" = kS "at"):=fun e=>n_al e.symm
theorem n_tl:¬ (kS "turn" = kS "left"):=fun e=>n_lt e.symm
theorem p_at (c:Addr)(i l t z:Int):putK (fkv c i l t) (kS "at") (.int z)=fkv c z l t:=by simp [putK,fkv,n_ca,n_la,n_ta]
theorem p_left (c:Addr)(i l t z:Int):putK (fkv c i l t) (kS "left") (.int z)=fkv c i z t:=by simp [putK,fkv,n_cl,n_al,n_tl]
theorem p_turn (c:Addr)(i l t z:Int):putK (fkv c i l t) (kS "turn") (.int z)=fkv c i l z:=by simp [putK,fkv,n_ct,n_at,n_lt]
theorem fkv_len (c:Addr)(i l t:Int):(fkv c i l t).length < sizeLine:=by show 4 < sizeLine; decide
theorem m_fkv (c:Addr)(i l t:Int):mergeK [] (fkv c i l t)=fkv c i l t:=by simp [mergeK,putK,fkv,n_ca,n_cl,n_ct,n_al,n_at,n_lt]
structure Fd (H:Hp) (d:Addr):Prop where
 ex:∃ (c:Addr) (i l t:Int) (ns:List Int),H d=some (.dK (fkv c i l t))∧H c=some (.lst (ns.map V.int))∧ns≠[]∧ns.length≤64
theorem Fd.same {H H':Hp}{d:Addr}(F:Fd H d)(s:Same H H'):Fd H' d:=by
 obtain ⟨c,i,l,t,ns,h1,h2,h3,h4⟩:=F.ex
 exact ⟨c,i,l,t,ns,s _ _ h1,s _ _ h2,h3,h4⟩
theorem Fd.new {H:Hp}{d a:Addr}{o:HO}(F:Fd H d)(h:H a=none):Fd (upd H a o) d:=F.same (Same.new h)
theorem Fd.ne {H:Hp}{d a:Addr}(F:Fd H d)(h:H a=none):a≠d:=by
 obtain ⟨c,i,l,t,ns,h1,h2,h3,h4⟩:=F.ex
 exact (ne_of_none h1 h).symm
theorem Fd.nl {H:Hp}{d a:Addr}{xs:List V}(F:Fd H d)(h:H a=some (.lst xs)):a≠d:=by
 obtain ⟨c,i,l,t,ns,h1,h2,h3,h4⟩:=F.ex
 exact ne_of h h1 (by intro z;cases z)
inductive spDraw (vs:List V)(H:Hp)(Q:VK)(u3_:XK):Prop
 | mk:∀ (d:Addr) (m:Int),(vs=[.ref d,.int m])→(Fd H d)→(0 < m)→(m < 1000000)→(∀ (r:Int) (H':Hp),0≤r→r < m→Fd H' d→SameB d H H'→Q (.int r) H')→spDraw vs H Q u3_
inductive spFeed (K:PySem.W.Frag)(vs:List V)(H:Hp)(Q:VK)(u3_:XK):Prop
 | mk:∀ (a:Addr) (ns:List Int),(vs=[.ref a])→(SqL K H a (ns.map V.int))→(ns.length≤63)→(∀ (d:Addr) (H':Hp),H d=none→Fd H' d→Same H H'→Q (.ref d) H')→spFeed K vs H Q u3_
theorem cell_at {ns:List Int}(h:ns≠[])(i:Int):∃ n:Int,atI (ns.map V.int) (i % ((ns.map V.int).length:Int))=some (.int n):=by
 have hl:0 < ns.length:=List.length_pos_iff.mpr h
 rw [List.length_map]
 have h0:=Int.emod_nonneg i (show (ns.length:Int)≠0 by omega)
 have h1:=Int.emod_lt_of_pos i (show (0:Int) < ns.length by omega)
 obtain ⟨k,hk⟩:=Int.eq_ofNat_of_zero_le h0
 rw [hk] at h1 ⊢
 have hk':k < ns.length:=by omega
 refine ⟨ns[k],?_⟩
 unfold atI ixN
 rw [if_pos (by omega),if_pos (by rw [List.length_map];omega)]
 show (ns.map V.int)[((k:Nat):Int).toNat]? = _
 rw [Int.toNat_natCast,List.getElem?_map,List.getElem?_eq_getElem hk']
 rfl
end L2
namespace L2
open PySem PySem.Spec PyProof.Rows Wd
mutual
inductive Dt (H:Hp):V→PyData→Prop where
 | non:Dt H .non .none
 | bl (b:Bool):Dt H (.bl b) (.bool b)
 | int (i:Int):Dt H (.int i) (.int i)
 | str (x:Str):Dt H (.str x) (.str x)
 | lst {a:Addr} {xs:List V} {ds:List PyData}:H a=some (.lst xs)→Dts H xs ds→Dt H (.ref a) (.list ds)
 | tup {a:Addr} {xs:List V} {ds:List PyData}:H a=some (.tup xs)→Dts H xs ds→Dt H (.ref a) (.tuple ds)
inductive Dts (H:Hp):List V→List PyData→Prop where
 | nil:Dts H [] []
 | cons {v:V} {d:PyData} {vs:List V} {ds:List PyData}:Dt H v d→Dts H vs ds→Dts H (v::vs) (d::ds)
end
section
variable {P:Program} {w:World} {H:Hp} {h:Heap}
mutual
theorem Dt.reads (ok:HOk P w H h):∀ {v:V} {d:PyData},Dt H v d→∀ {u:Value},RelV v u→∃ as,Reads h u d as
 | _,_,.non,u,r=>by cases r;exact ⟨_,.none⟩
 | _,_,.bl b,u,r=>by cases r;exact ⟨_,.bool b⟩
 | _,_,.int i,u,r=>by obtain ⟨t,rfl⟩:=r;exact ⟨_,.int i t⟩
 | _,_,.str x,u,r=>by obtain ⟨t,rfl⟩:=r;exact ⟨_,.str x t⟩
 | _,_,.lst e q,u,r=>by
  cases r
  obtain ⟨_,its,n,rv,g⟩:=ok _ _ e
  obtain ⟨as,ra⟩:=Dts.reads ok q rv
  exact ⟨_,.list g rfl rfl (by simpa using ra)⟩
 | _,_,.tup e q,u,r=>by
  cases r
  obtain ⟨_,its,rv,⟨ob,g,c,n,d⟩,_⟩:=ok _ _ e
  obtain ⟨as,ra⟩:=Dts.reads ok q rv
  exact ⟨_,.tuple g c d (by simpa using ra)⟩
theorem Dts.reads (ok:HOk P w H h):∀ {vs:List V} {ds:List PyData},Dts H vs ds→∀ {us:List Value},Vals vs us→∃ as,ReadsAll h us ds as
 | _,_,.nil,_,r=>by cases r;exact ⟨_,.nil⟩
 | _,_,.cons q qs,_,r=>by
  cases r with
  | cons r rs =>
   obtain ⟨as,a1⟩:=Dt.reads ok q r
   obtain ⟨bs,a2⟩:=Dts.reads ok qs rs
   exact ⟨_,.cons a1 a2⟩
end
end
section
variable {X:Cx}
end
noncomputable def Least (m:Str)(ys:List Str):Prop:=m∈ys∧∀ y∈ys,m.cps.toList≤y.cps.toList
noncomputable def strAt (ys:List Str)(i:Nat):Str:=ys.getD i Str.empty
noncomputable def btS (ys:List Str)(i j:Nat):Bool:=decide ((strAt ys i).cps.toList < (strAt ys j).cps.toList)
theorem best_least (ys:List Str):∀ k,argBest (btS ys) k≤k∧∀ j,j≤k→(strAt ys (argBest (btS ys) k)).cps.toList≤(strAt ys j).cps.toList
 | 0=>⟨Nat.le_refl _,fun j hj=>by
  have:j=0:=by omega
  subst this
  exact List.le_refl _⟩
 | k+1=>by
  obtain ⟨h1,h2⟩:=best_least ys k
  have e:argBest (btS ys) (k+1)=if btS ys (k+1) (argBest (btS ys) k)=true then k+1 else argBest (btS ys) k:=rfl
  rw [e]
  by_cases h:btS ys (k+1) (argBest (btS ys) k)=true
  ·rw [if_pos h]
   have h:(strAt ys (k+1)).cps.toList < (strAt ys (argBest (btS ys) k)).cps.toList:=of_decide_eq_true h
   refine ⟨Nat.le_refl _,fun j hj=>?_⟩
   by_cases e:j=k+1
   ·subst e;exact List.le_refl _
   ·exact List.le_trans (List.le_of_lt h) (h2 j (by omega))
  ·rw [if_neg h]
   have h:¬ (strAt ys (k+1)).cps.toList < (strAt ys (argBest (btS ys) k)).cps.toList:=fun z=>h (decide_eq_true z)
   refine ⟨by omega,fun j hj=>?_⟩
   by_cases e:j=k+1
   ·subst e;exact List.not_lt.mp h
   ·exact h2 j (by omega)
section
variable {X:Cx}
end
end L2
set_option maxHeartbeats 0
namespace Kx
open PySem PySem.Spec PyProof.Rows L2 Wd
theorem b_list:bootBuiltins "list" = some (.type "list"):=by kernel_rfl
theorem b_int:bootBuiltins "int" = some (.type "int"):=by kernel_rfl
theorem b_max:bootBuiltins "max" = some (.builtin "max"):=by kernel_rfl
theorem b_min:bootBuiltins "min" = some (.builtin "min"):=by kernel_rfl
theorem b_sorted:bootBuiltins "sorted" = some (.builtin "sorted"):=by kernel_rfl
theorem b_tuple:bootBuiltins "tuple" = some (.type "tuple"):=by kernel_rfl
theorem b_reversed:bootBuiltins "reversed" = some (.type "reversed"):=by kernel_rfl
structure Bt (K:PySem.W.Frag) (w:World) (mg:Str→Option Value) (aB:Addr):Prop where
 len:mg "len" = none
 repr:mg "repr" = none
 abs:mg "abs" = none
 max:mg "max" = none
 int:mg "int" = none
 list:mg "list" = none
 range:mg "range" = none
 reversed:mg "reversed" = none
 min:mg "min" = none
 sorted:mg "sorted" = none
 tuple:mg "tuple" = none
 isinstance:mg "isinstance" = none
 all:mg "all" = none
 str:mg "str" = none
 zip:mg "zip" = none
 mgB:mg "BACKS" = some (.ref aB)
 dB:DTx K w aB
 gB:∀ x:L,∃ t,PySem.W.nsIn K aB (toS [x])=some (some (.str (toS [inv x]) t))
theorem dg {H:Hp}{d:Addr}{kvs:List (Key × V)}{k:Str}{v:V}(h:H d=some (.dK kvs))(e:valV kvs (kS k)=some v):DGet H d (.str k) (some v):=by
 have q:=DGet.k (k:=kS k) h
 rw [e] at q
 exact q
theorem dp {H:Hp}{d:Addr}{kvs kvs':List (Key × V)}{k:Str}{v:V}(h:H d=some (.dK kvs))(hl:kvs.length < sizeLine)(e:putK kvs (kS k) v=kvs'):DPut H d (.str k) v (upd H d (.dK kvs')):=by
 have q:=DPut.k (k:=kS k) (v:=v) h hl
 rw [e] at q
 exact q
theorem cut63 {ns:List Int}(h:ns.length≤63):cutV (ns.map V.int) none (some 63)=ns.map V.int:=by
 unfold cutV
 have e:HT.sIx (ns.map V.int).length (ns.map V.int).length (some 63)=(ns.map V.int).length:=by
  have:=HT.sIx_nat (ns.map V.int).length (ns.map V.int).length 63
  rw [show ((63:Nat):Int)=63 from rfl] at this
  rw [this,List.length_map]
  omega
 rw [e,HT.sIx_none,List.drop_zero,Nat.sub_zero,List.take_length]
noncomputable def ones (w:List L):List V:=w.map fun x=>tx [x]
theorem ones_str (w:List L):ones w=(w.map fun x=>toS [x]).map V.str:=by unfold ones; rw [List.map_map]; rfl
theorem ones_snoc (w:List L)(x:L):ones w++[tx [x]]=ones (w++[x]):=by unfold ones; rw [List.map_append]; rfl
theorem ones_length (w:List L):(ones w).length=w.length:=by unfold ones; rw [List.length_map]
theorem join_ones (w:List L):V.str (Txt.join ("":Str) (w.map fun x=>toS [x]))=tx w:=congrArg V.str (join_one w)
theorem join_room (w:List L)(h:w.length≤1000000):((w.map fun x=>toS [x]).map (·.length)).sum+(w.map fun x=>toS [x]).length*("":Str).length≤16777216:=by
 have e:("":Str).length=0:=by decide +kernel
 rw [e,sum_one]
 omega
theorem line16:sizeLine=16777216:=sizeLine_eq
inductive spBk (vs:List V)(H:Hp)(Q:VK)(u3_:XK):Prop
 | mk:∀ w,(vs=[tx w])→(w.length≤5000)→(∀ H',Same H H'→Q (tx (bk w)) H')→spBk vs H Q u3_
inductive spRed (vs:List V)(H:Hp)(Q:VK)(u3_:XK):Prop
 | mk:∀ w,(vs=[tx w])→(w.length≤5000)→(∀ H',Same H H'→Q (tx (red w)) H')→spRed vs H Q u3_
theorem tx_app (u v:List L):V.str (toS u++toS v)=tx (u++v):=congrArg V.str (toS_append u v)
noncomputable def sg (m:Int):List L:=([0,1,2,3,4,5]:List L).take m.toNat++([6,7,8,9,10,11]:List L).take m.toNat
theorem sg_length {m:Int}(h1:1≤m)(h2:m≤6):(sg m).length=2*m.toNat:=by
 unfold sg
 rw [List.length_append,List.length_take,List.length_take]
 simp only [List.length_cons,List.length_nil]
 omega
theorem slice_sg {m:Int}(h1:1≤m):V.str (Txt.slice ("abcdef":Str) none (some m)++Txt.slice ("ABCDEF":Str) none (some m))=tx (sg m):=by
 rw [← small,← big,slice_toS,slice_toS,cut_to _ (by omega),cut_to _ (by omega),tx_app]
 rfl
theorem len_sm:("abcdef":Str).length=6:=by decide +kernel
theorem len_bg:("ABCDEF":Str).length=6:=by decide +kernel
theorem bk_get (u:List L){i:Nat}{y:L}(hi:i < u.length)(h:u[u.length - 1 - i]? = some y):(bk u)[i]? = some (inv y):=by
 unfold bk
 rw [List.getElem?_reverse (by rw [List.length_map];exact hi),List.length_map,List.getElem?_map,h]
 rfl
theorem take_snoc {u:List L}{i:Nat}{x:L}(h:u[i]? = some x):u.take (i+1)=u.take i++[x]:=by
 obtain ⟨hl,e⟩:=List.getElem?_eq_some_iff.mp h
 rw [List.take_add_one,h]
 rfl
theorem iteC {c:Bool}{A B:Prop}(hc:c=true)(h:A):if c=true then A else B:=by rw [if_pos hc]; exact h
theorem iteD {c:Bool}{A B:Prop}(hc:c=false)(h:B):if c=true then A else B:=by rw [hc]; exact iteF h
theorem two_at (x:L){q:Int}(h0:0≤q)(h2:q < 2):∃ y:L,atI [tx [x],tx [inv x]] q=some (tx [y]):=by
 have:q=0 ∨ q=1:=by omega
 rcases this with rfl | rfl
 ·exact ⟨x,rfl⟩
 ·exact ⟨inv x,rfl⟩
noncomputable def dws (ws:List (List L)):List PyData:=ws.map fun w=>.str (toS w)
theorem dts_txs {H:Hp}:∀ (ws:List (List L)),Dts H (ws.map tx) (dws ws)
 | []=>.nil
 | w::r=>.cons (.str (toS w)) (dts_txs r)
end Kx
namespace L2
open PySem PySem.Spec PyProof.Rows Wd
section
variable {X:Cx} {tg:Expr}
end
section
variable {X:Cx} {o e:Expr} {es:List Expr} {to:TE} {t:TA} {name:Str} {apos cpos:Pos} {T id:String} {r:V→List V→Hp→VK→Prop} {K:PySem.W.Frag}
theorem pe_bm0K (hK:X.K=K)(pa:PlainAttrs T)(slot:Slot T name id)(hty:typeOf (.builtin id)=pure (.type "method_descriptor"))(hm:MtR X id r)(ho:PE X o to)
  (hbase:attributeBase o name X.env (eval o X.env)=eval o X.env:=by rfl) (hline:(apos.endLine == cpos.line)=true:=by rfl):PE X (.Call (.Attribute o name apos) [] [] cpos) (tBM0 K T r to):=by
 subst hK
 exact pe_bm0 pa slot hty hm ho hbase hline
theorem pe_bmK (hK:X.K=K)(pa:PlainAttrs T)(slot:Slot T name id)(hty:typeOf (.builtin id)=pure (.type "method_descriptor"))(hm:MtR X id r)(ho:PE X o to)(ha:PA X (e::es) t)
  (hbase:attributeBase o name X.env (eval o X.env)=eval o X.env:=by rfl)
  (hfew:((backTo cpos (starEach (e::es) X.env)).all (fun x=>!x.1) && (backToKw cpos (keywordEach [] X.env)).all (fun x=>x.1.isSome)
   && decide ((e::es).length+([]:List Keyword).length+(if ([]:List Keyword).isEmpty then 0 else 1) < 30))=true:=by rfl)
  (hline:(apos.endLine == cpos.line)=true:=by rfl) (hs:starEach (e::es) X.env=(false,eval e X.env)::starEach es X.env:=by rfl) (hplain:(backTo cpos (starEach es X.env)).any (·.1)=false:=by rfl) :
  PE X (.Call (.Attribute o name apos) (e::es) [] cpos) (tBM K T r to t):=by
 subst hK
 exact pe_bm pa slot hty hm ho ha hbase hfew hline hs hplain
end
end L2
namespace L2
open PySem PySem.Spec PyProof.Rows Wd
section
variable {X:Cx}
inductive rIndex (x:V)(vs:List V)(H:Hp)(Q:VK):Prop
 | mk:∀ z y i rest,(x = .str z)→(vs=[.str y])→(Builtin.Str.occurrences z y 0 z.length 1=i::rest)→(Q (.int (i:Nat)) H)→rIndex x vs H Q
theorem mt_index:MtR X "str.index" rIndex:=by
 intro pins s σ H x vs v us Q I rx rv h
 obtain ⟨z,y,i,rest,rfl,rfl,ho,q⟩:=h
 obtain ⟨t,rfl⟩:=rx
 obtain ⟨u1,rfl,⟨t1,rfl⟩⟩:=vals1 rv
 exact SC.index ho ⟨.int _,H,I.tok _,⟨_,rfl⟩,q⟩
noncomputable def signs (z:Str):List V:=z.cps.toList.map fun c=>.str ⟨#[c]⟩
theorem vals_signs {z:Str}{acc:Array Value}(h:ItemsOf (SignAt z) acc z.cps.size):Vals (signs z) acc.toList:=by
 have all:∀ (cs:List Nat) (us:List Value),cs.length=us.length→(∀ (j:Nat) (v:Value),us[j]? = some v→∃ c u,cs[j]? = some c∧v = .str ⟨#[c]⟩ u)→Vals (cs.map fun c=>V.str ⟨#[c]⟩) us:=by
  intro cs
  induction cs with
  | nil =>
   intro us hl _
   cases us with
   | nil=>exact .nil
   | cons _ _=>simp at hl
  | cons c cs ih =>
   intro us hl hh
   cases us with
   | nil=>simp at hl
   | cons u us =>
    obtain ⟨c',t,e1,e2⟩:=hh 0 u rfl
    have:c=c':=Option.some.inj e1
    subst this
    exact .cons ⟨t,e2⟩ (ih us (by simpa using hl) fun j v hj=>hh (j+1) v (by simpa using hj))
 refine all _ _ (by rw [Array.length_toList,Array.length_toList];exact h.1.symm) fun j v hj=>?_
 obtain ⟨c,u,e1,e2⟩:=h.2 j v (by simpa using hj)
 exact ⟨c,u,by simpa using e1,e2⟩
inductive call_list_signs_r  (xs:List V)(H:Hp)(Q:VK):Prop
 | mk:∀ z,(xs=[.str z])→(z.length≤sizeLine)→(∀ p,H p=none→Q (.ref p) (upd H p (.lst (signs z))))→call_list_signs_r xs H Q
theorem call_list_signs (hc:X.calm=true):CallR X (.type "list") call_list_signs_r:=by
 intro pins s σ H xs us Q I r h
 obtain ⟨z,rfl,hz,q⟩:=h
 obtain ⟨u,rfl,t,rfl⟩:=vals1 r
 refine call_list_str (I.ok.hd hc) z t (fun h' tk acc' c' kp e hI=>?_) hz
 have hl:(signs z).length≤sizeLine:=by unfold signs;rw [List.length_map,Array.length_toList];exact hz
 exact ⟨.ref s.heap.objs.size,_,I.laid kp (Nat.le_refl _) (show ObjOk X.prog X.w _ h' _ (.lst (signs z)) from ⟨hl,acc'.toList,c',vals_signs hI,by simpa using e⟩),rfl,q _ (I.hok.fresh (Nat.le_refl _))⟩
theorem op_notIn_K {K:PySem.W.Frag}(hK:X.K=K):OpR X (compareOp .NotIn) (rIn K true):=by
 subst hK
 exact op_notIn_seq
end
end L2
namespace PySem
open Sem (wp)
section
variable {prog:Program} {w:World} {A:Around} {E:Value→Shared→Prop} {s:Shared} {z TI TO i1 i2:Addr} {x y:Str} {t u:Tok} {k c d:Nat} {a b:Value}
end
end PySem
namespace PySem
end PySem
namespace L2
open PySem PySem.Spec PyProof.Rows
section
variable {X:Cx}
end
end L2
namespace L2
open PySem PySem.Spec PyProof.Rows Wd
noncomputable def notStar:Expr→Bool
 | .Starred _ _=>false
 | _=>true
theorem star_of {e:Expr}(h:notStar e=true)(es:List Expr)(env:Env):starEach (e::es) env=(false,eval e env)::starEach es env:=by
 cases e <;> first | rfl | cases h
theorem pa_c {X:Cx}{e:Expr}{es:List Expr}{te:TE}{t:TA}(ha:PE X e te)(hr:PA X es t)(h:notStar e=true:=by rfl):PA X (e::es) (tCons te t):=pa_cons ha hr (star_of h _ _)
noncomputable def letters:List Str:=([0,1,2,3,4,5,6,7,8,9,10,11]:List L).map fun x=>toS [x]
end L2
namespace Kx
open PySem PySem.Spec PyProof.Rows L2 Wd
inductive spNum (vs:List V)(H:Hp)(Q:VK)(u3_:XK):Prop
 | mk:∀ (x:L),(vs=[tx [x]])→(Q (.int ((x.val % 6:Nat):Int)) H)→spNum vs H Q u3_
theorem asc (u:List L):(toS u).cps.all (· < 128)=true:=by
 rw [← Array.all_toList,toS_cps,List.all_eq_true]
 intro c hc
 obtain ⟨x,_,rfl⟩:=List.mem_map.mp hc
 exact decide_eq_true (cp_lt x)
theorem num_at:∀ x:L,Builtin.Str.occurrences ("abcdef":Str) (Txt.lower (toS [x])) 0 ("abcdef":Str).length 1=[x.val % 6]:=by
 have q:∀ x:L,Builtin.Str.occurrences ("abcdef":Str) (⟨(([x].map cp).map lo1).toArray⟩:Str) 0 ("abcdef":Str).length 1=[x.val % 6]:=by decide +kernel
 intro x
 rw [lower_toS]
 exact q x
end Kx
namespace L2
open PySem PySem.Spec PyProof.Rows Wd
section
variable {X:Cx}
inductive rNeNil (x:V)(y:V)(H:Hp)(Q:VK):Prop
 | mk:∀ a b xs,(x = .ref a)→(y = .ref b)→(H a=some (.lst xs))→(H b=some (.lst []))→(Q (.bl (!xs.isEmpty)) H)→rNeNil x y H Q
theorem op_ne_nil (hu:X.A.units+64 < cLine):OpR X (compareOp .NotEq) rNeNil:=by
 intro pins s σ H x y v u Q I rx ry h
 obtain ⟨a,b,xs,rfl,rfl,ha,hb,q⟩:=h
 cases rx
 cases ry
 obtain ⟨its,n,rv,ea,_⟩:=I.lst ha
 obtain ⟨its2,n2,rv2,eb,_⟩:=I.lst hb
 cases rv2
 have hla:s.heap.IsList a its.toArray:=⟨_,ea,rfl,_,rfl⟩
 have hlb:s.heap.IsList b ([]:List Value).toArray:=⟨_,eb,rfl,_,rfl⟩
 cases xs with
 | nil =>
  cases rv
  refine EqBoolInt.of_rcne (SeqAt.RcNeAt.lists (e:=fun _=>true) hla hlb rfl (by omega) (fun j hj=>by simp at hj)) ?_
  exact ⟨.bl false,H,I,rfl,q⟩
 | cons z r =>
  cases rv with
  | cons r1 r2 =>
   refine EqBoolInt.of_rcne (SeqAt.RcNeAt.lists_lengths hla hlb (by simp) (by omega)) ?_
   exact ⟨.bl true,H,I,rfl,q⟩
end
end L2
namespace Kx
open PySem PySem.Spec PyProof.Rows L2 Wd
theorem s12:toS [0,1,2,3,4,5,6,7,8,9,10,11]=("abcdefABCDEF":Str):=by decide +kernel
end Kx
namespace L2
open PySem PySem.Spec PyProof.Rows Wd
theorem comp_tup {K:PySem.W.Frag}{a:Addr}{xs:List V}{own:List Str}{cap:List Nat}{g:TG}{ti:TT}{te:TE}{σ:St}{H:Hp}{Q:VK}(Pv:Nat→List V→St→Hp→Prop)(h0:Pv 0 [] (stB own cap σ) H)(hz:∀ i ys σ H,i≤xs.length→Pv i ys σ H→ys.length≤i)(hn:xs.length≤sizeLine)
  (hl:∀ i ys σ H,Pv i ys σ H→SqT K H a xs)
  (hs:∀ i ys σ H x (N:List V→St→Hp→Prop),xs[i]? = some x→Pv i ys σ H→(∀ ys' σ' H'',Pv (i+1) ys' σ' H''→N ys' σ' H'')→g x σ H fun σ2 H2=>ti σ2 H2 fun b H3=>if b=true then te σ2 H3 fun y H4=>N (ys++[y]) σ2 H4 else N ys σ2 H3)
  (hd:∀ ys σ H D,Pv xs.length ys σ H→H D=none→Q (.ref D) (upd H D (.lst ys))) :
  CompW own cap g ti te Q σ (Itt K a) H:=by
 refine comp_by (J:=Itt K a) xs.length Pv h0 hz hn (fun i ys σ H hi p=>⟨xs,xs[i],hl i ys σ H p,List.getElem?_eq_getElem hi⟩) (fun ys σ H p=>⟨xs,hl _ ys σ H p,Nat.le_refl _⟩) ?_ hd
 rintro i ys σ H x H' N hi p ⟨rfl,hx⟩ hN
 exact hs i ys σ _ x N (hx xs (hl i ys σ _ p)) p hN
end L2
namespace L2
open PySem PySem.Spec PyProof.Rows Wd
end L2
namespace L2
open PySem PySem.Spec PyProof.Rows Wd
theorem cut_mid (x z:L)(mid:List L):cutL (x::(mid++[z])) (some 1) (some (((x::(mid++[z])).length:Int) - 1))=mid:=by
 have e:(((x::(mid++[z])).length:Int) - 1)=((mid.length+1:Nat):Int):=by simp only [List.length_cons,List.length_append,List.length_nil];omega
 rw [e]
 unfold cutL
 have h1:=HT.sIx_nat (x::(mid++[z])).length 0 1
 have h2:=HT.sIx_nat (x::(mid++[z])).length (x::(mid++[z])).length (mid.length+1)
 have l:(x::(mid++[z])).length=mid.length+2:=by simp
 rw [show ((1:Nat):Int)=1 from rfl] at h1
 rw [h1,h2,l]
 rw [show min 1 (mid.length+2)=1 by omega,show min (mid.length+1) (mid.length+2)=mid.length+1 by omega]
 simp
end L2
namespace L2
open PySem PySem.Spec PyProof.Rows Wd
end L2
namespace L2
open PySem PySem.Spec PyProof.Rows Wd
end L2
namespace L2
open PySem PySem.Spec PyProof.Rows
theorem ps_setC {X:Cx}{i:Nat}{y:Str}{py spos:Pos}{elt iter tg:Expr}{ifs:List Expr}{scope:Scope}{pos:Pos}{NB own:List Str}{cap:List Nat}{wi:TI}{g:TG}{ti:TT}{te:TE}(hN:X.N.Nodup)(hi0:X.N[i]? = some y)(hx:Loc X.env.scope y)(B:Blk X scope NB own cap)(hc:X.calm=true)(hi:PI X tg iter wi)
  (hg:∀ C fp s₀ H₀,PG (cxB X NB own scope C fp s₀ H₀) tg g) (ht:∀ C fp s₀ H₀,PIf (cxB X NB own scope C fp s₀ H₀) ifs ti) (he:∀ C fp s₀ H₀,PE (cxB X NB own scope C fp s₀ H₀) elt te)
  (hs:∀ x,foldedSetIterable iter X.env x=pure x:=by intro _;rfl) (hsw:swapsWith (.ListComp elt [⟨tg,iter,ifs,0⟩] scope pos) (some (.Name y py)) spos.line X.env=pure true:=by rfl) (hf:X.fn y=true ∨ X.env.scope.names.lookup y=some .local:=by first | exact .inl rfl | exact .inr rfl | assumption):PS X (.Assign [.Name y py] (.ListComp elt [⟨tg,iter,ifs,0⟩] scope pos) spos) (tAsg (tComp own cap wi g ti te) (gName i)):=by
 intro pins s σ H DD I0 h
 rw [exec_Assign_Name_used _ _ _ _ hsw]
 refine wpAny_bind (wpAny_standAt (wpAny_bind ?_))
 show wpAny _ X.A (do let _ ← comprehension (.ListComp elt [⟨tg,iter,ifs,0⟩] scope pos) scope X.env _ (newList []) false (eval iter X.env) (some (assign (.Name y py) X.env))) _ _ s
 refine wpAny_bind (wpAny_mono (comp_gen (use:=some (assign (.Name y py) X.env)) (QQ:=fun _ s'=>SP X pins DD .next s') (pos:=pos) B hc hi hg ht he hs I0 h fun fp C s2 s4 H2 H3 σ3 its ys k I f2 hCle hDC I5 hn3 hD4 rv hz q=>?_) (fun _ s' hq=>wpAny_pure (wpAny_pure hq)) fun _ _ e=>e)
 obtain ⟨mC,hnC,_⟩:=I5.loc
 have I6:Inv X pins σ (upd H3 s2.heap.objs.size (.lst ys)) s4:=(B.done (h'':=s4.heap) I f2 hCle (Nat.le_refl _) hDC I5 hn3 hD4 rv hz ⟨rfl,fun _ _=>rfl⟩).up I5.low
 obtain ⟨oC,es,ep,hoC,hdC,rC⟩:=hnC
 have hCn:(upd H3 s2.heap.objs.size (.lst ys)) C=none:=by rw [upd_ne hDC.symm];exact I5.free
 have nL:C≠X.env.locals:=fun z=>absurd I.lt (by rw [← z];exact Nat.not_lt.mpr hCle)
 have I7:Inv X (pins++[(C,oC)]) σ (upd H3 s2.heap.objs.size (.lst ys)) s4:=I6.pins_of fun p hp=>by
  rcases List.mem_append.mp hp with z | z
  ·exact I6.pin p (List.mem_append_right _ z)
  ·have ep:=List.mem_singleton.mp z
   subst ep
   exact ⟨hoC,hCn,nL,I.nofs hCle,fun v z=>by rw [hdC] at z;cases z⟩
 refine thn (pg_name (pos:=py) hN hi0 hx hf (pins++[(C,oC)]) s4 σ _ (.ref s2.heap.objs.size) (.ref s2.heap.objs.size) (fun σ' H'=>DD.nx σ' H'∧H'=upd H3 s2.heap.objs.size (.lst ys)) I7 rfl ⟨q,rfl⟩) fun _ s5 zq2=>?_
 obtain ⟨σ5,H5,I8,q5,e5⟩:=zq2
 subst e5
 have pC:=(I8.pin (C,oC) (List.mem_append_right _ (List.mem_append_right _ (List.mem_singleton.mpr rfl)))).1
 refine ⟨mC,⟨oC,es,ep,pC,hdC,rC⟩,fun h'' sb=>⟨σ5,_,?_,q5⟩⟩
 have I9:Inv X pins σ5 (upd H3 s2.heap.objs.size (.lst ys)) s5:=I8.pins_of fun p hp=>I8.pin p (List.mem_append_right _ (List.mem_append_left _ hp))
 refine I9.turned (t':=s5.toks) (it:=C) (fun b o hb e=>(sb.2 b hb).trans e) hCn nL (.inr (Nat.le_trans I.sz hCle)) (fun x c e z=>?_) fun p hp z=>?_
 ·obtain ⟨v,o,ho,_⟩:=I.cell x c e
  exact absurd (Heap.lt_size ho) (by rw [z];exact Nat.not_lt.mpr hCle)
 ·exact absurd (Heap.lt_size (I.pin p hp).1) (by rw [z];exact Nat.not_lt.mpr hCle)
end L2
namespace L2
open PySem PySem.Spec PyProof.Rows Wd
end L2
namespace PySem
open Sem (wp)
open AutoSeq1 (wpAny_loadPart')
section
variable {prog:Program} {w:World} {A:Around} {E:Value→Shared→Prop} {s:Shared}
end
end PySem
namespace L2
open PySem PySem.Spec PyProof.Rows Wd
section
variable {X:Cx}
end
end L2
namespace PySem
open Sem (wp)
section
variable {prog:Program} {w:World} {A:Around} {E:Value→Shared→Prop} {s:Shared} {z TI TO i1 i2:Addr} {k n1 n2:Nat} {a b:Value} {fp1 fp2:List Addr} {P1 P2:Nat→Value→Prop} {S1 S2:Nat→Heap→Prop}
end
end PySem
namespace PySem
end PySem
namespace L2
open PySem PySem.Spec PyProof.Rows Wd
section
variable {X:Cx}
end
end L2
namespace L2
open PySem PySem.Spec PyProof.Rows Wd
section
variable {X:Cx}
end
end L2
namespace Kx
open PySem PySem.Spec PyProof.Rows L2 Wd
noncomputable def jn (yl:List Nat):List (List Nat)→List Nat
 | []=>[]
 | [p]=>p
 | p::q::r=>p++yl++jn yl (q::r)
noncomputable def Gd (c:Nat):Prop:=(48≤c∧c≤57) ∨ 65≤c
end Kx
namespace L2
open PySem PySem.Spec PyProof.Rows Wd
section
variable {X:Cx} {tg:Expr}
end
end L2
namespace Kx
open PySem PySem.Spec PyProof.Rows L2 Wd
noncomputable def dV:V→PyData
 | .int i=>.int i
 | .str z=>.str z
 | _=>.none
end Kx
namespace HT
open PySem PySem.Spec PyProof.Rows
section
variable {prog:Program} {w:World} {A:Around} {E:Value→Shared→Prop} {s:Shared}
end
end HT
namespace L2
open PySem PySem.Spec PyProof.Rows Wd
end L2
namespace PySem
open Sem (wp)
section
variable {prog:Program} {w:World} {A:Around} {E:Value→Shared→Prop} {s:Shared}
noncomputable def ddp (val:Nat→Str):Nat→List Str
 | 0=>[]
 | i+1=>if val i∈ddp val i then ddp val i else ddp val i++[val i]
theorem ddp_len (val:Nat→Str):∀ i,(ddp val i).length≤i
 | 0=>Nat.le_refl _
 | i+1=>by
  have ih:=ddp_len val i
  unfold ddp
  split
  ·omega
  ·rw [List.length_append,List.length_singleton];omega
section
variable {R:Result→Shared→Prop} {I:Addr} {fp wr:List Addr} {G:Array GenState→Array GenState→Prop} {n:Nat} {P:Nat→Value→Prop} {St:Nat→Shared→Prop}
end
end
end PySem
namespace PySem
open Sem (wp)
section
variable {prog:Program} {w:World} {A:Around} {E:Value→Shared→Prop} {s:Shared}
noncomputable abbrev sob (led:Bool):Obj:={ cls:=.type "set",dict:=none,data:=.set #[] 0 (.fresh 0 0 led) }
end
end PySem
namespace L2
open PySem PySem.Spec PyProof.Rows
theorem upd_idle {h:Heap}{T:Addr}{o:Obj}{f:Obj→Obj}(ho:h.get? T=some o)(hf:f o=o)(b:Addr):(h.update T f).get? b=h.get? b:=by
 by_cases e:T=b
 ·subst e
  have:=Heap.get?_update_self f ho (by rw [hf];exact (Heap.get?_some_iff.mp ho).2)
  rw [this,hf,ho]
 ·exact Heap.get?_update_other _ _ e
theorem map_idle {oT:Obj}{ts:Array Value}{i:Nat}{v:Value}(hd:oT.data = .fields ts)(h3:ts[i]? = some v):Obj.mapFields (·.setIfInBounds i v) oT=oT:=by
 obtain ⟨c,d,dt,sl⟩:=oT
 simp only at hd
 subst hd
 obtain ⟨hi,hv⟩:=Array.getElem?_eq_some_iff.mp h3
 have:ts.setIfInBounds i v=ts:=by
  apply Array.ext
  ·simp
  ·intro j h1 h2
   by_cases hj:i=j
   ·subst hj;simp [hv]
   ·rw [Array.getElem_setIfInBounds_ne _ hj]
 simp only [Obj.mapFields,this]
noncomputable def FltT (T:Addr)(h:Heap)(a:Addr)(fl:Value):Prop :=
 ∃ oe vs oT ts,h.get? a=some oe∧oe.data = .fields vs∧vs[1]? = some (.ref T)∧T≠a∧h.get? T=some oT∧oT.data = .fields ts∧ts[3]? = some fl
noncomputable def Flt (h:Heap)(a:Addr)(fl:Value):Prop:=∃ T,FltT T h a fl
structure Nts (fs:List Addr) (a:Addr) (fl:Value) (h h':Heap):Prop where
 keep:∀ b o,b∉fs→b≠a→h.get? b=some o→h'.get? b=some o
 slot:∀ b o,b∈fs→h.get? b=some o→∃ sl,h'.get? b=some { o with slots:=sl }
 exc:∀ oe vs,h.get? a=some oe→oe.data = .fields vs→∃ oe' vs',h'.get? a=some oe'∧oe'.cls=oe.cls∧oe'.dict=oe.dict∧oe'.data = .fields vs'∧vs'.size=vs.size∧vs'[2]? = vs[2]?
 fly:∃ T,h.objs.size≤T∧FltT T h' a fl
section
variable {M:Model} {A:Around} {E:Value→Shared→Prop} {s:Shared}
set_option maxHeartbeats 1600000 in
theorem entryX {base:Heap}{env:Env}{outer:List Env}{L e:Addr}{oe:Obj}{vs:Array Value}{head:Value}{hadNext:Bool}{Q:Unit→Shared→Prop}
  (hfr:A.frames=some (env::outer)) (hl:s.heap.FunFrames base (env::outer)) (hf:env.frame=some L)
  (he:s.heap.get? e=some oe) (hd:oe.data = .fields vs) (hsz:1 < vs.size)
  (h:∀ h',Nts (frs (env::outer)) e (rawInt L) s.heap h'→Q () { s with heap:=h' }) :
  wpAny M A (do let a ← frameOf env;let pl ← entryPlaceOf L hadNext;let b ← EntryCells.newEntry head a .none (rawInt L) .none pl;setField (.ref e) 1 b) Q E s:=by
 have hene:e∉frs (env::outer):=fun hm=>by
  obtain ⟨_,o,ho,hnf⟩:=hl.mem hm
  rw [he] at ho;injection ho with ho;subst ho;exact hnf vs hd
 refine wpAny_bind (wpAny_frameOf_fun hfr hl hf fun h₁ hs₁=>?_)
 refine wpAny_bind (wpAny_entryPlaceOf fun pl hpl=>?_)
 unfold EntryCells.newEntry newFields
 refine wpAny_bind (wpAny_newObj_type ?_ (hpl.sizeOk5 _ _ _ _ _))
 generalize hN:({ cls:=.type "traceback",dict:=none,data:=.fields ([head,.ref L,.none,rawInt L,.none]++(if pl.isEmpty then List.replicate 6 Value.none else pl)).toArray }:Obj)=oN
 have hNd:oN.data = .fields ([head,.ref L,.none,rawInt L,.none]++(if pl.isEmpty then List.replicate 6 Value.none else pl)).toArray:=by rw [← hN]
 have hNf:oN.isFreed=false:=by rw [← hN];rfl
 have he₁:h₁.get? e=some oe:=(hs₁.2.1 e hene).trans he
 have he₂:=Heap.get?_push_of_some (h:=h₁) oN he₁
 refine wpAny_setField he₂ hd hsz (h _ ?_)
 have hTe:h₁.objs.size≠e:=Nat.ne_of_gt (Heap.lt_size he₁)
 have hd₃:=Obj.data_mapFields hd (·.setIfInBounds 1 (Value.ref h₁.objs.size))
 have he₃:=Heap.get?_update_self (Obj.mapFields (·.setIfInBounds 1 (Value.ref h₁.objs.size))) he₂ (Obj.isFreed_of_fields hd₃)
 have hT₃:=(Heap.get?_update_other (h₁.push oN) (Obj.mapFields (·.setIfInBounds 1 (Value.ref h₁.objs.size))) (Ne.symm hTe)).trans (Heap.get?_push_size h₁ hNf)
 have keep:∀ b o,b≠e→h₁.get? b=some o→((h₁.push oN).update e (Obj.mapFields (·.setIfInBounds 1 (Value.ref h₁.objs.size)))).get? b=some o:=fun b o hbe hb=>by
  rw [Heap.get?_update_other _ _ (Ne.symm hbe)]
  exact Heap.get?_push_of_some _ hb
 refine ⟨fun b o hb hbe q=>keep b o hbe ((hs₁.2.1 b hb).trans q),fun b o hb q=>?_,fun oe' vs' q qd=>?_,?_⟩
 ·obtain ⟨sl,q'⟩:=hs₁.2.2 b o q
  exact ⟨sl,keep b _ (fun z=>hene (z ▸ hb)) q'⟩
 ·rw [he] at q;cases q
  rw [hd] at qd;cases qd
  refine ⟨_,_,he₃,Obj.cls_mapFields _ _,?_,hd₃,by simp,Array.getElem?_setIfInBounds_ne (by decide)⟩
  obtain ⟨c,d,dt,sl⟩:=oe
  cases dt <;> rfl
 ·refine ⟨h₁.objs.size,Nat.le_of_eq hs₁.1.symm,_,_,oN,_,he₃,hd₃,by simp [hsz],hTe,hT₃,hNd,?_⟩
  first | (simp;done) | (rcases hpl with rfl | ⟨_,_,_,_,_,_,_,rfl⟩ <;> simp)
theorem noteX {base:Heap}{env:Env}{outer:List Env}{L e:Addr}{oe:Obj}{vs:Array Value}{Q:Unit→Shared→Prop}
  (hfr:A.frames=some (env::outer)) (hl:s.heap.FunFrames base (env::outer)) (hf:env.frame=some L)
  (he:s.heap.get? e=some oe) (hd:oe.data = .fields vs) (h1:vs[1]? = some .none ∨ Flt s.heap e .none)
  (h:∀ h',Nts (frs (env::outer)) e (rawInt L) s.heap h'→Q () { s with heap:=h' }):wpAny M A (noteFrame (.ref e) env) Q E s:=by
 unfold noteFrame
 simp only [hf]
 rcases h1 with h1 | ⟨T,oe',vs',oT,ts,he',hd',h1,hTe,hT,hdT,h3⟩
 ·refine wpAny_bind (wpAny_field he hd h1 ?_)
  rw [if_neg (by decide)]
  exact entryX hfr hl hf he hd (Array.getElem?_eq_some_iff.mp h1).1 h
 ·rw [he] at he';cases he'
  rw [hd] at hd';cases hd'
  refine wpAny_bind (wpAny_field he hd h1 ?_)
  rw [if_pos (show (Value.ref T != Value.none)=true from by simp)]
  refine wpAny_bind (wpAny_field hT hdT h3 ?_)
  rw [if_neg (show ¬ ((Value.none == rawInt L)=true) from by simp [rawInt])]
  refine wpAny_bind (wpAny_setField hT hdT (Array.getElem?_eq_some_iff.mp h3).1 ?_)
  have idle:=upd_idle (f:=Obj.mapFields (·.setIfInBounds 3 Value.none)) hT (map_idle hdT h3)
  refine entryX hfr (hl.of_keeps fun b o hb _=>⟨o,(idle b).trans hb,rfl⟩) hf ((idle e).trans he) hd (Array.getElem?_eq_some_iff.mp h1).1 fun h' N=>h h' ?_
  obtain ⟨k1,k2,k3,k4⟩:=N
  refine ⟨fun b o hb hbe q=>k1 b o hb hbe ((idle b).trans q),fun b o hb q=>k2 b o hb ((idle b).trans q),fun o v q d=>k3 o v ((idle e).trans q) d,?_⟩
  obtain ⟨T',b1,b2⟩:=k4
  exact ⟨T',Nat.le_trans (Nat.le_of_eq (Heap.size_after_update ..).symm) b1,b2⟩
theorem flightX {T e:Addr}{fl:Value}{Q:Unit→Shared→Prop}(hF:FltT T s.heap e fl)
  (h:∀ h',FltT T h' e .none→(∀ b o,b≠T→s.heap.get? b=some o→h'.get? b=some o)→(∀ b,(∃ o,s.heap.get? b=some o)→∃ o,h'.get? b=some o)→(fl = .none→∀ b,h'.get? b=s.heap.get? b)→Q () { s with heap:=h' }) :
  wpAny M A (setFlight (.ref e) none) Q E s:=by
 obtain ⟨oe,vs,oT,ts,he,hd,h1,hTe,hT,hdT,h3⟩:=hF
 have hsz3:3 < ts.size:=(Array.getElem?_eq_some_iff.mp h3).1
 have other:∀ b,b≠T→(s.heap.update T (Obj.mapFields (·.setIfInBounds 3 ((none:Option Addr).elim Value.none fun f=>rawInt f)))).get? b=s.heap.get? b :=
  fun b hb=>Heap.get?_update_other _ _ (Ne.symm hb)
 have hT':=Heap.get?_update_self (Obj.mapFields (·.setIfInBounds 3 ((none:Option Addr).elim Value.none fun f=>rawInt f))) hT (Obj.isFreed_of_fields (Obj.data_mapFields hdT _))
 unfold setFlight
 refine wpAny_bind (wpAny_field he hd h1 ?_)
 rw [if_pos (show (Value.ref T != Value.none)=true from by simp)]
 refine wpAny_setField hT hdT hsz3 (h _ ⟨oe,vs,_,_,(other e (Ne.symm hTe)).trans he,hd,h1,hTe,hT',Obj.data_mapFields hdT _,by simp [hsz3]⟩ (fun b o hb q=>(other b hb).trans q) (fun b ⟨o,q⟩=>?_) fun z b=>?_)
 ·by_cases z:b=T
  ·subst z;exact ⟨_,hT'⟩
  ·exact ⟨o,(other b z).trans q⟩
 ·subst z
  exact upd_idle hT (map_idle hdT h3) b
theorem leaveX {base:Heap}{env:Env}{outer:List Env}{L e:Addr}{oe:Obj}{vs:Array Value}{Q:Unit→Shared→Prop}
  (hfr:A.frames=some (env::outer)) (hl:s.heap.FunFrames base (env::outer)) (hf:env.frame=some L)
  (he:s.heap.get? e=some oe) (hd:oe.data = .fields vs) (h1:vs[1]? = some .none ∨ Flt s.heap e .none)
  (h:∀ h',Nts (frs (env::outer)) e .none s.heap h'→Q () { s with heap:=h' }):wpAny M A (leaving env (.ref e)) Q E s:=by
 unfold leaving
 refine wpAny_bind (noteX hfr hl hf he hd h1 fun h₁ N=>?_)
 obtain ⟨k1,k2,k3,T,hT,k4⟩:=N
 refine flightX (s:={ s with heap:=h₁ }) k4 fun h₂ f1 f2 f3 _=>h h₂ ⟨fun b o hb hbe q=>f2 b o (fun z=>?_) (k1 b o hb hbe q),fun b o hb q=>?_,fun oe vs q qd=>?_,T,hT,f1⟩
 ·exact absurd (Nat.lt_of_lt_of_le (Heap.lt_size q) (z ▸ hT)) (Nat.lt_irrefl _)
 ·obtain ⟨sl,q'⟩:=k2 b o hb q
  exact ⟨sl,f2 b _ (fun z=>absurd (Nat.lt_of_lt_of_le (Heap.lt_size q) (z ▸ hT)) (Nat.lt_irrefl _)) q'⟩
 ·obtain ⟨oe',vs',q1,q2⟩:=k3 oe vs q qd
  exact ⟨oe',vs',f2 e _ (fun z=>absurd (Nat.lt_of_lt_of_le (Heap.lt_size q) (z ▸ hT)) (Nat.lt_irrefl _)) q1,q2⟩
end
end L2
namespace L2
open PySem PySem.Spec PyProof.Rows
noncomputable def exo (a C:Addr)(d:Option Addr)(b c:Bool):Heap→Prop:=fun h =>
 ∃ oe vs,h.get? a=some oe∧oe.cls = .ref C∧oe.dict=d∧oe.data = .fields vs∧vs.size=6∧(b=true→vs[1]? = some .none)∧(c=true→vs[2]? = some .none)
noncomputable abbrev Exo (a C:Addr)(d:Option Addr)(b:Bool)(c:Bool:=false):HO:=.ext (exo a C d b c)
theorem exo_stay {a C:Addr}{d:Option Addr}{b c:Bool}{h1 h2:Heap}(x:exo a C d b c h1)(k:∀ o,h1.get? a=some o→h2.get? a=some o):exo a C d b c h2 :=
 let ⟨oe,vs,q,r⟩:=x;⟨oe,vs,k _ q,r⟩
theorem exo_ok {P:Program}{w:World}{H:Hp}{h:Heap}{a C:Addr}{d:Option Addr}{b c:Bool}(x:exo a C d b c h):ObjOk P w H h a (Exo a C d b c) :=
 ⟨x,let ⟨oe,_,q,_⟩:=x;⟨oe,q⟩,fun _ _ y k=>exo_stay y k⟩
theorem upd_idem {H:Hp}{a:Addr}{o:HO}(h:H a=some o):upd H a o=H:=by
 funext b
 by_cases e:b=a
 ·subst e;rw [upd_same,h]
 ·rw [upd_ne e]
noncomputable def CXe (P:Program)(w:World):CXT:=fun outer H s E e s' =>
 ∃ a C d c H',e = .ref a∧s'.os=s.os∧AllBare s'.gens∧Un (frs outer) [] H H' s.heap s'.heap∧HOk P w H' s'.heap∧H' a=some (Exo a C d false c)∧Flt s'.heap a .none∧E (.ref a) none H'
section
variable {P:Program} {w:World} {H:Hp} {h h':Heap} {fs:List Addr} {e C:Addr} {d:Option Addr} {b cx:Bool} {fl:Value}
theorem nts_un (ok:HOk P w H h)(he:H e=some (Exo e C d b cx))(hfs:∀ c∈fs,H c=none)(N:Nts fs e fl h h') :
  Un fs [] H (upd H e (Exo e C d false cx)) h h'∧HOk P w (upd H e (Exo e C d false cx)) h':=by
 obtain ⟨⟨oe,vs,g1,g2,g3,g4,g5,g6,g7⟩,_,_⟩:=ok e _ he
 obtain ⟨oe',vs',n1,n2,n3,n4,n5,n6⟩:=N.exc oe vs g1 g4
 have hx:exo e C d false cx h':=⟨oe',vs',n1,n2.trans g2,n3.trans g3,n4,n5.trans g5,(fun z=>by cases z),fun z=>n6.trans (g7 z)⟩
 have ne:∀ c,H c=none→c≠e:=fun c n z=>by rw [z,he] at n;cases n
 have ne':∀ c u,H c=some u→u≠Exo e C d b cx→c≠e:=fun c u q n z=>by rw [z,he] at q;cases q;exact n rfl
 refine ⟨⟨fun c o q n hc _=>N.keep c o hc (ne c n) q,fun c o q n hc _=>N.slot c o hc q,fun c o q n _=>by rw [upd_ne (ne c n)];exact n,fun c o q _=>?_,
  fun c xs q=>by rw [upd_ne (ne' c _ q (by intro z;cases z))];exact q,fun c o u q=>by rw [upd_ne (ne' c _ q (by intro z;cases z))];exact q,fun c ps q=>⟨#[],by rw [upd_ne (ne' c _ q (by intro z;cases z)),q];simp⟩⟩,fun c u q=>?_⟩
 ·by_cases z:c=e
  ·subst z;exact ⟨_,n1⟩
  ·by_cases y:c∈fs
   ·obtain ⟨sl,r⟩:=N.slot c o y q
    exact ⟨_,r⟩
   ·exact ⟨o,N.keep c o y z q⟩
 ·by_cases z:c=e
  ·subst z;rw [upd_same] at q;cases q;exact exo_ok hx
  ·rw [upd_ne z] at q
   refine (ok c u q).stay (fun x v hx q'=>?_) (fun x hx=>by rw [upd_ne (ne' x _ hx (by intro z;cases z))];exact hx) fun x xs hx=>by rw [upd_ne (ne' x _ hx (by intro z;cases z))];exact hx
   have nx:x≠e:=by
    rcases hx with rfl | hx
    ·exact z
    ·exact ne' x _ hx (by intro z;cases z)
   refine N.keep x v (fun y=>?_) nx q'
   have:=hfs x y
   rcases hx with rfl | hx
   ·rw [this] at q;cases q
   ·rw [this] at hx;cases hx
end
noncomputable def Raises (X:Cx)(E:XK):Prop:=∀ (pins:List (Addr × Obj)) (σ:St) (H:Hp) (s:Shared) (a C:Addr) (d:Option Addr) (c:Bool),InvW X pins σ H s→H a=some (Exo a C d true c)→E (.ref a) none (upd H a (Exo a C d false c))→X.xe (.ref a) s
section
variable {P:Program} {w:World} {K:PySem.W.Frag} {mg:Str→Option Value} {base:Heap} {N:List Str} {qual:Str} {scope:Scope} {f:Addr} {cd:Value} {A:Around} {outer:List Env} {s:Shared} {H:Hp} {E:XK}
theorem leave_def {pins:List (Addr × Obj)}{σ:St}{H1:Hp}{s1:Shared}{a C:Addr}{d:Option Addr}{b c:Bool}(I:InvW (cxOf (CXe P w) P w K mg base N qual scope f cd A outer s H E) pins σ H1 s1)
  (ha:H1 a=some (Exo a C d b c)) (hf:b=true ∨ Flt s1.heap a .none) (hE:E (.ref a) none (upd H1 a (Exo a C d false c))):(cxOf (CXe P w) P w K mg base N qual scope f cd A outer s H E).xe (.ref a) s1:=by
 obtain ⟨⟨oe,vs,g1,g2,g3,g4,g5,g6,_⟩,_,_⟩:=I.hok a _ ha
 refine leaveX (base:=base) (outer:=outer) I.ok.frames I.stack rfl g1 g4 (hf.imp (fun z=>g6 z) id) fun h' Nt=>?_
 obtain ⟨un,hok⟩:=nts_un I.hok ha I.stkFree Nt
 have J:=I.call' (s':={ s1 with heap:=h' }) rfl un hok I.bare (fun b z=>absurd z (by simp))
 obtain ⟨T,_,hT⟩:=Nt.fly
 exact ⟨a,C,d,c,_,rfl,J.os,J.bare,J.base,J.hok,upd_same ..,⟨T,hT⟩,hE⟩
theorem raises_def:Raises (cxOf (CXe P w) P w K mg base N qual scope f cd A outer s H E) E:=fun pins σ H1 s1 a C d c I ha hE=>leave_def I ha (.inl rfl) hE
theorem passes_def:Passes (CXe P w) (cxOf (CXe P w) P w K mg base N qual scope f cd A outer s H E) E:=by
 intro pins σ H1 s1 e s' I ⟨a,C,d,c,H',he,os,bare,un,hok,ha,hf,hE⟩
 subst he
 have J:=I.call' os un hok bare (fun b z=>absurd z (by simp))
 exact leave_def J ha (.inr hf) (by rw [upd_idem ha];exact hE)
end
end L2
namespace L2
open PySem PySem.Spec PyProof.Rows
noncomputable abbrev bmV:List Value:=[.type "ValueError",.type "Exception",.type "BaseException",.type "object"]
structure XCl (K:PySem.W.Frag) (C:Addr) (bm:List Value):Prop where
 obj:∃ dd cd k0 k1 k2 k3 k5,K.lookup C=some ⟨.type "type",dd,.cls cd,#[k0,k1,k2,k3,some (.builtin "ValueError.__new__"),k5]⟩∧cd.mro = .ref C::bm∧cd.hasDel=false∧cd.hasDict=true
 tl:PySem.W.tailIn K bmV bm=true
 kp:PySem.W.keepIn K (.ref C)=true
noncomputable abbrev xtup (us:List Value):Obj:={ cls:=.type "tuple",data:=.seq us.toArray }
noncomputable abbrev xnew (C t:Addr):Obj:={ cls:=.ref C,data:=.fields #[.ref t,.none,.none,.none,.bool false,.none] }
theorem XCl.at {K:PySem.W.Frag}{C:Addr}{bm:List Value}{h:Heap}(x:XCl K C bm)(X:K.In h):OwnTail h bmV bm∧∃ nm q N bs sn sub ab col dd k0 k1 k2 k3 k5,h.get? C=some (excClassObj nm q C N bs bm true sn sub ab col dd k0 k1 k2 k3 k5 "ValueError.__new__"):=by
 refine ⟨PySem.W.tail_of_in X x.tl,?_⟩
 obtain ⟨dd,cd,k0,k1,k2,k3,k5,hl,hm,hd,hh⟩:=x.obj
 obtain ⟨nm,bs,mro,ns,qn,hdc,sn,sub,ab,col,del⟩:=cd
 dsimp only at hm hd hh
 subst hm hd hh
 exact ⟨nm,qn,ns,bs,sn,sub,ab,col,dd,k0,k1,k2,k3,k5,X _ _ hl⟩
section
variable {prog:Program} {w:World} {A:Around} {E:Value→Shared→Prop} {h:Heap} {g:Array GenState} {d:Drawn} {t:Nat} {os:OsState} {K:PySem.W.Frag} {C fI:Addr} {bm:List Value}
set_option maxHeartbeats 1600000 in
theorem type_call_X {rest:List Value}{Q:Fin→Shared→Prop}(X:K.In h)(x:XCl K C bm)(hi:PySem.W.findIn K (.ref C) "__init__" = some (some (.ref fI)))(hf:PySem.W.isFn K (.ref fI)=true)
  (hq:wpAny (model prog w) A (call (.ref fI) (.ref (h.objs.size+1)::rest)) (fun r s'=>r = .none∧Q (.done (.ret (.ref (h.objs.size+1)))) s') E ⟨(h.push (xtup rest)).push (xnew C h.objs.size),g,d,t,os⟩) (hrest:rest.length≤sizeLine) :
  wpAny (model prog w) A (Builtin.«type.__call__» ⟨.ref C::rest,[]⟩) Q E ⟨h,g,d,t,os⟩:=by
 obtain ⟨T,nm,q,N,bs,sn,sub,ab,col,dd,k0,k1,k2,k3,k5,hC⟩:=x.at X
 have F:=PySem.F.excBase_ValueError
 repeat (first | with_reducible refine wpAny_loadPart_at hC ?_ | with_reducible refine wpAny_madeBy_exc hC ?_ | wp_step)
 refine codeAny_call_builtin_code (Code.quiet_builtin _ F.quiet) (wpAny_check_new_subT F T hC ?_)
 refine codeAny_exc_new_subT F T hC ?_ hrest
 show wpAny _ _ _ _ _ _
 have k1:∀ b o,h.get? b=some o→((h.push (xtup rest)).push (xnew C h.objs.size)).get? b=some o:=fun b o e=>Heap.get?_push_of_some _ (Heap.get?_push_of_some _ e)
 have hC₁:=k1 _ _ hC
 have X₁:K.In ((h.push (xtup rest)).push (xnew C h.objs.size)):=fun b o e=>k1 b o (X b o e)
 have hget:((h.push (xtup rest)).push (xnew C h.objs.size)).get? (h.objs.size+1)=some (xnew C h.objs.size):=by heap_get
 have hcC:(Value.ref C::bm).contains (.ref C)=true:=by simp
 unfold isInstance
 repeat (first | with_reducible refine wpAny_loadPart_at hget ?_ | (with_reducible refine wpAny_isSubtype_exc hC₁ ?_;rw [hcC]) | wp_step)
 show wpAny _ _ (typeLookup (.ref C) _) _ _ _
 refine (PySem.W.looks_findIn (M:=model prog w) X₁ hi).at ?_
 refine wpAny_holding (wpAny_bind ?_)
 unfold bindSpecial
 have L:=PySem.W.looks_typeIn (M:=model prog w) X₁ (beq_iff_eq.mp hf)
 refine wpAny_bind (L.at ?_)
 rw [if_pos (by decide)]
 refine wpAny_pure (wpAny_bind (wpAny_mono hq (fun r s' hr=>?_) fun _ _ x=>x))
 obtain ⟨rfl,hQ⟩:=hr
 wp_walk
 exact hQ
theorem call_X {rest:List Value}{Q:Value→Shared→Prop}(X:K.In h)(x:XCl K C bm)(hi:PySem.W.findIn K (.ref C) "__init__" = some (some (.ref fI)))(hf:PySem.W.isFn K (.ref fI)=true)
  (hq:wpAny (model prog w) (A.under (.builtin "type.__call__" ⟨.ref C::rest,[]⟩)) (call (.ref fI) (.ref (h.objs.size+1)::rest)) (fun r s'=>r = .none∧Q (.ref (h.objs.size+1)) s') E ⟨(h.push (xtup rest)).push (xnew C h.objs.size),g,d,t,os⟩) (hrest:rest.length≤sizeLine) :
  wpAny (model prog w) A (call (.ref C) rest) Q E ⟨h,g,d,t,os⟩:=by
 obtain ⟨T,nm,q,N,bs,sn,sub,ab,col,dd,k0,k1,k2,k3,k5,hC⟩:=x.at X
 have f1:=tc_lookup
 have f2:=tc_bind (.ref C)
 have hT:(⟨h,g,d,t,os⟩:Shared).TypeIs (.ref C) "type":=⟨_,hC,rfl⟩
 refine wpAny_call (codeAny_of_tree ?_)
 show wpAny _ _ (callAny (.ref C) _) _ _ _
 repeat (any_goals (first | assumption | with_reducible refine wpAny_loadPart_at hC ?_ | wp_step))
 refine ⟨rfl,?_⟩
 exact codeAny_call_builtin_at (Code.quiet_builtin _ (by decide +kernel)) entry_typeCall (wpAny_check_type_call_sub hC (type_call_X X x hi hf hq hrest))
end
section
variable {X:Cx} {k:Nat} {f C:Addr} {fd:FuncData} {ps:List Str} {sp:Sp} {x:Str} {p pos:Pos} {e:Expr} {es:List Expr} {t:TA} {bm:List Value}
theorem Inv.madeX {pins:List (Addr × Obj)}{σ:St}{H:Hp}{s:Shared}(I:Inv X pins σ H s)(us:List Value):Inv X pins σ (upd H (s.heap.objs.size+1) (Exo (s.heap.objs.size+1) C none true true)) { s with heap:=(s.heap.push (xtup us)).push (xnew C s.heap.objs.size) }:=by
 have I1:=I.kept (h':=s.heap.push (xtup us)) (t':=s.toks) (fun b u q=>Heap.get?_push_of_some _ q)
 refine InvW.up (X:=X) (I1.laid (a:=s.heap.objs.size+1) (t':=s.toks) (fun b u q=>Heap.get?_push_of_some _ q) (Nat.le_of_eq (Heap.size_push _ _)) (exo_ok ⟨xnew C s.heap.objs.size,_,?_,rfl,rfl,rfl,rfl,(fun _=>rfl),fun _=>rfl⟩)) I.low
 have:=Heap.get?_push_size (s.heap.push (xtup us)) (o:=xnew C s.heap.objs.size) rfl
 rwa [Heap.size_push] at this
theorem run_makeX {pins:List (Addr × Obj)}{σ:St}{H:Hp}{s:Shared}{Q:VK}{us:List Value}{vs:List V}(M:XCl X.K C bm)(hi:PySem.W.findIn X.K (.ref C) "__init__" = some (some (.ref f)))(hf:PySem.W.isFn X.K (.ref f)=true)
  (F:FnOk X.prog X.w X.K X.mg X.base CX0 k f fd ps sp) (hr:Room (k+1) X.A) (hb:Binds X.K fd ps []) (I:Inv X pins σ H s) (r:Vals vs us)
  (h:vs.length≤1000∧∀ x,H x=none→sp (.ref x::vs) (upd H x (Exo x C none true true)) (fun v H2=>v = .non∧Q (.ref x) H2) E0):wpAny (model X.prog X.w) X.A (call (.ref C) us) (EP X pins σ Q) X.xe s:=by
 obtain ⟨hl0,h⟩:=h
 have hq:=h (s.heap.objs.size+1) (I.hok.fresh (Nat.le_succ _))
 have I2:=Inv.madeX (C:=C) I us
 have r2:Vals (V.ref (s.heap.objs.size+1)::vs) (Value.ref (s.heap.objs.size+1)::us):=.cons rfl r
 have hl:(Value.ref (s.heap.objs.size+1)::us++[]).length=ps.length:=by
  have e:=r2.length
  rw [F.len _ _ _ _ hq] at e
  rw [List.append_nil]
  exact e.symm
 obtain ⟨hh,g,d,tk,os⟩:=s
 refine call_X I.kIn M hi hf (wpAny_call ?_) (by rw [← r.length,sizeLine_eq];omega)
 have hb':=hb ⟨(hh.push (xtup us)).push (xnew C hh.objs.size),g,d,tk,os⟩ (Value.ref (hh.objs.size+1)::us) I2.kIn hl
 rw [List.append_nil] at hb'
 refine codeAny_mono (F.run _ X.stack _ _ ⟨Value.ref (hh.objs.size+1)::us,[]⟩ (Value.ref (hh.objs.size+1)::us) _ _ E0 (hr.make C us []) (I2.env0.make C us []) hb' r2 hq) fun r s' hq'=>?_
 cases r with
 | error e=>exact hq'.elim
 | ok fl =>
  cases fl with
  | ret u =>
   obtain ⟨v,H',I3,rv,ev,q3⟩:=I2.after hq'
   subst ev
   exact ⟨rv,⟨V.ref (hh.objs.size+1),H',I3,rfl,q3⟩⟩
  | next=>exact False.elim hq'
  | brk=>exact False.elim hq'
  | cont=>exact False.elim hq'
end
end L2
namespace L2
open PySem PySem.Spec PyProof.Rows Builtin Builtin.ObjectAttr
section
variable {prog:Program} {w:World} {A:Around} {E:Value→Shared→Prop} {h:Heap} {g:Array GenState} {d:Drawn} {t:Nat} {os:OsState} {K:PySem.W.Frag} {C e:Addr} {bm:List Value} {oe:Obj} {vs:Array Value}
theorem init_X {rest:List Value}{R:Result→Shared→Prop}(X:K.In h)(x:XCl K C bm)(he:h.get? e=some oe)(hcls:oe.cls = .ref C)(hd:oe.data = .fields vs)(hsz:vs.size=6)(hrest:rest.length≤sizeLine)
  (hq:R (.ok (.ret .none)) ⟨(h.push (xtup rest)).update e (Obj.mapFields (·.setIfInBounds 0 (.ref h.objs.size))),g,d,t,os⟩) :
  codeAny (model prog w) A (.call (.builtin "ValueError.__init__") ⟨.ref e::rest,[]⟩) R ⟨h,g,d,t,os⟩:=by
 obtain ⟨T,nm,q,N,bs,sn,sub,ab,col,dd,k0,k1,k2,k3,k5,hC⟩:=x.at X
 have F:=PySem.F.excBase_ValueError
 refine codeAny_call_builtin F.init.plain F.initEntry (wpAny_check_init_subT F T hC he hcls ?_)
 unfold Builtin.«BaseException.__init__»
 refine wpAny_bind (m:=newTuple rest) ?_
 unfold newTuple
 refine wpAny_newObj_type ?_ (by show rest.toArray.size≤sizeLine;rw [List.size_toArray];exact hrest)
 have he₁:=Heap.get?_push_of_some (h:=h) (xtup rest) he
 have h0:∃ a0,vs[0]? = some a0:=⟨vs[0],Array.getElem?_eq_getElem (by omega)⟩
 obtain ⟨a0,h0⟩:=h0
 unfold BaseException.bexcPut
 refine wpAny_bind (wpAny_bind (wpAny_field he₁ hd h0 (wpAny_bind (wpAny_setField he₁ hd (by omega) ?_))))
 cases a0 <;> first | exact wpAny_letGo (wpAny_pure hq) | exact wpAny_pure (wpAny_pure hq)
theorem refuse_tail {bm:List Value}{self:Value}(T:OwnTail h bmV bm):refuseLoop self "__setattr__" bm=pure ():=by
 induction T with
 | base=>exact PySem.F.store_ValueError.passes self
 | own _ _ _ _ ih=>rw [refuseLoop_ref];exact ih
structure SetX (h h':Heap) (e:Addr) (oe:Obj) (name:Str) (v:Value) (mA:Str→Option Value) (dx:Addr):Prop where
 ns:h'.Ns1 dx fun y=>if y=name then some v else mA y
 exc:h'.get? e=some { oe with dict:=some dx }
 keep:∀ b o,b≠e→b≠dx→h.get? b=some o→h'.get? b=some o
section
variable {name:Str} {v:Value} {mA:Str→Option Value}
set_option maxHeartbeats 1600000 in
theorem set_entryX {tk:Tok}{Q:Fin→Shared→Prop}{ns:List Str}(X:K.In h)(x:XCl K C bm)(hna:PySem.W.findIn K (.ref C) name=some none)
  (hx:h.get? e=some oe) (hc:oe.cls = .ref C) (hnc:oe.data = .fields vs) (hd:(oe.dict=none∧∀ n,mA n=none) ∨ ∃ dx,oe.dict=some dx∧dx≠e∧h.Ns1 dx mA)
  (hq:∀ h' tk' dx,SetX h h' e oe name v mA dx→(oe.dict=none→dx=h.objs.size)→(∀ dy,oe.dict=some dy→dx=dy)→Q (.done (.ret .none)) ⟨h',g,d,tk',os⟩) (hw:Within mA ns) (hsz:ns.length≤1000) :
  wpAny (model prog w) A (Builtin.«object.__setattr__» ⟨[.ref e,.str name tk,v],[]⟩) Q E ⟨h,g,d,t,os⟩:=by
 obtain ⟨T,nm,q,N,bs,sn,sub,ab,col,dd,k0,k1,k2,k3,k5,hC⟩:=x.at X
 have hpass:=refuse_tail (self:=.ref e) T
 have L:=PySem.W.looks_findIn (M:=model prog w) X hna
 unfold Builtin.«object.__setattr__»
 repeat (first | rw [refuse_eq] | (rw [refuseLoop_ref,hpass]) | (with_reducible refine wpAny_loadPart_at hx ?_;rw [hc]) | with_reducible refine wpAny_mroOf_exc hC ?_ | with_reducible refine L.at ?_ | wp_step)
 rcases hd with ⟨hdn,hmA⟩ | ⟨dx,hdx,hne,hns⟩
 ·rw [hdn,if_neg (by simp [typeHasDict])]
  split
  ·rename_i hcd
   cases hcd
  split
  ·rename_i c hcd
   rw [hnc] at hcd;cases hcd
  ·have hx₁:(h.push { cls:=.type "dict",data:=.dict #[] }).get? e=some oe:=Heap.get?_push_of_some _ hx
   have hxs:e≠h.objs.size:=Nat.ne_of_lt (Heap.lt_size hx)
   refine wpAny_bind (wpAny_alloc' ?_)
   refine wpAny_bind (wpAny_update' hx₁ ?_)
   refine wpAny_pure ?_
   have hgd:((h.push { cls:=.type "dict",data:=.dict #[] }).update e fun o=>{ cls:=o.cls,dict:=some h.objs.size,data:=o.data,slots:=o.slots }).get? h.objs.size
     = some { cls:=.type "dict",data:=.dict #[] } :=
    (Heap.get?_update_ne _ _ _ _ hxs.symm).trans (Heap.get?_push_at rfl rfl)
   have hnd:((h.push { cls:=.type "dict",data:=.dict #[] }).update e fun o=>{ cls:=o.cls,dict:=some h.objs.size,data:=o.data,slots:=o.slots }).Ns h.objs.size (fun _=>none) :=
    ⟨_,#[],_,hgd,rfl,fun e he=>absurd he (by simp),fun _=>rfl⟩
   show wpAny _ _ (storeInDict h.objs.size (.str name tk) name v) _ _ _
   unfold storeInDict newKeyGuard
   refine wpAny_bind (wpAny_pure (wpAny_bind (wpAny_nsSet1 (Heap.Ns1.of_empty hnd) fun h' hn' hs=>?_)))
   obtain ⟨oD,esD,epD,hoD,hdD,hcD⟩:=hn'.count (Within.cons name v Within.nil)
   refine wpAny_bind (wpAny_lookBehind hoD (by rw [hdD];exact pastItsLine_dict (Nat.le_trans hcD (by rw [List.length_cons,List.length_nil,sizeLine_eq];omega))) ?_)
   wp_walk
   refine hq h' _ h.objs.size ⟨?_,?_,fun b o hbx _ hb=>?_⟩ (fun _=>rfl) fun dy q=>by rw [hdn] at q;cases q
   ·obtain ⟨o',es,ep,e1,e2,e3,eu,e4⟩:=hn'
    exact ⟨o',es,ep,e1,e2,e3,eu,fun y=>by rw [e4 y];by_cases hy:y=name <;> simp [hy,hmA]⟩
   ·exact (hs.2 e hxs).trans (Heap.get?_update_self _ hx₁ (Obj.isFreed_of_fields hnc))
   ·exact (hs.2 b (Nat.ne_of_lt (Heap.lt_size hb))).trans ((Heap.get?_update_ne _ _ _ _ hbx).trans (Heap.get?_push_of_some _ hb))
 ·rw [hdx]
  refine wpAny_pure ?_
  show wpAny _ _ (storeInDict dx (.str name tk) name v) _ _ _
  unfold storeInDict newKeyGuard
  refine wpAny_bind (wpAny_pure (wpAny_bind (wpAny_nsSet1 hns fun h' hn' hs=>?_)))
  obtain ⟨oD,esD,epD,hoD,hdD,hcD⟩:=hn'.count (Within.cons name v hw)
  refine wpAny_bind (wpAny_lookBehind hoD (by rw [hdD];exact pastItsLine_dict (Nat.le_trans hcD (by rw [List.length_cons,sizeLine_eq];omega))) ?_)
  wp_walk
  refine hq h' _ dx ⟨hn',?_,fun b ob _ hbd hb=>(hs.2 b hbd).trans hb⟩ (fun q=>by rw [hdx] at q;cases q) fun dy q=>by rw [hdx] at q;cases q;rfl
  rw [(hs.2 e hne.symm).trans hx]
  obtain ⟨c,dd,dt,sl⟩:=oe
  simp only at hdx
  subst hdx
  rfl
theorem check_saX {M:Model}{nameV:Value}{Q:Unit→Shared→Prop}(X:K.In h)(x:XCl K C bm)(hx:h.get? e=some oe)(hc:oe.cls = .ref C)(hq:Q () ⟨h,g,d,t,os⟩) :
  wpAny M A (checkBuiltinCall "object.__setattr__" ⟨[.ref e,nameV,v],[]⟩) Q E ⟨h,g,d,t,os⟩:=by
 obtain ⟨T,nm,q,N,bs,sn,sub,ab,col,dd,k0,k1,k2,k3,k5,hC⟩:=x.at X
 have SF:=PySem.F.store_ValueError
 have hcB:(Value.ref C::bm).contains (.type "object")=true:=by rw [List.contains_cons,T.hasType SF.hasOwner,Bool.or_true]
 have ha:=SF.args (.ref e) nameV v
 simp only [checkBuiltinCall,SF.kind,SF.split]
 refine wpAny_bind ?_
 unfold isInstance
 repeat (first | (with_reducible refine wpAny_loadPart_at hx ?_;rw [hc]) | (with_reducible refine wpAny_isSubtype_exc hC ?_;rw [hcB]) | wp_step)
 exact hq
theorem set_X {Q:Unit→Shared→Prop}{ns:List Str}(X:K.In h)(x:XCl K C bm)(hsa:PySem.W.findIn K (.ref C) "__setattr__" = some (some (.builtin "object.__setattr__")))(hna:PySem.W.findIn K (.ref C) name=some none)
  (hx:h.get? e=some oe) (hc:oe.cls = .ref C) (hnc:oe.data = .fields vs) (hd:(oe.dict=none∧∀ n,mA n=none) ∨ ∃ dx,oe.dict=some dx∧dx≠e∧h.Ns1 dx mA)
  (hq:∀ h' tk' dx,SetX h h' e oe name v mA dx→(oe.dict=none→dx=h.objs.size)→(∀ dy,oe.dict=some dy→dx=dy)→Q () ⟨h',g,d,tk',os⟩) (hw:Within mA ns) (hsz:ns.length≤1000) :
  wpAny (model prog w) A (setAttr (.ref e) name v) Q E ⟨h,g,d,t,os⟩:=by
 obtain ⟨T,nm,q,N,bs,sn,sub,ab,col,dd,k0,k1,k2,k3,k5,hC⟩:=id (x.at X)
 have SF:=PySem.F.store_ValueError
 have f3:=SF.slot.bind (.ref e)
 have L:=PySem.W.looks_findIn (M:=model prog w) X hsa
 unfold setAttr callSpecial? specialOf
 repeat (any_goals (first | assumption | (with_reducible refine wpAny_loadPart_at hx ?_;rw [hc]) | with_reducible refine L.at ?_ | wp_step))
 refine codeAny_call_builtin SF.slot.plain SF.entry (check_saX X x hx hc (set_entryX X x hna hx hc hnc hd (fun h' tk' dx a b c=>?_) hw hsz))
 repeat (any_goals (first | assumption | wp_step))
 exact hq h' tk' dx a b c
end
end
end L2
namespace L2
open PySem PySem.Spec PyProof.Rows
noncomputable def xdt (d:Addr)(fs:List (Str × V)):Heap→Prop:=fun h=>∃ mA,h.Ns1 d mA∧(∀ f,RelO (fs.lookup f) (mA f))∧PySem.Within mA (fs.map (·.1))
noncomputable abbrev Xdt (d:Addr)(fs:List (Str × V)):HO:=.ext (xdt d fs)
theorem xdt_ok {P:Program}{w:World}{H:Hp}{h:Heap}{d:Addr}{fs:List (Str × V)}(x:xdt d fs h):ObjOk P w H h d (Xdt d fs) :=
 ⟨x,let ⟨_,⟨o,_,_,q,_⟩,_⟩:=x;⟨o,q⟩,fun _ _ y k=>let ⟨mA,n,r⟩:=y;⟨mA,n.at k,r⟩⟩
structure XAt (K:PySem.W.Frag) (C:Addr):Prop where
 cl:∃ bm,XCl K C bm
 sa:PySem.W.findIn K (.ref C) "__setattr__" = some (some (.builtin "object.__setattr__"))
 ga:PySem.W.findIn K (.ref C) "__getattribute__" = some (some (.builtin "BaseException.__getattribute__"))
 gn:PySem.W.findIn K (.ref C) "__getattr__" = some none
section
variable {X:Cx} {pins:List (Addr × Obj)} {σ:St} {H:Hp} {s:Shared} {A:Around} {E:Value→Shared→Prop} {a C:Addr} {b cx:Bool} {f:Str} {y:V} {u:Value} {Q:Unit→Shared→Prop}
theorem exo_get {P:Program}{w:World}{h:Heap}{d:Option Addr}(ok:HOk P w H h)(e:H a=some (Exo a C d b cx)):exo a C d b cx h:=(ok a _ e).1
theorem setx0_ok (I:Inv X pins σ H s)(ea:H a=some (Exo a C none b cx))(x:XAt X.K C)(hna:PySem.W.findIn X.K (.ref C) f=some none)(ry:RelV y u)
  (h:∀ s' dx,H dx=none→dx≠a→InvW X pins σ (upd (upd H a (Exo a C (some dx) b cx)) dx (Xdt dx [(f,y)])) s'→Q () s'):wpAny (model X.prog X.w) A (setAttr (.ref a) f u) Q E s:=by
 obtain ⟨oe,vs,g1,g2,g3,g4,g5,g6⟩:=exo_get I.hok ea
 obtain ⟨bm,xc⟩:=x.cl
 obtain ⟨hh,g,dr,tk,os⟩:=s
 refine set_X (mA:=fun _=>none) (ns:=[]) I.kIn xc x.sa hna g1 g2 g4 (.inl ⟨g3,fun _=>rfl⟩) (fun h' tk' dx S d1 _=>?_) (fun n hn=>absurd rfl hn) (by simp)
 have hdx:dx=hh.objs.size:=d1 g3
 have hfr:H dx=none:=I.hok.fresh (Nat.le_of_eq hdx.symm)
 have nea:dx≠a:=fun z=>by rw [z,ea] at hfr;cases hfr
 have nin:∀ c o,hh.get? c=some o→c≠dx:=fun c o q z=>absurd (Heap.lt_size q) (by rw [z,hdx];exact Nat.lt_irrefl _)
 have neA:∀ c,H c=none→c≠a:=fun c n z=>by rw [z,ea] at n;cases n
 have neA':∀ c v,H c=some v→v≠Exo a C none b cx→c≠a:=fun c v q n z=>by rw [z,ea] at q;cases q;exact n rfl
 have neD:∀ c v,H c=some v→c≠dx:=fun c v q z=>by rw [z,hfr] at q;cases q
 have same:∀ c v,H c=some v→v≠Exo a C none b cx→upd (upd H a (Exo a C (some dx) b cx)) dx (Xdt dx [(f,y)]) c=some v:=fun c v q n=>by rw [upd_ne (neD c v q),upd_ne (neA' c v q n)];exact q
 refine h _ dx hfr nea (I.un (t':=tk') ⟨fun c o q n _ _=>S.keep c o (neA c n) (nin c o q) q,fun c o q n _ _=>⟨o.slots,S.keep c o (neA c n) (nin c o q) q⟩,
  fun c o q n _=>by rw [upd_ne (nin c o q),upd_ne (neA c n)];exact n,fun c o q _=>?_,fun c xs q=>same c _ q (by intro z;cases z),fun c o v q=>same c _ q (by intro z;cases z),fun c ps q=>⟨#[],by rw [same c _ q (by intro z;cases z)];simp⟩⟩ fun c v q=>?_)
 ·by_cases z:c=a
  ·subst z;exact ⟨_,S.exc⟩
  ·exact ⟨o,S.keep c o z (nin c o q) q⟩
 ·by_cases z:c=dx
  ·subst z
   rw [upd_same] at q;cases q
   refine xdt_ok ⟨_,S.ns,fun n=>?_,fun n hn=>?_⟩
   ·show RelO (List.lookup n [(f,y)]) (if n=f then some u else none)
    by_cases z:n=f
    ·subst z;rw [if_pos rfl,List.lookup_cons,beq_self_eq_true];exact ry
    ·rw [if_neg z,List.lookup_cons,beq_eq_false_iff_ne.mpr z];exact True.intro
   ·by_cases z:n=f
    ·subst z;exact List.mem_cons_self
    ·exact absurd (show (if n=f then some u else none)=none by rw [if_neg z]) hn
  ·rw [upd_ne z] at q
   by_cases y':c=a
   ·subst y'
    rw [upd_same] at q;cases q
    exact exo_ok ⟨_,vs,S.exc,g2,rfl,g4,g5,g6⟩
   ·rw [upd_ne y'] at q
    have hc:=I.hok c v q
    refine hc.stay (fun p o hp r=>S.keep p o ?_ (nin p o r) r) (fun p hp=>same p _ hp (by intro z;cases z)) fun p xs hp=>same p _ hp (by intro z;cases z)
    rcases hp with rfl | hp
    ·exact y'
    ·exact neA' p _ hp (by intro z;cases z)
end
noncomputable def sFx0 (K:PySem.W.Frag)(ta tv:TE)(f:Str):TS:=fun D σ H=>tv σ H fun y H1=>ta σ H1 fun x H2=>∃ a C b cx,x = .ref a∧H2 a=some (Exo a C none b cx)∧XAt K C∧PySem.W.findIn K (.ref C) f=some none ∧
 ∀ dx,H2 dx=none→dx≠a→D.nx σ (upd (upd H2 a (Exo a C (some dx) b cx)) dx (Xdt dx [(f,y)]))
section
variable {X:Cx} {o e value:Expr} {es:List Expr} {f x:Str} {p pos pos' apos:Pos} {ta tv te:TE} {t:TA} {R:Addr} {E:XK}
theorem ps_fx0 (ha:PE X o ta)(hv:PE X value tv)(hs:swapsWith value (some (.Attribute o f pos')) pos.line X.env=pure false):PS X (.Assign [.Attribute o f pos'] value pos) (sFx0 X.K ta tv f):=by
 intro pins s σ H D I h
 refine plainObj_wpAny_Assign_Attribute (thn (hv pins s σ H _ I h) fun u s1 ⟨y,H1,I1,ry,q⟩=>thn (ha pins s1 σ H1 _ I1 q) fun ov s2 zq1=>?_) hs
 obtain ⟨z,H2,I2,rx,a,C,b,cx,ex,ea,c,n,q2⟩:=zq1
 subst ex
 obtain rfl:ov=Value.ref a:=rx
 exact setx0_ok I2 ea c n ry fun s3 dx h1 h2 I3=>⟨σ,_,I3,q2 dx h1 h2⟩
noncomputable def tInitX (K:PySem.W.Frag)(t:TA):TE:=fun σ H Q=>t σ H fun vs H1=>∃ a C d b cx rest,vs = .ref a::rest∧rest.length≤1000∧H1 a=some (Exo a C d b cx)∧XAt K C∧Q .non H1
structure XBase (K:PySem.W.Frag) (R:Addr):Prop where
 rd:PySem.W.readsIn K R (.type "type")=true
 at_:PySem.W.findCls K (.ref R) (.type "type") "__init__" = some (.val (.builtin "ValueError.__init__"))
 ga:PySem.W.specialIn K (.ref R) "__getattribute__" = some (some (.builtin "type.__getattribute__"))
 hd:PySem.W.handedIn (.builtin "ValueError.__init__")=true
theorem initx_ok {pins:List (Addr × Obj)}{σ:St}{H:Hp}{s:Shared}{A:Around}{F:Value→Shared→Prop}{Q:Value→Shared→Prop}{a C:Addr}{d:Option Addr}{b cx:Bool}{rest:List Value}(I:Inv X pins σ H s)(ea:H a=some (Exo a C d b cx))(x:XAt X.K C)(hl:rest.length≤1000)
  (h:∀ s',InvW X pins σ H s'→Q .none s'):wpAny (model X.prog X.w) A (call (.builtin "ValueError.__init__") (.ref a::rest)) Q F s:=by
 obtain ⟨oe,vs,g1,g2,g3,g4,g5,g6⟩:=exo_get I.hok ea
 obtain ⟨bm,xc⟩:=x.cl
 obtain ⟨hh,g,dr,tk,os⟩:=s
 refine wpAny_call (init_X I.kIn xc g1 g2 g4 g5 (by rw [sizeLine_eq];omega) (h _ ?_))
 have I1:=I.kept (h':=hh.push (xtup rest)) (t':=tk) (fun b u q=>Heap.get?_push_of_some _ q)
 have g1':=Heap.get?_push_of_some (h:=hh) (xtup rest) g1
 have hd':=Obj.data_mapFields g4 (·.setIfInBounds 0 (Value.ref hh.objs.size))
 have e':=Heap.get?_update_self (Obj.mapFields (·.setIfInBounds 0 (Value.ref hh.objs.size))) g1' (Obj.isFreed_of_fields hd')
 have I2:=I1.write (t':=tk) (x:=a) (e:=a) (h':=(hh.push (xtup rest)).update a (Obj.mapFields (·.setIfInBounds 0 (Value.ref hh.objs.size)))) (o:=Exo a C d b cx) (by rw [ea];exact True.intro) (.inl rfl) (fun c o hc q=>(Heap.get?_update_other _ _ (Ne.symm hc)).trans q) ⟨_,e'⟩
  (exo_ok ⟨_,_,e',(Obj.cls_mapFields _ _).trans g2,by
   rw [← g3]
   obtain ⟨c1,c2,c3,c4⟩:=oe
   cases c3 <;> rfl,hd',by rw [Array.size_setIfInBounds];exact g5,(fun z=>by rw [Array.getElem?_setIfInBounds_ne (by decide)];exact g6.1 z),fun z=>by rw [Array.getElem?_setIfInBounds_ne (by decide)];exact g6.2 z⟩)
 rwa [upd_idem ea] at I2
theorem pe_initX {pl:Sem Bool}(B:XBase X.K R)(hg:Gl X x)(hm:X.mg x=some (.ref R))(ha:PA X (e::es) t)(hdb:(x == ("__debug__":Str))=false:=by decide)
  (hst:starEach (e::es) X.env=(false,eval e X.env)::starEach es X.env:=by rfl) (hpl:(backTo pos (starEach es X.env)).any (·.1)=false:=by rfl)
  (ht:eval (.Call (.Attribute (.Name x p) "__init__" apos) (e::es) [] pos) X.env=(do
   let ov ← eval (.Name x p) X.env
   standAt apos.atName
   let (f,first) ← holding [ov] (getMethod ov "__init__" pl)
   callWith pos f first (backTo pos (starEach (e::es) X.env)) (backToKw pos (keywordEach [] X.env))):=by rfl) :
  PE X (.Call (.Attribute (.Name x p) "__init__" apos) (e::es) [] pos) (tInitX X.K t):=by
 intro pins s σ H Q I h
 refine PySem.W.methodCall_KW (pl:=pl) (ld_glob I hg hm ?_ hdb) ht
 refine PySem.W.method_cls I.kIn B.ga (PySem.W.cls_value I.kIn B.rd B.at_ B.hd ?_)
 refine PyProof.Rows.callWith_builtin1 (thn (ha pos pins _ σ H _ ((I.tok _).up (Nat.le_succ_of_le I.low)) h) (fun us s2 zq3=>?_) (Nat.le_succ_of_le I.low)) hst hpl
 obtain ⟨vs,H2,I2,r,a,C,d,b,cx,rest,ev,hl,ea,xa,q2⟩:=zq3
 subst ev
 cases r with
 | cons r1 r2 =>
  obtain rfl:_=Value.ref a:=r1
  exact initx_ok I2 ea xa (by rw [← r2.length];exact hl) fun s3 I3=>⟨.non,H2,I3,rfl,q2⟩
noncomputable def sRaise (K:PySem.W.Frag)(te:TE)(E:XK):TS:=fun D σ H=>te σ H fun v H1=>∃ a C d cx,v = .ref a∧H1 a=some (Exo a C d true cx)∧XAt K C∧E (.ref a) none (upd H1 a (Exo a C d false cx))
theorem ps_raiseX (hx:Raises X E)(hc:X.calm=true)(he:PE X e te):PS X (.Raise (some e) none pos) (sRaise X.K te E):=by
 intro pins s σ H D I h
 rw [arm_exec_Raise]
 refine wpAny_bind (wpAny_standAt ?_)
 unfold raiseStmt
 refine wpAny_bind (wpAny_bind (thn (he pins s σ H _ I h) fun v s1 ⟨y,H1,I1,ry,a,C,d,cx,ey,ea,xa,q⟩=>wpAny_bind (wpAny_standAt (wpAny_pure ?_))))
 subst ey
 obtain rfl:v=Value.ref a:=ry
 have fin:=hx pins σ H1 s1 a C d cx I1 ea q
 obtain ⟨⟨oc,od,odt,osl⟩,vs,g1,g2,g3,g4,g5,g6⟩:=exo_get I1.hok ea
 simp only at g2 g3 g4
 subst g2 g3 g4
 obtain ⟨bm,xc⟩:=xa.cl
 obtain ⟨T,nm,q,N,bs,sn,sub,ab,col,dd,k0,k1,k2,k3,k5,hC⟩:=xc.at I1.kIn
 have hcB:(Value.ref C::bm).contains (.type "BaseException")=true:=by rw [List.contains_cons,T.hasType PySem.F.excBase_ValueError.hasBase,Bool.or_true]
 have hh:=I1.ok.hd hc
 obtain ⟨hp,g,dr,tk,os⟩:=s1
 repeat (first | with_reducible refine wpAny_loadPart_at g1 ?_ | with_reducible refine wpAny_loadPart_at hC ?_ | (with_reducible refine wpAny_isSubtype_exc hC ?_;rw [hcB]) | wp_step)
 rw [g6.1 rfl]
 refine wpAny_pure ?_
 rw [if_neg (by decide)]
 exact wpAny_pure (wpAny_raiseNew_none hh fin)
end
end L2
namespace L2
open PySem PySem.Spec PyProof.Rows
section
variable {prog:Program} {w:World} {A:Around} {E:Value→Shared→Prop} {s:Shared} {K:PySem.W.Frag} {C a:Addr} {bm:List Value} {oe:Obj} {od:Option Obj} {name:Str} {fill expr:Bool} {tk:Tok}
end
structure XCa (K:PySem.W.Frag) (C:Addr):Prop where
 at_:XAt K C
 ca:PySem.W.findIn K (.ref C) "__class__" = some (some (.builtin "object.__class__"))
 gt:PySem.W.specialIn K (.builtin "object.__class__") "__get__" = some (some (.builtin "getset_descriptor.__get__"))
 tk:PySem.W.takesIn K (.builtin "object.__class__")=some true
section
variable {X:Cx} {pins:List (Addr × Obj)} {σ:St} {H:Hp} {s:Shared} {A:Around} {E:Value→Shared→Prop} {a C dx:Addr} {b cx:Bool} {fs:List (Str × V)} {f:Str} {v:V}
end
section
variable {X:Cx} {e:Expr} {f:Str} {pos:Pos} {ta:TE}
end
end L2
namespace L2
open PySem PySem.Spec PyProof.Rows
section
variable {X:Cx} {pins:List (Addr × Obj)} {σ:St} {H:Hp} {s:Shared}
end
section
variable {M:Model} {A:Around} {E:Value→Shared→Prop} {s:Shared}
end
end L2
namespace L2
open PySem PySem.Spec PyProof.Rows
structure FncX (P:Program) (w:World) (K:PySem.W.Frag) (mg:Str→Option Value) (base:Heap) (x:Str) (ps:List Str) (k:Nat) (sp:Sp):Prop where
 ex:∃ (f:Addr) (fd:FuncData),mg x=some (.ref f)∧PySem.W.keepIn K (.ref f)=true∧Binds K fd ps []∧FnOk P w K mg base (CXe P w) k f fd ps sp
theorem Df.okX {P:Program}{w:World}{K:PySem.W.Frag}{mg:Str→Option Value}{base:Heap}{x:Str}{st:Stmt}{N ps:List Str}{k:Nat}{sp:Sp}(D:Df K mg x st)(S:FnScope N ps (defScope st))
  (hb:∀ (kV doc pm:Value) (an:Option Addr) (cdv ct:Value) (us:List Value),us.length=ps.length→bindArgs (PySem.W.fnOf x x (defArgs st) (defBody st) (defScope st) .none kV doc pm an cdv ct) ⟨us,[]⟩=pure (ps.zip us))
  (len:∀ vs H Q E,sp vs H Q E→vs.length=ps.length)
  (hbody:∀ (f:Addr) (cdv:Value) (A:Around) (outer:List Env) (s:Shared) (H:Hp) (vs:List V) (Q:VK) (E:XK),Room k (A.deeper (envOfC x (defScope st) s.heap.objs.size f cdv))→sp vs H Q E →
   ∃ t,PSs (cxOf (CXe P w) P w K mg base N x (defScope st) f cdv A outer s H E) (defBody st) t∧t { nx:=fun _ H'=>Q .non H',rt:=Q } (start N vs) H):FncX P w K mg base x ps (k+1) sp:=by
 obtain ⟨f,fd,hm,F⟩:=D.ex
 refine ⟨f,fd,hm,F.kp,F.binds hb,?_⟩
 obtain ⟨oc,od,kV,doc,pm,an,cdv,ct,osl,rfl,lk,hcd⟩:=F.ex
 exact fn_of lk hcd S len fun A outer s H vs Q E hr hsp=>hbody f cdv A outer s H vs Q E hr hsp
section
variable {X:Cx} {E:XK} {x:Str} {ps:List Str} {k j:Nat} {sp:Sp} {e a b:Expr} {es:List Expr} {t:TA} {te tb:TE} {tt:TT} {p pos pos':Pos}
theorem pe_fnX (F:FncX X.prog X.w X.K X.mg X.base x ps j sp)(hr:Room k X.A)(hj:j≤k)(hx:Passes (CXe X.prog X.w) X E)(hg:Gl X x)(ha:PA X (e::es) t)
  (hdb:(x == ("__debug__":Str))=false:=by decide) (he:starEach (e::es) X.env=(false,eval e X.env)::starEach es X.env:=by rfl) (hpl:(backTo pos (starEach es X.env)).any (·.1)=false:=by rfl) :
  PE X (.Call (.Name x p) (e::es) [] pos) (tCall sp [] E t):=by
 obtain ⟨f,fd,hm,hk,hb,F⟩:=F.ex
 exact pe_call F (hr.mono hj) hg hm hk hb .nil hx ha hdb he hpl
end
end L2
namespace L2
open PySem PySem.Spec PyProof.Rows
section
variable {K:PySem.W.Frag} {C R N:Addr} {dd d0:Option Addr} {c0 oc:Value} {cd cdR:ClassData} {k0 k1 k2 k3 k5:Option Value} {sl sl':Array (Option Value)} {es:Array DictEntry} {n:Nat} {bm bm':List Value}
theorem tail_base:PySem.W.tailIn K bmV bmV=true:=by
 unfold PySem.W.tailIn
 rw [beq_self_eq_true];rfl
theorem nsok_of (l:K.lookup N=some ⟨oc,d0,.dict es n,sl'⟩)(h:(es.toList.all fun e=>match e.key with | .str _ _=>true | _=>false)=true):PySem.W.nsOkIn K N=true:=by
 unfold PySem.W.nsOkIn;rw [l];dsimp only;rw [← Array.all_toList];exact h
theorem tail_own (l:K.lookup R=some ⟨c0,d0,.cls cdR,sl⟩)(ok:PySem.W.nsOkIn K cdR.ns=true)(ni:PySem.W.nsIn K cdR.ns "__init__" = some none)(t:PySem.W.tailIn K bmV bm=true):PySem.W.tailIn K bmV (.ref R::bm)=true:=by
 unfold PySem.W.tailIn
 simp only [l,ok,ni,t,beq_self_eq_true,Bool.and_self,Bool.or_true]
theorem xcl_of (l:K.lookup C=some ⟨.type "type",dd,.cls cd,#[k0,k1,k2,k3,some (.builtin "ValueError.__new__"),k5]⟩)(m:cd.mro = .ref C::bm)(h1:cd.hasDel=false)(h2:cd.hasDict=true)(t:PySem.W.tailIn K bmV bm=true)(kp:PySem.W.keepIn K (.ref C)=true):XCl K C bm :=
 ⟨⟨dd,cd,k0,k1,k2,k3,k5,l,m,h1,h2⟩,t,kp⟩
end
noncomputable def fillF:List (Str × V)→List (Str × V)→List (Str × V)
 | acc,[]=>acc
 | acc,(f,y)::r=>fillF (putF f y acc) r
inductive spInit (names:List Str)(C:Addr)(vs:List V)(H:Hp)(Q:VK)(E:XK):Prop
 | mk:∀ a ys b cx,(vs = .ref a::ys)→(ys.length=names.length)→(H a=some (Exo a C none b cx))→(∀ dx,H dx=none→dx≠a→Q .non (upd (upd H a (Exo a C (some dx) b cx)) dx (Xdt dx (fillF [] (names.zip ys)))))→spInit names C vs H Q E
end L2
namespace L2
open PySem PySem.Spec PyProof.Rows
structure XMk (P:Program) (w:World) (K:PySem.W.Frag) (mg:Str→Option Value) (base:Heap) (x:Str) (C:Addr) (names:List Str) (k:Nat):Prop where
 at_:mg x=some (.ref C)
 ca:XCa K C
 no:∀ f∈names,PySem.W.findIn K (.ref C) f=some none
 ex:∃ (f:Addr) (fd:FuncData) (bm:List Value),XCl K C bm∧PySem.W.findIn K (.ref C) "__init__" = some (some (.ref f))∧PySem.W.isFn K (.ref f)=true∧Binds K fd ("self" :: names) []∧FnOk P w K mg base CX0 k f fd ("self" :: names) (spInit names C)
noncomputable def tNewX (C:Addr)(names:List Str)(t:TA):TE:=fun σ H Q=>t σ H fun ys H1=>ys.length=names.length∧names.length≤900∧∀ a dx,H1 a=none→H1 dx=none→dx≠a →
 Q (.ref a) (upd (upd H1 a (Exo a C (some dx) true true)) dx (Xdt dx (fillF [] (names.zip ys))))
section
variable {X:Cx} {x:Str} {C:Addr} {names:List Str} {k j:Nat} {e:Expr} {es:List Expr} {t:TA} {p pos:Pos}
theorem pe_mk (M:XMk X.prog X.w X.K X.mg X.base x C names j)(hr:Room k X.A)(hj:j+1≤k)(hg:Gl X x)(ha:PA X (e::es) t)
  (hdb:(x == ("__debug__":Str))=false:=by decide) (he:starEach (e::es) X.env=(false,eval e X.env)::starEach es X.env:=by rfl) (hpl:(backTo pos (starEach es X.env)).any (·.1)=false:=by rfl) :
  PE X (.Call (.Name x p) (e::es) [] pos) (tNewX C names t):=by
 obtain ⟨f,fd,bm,xc,hi,hf,hb,F⟩:=M.ex
 intro pins s σ H Q I h
 refine wpAny_Call_Name_kw (ld_glob I hg M.at_ ?_ hdb)
 refine PySem.W.callWith_K (h₀:=X.base) I.ok.mod.kin xc.kp (thn (ha pos pins s σ H _ I h) fun us s1 ⟨vs,H1,I1,r,hl,hn,q⟩=>⟨I1.kIn,?_⟩) he hpl
 refine run_makeX (k:=j) xc hi hf F (hr.mono hj) hb I1 r ⟨by omega,fun a h0=>⟨a,vs,true,true,rfl,hl,upd_same ..,fun dx hdx ne=>⟨rfl,?_⟩⟩⟩
 rw [upd_upd]
 exact q a dx h0 (by rw [upd_ne ne] at hdx;exact hdx) ne
end
section
variable {K:PySem.W.Frag} {C dx a:Addr} {b:Bool} {H:Hp}
end
section
variable {X:Cx} {K:PySem.W.Frag} {e:Expr} {f:Str} {pos:Pos} {ta:TE}
end
end L2
namespace L2
open PySem PySem.Spec PyProof.Rows
section
variable {X:Cx} {E:XK} {e a b c:Expr} {te ta tb:TE} {tA:TT} {pos:Pos}
end
end L2
namespace L2
open PySem PySem.Spec PyProof.Rows Wd
section
variable {X:Cx}
theorem pt_dnot {i o:Expr}{ty td:TE}{pos:Pos}(hu:X.A.units+1 < cLine)(hi:PE X i ty)(ho:PE X o td)(h1:behindInMarks .NotIn o=false):PT X (.Compare i [.NotIn] [o] pos) (tB (tDNotIn ty td)):=pt_cmp (pc_dnotin hu hi ho) h1
end
end L2
namespace L2
open PySem PySem.Spec PyProof.Rows
section
variable {X:Cx}
theorem two_at_int {i j:Int}{its:List Value}(r:Vals [.int i,.int j] its):∃ t u,its=[.int i t,.int j u]:=by
 obtain ⟨u1,u2,rfl,⟨t1,rfl⟩,⟨t2,rfl⟩⟩:=vals2 r
 exact ⟨t1,t2,rfl⟩
noncomputable def nAt (i j:Int)(k:Nat):Int:=if k=0 then i else j
end
end L2
namespace L2
open PySem PySem.Spec PyProof.Rows
section
variable {prog:Program} {w:World} {A:Around} {E:Value→Shared→Prop} {s:Shared}
end
section
variable {X:Cx}
end
end L2
namespace L2
open PySem PySem.Spec PyProof.Rows
section
variable {X:Cx}
end
end L2
namespace L2
open PySem PySem.Spec PyProof.Rows
section
variable {X:Cx}
end
end L2
namespace Wd
structure Srf (u:List L):Prop where
 ne:u≠[]
 nd:u.Nodup
 iv:∀ x∈u,inv x∈u
 le:u.length≤12
theorem Srf.pos {u:List L}(S:Srf u):0 < u.length:=List.length_pos_iff.mpr S.ne
noncomputable def letH (u:List L)(g:Nat):L:=u.getD ((g+1) % u.length) 0
noncomputable def stepH (u:List L)(g:Nat):Nat:=u.idxOf (inv (letH u g))
theorem letH_get {u:List L}(S:Srf u)(g:Nat):u[(g+1) % u.length]? = some (letH u g):=by
 have h:=Nat.mod_lt (g+1) S.pos
 unfold letH
 rw [List.getD_eq_getElem?_getD,List.getElem?_eq_getElem h]
 rfl
theorem letH_mem {u:List L}(S:Srf u)(g:Nat):letH u g∈u:=List.mem_of_getElem? (letH_get S g)
theorem stepH_lt {u:List L}(S:Srf u)(g:Nat):stepH u g < u.length:=List.idxOf_lt_length_of_mem (S.iv _ (letH_mem S g))
structure Sn (u:List L) (S:List Nat):Prop where
 nd:S.Nodup
 lt:∀ g∈S,g < u.length
theorem sub_le:∀ (n:Nat) (S:List Nat),S.Nodup→(∀ g∈S,g < n)→S.length≤n
 | 0,S,_,h=>by
  cases S with
  | nil=>exact Nat.le_refl _
  | cons a r=>exact absurd (h a List.mem_cons_self) (Nat.not_lt_zero _)
 | n+1,S,nd,h=>by
  by_cases hn:n∈S
  ·have q:=sub_le n (S.erase n) (nd.erase n) fun g hg=>by
    have:=(List.Nodup.mem_erase_iff nd).mp hg
    have:=h g this.2
    omega
   rw [List.length_erase_of_mem hn] at q
   omega
  ·have q:=sub_le n S nd fun g hg=>by
    have h1:=h g hg
    have h2:g≠n:=fun e=>hn (e ▸ hg)
    omega
   omega
theorem Sn.le {u:List L}{S:List Nat}(h:Sn u S):S.length≤u.length:=sub_le _ _ h.nd h.lt
theorem Sn.snoc {u:List L}{S:List Nat}(h:Sn u S){g:Nat}(hg:g < u.length)(hn:g∉S):Sn u (S++[g]):=by
 refine ⟨?_,fun x hx=>?_⟩
 ·rw [List.nodup_append]
  refine ⟨h.nd,by simp,fun a ha b hb e=>?_⟩
  rw [List.mem_singleton] at hb
  subst hb
  exact hn (e ▸ ha)
 ·rcases List.mem_append.mp hx with h1 | h1
  ·exact h.lt x h1
  ·rw [List.mem_singleton] at h1
   exact h1 ▸ hg
theorem Sn.nil (u:List L):Sn u []:=⟨List.nodup_nil,fun _ h=>absurd h (by simp)⟩
noncomputable def walkH (u:List L):Nat→Nat→List Nat→List L→List Nat × List L
 | 0,_,S,w=>(S,w)
 | n+1,g,S,w=>if g∈S then (S,w) else walkH u n (stepH u g) (S++[g]) (w++[letH u g])
noncomputable def wk (u:List L)(g:Nat)(S:List Nat)(w:List L):List Nat × List L:=walkH u (u.length+1 - S.length) g S w
theorem wk_in {u:List L}{g:Nat}{S:List Nat}{w:List L}(h:g∈S):wk u g S w=(S,w):=by
 unfold wk
 cases u.length+1 - S.length with
 | zero=>rfl
 | succ n=>unfold walkH;rw [if_pos h]
theorem wk_out {u:List L}{g:Nat}{S:List Nat}{w:List L}(hs:Sn u S)(hg:g < u.length)(h:g∉S):wk u g S w=wk u (stepH u g) (S++[g]) (w++[letH u g]):=by
 have h1:=(hs.snoc hg h).le
 rw [List.length_append,List.length_singleton] at h1
 unfold wk
 rw [List.length_append,List.length_singleton]
 have e:u.length+1 - S.length=(u.length+1 - (S.length+1))+1:=by omega
 rw [e]
 show (if g∈S then (S,w) else _)=_
 rw [if_neg h]
noncomputable def holS (u:List L):Nat→List Nat × List (List L)
 | 0=>([],[])
 | i+1=>if i∈(holS u i).1 then holS u i else ((wk u i (holS u i).1 []).1,(holS u i).2++[(wk u i (holS u i).1 []).2])
theorem hol_len (u:List L):∀ i,(holS u i).2.length≤i
 | 0=>Nat.le_refl _
 | i+1=>by
  have:=hol_len u i
  unfold holS
  split
  ·omega
  ·show ((holS u i).2++[_]).length≤i+1
   rw [List.length_append,List.length_singleton]
   omega
theorem hol_in {u:List L}{i:Nat}(h:i∈(holS u i).1):holS u (i+1)=holS u i:=by
 show (if _ then _ else _)=_
 rw [if_pos h]
theorem hol_out {u:List L}{i:Nat}(h:i∉(holS u i).1):holS u (i+1)=((wk u i (holS u i).1 []).1,(holS u i).2++[(wk u i (holS u i).1 []).2]):=by
 show (if _ then _ else _)=_
 rw [if_neg h]
noncomputable def fam (k:Nat):List L:=(List.range k).flatMap fun j=>if h:j < 6 then [⟨j,by omega⟩,⟨j+6,by omega⟩] else []
theorem fam_ok:∀ k:Fin 7,(fam k.val).Nodup∧(∀ x∈fam k.val,inv x∈fam k.val)∧(fam k.val).length=2*k.val:=by decide
theorem srf_of {k:Nat}{u:List L}(h1:1≤k)(h6:k≤6)(p:u.Perm (fam k)):Srf u:=by
 obtain ⟨a,b,c⟩:=fam_ok ⟨k,by omega⟩
 have hl:=p.length_eq
 have c:(fam k).length=2*k:=c
 refine ⟨fun e=>?_,(p.nodup_iff).mpr a,fun x hx=>p.mem_iff.mpr (b x (p.mem_iff.mp hx)),by omega⟩
 subst e
 rw [c] at hl
 simp at hl
 omega
noncomputable def hol (u:List L):List (List L):=(holS u u.length).2
end Wd
namespace Kx
open PySem PySem.Spec PyProof.Rows L2 Wd
theorem at_one (u:List L)(x:L)(i:Nat):StrLaws.At (toS u) (toS [x]) (toS u).length i ↔ u[i]? = some x:=by
 unfold StrLaws.At
 rw [toS_length,toS_length,StrLaws.subAt_eq,toS_length,toS_cps,toS_cps,beq_iff_eq,← List.map_drop,← List.map_take]
 simp only [List.length_singleton]
 constructor
 ·rintro ⟨h1,h2⟩
  have h2:=map_cp_inj h2
  have:(u.drop i).take 1=[u[i]]:=by rw [List.drop_eq_getElem_cons (by omega)];rfl
  rw [this] at h2
  rw [List.getElem?_eq_getElem (by omega)]
  exact congrArg some (List.cons.inj h2).1
 ·intro h
  obtain ⟨hl,e⟩:=List.getElem?_eq_some_iff.mp h
  refine ⟨by omega,?_⟩
  rw [List.drop_eq_getElem_cons hl,e]
  rfl
theorem idx_at {u:List L}{x:L}(h:x∈u):∃ rest,Builtin.Str.occurrences (toS u) (toS [x]) 0 (toS u).length 1=u.idxOf x::rest:=by
 have hlt:=List.idxOf_lt_length_of_mem h
 have hx:u[u.idxOf x]? = some x:=by rw [List.getElem?_eq_getElem hlt];exact congrArg some (List.getElem_idxOf hlt)
 rcases StrLaws.occ_head (toS u) (toS [x]) 1 (Nat.le_refl 1) with ⟨h0,hn⟩ | ⟨i,r,h0,hi,hn⟩
 ·exact absurd ((at_one u x _).mpr hx) (hn _)
 ·refine ⟨r,?_⟩
  rw [h0]
  have hi:=(at_one u x i).mp hi
  have:i=u.idxOf x:=by
   rcases Nat.lt_trichotomy i (u.idxOf x) with h1 | h1 | h1
   ·have q:=List.not_of_lt_findIdx (p:=(· == x)) h1
    obtain ⟨hl,e⟩:=List.getElem?_eq_some_iff.mp hi
    exact absurd (beq_iff_eq.mpr e) (by simpa using q)
   ·exact h1
   ·exact absurd ((at_one u x _).mpr hx) (hn _ h1)
  rw [this]
noncomputable def sk (S:List Nat):List (Key × V):=S.map fun g:Nat=>(Sum.inl (g:Int),V.bl true)
theorem sk_get (S:List Nat)(g:Nat):(valV (sk S) (Sum.inl (g:Int))).isSome=decide (g∈S):=by
 rw [← valV_any]
 unfold sk
 rw [List.any_map,Bool.eq_iff_iff,List.any_eq_true,decide_eq_true_iff]
 constructor
 ·rintro ⟨x,hx,e⟩
  have e:(Sum.inl (x:Int):Key)=Sum.inl (g:Int):=of_decide_eq_true e
  have e:=Sum.inl.inj e
  have:x=g:=by omega
  exact this ▸ hx
 ·intro h
  exact ⟨g,h,decide_eq_true rfl⟩
theorem sk_put {S:List Nat}{g:Nat}(h:g∉S):putK (sk S) (Sum.inl (g:Int)) (V.bl true)=sk (S++[g]):=by
 have e:=sk_get S g
 rw [decide_eq_false h] at e
 rw [putK_new _ (by cases h:valV (sk S) (Sum.inl (g:Int)) with | none=>rfl | some v=>rw [h] at e;cases e)]
 unfold sk
 rw [List.map_append]
 rfl
theorem sk_len (S:List Nat):(sk S).length=S.length:=by unfold sk; rw [List.length_map]
inductive spHole (vs:List V)(H:Hp)(Q:VK)(u3_:XK):Prop
 | mk:∀ (u:List L) (g:Nat) (a:Addr) (S:List Nat),(vs=[tx u,.int g,.ref a])→(Srf u)→(g < u.length)→(Sn u S)→(H a=some (.dK (sk S)))→(∀ H',H' a=some (.dK (sk (wk u g S []).1))→Sn u (wk u g S []).1→SameB a H H'→Q (tx (wk u g S []).2) H')→spHole vs H Q u3_
inductive spHoles (vs:List V)(H:Hp)(Q:VK)(u3_:XK):Prop
 | mk:∀ u,(vs=[tx u])→(Srf u)→(∀ (l:Addr) (H':Hp),H l=none→H' l=some (.lst ((hol u).map tx))→Same H H'→Q (.ref l) H')→spHoles vs H Q u3_
inductive spHandles (vs:List V)(H:Hp)(Q:VK)(u3_:XK):Prop
 | mk:∀ u,(vs=[tx u])→(Srf u)→(∀ (H':Hp),Same H H'→Q (.int ((1+(u.length:Int) / 2 - ((hol u).length:Int)) / 2)) H')→spHandles vs H Q u3_
theorem hol_txs (u:List L)(i:Nat):((holS u i).2.map tx).length≤i:=by
 rw [List.length_map]
 exact hol_len u i
end Kx
namespace Wd
noncomputable def rot (w:List L)(p:Nat):List L:=w.drop p++w.take p
end Wd
namespace Wd
structure SK (u:List L) (k:Nat):Prop where
 pm:u.Perm (fam k)
 lo:1≤k
 hi:k≤6
theorem SK.srf {u:List L}{k:Nat}(h:SK u k):Srf u:=srf_of h.lo h.hi h.pm
theorem fam_len {k:Nat}(h:k≤6):(fam k).length=2*k:=(fam_ok ⟨k,by omega⟩).2.2
theorem SK.len {u:List L}{k:Nat}(h:SK u k):u.length=2*k:=by rw [h.pm.length_eq,fam_len h.hi]
theorem fam_mem:∀ (k:Fin 7) (x:L),x∈fam k.val ↔ x.val % 6 < k.val:=by decide
theorem SK.mem {u:List L}{k:Nat}(h:SK u k)(x:L):x∈u ↔ x.val % 6 < k:=by
 rw [h.pm.mem_iff]
 exact fam_mem ⟨k,by have:=h.hi;omega⟩ x
theorem inv_mod:∀ x:L,(inv x).val % 6=x.val % 6:=by decide
theorem idx_of_get {u:List L}(nd:u.Nodup){i:Nat}{x:L}(h:u[i]? = some x):u.idxOf x=i:=by
 obtain ⟨hi,e⟩:=List.getElem?_eq_some_iff.mp h
 subst e
 exact List.Nodup.idxOf_getElem nd i hi
theorem get_idx {u:List L}{x:L}(h:x∈u):u[u.idxOf x]? = some x:=by
 have hlt:=List.idxOf_lt_length_of_mem h
 rw [List.getElem?_eq_getElem hlt]
 exact congrArg some (List.getElem_idxOf hlt)
theorem idx_lt {u:List L}{x:L}(h:x∈u):u.idxOf x < u.length:=List.idxOf_lt_length_of_mem h
theorem idx_inj {u:List L}{x y:L}(hx:x∈u)(hy:y∈u)(h:u.idxOf x=u.idxOf y):x=y:=by
 have h1:=get_idx hx
 have h2:=get_idx hy
 rw [h,h2] at h1
 exact (Option.some.inj h1).symm
noncomputable def rfI (u:List L)(a b:L):Int:=((u.idxOf b:Int) - (u.idxOf a:Int)) % (u.length:Int)
theorem mod_val {n a b:Nat}(ha:a < n)(hb:b < n):((b:Int) - (a:Int)) % (n:Int)=if a≤b then (b:Int) - a else (b:Int) - a+n:=by
 split
 ·exact Int.emod_eq_of_lt (by omega) (by omega)
 ·have:(b:Int) - a=((b:Int) - a+n)+(n:Int)*(-1):=by omega
  rw [this,Int.add_mul_emod_self_left,Int.emod_eq_of_lt (by omega) (by omega)]
  omega
theorem rf_val {u:List L}{a b:L}(ha:a∈u)(hb:b∈u):rfI u a b=if u.idxOf a≤u.idxOf b then (u.idxOf b:Int) - (u.idxOf a:Int) else (u.idxOf b:Int) - (u.idxOf a:Int)+(u.length:Int):=mod_val (idx_lt ha) (idx_lt hb)
noncomputable def ic (u:List L)(x z:L):Int:=if rfI u x z < rfI u x (inv x) then 1 else 0
noncomputable def sd (u:List L)(x y:L):Int:=ic u x y - ic u x (inv y)
structure Four (u:List L) (x y:L):Prop where
 mx:x∈u
 mX:inv x∈u
 my:y∈u
 mY:inv y∈u
 n1:u.idxOf x≠u.idxOf (inv x)
 n2:u.idxOf x≠u.idxOf y
 n3:u.idxOf x≠u.idxOf (inv y)
 n4:u.idxOf (inv x)≠u.idxOf y
 n5:u.idxOf (inv x)≠u.idxOf (inv y)
 n6:u.idxOf y≠u.idxOf (inv y)
theorem four_of {u:List L}(U:Srf u){x y:L}(hx:x∈u)(hy:y∈u)(h1:x≠y)(h2:x≠inv y):Four u x y:=by
 have hX:=U.iv x hx
 have hY:=U.iv y hy
 refine ⟨hx,hX,hy,hY,fun e=>inv_ne x (idx_inj hx hX e).symm,fun e=>h1 (idx_inj hx hy e),fun e=>h2 (idx_inj hx hY e),fun e=>h2 ?_,fun e=>h1 ?_,fun e=>inv_ne y (idx_inj hy hY e).symm⟩
 ·rw [← idx_inj hX hy e,inv_inv]
 ·have:=congrArg inv (idx_inj hX hY e)
  rw [inv_inv,inv_inv] at this
  exact this
theorem Four.swap {u:List L}{x y:L}(F:Four u x y):Four u y x:=⟨F.my,F.mY,F.mx,F.mX,F.n6,F.n2.symm,F.n4.symm,F.n3.symm,F.n5.symm,F.n1⟩
theorem sd_anti {u:List L}{x y:L}(F:Four u x y):sd u y x = - sd u x y:=by
 have a1:=idx_lt F.mx
 have a2:=idx_lt F.mX
 have a3:=idx_lt F.my
 have a4:=idx_lt F.mY
 have n1:=F.n1;have n2:=F.n2;have n3:=F.n3;have n4:=F.n4;have n5:=F.n5;have n6:=F.n6
 unfold sd ic
 rw [rf_val F.mx F.my,rf_val F.mx F.mX,rf_val F.mx F.mY,rf_val F.my F.mx,rf_val F.my F.mY,rf_val F.my F.mX]
 generalize u.idxOf x=a at *
 generalize u.idxOf (inv x)=b at *
 generalize u.idxOf y=c at *
 generalize u.idxOf (inv y)=d at *
 generalize u.length=n at *
 grind
noncomputable def sumN:Nat→(Nat→Int)→Int
 | 0,_=>0
 | n+1,f=>sumN n f+f n
theorem sumN_congr {f g:Nat→Int}:∀ (n:Nat),(∀ i,i < n→f i=g i)→sumN n f=sumN n g
 | 0,_=>rfl
 | n+1,h=>by
  show sumN n f+f n=sumN n g+g n
  rw [sumN_congr n fun i hi=>h i (by omega),h n (by omega)]
theorem sumN_zero {f:Nat→Int}(n:Nat)(h:∀ i,i < n→f i=0):sumN n f=0:=by
 rw [sumN_congr n h]
 clear h
 induction n with
 | zero=>rfl
 | succ n ih =>
  show sumN n (fun _=>0)+0=0
  rw [ih]
  rfl
theorem sumN_add (f g:Nat→Int):∀ n,sumN n (fun i=>f i+g i)=sumN n f+sumN n g
 | 0=>rfl
 | n+1=>by
  show sumN n (fun i=>f i+g i)+(f n+g n)=(sumN n f+f n)+(sumN n g+g n)
  rw [sumN_add f g n]
  omega
theorem sumN_single {f:Nat→Int}{j:Nat}:∀ (n:Nat),j < n→(∀ i,i < n→i≠j→f i=0)→sumN n f=f j
 | 0,h,_=>absurd h (Nat.not_lt_zero _)
 | n+1,h,hz=>by
  show sumN n f+f n=f j
  by_cases e:j=n
  ·subst e
   rw [sumN_zero j fun i hi=>hz i (by omega) (by omega),Int.zero_add]
  ·rw [sumN_single n (by omega) fun i hi=>hz i (by omega),hz n (by omega) (fun e'=>e e'.symm),Int.add_zero]
noncomputable def lt6 (j:Nat):L:=if h:j < 12 then ⟨j,h⟩ else 0
noncomputable def dfi (w:List L)(x:L):Int:=((w.count x:Nat):Int) - ((w.count (inv x):Nat):Int)
theorem lt6_val {j:Nat}(h:j < 6):(lt6 j).val=j:=by
 unfold lt6
 rw [dif_pos (by omega)]
theorem small_mod:∀ x:L,x.val < 6→(inv x).val=x.val+6:=by decide
theorem SK.four {u:List L}{k:Nat}(h:SK u k){x y:Nat}(hx:x < k)(hy:y < k)(hn:x≠y):Four u (lt6 x) (lt6 y):=by
 have h6:=h.hi
 have vx:=lt6_val (show x < 6 by omega)
 have vy:=lt6_val (show y < 6 by omega)
 refine four_of h.srf ((h.mem _).mpr (by rw [vx];omega)) ((h.mem _).mpr (by rw [vy];omega)) (fun e=>hn ?_) (fun e=>?_)
 ·rw [← vx,← vy,e]
 ·have:=small_mod (lt6 y) (by omega)
  rw [← e] at this
  omega
theorem dfi_app (v w:List L)(x:L):dfi (v++w) x=dfi v x+dfi w x:=by
 unfold dfi
 rw [List.count_append,List.count_append]
 omega
theorem dfi_nil (x:L):dfi [] x=0:=rfl
noncomputable def tau (u:List L)(y l:L):Int:=if l=y ∨ l=inv y then 0 else ic u y (inv l) - ic u y l
noncomputable def tsum (u:List L)(y:L):List L→Int
 | []=>0
 | l::w=>tau u y l+tsum u y w
theorem dfi_one (l x:L):dfi [l] x=(if l=x then 1 else 0) - (if l=inv x then 1 else 0):=by
 have c:∀ a b:L,(([a].count b:Nat):Int)=if a=b then 1 else 0:=fun a b=>by
  rw [List.count_singleton]
  by_cases h:a=b
  ·rw [if_pos h,h]
   simp
  ·rw [if_neg h]
   simp [h]
 unfold dfi
 rw [c,c]
theorem l_small:∀ l:L,l=lt6 (l.val % 6) ∨ l=inv (lt6 (l.val % 6)):=by decide
theorem l_other:∀ (l:L) (x:Fin 6),x.val≠l.val % 6→l≠lt6 x.val∧l≠inv (lt6 x.val):=by decide
theorem l_both:∀ l:L,¬ (l=lt6 (l.val % 6)∧l=inv (lt6 (l.val % 6))):=by decide
theorem z_one {u:List L}{k:Nat}(h:SK u k){y:Nat}(hy:y < k){l:L}(hl:l∈u):sumN k (fun x=>if x=y then 0 else dfi [l] (lt6 x)*sd u (lt6 x) (lt6 y))=tau u (lt6 y) l:=by
 have h6:=h.hi
 have hj:=(h.mem l).mp hl
 rw [sumN_single k hj]
 ·unfold tau
  by_cases e:l.val % 6=y
  ·subst e
   rw [if_pos rfl,if_pos (l_small l)]
  ·rw [if_neg e]
   have q:=l_other l ⟨y,by omega⟩ (fun z=>e z.symm)
   rw [if_neg (fun z=>z.elim q.1 q.2),dfi_one]
   have F:=h.four hj hy e
   have an:=sd_anti F.swap
   rcases l_small l with e1 | e1
   ·have e2:¬ l=inv (lt6 (l.val % 6)):=fun z=>l_both l ⟨e1,z⟩
    rw [if_pos e1,if_neg e2,an,← e1]
    unfold sd
    omega
   ·have e2:¬ l=lt6 (l.val % 6):=fun z=>l_both l ⟨z,e1⟩
    have e3:lt6 (l.val % 6)=inv l:=by rw [e1,inv_inv,← e1]
    rw [if_neg e2,if_pos e1,an,e3]
    unfold sd
    rw [inv_inv]
    omega
 ·intro i hi hn
  by_cases e:i=y
  ·rw [if_pos e]
  ·rw [if_neg e,dfi_one]
   have q:=l_other l ⟨i,by omega⟩ hn
   rw [if_neg q.1,if_neg q.2]
   omega
theorem z_all {u:List L}{k:Nat}(h:SK u k){y:Nat}(hy:y < k):∀ w:List L,(∀ l∈w,l∈u)→sumN k (fun x=>if x=y then 0 else dfi w (lt6 x)*sd u (lt6 x) (lt6 y))=tsum u (lt6 y) w
 | [],_=>sumN_zero k fun x _=>by
  split
  ·rfl
  ·rw [dfi_nil,Int.zero_mul]
 | l::w,hw=>by
  have ih:=z_all h hy w fun z hz=>hw z (List.mem_cons_of_mem _ hz)
  show _=tau u (lt6 y) l+tsum u (lt6 y) w
  rw [← ih,← z_one h hy (hw l List.mem_cons_self),← sumN_add]
  refine sumN_congr k fun x _=>?_
  have e:dfi (l::w) (lt6 x)=dfi [l] (lt6 x)+dfi w (lt6 x):=dfi_app [l] w (lt6 x)
  rw [e]
  split
  ·rfl
  ·rw [Int.add_mul]
end Wd
namespace L2
open PySem PySem.Spec PyProof.Rows
section
variable {X:Cx}
end
end L2
namespace Kx
open PySem PySem.Spec PyProof.Rows L2 Wd
noncomputable def ends (k:Nat):List L:=(List.range k).map lt6++bk ((List.range k).map lt6)
theorem nodup_perm {α:Type}[DecidableEq α]:∀ (T Z:List α),T.Nodup→(∀ t∈T,t∈Z)→T.length=Z.length→Z.Perm T
 | [],Z,_,_,h=>by
  have:Z=[]:=List.eq_nil_of_length_eq_zero h.symm
  rw [this]
 | t::T,Z,nd,hs,hl=>by
  rw [List.nodup_cons] at nd
  have ht:=hs t List.mem_cons_self
  refine (List.perm_cons_erase ht).trans (List.Perm.cons t (nodup_perm T (Z.erase t) nd.2 (fun x hx=>?_) ?_))
  ·have hne:x≠t:=fun e=>nd.1 (e ▸ hx)
   exact (List.mem_erase_of_ne hne).mpr (hs x (List.mem_cons_of_mem _ hx))
  ·rw [List.length_erase_of_mem ht]
   simp only [List.length_cons] at hl
   omega
end Kx
namespace L2
open PySem PySem.Spec PyProof.Rows
noncomputable def V.w:V→V
 | .tks x _=>.str x
 | v=>v
theorem RelV.w {v:V}{u:Value}(r:RelV v u):RelV v.w u:=by
 cases v with
 | tks x t=>exact ⟨t,r⟩
 | _=>exact r
noncomputable def tWk (t:TE):TE:=fun σ H Q=>t σ H fun v H1=>Q v.w H1
theorem pe_wk {X:Cx}{e:Expr}{t:TE}(h:PE X e t):PE X e (tWk t):=fun pins s σ H Q I q =>
 thw (h pins s σ H _ I q) fun u s' ⟨v,H',I',r,q⟩=>⟨v.w,H',I',r.w,q⟩
noncomputable abbrev SpT:=Nat→Sp
structure FnOkT (P:Program) (w:World) (K:PySem.W.Frag) (mg:Str→Option Value) (base:Heap) (CX:CXT) (k:Nat) (f:Addr) (fd:FuncData) (ps:List Str) (sp:SpT):Prop where
 len:∀ n vs H Q E,sp n vs H Q E→vs.length=ps.length
 run:∀ (A:Around) (outer:List Env) (s:Shared) (H:Hp) (args:Args) (us:List Value) (vs:List V) (Q:VK) (E:XK),Room k A→Env0 P w K mg base A outer s H→BindsTo s fd args (ps.zip us)→Vals vs us→sp s.toks vs H Q E →
  codeAny (model P w) A (.call (.ref f) args) (CR CX outer P w H s Q E) s
theorem FnOkT.mono {P:Program}{w:World}{K:PySem.W.Frag}{mg:Str→Option Value}{base:Heap}{CX:CXT}{j k:Nat}{f:Addr}{fd:FuncData}{ps:List Str}{sp:SpT}(F:FnOkT P w K mg base CX j f fd ps sp)(h:j≤k) :
  FnOkT P w K mg base CX k f fd ps sp:=⟨F.len,fun A outer s H args us vs Q E hr=>F.run A outer s H args us vs Q E (hr.mono h)⟩
theorem fn_ofT {CX:CXT}{P:Program}{w:World}{K:PySem.W.Frag}{mg:Str→Option Value}{base:Heap}{k:Nat}{f:Addr}{name qual:Str}{params:Arguments}{body:List Stmt}{scope:Scope}{dV kV doc pm cdv ct oc:Value}{an od:Option Addr}
  {osl:Array (Option Value)} {N ps:List Str} {sp:SpT} (lk:K.lookup f=some ⟨oc,od,.func (PySem.W.fnOf name qual params body scope dV kV doc pm an cdv ct),osl⟩) (hcd:PySem.W.codeIn K cdv qual=true) (S:FnScope N ps scope)
  (len:∀ n vs H Q E,sp n vs H Q E→vs.length=ps.length)
  (hbody:∀ (A:Around) (outer:List Env) (s:Shared) (H:Hp) (vs:List V) (Q:VK) (E:XK),Room k (A.deeper (envOfC qual scope s.heap.objs.size f cdv))→sp s.toks vs H Q E →
   ∃ t,PSs (cxOf CX P w K mg base N qual scope f cdv A outer s H E) body t∧t { nx:=fun _ H'=>Q .non H',rt:=Q } (start N vs) H) :
  FnOkT P w K mg base CX (k+1) f (PySem.W.fnOf name qual params body scope dV kV doc pm an cdv ct) ps sp:=by
 refine ⟨len,fun A outer s H args us vs Q E hr e0 hb r hsp=>?_⟩
 have hl:=len _ _ _ _ _ hsp
 have KX:K.In s.heap:=e0.mod.kin.keeps fun b o e=>(e0.bs b o e).1
 have lim:s.heap.NoLimit:=e0.mod.nolimit.keeps fun b o e=>(e0.bs b o e).1
 have hkind:∀ y∈ps.zip us,scope.names.lookup y.1=some .local ∨ (scope.names.lookup y.1=some .cell∧((cellsFrom (s.heap.objs.size+1) scope.names []).lookup y.1).isSome=true):=fun ⟨n,v⟩ hy=>by
  rcases S.par n (List.of_mem_zip hy).1 with q | q
  ·exact .inl q
  ·exact .inr ⟨q,PySem.W.cellsFrom_some _ _ _ (.inl q)⟩
 refine codeAny_call_function hr.depth (KX _ _ lk) rfl S.co S.gen rfl (PySem.W.codeRec_of KX hcd) (hb _ _ _ _ ?_)
 refine wt (n:=s.toks) (Nat.le_refl _) (wpAny_newFunctionEnv_cells S.kind hkind fun env he s1 x hlo=>?_)
 subst he
 refine ⟨lim.keeps x.toInCall.keep,codeAny_func ?_⟩
 obtain ⟨t,ht,hq⟩:=hbody A outer s H vs Q E (hr.deeper _) hsp
 have I:Inv (cxOf CX P w K mg base N qual scope f cdv A outer s H E) [] (start N vs) H s1:=(inv_start S hr.hd e0 hl r x).up hlo
 refine wpAny_mono (ht [] s1 (start N vs) H _ I hq) (fun fl s' hs=>?_) fun e s' hs=>hs
 have fin:∀ {σ':St} {H':Hp} {v:V} {u:Value},InvW (cxOf CX P w K mg base N qual scope f cdv A outer s H E) [] σ' H' s'→RelV v u→Q v H'→CE outer P w H s Q u s' :=
  fun {σ' H' v u} J rv q=>⟨v,H',J.os,J.bare,J.base,J.hok,rv,q⟩
 cases fl with
 | ret u =>
  obtain ⟨v,σ',H',J,rv,q⟩:=hs
  exact fin J rv q
 | next =>
  obtain ⟨σ',H',J,q⟩:=hs
  exact fin (v:=V.non) (u:=Value.none) J rfl q
 | brk =>
  obtain ⟨_,_,_,q⟩:=hs
  exact False.elim q
 | cont =>
  obtain ⟨_,_,_,q⟩:=hs
  exact False.elim q
structure FncT (P:Program) (w:World) (K:PySem.W.Frag) (mg:Str→Option Value) (base:Heap) (x:Str) (ps:List Str) (k:Nat) (sp:SpT):Prop where
 ex:∃ (f:Addr) (fd:FuncData),mg x=some (.ref f)∧PySem.W.keepIn K (.ref f)=true∧Binds K fd ps []∧FnOkT P w K mg base (CXe P w) k f fd ps sp
theorem Df.okT {P:Program}{w:World}{K:PySem.W.Frag}{mg:Str→Option Value}{base:Heap}{x:Str}{st:Stmt}{N ps:List Str}{k:Nat}{sp:SpT}(D:Df K mg x st)(S:FnScope N ps (defScope st))
  (hb:∀ (kV doc pm:Value) (an:Option Addr) (cdv ct:Value) (us:List Value),us.length=ps.length→bindArgs (PySem.W.fnOf x x (defArgs st) (defBody st) (defScope st) .none kV doc pm an cdv ct) ⟨us,[]⟩=pure (ps.zip us))
  (len:∀ n vs H Q E,sp n vs H Q E→vs.length=ps.length)
  (hbody:∀ (f:Addr) (cdv:Value) (A:Around) (outer:List Env) (s:Shared) (H:Hp) (vs:List V) (Q:VK) (E:XK),Room k (A.deeper (envOfC x (defScope st) s.heap.objs.size f cdv))→sp s.toks vs H Q E →
   ∃ t,PSs (cxOf (CXe P w) P w K mg base N x (defScope st) f cdv A outer s H E) (defBody st) t∧t { nx:=fun _ H'=>Q .non H',rt:=Q } (start N vs) H):FncT P w K mg base x ps (k+1) sp:=by
 obtain ⟨f,fd,hm,F⟩:=D.ex
 refine ⟨f,fd,hm,F.kp,F.binds hb,?_⟩
 obtain ⟨oc,od,kV,doc,pm,an,cdv,ct,osl,rfl,lk,hcd⟩:=F.ex
 exact fn_ofT lk hcd S len fun A outer s H vs Q E hr hsp=>hbody f cdv A outer s H vs Q E hr hsp
noncomputable def tCallT (lo:Nat)(sp:SpT)(E:XK)(t:TA):TE:=fun σ H Q=>t σ H fun vs H1=>∀ n,lo≤n→sp n (vs++[]) H1 Q E
section
variable {X:Cx} {E:XK} {x:Str} {ps:List Str} {k j:Nat} {sp:SpT} {e:Expr} {es:List Expr} {t:TA} {p pos:Pos} {f:Addr} {fd:FuncData} {CX:CXT} {dvs:List V} {ds:List Value}
theorem run_fnT {pins:List (Addr × Obj)}{σ:St}{H:Hp}{s:Shared}{Q:VK}{us:List Value}{vs:List V}(F:FnOkT X.prog X.w X.K X.mg X.base CX k f fd ps sp)(hr:Room k X.A)(hb:Binds X.K fd ps ds)(hd:Vals dvs ds)(hx:Passes CX X E)
  (I:Inv X pins σ H s) (r:Vals vs us) (h:sp s.toks (vs++dvs) H Q E):wpAny (model X.prog X.w) X.A (call (.ref f) us) (EP X pins σ Q) X.xe s:=by
 have r2:Vals (vs++dvs) (us++ds):=r.append hd
 have hl:(us++ds).length=ps.length:=by rw [← r2.length];exact F.len _ _ _ _ _ h
 refine wpAny_call (codeAny_mono (F.run X.A X.stack s H ⟨us,[]⟩ (us++ds) (vs++dvs) Q E hr I.env0 (hb s us I.kIn hl) r2 h) fun r s' hq=>?_)
 cases r with
 | error e=>exact hx pins σ H s e s' I hq
 | ok fl =>
  cases fl with
  | ret u=>exact I.after hq
  | next=>exact False.elim hq
  | brk=>exact False.elim hq
  | cont=>exact False.elim hq
theorem pe_fnT (F:FncT X.prog X.w X.K X.mg X.base x ps j sp)(hr:Room k X.A)(hj:j≤k)(hx:Passes (CXe X.prog X.w) X E)(hg:Gl X x)(ha:PA X (e::es) t)
  (hdb:(x == ("__debug__":Str))=false:=by decide) (he:starEach (e::es) X.env=(false,eval e X.env)::starEach es X.env:=by rfl) (hpl:(backTo pos (starEach es X.env)).any (·.1)=false:=by rfl) :
  PE X (.Call (.Name x p) (e::es) [] pos) (tCallT X.lo sp E t):=by
 obtain ⟨f,fd,hm,hk,hb,F⟩:=F.ex
 intro pins s σ H Q I h
 refine wpAny_Call_Name_kw (ld_glob I hg hm ?_ hdb)
 refine PySem.W.callWith_K (h₀:=X.base) I.ok.mod.kin hk (thn (ha pos pins s σ H _ I h) fun us s1 ⟨vs,H1,I1,r,q⟩=>⟨I1.kIn,?_⟩) he hpl
 exact run_fnT (F.mono hj) hr hb .nil hx I1 r (q _ I1.low)
end
noncomputable def tStrike (lo:Nat)(to_ ta:TE):TE:=fun σ H Q=>to_ σ H fun v H1=>∃ S:Str,v = .str S∧S.length≤1000∧ta σ H1 fun y H2=>∃ (c t:Nat),y = .tks ⟨#[c]⟩ t∧0 < t∧t < lo∧Q (.str (Txt.replace S ⟨#[c]⟩ "")) H2
theorem pe_strike {X:Cx}{o a:Expr}{to_ ta:TE}{k1:Nat}{pa p1 pos:Pos}(ho:PE X o to_)(ha:PE X a ta)
  (hbase:attributeBase o "replace" X.env (eval o X.env)=eval o X.env:=by rfl)
  (hfew:((backTo pos (starEach [a,.Constant (.str "") k1 p1] X.env)).all (fun x=>!x.1) && (backToKw pos (keywordEach [] X.env)).all (fun x=>x.1.isSome)
   && decide (([a,.Constant (.str "") k1 p1]:List Expr).length+([]:List Keyword).length+(if ([]:List Keyword).isEmpty then 0 else 1) < 30))=true:=by rfl)
  (hline:(pa.endLine == pos.line)=true:=by rfl)
  (hst:backTo pos (starEach [a,.Constant (.str "") k1 p1] X.env)=[(false,eval a X.env),(false,eval (.Constant (.str "") k1 p1) X.env)]:=by rfl) :
  PE X (.Call (.Attribute o "replace" pa) [a,.Constant (.str "") k1 p1] [] pos) (tStrike X.lo to_ ta):=by
 intro pins s σ H Q I h
 have l16:sizeLine=16777216:=sizeLine_eq
 refine wpAny_Call_method_late hbase hfew hline rfl (thn (ho pins s σ H _ I h) fun uz s1 ⟨v,H1,I1,r1,S,ev,hS,h1⟩=>?_)
 subst ev
 obtain ⟨tz,rfl⟩:=r1
 refine ⟨"str","str.replace",PySem.F.plainAttrs_str,PySem.F.slot_str_replace,PySem.F.type_str_replace,typeIs_str _ _ _,(fun _ e=>nomatch e),?_⟩
 rw [hst]
 refine Calls.callWith_builtin rfl (Calls.evalArgs_plain ?_)
 refine Calls.spliced_cons (thn (ha pins s1 σ H1 _ I1 h1) fun u s2 ⟨y,H2,I2,r2,c,t,ey,h0,hl,q⟩=>?_)
 subst ey
 obtain rfl:u=Value.str ⟨#[c]⟩ t:=r2
 refine Calls.spliced_cons (Calls.Constant_str (Calls.spliced_nil ?_))
 have low:=I2.low
 have hyz:((⟨#[c]⟩:Str) == ("":Str))=false:=by
  cases e:((⟨#[c]⟩:Str) == ("":Str)) with
  | false=>rfl
  | true =>
   have e:=eq_of_beq e
   have:(⟨#[c]⟩:Str).length=("":Str).length:=by rw [e]
   have h0:("":Str).length=0:=by decide +kernel
   rw [h0] at this
   exact absurd this (by show ¬ 1=0;decide)
 have e0:("":Str).length=0:=by decide +kernel
 exact SC.replace (Nat.pos_iff_ne_zero.mp h0) (by show s2.toks≠0;omega) (by show t≠s2.toks;omega) hyz (by rw [e0];omega) fun t' k=>⟨.str _,H2,I2.tok k,⟨_,rfl⟩,q⟩
inductive rJoin1 (K:PySem.W.Frag)(x:V)(vs:List V)(H:Hp)(Q:VK):Prop
 | mk:∀ (z:Str) (p:Addr) (y:Str) (t:Tok),(x = .str z)→(vs=[.ref p])→(SqL K H p [.tks y t])→(y.length+z.length≤1000)→(Q (.tks y t) H)→rJoin1 K x vs H Q
theorem mt_join1 {X:Cx}:MtR X "str.join" (rJoin1 X.K):=by
 intro pins s σ H x vs v us Q I rx rv h
 obtain ⟨z,p,y,t,rfl,rfl,hq,hz,q⟩:=h
 obtain ⟨tz,rfl⟩:=rx
 obtain ⟨u,rfl,ru⟩:=rv.one
 cases ru
 obtain ⟨its,r,pl,_⟩:=I.list hq
 obtain ⟨u,rfl,r1⟩:=r.one
 obtain rfl:u=Value.str y t:=r1
 have hok:JoinOk z ([(y,t)].map (·.1))=true:=joinOk_of (by simp;omega)
 unfold JoinOk at hok
 rw [Bool.not_eq_true'] at hok
 exact call_meets F.slot_str_join (typeIs_str _ _ _) F.entry_str_join (F.args_str_join_2 _ _) (meets_str_join_list z tz p [(y,t)] hok) ⟨pl.isList,⟨.tks y t,H,I,rfl,q⟩⟩
noncomputable def tKGetT_k1 (K:PySem.W.Frag)(a:Addr)(Q:VK):V→Hp→Prop:=fun y H1=>∃ z z' t,y = .str z∧PySem.W.nsIn K a z=some (some (.str z' t))∧Q (.tks z' t) H1
noncomputable def tKGetT (K:PySem.W.Frag)(a:Addr)(ti:TE):TE:=fun σ H Q=>ti σ H (tKGetT_k1 K a Q)
theorem ix_kdictT {X:Cx}{a:Addr}(D:DTx X.K X.w a):IxR X (fun x y H Q=>∃ z z' t,x = .ref a∧y = .str z∧PySem.W.nsIn X.K a z=some (some (.str z' t))∧Q (.tks z' t) H):=by
 intro value slice pins s σ H x y v u Q I rx ry h hs
 obtain ⟨z,z',t',rfl,rfl,e,q⟩:=h
 cases rx
 obtain ⟨t,rfl⟩:=ry
 obtain ⟨es,n,hl,hk⟩:=D.ob
 obtain ⟨m,F⟩:=I.fr
 exact PySem.W.topItem_K F I.ok.mod.kin hl hk e ⟨.tks z' t',H,I.tok _,rfl,q⟩ hs
theorem pe_kgetT {X:Cx}{K:PySem.W.Frag}{w:World}{a:Addr}{x:Str}{i:Expr}{ti:TE}{p pos:Pos}(D:DTx K w a)(hK:X.K=K)(hw:X.w=w)(hg:Gl X x)(hm:X.mg x=some (.ref a))(hi:PE X i ti)(hs:PlainIx i)
  (hd:(x == ("__debug__":Str))=false:=by decide):PE X (.Subscript (.Name x p) i pos) (tKGetT K a ti):=by
 subst hK hw
 intro pins s σ H Q I h
 refine Subscript_ (ld_glob I hg hm (thn (hi pins s σ H _ I h) fun u s2 zq2=>?_) hd)
 obtain ⟨y,H2,I2,ry,z,z',t',e1,e2,q⟩:=zq2
 exact ix_kdictT D _ _ pins s2 σ H2 (.ref a) y (.ref a) u Q I2 rfl ry ⟨z,z',t',rfl,e1,e2,q⟩ (hs _ _)
end L2
namespace L2
open PySem PySem.Spec PyProof.Rows
theorem law_callT {P:Program}{w:World}{K:PySem.W.Frag}{mg mb:Str→Option Value}{CX:CXT}{k:Nat}{fa a:Addr}{fd:FuncData}{x:Str}{sp:SpT}{s₁:Shared}{vs:List Value}{ns:List Int}
  (KX:K.In s₁.heap) (hns:s₁.heap.Ns mainGlobals mg) (hb:s₁.heap.Ns builtinsNs mb) (hbb:∀ x:Str,x ≠ "__name__"→mb x=bootBuiltins x) (hlim:s₁.heap.NoLimit) (hg:s₁.gens=#[])
  (ha:s₁.heap.get? a=some { cls:=.type "list",data:=.seq vs.toArray }) (hi:IntsAre vs ns) (hl:ns.length≤sizeLine) (hr:Room k callerA)
  (F:∀ base:Heap,K.In base→base.Ns mainGlobals mg→FnOkT P w K mg base CX k fa fd [x] sp) (hbind:∀ (s:Shared) (u:Value),BindsTo s fd ⟨[u],[]⟩ [(x,u)])
  (hsp:∀ H:Hp,Only H→SqL K H a (ns.map V.int)→sp s₁.toks [.ref a] H (fun v _=>v = .bl true) fun _ _ _=>False)
  (hCX:∀ H e s',CX [] H s₁ (fun _ _ _=>False) e s'→False) :
  codeAny (model P w) callerA (.call (.ref fa) ⟨[.ref a],[]⟩) (fun r s'=>r = .ok (.ret (.bool true))∧OldK s₁.heap s'.heap∧s'.os=s₁.os∧AllBare s'.gens) s₁:=by
 have rv:=vals_ints hi
 have lenV:=hi.length
 -- from an abstract heap in which nothing but the script may be tracked
 have core:∀ H:Hp,Only H→SqL K H a (ns.map V.int)→HOk P w H s₁.heap→(∀ b,H b≠none→b=a)→(H a≠none→K.lookup a=none) →
   codeAny (model P w) callerA (.call (.ref fa) ⟨[.ref a],[]⟩) (fun r s'=>r = .ok (.ret (.bool true))∧OldK s₁.heap s'.heap∧s'.os=s₁.os∧AllBare s'.gens) s₁:=by
  intro H hO hS hok hA hK
  have base_of:∀ {b:Addr} {o:Obj},s₁.heap.get? b=some o→H b=none→(hidT s₁.heap H).get? b=some o:=fun e n=>hidT_get e n
  have noA:∀ {b:Addr} {o:Obj} {es:Array DictEntry} {ep:Nat},s₁.heap.get? b=some o→o.data = .dict es ep→H b=none:=fun {b o es ep} e d=>by
   cases q:H b with
   | none=>rfl
   | some u =>
    have e':b=a:=hA b (by rw [q];simp)
    subst e'
    rw [ha] at e;cases e
    have d':Data.seq vs.toArray _=Data.dict es ep:=d
    cases d'
  have nsK:∀ {b:Addr} {m:Str→Option Value},s₁.heap.Ns b m→(hidT s₁.heap H).Ns b m:=fun {b m} ⟨o,es,ep,e,d,r⟩=>⟨o,es,ep,base_of e (noA e d),d,r⟩
  have hKb:K.In (hidT s₁.heap H):=fun b o e=>base_of (KX b o e) (by
   cases q:H b with
   | none=>rfl
   | some u =>
    have e':b=a:=hA b (by rw [q];simp)
    subst e'
    rw [hK (by rw [q];simp)] at e;cases e)
  have hM:Mod K mg (hidT s₁.heap H):=⟨hKb,nsK hns,⟨mb,nsK hb,hbb⟩,let ⟨mc,h1,h2⟩:=hlim;⟨mc,nsK h1,h2⟩⟩
  have e0:Env0 P w K mg (hidT s₁.heap H) callerA [] s₁ H:=⟨rfl,hM,fun b o e=>of_hidT e,Nat.le_of_eq (hidT_size _ _),trivial,fun b hb=>absurd (show b∈([]:List Addr) from hb) (by simp),hok,.of_eq hg⟩
  refine codeAny_mono ((F _ hKb (nsK hns)).run callerA [] s₁ H ⟨[.ref a],[]⟩ [.ref a] [.ref a] _ _ hr e0 (hbind s₁ (.ref a)) (.cons rfl .nil) (hsp H hO hS)) fun r s' h=>?_
  cases r with
  | error e=>exact (hCX H e s' h).elim
  | ok fl =>
   cases fl with
   | next=>exact False.elim h
   | brk=>exact False.elim h
   | cont=>exact False.elim h
   | ret u =>
    obtain ⟨v,H',os,bare,un,hok',r',q⟩:=h
    have q':v = .bl true:=q
    subst q'
    obtain rfl:u=Value.bool true:=r'
    refine ⟨rfl,OldK.of_keep fun b o e=>?_,os,bare⟩
    cases q:H b with
    | none=>exact un.keep b o e q (by intro z;exact absurd (show b∈([]:List Addr) from z) (by simp)) (by simp)
    | some u =>
     rcases hO b with z | ⟨ob,xs,z⟩
     ·rw [q] at z;cases z
     ·have z2:=un.frzs b ob _ z
      obtain ⟨e1,_⟩:=hok b _ z
      obtain ⟨e2,_⟩:=hok' b _ z2
      rw [e] at e1;cases e1
      exact e2
 cases hk:K.lookup a with
 | some o =>
  -- the script is one of the module's own objects
  have e:=KX a o hk
  rw [ha] at e
  cases e
  refine core (fun _=>none) (fun _=>.inl rfl) (.inr ⟨_,vs.toArray,_,hk,rfl,rfl,rfl,by rw [List.size_toArray,lenV];exact hl,by simpa using rv,by rw [List.all_eq_true];intro x hx;obtain ⟨i,_,rfl⟩:=List.mem_map.mp hx;rfl⟩) (fun b u z=>by have z':(none:Option HO)=some u:=z;cases z') (fun b z=>absurd rfl z) fun z=>absurd rfl z
 | none =>
  refine core (fun b=>if b=a then some (.frz { cls:=.type "list",data:=.seq vs.toArray } (.lst (ns.map V.int))) else none) (fun b=>?_) (.inl (.inr ⟨{ cls:=.type "list",data:=.seq vs.toArray },if_pos rfl⟩)) (fun b u z=>?_) (fun b z=>?_) fun _=>hk
  ·by_cases hb:b=a
   ·exact .inr ⟨_,_,if_pos hb⟩
   ·exact .inl (if_neg hb)
  ·by_cases hb:b=a
   ·have z':=(if_pos hb).symm.trans z
    cases z'
    subst hb
    exact ⟨ha,by rw [List.length_map];exact hl,vs,_,rv,ha⟩
   ·have z':=(if_neg hb).symm.trans z
    cases z'
  ·by_cases hb:b=a
   ·exact hb
   ·exact absurd (if_neg hb) z
theorem ofPys_ints:∀ ns:List Int,PySem.W.ofPys (ns.map PyData.int)=ns.map PySem.W.WData.int
 | []=>rfl
 | n::ns=>by
  show PySem.W.ofPy (PyData.int n)::PySem.W.ofPys (ns.map PyData.int)=_
  rw [ofPys_ints ns];rfl
theorem walk_ofX {l:PySem.W.OpenLaw}{n k:Nat}{q:Program}{loose:List Str}{XP:(Str→Option Value)→Heap→Prop}{d:DefRec}{K:Params→PySem.W.Frag}{as:List Addr}{n0 t0:Nat}{CX:World→CXT}{sp:World→SpT}{x:Str}
  (he:∀ P,as=(K P).map (·.1)) (hn:l.most=some n) (hn2:n≤sizeLine) (hdf:d.params.defaults=[]) (hr:Room k callerA)
  (F:∀ (w:World) (mg:Str→Option Value) (fa:Addr) (h:Heap),(K w.params).In h→h.Ns mainGlobals mg→mg d.name=some (.ref fa) →
   ∃ fd:FuncData,(∀ (s:Shared) (u:Value),BindsTo s fd ⟨[u],[]⟩ [(x,u)]) ∧
    ∀ base:Heap,(K w.params).In base→base.Ns mainGlobals mg→FnOkT l.prog w (K w.params) mg base (CX w) k fa fd [x] (sp w))
  (hsp:∀ (w:World) (m:Nat) (H:Hp) (a:Addr) (ns:List Int),t0≤m→ns.length≤n→Only H→SqL (K w.params) H a (ns.map V.int)→sp w m [.ref a] H (fun v _=>v = .bl true) fun _ _ _=>False)
  (hCX:∀ (w:World) (H:Hp) (s:Shared) (e:Value) (s':Shared),CX w [] H s (fun _ _ _=>False) e s'→False) :
  PySem.W.WalkX q loose XP (PySem.W.X.obsZ as) (PySem.W.X.valZ K n0 t0) l.row.toRowW d [] (fun f vs=>PySem.call f vs):=by
 intro w s₀ s₁ mg mb G y fa o pm cd doc dV kV ho hd hcd hD hmg hg args vals as' Ld hpre hlay hrd hwl hlo
 obtain rfl:dV = .none:=PySem.W.Dflts.none hD hdf
 obtain rfl:kV = .none:=PySem.W.Dflts.noKw hD
 obtain ⟨a,vs,ns,rfl,rfl,hobj,hints,hlen⟩:=Att.script_of hn hpre hwl
 obtain ⟨_,ZI,_,ZT⟩:=PySem.W.X.z_facts he y
 have KX:(K w.params).In s₁.heap:=PySem.W.InK.keeps w _ _ ZI Ld.keeps
 have Ld':=Ld
 rw [← ofPys_ints] at Ld'
 have htk:t0≤s₁.toks:=PySem.W.X.script_toks (ns:=ns) Ld' ZT
 obtain ⟨fd,hb,hF⟩:=F w mg fa _ KX G.T.g hmg
 refine PySem.W.enter_call (codeAny_mono (law_callT KX G.T.g G.T.b G.T.builtins G.T.nolimit hg hobj hints (Nat.le_trans hlen hn2) hr hF hb (fun H hO hS=>hsp w _ H a ns htk hlen hO hS) fun H e s'=>hCX w H s₁ e s') fun r s' hq=>?_)
 obtain ⟨rfl,h2,h3,h4⟩:=hq
 exact ⟨.inl ⟨.bool true,.bool true,[],rfl,fun _=>rfl,.bool true,Att.post_true l _,fun _=>⟨List.Pairwise.nil,fun _ hm=>(nomatch hm)⟩⟩,h2,h3,h4⟩
end L2
namespace PySem
end PySem
namespace L2
open PySem PySem.Spec PyProof.Rows Wd
section
variable {X:Cx}
end
end L2
namespace L2
open PySem PySem.Spec PyProof.Rows Wd
noncomputable def rnd (w:List L)(t:Nat):Nat:=((w.map cp)[t % w.length]?).getD 0
theorem rnd_at {w:List L}{t:Nat}{x:L}(h:(w++w)[t]? = some x):rnd w t=cp x:=by
 unfold rnd
 have hl:=(List.getElem?_eq_some_iff.mp h).1
 rw [List.length_append] at hl
 by_cases c:t < w.length
 ·rw [Nat.mod_eq_of_lt c,List.getElem?_map]
  rw [List.getElem?_append_left c] at h
  rw [h]
  rfl
 ·have e:t % w.length=t - w.length:=by
   rw [Nat.mod_eq_sub_mod (by omega),Nat.mod_eq_of_lt (by omega)]
  rw [e,List.getElem?_map]
  rw [List.getElem?_append_right (by omega)] at h
  rw [h]
  rfl
noncomputable def rots (w:List L):List (List L):=(List.range (max 1 w.length)).map fun i=>w.drop i++w.take i
theorem least_is (ys:List Str)(h:ys≠[]):∃ m,Least m ys:=by
 have hp:0 < ys.length:=List.length_pos_iff.mpr h
 obtain ⟨h1,h2⟩:=best_least ys (ys.length - 1)
 have q:∀ i,i < ys.length→strAt ys i∈ys:=fun i hi=>by
  unfold strAt
  rw [List.getD_eq_getElem?_getD,List.getElem?_eq_getElem hi]
  exact List.getElem_mem hi
 refine ⟨strAt ys (argBest (btS ys) (ys.length - 1)),q _ (by omega),fun y hy=>?_⟩
 obtain ⟨j,hj,e⟩:=List.getElem_of_mem hy
 have:=h2 j (by omega)
 have e2:strAt ys j=y:=by
  unfold strAt
  rw [List.getD_eq_getElem?_getD,List.getElem?_eq_getElem hj,e]
  rfl
 rw [e2] at this
 exact this
end L2
namespace L2
open PySem PySem.Spec PyProof.Rows Wd
section
variable {X:Cx}
end
end L2
namespace Wd
noncomputable def img (ws:List (List L))(x:L):List L:=if x.val < 6 then ws.getD x.val [] else bk (ws.getD (x.val - 6) [])
noncomputable def sub (ws:List (List L))(u:List L):List L:=u.flatMap (img ws)
theorem inv_val (x:L):(inv x).val=if x.val < 6 then x.val+6 else x.val - 6:=by unfold inv; split <;> rfl
noncomputable def InM (n:Nat)(u:List L):Prop:=∀ x∈u,x.val % 6 < n
theorem act_mem:∀ (u st:List L) (x:L),x∈act u st→x∈u ∨ x∈st
 | [],st,x,h=>.inr h
 | y::u,st,x,h=>by
  rw [act_cons] at h
  rcases act_mem u _ x h with h | h
  ·exact .inl (List.mem_cons_of_mem _ h)
  ·cases st with
   | nil =>
    have h:x∈[y]:=h
    rw [List.mem_singleton] at h
    exact .inl (h ▸ List.mem_cons_self)
   | cons z r =>
    have h:x∈(if z=inv y then r else y::z::r):=h
    split at h
    ·exact .inr (List.mem_cons_of_mem _ h)
    ·rcases List.mem_cons.mp h with h | h
     ·exact .inl (h ▸ List.mem_cons_self)
     ·exact .inr h
theorem red_mem {u:List L}{x:L}(h:x∈red u):x∈u:=by
 unfold red at h
 rw [List.mem_reverse] at h
 rcases act_mem u [] x h with h | h
 ·exact h
 ·cases h
end Wd
namespace PySem
section
variable {prog:Program} {w:World} {A:Around} {E:Value→Shared→Prop}
end
end PySem
namespace L2
open PySem PySem.Spec PyProof.Rows Wd
section
variable {X:Cx} {pos:Pos}
inductive rNeD (x:V)(y:V)(H:Hp)(Q:VK):Prop
 | mk:∀ da db,(Dt H x da)→(Dt H y db)→(da.canLay0=true)→(db.canLay0=true)→(da.depth≤10)→(Q (.bl (!PyData.eqv da db)) H)→rNeD x y H Q
theorem op_ne_dat (hu:X.A.units+64 < cLine):OpR X (compareOp .NotEq) rNeD:=by
 intro pins s σ H x y v u Q I rx ry h
 obtain ⟨da,db,ha,hb,la,lb,dp,q⟩:=h
 obtain ⟨as,ra⟩:=ha.reads I.hok rx
 obtain ⟨bs,rb⟩:=hb.reads I.hok ry
 exact EqBoolInt.of_rcne (SeqAt.rcNeAt_reads ra rb la lb (by omega)) ⟨.bl _,H,I,rfl,q⟩
end
theorem lay_toS (u:List L):(PyData.str (toS u)).canLay0=true:=by
 unfold PyData.canLay0 PyData.strOk
 rw [← Array.all_toList,toS_cps,List.all_eq_true]
 intro c hc
 obtain ⟨x,_,rfl⟩:=List.mem_map.mp hc
 have:=cp_lt x
 exact decide_eq_true (by omega)
theorem lay_words:∀ ws:List (List L),PyData.canLayAll0 (ws.map fun u=>.str (toS u))=true
 | []=>rfl
 | u::ws=>by
  rw [List.map_cons,PyData.canLayAll0,lay_toS,lay_words ws]
  rfl
end L2
namespace L2
open PySem PySem.Spec PyProof.Rows Wd
section
variable {X:Cx}
inductive rFind1 (x:V)(vs:List V)(H:Hp)(Q:VK):Prop
 | mk:∀ z y,(x = .str z)→(vs=[.str y])→(Q (.int (Txt.find z y)) H)→rFind1 x vs H Q
theorem mt_find1:MtR X "str.find" rFind1:=by
 intro pins s σ H x vs v us Q I rx rv h
 obtain ⟨z,y,rfl,rfl,q⟩:=h
 obtain ⟨t,rfl⟩:=rx
 obtain ⟨u1,rfl,⟨t1,rfl⟩⟩:=vals1 rv
 exact SC.find ⟨.int _,H,I.tok _,⟨_,rfl⟩,q⟩
theorem ix_listK {K:PySem.W.Frag}(hK:X.K=K):IxR X (rIxL K):=by subst hK; exact ix_list
inductive rIslower (x:V)(vs:List V)(H:Hp)(Q:VK):Prop
 | mk:∀ z,(x = .str z)→(vs=[])→(Q (.bl (Txt.islower z)) H)→rIslower x vs H Q
theorem mt_islower:MtR X "str.islower" rIslower:=by
 intro pins s σ H x vs v us Q I rx rv h
 obtain ⟨z,rfl,rfl,q⟩:=h
 obtain ⟨t,rfl⟩:=rx
 cases rv
 exact SC.islower ⟨.bl _,H,I,rfl,q⟩
end
end L2
namespace L2
open PySem PySem.Spec PyProof.Rows Wd
end L2
namespace Kx
open PySem PySem.Spec PyProof.Rows L2 Wd
end Kx
namespace Wd
structure RowN (n:Nat) (u:List L):Prop where
 len:u.length=2*n
 nd:u.Nodup
 ins:InM n u
theorem sg_all {n:Nat}(h6:n≤6){x:L}(hx:x.val % 6 < n):x∈([0,1,2,3,4,5]:List L).take n++([6,7,8,9,10,11]:List L).take n:=by
 have q:∀ (n:Fin 7) (x:L),x.val % 6 < n.val→x∈([0,1,2,3,4,5]:List L).take n.val++([6,7,8,9,10,11]:List L).take n.val:=by decide
 exact q ⟨n,by omega⟩ x hx
theorem row_perm {n:Nat}{u:List L}(h1:1≤n)(h6:n≤6)(p:u.Perm (([0,1,2,3,4,5]:List L).take n++([6,7,8,9,10,11]:List L).take n)):RowN n u:=by
 have q:∀ n:Fin 7,(([0,1,2,3,4,5]:List L).take n.val++([6,7,8,9,10,11]:List L).take n.val).length=2*n.val∧(([0,1,2,3,4,5]:List L).take n.val++([6,7,8,9,10,11]:List L).take n.val).Nodup∧∀ x∈([0,1,2,3,4,5]:List L).take n.val++([6,7,8,9,10,11]:List L).take n.val,x.val % 6 < n.val:=by decide
 obtain ⟨a,b,c⟩:=q ⟨n,by omega⟩
 exact ⟨by rw [p.length_eq,a],p.nodup_iff.mpr b,fun x hx=>c x (p.mem_iff.mp hx)⟩
end Wd
namespace L2
open PySem PySem.Spec PyProof.Rows Wd
section
variable {X:Cx}
inductive rEqD (x:V)(y:V)(H:Hp)(Q:VK):Prop
 | mk:∀ da db,(Dt H x da)→(Dt H y db)→(da.canLay0=true)→(db.canLay0=true)→(da.depth≤10)→(Q (.bl (PyData.eqv da db)) H)→rEqD x y H Q
theorem op_eq_dat (hu:X.A.units+64 < cLine):OpR X (compareOp .Eq) rEqD:=by
 intro pins s σ H x y v u Q I rx ry h
 obtain ⟨da,db,ha,hb,la,lb,dp,q⟩:=h
 obtain ⟨as,ra⟩:=ha.reads I.hok rx
 obtain ⟨bs,rb⟩:=hb.reads I.hok ry
 exact SeqAt.rcAt_reads ra rb la lb (by omega) _ _ _ _ ⟨.bl _,H,I,rfl,q⟩
end
end L2
namespace Kx
open PySem PySem.Spec PyProof.Rows L2 Wd
end Kx
namespace L2
open PySem PySem.Spec PyProof.Rows Wd
section
variable {X:Cx}
end
end L2
namespace L2
open PySem PySem.Spec PyProof.Rows
section
variable {prog:Program} {w:World} {A:Around} {E:Value→Shared→Prop} {s:Shared}
end
section
variable {X:Cx}
end
end L2
namespace L2
open PySem PySem.Spec PyProof.Rows Wd
section
variable {X:Cx}
end
end L2
namespace L2
open PySem PySem.Spec PyProof.Rows Wd
end L2
namespace Kx
open PySem PySem.Spec PyProof.Rows L2 Wd
end Kx
namespace L2
open PySem PySem.Spec PyProof.Rows Wd
theorem strike_toS (u:List L)(e:L):Txt.replace (toS u) ⟨#[cp e]⟩ "" = toS (u.filter (fun x=>decide (x≠e))):=by
 have h:=replace_strikes (toS u) (cp e)
 have e0:("":Str)=⟨#[]⟩:=by decide +kernel
 rw [e0]
 have h2:(toS (u.filter (fun x=>decide (x≠e)))).cps.toList=(toS u).cps.toList.filter (· != cp e):=by
  rw [toS_cps,toS_cps,List.filter_map]
  congr 1
  refine List.filter_congr fun x _=>?_
  show decide (x≠e)=(cp x != cp e)
  by_cases z:x=e
  ·subst z;simp
  ·rw [decide_eq_true z]
   have:cp x≠cp e:=fun q=>z (cp_inj x e q)
   simp [this]
 have h3:(Txt.replace (toS u) ⟨#[cp e]⟩ ⟨#[]⟩).cps=(toS (u.filter (fun x=>decide (x≠e)))).cps:=Array.toList_inj.mp (h.trans h2.symm)
 generalize Txt.replace (toS u) ⟨#[cp e]⟩ ⟨#[]⟩=z at h3
 cases z
 cases hh:toS (u.filter (fun x=>decide (x≠e)))
 rw [hh] at h3
 exact congrArg Str.mk h3
end L2
namespace Kx
open PySem PySem.Spec PyProof.Rows L2 Wd
theorem ifsT {t u:TS}{D:Ends}{σ:L2.St}{H:Hp}(h:t D σ H):tIfS_k1 t u D σ true H:=iteT h
theorem ifsF {t u:TS}{D:Ends}{σ:L2.St}{H:Hp}(h:u D σ H):tIfS_k1 t u D σ false H:=iteF h
theorem orkT {u:TT}{σ:L2.St}{Q:Bool→Hp→Prop}{H:Hp}(h:Q true H):tOr_k1 u σ Q true H:=iteT h
theorem orkF {u:TT}{σ:L2.St}{Q:Bool→Hp→Prop}{H:Hp}(h:u σ H Q):tOr_k1 u σ Q false H:=iteF h
theorem ifkT {ta tb:TE}{σ:L2.St}{Q:VK}{H:Hp}(h:ta σ H Q):tIf_k1 ta tb σ Q true H:=iteT h
theorem ifkF {ta tb:TE}{σ:L2.St}{Q:VK}{H:Hp}(h:tb σ H Q):tIf_k1 ta tb σ Q false H:=iteF h
theorem nkF {Q:Bool→Hp→Prop}{H:Hp}(h:Q true H):tNot_k1 Q false H:=h
theorem nkT {Q:Bool→Hp→Prop}{H:Hp}(h:Q false H):tNot_k1 Q true H:=h
noncomputable def lowL (x y:L):L:=if y.val % 6 < x.val % 6 then y else y - 1
inductive spBk1 (N:Nat)(vs:List V)(H:Hp)(Q:VK)(u3_:XK):Prop
 | mk:∀ x:L,(vs=[tx [x]])→(∀ t H',0 < t→t < N→Same H H'→Q (.tks (toS [inv x]) t) H')→spBk1 N vs H Q u3_
inductive spLowL (vs:List V)(H:Hp)(Q:VK)(u3_:XK):Prop
 | mk:∀ x y:L,(vs=[tx [x],tx [y]])→(y.val % 6≠x.val % 6)→(∀ H',Same H H'→Q (tx [lowL x y]) H')→spLowL vs H Q u3_
inductive spLowered (vs:List V)(H:Hp)(Q:VK)(u3_:XK):Prop
 | mk:∀ (x:L) (u:List L),(vs=[tx [x],tx u])→(u.length≤500)→(∀ y∈u,y.val % 6≠x.val % 6)→(∀ H',Same H H'→Q (tx (u.map (lowL x))) H')→spLowered vs H Q u3_
noncomputable def X1 (C:Addr)(f:Str)(v:V)(H:Hp)(a:Addr):Prop:=∃ dx c,H a=some (Exo a C (some dx) false c)∧H dx=some (Xdt dx [(f,v)])
noncomputable def cutW (u:List L)(x:L):List L:=((u.filter fun y=>decide (y≠x)).filter fun y=>decide (y≠inv x)).map (lowL x)
inductive spCutX (CB:Addr)(N n:Nat)(vs:List V)(H:Hp)(Q:VK)(E:XK):Prop
 | mk:∀ (u:List L) (z:Str) (y:V),(vs=[tx u,y])→(y.w = .str z)→(N≤n)→(2≤u.length)→(u.length≤12)→(z.length≤100) →
  (∀ x:L,u.length≠2→x.val < u.length / 2→x.val < 6→z=toS [x]→(∃ t,y = .tks z t∧0 < t∧t < n)∧∀ H',Same H H'→Q (tx (cutW u x)) H') →
  ((u.length=2 ∨ ∀ x:L,x.val < u.length / 2→x.val < 6→z≠toS [x])→∀ b H',X1 CB "letter" (.str z) H' b→Same H H'→E (.ref b) none H')→spCutX CB N n vs H Q E
inductive spPutIn (vs:List V)(H:Hp)(Q:VK)(u3_:XK):Prop
 | mk:∀ (u:List L) (p:Nat) (v:List L),(vs=[tx u,.int (p:Int),tx v])→(p≤u.length)→(u.length≤20)→(v.length≤4)→(∀ H',Same H H'→Q (tx (u.take p++v++u.drop p)) H')→spPutIn vs H Q u3_
inductive Glu where
 | band | slide (k:Nat) | told (w:List L)
noncomputable def gluW (u:List L)(p q:Nat)(m:Nat):List L :=
 let w:=u.take p++[lt6 m]++u.drop p
 w.take q++[inv (lt6 m)]++w.drop q
noncomputable def glu (u:List L)(p q:Int):Glu :=
 if u.length=12 then .band else if 0≤p∧p≤(u.length:Int) then (if 0≤q∧q≤(u.length:Int)+1 then .told (gluW u p.toNat q.toNat (u.length / 2)) else .slide 1) else .slide 0
theorem new_x1 {C:Addr}{H:Hp}{a dx:Addr}{f:Str}{v:V}{c c':Bool}(ha:H a=none)(hd:H dx=none)(ne:dx≠a) :
  X1 C f v (upd (upd (upd H a (Exo a C (some dx) true c)) dx (Xdt dx (fillF [] ([f].zip [v])))) a (Exo a C (some dx) false c')) a:=by
 refine ⟨dx,c',upd_same,?_⟩
 rw [upd_ne ne,upd_same]
 rfl
theorem new_sameS {H:Hp}{a dx:Addr}{o o' o2:HO}(ha:H a=none)(hd:H dx=none):Same H (upd (upd (upd H a o) dx o') a o2):=fun b u e=>by
 have ne:∀ {x:Addr},H x=none→b≠x:=fun h z=>by rw [z,h] at e;cases e
 rw [upd_ne (ne ha),upd_ne (ne hd),upd_ne (ne ha)];exact e
inductive spGlued (CB CS:Addr)(vs:List V)(H:Hp)(Q:VK)(E:XK):Prop
 | mk:∀ (u:List L) (p q:Int),(vs=[tx u,.int p,.int q])→(2≤u.length)→(u.length≤12)→(∀ w,glu u p q = .told w→∀ H',Same H H'→Q (tx w) H')→(glu u p q = .band→∀ b H',X1 CB "letter" (.str "") H' b→Same H H'→E (.ref b) none H') →
  (∀ k,glu u p q = .slide k→∀ b H',X1 CS "place" (.int (k:Nat)) H' b→Same H H'→E (.ref b) none H')→spGlued CB CS vs H Q E
theorem row_perm71 {n:Nat}{u:List L}(R:RowN n u)(h6:n≤6):u.Perm (ends n):=by
 have all:∀ m:Fin 7,(ends m.val).length=2*m.val∧∀ x:L,x.val % 6 < m.val→x∈ends m.val:=by decide
 obtain ⟨e1,e2⟩:=all ⟨n,by omega⟩
 exact (nodup_perm u (ends n) R.nd (fun t ht=>e2 t (R.ins t ht)) (by rw [R.len];exact e1.symm)).symm
theorem glu_perm {u:List L}{p q m:Nat}:(gluW u p q m).Perm (lt6 m::inv (lt6 m)::u):=by
 unfold gluW
 have h:∀ (w:List L) (i:Nat) (x:L),(w.take i++[x]++w.drop i).Perm (x::w):=fun w i x=>by
  have h1:(w.take i++[x]++w.drop i).Perm ([x]++w.take i++w.drop i):=List.Perm.append_right _ List.perm_append_comm
  have h2:[x]++w.take i++w.drop i=x::w:=by rw [List.append_assoc,List.take_append_drop];rfl
  rw [h2] at h1
  exact h1
 exact (h _ q _).trans ((List.Perm.cons _ (h u p _)).trans (List.Perm.swap _ _ _))
inductive spSurfD (vs:List V)(H:Hp)(Q:VK)(u3_:XK):Prop
 | mk:∀ (d:Addr) (n:Nat),(vs=[.ref d,.int (n:Int)])→(Fd H d)→(1≤n)→(n≤6)→(∀ (u:List L) (H':Hp),RowN n u→(∀ x:L,x.val % 6 < n→x∈u)→Fd H' d→SameB d H H'→Q (tx u) H')→spSurfD vs H Q u3_
inductive spCutWord (vs:List V)(H:Hp)(Q:VK)(u3_:XK):Prop
 | mk:∀ (x:L) (u:List L),(vs=[tx [x],tx u])→(u.length≤500)→(∀ H',Same H H'→Q (if x∈u ∨ inv x∈u then .non else tx (u.map (lowL x))) H')→spCutWord vs H Q u3_
end Kx
namespace PySem
open Sem (wp)
section
variable {prog:Program} {w:World} {A:Around} {E:Value→Shared→Prop} {s:Shared} {R:Result→Shared→Prop}
end
end PySem
namespace L2
open PySem PySem.Spec PyProof.Rows
section
variable {X:Cx} {e:Expr} {es:List Expr} {t:TA} {x:Str} {p pos:Pos} {a b:Expr} {tb:TE} {ta:St→Hp→(Nat→VK)→Prop}
end
section
variable {X:Cx} {pins:List (Addr × Obj)} {σ:St} {H:Hp} {s:Shared} {n:Nat}
theorem ok_lo:({ X with lo:=n }:Cx).Ok ↔ X.Ok:=⟨fun h=>by cases h; constructor <;> assumption,fun h=>by cases h; constructor <;> assumption⟩
theorem InvW.relo (I:InvW X pins σ H s):InvW { X with lo:=n } pins σ H s:=by
 obtain ⟨h1,h2,h3,h4,h5,h6,h7,h8,h9,h10,h11⟩:=I
 exact ⟨ok_lo.mpr h1,h2,h3,h4,h5,h6,h7,h8,h9,h10,h11⟩
theorem InvW.unlo (I:InvW { X with lo:=n } pins σ H s):InvW X pins σ H s:=by
 obtain ⟨h1,h2,h3,h4,h5,h6,h7,h8,h9,h10,h11⟩:=I
 exact ⟨ok_lo.mp h1,h2,h3,h4,h5,h6,h7,h8,h9,h10,h11⟩
theorem sp_unlo {D:Ends}{f:Flow}(h:SP { X with lo:=n } pins D f s):SP X pins D f s:=by
 cases f with
 | next=>obtain ⟨a,b,c,d⟩:=h;exact ⟨a,b,c.unlo,d⟩
 | brk=>obtain ⟨a,b,c,d⟩:=h;exact ⟨a,b,c.unlo,d⟩
 | cont=>obtain ⟨a,b,c,d⟩:=h;exact ⟨a,b,c.unlo,d⟩
 | ret u=>obtain ⟨a,b,c,d,e,g⟩:=h;exact ⟨a,b,c,d.unlo,e,g⟩
end
section
variable {X:Cx} {E:XK} {pos:Pos}
end
end L2
namespace Kx
open PySem PySem.Spec PyProof.Rows L2 Wd
end Kx
namespace L2
open PySem PySem.Spec PyProof.Rows Wd
theorem in_toS (u:List L)(x:L):(!(Builtin.Str.occurrences (toS u) (toS [x]) 0 (toS u).length 1).isEmpty)=decide (x∈u):=by
 have h:=StrLaws.found_iff (toS u) (toS [x])
 have e2:∀ i,(i+(toS [x]).length≤(toS u).length∧Builtin.Str.subAt (toS u) (toS [x]) i=true) ↔ (toS u).cps.toList[i]? = some (cp x):=fun i=>StrLaws.subAt_one _ _ _
 rw [Bool.eq_iff_iff,h,decide_eq_true_iff]
 constructor
 ·rintro ⟨i,hi⟩
  have hi:=(e2 i).mp hi
  rw [toS_cps,List.getElem?_map] at hi
  obtain ⟨y,hy,e⟩:=Option.map_eq_some_iff.mp hi
  rw [← cp_inj _ _ e]
  exact List.mem_of_getElem? hy
 ·intro hx
  obtain ⟨i,hi⟩:=List.mem_iff_getElem?.mp hx
  exact ⟨i,(e2 i).mpr (by rw [toS_cps,List.getElem?_map,hi];rfl)⟩
theorem low_ne:∀ x y:L,x.val < 6→(!decide (V.str (Txt.lower (toS [y]))=V.str (toS [x])))=(decide (y≠x) && decide (y≠inv x)):=by
 have q:∀ x y:L,x.val < 6→decide ((⟨(([y].map cp).map lo1).toArray⟩:Str)=toS [x])=!(decide (y≠x) && decide (y≠inv x)):=by decide +kernel
 intro x y hx
 have q:=q x y hx
 rw [← lower_toS] at q
 have:decide (V.str (Txt.lower (toS [y]))=V.str (toS [x]))=decide (Txt.lower (toS [y])=toS [x]):=by
  by_cases h:Txt.lower (toS [y])=toS [x]
  ·rw [decide_eq_true h,h];exact decide_eq_true rfl
  ·rw [decide_eq_false h];exact decide_eq_false fun e=>h (V.str.inj e)
 rw [this,q,Bool.not_not]
theorem passes_e0 {X:Cx}:Passes (CXe X.prog X.w) X E0:=by
 rintro pins σ H s e s' I ⟨a,C,d,c,H',he,os,bare,un,hok,ha,hf,hE⟩
 exact False.elim hE
theorem pe_fnTL {X:Cx}{E:XK}{x:Str}{ps:List Str}{k j lo:Nat}{sp:SpT}{e:Expr}{es:List Expr}{t:TA}{p pos:Pos}(hlo:X.lo=lo)(F:FncT X.prog X.w X.K X.mg X.base x ps j sp)(hr:Room k X.A)(hj:j≤k)(hx:Passes (CXe X.prog X.w) X E)(hg:Gl X x)(ha:PA X (e::es) t)
  (hdb:(x == ("__debug__":Str))=false:=by decide) (he:starEach (e::es) X.env=(false,eval e X.env)::starEach es X.env:=by rfl) (hpl:(backTo pos (starEach es X.env)).any (·.1)=false:=by rfl) :
  PE X (.Call (.Name x p) (e::es) [] pos) (tCallT lo sp E t):=by
 subst hlo
 exact pe_fnT F hr hj hx hg ha hdb he hpl
theorem Fun.okT {P:Program}{w:World}{K:PySem.W.Frag}{mg:Str→Option Value}{base:Heap}{x qual:Str}{st:Stmt}{f:Addr}{fd:FuncData}{N ps:List Str}{k:Nat}{sp:SpT}(F:Fun K x qual st f fd)(S:FnScope N ps (defScope st))(len:∀ n vs H Q E,sp n vs H Q E→vs.length=ps.length)
  (hbody:∀ (cdv:Value) (A:Around) (outer:List Env) (s:Shared) (H:Hp) (vs:List V) (Q:VK) (E:XK),Room k (A.deeper (envOfC qual (defScope st) s.heap.objs.size f cdv))→sp s.toks vs H Q E →
   ∃ t,PSs (cxOf CX0 P w K mg base N qual (defScope st) f cdv A outer s H E).nox (defBody st) t∧t { nx:=fun _ H'=>Q .non H',rt:=Q } (start N vs) H):FnOkT P w K mg base CX0 (k+1) f fd ps sp:=by
 obtain ⟨oc,od,kV,doc,pm,an,cdv,ct,osl,rfl,lk,hcd⟩:=F.ex
 refine fn_ofT lk hcd S len fun A outer s H vs Q E hr hsp=>?_
 obtain ⟨t,h,q⟩:=hbody cdv A outer s H vs Q E hr hsp
 exact ⟨t,h.nox,q⟩
end L2
namespace Kx
open PySem PySem.Spec PyProof.Rows L2 Wd
noncomputable def spLaw70 (K:PySem.W.Frag)(N:Nat):SpT:=fun n vs H Q _=>∃ (a:Addr) (ns:List Int),vs=[.ref a]∧SqL K H a (ns.map V.int)∧ns.length≤63∧0 < N∧N≤n∧∀ H',Q (.bl true) H'
end Kx
namespace Wd
noncomputable def J (u v:List L):Prop:=∀ x y,u.getLast? = some x→v.head? = some y→y≠inv x
theorem rd_append:∀ (u v:List L),Rd (u++v) ↔ Rd u∧Rd v∧J u v
 | [],v=>by
  constructor
  ·intro h
   exact ⟨trivial,h,fun x y hx=>by simp at hx⟩
  ·intro h
   exact h.2.1
 | [x],[]=>by
  constructor
  ·intro h
   exact ⟨trivial,trivial,fun x y _ hy=>by simp at hy⟩
  ·intro _
   exact trivial
 | [x],y::v=>by
  constructor
  ·intro h
   refine ⟨trivial,h.2,fun a b ha hb=>?_⟩
   have ha:x=a:=by simpa using ha
   have hb:y=b:=by simpa using hb
   subst ha hb
   exact h.1
  ·intro h
   exact ⟨h.2.2 x y rfl rfl,h.2.1⟩
 | x::y::u,v=>by
  have ih:=rd_append (y::u) v
  constructor
  ·intro h
   have h2:=ih.mp h.2
   refine ⟨⟨h.1,h2.1⟩,h2.2.1,fun a b ha hb=>h2.2.2 a b ?_ hb⟩
   rw [List.getLast?_cons_cons] at ha
   exact ha
  ·intro h
   refine ⟨h.1.1,ih.mpr ⟨h.1.2,h.2.1,fun a b ha hb=>h.2.2 a b ?_ hb⟩⟩
   rw [List.getLast?_cons_cons]
   exact ha
theorem inv_eq {x y:L}(h:y=inv x):x=inv y:=by rw [h,inv_inv]
theorem rd_rev:∀ {w:List L},Rd w→Rd w.reverse
 | [],_=>trivial
 | x::w,h=>by
  rw [List.reverse_cons,rd_append]
  refine ⟨rd_rev h.tail,trivial,fun a b ha hb=>?_⟩
  have hb:x=b:=by simpa using hb
  subst hb
  cases w with
  | nil=>simp at ha
  | cons y w =>
   have ha:y=a:=by simpa using ha
   subst ha
   intro e
   exact h.1 (inv_eq e)
theorem rd_red (w:List L):Rd (red w):=rd_rev (act_rd w nil_rd)
structure Rnd (c:List L):Prop where
 ne:c≠[]
 rd:Rd c
 jn:J c c
theorem rep_head {r:List L}(h:r≠[])(n:Nat):(rep (n+1) r).head? = r.head?:=by
 show (rep n r++r).head? = _
 rw [rep_comm]
 cases r with
 | nil=>exact absurd rfl h
 | cons x r=>rfl
theorem rep_last {r:List L}(h:r≠[])(n:Nat):(rep (n+1) r).getLast? = r.getLast?:=by
 show (rep n r++r).getLast? = _
 rw [List.getLast?_append]
 cases hr:r.getLast? with
 | none=>exact absurd (List.getLast?_eq_none_iff.mp hr) h
 | some x=>rfl
theorem rnd_part {r:List L}{n:Nat}(h:Rnd (rep (n+1) r)):Rnd r:=by
 have hne:r≠[]:=by
  intro e
  subst e
  have:rep (n+1) ([]:List L)=[]:=by
   apply List.eq_nil_of_length_eq_zero
   rw [rep_length]
   rfl
  exact h.ne this
 have hr:Rd (rep n r++r):=h.rd
 rw [rd_append] at hr
 refine ⟨hne,hr.2.1,fun x y hx hy=>?_⟩
 exact h.jn x y (by rw [rep_last hne];exact hx) (by rw [rep_head hne];exact hy)
end Wd
namespace Wd
end Wd
namespace L2
open PySem PySem.Spec PyProof.Rows Wd
end L2
namespace Kx
open PySem PySem.Spec PyProof.Rows L2 Wd
end Kx
namespace L2
open PySem PySem.Spec PyProof.Rows Wd
section
variable {X:Cx}
end
end L2
namespace PySem
end PySem
namespace L2
open PySem PySem.Spec PyProof.Rows Wd
section
variable {X:Cx}
end
end L2
namespace HT
open PySem PySem.Spec PyProof.Rows
section
variable {prog:Program} {w:World} {A:Around} {E:Value→Shared→Prop} {s:Shared}
end
end HT
namespace L2
open PySem PySem.Spec PyProof.Rows Wd
section
variable {X:Cx}
end
end L2
namespace L2
open PySem PySem.Spec PyProof.Rows Wd
end L2
namespace L2
open PySem PySem.Spec PyProof.Rows Wd
theorem call_len_seqK {X:Cx}{K:PySem.W.Frag}(hK:X.K=K):CallR X (.builtin "len") (call_len_seq_r K):=by
 subst hK
 exact call_len_seq
end L2
namespace L2
open PySem PySem.Spec PyProof.Rows Wd
section
variable {X:Cx}
end
end L2
namespace HT
open PySem PySem.Spec PyProof.Rows PySem.SeqAt
end HT
namespace L2
open PySem PySem.Spec PyProof.Rows Wd
section
variable {X:Cx}
end
end L2
namespace L2
open PySem PySem.Spec PyProof.Rows Wd
end L2
namespace L2
open PySem PySem.Spec PyProof.Rows Wd
end L2
namespace L2
open PySem PySem.Spec PyProof.Rows
end L2
namespace Kx
open PySem PySem.Spec PyProof.Rows L2 Wd
theorem small71:∀ k:Fin 6,("abcdef":Str).cps.toList[k.val]? = some (cp (lt6 k.val)):=by decide +kernel
theorem glu_band {u:List L}{p q:Int}(h:u.length=12):glu u p q = .band:=by unfold glu; rw [if_pos h]
theorem glu_s0 {u:List L}{p q:Int}(h:u.length≠12)(h0:¬ (0≤p∧p≤(u.length:Int))):glu u p q = .slide 0:=by unfold glu; rw [if_neg h,if_neg h0]
theorem glu_s1 {u:List L}{p q:Int}(h:u.length≠12)(h0:0≤p∧p≤(u.length:Int))(h1:¬ (0≤q∧q≤(u.length:Int)+1)):glu u p q = .slide 1:=by unfold glu; rw [if_neg h,if_pos h0,if_neg h1]
theorem glu_ok {u:List L}{p q:Int}(h:u.length≠12)(h0:0≤p∧p≤(u.length:Int))(h1:0≤q∧q≤(u.length:Int)+1):glu u p q = .told (gluW u p.toNat q.toNat (u.length / 2)):=by unfold glu; rw [if_neg h,if_pos h0,if_pos h1]
end Kx
namespace L2
open PySem PySem.Spec PyProof.Rows
inductive tForT (X:Cx)(k:Nat)(body:List Stmt)(te:TE)(D:Ends)(σ:St)(H:Hp):Prop
 | mk:(te σ H fun v H1=>∃ z,v = .str z∧z.cps.all (· < 128)=true∧∃ Pv:Nat→St→Hp→Prop,Pv 0 σ H1 ∧
   (∀ i σ2 H2 c,z.cps[i]? = some c→Pv i σ2 H2→∀ n t,X.lo≤t→t < n→∃ tb,PSs { X with lo:=n } body tb∧tb { D with nx:=Pv (i+1),ct:=Pv (i+1),bk:=D.nx } (σ2.set k (some (.tks ⟨#[c]⟩ t))) H2) ∧
   ∀ σ2 H2,Pv z.cps.size σ2 H2→D.nx σ2 H2)→tForT X k body te D σ H
theorem ps_forT {X:Cx}{iter:Expr}{k:Nat}{x:Str}{body:List Stmt}{te:TE}{pos px:Pos}(hp:PassesOwn (model X.prog X.w) X.A X.env X.xe)(hc:X.calm=true)(hi:PE X iter te)(hN:X.N.Nodup)(hk:X.N[k]? = some x)(hx:Loc X.env.scope x)(hf:X.fn x=true ∨ X.env.scope.names.lookup x=some .local)
  (hs:∀ x,foldedSetIterable iter X.env x=pure x:=by intro _;rfl):PS X (.For (.Name x px) iter body [] pos) (tForT X k body te):=by
 intro pins s σ H D I h
 obtain ⟨h⟩:=h
 refine wpAny_For (thn (hi pins s σ H _ I h) fun v s1 h1=>?_) hs
 obtain ⟨y,H1,I1,r1,z,ey,ha,Pv,p0,hb,hd⟩:=h1
 subst ey
 obtain ⟨tz,rfl⟩:=r1
 refine wpAny_pyIter_ascii ha ?_
 have T:Turn X.prog X.w X.K (.Name x px) (Its z) [s1.heap.objs.size] s1.heap.objs.size (fun i h=>h.IsStrIter s1.heap.objs.size "str_ascii_iterator" z tz i) :=
  turn_of_walks (T:="str_ascii_iterator") (fl:=fun i=>#[.str z tz,.int i 0]) (fun A hh=>Walks.strAscii hh _ z tz) (fun i h st=>st) (by decide) (fun i H g=>g) (fun i H g=>g) (fun i H u _ hu=>its_yld hu) (fun A i s Q E st h=>wpAny_pyIter_striter_ascii st h)
 have f2:∀ b∈[s1.heap.objs.size],FpOk X pins H1 b:=fun b hb=>by
  have e:b=s1.heap.objs.size:=by simpa using hb
  subst e
  exact I1.fpOk (Nat.le_refl _) (I1.hok.fresh (Nat.le_refl _))
 have I2:=(I1.kept (t':=s1.toks) fun b o e=>Heap.get?_push_of_some { cls:=.type "str_ascii_iterator",data:=.fields #[.str z tz,.int 0 0] } e).up I1.low
 have stat:∀ {H':Hp},(∀ b∈[s1.heap.objs.size],H' b=none)→∀ b∈[s1.heap.objs.size],FpOk X pins H' b:=fun hn b hb=>⟨hn b hb,(f2 b hb).2⟩
 have st0:(s1.heap.push { cls:=.type "str_ascii_iterator",data:=.fields #[.str z tz,.int 0 0] }).IsStrIter s1.heap.objs.size "str_ascii_iterator" z tz 0:=⟨_,Heap.get?_push_size _ rfl,rfl,rfl⟩
 generalize s1.heap.objs.size=it at T f2 stat I2 st0 ⊢
 refine codeAny_forLoop_any (fun n s'=>∃ i σ' H',n=z.cps.size - i∧i≤z.cps.size∧Inv X pins σ' H' s'∧s'.heap.IsStrIter it "str_ascii_iterator" z tz i∧(∀ b∈[it],H' b=none)∧Pv i σ' H') ?_ z.cps.size ⟨0,σ,H1,rfl,Nat.zero_le _,I2,st0,fun b hb=>(f2 b hb).1,p0⟩
 rintro n s3 ⟨i,σ3,H3,rfl,hi,I3,st3,fr3,w3⟩
 by_cases hlt:i < z.cps.size
 rotate_left
 ·have e:i=z.cps.size:=by omega
  subst e
  refine wpAny_passesOwn hp (thn (T.done X rfl rfl rfl hc z.cps.size pins s3 σ3 H3 X.xe I3 (stat fr3) st3 rfl) fun r s4 zq38=>?_)
  obtain ⟨hr,I4⟩:=zq38
  subst hr
  exact wpAny_execs_nil ⟨σ3,H3,I4,hd _ _ w3⟩
 ·have hcs:z.cps[i]? = some z.cps[i]:=Array.getElem?_eq_getElem hlt
  refine wpAny_passesOwn hp (wpAny_pyNext_ascii_item st3 hcs fun h' hit' hs'=>?_)
  obtain ⟨f0,f1,f2',f3,f4,f5⟩:=stat fr3 it (by simp)
  have I4:Inv X pins σ3 H3 { s3 with heap:=h',toks:=s3.toks+1 }:=(I3.turned (fun b o hb e=>hs'.extBut b o hb e) f0 f1 f3 f4 f5).up (Nat.le_succ_of_le I3.low)
  have st4:({ s3 with heap:=h',toks:=s3.toks+1 }:Shared).heap.IsStrIter it "str_ascii_iterator" z tz (i+1):=hit'
  have I5':=I4.pinned (stat fr3) (T.obj _ _ st4)
  obtain ⟨o,eo,co,do_⟩:=hit'
  refine wpAny_passesOwn hp (go_of (s:={ s3 with heap:=h',toks:=s3.toks+1 }) eo co do_ (by decide) ?_)
  obtain ⟨tb,hb1,q⟩:=hb i σ3 H3 _ hcs w3 (s3.toks+1) s3.toks I3.low (Nat.lt_succ_self _)
  refine wpAny_passesOwn hp (wpAny_assign_Name (wt (Nat.le_refl (s3.toks+1)) (store_okW2 (v:=.tks ⟨#[z.cps[i]]⟩ s3.toks) I5'.toInvW hN hk hx rfl (fun s6 I6 _ l6=>?_) hf)))
  refine wpAny_passesOwn hp (wt (n:=X.lo) (Nat.le_trans I3.low (Nat.le_trans (Nat.le_succ _) l6)) (wpAny_mono (hb1 _ s6 _ H3 _ ⟨I6.relo,l6⟩ q) (fun f s7 q7 l7=>?_) fun _ _ z=>z))
  have q7:=sp_unlo q7
  have again:∀ {σ7:St} {H7:Hp},Inv X (pins++pinsAt [it] h') σ7 H7 s7→Pv (i+1) σ7 H7→∃ m,m < z.cps.size - i∧∃ i σ' H',m=z.cps.size - i∧i≤z.cps.size∧Inv X pins σ' H' s7∧s7.heap.IsStrIter it "str_ascii_iterator" z tz i∧(∀ b∈[it],H' b=none)∧Pv i σ' H':=fun {σ7 H7} I7 n7=>by
   refine ⟨z.cps.size - (i+1),by omega,i+1,σ7,H7,rfl,hlt,I7.unpinned,T.keep _ _ _ st4 fun b hb o e=>(I7.pin (b,o) (List.mem_append_right _ (List.mem_append_right _ (mem_pinsAt hb e)))).1,fun b hb=>?_,n7⟩
   obtain ⟨o,e,d⟩:=T.obj _ _ st4 b hb
   exact (I7.pin (b,o) (List.mem_append_right _ (List.mem_append_right _ (mem_pinsAt hb e)))).2.1
  cases f with
  | next=>obtain ⟨σ7,H7,I7,n7⟩:=q7;exact again (I7.up l7) n7
  | cont=>obtain ⟨σ7,H7,I7,n7⟩:=q7;exact again (I7.up l7) n7
  | brk=>obtain ⟨σ7,H7,I7,q7⟩:=q7;exact ⟨σ7,H7,(I7.up l7).unpinned,q7⟩
  | ret v=>obtain ⟨x7,σ7,H7,I7,r7,q7⟩:=q7;exact ⟨x7,σ7,H7,(I7.up l7).unpinned,r7,q7⟩
end L2
namespace Tv
open PySem PyProof.Rows
theorem wpS_ifT {σ:Type}{M:Model}{A:Around}{E:Value→Shared→Prop}{s:Shared}{α:Type}{c:Prop}[Decidable c]{x y:StateT σ Sem α}{Q:α→σ→Prop}{st:σ}(h:c)(p:wpS M A E s x Q st):wpS M A E s (if c then x else y) Q st:=by
 rw [if_pos h];exact p
theorem wpS_ifF {σ:Type}{M:Model}{A:Around}{E:Value→Shared→Prop}{s:Shared}{α:Type}{c:Prop}[Decidable c]{x y:StateT σ Sem α}{Q:α→σ→Prop}{st:σ}(h:¬ c)(p:wpS M A E s y Q st):wpS M A E s (if c then x else y) Q st:=by
 rw [if_neg h];exact p
noncomputable def kof (κ:KeyKind)(p:Keyed):κ.α:=(κ.keyOf p.1).getD κ.dflt
noncomputable def Gd (κ:KeyKind)(p:Keyed):Prop:=∃ a,κ.keyOf p.1=some a
theorem Gd.eq {κ:KeyKind}{p:Keyed}(h:Gd κ p):κ.keyOf p.1=some (kof κ p):=by
 obtain ⟨a,e⟩:=h
 unfold kof
 rw [e]
 rfl
structure TB (kd:SortKind) (st:SortSt):Prop where
 kind:kindOf st=kd
 failed:failedOf st=none
noncomputable def Lt1 (κ:KeyKind)(prog:Program)(w:World)(A:Around)(s:Shared)(kd:SortKind):Prop:=∀ (E:Value→Shared→Prop) (x y:Value) (a b:κ.α) (Q:Bool→Shared→Prop),κ.keyOf x=some a→κ.keyOf y=some b→Q (κ.blt a b) s→wpAny (model prog w) A (keyLt' kd x y) Q E s
noncomputable def gal:Bool→Keyed→Array Keyed→Nat→Nat→Nat→StateT SortSt Sem (Option Nat):=sortPriv% PySem.Builtin.gallop
noncomputable def gbd (lf:Bool)(key:Keyed)(arr:Array Keyed)(b i:Nat):StateT SortSt Sem (Option Bool):=do
 let it ← elem' arr (b+i)
 if lf then lt' it key else return (← lt' key it).map (!·)
noncomputable def galB (lf:Bool)(key:Keyed)(arr:Array Keyed)(b n d0 u0:Nat):StateT SortSt Sem (Option Nat):=do
 let mut dn:=d0
 let mut up:=u0
 for _ in [0:n] do
  if dn≥up then break
  let md:=dn+(up - dn) / 2
  let some mr ← gbd lf key arr b md | return none
  if mr then dn:=md+1 else up:=md
 return some up
theorem gal_eq (lf:Bool)(key:Keyed)(arr:Array Keyed)(b n h:Nat):gal lf key arr b n h=(do
 let mut la:=0
 let mut of:=1
 let some rt ← gbd lf key arr b h | return none
 if rt then
  for _ in [0:n] do
   if of≥n - h then break
   let some mr ← gbd lf key arr b (h+of) | return none
   if !mr then break
   la:=of
   of:=2*of+1
  galB lf key arr b n (h+la+1) (h+min of (n - h))
 else
  for _ in [0:n] do
   if of≥h+1 then break
   let some fd ← gbd lf key arr b (h - of) | return none
   if fd then break
   la:=of
   of:=2*of+1
  galB lf key arr b n (h+1 - min of (h+1)) (h - la)):=rfl
section
variable {prog:Program} {w:World} {A:Around} {E:Value→Shared→Prop} {s:Shared} {κ:KeyKind} {kd:SortKind}
theorem wpS_lt {st:SortSt}{x y:Keyed}{Q:Option Bool→SortSt→Prop}(hO:Lt1 κ prog w A s kd)(hB:TB kd st)(hx:Gd κ x)(hy:Gd κ y)(h:Q (some (κ.blt (kof κ x) (kof κ y))) st):wpS (model prog w) A E s (lt' x y) Q st:=by
 rw [lt'_eq]
 refine wpS_bind (wpS_get ?_)
 rw [hB.kind]
 refine wpS_bind (wpS_lift (wpAny_attempt (hO _ x.1 y.1 _ _ _ hx.eq hy.eq ⟨rfl,?_⟩)))
 exact wpS_pure h
noncomputable def bdB (κ:KeyKind)(lf:Bool)(key:κ.α)(x:κ.α):Bool:=if lf then κ.blt x key else !κ.blt key x
theorem wpS_gbd {st:SortSt}{lf:Bool}{key p:Keyed}{arr:Array Keyed}{b i:Nat}{Q:Option Bool→SortSt→Prop}(hO:Lt1 κ prog w A s kd)(hB:TB kd st)(hk:Gd κ key)(e:arr[b+i]? = some p)(hp:Gd κ p)
  (h:Q (some (bdB κ lf (kof κ key) (kof κ p))) st):wpS (model prog w) A E s (gbd lf key arr b i) Q st:=by
 unfold gbd
 rw [elem'_eq,e]
 refine wpS_bind (wpS_pure ?_)
 unfold bdB at h
 cases lf with
 | true=>exact wpS_lt hO hB hp hk h
 | false=>exact wpS_bind (wpS_lt hO hB hk hp (wpS_pure h))
theorem wpS_gal {st:SortSt}{lf:Bool}{key:Keyed}{arr:Array Keyed}{b n h:Nat}{Q:Option Nat→SortSt→Prop}(hO:Lt1 κ prog w A s kd)(hB:TB kd st)(hk:Gd κ key)(B:Nat→Bool)(hh:h < n)
  (at_:∀ i,i < n→∃ p,arr[b+i]? = some p∧Gd κ p∧bdB κ lf (kof κ key) (kof κ p)=B i) (mono:∀ i j,i≤j→j < n→B j=true→B i=true)
  (hq:∀ k,k≤n→(∀ i,i < k→B i=true)→(∀ i,k≤i→i < n→B i=false)→Q (some k) st):wpS (model prog w) A E s (gal lf key arr b n h) Q st:=by
 have ask:∀ {i:Nat} {R:Option Bool→SortSt→Prop},i < n→R (some (B i)) st→wpS (model prog w) A E s (gbd lf key arr b i) R st:=fun {i R} hi r=>by
  obtain ⟨p,e,g,eb⟩:=at_ i hi
  exact wpS_gbd hO hB hk e g (by rw [eb];exact r)
 have no:∀ i j,i≤j→j < n→B i=false→B j=false:=fun i j hij hj e=>by
  cases ej:B j with
  | false=>rfl
  | true=>rw [mono i j hij hj ej] at e;cases e
 -- the last part
 have fin:∀ dn up,dn≤up→up≤n→(∀ i,i < dn→B i=true)→(∀ i,up≤i→i < n→B i=false)→wpS (model prog w) A E s (galB lf key arr b n dn up) Q st:=by
  intro dn up h1 h2 h3 h4
  unfold galB
  refine wpS_bind (wpS_mono (wpS_forRange (I:=fun x c st'=>st'=st∧∃ dn up,c=(none,dn,up)∧dn≤up∧up≤n∧up - dn≤n - x∧(∀ i,i < dn→B i=true)∧(∀ i,up≤i→i < n→B i=false))
   (Q:=fun c st'=>st'=st∧∃ k,c=(none,k,k)∧k≤n∧(∀ i,i < k→B i=true)∧(∀ i,k≤i→i < n→B i=false)) ?step ?fin ⟨rfl,dn,up,rfl,h1,h2,by omega,h3,h4⟩) ?post)
  case post =>
   rintro c st' ⟨rfl,k,rfl,a1,a2,a3⟩
   exact wpS_pure (hq k a1 a2 a3)
  case fin =>
   rintro c st' ⟨rfl,dn,up,rfl,a1,a2,a3,a4,a5⟩
   have:dn=up:=by omega
   subst this
   exact ⟨rfl,dn,rfl,a2,a4,a5⟩
  case step =>
   rintro x c st' _ hx ⟨rfl,dn,up,rfl,a1,a2,a3,a4,a5⟩
   dsimp only
   by_cases hd:dn≥up
   ·refine wpS_ifT hd ?_
    have:dn=up:=by omega
    subst this
    exact wpS_pure ⟨rfl,dn,rfl,a2,a4,a5⟩
   ·refine wpS_ifF hd ?_
    refine wpS_bind (ask (by omega) ?_)
    cases eb:B (dn+(up - dn) / 2) with
    | true =>
     simp only [if_true]
     exact wpS_pure ⟨rfl,dn+(up - dn) / 2+1,up,rfl,by omega,a2,by omega,fun i hi=>mono i _ (by omega) (by omega) eb,a5⟩
    | false =>
     simp only [Bool.false_eq_true,if_false]
     exact wpS_pure ⟨rfl,dn,dn+(up - dn) / 2,rfl,by omega,by omega,by omega,a4,fun i hi1 hi2=>no _ i (by omega) hi2 eb⟩
 rw [gal_eq]
 refine wpS_bind (ask hh ?_)
 cases eh:B h with
 | true =>
  dsimp only
  refine wpS_ifT rfl ?_
  refine wpS_bind (wpS_mono (wpS_forRange (I:=fun x c st'=>st'=st∧∃ la of,c=(none,la,of)∧la < of∧x+1≤of∧h+la < n∧B (h+la)=true)
   (Q:=fun c st'=>st'=st∧∃ la of,c=(none,la,of)∧la < of∧h+la < n∧B (h+la)=true∧(of≥n - h ∨ (h+of < n∧B (h+of)=false))) ?step ?fin ⟨rfl,0,1,rfl,by omega,by omega,by omega,eh⟩) ?post)
  case post =>
   rintro c st' ⟨rfl,la,of,rfl,a1,a2,a3,a4⟩
   dsimp only
   refine fin (h+la+1) (h+min of (n - h)) (by omega) (by omega) (fun i hi=>mono i _ (by omega) a2 a3) fun i hi1 hi2=>?_
   rcases a4 with a4 | ⟨a4,a5⟩
   ·omega
   ·exact no _ i (by omega) hi2 a5
  case fin =>
   rintro c st' ⟨rfl,la,of,rfl,a1,a2,a3,a4⟩
   exact ⟨rfl,la,of,rfl,a1,a3,a4,.inl (by omega)⟩
  case step =>
   rintro x c st' _ hx ⟨rfl,la,of,rfl,a1,a2,a3,a4⟩
   dsimp only
   by_cases ho:of≥n - h
   ·refine wpS_ifT ho ?_
    exact wpS_pure ⟨rfl,la,of,rfl,a1,a3,a4,.inl ho⟩
   ·refine wpS_ifF ho ?_
    refine wpS_bind (ask (by omega) ?_)
    cases eb:B (h+of) with
    | true =>
     simp only [Bool.not_true,Bool.false_eq_true,if_false]
     exact wpS_pure ⟨rfl,of,2*of+1,rfl,by omega,by omega,by omega,eb⟩
    | false =>
     simp only [Bool.not_false,if_true]
     exact wpS_pure ⟨rfl,la,of,rfl,a1,a3,a4,.inr ⟨by omega,eb⟩⟩
 | false =>
  dsimp only
  refine wpS_ifF Bool.false_ne_true ?_
  refine wpS_bind (wpS_mono (wpS_forRange (I:=fun x c st'=>st'=st∧∃ la of,c=(none,la,of)∧la < of∧x+1≤of∧la≤h∧B (h - la)=false)
   (Q:=fun c st'=>st'=st∧∃ la of,c=(none,la,of)∧la < of∧la≤h∧B (h - la)=false∧(of≥h+1 ∨ (of≤h∧B (h - of)=true))) ?step ?fin ⟨rfl,0,1,rfl,by omega,by omega,by omega,eh⟩) ?post)
  case post =>
   rintro c st' ⟨rfl,la,of,rfl,a1,a2,a3,a4⟩
   dsimp only
   refine fin (h+1 - min of (h+1)) (h - la) (by omega) (by omega) (fun i hi=>?_) fun i hi1 hi2=>no _ i hi1 hi2 a3
   rcases a4 with a4 | ⟨a4,a5⟩
   ·omega
   ·exact mono i _ (by omega) (by omega) a5
  case fin =>
   rintro c st' ⟨rfl,la,of,rfl,a1,a2,a3,a4⟩
   exact ⟨rfl,la,of,rfl,a1,a3,a4,.inl (by omega)⟩
  case step =>
   rintro x c st' _ hx ⟨rfl,la,of,rfl,a1,a2,a3,a4⟩
   dsimp only
   by_cases ho:of≥h+1
   ·refine wpS_ifT ho ?_
    exact wpS_pure ⟨rfl,la,of,rfl,a1,a3,a4,.inl ho⟩
   ·refine wpS_ifF ho ?_
    refine wpS_bind (ask (by omega) ?_)
    cases eb:B (h - of) with
    | false =>
     simp only [Bool.false_eq_true,if_false]
     exact wpS_pure ⟨rfl,of,2*of+1,rfl,by omega,by omega,by omega,eb⟩
    | true =>
     simp only [if_true]
     exact wpS_pure ⟨rfl,la,of,rfl,a1,a3,a4,.inr ⟨by omega,eb⟩⟩
end
end Tv
namespace Tv
open PySem PyProof.Rows
noncomputable def mlo:Array Keyed→Array Keyed→StateT SortSt Sem (Array Keyed):=sortPriv% PySem.Builtin.mergeLo
noncomputable def smg:Nat→StateT SortSt Sem Unit:=sortPriv% PySem.Builtin.setMinGallop
noncomputable abbrev mDn (a b o:Array Keyed)(i j:Nat):Array Keyed:=o++a.extract i a.size++b.extract j b.size
noncomputable abbrev mLa (a b o:Array Keyed)(i j:Nat):Array Keyed:=o++b.extract j b.size++a.extract i a.size
theorem mlo_eq (a b:Array Keyed):mlo a b=(do
 rule "list.sort.merge-lo"
 let mut o:Array Keyed:=#[← elem' b 0]
 let mut i:=0
 let mut j:=1
 if j == b.size then return mDn a b o i j
 if i+1 == a.size then return mLa a b o i j
 let mut g:=gallopOf (← get)
 for _ in [0:a.size+b.size] do
  let mut p:=0
  let mut q:=0
  for _ in [0:a.size+b.size] do
   let some w ← lt' (← elem' b j) (← elem' a i) | return mDn a b o i j
   if w then
    o:=o.push (← elem' b j)
    j:=j+1
    q:=q+1
    p:=0
    if j == b.size then return mDn a b o i j
    if q≥g then break
   else
    o:=o.push (← elem' a i)
    i:=i+1
    p:=p+1
    q:=0
    if i+1 == a.size then return mLa a b o i j
    if p≥g then break
  rule "list.sort.gallop"
  g:=g+1
  for _ in [0:a.size+b.size] do
   if g > 1 then g:=g - 1
   smg g
   let some k ← gal false (← elem' b j) a i (a.size - i) 0 | return mDn a b o i j
   p:=k
   if k > 0 then
    o:=o++a.extract i (i+k)
    i:=i+k
    if i+1 == a.size then return mLa a b o i j
    if i == a.size then return mDn a b o i j
   o:=o.push (← elem' b j)
   j:=j+1
   if j == b.size then return mDn a b o i j
   let some k ← gal true (← elem' a i) b j (b.size - j) 0 | return mDn a b o i j
   q:=k
   if k > 0 then
    o:=o++b.extract j (j+k)
    j:=j+k
    if j == b.size then return mDn a b o i j
   o:=o.push (← elem' a i)
   i:=i+1
   if i+1 == a.size then return mLa a b o i j
   if p < 7 && q < 7 then break
  g:=g+1
  smg g
 unsupported "internal:list.sort.merge-bound"):=rfl
end Tv
namespace Tv
open PySem PyProof.Rows
variable {κ:KeyKind} {kd:SortKind}
noncomputable def lek (κ:KeyKind)(x y:Keyed):Prop:=κ.kle (kof κ x) (kof κ y)
theorem lek_trans {x y z:Keyed}(h:lek κ x y)(g:lek κ y z):lek κ x z:=KeyOrd.kle_trans h g
theorem lek_refl (x:Keyed):lek κ x x:=KeyOrd.kle_refl _
noncomputable def Srt (κ:KeyKind)(l:List Keyed):Prop:=l.Pairwise (lek κ)
theorem Srt.drop {l:List Keyed}(h:Srt κ l)(i:Nat):Srt κ (l.drop i):=List.Pairwise.sublist (List.drop_sublist i l) h
theorem Srt.take {l:List Keyed}(h:Srt κ l)(i:Nat):Srt κ (l.take i):=List.Pairwise.sublist (List.take_sublist i l) h
noncomputable def Lel (κ:KeyKind)(l m:List Keyed):Prop:=∀ x∈l,∀ y∈m,lek κ x y
theorem srt_app {l m:List Keyed}:Srt κ (l++m) ↔ Srt κ l∧Srt κ m∧Lel κ l m:=List.pairwise_append
theorem Srt.at {l:List Keyed}(h:Srt κ l){i j:Nat}{x y:Keyed}(hij:i≤j)(hx:l[i]? = some x)(hy:l[j]? = some y):lek κ x y:=by
 by_cases e:i=j
 ·subst e
  rw [hx] at hy
  cases hy
  exact lek_refl _
 ·obtain ⟨h1,e1⟩:=List.getElem?_eq_some_iff.mp hx
  obtain ⟨h2,e2⟩:=List.getElem?_eq_some_iff.mp hy
  have:=List.pairwise_iff_getElem.mp h i j h1 h2 (by omega)
  rw [e1,e2] at this
  exact this
theorem drop_cons {l:List Keyed}{i:Nat}{x:Keyed}(h:l[i]? = some x):l.drop i=x::l.drop (i+1):=by
 obtain ⟨h1,e1⟩:=List.getElem?_eq_some_iff.mp h
 rw [List.drop_eq_getElem_cons h1,e1]
theorem take_snocK {l:List Keyed}{i:Nat}{x:Keyed}(h:l[i]? = some x):l.take (i+1)=l.take i++[x]:=by
 rw [List.take_add_one,h]
 rfl
structure Mc (κ:KeyKind) (A B O:List Keyed) (i j:Nat):Prop where
 pm:O.Perm (A.take i++B.take j)
 so:Srt κ O
 la:Lel κ O (A.drop i)
 lb:Lel κ O (B.drop j)
 hi:i≤A.length
 hj:j≤B.length
theorem Mc.pushA {A B O:List Keyed}{i j:Nat}(M:Mc κ A B O i j)(sA:Srt κ A){x:Keyed}(h:A[i]? = some x)(hx:Lel κ [x] (B.drop j)):Mc κ A B (O++[x]) (i+1) j:=by
 have ed:=drop_cons h
 have sd:=sA.drop i
 rw [ed] at sd
 have sd':=List.pairwise_cons.mp sd
 refine ⟨?_,srt_app.mpr ⟨M.so,List.pairwise_singleton _ _,fun o ho y hy=>?_⟩,fun o ho y hy=>?_,fun o ho y hy=>?_,(List.getElem?_eq_some_iff.mp h).1,M.hj⟩
 ·rw [take_snocK h]
  refine (M.pm.append_right [x]).trans ?_
  rw [List.append_assoc,List.append_assoc]
  exact List.Perm.append_left _ List.perm_append_comm
 ·rw [List.mem_singleton] at hy
  subst hy
  exact M.la o ho _ (by rw [ed];exact List.mem_cons_self)
 ·rcases List.mem_append.mp ho with ho | ho
  ·exact M.la o ho y (by rw [ed];exact List.mem_cons_of_mem _ hy)
  ·rw [List.mem_singleton] at ho
   subst ho
   exact sd'.1 y hy
 ·rcases List.mem_append.mp ho with ho | ho
  ·exact M.lb o ho y hy
  ·exact hx o ho y hy
theorem Mc.pushB {A B O:List Keyed}{i j:Nat}(M:Mc κ A B O i j)(sB:Srt κ B){x:Keyed}(h:B[j]? = some x)(hx:Lel κ [x] (A.drop i)):Mc κ A B (O++[x]) i (j+1):=by
 have ed:=drop_cons h
 have sd:=sB.drop j
 rw [ed] at sd
 have sd':=List.pairwise_cons.mp sd
 refine ⟨?_,srt_app.mpr ⟨M.so,List.pairwise_singleton _ _,fun o ho y hy=>?_⟩,fun o ho y hy=>?_,fun o ho y hy=>?_,M.hi,(List.getElem?_eq_some_iff.mp h).1⟩
 ·rw [take_snocK h]
  refine (M.pm.append_right [x]).trans ?_
  rw [List.append_assoc]
 ·rw [List.mem_singleton] at hy
  subst hy
  exact M.lb o ho _ (by rw [ed];exact List.mem_cons_self)
 ·rcases List.mem_append.mp ho with ho | ho
  ·exact M.la o ho y hy
  ·exact hx o ho y hy
 ·rcases List.mem_append.mp ho with ho | ho
  ·exact M.lb o ho y (by rw [ed];exact List.mem_cons_of_mem _ hy)
  ·rw [List.mem_singleton] at ho
   subst ho
   exact sd'.1 y hy
theorem Mc.pushAs {A B O:List Keyed}{i j:Nat}(M:Mc κ A B O i j)(sA:Srt κ A):∀ k,i+k≤A.length→Lel κ ((A.drop i).take k) (B.drop j)→Mc κ A B (O++(A.drop i).take k) (i+k) j
 | 0,_,_=>by simpa using M
 | k+1,hk,hl=>by
  have hlt:i+k < A.length:=by omega
  have e:(A.drop i)[k]? = some A[i+k]:=by rw [List.getElem?_drop,List.getElem?_eq_getElem hlt]
  have et:(A.drop i).take (k+1)=(A.drop i).take k++[A[i+k]]:=take_snocK e
  rw [et] at hl ⊢
  have ih:=Mc.pushAs M sA k (by omega) fun x hx=>hl x (List.mem_append_left _ hx)
  have:=ih.pushA sA (List.getElem?_eq_getElem hlt) fun x hx=>hl x (List.mem_append_right _ hx)
  rw [List.append_assoc] at this
  exact this
theorem Mc.pushBs {A B O:List Keyed}{i j:Nat}(M:Mc κ A B O i j)(sB:Srt κ B):∀ k,j+k≤B.length→Lel κ ((B.drop j).take k) (A.drop i)→Mc κ A B (O++(B.drop j).take k) i (j+k)
 | 0,_,_=>by simpa using M
 | k+1,hk,hl=>by
  have hlt:j+k < B.length:=by omega
  have e:(B.drop j)[k]? = some B[j+k]:=by rw [List.getElem?_drop,List.getElem?_eq_getElem hlt]
  have et:(B.drop j).take (k+1)=(B.drop j).take k++[B[j+k]]:=take_snocK e
  rw [et] at hl ⊢
  have ih:=Mc.pushBs M sB k (by omega) fun x hx=>hl x (List.mem_append_left _ hx)
  have:=ih.pushB sB (List.getElem?_eq_getElem hlt) fun x hx=>hl x (List.mem_append_right _ hx)
  rw [List.append_assoc] at this
  exact this
noncomputable def Mg (κ:KeyKind)(A B R:List Keyed):Prop:=R.Perm (A++B)∧Srt κ R
theorem Mc.perm {A B O:List Keyed}{i j:Nat}(M:Mc κ A B O i j):(O++(A.drop i++B.drop j)).Perm (A++B):=by
 have h1:(O++(A.drop i++B.drop j)).Perm ((A.take i++B.take j)++(A.drop i++B.drop j)):=M.pm.append_right _
 refine h1.trans ?_
 have h2:((A.take i++B.take j)++(A.drop i++B.drop j)).Perm ((A.take i++A.drop i)++(B.take j++B.drop j)):=by
  rw [List.append_assoc,List.append_assoc]
  refine List.Perm.append_left _ ?_
  rw [← List.append_assoc,← List.append_assoc]
  exact List.Perm.append_right _ List.perm_append_comm
 rw [List.take_append_drop,List.take_append_drop] at h2
 exact h2
theorem Mc.done {A B O:List Keyed}{i j:Nat}(M:Mc κ A B O i j)(sA:Srt κ A)(sB:Srt κ B)(h:i=A.length ∨ j=B.length):Mg κ A B (O++A.drop i++B.drop j):=by
 refine ⟨by rw [List.append_assoc];exact M.perm,?_⟩
 rw [List.append_assoc]
 refine srt_app.mpr ⟨M.so,srt_app.mpr ⟨sA.drop i,sB.drop j,fun x hx y hy=>?_⟩,fun o ho y hy=>?_⟩
 ·rcases h with h | h
  ·subst h;rw [List.drop_length] at hx;cases hx
  ·subst h;rw [List.drop_length] at hy;cases hy
 ·rcases List.mem_append.mp hy with hy | hy
  ·exact M.la o ho y hy
  ·exact M.lb o ho y hy
theorem Mc.last {A B O:List Keyed}{i j:Nat}(M:Mc κ A B O i j)(sA:Srt κ A)(sB:Srt κ B)(h:i+1=A.length)(hl:∀ z,A[A.length - 1]? = some z→Lel κ B [z]):Mg κ A B (O++B.drop j++A.drop i):=by
 have hlt:i < A.length:=by omega
 have ed:A.drop i=[A[i]]:=by rw [drop_cons (List.getElem?_eq_getElem hlt),List.drop_of_length_le (by omega)]
 refine ⟨?_,?_⟩
 ·refine List.Perm.trans ?_ M.perm
  rw [List.append_assoc]
  exact List.Perm.append_left _ List.perm_append_comm
 ·rw [List.append_assoc]
  refine srt_app.mpr ⟨M.so,srt_app.mpr ⟨sB.drop j,sA.drop i,fun x hx y hy=>?_⟩,fun o ho y hy=>?_⟩
  ·rw [ed] at hy
   exact hl A[i] (by rw [show A.length - 1=i by omega];exact List.getElem?_eq_getElem hlt) x (List.mem_of_mem_drop hx) y hy
  ·rcases List.mem_append.mp hy with hy | hy
   ·exact M.lb o ho y hy
   ·exact M.la o ho y hy
theorem mDn_list (a b o:Array Keyed)(i j:Nat):(mDn a b o i j).toList=o.toList++a.toList.drop i++b.toList.drop j:=by
 simp [mDn,Array.toList_extract,List.take_of_length_le]
theorem mLa_list (a b o:Array Keyed)(i j:Nat):(mLa a b o i j).toList=o.toList++b.toList.drop j++a.toList.drop i:=by
 simp [mLa,Array.toList_extract,List.take_of_length_le]
theorem ext_list (a:Array Keyed)(i k:Nat):(a.extract i (i+k)).toList=(a.toList.drop i).take k:=by
 simp [Array.toList_extract,List.take_drop]
theorem bdB_mono {lf:Bool}{key x y:κ.α}(h:κ.kle x y)(hb:bdB κ lf key y=true):bdB κ lf key x=true:=by
 unfold bdB at hb ⊢
 cases lf with
 | true=>exact KeyOrd.klt_of_kle_of_klt h hb
 | false =>
  have hb:(!κ.blt key y)=true:=hb
  have hy:κ.kle y key:=by show κ.blt key y=false;simpa using hb
  have:=KeyOrd.kle_trans h hy
  show (!κ.blt key x)=true
  have this:κ.blt key x=false:=this
  rw [this]
  rfl
end Tv
namespace Tv
open PySem PyProof.Rows
section
variable {prog:Program} {w:World} {A:Around} {E:Value→Shared→Prop} {s:Shared} {κ:KeyKind} {kd:SortKind}
structure Ok (kd:SortKind) (st st':SortSt):Prop where
 tb:TB kd st'
 ar:arrOf st'=arrOf st
 pd:pendingOf st'=pendingOf st
theorem Ok.refl {st:SortSt}(h:TB kd st):Ok kd st st:=⟨h,rfl,rfl⟩
theorem wpS_smg {st st':SortSt}{g:Nat}{Q:Unit→SortSt→Prop}(h:Ok kd st st')(q:∀ st'',Ok kd st st''→Q () st''):wpS (model prog w) A E s (smg g) Q st':=by
 refine wpS_modify (q _ ⟨⟨h.tb.kind,h.tb.failed⟩,h.ar,h.pd⟩)
theorem wpS_elem {st:SortSt}{arr:Array Keyed}{i:Nat}{x:Keyed}{Q:Keyed→SortSt→Prop}(e:arr.toList[i]? = some x)(h:Q x st):wpS (model prog w) A E s (elem' arr i) Q st:=by
 have e':arr[i]? = some x:=by simpa using e
 rw [elem'_eq,e']
 exact wpS_pure h
theorem wpS_galR {st:SortSt}{lf:Bool}{key:Keyed}{arr:Array Keyed}{i:Nat}{Q:Option Nat→SortSt→Prop}(hO:Lt1 κ prog w A s kd)(hB:TB kd st)(hk:Gd κ key)(hg:∀ x∈arr.toList,Gd κ x)(sa:Srt κ arr.toList)(hi:i < arr.size)
  (hq:∀ k,i+k≤arr.size→(∀ x∈(arr.toList.drop i).take k,bdB κ lf (kof κ key) (kof κ x)=true)→(∀ x∈arr.toList.drop (i+k),bdB κ lf (kof κ key) (kof κ x)=false)→Q (some k) st) :
  wpS (model prog w) A E s (gal lf key arr i (arr.size - i) 0) Q st:=by
 have hl:arr.toList.length=arr.size:=Array.length_toList
 refine wpS_gal hO hB hk (fun t=>match arr.toList[i+t]? with | some p=>bdB κ lf (kof κ key) (kof κ p) | none=>false) (by omega) (fun t ht=>?_) (fun t u htu hu hb=>?_) (fun k hk' h1 h2=>hq k (by omega) (fun x hx=>?_) fun x hx=>?_)
 ·have hlt:i+t < arr.toList.length:=by omega
  have e:=List.getElem?_eq_getElem hlt
  refine ⟨arr.toList[i+t],by simpa using e,hg _ (List.getElem_mem hlt),?_⟩
  rw [e]
 ·have h1:i+t < arr.toList.length:=by omega
  have h2:i+u < arr.toList.length:=by omega
  have e1:=List.getElem?_eq_getElem h1
  have e2:=List.getElem?_eq_getElem h2
  rw [e2] at hb
  rw [e1]
  exact bdB_mono (sa.at (by omega) e1 e2) hb
 ·obtain ⟨t,e⟩:=List.getElem?_of_mem hx
  have ht:t < k:=by
   have:=(List.getElem?_eq_some_iff.mp e).1
   rw [List.length_take] at this
   omega
  rw [List.getElem?_take,if_pos ht,List.getElem?_drop] at e
  have:=h1 t ht
  rw [e] at this
  exact this
 ·obtain ⟨t,e⟩:=List.getElem?_of_mem hx
  rw [List.getElem?_drop] at e
  have hlt:=(List.getElem?_eq_some_iff.mp e).1
  have:=h2 (k+t) (by omega) (by omega)
  rw [show i+(k+t)=i+k+t by omega,e] at this
  exact this
theorem not_lt {x y:Keyed}(h:κ.blt (kof κ x) (kof κ y)=false):lek κ y x:=h
theorem is_lt {x y:Keyed}(h:κ.blt (kof κ x) (kof κ y)=true):lek κ x y:=KeyOrd.kle_of_klt h
theorem le_rest {l:List Keyed}(sl:Srt κ l){i:Nat}{x y:Keyed}(e:l[i]? = some y)(h:lek κ x y):Lel κ [x] (l.drop i):=fun z hz t ht=>by
 rw [List.mem_singleton] at hz
 subst hz
 rw [drop_cons e] at ht
 rcases List.mem_cons.mp ht with rfl | ht
 ·exact h
 ·have sd:=sl.drop i
  rw [drop_cons e] at sd
  exact lek_trans h ((List.pairwise_cons.mp sd).1 t ht)
noncomputable abbrev MSt:=Option (Array Keyed) × Array Keyed × Nat × Nat × Nat × Nat × Nat
noncomputable def jp3 (a b:Array Keyed)(i g p q:Nat)(o:Array Keyed)(j:Nat):StateT SortSt Sem (ForInStep MSt):=do
 let e ← elem' a i
 if (i+1+1 == a.size)=true then pure (.done (some (mLa a b (o.push e) (i+1) j),o.push e,i+1,j,g,p,q))
 else if (decide (p < 7) && decide (q < 7))=true then pure (.done (none,o.push e,i+1,j,g,p,q)) else pure (.yield (none,o.push e,i+1,j,g,p,q))
noncomputable def jp2 (a b:Array Keyed)(j g p q:Nat)(o:Array Keyed)(i:Nat):StateT SortSt Sem (ForInStep MSt):=do
 let e ← elem' b j
 if (j+1 == b.size)=true then pure (.done (some (mDn a b (o.push e) i (j+1)),o.push e,i,j+1,g,p,q))
 else do
  let f ← elem' a i
  let y ← gal true f b (j+1) (b.size - (j+1)) 0
  match y with
  | some k=>if k > 0 then (if (j+1+k == b.size)=true then pure (.done (some (mDn a b (o.push e++b.extract (j+1) (j+1+k)) i (j+1+k)),o.push e++b.extract (j+1) (j+1+k),i,j+1+k,g,p,k)) else jp3 a b i g p k (o.push e++b.extract (j+1) (j+1+k)) (j+1+k)) else jp3 a b i g p k (o.push e) (j+1)
  | _=>pure (.done (some (mDn a b (o.push e) i (j+1)),o.push e,i,j+1,g,p,q))
noncomputable def jp1 (a b:Array Keyed)(o:Array Keyed)(i j p q g:Nat):StateT SortSt Sem (ForInStep MSt):=do
 smg g
 let e ← elem' b j
 let y ← gal false e a i (a.size - i) 0
 match y with
 | some k=>if k > 0 then (if (i+k+1 == a.size)=true then pure (.done (some (mLa a b (o++a.extract i (i+k)) (i+k) j),o++a.extract i (i+k),i+k,j,g,k,q)) else if (i+k == a.size)=true then pure (.done (some (mDn a b (o++a.extract i (i+k)) (i+k) j),o++a.extract i (i+k),i+k,j,g,k,q)) else jp2 a b j g k q (o++a.extract i (i+k)) (i+k)) else jp2 a b j g k q o i
 | _=>pure (.done (some (mDn a b o i j),o,i,j,g,p,q))
noncomputable def Pst (κ:KeyKind)(a b:Array Keyed)(x:Nat)(st:SortSt)(r:ForInStep MSt)(st':SortSt):Prop:=match r with
 | .done c=>((∃ r z,c=(some r,z)∧Mg κ a.toList b.toList r.toList) ∨ ∃ o i j g p q,c=(none,o,i,j,g,p,q)∧Mc κ a.toList b.toList o.toList i j∧i+1 < a.size∧j < b.size∧x+2≤i+j)∧Ok kd st st'
 | .yield c=>∃ o i j g p q,c=(none,o,i,j,g,p,q)∧Mc κ a.toList b.toList o.toList i j∧i+1 < a.size∧j < b.size∧x+2≤i+j∧Ok kd st st'
structure Two (κ:KeyKind) (a b:Array Keyed):Prop where
 ga:∀ x∈a.toList,Gd κ x
 gb:∀ x∈b.toList,Gd κ x
 sa:Srt κ a.toList
 sb:Srt κ b.toList
 hl:∀ z,a.toList[a.size - 1]? = some z→Lel κ b.toList [z]
theorem Two.atA {a b:Array Keyed}(T:Two κ a b){i:Nat}(hi:i < a.size):∃ x,a.toList[i]? = some x∧Gd κ x:=⟨a.toList[i]'(by rw [Array.length_toList]; exact hi),List.getElem?_eq_getElem (by rw [Array.length_toList]; exact hi),T.ga _ (List.getElem_mem _)⟩
theorem Two.atB {a b:Array Keyed}(T:Two κ a b){i:Nat}(hi:i < b.size):∃ x,b.toList[i]? = some x∧Gd κ x:=⟨b.toList[i]'(by rw [Array.length_toList]; exact hi),List.getElem?_eq_getElem (by rw [Array.length_toList]; exact hi),T.gb _ (List.getElem_mem _)⟩
theorem Two.dn {a b:Array Keyed}(T:Two κ a b){o:Array Keyed}{i j:Nat}(M:Mc κ a.toList b.toList o.toList i j)(h:i=a.size ∨ j=b.size):Mg κ a.toList b.toList (mDn a b o i j).toList:=by
 rw [mDn_list]
 exact M.done T.sa T.sb (by rw [Array.length_toList,Array.length_toList];exact h)
theorem Two.ls {a b:Array Keyed}(T:Two κ a b){o:Array Keyed}{i j:Nat}(M:Mc κ a.toList b.toList o.toList i j)(h:i+1=a.size):Mg κ a.toList b.toList (mLa a b o i j).toList:=by
 rw [mLa_list]
 exact M.last T.sa T.sb (by rw [Array.length_toList];exact h) (by rw [Array.length_toList];exact T.hl)
theorem wpS_jp3 {st st':SortSt}{a b o:Array Keyed}{i j g p q x:Nat}{xa:Keyed}(T:Two κ a b)(M:Mc κ a.toList b.toList o.toList i j)(hi:i+1 < a.size)(hj:j < b.size)(hx:x+2≤i+j)(ok:Ok kd st st')(exa:a.toList[i]? = some xa)(hle:Lel κ [xa] (b.toList.drop j)) :
  wpS (model prog w) A E s (jp3 a b i g p q o j) (Pst (kd:=kd) κ a b x st) st':=by
 unfold jp3
 refine wpS_bind (wpS_elem exa ?_)
 have M':Mc κ a.toList b.toList (o.push xa).toList (i+1) j:=by rw [Array.toList_push];exact M.pushA T.sa exa hle
 by_cases hia:i+1+1=a.size
 ·refine wpS_ifT (by simpa using hia) ?_
  exact wpS_pure ⟨.inl ⟨_,_,rfl,T.ls M' hia⟩,ok⟩
 ·refine wpS_ifF (by simpa using hia) ?_
  by_cases hpq:(decide (p < 7) && decide (q < 7))=true
  ·refine wpS_ifT hpq ?_
   exact wpS_pure ⟨.inr ⟨_,_,_,_,_,_,rfl,M',by omega,hj,by omega⟩,ok⟩
  ·refine wpS_ifF hpq ?_
   exact wpS_pure ⟨_,_,_,_,_,_,rfl,M',by omega,hj,by omega,ok⟩
theorem bd_false {x y:Keyed}:bdB κ false (kof κ x) (kof κ y)=true→lek κ y x:=fun h=>by
 unfold bdB at h
 have h:(!κ.blt (kof κ x) (kof κ y))=true:=h
 show κ.blt (kof κ x) (kof κ y)=false
 simpa using h
theorem bd_false' {x y:Keyed}:bdB κ false (kof κ x) (kof κ y)=false→lek κ x y:=fun h=>by
 unfold bdB at h
 have h:(!κ.blt (kof κ x) (kof κ y))=false:=h
 exact is_lt (by simpa using h)
theorem bd_true {x y:Keyed}:bdB κ true (kof κ x) (kof κ y)=true→lek κ y x:=fun h=>is_lt h
theorem bd_true' {x y:Keyed}:bdB κ true (kof κ x) (kof κ y)=false→lek κ x y:=fun h=>h
theorem wpS_jp2 {st st':SortSt}{a b o:Array Keyed}{i j g p q x:Nat}{xb:Keyed}(hO:Lt1 κ prog w A s kd)(T:Two κ a b)(M:Mc κ a.toList b.toList o.toList i j)(hi:i+1 < a.size)(hj:j < b.size)(hx:x+2≤i+j)(ok:Ok kd st st')(exb:b.toList[j]? = some xb)(hle:Lel κ [xb] (a.toList.drop i)) :
  wpS (model prog w) A E s (jp2 a b j g p q o i) (Pst (kd:=kd) κ a b x st) st':=by
 have la:a.toList.length=a.size:=Array.length_toList
 have lb:b.toList.length=b.size:=Array.length_toList
 unfold jp2
 refine wpS_bind (wpS_elem exb ?_)
 have M':Mc κ a.toList b.toList (o.push xb).toList i (j+1):=by rw [Array.toList_push];exact M.pushB T.sb exb hle
 by_cases hjb:j+1=b.size
 ·refine wpS_ifT (by simpa using hjb) ?_
  exact wpS_pure ⟨.inl ⟨_,_,rfl,T.dn M' (.inr hjb)⟩,ok⟩
 refine wpS_ifF (by simpa using hjb) ?_
 obtain ⟨xa,exa,gxa⟩:=T.atA (i:=i) (by omega)
 refine wpS_bind (wpS_elem exa (wpS_bind (wpS_galR hO ok.tb gxa T.gb T.sb (by omega) fun k hk t1 t2=>?_)))
 dsimp only
 have MB:Mc κ a.toList b.toList ((o.push xb).toList++(b.toList.drop (j+1)).take k) i (j+1+k):=M'.pushBs T.sb k (by omega) fun z hz=>le_rest T.sa exa (bd_true (t1 z hz)) z (List.mem_singleton.mpr rfl)
 have rest:Lel κ [xa] (b.toList.drop (j+1+k)):=fun z hz y hy=>by
  rw [List.mem_singleton] at hz
  subst hz
  exact bd_true' (t2 y hy)
 by_cases hk0:k > 0
 ·refine wpS_ifT hk0 ?_
  have MB':Mc κ a.toList b.toList (o.push xb++b.extract (j+1) (j+1+k)).toList i (j+1+k):=by rw [Array.toList_append,ext_list];exact MB
  by_cases hje:j+1+k=b.size
  ·refine wpS_ifT (by simpa using hje) ?_
   exact wpS_pure ⟨.inl ⟨_,_,rfl,T.dn MB' (.inr hje)⟩,ok⟩
  ·refine wpS_ifF (by simpa using hje) ?_
   exact wpS_jp3 T MB' hi (by omega) (by omega) ok exa rest
 ·refine wpS_ifF hk0 ?_
  have:k=0:=by omega
  subst this
  exact wpS_jp3 T M' hi (by omega) (by omega) ok exa rest
theorem wpS_jp1 {st st':SortSt}{a b o:Array Keyed}{i j g p q x:Nat}(hO:Lt1 κ prog w A s kd)(T:Two κ a b)(M:Mc κ a.toList b.toList o.toList i j)(hi:i+1 < a.size)(hj:j < b.size)(hx:x+2≤i+j)(ok:Ok kd st st') :
  wpS (model prog w) A E s (jp1 a b o i j p q g) (Pst (kd:=kd) κ a b x st) st':=by
 have la:a.toList.length=a.size:=Array.length_toList
 have lb:b.toList.length=b.size:=Array.length_toList
 unfold jp1
 refine wpS_bind (wpS_smg ok fun st3 ok3=>?_)
 obtain ⟨xb,exb,gxb⟩:=T.atB hj
 refine wpS_bind (wpS_elem exb (wpS_bind (wpS_galR hO ok3.tb gxb T.ga T.sa (by omega) fun k hk t1 t2=>?_)))
 dsimp only
 have MA:Mc κ a.toList b.toList (o.toList++(a.toList.drop i).take k) (i+k) j:=M.pushAs T.sa k (by omega) fun z hz=>le_rest T.sb exb (bd_false (t1 z hz)) z (List.mem_singleton.mpr rfl)
 have rest:Lel κ [xb] (a.toList.drop (i+k)):=fun z hz y hy=>by
  rw [List.mem_singleton] at hz
  subst hz
  exact bd_false' (t2 y hy)
 by_cases hk0:k > 0
 ·refine wpS_ifT hk0 ?_
  have MA':Mc κ a.toList b.toList (o++a.extract i (i+k)).toList (i+k) j:=by rw [Array.toList_append,ext_list];exact MA
  by_cases h1:i+k+1=a.size
  ·refine wpS_ifT (by simpa using h1) ?_
   exact wpS_pure ⟨.inl ⟨_,_,rfl,T.ls MA' h1⟩,ok3⟩
  ·refine wpS_ifF (by simpa using h1) ?_
   by_cases h2:i+k=a.size
   ·refine wpS_ifT (by simpa using h2) ?_
    exact wpS_pure ⟨.inl ⟨_,_,rfl,T.dn MA' (.inl h2)⟩,ok3⟩
   ·refine wpS_ifF (by simpa using h2) ?_
    exact wpS_jp2 hO T MA' (by omega) hj (by omega) ok3 exb rest
 ·refine wpS_ifF hk0 ?_
  have:k=0:=by omega
  subst this
  exact wpS_jp2 hO T M hi hj hx ok3 exb rest
noncomputable abbrev TS (α:Type):=StateT SortSt Sem α
noncomputable abbrev T6:=Option (Array Keyed) × Array Keyed × Nat × Nat × Nat × Nat
noncomputable abbrev T5:=Option (Array Keyed) × Array Keyed × Nat × Nat × Nat
noncomputable def mBe {α:Type}(c:Option (Array Keyed) × α):TS (Array Keyed):=match c.1 with
 | some r=>pure r
 | none=>unsupported "internal:list.sort.merge-bound"
noncomputable def mB1 (a b:Array Keyed)(g:Nat):T6→TS (ForInStep T6):=fun (_,o,i,j,p,q)=>do
 let y ← elem' b j
 let x ← elem' a i
 let w ← lt' y x
 match w with
 | some w =>
  if w=true then do
   let e ← elem' b j
   if (j+1 == b.size)=true then pure (.done (some (mDn a b (o.push e) i (j+1)),o.push e,i,j+1,0,q+1))
   else if q+1≥g then pure (.done (none,o.push e,i,j+1,0,q+1)) else pure (.yield (none,o.push e,i,j+1,0,q+1))
  else do
   let e ← elem' a i
   if (i+1+1 == a.size)=true then pure (.done (some (mLa a b (o.push e) (i+1) j),o.push e,i+1,j,p+1,0))
   else if p+1≥g then pure (.done (none,o.push e,i+1,j,p+1,0)) else pure (.yield (none,o.push e,i+1,j,p+1,0))
 | _=>pure (.done (some (mDn a b o i j),o,i,j,p,q))
noncomputable def mB3 (a b:Array Keyed):MSt→TS (ForInStep MSt):=fun (_,o,i,j,g,p,q)=>if g > 1 then jp1 a b o i j p q (g - 1) else jp1 a b o i j p q g
noncomputable def mB2 (a b:Array Keyed)(g:Nat):T6→TS (ForInStep T5)
 | (some r,o,i,j,_)=>pure (.done (some r,o,i,j,g))
 | (none,o,i,j,p,q)=>do
  rule "list.sort.gallop"
  match ← forIn [0:a.size+b.size] ((none,o,i,j,g+1,p,q):MSt) fun _ d=>mB3 a b d with
  | (some r,o,i,j,g,_)=>pure (.done (some r,o,i,j,g))
  | (none,o,i,j,g,_)=>do
   smg (g+1)
   pure (.yield (none,o,i,j,g+1))
noncomputable def mB0 (a b:Array Keyed):T5→TS (ForInStep T5):=fun (_,o,i,j,g)=>do
 let d ← forIn [0:a.size+b.size] ((none,o,i,j,0,0):T6) fun _ d=>mB1 a b g d
 mB2 a b g d
theorem mlo_two (a b:Array Keyed):mlo a b=(do
 rule "list.sort.merge-lo"
 let e ← elem' b 0
 if (1 == b.size)=true then pure (mDn a b #[e] 0 1)
 else if (0+1 == a.size)=true then pure (mLa a b #[e] 0 1)
 else do
  let st ← get
  let c ← forIn [0:a.size+b.size] ((none,#[e],0,1,gallopOf st):T5) fun _ c=>mB0 a b c
  mBe c):=by
 rw [mlo_eq]
 refine congrArg (bind _) (funext fun u=>congrArg (bind _) (funext fun e=>congrArg (ite _ _) (congrArg (ite _ _) (congrArg (bind _) (funext fun st=>?_)))))
 refine congr (congrArg bind (congrArg (forIn _ _) (funext fun x=>funext fun c=>?_))) (funext fun c=>?_)
 ·refine congr (congrArg bind (congrArg (forIn _ _) (funext fun y=>funext fun d=>rfl))) (funext fun d=>?_)
  rcases d with ⟨_ | r,d⟩
  ·refine congrArg (bind _) (funext fun u=>?_)
   refine congr (congrArg bind (congrArg (forIn _ _) (funext fun y=>funext fun d=>rfl))) (funext fun d=>?_)
   rcases d with ⟨_ | r,d⟩ <;> rfl
  ·rfl
 ·rcases c with ⟨_ | r,c⟩ <;> rfl
theorem wpS_mlo {st:SortSt}{a b:Array Keyed}{Q:Array Keyed→SortSt→Prop}(hO:Lt1 κ prog w A s kd)(hB:TB kd st)(ga:∀ x∈a.toList,Gd κ x)(gb:∀ x∈b.toList,Gd κ x)(sa:Srt κ a.toList)(sb:Srt κ b.toList)(h0:0 < a.size)(h1:0 < b.size)
  (hf:∀ x y,a.toList[0]? = some x→b.toList[0]? = some y→lek κ y x) (hl:∀ z,a.toList[a.size - 1]? = some z→Lel κ b.toList [z])
  (hq:∀ r st',Ok kd st st'→Mg κ a.toList b.toList r.toList→Q r st'):wpS (model prog w) A E s (mlo a b) Q st:=by
 have la:a.toList.length=a.size:=Array.length_toList
 have lb:b.toList.length=b.size:=Array.length_toList
 have hl:∀ z,a.toList[a.toList.length - 1]? = some z→Lel κ b.toList [z]:=by rw [la];exact hl
 have atA:∀ {i:Nat},i < a.size→∃ x,a.toList[i]? = some x∧Gd κ x:=fun {i} hi=>⟨a.toList[i]'(by omega),List.getElem?_eq_getElem (by omega),ga _ (List.getElem_mem _)⟩
 have atB:∀ {i:Nat},i < b.size→∃ x,b.toList[i]? = some x∧Gd κ x:=fun {i} hi=>⟨b.toList[i]'(by omega),List.getElem?_eq_getElem (by omega),gb _ (List.getElem_mem _)⟩
 rw [mlo_two]
 refine wpS_bind (wpS_lift (wpAny_rule ⟨rfl,?_⟩))
 obtain ⟨y0,ey0,gy0⟩:=atB h1
 obtain ⟨x0,ex0,gx0⟩:=atA h0
 refine wpS_bind (wpS_elem ey0 ?_)
 have M0:Mc κ a.toList b.toList [y0] 0 1:=by
  have:Mc κ a.toList b.toList ([]++[y0]) 0 (0+1):=Mc.pushB (O:=[]) (i:=0) (j:=0) ⟨List.Perm.refl _,.nil,(fun x hx=>by cases hx),(fun x hx=>by cases hx),Nat.zero_le _,Nat.zero_le _⟩ sb ey0 (le_rest sa ex0 (hf _ _ ex0 ey0))
  exact this
 have dn:∀ {o:Array Keyed} {i j:Nat},Mc κ a.toList b.toList o.toList i j→(i=a.size ∨ j=b.size)→Mg κ a.toList b.toList (mDn a b o i j).toList:=fun M h=>by rw [mDn_list];exact M.done sa sb (by rw [la,lb];exact h)
 have ls:∀ {o:Array Keyed} {i j:Nat},Mc κ a.toList b.toList o.toList i j→i+1=a.size→Mg κ a.toList b.toList (mLa a b o i j).toList:=fun M h=>by rw [mLa_list];exact M.last sa sb (by rw [la];exact h) hl
 by_cases hb1:1=b.size
 ·refine wpS_ifT (by simpa using hb1) ?_
  exact wpS_pure (hq _ _ (.refl hB) (dn (o:=#[y0]) M0 (.inr hb1)))
 refine wpS_ifF (by simpa using hb1) ?_
 by_cases ha1:0+1=a.size
 ·refine wpS_ifT (by simpa using ha1) ?_
  exact wpS_pure (hq _ _ (.refl hB) (ls (o:=#[y0]) M0 ha1))
 refine wpS_ifF (by simpa using ha1) ?_
 refine wpS_bind (wpS_get ?_)
 refine wpS_bind (wpS_mono (wpS_forRange (I:=fun x c st'=>∃ o i j g,c=(none,o,i,j,g)∧Mc κ a.toList b.toList o.toList i j∧i+1 < a.size∧j < b.size∧x+1≤i+j∧Ok kd st st')
  (Q:=fun c st'=>∃ r z,c=(some r,z)∧Mg κ a.toList b.toList r.toList∧Ok kd st st') ?step ?fin ⟨#[y0],0,1,_,rfl,M0,by omega,by omega,by omega,.refl hB⟩) ?post)
 case post =>
  rintro c st' ⟨r,z,rfl,m,ok⟩
  unfold mBe
  exact wpS_pure (hq _ _ ok m)
 case fin =>
  rintro c st' ⟨o,i,j,g,rfl,M,hi,hj,hx,ok⟩
  omega
 case step =>
  rintro x c st1 _ hx ⟨o,i,j,g,rfl,M,hi,hj,hij,ok1⟩
  unfold mB0
  dsimp only
  refine wpS_bind (wpS_mono (wpS_forRange (I:=fun y c st'=>st'=st1∧∃ o i j p q,c=(none,o,i,j,p,q)∧Mc κ a.toList b.toList o.toList i j∧i+1 < a.size∧j < b.size∧x+1+y≤i+j)
   (Q:=fun c st'=>st'=st1∧((∃ r z,c=(some r,z)∧Mg κ a.toList b.toList r.toList) ∨ ∃ o i j p q,c=(none,o,i,j,p,q)∧Mc κ a.toList b.toList o.toList i j∧i+1 < a.size∧j < b.size∧x+2≤i+j)) ?step1 ?fin1 ⟨rfl,o,i,j,0,0,rfl,M,hi,hj,by omega⟩) ?post1)
  case fin1 =>
   rintro c st' ⟨rfl,o,i,j,p,q,rfl,M,hi,hj,hy⟩
   exact ⟨rfl,.inr ⟨o,i,j,p,q,rfl,M,hi,hj,by omega⟩⟩
  case step1 =>
   rintro y c st' _ hy ⟨rfl,o,i,j,p,q,rfl,M,hi,hj,hij⟩
   unfold mB1
   dsimp only
   obtain ⟨xb,exb,gxb⟩:=atB hj
   obtain ⟨xa,exa,gxa⟩:=atA (i:=i) (by omega)
   refine wpS_bind (wpS_elem exb (wpS_bind (wpS_elem exa (wpS_bind (wpS_lt hO ok1.tb gxb gxa ?_)))))
   cases eb:κ.blt (kof κ xb) (kof κ xa) with
   | true =>
    simp only [if_true]
    refine wpS_bind (wpS_elem exb ?_)
    have M':Mc κ a.toList b.toList (o.push xb).toList i (j+1):=by rw [Array.toList_push];exact M.pushB sb exb (le_rest sa exa (is_lt eb))
    by_cases hjb:j+1=b.size
    ·refine wpS_ifT (by simpa using hjb) ?_
     exact wpS_pure ⟨rfl,.inl ⟨_,_,rfl,dn M' (.inr hjb)⟩⟩
    ·refine wpS_ifF (by simpa using hjb) ?_
     by_cases hqg:q+1≥g
     ·refine wpS_ifT hqg ?_
      exact wpS_pure ⟨rfl,.inr ⟨_,_,_,_,_,rfl,M',hi,by omega,by omega⟩⟩
     ·refine wpS_ifF hqg ?_
      exact wpS_pure ⟨rfl,_,_,_,_,_,rfl,M',hi,by omega,by omega⟩
   | false =>
    simp only [Bool.false_eq_true,if_false]
    refine wpS_bind (wpS_elem exa ?_)
    have M':Mc κ a.toList b.toList (o.push xa).toList (i+1) j:=by rw [Array.toList_push];exact M.pushA sa exa (le_rest sb exb (not_lt eb))
    by_cases hia:i+1+1=a.size
    ·refine wpS_ifT (by simpa using hia) ?_
     exact wpS_pure ⟨rfl,.inl ⟨_,_,rfl,ls M' hia⟩⟩
    ·refine wpS_ifF (by simpa using hia) ?_
     by_cases hpg:p+1≥g
     ·refine wpS_ifT hpg ?_
      exact wpS_pure ⟨rfl,.inr ⟨_,_,_,_,_,rfl,M',by omega,hj,by omega⟩⟩
     ·refine wpS_ifF hpg ?_
      exact wpS_pure ⟨rfl,_,_,_,_,_,rfl,M',by omega,hj,by omega⟩
  case post1 =>
   rintro c st' ⟨rfl,⟨r,z,rfl,m⟩ | ⟨o,i,j,p,q,rfl,M,hi,hj,hij⟩⟩
   ·exact wpS_pure ⟨r,_,rfl,m,ok1⟩
   unfold mB2
   dsimp only
   refine wpS_bind (wpS_lift (wpAny_rule ⟨rfl,?_⟩))
   refine wpS_bind (wpS_mono (wpS_forRange (I:=fun y c st'=>∃ o i j g p q,c=(none,o,i,j,g,p,q)∧Mc κ a.toList b.toList o.toList i j∧i+1 < a.size∧j < b.size∧x+2≤i+j∧Ok kd st st')
    (Q:=fun c st'=>((∃ r z,c=(some r,z)∧Mg κ a.toList b.toList r.toList) ∨ ∃ o i j g p q,c=(none,o,i,j,g,p,q)∧Mc κ a.toList b.toList o.toList i j∧i+1 < a.size∧j < b.size∧x+2≤i+j)∧Ok kd st st') ?step2 ?fin2 ⟨o,i,j,_,p,q,rfl,M,hi,hj,hij,ok1⟩) ?post2)
   case fin2 =>
    rintro c st' ⟨o,i,j,g,p,q,rfl,M,hi,hj,hij,ok⟩
    exact ⟨.inr ⟨o,i,j,g,p,q,rfl,M,hi,hj,hij⟩,ok⟩
   case post2 =>
    rintro c st' ⟨⟨r,z,rfl,m⟩ | ⟨o,i,j,g,p,q,rfl,M,hi,hj,hij⟩,ok⟩
    ·exact wpS_pure ⟨r,_,rfl,m,ok⟩
    ·dsimp only
     exact wpS_bind (wpS_smg ok fun st'' ok'=>wpS_pure ⟨o,i,j,_,rfl,M,hi,hj,by omega,ok'⟩)
   case step2 =>
    rintro y c st2 _ hy ⟨o,i,j,g,p,q,rfl,M,hi,hj,hij,ok2⟩
    change wpS _ _ _ _ (if g > 1 then jp1 a b o i j p q (g - 1) else jp1 a b o i j p q g) _ _
    refine wpS_mono (Q:=Pst (kd:=kd) κ a b x st) ?_ fun r st' h=>?_
    rotate_left
    ·cases r with
     | done c=>exact h
     | yield c=>exact h
    by_cases hg:g > 1
    ·refine wpS_ifT hg ?_
     exact wpS_jp1 hO ⟨ga,gb,sa,sb,by rw [← la];exact hl⟩ M hi hj hij ok2
    ·refine wpS_ifF hg ?_
     exact wpS_jp1 hO ⟨ga,gb,sa,sb,by rw [← la];exact hl⟩ M hi hj hij ok2
end
end Tv
namespace Tv
open PySem PyProof.Rows
noncomputable def mhi:Array Keyed→Array Keyed→StateT SortSt Sem (Array Keyed):=sortPriv% PySem.Builtin.mergeHi
noncomputable abbrev hDn (a b o:Array Keyed)(i j:Nat):Array Keyed:=a.extract 0 i++b.extract 0 j++o.reverse
noncomputable abbrev hFb (a b o:Array Keyed)(i j:Nat):Array Keyed:=b.extract 0 j++a.extract 0 i++o.reverse
theorem mhi_eq (a b:Array Keyed):mhi a b=(do
 rule "list.sort.merge-hi"
 let mut i:=a.size - 1
 let mut j:=b.size
 let mut o:Array Keyed:=#[← elem' a i]
 if i == 0 then return hDn a b o i j
 if j == 1 then return hFb a b o i j
 let mut g:=gallopOf (← get)
 for _ in [0:a.size+b.size] do
  let mut p:=0
  let mut q:=0
  for _ in [0:a.size+b.size] do
   let some w ← lt' (← elem' b (j - 1)) (← elem' a (i - 1)) | return hDn a b o i j
   if w then
    i:=i - 1
    o:=o.push (← elem' a i)
    p:=p+1
    q:=0
    if i == 0 then return hDn a b o i j
    if p≥g then break
   else
    j:=j - 1
    o:=o.push (← elem' b j)
    q:=q+1
    p:=0
    if j == 1 then return hFb a b o i j
    if q≥g then break
  rule "list.sort.gallop"
  g:=g+1
  for _ in [0:a.size+b.size] do
   if g > 1 then g:=g - 1
   smg g
   let some t ← gal false (← elem' b (j - 1)) a 0 i (i - 1) | return hDn a b o i j
   let k:=i - t
   p:=k
   if k > 0 then
    o:=o++(a.extract t i).reverse
    i:=t
    if i == 0 then return hDn a b o i j
   j:=j - 1
   o:=o.push (← elem' b j)
   if j == 1 then return hFb a b o i j
   let some t ← gal true (← elem' a (i - 1)) b 0 j (j - 1) | return hDn a b o i j
   let k:=j - t
   q:=k
   if k > 0 then
    o:=o++(b.extract t j).reverse
    j:=t
    if j == 1 then return hFb a b o i j
    if j == 0 then return hDn a b o i j
   i:=i - 1
   o:=o.push (← elem' a i)
   if i == 0 then return hDn a b o i j
   if p < 7 && q < 7 then break
  g:=g+1
  smg g
 unsupported "internal:list.sort.merge-bound"):=rfl
variable {κ:KeyKind} {kd:SortKind}
structure Mh (κ:KeyKind) (A B R:List Keyed) (i j:Nat):Prop where
 pm:R.Perm (A.drop i++B.drop j)
 so:Srt κ R
 la:Lel κ (A.take i) R
 lb:Lel κ (B.take j) R
 hi:i≤A.length
 hj:j≤B.length
theorem Mh.pushA {A B R:List Keyed}{i j:Nat}(M:Mh κ A B R (i+1) j)(sA:Srt κ A){x:Keyed}(h:A[i]? = some x)(hx:Lel κ (B.take j) [x]):Mh κ A B (x::R) i j:=by
 have et:=take_snocK h
 have st:=sA.take (i+1)
 rw [et] at st
 have st':=srt_app.mp st
 refine ⟨?_,List.pairwise_cons.mpr ⟨fun y hy=>M.la x (by rw [et];simp) y hy,M.so⟩,fun y hy z hz=>?_,fun y hy z hz=>?_,by have:=M.hi;omega,M.hj⟩
 ·rw [drop_cons h,List.cons_append]
  exact M.pm.cons x
 ·rcases List.mem_cons.mp hz with rfl | hz
  ·exact st'.2.2 y hy _ (by simp)
  ·exact M.la y (by rw [et];exact List.mem_append_left _ hy) z hz
 ·rcases List.mem_cons.mp hz with rfl | hz
  ·exact hx y hy _ (by simp)
  ·exact M.lb y hy z hz
theorem Mh.pushB {A B R:List Keyed}{i j:Nat}(M:Mh κ A B R i (j+1))(sB:Srt κ B){x:Keyed}(h:B[j]? = some x)(hx:Lel κ (A.take i) [x]):Mh κ A B (x::R) i j:=by
 have et:=take_snocK h
 have st:=sB.take (j+1)
 rw [et] at st
 have st':=srt_app.mp st
 refine ⟨?_,List.pairwise_cons.mpr ⟨fun y hy=>M.lb x (by rw [et];simp) y hy,M.so⟩,fun y hy z hz=>?_,fun y hy z hz=>?_,M.hi,by have:=M.hj;omega⟩
 ·rw [drop_cons h]
  exact (M.pm.cons x).trans List.perm_middle.symm
 ·rcases List.mem_cons.mp hz with rfl | hz
  ·exact hx y hy _ (by simp)
  ·exact M.la y hy z hz
 ·rcases List.mem_cons.mp hz with rfl | hz
  ·exact st'.2.2 y hy _ (by simp)
  ·exact M.lb y (by rw [et];exact List.mem_append_left _ hy) z hz
theorem Mh.pushAs {A B R:List Keyed}{t j:Nat}(sA:Srt κ A):∀ k,Mh κ A B R (t+k) j→Lel κ (B.take j) ((A.drop t).take k)→Mh κ A B ((A.drop t).take k++R) t j
 | 0,M,_=>by simpa using M
 | k+1,M,hl=>by
  have hlt:t+k < A.length:=by have:=M.hi;omega
  have e:(A.drop t)[k]? = some A[t+k]:=by rw [List.getElem?_drop,List.getElem?_eq_getElem hlt]
  have et:(A.drop t).take (k+1)=(A.drop t).take k++[A[t+k]]:=take_snocK e
  rw [et] at hl ⊢
  have M1:Mh κ A B (A[t+k]::R) (t+k) j:=Mh.pushA M sA (List.getElem?_eq_getElem hlt) fun y hy z hz=>hl y hy z (List.mem_append_right _ hz)
  have:=Mh.pushAs sA k M1 fun y hy z hz=>hl y hy z (List.mem_append_left _ hz)
  rw [List.append_assoc]
  exact this
theorem Mh.pushBs {A B R:List Keyed}{t i:Nat}(sB:Srt κ B):∀ k,Mh κ A B R i (t+k)→Lel κ (A.take i) ((B.drop t).take k)→Mh κ A B ((B.drop t).take k++R) i t
 | 0,M,_=>by simpa using M
 | k+1,M,hl=>by
  have hlt:t+k < B.length:=by have:=M.hj;omega
  have e:(B.drop t)[k]? = some B[t+k]:=by rw [List.getElem?_drop,List.getElem?_eq_getElem hlt]
  have et:(B.drop t).take (k+1)=(B.drop t).take k++[B[t+k]]:=take_snocK e
  rw [et] at hl ⊢
  have M1:Mh κ A B (B[t+k]::R) i (t+k):=Mh.pushB M sB (List.getElem?_eq_getElem hlt) fun y hy z hz=>hl y hy z (List.mem_append_right _ hz)
  have:=Mh.pushBs sB k M1 fun y hy z hz=>hl y hy z (List.mem_append_left _ hz)
  rw [List.append_assoc]
  exact this
theorem Mh.perm {A B R:List Keyed}{i j:Nat}(M:Mh κ A B R i j):(A.take i++B.take j++R).Perm (A++B):=by
 have h1:(A.take i++B.take j++R).Perm (A.take i++B.take j++(A.drop i++B.drop j)):=M.pm.append_left _
 refine h1.trans ?_
 have h2:((A.take i++B.take j)++(A.drop i++B.drop j)).Perm ((A.take i++A.drop i)++(B.take j++B.drop j)):=by
  rw [List.append_assoc,List.append_assoc]
  refine List.Perm.append_left _ ?_
  rw [← List.append_assoc,← List.append_assoc]
  exact List.Perm.append_right _ List.perm_append_comm
 rw [List.take_append_drop,List.take_append_drop] at h2
 exact h2
theorem Mh.done {A B R:List Keyed}{i j:Nat}(M:Mh κ A B R i j)(sA:Srt κ A)(sB:Srt κ B)(h:i=0 ∨ j=0):Mg κ A B (A.take i++B.take j++R):=by
 refine ⟨M.perm,srt_app.mpr ⟨srt_app.mpr ⟨sA.take i,sB.take j,fun x hx y hy=>?_⟩,M.so,fun o ho y hy=>?_⟩⟩
 ·rcases h with h | h
  ·subst h;simp at hx
  ·subst h;simp at hy
 ·rcases List.mem_append.mp ho with ho | ho
  ·exact M.la o ho y hy
  ·exact M.lb o ho y hy
theorem Mh.first {A B R:List Keyed}{i j:Nat}(M:Mh κ A B R i j)(sA:Srt κ A)(sB:Srt κ B)(h:j=1)(hf:∀ z,B[0]? = some z→Lel κ [z] A):Mg κ A B (B.take j++A.take i++R):=by
 refine ⟨List.Perm.trans (List.Perm.append_right _ List.perm_append_comm) M.perm,srt_app.mpr ⟨srt_app.mpr ⟨sB.take j,sA.take i,fun x hx y hy=>?_⟩,M.so,fun o ho y hy=>?_⟩⟩
 ·subst h
  cases B with
  | nil=>simp at hx
  | cons z B =>
   have hx:x=z:=by simpa using hx
   subst hx
   exact hf x rfl x (by simp) y (List.mem_of_mem_take hy)
 ·rcases List.mem_append.mp ho with ho | ho
  ·exact M.lb o ho y hy
  ·exact M.la o ho y hy
theorem hDn_list (a b o:Array Keyed)(i j:Nat):(hDn a b o i j).toList=a.toList.take i++b.toList.take j++o.toList.reverse:=by
 simp [hDn,Array.toList_extract]
theorem hFb_list (a b o:Array Keyed)(i j:Nat):(hFb a b o i j).toList=b.toList.take j++a.toList.take i++o.toList.reverse:=by
 simp [hFb,Array.toList_extract]
theorem extR_list (a:Array Keyed)(t i:Nat):((a.extract t i).reverse).toList.reverse=(a.toList.drop t).take (i - t):=by
 simp [Array.toList_extract]
section
variable {prog:Program} {w:World} {A:Around} {E:Value→Shared→Prop} {s:Shared}
theorem wpS_galP {st:SortSt}{lf:Bool}{key:Keyed}{arr:Array Keyed}{n:Nat}{Q:Option Nat→SortSt→Prop}(hO:Lt1 κ prog w A s kd)(hB:TB kd st)(hk:Gd κ key)(hg:∀ x∈arr.toList,Gd κ x)(sa:Srt κ arr.toList)(hn:0 < n)(hna:n≤arr.size)
  (hq:∀ k,k≤n→(∀ x∈arr.toList.take k,bdB κ lf (kof κ key) (kof κ x)=true)→(∀ x∈(arr.toList.drop k).take (n - k),bdB κ lf (kof κ key) (kof κ x)=false)→Q (some k) st) :
  wpS (model prog w) A E s (gal lf key arr 0 n (n - 1)) Q st:=by
 have hl:arr.toList.length=arr.size:=Array.length_toList
 refine wpS_gal hO hB hk (fun t=>match arr.toList[t]? with | some p=>bdB κ lf (kof κ key) (kof κ p) | none=>false) (by omega) (fun t ht=>?_) (fun t u htu hu hb=>?_) (fun k hk' h1 h2=>hq k (by omega) (fun x hx=>?_) fun x hx=>?_)
 ·have hlt:t < arr.toList.length:=by omega
  have e:=List.getElem?_eq_getElem hlt
  refine ⟨arr.toList[t],by rw [Nat.zero_add];simpa using e,hg _ (List.getElem_mem hlt),?_⟩
  rw [e]
 ·have h1:t < arr.toList.length:=by omega
  have h2:u < arr.toList.length:=by omega
  have e1:=List.getElem?_eq_getElem h1
  have e2:=List.getElem?_eq_getElem h2
  rw [e2] at hb
  rw [e1]
  exact bdB_mono (sa.at (by omega) e1 e2) hb
 ·obtain ⟨t,e⟩:=List.getElem?_of_mem hx
  have ht:t < k:=by
   have:=(List.getElem?_eq_some_iff.mp e).1
   rw [List.length_take] at this
   omega
  rw [List.getElem?_take,if_pos ht] at e
  have:=h1 t ht
  rw [e] at this
  exact this
 ·obtain ⟨t,e⟩:=List.getElem?_of_mem hx
  have ht:t < n - k:=by
   have:=(List.getElem?_eq_some_iff.mp e).1
   rw [List.length_take] at this
   omega
  rw [List.getElem?_take,if_pos ht,List.getElem?_drop] at e
  have:=h2 (k+t) (by omega) (by omega)
  rw [e] at this
  exact this
theorem rest_le {l:List Keyed}(sl:Srt κ l){i:Nat}{x y:Keyed}(e:l[i]? = some y)(h:lek κ y x):Lel κ (l.take (i+1)) [x]:=fun z hz t ht=>by
 rw [List.mem_singleton] at ht
 subst ht
 rw [take_snocK e] at hz
 rcases List.mem_append.mp hz with hz | hz
 ·have st:=sl.take (i+1)
  rw [take_snocK e] at st
  exact lek_trans ((srt_app.mp st).2.2 z hz y (by simp)) h
 ·rw [List.mem_singleton] at hz
  subst hz
  exact h
structure TwoH (κ:KeyKind) (a b:Array Keyed):Prop where
 ga:∀ x∈a.toList,Gd κ x
 gb:∀ x∈b.toList,Gd κ x
 sa:Srt κ a.toList
 sb:Srt κ b.toList
 hf:∀ z,b.toList[0]? = some z→Lel κ [z] a.toList
theorem TwoH.atA {a b:Array Keyed}(T:TwoH κ a b){i:Nat}(hi:i < a.size):∃ x,a.toList[i]? = some x∧Gd κ x:=⟨a.toList[i]'(by rw [Array.length_toList]; exact hi),List.getElem?_eq_getElem (by rw [Array.length_toList]; exact hi),T.ga _ (List.getElem_mem _)⟩
theorem TwoH.atB {a b:Array Keyed}(T:TwoH κ a b){i:Nat}(hi:i < b.size):∃ x,b.toList[i]? = some x∧Gd κ x:=⟨b.toList[i]'(by rw [Array.length_toList]; exact hi),List.getElem?_eq_getElem (by rw [Array.length_toList]; exact hi),T.gb _ (List.getElem_mem _)⟩
theorem TwoH.dn {a b:Array Keyed}(T:TwoH κ a b){o:Array Keyed}{i j:Nat}(M:Mh κ a.toList b.toList o.toList.reverse i j)(h:i=0 ∨ j=0):Mg κ a.toList b.toList (hDn a b o i j).toList:=by
 rw [hDn_list]
 exact M.done T.sa T.sb h
theorem TwoH.fb {a b:Array Keyed}(T:TwoH κ a b){o:Array Keyed}{i j:Nat}(M:Mh κ a.toList b.toList o.toList.reverse i j)(h:j=1):Mg κ a.toList b.toList (hFb a b o i j).toList:=by
 rw [hFb_list]
 exact M.first T.sa T.sb h T.hf
theorem push_rev (o:Array Keyed)(x:Keyed):(o.push x).toList.reverse=x::o.toList.reverse:=by simp
theorem app_rev (o:Array Keyed)(a:Array Keyed)(t i:Nat):(o++(a.extract t i).reverse).toList.reverse=(a.toList.drop t).take (i - t)++o.toList.reverse:=by
 rw [Array.toList_append,List.reverse_append,extR_list]
noncomputable abbrev HSt:=Option (Array Keyed) × Nat × Nat × Array Keyed × Nat × Nat × Nat
noncomputable def hq3 (a b:Array Keyed)(i g p q j:Nat)(o:Array Keyed):StateT SortSt Sem (ForInStep HSt):=do
 let e ← elem' a (i - 1)
 if (i - 1 == 0)=true then pure (.done (some (hDn a b (o.push e) (i - 1) j),i - 1,j,o.push e,g,p,q))
 else if (decide (p < 7) && decide (q < 7))=true then pure (.done (none,i - 1,j,o.push e,g,p,q)) else pure (.yield (none,i - 1,j,o.push e,g,p,q))
noncomputable def hq2 (a b:Array Keyed)(j g p q i:Nat)(o:Array Keyed):StateT SortSt Sem (ForInStep HSt):=do
 let e ← elem' b (j - 1)
 if (j - 1 == 1)=true then pure (.done (some (hFb a b (o.push e) i (j - 1)),i,j - 1,o.push e,g,p,q))
 else do
  let f ← elem' a (i - 1)
  let y ← gal true f b 0 (j - 1) (j - 1 - 1)
  match y with
  | some t=>if j - 1 - t > 0 then (if (t == 1)=true then pure (.done (some (hFb a b (o.push e++(b.extract t (j - 1)).reverse) i t),i,t,o.push e++(b.extract t (j - 1)).reverse,g,p,j - 1 - t)) else if (t == 0)=true then pure (.done (some (hDn a b (o.push e++(b.extract t (j - 1)).reverse) i t),i,t,o.push e++(b.extract t (j - 1)).reverse,g,p,j - 1 - t)) else hq3 a b i g p (j - 1 - t) t (o.push e++(b.extract t (j - 1)).reverse)) else hq3 a b i g p (j - 1 - t) (j - 1) (o.push e)
  | _=>pure (.done (some (hDn a b (o.push e) i (j - 1)),i,j - 1,o.push e,g,p,q))
noncomputable def hq1 (a b:Array Keyed)(i j:Nat)(o:Array Keyed)(p q g:Nat):StateT SortSt Sem (ForInStep HSt):=do
 smg g
 let e ← elem' b (j - 1)
 let y ← gal false e a 0 i (i - 1)
 match y with
 | some t=>if i - t > 0 then (if (t == 0)=true then pure (.done (some (hDn a b (o++(a.extract t i).reverse) t j),t,j,o++(a.extract t i).reverse,g,i - t,q)) else hq2 a b j g (i - t) q t (o++(a.extract t i).reverse)) else hq2 a b j g (i - t) q i o
 | _=>pure (.done (some (hDn a b o i j),i,j,o,g,p,q))
noncomputable def Hst (κ:KeyKind)(a b:Array Keyed)(x:Nat)(st:SortSt)(r:ForInStep HSt)(st':SortSt):Prop:=match r with
 | .done c=>((∃ r z,c=(some r,z)∧Mg κ a.toList b.toList r.toList) ∨ ∃ i j o g p q,c=(none,i,j,o,g,p,q)∧Mh κ a.toList b.toList o.toList.reverse i j∧0 < i∧1 < j∧x+2+i+j≤a.size+b.size)∧Ok kd st st'
 | .yield c=>∃ i j o g p q,c=(none,i,j,o,g,p,q)∧Mh κ a.toList b.toList o.toList.reverse i j∧0 < i∧1 < j∧x+2+i+j≤a.size+b.size∧Ok kd st st'
theorem wpS_hq3 {st st':SortSt}{a b o:Array Keyed}{i j g p q x:Nat}{xa:Keyed}(T:TwoH κ a b)(M:Mh κ a.toList b.toList o.toList.reverse i j)(hi:0 < i)(hj:1 < j)(hx:x+2+i+j≤a.size+b.size)(ok:Ok kd st st')(exa:a.toList[i - 1]? = some xa)(hle:Lel κ (b.toList.take j) [xa]) :
  wpS (model prog w) A E s (hq3 a b i g p q j o) (Hst (kd:=kd) κ a b x st) st':=by
 unfold hq3
 refine wpS_bind (wpS_elem exa ?_)
 have M':Mh κ a.toList b.toList (o.push xa).toList.reverse (i - 1) j:=by
  rw [push_rev]
  exact Mh.pushA (by rw [show i - 1+1=i by omega];exact M) T.sa exa hle
 by_cases h0:i - 1=0
 ·refine wpS_ifT (by simpa using h0) ?_
  exact wpS_pure ⟨.inl ⟨_,_,rfl,T.dn M' (.inl h0)⟩,ok⟩
 ·refine wpS_ifF (by simpa using h0) ?_
  by_cases hpq:(decide (p < 7) && decide (q < 7))=true
  ·refine wpS_ifT hpq ?_
   exact wpS_pure ⟨.inr ⟨_,_,_,_,_,_,rfl,M',by omega,hj,by omega⟩,ok⟩
  ·refine wpS_ifF hpq ?_
   exact wpS_pure ⟨_,_,_,_,_,_,rfl,M',by omega,hj,by omega,ok⟩
theorem wpS_hq2 {st st':SortSt}{a b o:Array Keyed}{i j g p q x:Nat}{xb:Keyed}(hO:Lt1 κ prog w A s kd)(T:TwoH κ a b)(M:Mh κ a.toList b.toList o.toList.reverse i j)(hi:0 < i)(hj:1 < j)(hx:x+2+i+j≤a.size+b.size)(ok:Ok kd st st')(exb:b.toList[j - 1]? = some xb)(hle:Lel κ (a.toList.take i) [xb]) :
  wpS (model prog w) A E s (hq2 a b j g p q i o) (Hst (kd:=kd) κ a b x st) st':=by
 have la:a.toList.length=a.size:=Array.length_toList
 have lb:b.toList.length=b.size:=Array.length_toList
 have hia:=M.hi
 have hjb:=M.hj
 unfold hq2
 refine wpS_bind (wpS_elem exb ?_)
 have M':Mh κ a.toList b.toList (o.push xb).toList.reverse i (j - 1):=by
  rw [push_rev]
  exact Mh.pushB (by rw [show j - 1+1=j by omega];exact M) T.sb exb hle
 by_cases h1:j - 1=1
 ·refine wpS_ifT (by simpa using h1) ?_
  exact wpS_pure ⟨.inl ⟨_,_,rfl,T.fb M' h1⟩,ok⟩
 refine wpS_ifF (by simpa using h1) ?_
 obtain ⟨xa,exa,gxa⟩:=T.atA (i:=i - 1) (by omega)
 refine wpS_bind (wpS_elem exa (wpS_bind (wpS_galP hO ok.tb gxa T.gb T.sb (by omega) (by omega) fun t ht t1 t2=>?_)))
 dsimp only
 have up:Lel κ (b.toList.take t) [xa]:=fun z hz y hy=>by
  rw [List.mem_singleton] at hy
  subst hy
  exact bd_true (t1 z hz)
 have MB:Mh κ a.toList b.toList ((b.toList.drop t).take (j - 1 - t)++(o.push xb).toList.reverse) i t:=Mh.pushBs T.sb (j - 1 - t) (by rw [show t+(j - 1 - t)=j - 1 by omega];exact M') fun y hy z hz=>by
  have:=rest_le T.sa exa (bd_true' (t2 z hz))
  rw [show i - 1+1=i by omega] at this
  exact this y hy z (by simp)
 by_cases hk0:j - 1 - t > 0
 ·refine wpS_ifT hk0 ?_
  have MB':Mh κ a.toList b.toList (o.push xb++(b.extract t (j - 1)).reverse).toList.reverse i t:=by rw [app_rev];exact MB
  by_cases ht1:t=1
  ·refine wpS_ifT (by simpa using ht1) ?_
   exact wpS_pure ⟨.inl ⟨_,_,rfl,T.fb MB' ht1⟩,ok⟩
  ·refine wpS_ifF (by simpa using ht1) ?_
   by_cases ht0:t=0
   ·refine wpS_ifT (by simpa using ht0) ?_
    exact wpS_pure ⟨.inl ⟨_,_,rfl,T.dn MB' (.inr ht0)⟩,ok⟩
   ·refine wpS_ifF (by simpa using ht0) ?_
    exact wpS_hq3 T MB' hi (by omega) (by omega) ok exa up
 ·refine wpS_ifF hk0 ?_
  have:t=j - 1:=by omega
  subst this
  exact wpS_hq3 T M' hi (by omega) (by omega) ok exa up
theorem wpS_hq1 {st st':SortSt}{a b o:Array Keyed}{i j g p q x:Nat}(hO:Lt1 κ prog w A s kd)(T:TwoH κ a b)(M:Mh κ a.toList b.toList o.toList.reverse i j)(hi:0 < i)(hj:1 < j)(hx:x+2+i+j≤a.size+b.size)(ok:Ok kd st st') :
  wpS (model prog w) A E s (hq1 a b i j o p q g) (Hst (kd:=kd) κ a b x st) st':=by
 have la:a.toList.length=a.size:=Array.length_toList
 have lb:b.toList.length=b.size:=Array.length_toList
 have hia:=M.hi
 have hjb:=M.hj
 unfold hq1
 refine wpS_bind (wpS_smg ok fun st3 ok3=>?_)
 obtain ⟨xb,exb,gxb⟩:=T.atB (i:=j - 1) (by omega)
 refine wpS_bind (wpS_elem exb (wpS_bind (wpS_galP hO ok3.tb gxb T.ga T.sa hi (by omega) fun t ht t1 t2=>?_)))
 dsimp only
 have up:Lel κ (a.toList.take t) [xb]:=fun z hz y hy=>by
  rw [List.mem_singleton] at hy
  subst hy
  exact bd_false (t1 z hz)
 have MA:Mh κ a.toList b.toList ((a.toList.drop t).take (i - t)++o.toList.reverse) t j:=Mh.pushAs T.sa (i - t) (by rw [show t+(i - t)=i by omega];exact M) fun y hy z hz=>by
  have:=rest_le T.sb exb (bd_false' (t2 z hz))
  rw [show j - 1+1=j by omega] at this
  exact this y hy z (by simp)
 by_cases hk0:i - t > 0
 ·refine wpS_ifT hk0 ?_
  have MA':Mh κ a.toList b.toList (o++(a.extract t i).reverse).toList.reverse t j:=by rw [app_rev];exact MA
  by_cases ht0:t=0
  ·refine wpS_ifT (by simpa using ht0) ?_
   exact wpS_pure ⟨.inl ⟨_,_,rfl,T.dn MA' (.inl ht0)⟩,ok3⟩
  ·refine wpS_ifF (by simpa using ht0) ?_
   exact wpS_hq2 hO T MA' (by omega) hj (by omega) ok3 exb up
 ·refine wpS_ifF hk0 ?_
  have:t=i:=by omega
  subst this
  exact wpS_hq2 hO T M hi hj hx ok3 exb up
noncomputable abbrev H6:=Option (Array Keyed) × Nat × Nat × Array Keyed × Nat × Nat
noncomputable abbrev H5:=Option (Array Keyed) × Nat × Nat × Array Keyed × Nat
noncomputable def hB1 (a b:Array Keyed)(g:Nat):H6→TS (ForInStep H6):=fun (_,i,j,o,p,q)=>do
 let y ← elem' b (j - 1)
 let x ← elem' a (i - 1)
 let w ← lt' y x
 match w with
 | some w =>
  if w=true then do
   let e ← elem' a (i - 1)
   if (i - 1 == 0)=true then pure (.done (some (hDn a b (o.push e) (i - 1) j),i - 1,j,o.push e,p+1,0))
   else if p+1≥g then pure (.done (none,i - 1,j,o.push e,p+1,0)) else pure (.yield (none,i - 1,j,o.push e,p+1,0))
  else do
   let e ← elem' b (j - 1)
   if (j - 1 == 1)=true then pure (.done (some (hFb a b (o.push e) i (j - 1)),i,j - 1,o.push e,0,q+1))
   else if q+1≥g then pure (.done (none,i,j - 1,o.push e,0,q+1)) else pure (.yield (none,i,j - 1,o.push e,0,q+1))
 | _=>pure (.done (some (hDn a b o i j),i,j,o,p,q))
noncomputable def hB3 (a b:Array Keyed):HSt→TS (ForInStep HSt):=fun (_,i,j,o,g,p,q)=>if g > 1 then hq1 a b i j o p q (g - 1) else hq1 a b i j o p q g
noncomputable def hB2 (a b:Array Keyed)(g:Nat):H6→TS (ForInStep H5)
 | (some r,i,j,o,_)=>pure (.done (some r,i,j,o,g))
 | (none,i,j,o,p,q)=>do
  rule "list.sort.gallop"
  match ← forIn [0:a.size+b.size] ((none,i,j,o,g+1,p,q):HSt) fun _ d=>hB3 a b d with
  | (some r,i,j,o,g,_)=>pure (.done (some r,i,j,o,g))
  | (none,i,j,o,g,_)=>do
   smg (g+1)
   pure (.yield (none,i,j,o,g+1))
noncomputable def hB0 (a b:Array Keyed):H5→TS (ForInStep H5):=fun (_,i,j,o,g)=>do
 let d ← forIn [0:a.size+b.size] ((none,i,j,o,0,0):H6) fun _ d=>hB1 a b g d
 hB2 a b g d
theorem mhi_two (a b:Array Keyed):mhi a b=(do
 rule "list.sort.merge-hi"
 let e ← elem' a (a.size - 1)
 if (a.size - 1 == 0)=true then pure (hDn a b #[e] (a.size - 1) b.size)
 else if (b.size == 1)=true then pure (hFb a b #[e] (a.size - 1) b.size)
 else do
  let st ← get
  let c ← forIn [0:a.size+b.size] ((none,a.size - 1,b.size,#[e],gallopOf st):H5) fun _ c=>hB0 a b c
  mBe c):=by
 rw [mhi_eq]
 refine congrArg (bind _) (funext fun u=>congrArg (bind _) (funext fun e=>congrArg (ite _ _) (congrArg (ite _ _) (congrArg (bind _) (funext fun st=>?_)))))
 refine congr (congrArg bind (congrArg (forIn _ _) (funext fun x=>funext fun c=>?_))) (funext fun c=>?_)
 ·refine congr (congrArg bind (congrArg (forIn _ _) (funext fun y=>funext fun d=>rfl))) (funext fun d=>?_)
  rcases d with ⟨_ | r,d⟩
  ·refine congrArg (bind _) (funext fun u=>?_)
   refine congr (congrArg bind (congrArg (forIn _ _) (funext fun y=>funext fun d=>rfl))) (funext fun d=>?_)
   rcases d with ⟨_ | r,d⟩ <;> rfl
  ·rfl
 ·rcases c with ⟨_ | r,c⟩ <;> rfl
theorem wpS_mhi {st:SortSt}{a b:Array Keyed}{Q:Array Keyed→SortSt→Prop}(hO:Lt1 κ prog w A s kd)(hB:TB kd st)(T:TwoH κ a b)(h0:0 < a.size)(h1:0 < b.size)
  (hl:∀ z,a.toList[a.size - 1]? = some z→Lel κ b.toList [z])
  (hq:∀ r st',Ok kd st st'→Mg κ a.toList b.toList r.toList→Q r st'):wpS (model prog w) A E s (mhi a b) Q st:=by
 have la:a.toList.length=a.size:=Array.length_toList
 have lb:b.toList.length=b.size:=Array.length_toList
 rw [mhi_two]
 refine wpS_bind (wpS_lift (wpAny_rule ⟨rfl,?_⟩))
 obtain ⟨z0,ez0,gz0⟩:=T.atA (i:=a.size - 1) (by omega)
 refine wpS_bind (wpS_elem ez0 ?_)
 have M0:Mh κ a.toList b.toList (#[z0]:Array Keyed).toList.reverse (a.size - 1) b.size:=by
  have:Mh κ a.toList b.toList [z0] (a.size - 1) b.size:=Mh.pushA (R:=[]) (by
   rw [show a.size - 1+1=a.size by omega]
   refine ⟨?_,.nil,(fun x hx y hy=>by cases hy),(fun x hx y hy=>by cases hy),by omega,by omega⟩
   rw [List.drop_of_length_le (by omega),List.drop_of_length_le (by omega)]
   exact List.Perm.refl _) T.sa ez0 (by rw [List.take_of_length_le (by omega)];exact hl _ ez0)
  exact this
 by_cases ha1:a.size - 1=0
 ·refine wpS_ifT (by simpa using ha1) ?_
  exact wpS_pure (hq _ _ (.refl hB) (T.dn M0 (.inl ha1)))
 refine wpS_ifF (by simpa using ha1) ?_
 by_cases hb1:b.size=1
 ·refine wpS_ifT (by simpa using hb1) ?_
  exact wpS_pure (hq _ _ (.refl hB) (T.fb M0 hb1))
 refine wpS_ifF (by simpa using hb1) ?_
 refine wpS_bind (wpS_get ?_)
 refine wpS_bind (wpS_mono (wpS_forRange (I:=fun x c st'=>∃ i j o g,c=(none,i,j,o,g)∧Mh κ a.toList b.toList o.toList.reverse i j∧0 < i∧1 < j∧x+1+i+j≤a.size+b.size∧Ok kd st st')
  (Q:=fun c st'=>∃ r z,c=(some r,z)∧Mg κ a.toList b.toList r.toList∧Ok kd st st') ?step ?fin ⟨_,_,_,_,rfl,M0,by omega,by omega,by omega,.refl hB⟩) ?post)
 case post =>
  rintro c st' ⟨r,z,rfl,m,ok⟩
  unfold mBe
  exact wpS_pure (hq _ _ ok m)
 case fin =>
  rintro c st' ⟨i,j,o,g,rfl,M,hi,hj,hx,ok⟩
  omega
 case step =>
  rintro x c st1 _ hx ⟨i,j,o,g,rfl,M,hi,hj,hij,ok1⟩
  unfold hB0
  dsimp only
  refine wpS_bind (wpS_mono (wpS_forRange (I:=fun y c st'=>st'=st1∧∃ i j o p q,c=(none,i,j,o,p,q)∧Mh κ a.toList b.toList o.toList.reverse i j∧0 < i∧1 < j∧x+1+y+i+j≤a.size+b.size)
   (Q:=fun c st'=>st'=st1∧((∃ r z,c=(some r,z)∧Mg κ a.toList b.toList r.toList) ∨ ∃ i j o p q,c=(none,i,j,o,p,q)∧Mh κ a.toList b.toList o.toList.reverse i j∧0 < i∧1 < j∧x+2+i+j≤a.size+b.size)) ?step1 ?fin1 ⟨rfl,i,j,o,0,0,rfl,M,hi,hj,by omega⟩) ?post1)
  case fin1 =>
   rintro c st' ⟨rfl,i,j,o,p,q,rfl,M,hi,hj,hy⟩
   exact ⟨rfl,.inr ⟨i,j,o,p,q,rfl,M,hi,hj,by omega⟩⟩
  case step1 =>
   rintro y c st' _ hy ⟨rfl,i,j,o,p,q,rfl,M,hi,hj,hij⟩
   unfold hB1
   dsimp only
   have hia:=M.hi
   have hjb:=M.hj
   obtain ⟨xb,exb,gxb⟩:=T.atB (i:=j - 1) (by omega)
   obtain ⟨xa,exa,gxa⟩:=T.atA (i:=i - 1) (by omega)
   refine wpS_bind (wpS_elem exb (wpS_bind (wpS_elem exa (wpS_bind (wpS_lt hO ok1.tb gxb gxa ?_)))))
   cases eb:κ.blt (kof κ xb) (kof κ xa) with
   | true =>
    simp only [if_true]
    refine wpS_bind (wpS_elem exa ?_)
    have M':Mh κ a.toList b.toList (o.push xa).toList.reverse (i - 1) j:=by
     rw [push_rev]
     refine Mh.pushA (by rw [show i - 1+1=i by omega];exact M) T.sa exa ?_
     have:=rest_le T.sb exb (is_lt eb)
     rwa [show j - 1+1=j by omega] at this
    by_cases hi0:i - 1=0
    ·refine wpS_ifT (by simpa using hi0) ?_
     exact wpS_pure ⟨rfl,.inl ⟨_,_,rfl,T.dn M' (.inl hi0)⟩⟩
    ·refine wpS_ifF (by simpa using hi0) ?_
     by_cases hpg:p+1≥g
     ·refine wpS_ifT hpg ?_
      exact wpS_pure ⟨rfl,.inr ⟨_,_,_,_,_,rfl,M',by omega,hj,by omega⟩⟩
     ·refine wpS_ifF hpg ?_
      exact wpS_pure ⟨rfl,_,_,_,_,_,rfl,M',by omega,hj,by omega⟩
   | false =>
    simp only [Bool.false_eq_true,if_false]
    refine wpS_bind (wpS_elem exb ?_)
    have M':Mh κ a.toList b.toList (o.push xb).toList.reverse i (j - 1):=by
     rw [push_rev]
     refine Mh.pushB (by rw [show j - 1+1=j by omega];exact M) T.sb exb ?_
     have:=rest_le T.sa exa (not_lt eb)
     rwa [show i - 1+1=i by omega] at this
    by_cases hj1:j - 1=1
    ·refine wpS_ifT (by simpa using hj1) ?_
     exact wpS_pure ⟨rfl,.inl ⟨_,_,rfl,T.fb M' hj1⟩⟩
    ·refine wpS_ifF (by simpa using hj1) ?_
     by_cases hqg:q+1≥g
     ·refine wpS_ifT hqg ?_
      exact wpS_pure ⟨rfl,.inr ⟨_,_,_,_,_,rfl,M',hi,by omega,by omega⟩⟩
     ·refine wpS_ifF hqg ?_
      exact wpS_pure ⟨rfl,_,_,_,_,_,rfl,M',hi,by omega,by omega⟩
  case post1 =>
   rintro c st' ⟨rfl,⟨r,z,rfl,m⟩ | ⟨i,j,o,p,q,rfl,M,hi,hj,hij⟩⟩
   ·exact wpS_pure ⟨r,_,rfl,m,ok1⟩
   unfold hB2
   dsimp only
   refine wpS_bind (wpS_lift (wpAny_rule ⟨rfl,?_⟩))
   refine wpS_bind (wpS_mono (wpS_forRange (I:=fun y c st'=>∃ i j o g p q,c=(none,i,j,o,g,p,q)∧Mh κ a.toList b.toList o.toList.reverse i j∧0 < i∧1 < j∧x+2+i+j≤a.size+b.size∧Ok kd st st')
    (Q:=fun c st'=>((∃ r z,c=(some r,z)∧Mg κ a.toList b.toList r.toList) ∨ ∃ i j o g p q,c=(none,i,j,o,g,p,q)∧Mh κ a.toList b.toList o.toList.reverse i j∧0 < i∧1 < j∧x+2+i+j≤a.size+b.size)∧Ok kd st st') ?step2 ?fin2 ⟨i,j,o,_,p,q,rfl,M,hi,hj,hij,ok1⟩) ?post2)
   case fin2 =>
    rintro c st' ⟨i,j,o,g,p,q,rfl,M,hi,hj,hij,ok⟩
    exact ⟨.inr ⟨i,j,o,g,p,q,rfl,M,hi,hj,hij⟩,ok⟩
   case post2 =>
    rintro c st' ⟨⟨r,z,rfl,m⟩ | ⟨i,j,o,g,p,q,rfl,M,hi,hj,hij⟩,ok⟩
    ·exact wpS_pure ⟨r,_,rfl,m,ok⟩
    ·dsimp only
     exact wpS_bind (wpS_smg ok fun st'' ok'=>wpS_pure ⟨i,j,o,_,rfl,M,hi,hj,by omega,ok'⟩)
   case step2 =>
    rintro y c st2 _ hy ⟨i,j,o,g,p,q,rfl,M,hi,hj,hij,ok2⟩
    change wpS _ _ _ _ (if g > 1 then hq1 a b i j o p q (g - 1) else hq1 a b i j o p q g) _ _
    refine wpS_mono (Q:=Hst (kd:=kd) κ a b x st) ?_ fun r st' h=>?_
    rotate_left
    ·cases r with
     | done c=>exact h
     | yield c=>exact h
    by_cases hg:g > 1
    ·refine wpS_ifT hg ?_
     exact wpS_hq1 hO T M hi hj hij ok2
    ·refine wpS_ifF hg ?_
     exact wpS_hq1 hO T M hi hj hij ok2
end
end Tv
namespace Tv
open PySem PyProof.Rows
variable {κ:KeyKind} {kd:SortKind}
noncomputable def SrI (κ:KeyKind)(xs:Array Keyed)(lo hi:Nat):Prop:=∀ i j,lo≤i→i≤j→j < hi→κ.kle (KK κ xs i) (KK κ xs j)
noncomputable def NiI (κ:KeyKind)(xs:Array Keyed)(lo hi:Nat):Prop:=∀ i j,lo≤i→i≤j→j < hi→κ.kle (KK κ xs j) (KK κ xs i)
structure Rp (lo hi:Nat) (xs ys:Array Keyed):Prop where
 pm:ys.Perm xs
 out:∀ k,(k < lo ∨ hi≤k)→ys[k]? = xs[k]?
theorem Rp.refl (lo hi:Nat)(xs:Array Keyed):Rp lo hi xs xs:=⟨Array.Perm.refl _,fun _ _=>rfl⟩
theorem Rp.trans {lo hi:Nat}{xs ys zs:Array Keyed}(h:Rp lo hi xs ys)(g:Rp lo hi ys zs):Rp lo hi xs zs:=⟨g.pm.trans h.pm,fun k hk=>(g.out k hk).trans (h.out k hk)⟩
theorem Rp.size {lo hi:Nat}{xs ys:Array Keyed}(h:Rp lo hi xs ys):ys.size=xs.size:=h.pm.size_eq
theorem Rp.mirror {lo hi i j:Nat}{xs:Array Keyed}(h1:lo≤i)(h2:j≤hi)(hj:j≤xs.size):Rp lo hi xs (mirror xs i j ((j - i) / 2)):=by
 refine ⟨mirror_perm _ _ _ _,fun k hk=>?_⟩
 rw [getElem?_mirror_all hj,if_neg (by omega)]
theorem Rp.bubble {lo hi src d:Nat}{xs:Array Keyed}(h1:lo+d≤src)(h2:src < hi)(hs:src < xs.size):Rp lo hi xs (bubble xs src d):=by
 refine ⟨bubble_perm _ _ _,fun k hk=>?_⟩
 rw [getElem?_bubble hs d (by omega),if_neg (by omega),if_neg (by omega)]
structure Rs (kd:SortKind) (κ:KeyKind) (lo hi:Nat) (st st':SortSt):Prop where
 tb:TB kd st'
 pd:pendingOf st'=pendingOf st
 gd:∀ x∈(arrOf st').toList,Gd κ x
 rp:Rp lo hi (arrOf st) (arrOf st')
theorem Rs.refl {lo hi:Nat}{st:SortSt}(h:TB kd st)(g:∀ x∈(arrOf st).toList,Gd κ x):Rs kd κ lo hi st st:=⟨h,rfl,g,.refl _ _ _⟩
theorem Rs.arr {lo hi:Nat}{st st':SortSt}(h:Rs kd κ lo hi st st'){ys:Array Keyed}(r:Rp lo hi (arrOf st') ys):Rs kd κ lo hi st (setArr st' ys) :=
 ⟨⟨h.tb.kind,h.tb.failed⟩,h.pd,fun x hx=>h.gd x ((Array.perm_iff_toList_perm.mp r.pm).mem_iff.mp hx),h.rp.trans r⟩
theorem kk_at {xs:Array Keyed}(g:∀ x∈xs.toList,Gd κ x){i:Nat}(hi:i < xs.size):∃ x p,xs[i]? = some (x,p)∧κ.keyOf x=some (KK κ xs i):=by
 have e:xs[i]? = some xs[i]:=getElem?_pos xs i hi
 refine ⟨xs[i].1,xs[i].2,e,?_⟩
 have:=(g xs[i] (by simp)).eq
 rw [this]
 unfold KK kof
 rw [e]
section
variable {prog:Program} {w:World} {A:Around} {E:Value→Shared→Prop} {s:Shared}
theorem wpS_ltI {st:SortSt}{i j:Nat}{Q:Option Bool→SortSt→Prop}(hO:Lt1 κ prog w A s kd)(hB:TB kd st)(g:∀ x∈(arrOf st).toList,Gd κ x)(hi:i < (arrOf st).size)(hj:j < (arrOf st).size)
  (h:Q (some (κ.blt (KK κ (arrOf st) i) (KK κ (arrOf st) j))) st):wpS (model prog w) A E s (ltAt' i j) Q st:=by
 obtain ⟨x,p,e1,k1⟩:=kk_at g hi
 obtain ⟨y,q,e2,k2⟩:=kk_at g hj
 have hx:Gd κ (x,p):=⟨_,k1⟩
 have hy:Gd κ (y,q):=⟨_,k2⟩
 rw [ltAt'_eq]
 refine wpS_bind (wpS_get ?_)
 show wpS _ _ _ _ (do let x ← elem' (arrOf st) i;let y ← elem' (arrOf st) j;lt' x y) Q st
 rw [elem'_eq,elem'_eq,e1,e2]
 refine wpS_bind (wpS_pure (wpS_bind (wpS_pure (wpS_lt hO hB hx hy ?_))))
 have a1:kof κ (x,p)=_:=Option.some.inj (hx.eq.symm.trans k1)
 have a2:kof κ (y,q)=_:=Option.some.inj (hy.eq.symm.trans k2)
 rw [a1,a2]
 exact h
noncomputable def ascL (lo a nr:Nat):StateT SortSt Sem (Option Nat):=do
 let mut n:=a
 for _ in [a:nr] do
  let some sm ← ltAt' (lo+n) (lo+n - 1) | return none
  if sm then break
  n:=n+1
 return some n
noncomputable def tailL (lo a nr:Nat):StateT SortSt Sem (Option Nat):=do
 reverseSlice' lo (lo+a)
 ascL lo a nr
noncomputable def dscL (lo a nr:Nat):StateT SortSt Sem (Option Nat):=do
 rule "list.sort.descending-run"
 let mut n:=a+1
 let mut e:=0
 for _ in [a+1:nr] do
  let some sm ← ltAt' (lo+n) (lo+n - 1) | return none
  if sm then
   if e > 0 then reverseSlice' (lo+n - (e+1)) (lo+n)
   e:=0
  else
   let some lg ← ltAt' (lo+n - 1) (lo+n) | return none
   if lg then break
   e:=e+1
  n:=n+1
 if e > 0 then reverseSlice' (lo+n - (e+1)) (lo+n)
 tailL lo n nr
theorem sr_step {xs:Array Keyed}{lo x:Nat}(a1:SrI κ xs lo (lo+x))(h1:1≤x)(e:κ.blt (KK κ xs (lo+x)) (KK κ xs (lo+x - 1))=false):SrI κ xs lo (lo+(x+1)):=fun i j hi hij hj=>by
 by_cases q:j < lo+x
 ·exact a1 i j hi hij q
 ·have:j=lo+x:=by omega
  subst this
  by_cases q2:i=lo+x
  ·subst q2;exact KeyOrd.kle_refl _
  ·exact KeyOrd.kle_trans (a1 i (lo+x - 1) hi (by omega) (by omega)) e
theorem wpS_ascL {st:SortSt}{lo a nr:Nat}{Q:Option Nat→SortSt→Prop}(hO:Lt1 κ prog w A s kd)(hB:TB kd st)(g:∀ x∈(arrOf st).toList,Gd κ x)(h1:1≤a)(h2:a≤nr)(h3:lo+nr≤(arrOf st).size)(hs:SrI κ (arrOf st) lo (lo+a))
  (h:∀ n,a≤n→n≤nr→SrI κ (arrOf st) lo (lo+n)→Q (some n) st):wpS (model prog w) A E s (ascL lo a nr) Q st:=by
 unfold ascL
 refine wpS_bind (wpS_mono (wpS_forRange (I:=fun x c st'=>st'=st∧c=(none,x)∧SrI κ (arrOf st) lo (lo+x))
  (Q:=fun c st'=>st'=st∧∃ n,c=(none,n)∧a≤n∧n≤nr∧SrI κ (arrOf st) lo (lo+n)∧(n=nr ∨ κ.klt (KK κ (arrOf st) (lo+n)) (KK κ (arrOf st) (lo+n - 1)))) ?step ?fin ⟨rfl,rfl,hs⟩) ?post)
 case fin =>
  rintro c st' ⟨rfl,rfl,a1⟩
  have e:max a nr=nr:=by omega
  rw [e] at a1 ⊢
  exact ⟨rfl,nr,rfl,by omega,Nat.le_refl _,a1,.inl rfl⟩
 case step =>
  rintro x c st' hx1 hx2 ⟨rfl,rfl,a1⟩
  dsimp only
  refine wpS_bind (wpS_ltI hO hB g (by omega) (by omega) ?_)
  cases e:κ.blt (KK κ (arrOf st') (lo+x)) (KK κ (arrOf st') (lo+x - 1)) with
  | true =>
   simp only [if_true]
   exact wpS_pure ⟨rfl,x,rfl,hx1,by omega,a1,.inr e⟩
  | false =>
   simp only [Bool.false_eq_true,if_false]
   exact wpS_pure ⟨rfl,rfl,sr_step a1 (by omega) e⟩
 case post =>
  rintro c st' ⟨rfl,n,rfl,a1,a2,a3,a4⟩
  exact wpS_pure (h n a1 a2 a3)
theorem wpS_tailL {st st':SortSt}{lo a nr:Nat}{Q:Option Nat→SortSt→Prop}(hO:Lt1 κ prog w A s kd)(R:Rs kd κ lo (lo+nr) st st')(h1:1≤a)(h2:a≤nr)(h3:lo+nr≤(arrOf st).size)(hs:NiI κ (arrOf st') lo (lo+a))
  (h:∀ n st'',1≤n→n≤nr→Rs kd κ lo (lo+nr) st st''→SrI κ (arrOf st'') lo (lo+n)→Q (some n) st''):wpS (model prog w) A E s (tailL lo a nr) Q st':=by
 have hz:=R.rp.size
 unfold tailL
 refine wpS_bind (wpS_reverse ?_)
 have R':Rs kd κ lo (lo+nr) st (setArr st' (mirror (arrOf st') lo (lo+a) ((lo+a - lo) / 2))):=R.arr (Rp.mirror (Nat.le_refl _) (by omega) (by omega))
 refine wpS_ascL hO R'.tb R'.gd h1 h2 (by rw [R'.rp.size];exact h3) (fun i j hi hij hj=>?_) fun n a1 a2 a3=>h n _ (by omega) a2 R' a3
 show κ.kle (KK κ (mirror (arrOf st') lo (lo+a) ((lo+a - lo) / 2)) i) (KK κ (mirror (arrOf st') lo (lo+a) ((lo+a - lo) / 2)) j)
 rw [KK_mirror (by omega),KK_mirror (by omega),if_pos (by omega),if_pos (by omega)]
 exact hs _ _ (by omega) (by omega) (by omega)
theorem wpS_dscL {st st':SortSt}{lo a nr:Nat}{Q:Option Nat→SortSt→Prop}(hO:Lt1 κ prog w A s kd)(R:Rs kd κ lo (lo+nr) st st')(h2:a+1≤nr)(h3:lo+nr≤(arrOf st).size)(hs:NiI κ (arrOf st') lo (lo+(a+1)))
  (h:∀ n st'',1≤n→n≤nr→Rs kd κ lo (lo+nr) st st''→SrI κ (arrOf st'') lo (lo+n)→Q (some n) st''):wpS (model prog w) A E s (dscL lo a nr) Q st':=by
 unfold dscL
 refine wpS_bind (wpS_lift (wpAny_rule ⟨rfl,?_⟩))
 dsimp only
 refine wpS_bind (wpS_mono (wpS_forRange (I:=fun x c st''=>∃ e,c=(none,x,e)∧Rs kd κ lo (lo+nr) st st''∧NiI κ (arrOf st'') lo (lo+x)∧e+1≤x∧∀ i,lo+x - (e+1)≤i→i < lo+x→KK κ (arrOf st'') i=KK κ (arrOf st'') (lo+x - 1))
  (Q:=fun c st''=>∃ x e,c=(none,x,e)∧a+1≤x∧x≤nr∧Rs kd κ lo (lo+nr) st st''∧NiI κ (arrOf st'') lo (lo+x)∧e+1≤x∧∀ i,lo+x - (e+1)≤i→i < lo+x→KK κ (arrOf st'') i=KK κ (arrOf st'') (lo+x - 1)) ?step ?fin ⟨0,rfl,R,hs,by omega,fun i h1 h2=>by congr 1;omega⟩) ?post)
 case fin =>
  rintro c st'' ⟨e,rfl,R,hs,he,hk⟩
  have ex:max (a+1) nr=nr:=by omega
  rw [ex] at hs he hk ⊢
  exact ⟨nr,e,rfl,h2,Nat.le_refl _,R,hs,he,hk⟩
 case post =>
  rintro c st'' ⟨x,e,rfl,hx1,hx2,R,hs,he,hk⟩
  have hz:=R.rp.size
  dsimp only
  by_cases h0:e > 0
  ·refine wpS_ifT h0 ?_
   refine wpS_bind (wpS_reverse ?_)
   refine wpS_tailL hO (R.arr (Rp.mirror (by omega) (by omega) (by omega))) (by omega) hx2 h3 (fun i j hi hij hj=>?_) h
   show κ.kle (KK κ (mirror (arrOf st'') _ _ _) j) (KK κ (mirror (arrOf st'') _ _ _) i)
   rw [KK_mirror_equal (by omega) hk,KK_mirror_equal (by omega) hk]
   exact hs i j hi hij hj
  ·refine wpS_ifF h0 ?_
   exact wpS_tailL hO R (by omega) hx2 h3 hs h
 case step =>
  rintro x c st'' hx1 hx2 ⟨e,rfl,R,hs,he,hk⟩
  have hz:=R.rp.size
  dsimp only
  refine wpS_bind (wpS_ltI hO R.tb R.gd (by omega) (by omega) ?_)
  cases e1:κ.blt (KK κ (arrOf st'') (lo+x)) (KK κ (arrOf st'') (lo+x - 1)) with
  | true =>
   simp only [if_true]
   have nx:∀ xs:Array Keyed,(∀ k,KK κ xs k=KK κ (arrOf st'') k)→NiI κ xs lo (lo+(x+1)):=fun xs ek i j hi hij hj=>by
    rw [ek,ek]
    by_cases q:j < lo+x
    ·exact hs i j hi hij q
    ·have:j=lo+x:=by omega
     subst this
     by_cases q2:i=lo+x
     ·subst q2;exact KeyOrd.kle_refl _
     ·exact KeyOrd.kle_trans (KeyOrd.kle_of_klt e1) (hs i (lo+x - 1) hi (by omega) (by omega))
   by_cases h0:e > 0
   ·refine wpS_ifT h0 ?_
    exact wpS_bind (wpS_reverse (wpS_pure ⟨0,rfl,R.arr (Rp.mirror (by omega) (by omega) (by omega)),nx _ (KK_mirror_equal (by omega) hk),by omega,fun i h1 h2=>by congr 1;omega⟩))
   ·refine wpS_ifF h0 ?_
    exact wpS_pure ⟨0,rfl,R,nx _ fun _=>rfl,by omega,fun i h1 h2=>by congr 1;omega⟩
  | false =>
   simp only [Bool.false_eq_true,if_false]
   refine wpS_bind (wpS_ltI hO R.tb R.gd (by omega) (by omega) ?_)
   cases e2:κ.blt (KK κ (arrOf st'') (lo+x - 1)) (KK κ (arrOf st'') (lo+x)) with
   | true =>
    simp only [if_true]
    exact wpS_pure ⟨x,e,rfl,hx1,by omega,R,hs,he,hk⟩
   | false =>
    simp only [Bool.false_eq_true,if_false]
    have ee:KK κ (arrOf st'') (lo+x)=KK κ (arrOf st'') (lo+x - 1):=KeyOrd.kle_antisymm e2 e1
    refine wpS_pure ⟨e+1,rfl,R,fun i j hi hij hj=>?_,by omega,fun i h1 h2=>?_⟩
    ·by_cases q:j < lo+x
     ·exact hs i j hi hij q
     ·have:j=lo+x:=by omega
      subst this
      by_cases q2:i=lo+x
      ·subst q2;exact KeyOrd.kle_refl _
      ·rw [ee];exact hs i (lo+x - 1) hi (by omega) (by omega)
    ·rw [show lo+(x+1) - 1=lo+x by omega]
     by_cases q:i=lo+x
     ·subst q;rfl
     ·rw [ee];exact hk i (by omega) (by omega)
theorem wpS_crun {st:SortSt}{lo nr:Nat}{Q:Option Nat→SortSt→Prop}(hO:Lt1 κ prog w A s kd)(hB:TB kd st)(g:∀ x∈(arrOf st).toList,Gd κ x)(h1:1≤nr)(h3:lo+nr≤(arrOf st).size)
  (h:∀ n st',1≤n→n≤nr→Rs kd κ lo (lo+nr) st st'→SrI κ (arrOf st') lo (lo+n)→Q (some n) st'):wpS (model prog w) A E s (countRun' lo nr) Q st:=by
 have R:Rs kd κ lo (lo+nr) st st:=.refl hB g
 rw [countRun'_eq]
 change wpS _ _ _ _ (do
  let mut n:=1
  for _ in [1:nr] do
   let some sm ← ltAt' (lo+n) (lo+n - 1) | return none
   if sm then break
   n:=n+1
  if n == nr then return some n
  if n > 1 then
   let some rs ← ltAt' lo (lo+n - 1) | return none
   if rs then return some n
   reverseSlice' lo (lo+n)
  dscL lo n nr) _ _
 refine wpS_bind (wpS_mono (wpS_forRange (I:=fun x c st'=>st'=st∧c=(none,x)∧SrI κ (arrOf st) lo (lo+x))
  (Q:=fun c st'=>st'=st∧∃ n,c=(none,n)∧1≤n∧n≤nr∧SrI κ (arrOf st) lo (lo+n)∧(n=nr ∨ κ.klt (KK κ (arrOf st) (lo+n)) (KK κ (arrOf st) (lo+n - 1)))) ?step ?fin ⟨rfl,rfl,fun i j hi hij hj=>by have:i=j:=(by omega);subst this;exact KeyOrd.kle_refl _⟩) ?post)
 case fin =>
  rintro c st' ⟨rfl,rfl,a1⟩
  have e:max 1 nr=nr:=by omega
  rw [e] at a1 ⊢
  exact ⟨rfl,nr,rfl,by omega,Nat.le_refl _,a1,.inl rfl⟩
 case step =>
  rintro x c st' hx1 hx2 ⟨rfl,rfl,a1⟩
  dsimp only
  refine wpS_bind (wpS_ltI hO hB g (by omega) (by omega) ?_)
  cases e:κ.blt (KK κ (arrOf st') (lo+x)) (KK κ (arrOf st') (lo+x - 1)) with
  | true =>
   simp only [if_true]
   exact wpS_pure ⟨rfl,x,rfl,hx1,by omega,a1,.inr e⟩
  | false =>
   simp only [Bool.false_eq_true,if_false]
   exact wpS_pure ⟨rfl,rfl,sr_step a1 (by omega) e⟩
 rintro c st' ⟨rfl,n,rfl,a1,a2,a3,a4⟩
 dsimp only
 by_cases hn:n=nr
 ·refine wpS_ifT (by simpa using hn) ?_
  exact wpS_pure (h n st' a1 a2 R a3)
 ·refine wpS_ifF (by simpa using hn) ?_
  have lt:κ.klt (KK κ (arrOf st') (lo+n)) (KK κ (arrOf st') (lo+n - 1)):=a4.resolve_left hn
  by_cases hg:n > 1
  ·refine wpS_ifT hg ?_
   refine wpS_bind (wpS_ltI hO hB g (by omega) (by omega) ?_)
   cases e:κ.blt (KK κ (arrOf st') lo) (KK κ (arrOf st') (lo+n - 1)) with
   | true =>
    simp only [if_true]
    exact wpS_pure (h n st' a1 a2 R a3)
   | false =>
    simp only [Bool.false_eq_true,if_false]
    refine wpS_bind (wpS_reverse ?_)
    have same:∀ i,lo≤i→i < lo+n→KK κ (arrOf st') i=KK κ (arrOf st') (lo+n - 1):=fun i hi1 hi2=>by
     have b1:=a3 i (lo+n - 1) hi1 (by omega) (by omega)
     have b2:=a3 lo i (Nat.le_refl _) hi1 hi2
     exact KeyOrd.kle_antisymm b1 (KeyOrd.kle_trans e b2)
    refine wpS_dscL hO (R.arr (Rp.mirror (Nat.le_refl _) (by omega) (by omega))) (by omega) h3 (fun i j hi hij hj=>?_) h
    show κ.kle (KK κ (mirror (arrOf st') _ _ _) j) (KK κ (mirror (arrOf st') _ _ _) i)
    rw [KK_mirror_equal (by omega) same,KK_mirror_equal (by omega) same]
    by_cases q:j < lo+n
    ·rw [same i hi (by omega),same j (by omega) q]
     exact KeyOrd.kle_refl _
    ·have:j=lo+n:=by omega
     subst this
     by_cases q2:i=lo+n
     ·subst q2;exact KeyOrd.kle_refl _
     ·rw [same i hi (by omega)]
      exact KeyOrd.kle_of_klt lt
  ·refine wpS_ifF hg ?_
   have:n=1:=by omega
   subst this
   refine wpS_dscL hO R (by omega) h3 (fun i j hi hij hj=>?_) h
   by_cases q2:i=j
   ·subst q2;exact KeyOrd.kle_refl _
   ·have e1:i=lo:=by omega
    have e2:j=lo+1:=by omega
    subst e1 e2
    exact KeyOrd.kle_of_klt lt
end
end Tv
namespace Tv
open PySem PyProof.Rows
variable {κ:KeyKind} {kd:SortKind}
section
variable {prog:Program} {w:World} {A:Around} {E:Value→Shared→Prop} {s:Shared}
theorem wpS_bins {st:SortSt}{lo n ok:Nat}{Q:Bool→SortSt→Prop}(hO:Lt1 κ prog w A s kd)(hB:TB kd st)(g:∀ x∈(arrOf st).toList,Gd κ x)(hn:lo+n≤(arrOf st).size)(hok:ok≤n)(hs:SrI κ (arrOf st) lo (lo+ok))
  (h:∀ st',Rs kd κ lo (lo+n) st st'→SrI κ (arrOf st') lo (lo+n)→Q true st'):wpS (model prog w) A E s (binarySort' lo n ok) Q st:=by
 rw [binarySort'_eq]
 refine wpS_bind (wpS_mono (wpS_forRange (I:=fun y c st'=>c=(none,())∧Rs kd κ lo (lo+n) st st'∧SrI κ (arrOf st') lo (lo+min y n))
  (Q:=fun c st'=>c=(none,())∧Rs kd κ lo (lo+n) st st'∧SrI κ (arrOf st') lo (lo+n)) ?step ?fin ?init) ?post)
 case post =>
  rintro c st' ⟨rfl,R,hs'⟩
  exact wpS_pure (h st' R hs')
 case init =>
  refine ⟨rfl,.refl hB g,fun i j hi hij hj=>?_⟩
  by_cases e:i=j
  ·subst e;exact KeyOrd.kle_refl _
  ·exact hs i j hi hij (by omega)
 case fin =>
  rintro c st' ⟨hc,R,hs'⟩
  rw [show min (max (max ok 1) n) n=n by omega] at hs'
  exact ⟨hc,R,hs'⟩
 case step =>
  rintro y c st' hy1 hy2 ⟨rfl,R,hs'⟩
  have hz:=R.rp.size
  rw [show min y n=y by omega] at hs'
  refine wpS_bind (wpS_mono (wpS_forRange (I:=fun x c st''=>st''=st'∧∃ l r,c=(none,l,r)∧l≤r∧r≤y∧r - l≤y - x ∧
    (∀ i,lo≤i→i < lo+l→κ.kle (KK κ (arrOf st') i) (KK κ (arrOf st') (lo+y)))∧(∀ i,lo+r≤i→i < lo+y→κ.klt (KK κ (arrOf st') (lo+y)) (KK κ (arrOf st') i)))
   (Q:=fun c st''=>st''=st'∧∃ l r,c=(none,l,r)∧l≤y ∧
    (∀ i,lo≤i→i < lo+l→κ.kle (KK κ (arrOf st') i) (KK κ (arrOf st') (lo+y)))∧(∀ i,lo+l≤i→i < lo+y→κ.klt (KK κ (arrOf st') (lo+y)) (KK κ (arrOf st') i))) ?istep ?ifin ?iinit) ?ipost)
  case iinit=>exact ⟨rfl,0,y,rfl,by omega,by omega,by omega,fun i h1 h2=>by omega,fun i h1 h2=>by omega⟩
  case ifin =>
   rintro c st'' ⟨rfl,l,r,rfl,q1,q2,q3,q4,q5⟩
   have:l=r:=by omega
   subst this
   exact ⟨rfl,l,l,rfl,q2,q4,q5⟩
  case istep =>
   rintro x c st'' _ hx ⟨rfl,l,r,rfl,q1,q2,q3,q4,q5⟩
   dsimp only
   by_cases hge:l≥r
   ·refine wpS_ifT hge ?_
    have:l=r:=by omega
    subst this
    exact wpS_pure ⟨rfl,l,l,rfl,q2,q4,q5⟩
   ·refine wpS_ifF hge ?_
    refine wpS_bind (wpS_ltI hO R.tb R.gd (by omega) (by omega) ?_)
    cases e:κ.blt (KK κ (arrOf st'') (lo+y)) (KK κ (arrOf st'') (lo+(l+r) / 2)) with
    | true =>
     simp only [if_true]
     refine wpS_pure ⟨rfl,l,(l+r) / 2,rfl,by omega,by omega,by omega,q4,fun i h1 h2=>?_⟩
     exact KeyOrd.klt_of_klt_of_kle e (hs' _ _ (by omega) h1 h2)
    | false =>
     simp only [Bool.false_eq_true,if_false]
     refine wpS_pure ⟨rfl,(l+r) / 2+1,r,rfl,by omega,by omega,by omega,fun i h1 h2=>?_,q5⟩
     exact KeyOrd.kle_trans (hs' i (lo+(l+r) / 2) h1 (by omega) (by omega)) (show κ.kle _ _ from e)
  case ipost =>
   rintro c st'' ⟨rfl,l,r,rfl,hl,q4,q5⟩
   show wpS _ _ _ _ (do moveDown' (lo+y) (lo+l);pure (ForInStep.yield (none,()))) _ _
   rw [moveDown'_eq]
   have hk:lo+y < (arrOf st'').size:=by omega
   refine wpS_bind (wpS_modify (wpS_pure ⟨rfl,R.arr (Rp.bubble (by omega) (by omega) hk),?_⟩))
   rw [show min (y+1) n=y+1 by omega]
   intro i j hi hij hj
   show κ.kle (KK κ (bubble (arrOf st'') (lo+y) (lo+y - (lo+l))) i) (KK κ (bubble (arrOf st'') (lo+y) (lo+y - (lo+l))) j)
   rw [KK_bubble hk (by omega),KK_bubble hk (by omega),show lo+y - (lo+y - (lo+l))=lo+l by omega]
   repeat' split
   all_goals first
    | (exfalso;omega)
    | exact KeyOrd.kle_refl _
    | exact q4 _ (by omega) (by omega)
    | exact KeyOrd.kle_of_klt (q5 _ (by omega) (by omega))
    | exact hs' _ _ (by omega) (by omega) (by omega)
end
theorem put_all:∀ (r:List Keyed) (z b:Nat) (arr:Array Keyed) (X Y Z:List Keyed),arr.toList=X++(Y++Z)→X.length=z+b→Y.length=r.length →
  ((r.zipIdx b).foldl (fun a (p,j)=>a.setIfInBounds (z+j) p) arr).toList=X++(r++Z)
 | [],z,b,arr,X,Y,Z,e,h1,h2=>by
  rw [List.length_eq_zero_iff.mp h2] at e
  exact e
 | p::r,z,b,arr,X,Y,Z,e,h1,h2=>by
  cases Y with
  | nil=>simp at h2
  | cons y Y =>
   rw [List.zipIdx_cons,List.foldl_cons]
   have:=put_all r z (b+1) (arr.setIfInBounds (z+b) p) (X++[p]) Y Z (by
    rw [Array.toList_setIfInBounds,e,← h1,List.set_append_right _ _ (Nat.le_refl _),Nat.sub_self]
    simp) (by simp [h1];omega) (by simpa using h2)
   rw [this]
   simp
noncomputable def mAt (i:Nat):StateT SortSt Sem Bool:=do
 let u ← get
 let (some (za,la,pw),some (zb,lb,_)):=((pendingOf u)[i]?,(pendingOf u)[i+1]?) | unsupported "internal:list.sort.pending"
 set (setPending u (((pendingOf u).setIfInBounds i (za,la+lb,pw)).eraseIdxIfInBounds (i+1)))
 let some c ← gal false (← elem' (arrOf u) zb) (arrOf u) za la 0 | return false
 let (za,la):=(za+c,la - c)
 if la == 0 then return true
 let some lb ← gal true (← elem' (arrOf u) (za+la - 1)) (arrOf u) zb lb (lb - 1) | return false
 if lb == 0 then return true
 let x:=(arrOf u).extract za zb
 let y:=(arrOf u).extract zb (zb+lb)
 let out ← if la≤lb then mlo x y else mhi x y
 modify fun v=>setArr v (out.toList.zipIdx.foldl (fun a (p,j)=>a.setIfInBounds (za+j) p) (arrOf v))
 return (failedOf (← get)).isNone
theorem mAt_eq (i:Nat):mergeAt' i=mAt i:=rfl
end Tv
namespace Tv
open PySem PyProof.Rows
variable {κ:KeyKind} {kd:SortKind}
section
variable {prog:Program} {w:World} {A:Around} {E:Value→Shared→Prop} {s:Shared}
end
end Tv
namespace PySem
open Sem (wp)
noncomputable def Rise (xs:Array Nat):Prop:=∀ (i j a b:Nat),i < j→xs[i]? = some a→xs[j]? = some b→a < b
theorem below_go {xs:Array Nat}{j:Nat}(hr:Rise xs):∀ (f lo hi:Nat),hi - lo≤f→lo≤hi→hi≤xs.size→(∀ i a,i < lo→xs[i]? = some a→a < j)→(∀ i a,hi≤i→xs[i]? = some a→j≤a) →
  SetTable.below.go xs j f lo hi≤xs.size∧(∀ i a,i < SetTable.below.go xs j f lo hi→xs[i]? = some a→a < j)∧∀ i a,SetTable.below.go xs j f lo hi≤i→xs[i]? = some a→j≤a
 | 0,lo,hi,h,h1,h2,l,u=>by
  have e:lo=hi:=by omega
  unfold SetTable.below.go
  exact ⟨by omega,l,by rw [e];exact u⟩
 | f+1,lo,hi,h,h1,h2,l,u=>by
  unfold SetTable.below.go
  by_cases hlt:lo < hi
  ·rw [if_pos hlt]
   have hm:(lo+hi) / 2 < xs.size:=by omega
   have em:xs[(lo+hi) / 2]? = some xs[(lo+hi) / 2]:=getElem?_pos xs _ hm
   have eg:xs.getD ((lo+hi) / 2) j=xs[(lo+hi) / 2]:=by simp [Array.getD,hm]
   dsimp only
   rw [eg]
   split
   ·rename_i hx
    refine below_go hr f _ _ (by omega) (by omega) h2 (fun i a hi' e=>?_) u
    by_cases q:i=(lo+hi) / 2
    ·subst q;rw [em] at e;cases e;exact hx
    ·exact Nat.lt_trans (hr i _ _ _ (by omega) e em) hx
   ·rename_i hx
    refine below_go hr f _ _ (by omega) (by omega) (by omega) l (fun i a hi' e=>?_)
    by_cases q:i=(lo+hi) / 2
    ·subst q;rw [em] at e;cases e;omega
    ·have:=hr _ i _ _ (show (lo+hi) / 2 < i by omega) em e
     omega
  ·rw [if_neg hlt]
   have e:lo=hi:=by omega
   exact ⟨by omega,l,by rw [e];exact u⟩
theorem below_is {xs:Array Nat}(hr:Rise xs)(j:Nat):SetTable.below xs j≤xs.size∧(∀ i a,i < SetTable.below xs j→xs[i]? = some a→a < j)∧∀ i a,SetTable.below xs j≤i→xs[i]? = some a→j≤a :=
 below_go hr xs.size 0 xs.size (by omega) (Nat.zero_le _) (Nat.le_refl _) (fun i a h=>absurd h (Nat.not_lt_zero _)) fun i a h e=>by
  have:=(Array.getElem?_eq_some_iff.mp e).1
  omega
theorem Rise.put {xs:Array Nat}(hr:Rise xs){j:Nat}(hn:xs[SetTable.below xs j]? ≠ some j):Rise (SetTable.insertAt xs (SetTable.below xs j) j):=by
 obtain ⟨h1,h2,h3⟩:=below_is hr j
 have hl:(SetTable.insertAt xs (SetTable.below xs j) j).toList=xs.toList.take (SetTable.below xs j)++j::xs.toList.drop (SetTable.below xs j):=by
  unfold SetTable.insertAt
  simp [Array.toList_extract,List.take_of_length_le]
 have at_:∀ k,(SetTable.insertAt xs (SetTable.below xs j) j)[k]? = if k < SetTable.below xs j then xs[k]? else if k=SetTable.below xs j then some j else xs[k - 1]?:=fun k=>by
  rw [← Array.getElem?_toList,hl]
  have z:(xs.toList.take (SetTable.below xs j)).length=SetTable.below xs j:=by rw [List.length_take,Array.length_toList];omega
  by_cases q1:k < SetTable.below xs j
  ·rw [if_pos q1,List.getElem?_append_left (by omega),List.getElem?_take,if_pos q1,Array.getElem?_toList]
  ·rw [if_neg q1,List.getElem?_append_right (by omega),z]
   by_cases q2:k=SetTable.below xs j
   ·rw [if_pos q2,q2,Nat.sub_self]
    rfl
   ·rw [if_neg q2]
    obtain ⟨m,hm⟩:∃ m,k - SetTable.below xs j=m+1:=⟨k - SetTable.below xs j - 1,by omega⟩
    rw [hm,List.getElem?_cons_succ,List.getElem?_drop,Array.getElem?_toList]
    congr 1
    omega
 intro i k a b hik ea eb
 rw [at_] at ea eb
 have ne:∀ m c,SetTable.below xs j≤m→xs[m]? = some c→j < c:=fun m c hm e=>by
  have l:=h3 m c hm e
  by_cases q:m=SetTable.below xs j
  ·subst q
   have:c≠j:=fun z=>hn (by rw [e,z])
   omega
  ·have hb:SetTable.below xs j < xs.size:=by have:=(Array.getElem?_eq_some_iff.mp e).1;omega
   have e0:xs[SetTable.below xs j]? = some xs[SetTable.below xs j]:=getElem?_pos xs _ hb
   have:=h3 _ _ (Nat.le_refl _) e0
   have:=hr _ m _ _ (by omega) e0 e
   omega
 split at ea
 ·rename_i c1
  split at eb
  ·exact hr i k a b hik ea eb
  ·split at eb
   ·cases eb;exact h2 i a c1 ea
   ·have:=h2 i a c1 ea
    have:=ne (k - 1) b (by omega) eb
    omega
 ·split at ea
  ·cases ea
   rw [if_neg (by omega),if_neg (by omega)] at eb
   exact ne (k - 1) b (by omega) eb
  ·rw [if_neg (by omega),if_neg (by omega)] at eb
   exact hr (i - 1) (k - 1) a b (by omega) ea eb
theorem rise_range (n:Nat):Rise (Array.range n):=fun i j a b h ea eb=>by
 rw [Array.getElem?_range] at ea eb
 split at ea <;> split at eb <;> simp_all
theorem rise_nil:Rise #[]:=fun i j a b h ea=>by simp at ea
theorem probe_free {t:SetTable}(hd:t.dummies=#[])(g:Nat→Int)(h:Int):∀ (f:Nat) (p:SetTable.Probe) (j:Nat) (d:Option Nat),p.dummy=none→SetTable.probe.go t g h f p=some (.empty j d)→d=none∧t.slot j = .empty
 | 0,p,j,d,_,e=>by unfold SetTable.probe.go at e;cases e
 | f+1,p,j,d,hp,e=>by
  unfold SetTable.probe.go at e
  have hh:∀ x,SetTable.has t.dummies x=false:=fun x=>by rw [hd];unfold SetTable.has;simp
  have hs:∀ x,t.slot x ≠ .dummy:=fun x=>by
   unfold SetTable.slot
   dsimp only
   rw [hh]
   simp only [Bool.false_eq_true,if_false]
   split
   ·exact fun z=>by cases z
   ·exact fun z=>by cases z
  cases hq:t.slot p.j with
  | empty =>
   rw [hq] at e
   cases e
   exact ⟨hp,hq⟩
  | dummy=>exact absurd hq (hs _)
  | live i =>
   rw [hq] at e
   have ad:(t.advance p).dummy=none:=by
    unfold SetTable.advance
    split
    ·exact hp
    ·exact hp
   dsimp only at e
   split at e
   ·cases e
   ·exact probe_free hd g h f _ j d ad e
theorem free_new {t:SetTable}(hd:t.dummies=#[]){h:Int}{j:Nat}{b:Bool}(e:t.freeSlot h=some (j,b)):t.place[SetTable.below t.place j]? ≠ some j:=by
 unfold SetTable.freeSlot SetTable.probe at e
 split at e
 ·rename_i k d hq
  obtain ⟨rfl,hs⟩:=probe_free hd _ _ _ _ k d rfl hq
  cases e
  intro z
  unfold SetTable.slot at hs
  simp only [Option.getD_none] at z
  dsimp only at hs
  rw [z] at hs
  simp at hs
 ·cases e
end PySem
namespace PySem
open Sem (wp)
noncomputable abbrev ldr (w:World):Bool:=!w.params.followText "set-order"
theorem layNew_led {t:SetTable}{es:Array (Int × Value)}{h:Int}{x:Value}:(layNew t es h x).2.1.led=t.led:=by
 unfold layNew
 split
 ·dsimp only
  unfold SetTable.orStandIn
  split
  ·rfl
  ·rfl
 ·rfl
theorem relaid_led {t t':SetTable}{hs:Array Int}{w:Nat}{order:Array Nat}(h:t.relaid hs w=some (t',order)):t'.led=t.led:=by
 unfold SetTable.relaid SetTable.laid at h
 cases hq:SetTable.layClean (SetTable.sizeAbove w - 1) hs with
 | none=>rw [hq] at h;cases h
 | some o=>rw [hq] at h;cases h;rfl
theorem relayAll_led {t:SetTable}{es:Array (Int × Value)}{w:Nat}:(relayAll t es w).2.1.led=t.led:=by
 unfold relayAll
 split
 ·rename_i t' order he
  dsimp only
  split
  ·exact relaid_led he
  ·rfl
 ·rfl
noncomputable def Tk (t:SetTable):Prop:=t.dummies=#[]∧Rise t.place
theorem tk_standIn {t:SetTable}{n:Nat}:Tk (t.standIn n):=⟨rfl,rise_range n⟩
theorem layNew_tk {t:SetTable}{es:Array (Int × Value)}{h:Int}{x:Value}(k:Tk t):Tk (layNew t es h x).2.1:=by
 unfold layNew
 split
 ·rename_i j d hq
  dsimp only
  unfold SetTable.orStandIn
  split
  ·refine ⟨?_,k.2.put (free_new k.1 hq)⟩
   have:SetTable.has t.dummies j=false:=by rw [k.1];unfold SetTable.has;simp
   show (if SetTable.has t.dummies j=true then _ else t.dummies)=#[]
   rw [this]
   simpa using k.1
  ·exact tk_standIn
 ·exact tk_standIn
theorem rise_live (n:Nat)(f:Nat→Option Nat):Rise ((((List.range n).filterMap fun j=>(f j).map (j,·)).map (·.1)).toArray):=by
 have key:((((List.range n).filterMap fun j=>(f j).map (j,·)).map (·.1))).Pairwise (· < ·):=by
  rw [List.pairwise_map]
  refine List.Pairwise.filterMap _ (fun a a' hlt b hb b' hb'=>?_) List.pairwise_lt_range
  cases h1:f a with
  | none=>rw [h1] at hb;simp at hb
  | some x =>
   rw [h1] at hb
   cases h2:f a' with
   | none=>rw [h2] at hb';simp at hb'
   | some x' =>
    rw [h2] at hb'
    simp at hb hb'
    rw [← hb,← hb']
    exact hlt
 intro i j a b hij ea eb
 rw [List.getElem?_toArray] at ea eb
 obtain ⟨h1,e1⟩:=List.getElem?_eq_some_iff.mp ea
 obtain ⟨h2,e2⟩:=List.getElem?_eq_some_iff.mp eb
 rw [← e1,← e2]
 exact List.pairwise_iff_getElem.mp key i j h1 h2 hij
theorem relayAll_tk {t:SetTable}{es:Array (Int × Value)}{w:Nat}:Tk (relayAll t es w).2.1:=by
 unfold relayAll
 split
 ·rename_i t' order he
  dsimp only
  split
  ·unfold SetTable.relaid SetTable.laid at he
   cases hq:SetTable.layClean (SetTable.sizeAbove w - 1) (es.map (·.1)) with
   | none=>rw [hq] at he;cases he
   | some o=>rw [hq] at he;cases he;exact ⟨rfl,rise_live _ _⟩
  ·exact tk_standIn
 ·exact tk_standIn
section
variable {K:Type} [DecidableEq K] {prog:Program} {w:World} {knd:KeyKind prog w K} {A:Around} {E:Value→Shared→Prop} {s:Shared}
noncomputable def SetK {K:Type}[DecidableEq K]{prog:Program}{w:World}(knd:KeyKind prog w K)(h:Heap)(a:Addr)(dl:List K):Prop :=
 ∃ o es ep t,h.get? a=some o∧o.ExactSet∧o.data = .set es ep t∧ElemsOf knd es.toList∧(∀ k,k∈dl ↔ ∃ e∈es.toList,knd.is k e.2=true)∧es.size < scanBound∧t.fits es.size=true∧es.size=dl.length∧Tk t∧t.led=ldr w
theorem putQq {a:Addr}{o:Obj}{es es1:Array (Int × Value)}{ep:Nat}{t t2:SetTable}{dl:List K}(ho:s.heap.get? a=some o)(hex:o.ExactSet)(hd:o.data = .set es ep t)(hel:ElemsOf knd es1.toList)
  (hm:∀ k,k∈dl ↔ ∃ e∈es1.toList,knd.is k e.2=true) (hb:es1.size < scanBound) (hf:t2.fits es1.size=true) (hn:es1.size=dl.length) (hp:Tk t2) (hld:t2.led=ldr w) :
  (s.heap.update a (Obj.putSet es1 t2)).get? a=some { o with data:=.set es1 (ep+1) t2 }∧SetK knd (s.heap.update a (Obj.putSet es1 t2)) a dl:=by
 have hg:(s.heap.update a (Obj.putSet es1 t2)).get? a=some { o with data:=.set es1 (ep+1) t2 }:=by
  have q:=Heap.get?_update_self (Obj.putSet es1 t2) ho (by rw [putSet_of es1 t2 hd];rfl)
  rwa [putSet_of es1 t2 hd] at q
 exact ⟨hg,_,es1,ep+1,t2,hg,hex,rfl,hel,hm,hb,hf,hn,hp,hld⟩
theorem addQq {a:Addr}{dl:List K}{z:K}{v:Value}{Q:Bool→Shared→Prop}(hkey:knd.is z v=true)(hsc:v.scannable=true)(hS:SetK knd s.heap a dl)(hroom:dl.length+1 < scanBound)
  (h:∀ h' b,Heap.SameBut a s.heap h'→SetK knd h' a (if z∈dl then dl else dl++[z])→Q b { s with heap:=h' }) :
  wpAny (model prog w) A (setAddHashed a v (knd.hash z)) Q E s:=by
 obtain ⟨o,es,ep,t,ho,hex,hd,hel,hm,hb,hf,hn,hpl,hld⟩:=hS
 unfold setAddHashed setAddHashedIn
 refine wpAny_holding (wpAny_bind (wpAny_setState_of ho hd hf ?_))
 dsimp only
 rw [byScan_of (knd:=knd) hsc hb hel]
 simp only [↓reduceIte]
 unfold setAddByScan
 refine wpAny_bind (wpAny_bind (wpAny_rule (wpAny_bind (wpAny_setScan_of (knd:=knd) hkey ho hd hf hel ?_))))
 cases hr:List.findIdx? (fun e=>knd.is z e.2) es.toList with
 | some j =>
  dsimp only
  obtain ⟨hj,hpj,_⟩:=List.findIdx?_eq_some_iff_getElem.mp hr
  have hz:z∈dl:=(hm z).mpr ⟨es.toList[j],List.getElem_mem hj,hpj⟩
  refine wpAny_pure (wpAny_pure ?_)
  have q:=h s.heap false (Heap.SameBut.refl a s.heap) (by rw [if_pos hz];exact ⟨o,es,ep,t,ho,hex,hd,hel,hm,hb,hf,hn,hpl,hld⟩)
  have e:s={ s with heap:=s.heap }:=by cases s;rfl
  rw [e];exact q
 | none =>
  dsimp only
  have hz:z∉dl:=fun hz=>by
   obtain ⟨e,he,hp⟩:=(hm z).mp hz
   have q:=List.findIdx?_eq_none_iff.mp hr e he
   rw [hp] at q
   cases q
  have hq:∀ h',Heap.SameBut a s.heap h'→SetK knd h' a (dl++[z])→Q true { s with heap:=h' }:=fun h' sb hs=>h h' true sb (by rw [if_neg hz];exact hs)
  have hperm:=layNew_perm t es (knd.hash z) v
  have hfits:=layNew_fits t es (knd.hash z) v
  have hoff:=layNew_tk (es:=es) (h:=knd.hash z) (x:=v) hpl
  have hl1:(layNew t es (knd.hash z) v).2.1.led=ldr w:=layNew_led.trans hld
  generalize hL:layNew t es (knd.hash z) v=L at hperm hfits hoff hl1 ⊢
  obtain ⟨es1,t1,wasDummy,gave⟩:=L
  dsimp only at hperm hfits hoff hl1 ⊢
  rw [Array.toList_push] at hperm
  have hel1:ElemsOf knd es1.toList:=(hel.push hkey hsc).perm hperm
  have hm1:∀ k,k∈dl++[z] ↔ ∃ e∈es1.toList,knd.is k e.2=true:=fun k=>by
   rw [← mem_push_iff (knd:=knd) (S:=fun k=>decide (k∈dl)) hkey (fun k=>by rw [decide_eq_true_iff];exact hm k) hperm k]
   simp
  have hsz1:es1.size=(dl++[z]).length:=by rw [← Array.length_toList,hperm.length_eq,List.length_append,Array.length_toList,hn,List.length_append];rfl
  have hb1:es1.size < scanBound:=by rw [hsz1,List.length_append];exact hroom
  have tail:∀ t2:SetTable,Tk t2→t2.led=ldr w→t2.fits es1.size=true→wpAny (model prog w) A (do
    storeSet a es1 t2
    if (!wasDummy && t2.tooFull)=true then do
      (match (relayAll t2 es1 (SetTable.grown es1.size)).2.2 with | true=>rule "set.scan.the-table-gave-way" | false=>pure ())
      storeSet a (relayAll t2 es1 (SetTable.grown es1.size)).1 (relayAll t2 es1 (SetTable.grown es1.size)).2.1
      pure (some true)
     else pure (some true)) (fun r s'=>wpAny (model prog w) A (match r with | some added=>pure added | none=>setAddHashedIn a v (knd.hash z) 99999) Q E s') E s:=fun t2 hp2 hd2 hf2=>by
   refine wpAny_bind (wpAny_storeSet_of ho hd ?_ (fits_of_scanBound hb1))
   obtain ⟨ho1,hS1⟩:=putQq ho hex hd hel1 hm1 hb1 hf2 hsz1 hp2 hd2
   have hsb1:=Heap.SameBut.update s.heap a (Obj.putSet es1 t2)
   split
   ·have hp:=relayAll_perm t2 es1 (SetTable.grown es1.size)
    have hfr:=relayAll_fits t2 es1 (SetTable.grown es1.size)
    have hof:=relayAll_tk (t:=t2) (es:=es1) (w:=SetTable.grown es1.size)
    have hof2:=(relayAll_led (t:=t2) (es:=es1) (w:=SetTable.grown es1.size)).trans hd2
    generalize relayAll t2 es1 (SetTable.grown es1.size)=Rl at hp hfr hof hof2 ⊢
    obtain ⟨es2,t3,gave2⟩:=Rl
    dsimp only at hp hfr hof hof2 ⊢
    have hsz:es2.size=es1.size:=by rw [← Array.length_toList,hp.length_eq,Array.length_toList]
    have go:wpAny (model prog w) A (storeSet a es2 t3 >>= fun _=>pure (some true)) (fun r s'=>wpAny (model prog w) A (match r with | some added=>pure added | none=>setAddHashedIn a v (knd.hash z) 99999) Q E s') E { s with heap:=s.heap.update a (Obj.putSet es1 t2) }:=by
     refine wpAny_bind (wpAny_storeSet_of ho1 rfl ?_ (fits_of_scanBound (by rw [hsz];exact hb1)))
     obtain ⟨_,hS2⟩:=putQq (s:={ s with heap:=s.heap.update a (Obj.putSet es1 t2) }) ho1 hex rfl (hel1.perm hp) (fun k=>(hm1 k).trans ⟨fun zq2=>(by obtain ⟨e,he,q⟩:=zq2;exact ⟨e,hp.mem_iff.mpr he,q⟩),fun zq1=>(by obtain ⟨e,he,q⟩:=zq1;exact ⟨e,hp.mem_iff.mp he,q⟩)⟩) (by rw [hsz];exact hb1) hfr (hsz.trans hsz1) hof hof2
     exact wpAny_pure (wpAny_pure (hq _ (hsb1.trans (Heap.SameBut.update _ a _)) hS2))
    cases gave2
    ·exact wpAny_bind (wpAny_pure go)
    ·exact wpAny_bind (wpAny_rule go)
   ·exact wpAny_pure (wpAny_pure (hq _ hsb1 hS1))
  have rest:wpAny (model prog w) A (do
    let byValue ← if t1.plain=true then hashByValue 8 v else pure true
    storeSet a es1 (if byValue=true then t1 else { t1 with plain:=false })
    if (!wasDummy && (if byValue=true then t1 else { t1 with plain:=false }:SetTable).tooFull)=true then do
      (match (relayAll (if byValue=true then t1 else { t1 with plain:=false }) es1 (SetTable.grown es1.size)).2.2 with | true=>rule "set.scan.the-table-gave-way" | false=>pure ())
      storeSet a (relayAll (if byValue=true then t1 else { t1 with plain:=false }) es1 (SetTable.grown es1.size)).1 (relayAll (if byValue=true then t1 else { t1 with plain:=false }) es1 (SetTable.grown es1.size)).2.1
      pure (some true)
     else pure (some true)) (fun r s'=>wpAny (model prog w) A (match r with | some added=>pure added | none=>setAddHashedIn a v (knd.hash z) 99999) Q E s') E s:=by
   by_cases hp1:t1.plain=true
   ·rw [if_pos hp1]
    refine wpAny_bind ?_
    rw [hashByValue_scannable 8 hsc]
    refine wpAny_pure ?_
    cases plainKind v
    ·exact tail { t1 with plain:=false } hoff hl1 (SetTable.fits_plain_off hfits)
    ·exact tail t1 hoff hl1 hfits
   ·rw [if_neg hp1]
    refine wpAny_bind (wpAny_pure ?_)
    exact tail t1 hoff hl1 hfits
  cases gave
  ·exact wpAny_bind (wpAny_pure rest)
  ·exact wpAny_bind (wpAny_rule rest)
theorem SetK.at {h h':Heap}{a:Addr}{dl:List K}(hS:SetK knd h a dl)(k:∀ o,h.get? a=some o→h'.get? a=some o):SetK knd h' a dl:=by
 obtain ⟨o,es,ep,t,ho,r⟩:=hS
 exact ⟨o,es,ep,t,k o ho,r⟩
section
variable {R:Result→Shared→Prop} {I:Addr} {fp wr:List Addr} {G:Array GenState→Array GenState→Prop} {n:Nat} {P:Nat→Value→Prop} {St:Nat→Shared→Prop}
theorem updQq (dd:Nat→List K)(W:WalksS prog w A.in1 I fp wr G n P St)(S:Addr)(hSf:S∉fp)(val:Nat→K)(d1:∀ i,val i∈dd i→dd (i+1)=dd i)(d2:∀ i,val i∉dd i→dd (i+1)=dd i++[val i])(hl:∀ i,(dd i).length≤i)(hval:∀ i v,P i v→knd.is (val i) v=true∧v.scannable=true)(hb:n+1 < scanBound) :
  ∀ (k i:Nat) (s:Shared),n - i=k→i≤n→St i s→SetK knd s.heap S (dd i)→(∀ s',Moved (S::wr) G s s'→SetK knd s'.heap S (dd n)→R (.ok (.ret .none)) s') →
   codeAny (model prog w) A (.builtin "set.update.loop" ⟨[.ref S,.ref I],[]⟩) R s:=by
 have nw:S∉wr:=fun q=>hSf (W.sub _ q)
 have sub:∀ b∈wr,b∈S::wr:=fun b q=>List.mem_cons_of_mem _ q
 intro k
 induction k with
 | zero =>
  intro i s hk hi st hS hR
  obtain rfl:i=n:=by omega
  refine codeAny_builtin PyProof.Rows.F.entry_set_update_loop ?_
  rw [Around.under_plainId PyProof.Rows.F.plain_set_update_loop _]
  show wpAny _ A.in1 (pyNext (.ref I) >>= _) _ _ s
  refine wpAny_bind (W.done s _ _ st fun s' mv=>?_)
  show wpAny _ A.in1 (ret Value.none) _ _ s'
  exact wpAny_pure (hR s' (mv.mono sub) (hS.at fun o q=>mv.heap S o nw q))
 | succ k ih =>
  intro i s hk hi st hS hR
  have hlt:i < n:=by omega
  refine codeAny_builtin PyProof.Rows.F.entry_set_update_loop ?_
  rw [Around.under_plainId PyProof.Rows.F.plain_set_update_loop _]
  show wpAny _ A.in1 (pyNext (.ref I) >>= _) _ _ s
  refine wpAny_bind (W.item i s _ _ hlt st fun v s' hP st' mv=>?_)
  obtain ⟨hk,hsc⟩:=hval i v hP
  have hS':SetK knd s'.heap S (dd i):=hS.at fun o q=>mv.heap S o nw q
  show wpAny _ A.in1 (holding [v] (setAdd S v) >>= _) _ _ s'
  refine wpAny_bind (wpAny_holding ?_)
  unfold setAdd
  refine wpAny_holding (wpAny_bind (knd.pyHash (k:=val i) hk ?_))
  have hl:=hl i
  refine addQq (s:={ s' with toks:=s'.toks+1 }) hk hsc hS' (by omega) fun h' b sb hS2=>?_
  refine wpAny_pure ⟨plainId_quiet PyProof.Rows.F.plain_set_update_loop _,ih (i+1) _ (by omega) hlt (W.frame _ s' _ _ st' (Nat.le_succ _) fun c hc o q=>?_) (by split at hS2;(rw [d1 i ‹_›];exact hS2);(rw [d2 i ‹_›];exact hS2)) fun s'' mv2 hS3=>?_⟩
  ·rw [sb.2 c (fun e:c=S=>hSf (e ▸ hc))];exact q
  ·refine hR s'' (Moved.trans W.gtrans ((mv.mono sub).then_heap (Nat.le_succ _) fun c o hc q=>?_) mv2) hS3
   rw [sb.2 c (fun e:c=S=>hc (e ▸ List.mem_cons_self))];exact q
end
theorem code_set_newL (a:Value){Q₁:Value→Shared→Prop}(q:Q₁ (.ref s.heap.objs.size) { s with heap:=s.heap.push (sob (ldr w)) }) :
  codeAny (model prog w) A (.call (.builtin "set.__new__") ⟨[.type "set",a],[]⟩) (wants Q₁ E) s:=by
 refine codeAny_of_tree ?_
 show wpAny _ A.in1 (do checkBuiltinCall "set.__new__" ⟨[.type "set",a],[]⟩;again (.builtin "set.__new__" ⟨[.type "set",a],[]⟩)) _ _ s
 refine wpAny_bind (wpAny_of_eq (F.newCall_set_1 a) (wpAny_pure ⟨plainId_quiet F.plain_set_new _,codeAny_builtin F.entry_set_new ?_⟩))
 rw [Around.under_plainId F.plain_set_new _]
 unfold Builtin.«set.__new__» Builtin.Frozenset.newClass
 have hsub:=sub_set_self
 obtain ⟨hp,gn,dr,tk,os⟩:=s
 dsimp only
 wp_walk
 refine wpAny_askSetting (wpAny_pure ?_)
 dsimp only
 simp only [newObj]
 exact wpAny_bind (wpAny_alloc (wpAny_pure (wpAny_pure q)))
noncomputable abbrev SetL (prog:Program)(w:World)(h:Heap)(a:Addr)(dl:List Str):Prop:=SetK (strKind prog w) h a dl
end
end PySem
namespace PySem
open Sem (wp)
section
variable {prog:Program} {w:World} {A:Around} {E:Value→Shared→Prop} {s:Shared}
end
end PySem
namespace PySem
open Sem (wp)
section
variable {prog:Program} {w:World} {A:Around} {E:Value→Shared→Prop} {s:Shared}
end
end PySem
namespace PySem
open Sem (wp)
section
variable {prog:Program} {w:World} {A:Around} {E:Value→Shared→Prop} {s:Shared}
end
end PySem
namespace Ts
open PySem PyProof.Rows
section
variable {κ:KeyKind} {prog:Program} {w:World} {A:Around} {E:Value→Shared→Prop} {s:Shared}
end
end Ts
namespace Wd
section
variable {α:Type}
noncomputable def Adj:List α→α→α→Prop
 | a::b::t,x,y=>(x=a∧y=b) ∨ Adj (b::t) x y
 | _,_,_=>False
theorem adj_two {a b:α}{t:List α}{x y:α}:Adj (a::b::t) x y ↔ (x=a∧y=b) ∨ Adj (b::t) x y:=Iff.rfl
theorem adj_one {a x y:α}:Adj [a] x y ↔ False:=Iff.rfl
theorem adj_mid:∀ (l:List α) (c:α) (m:List α) (x y:α),Adj (l++c::m) x y ↔ Adj (l++[c]) x y ∨ Adj (c::m) x y
 | [],c,m,x,y=>by simp [adj_one]
 | [a],c,m,x,y=>by
  show Adj (a::c::m) x y ↔ Adj [a,c] x y ∨ _
  rw [adj_two,adj_two,adj_one]
  simp
 | a::b::l,c,m,x,y=>by
  have ih:=adj_mid (b::l) c m x y
  show Adj (a::b::(l++c::m)) x y ↔ Adj (a::b::(l++[c])) x y ∨ _
  rw [adj_two,adj_two]
  have ih:Adj (b::(l++c::m)) x y ↔ Adj (b::(l++[c])) x y ∨ Adj (c::m) x y:=ih
  rw [ih,or_assoc]
theorem adj_mem:∀ {l:List α} {x y:α},Adj l x y→x∈l∧y∈l
 | [],_,_,h=>h.elim
 | [a],_,_,h=>h.elim
 | a::b::t,x,y,h=>by
  rcases h with ⟨rfl,rfl⟩ | h
  ·simp
  ·have:=adj_mem h
   exact ⟨List.mem_cons_of_mem _ this.1,List.mem_cons_of_mem _ this.2⟩
theorem adj_split:∀ {l:List α} {x y:α},Adj l x y→∃ s t,l=s++x::y::t
 | [],_,_,h=>h.elim
 | [a],_,_,h=>h.elim
 | a::b::t,x,y,h=>by
  rcases h with ⟨rfl,rfl⟩ | h
  ·exact ⟨[],t,rfl⟩
  ·obtain ⟨s,t',e⟩:=adj_split h
   exact ⟨a::s,t',by rw [e];rfl⟩
theorem adj_at {s t:List α}{x y:α}:Adj (s++x::y::t) x y:=by
 rw [adj_mid]
 exact .inr (.inl ⟨rfl,rfl⟩)
theorem adj_map {β:Type}(f:α→β):∀ {l:List α} {x y:β},Adj (l.map f) x y→∃ a b,Adj l a b∧x=f a∧y=f b
 | [],_,_,h=>h.elim
 | [a],_,_,h=>h.elim
 | a::b::t,x,y,h=>by
  rcases h with ⟨rfl,rfl⟩ | h
  ·exact ⟨a,b,.inl ⟨rfl,rfl⟩,rfl,rfl⟩
  ·obtain ⟨a',b',h',e1,e2⟩:=adj_map f (l:=b::t) h
   exact ⟨a',b',.inr h',e1,e2⟩
theorem map_adj {β:Type}(f:α→β){l:List α}{a b:α}(h:Adj l a b):Adj (l.map f) (f a) (f b):=by
 obtain ⟨s,t,rfl⟩:=adj_split h
 rw [List.map_append]
 exact adj_at
theorem adj_rev {l:List α}{a b:α}(h:Adj l a b):Adj l.reverse b a:=by
 obtain ⟨s,t,rfl⟩:=adj_split h
 have:(s++a::b::t).reverse=t.reverse++b::a::s.reverse:=by simp
 rw [this]
 exact adj_at
noncomputable def Nx:List α→α→α→Prop
 | [],_,_=>False
 | h::t,x,y=>Adj (h::t++[h]) x y
theorem nx_rot:∀ (A B:List α) (x y:α),Nx (A++B) x y ↔ Nx (B++A) x y
 | [],B,x,y=>by simp
 | a::A,[],x,y=>by simp
 | a::A,b::B,x,y=>by
  show Adj (a::(A++b::B)++[a]) x y ↔ Adj (b::(B++a::A)++[b]) x y
  have e1:a::(A++b::B)++[a]=(a::A)++b::(B++[a]):=by simp
  have e2:b::(B++a::A)++[b]=(b::B)++a::(A++[b]):=by simp
  rw [e1,e2,adj_mid (a::A) b,adj_mid (b::B) a,or_comm]
  rfl
theorem nx_mem {w:List α}{x y:α}(h:Nx w x y):x∈w∧y∈w:=by
 cases w with
 | nil=>exact h.elim
 | cons a t =>
  have:=adj_mem h
  simp at this ⊢
  exact ⟨by rcases this.1 with h | h | h <;> simp [h],by rcases this.2 with h | h | h <;> simp [h]⟩
theorem nx_map {β:Type}(f:α→β){w:List α}{x y:β}(h:Nx (w.map f) x y):∃ a b,Nx w a b∧x=f a∧y=f b:=by
 cases w with
 | nil=>exact h.elim
 | cons a t =>
  have h:Adj ((a::t++[a]).map f) x y:=by
   have h:Adj (f a::t.map f++[f a]) x y:=h
   simpa using h
  exact adj_map f h
theorem map_nx {β:Type}(f:α→β){w:List α}{a b:α}(h:Nx w a b):Nx (w.map f) (f a) (f b):=by
 cases w with
 | nil=>exact h.elim
 | cons c t =>
  have:=map_adj f (show Adj (c::t++[c]) a b from h)
  show Adj (f c::t.map f++[f c]) (f a) (f b)
  simpa using this
theorem mem_rot {w:List α}{x:α}(h:x∈w):∃ A B,w=A++x::B:=by
 obtain ⟨A,B,e⟩:=List.append_of_mem h
 exact ⟨A,B,e⟩
theorem nx_head {x y:α}{t:List α}(nd:(x::t).Nodup):Nx (x::t) x y ↔ (t++[x]).head? = some y:=by
 cases t with
 | nil =>
  show Adj [x,x] x y ↔ _
  rw [adj_two,adj_one]
  simp [eq_comm]
 | cons b r =>
  show Adj (x::b::(r++[x])) x y ↔ _
  rw [adj_two]
  constructor
  ·rintro (⟨_,e⟩ | h)
   ·simp [e]
   ·exfalso
    have hx:x∉b::r:=(List.nodup_cons.mp nd).1
    obtain ⟨s,t,e⟩:=adj_split h
    have e:(b::r)++[x]=s++x::y::t:=e
    have h2:(s++x::y::t)=(s++[x])++(y::t):=by simp
    rcases List.append_eq_append_iff.mp e with ⟨a',e1,e2⟩ | ⟨c',e1,e2⟩
    ·have:=congrArg List.length e2
     simp only [List.length_append,List.length_cons,List.length_nil] at this
     omega
    ·cases c' with
     | nil=>simp at e2
     | cons c c' =>
      have:c=x:=by
       have:=(List.cons.inj e2).1
       exact this.symm
      subst this
      exact hx (by rw [e1];simp)
  ·intro h
   simp at h
   exact .inl ⟨rfl,h.symm⟩
theorem nx_ex {w:List α}{x:α}(h:x∈w):∃ y,Nx w x y:=by
 obtain ⟨A,B,rfl⟩:=mem_rot h
 cases e:B++A with
 | nil=>exact ⟨x,(nx_rot _ _ _ _).mpr (by show Adj (x::(B++A)++[x]) x x;rw [e];exact .inl ⟨rfl,rfl⟩)⟩
 | cons c r=>exact ⟨c,(nx_rot _ _ _ _).mpr (by show Adj (x::(B++A)++[x]) x c;rw [e];exact .inl ⟨rfl,rfl⟩)⟩
theorem nd_rot {A B:List α}(nd:(A++B).Nodup):(B++A).Nodup:=(List.perm_append_comm.nodup_iff).mp nd
theorem nx_fun {w:List α}{x y z:α}(nd:w.Nodup)(h1:Nx w x y)(h2:Nx w x z):y=z:=by
 obtain ⟨A,B,rfl⟩:=mem_rot (nx_mem h1).1
 have h1:=(nx_rot _ _ _ _).mp h1
 have h2:=(nx_rot _ _ _ _).mp h2
 have nd:(x::(B++A)).Nodup:=nd_rot nd
 have h1:=(nx_head nd).mp h1
 have h2:=(nx_head nd).mp h2
 exact Option.some.inj (h1.symm.trans h2)
theorem nx_rev {w:List α}{x y:α}(h:Nx w x y):Nx w.reverse y x:=by
 cases w with
 | nil=>exact h.elim
 | cons a t =>
  have h:=adj_rev (show Adj (a::t++[a]) x y from h)
  have e:(a::t++[a]).reverse=a::t.reverse++[a]:=by simp
  rw [e] at h
  have e2:(a::t).reverse=t.reverse++[a]:=by simp
  rw [e2,nx_rot]
  exact h
theorem rev_nx {w:List α}{x y:α}(h:Nx w.reverse y x):Nx w x y:=by
 have:=nx_rev h
 rwa [List.reverse_reverse] at this
end
end Wd
namespace Wd
section
variable {α:Type}
structure Cy (R:α→α→Prop) (w:List α):Prop where
 ne:w≠[]
 nd:w.Nodup
 st:∀ x y,Nx w x y→R x y
noncomputable def Fnl (R:α→α→Prop):Prop:=∀ x y z,R x y→R x z→y=z
theorem chain_eq {R:α→α→Prop}(hR:Fnl R):∀ (t t':List α) (x z:α),(∀ a b,Adj (x::t++[z]) a b→R a b)→(∀ a b,Adj (x::t'++[z]) a b→R a b)→z∉t→z∉t'→t=t'
 | [],[],_,_,_,_,_,_=>rfl
 | [],b::r,x,z,h1,h2,_,n2=>by
  have e1:=h1 x z (.inl ⟨rfl,rfl⟩)
  have e2:=h2 x b (.inl ⟨rfl,rfl⟩)
  exact absurd (hR _ _ _ e1 e2) (fun e=>n2 (by rw [e];simp))
 | a::r,[],x,z,h1,h2,n1,_=>by
  have e1:=h1 x a (.inl ⟨rfl,rfl⟩)
  have e2:=h2 x z (.inl ⟨rfl,rfl⟩)
  exact absurd (hR _ _ _ e2 e1) (fun e=>n1 (by rw [e];simp))
 | a::r,b::r',x,z,h1,h2,n1,n2=>by
  have e1:=h1 x a (.inl ⟨rfl,rfl⟩)
  have e2:=h2 x b (.inl ⟨rfl,rfl⟩)
  obtain rfl:=hR _ _ _ e1 e2
  rw [chain_eq hR r r' a z (fun p q h=>h1 p q (.inr h)) (fun p q h=>h2 p q (.inr h)) (fun h=>n1 (List.mem_cons_of_mem _ h)) (fun h=>n2 (List.mem_cons_of_mem _ h))]
noncomputable def Rts (w v:List α):Prop:=∃ A B C D,w=A++B∧v=C++D∧B++A=D++C
theorem Cy.rot {R:α→α→Prop}{A B:List α}(h:Cy R (A++B)):Cy R (B++A) :=
 ⟨fun e=>h.ne (by have:=List.append_eq_nil_iff.mp e;rw [this.1,this.2];rfl),nd_rot h.nd,fun x y n=>h.st x y ((nx_rot _ _ _ _).mpr n)⟩
theorem Cy.same {R:α→α→Prop}(hR:Fnl R){w v:List α}(hw:Cy R w)(hv:Cy R v){x:α}(h1:x∈w)(h2:x∈v):Rts w v:=by
 obtain ⟨A,B,rfl⟩:=mem_rot h1
 obtain ⟨C,D,rfl⟩:=mem_rot h2
 have hw:=hw.rot
 have hv:=hv.rot
 refine ⟨A,x::B,C,x::D,rfl,rfl,?_⟩
 show x::(B++A)=x::(D++C)
 rw [chain_eq hR (B++A) (D++C) x x (fun a b h=>hw.st a b h) (fun a b h=>hv.st a b h) (List.nodup_cons.mp (show (x::(B++A)).Nodup from hw.nd)).1 (List.nodup_cons.mp (show (x::(D++C)).Nodup from hv.nd)).1]
structure Dc (R:α→α→Prop) (u:List α) (Ws:List (List α)):Prop where
 cy:∀ w∈Ws,Cy R w
 pm:Ws.flatten.Perm u
theorem Dc.both {R:α→α→Prop}(hR:Fnl R){u:List α}{Ws Vs:List (List α)}(h:Dc R u Ws)(g:Dc R u Vs):∀ w∈Ws,∃ v∈Vs,Rts w v:=by
 intro w hw
 have c:=h.cy w hw
 obtain ⟨x,hx⟩:=List.exists_mem_of_ne_nil w c.ne
 have:x∈Vs.flatten:=g.pm.mem_iff.mpr (h.pm.mem_iff.mp (List.mem_flatten.mpr ⟨w,hw,hx⟩))
 obtain ⟨v,hv,hxv⟩:=List.mem_flatten.mp this
 exact ⟨v,hv,c.same hR (g.cy v hv) hx hxv⟩
end
noncomputable def Rh (u:List L):L→L→Prop:=fun x y=>Nx u (inv x) y
theorem rh_fnl {u:List L}(S:Srf u):Fnl (Rh u):=fun _ _ _ h1 h2=>nx_fun S.nd h1 h2
theorem nx_idx {u:List L}{k:Nat}{x y:L}(h1:u[k]? = some x)(h2:u[(k+1) % u.length]? = some y):Nx u x y:=by
 obtain ⟨hk,e1⟩:=List.getElem?_eq_some_iff.mp h1
 have e:u=u.take k++x::u.drop (k+1):=by
  rw [← e1,List.getElem_cons_drop,List.take_append_drop]
 by_cases hl:k+1 < u.length
 ·rw [Nat.mod_eq_of_lt hl] at h2
  obtain ⟨hk2,e2⟩:=List.getElem?_eq_some_iff.mp h2
  have e3:u.drop (k+1)=y::u.drop (k+2):=by rw [List.drop_eq_getElem_cons hk2,e2]
  rw [e,e3,nx_rot]
  exact .inl ⟨rfl,rfl⟩
 ·have hl:k+1=u.length:=by omega
  rw [hl,Nat.mod_self] at h2
  have e3:u.drop (k+1)=[]:=List.drop_eq_nil_of_le (by omega)
  rw [e,e3,nx_rot]
  show Adj (x::(u.take k)++[x]) x y
  cases k with
  | zero =>
   rw [h1] at h2
   obtain rfl:=Option.some.inj h2
   exact .inl ⟨rfl,rfl⟩
  | succ k =>
   cases u with
   | nil=>simp at hk
   | cons a t =>
    have:a=y:=by simpa using h2
    subst this
    exact .inl ⟨rfl,rfl⟩
theorem step_rh {u:List L}(S:Srf u)(g:Nat):Rh u (letH u g) (letH u (stepH u g)):=by
 have h:=stepH_lt S g
 refine nx_idx (k:=stepH u g) ?_ (letH_get S _)
 rw [List.getElem?_eq_getElem h]
 exact congrArg some (List.getElem_idxOf h)
theorem get_nd {u:List L}(nd:u.Nodup){i j:Nat}{x:L}(h1:u[i]? = some x)(h2:u[j]? = some x):i=j:=by
 obtain ⟨hi,e1⟩:=List.getElem?_eq_some_iff.mp h1
 obtain ⟨hj,e2⟩:=List.getElem?_eq_some_iff.mp h2
 have p:=List.pairwise_iff_getElem.mp nd
 rcases Nat.lt_trichotomy i j with h | h | h
 ·exact absurd (e1.trans e2.symm) (p i j hi hj h)
 ·exact h
 ·exact absurd (e2.trans e1.symm) (p j i hj hi h)
theorem letH_inj {u:List L}(S:Srf u){g h:Nat}(hg:g < u.length)(hh:h < u.length)(e:letH u g=letH u h):g=h:=by
 have:=get_nd S.nd (letH_get S g) (e ▸ letH_get S h)
 have e2:∀ g:Nat,g < u.length→(g+1) % u.length=if g+1=u.length then 0 else g+1:=fun g hg=>by
  split
  ·rename_i h
   rw [h,Nat.mod_self]
  ·exact Nat.mod_eq_of_lt (by omega)
 rw [e2 g hg,e2 h hh] at this
 split at this <;> split at this <;> omega
theorem stepH_inj {u:List L}(S:Srf u){g h:Nat}(hg:g < u.length)(hh:h < u.length)(e:stepH u g=stepH u h):g=h:=by
 refine letH_inj S hg hh ?_
 have a:=List.getElem_idxOf (stepH_lt S g)
 have b:=List.getElem_idxOf (stepH_lt S h)
 have:inv (letH u g)=inv (letH u h):=by
  rw [← a,← b]
  congr 1
 rw [← inv_inv (letH u g),this,inv_inv]
noncomputable def Row (u:List L)(C:List Nat)(g:Nat):Prop:=∀ a b,Adj (C++[g]) a b→b=stepH u a
theorem Row.on {u:List L}{C:List Nat}{g:Nat}(h:Row u C g):Row u (C++[g]) (stepH u g):=by
 intro a b q
 rw [List.append_assoc] at q
 rcases (adj_mid C g [stepH u g] a b).mp q with q | q
 ·exact h a b q
 ·rcases q with ⟨rfl,rfl⟩ | q
  ·rfl
  ·exact q.elim
theorem Row.round {u:List L}(S:Srf u){C:List Nat}{g:Nat}(h:Row u C g)(nd:C.Nodup)(lt:∀ c∈C,c < u.length)(hg:g∈C):∃ r,C=g::r:=by
 obtain ⟨A,B,rfl⟩:=mem_rot hg
 rcases List.eq_nil_or_concat A with rfl | ⟨A',p,e0⟩
 ·exact ⟨B,rfl⟩
 ·exfalso
  rw [List.concat_eq_append] at e0
  subst e0
  have e1:g=stepH u p:=h p g (by
   have:A'++[p]++g::B++[g]=A'++p::g::(B++[g]):=by simp
   rw [this];exact adj_at)
  obtain ⟨M,z,e⟩:∃ M z,g::B=M++[z]:=by
   rcases List.eq_nil_or_concat (g::B) with h | ⟨M,z,h⟩
   ·cases h
   ·exact ⟨M,z,by rw [h,List.concat_eq_append]⟩
  have e2:g=stepH u z:=h z g (by
   have:A'++[p]++g::B++[g]=(A'++[p]++M)++z::g::[]:=by rw [e];simp
   rw [this];exact adj_at)
  have hz:z∈g::B:=by rw [e];simp
  have hpz:p=z:=stepH_inj S (lt p (by simp)) (lt z (by
   rw [List.mem_append];exact .inr hz)) (e1.symm.trans e2)
  subst hpz
  have:=List.nodup_append.mp nd
  exact this.2.2 p (by simp) p hz rfl
end Wd
namespace Wd
noncomputable def Pre (u:List L)(S:List Nat):Prop:=∀ g∈S,∃ g'∈S,stepH u g'=g
theorem wk_cyc {u:List L}(U:Srf u){S0:List Nat}(pre:Pre u S0){g0:Nat}(h0:g0∉S0):∀ (k:Nat) (C:List Nat) (g:Nat),k+(S0++C).length=u.length+1→Sn u (S0++C)→g < u.length→Row u C g→((C=[]∧g=g0) ∨ ∃ r,C=g0::r) →
  ∃ C',wk u g (S0++C) (C.map (letH u))=(S0++C',C'.map (letH u))∧Sn u (S0++C')∧(∃ r,C'=g0::r)∧Row u C' g0:=by
 intro k
 induction k with
 | zero =>
  intro C g hk hs _ _ _
  have:=hs.le
  omega
 | succ k ih =>
  intro C g hk hs hg hr hh
  by_cases hm:g∈S0++C
  ·rw [wk_in hm]
   have nd:=List.nodup_append.mp hs.nd
   have hC:∃ r,C=g0::r:=by
    rcases hh with ⟨rfl,rfl⟩ | h
    ·exact absurd (by simpa using hm) h0
    ·exact h
   have hgC:g∈C:=by
    rcases List.mem_append.mp hm with h | h
    ·exfalso
     obtain ⟨g',h1,h2⟩:=pre g h
     obtain ⟨M,z,e⟩:∃ M z,C=M++[z]:=by
      obtain ⟨r,rfl⟩:=hC
      rcases List.eq_nil_or_concat (g0::r) with h | ⟨M,z,h⟩
      ·cases h
      ·exact ⟨M,z,by rw [h,List.concat_eq_append]⟩
     have e2:g=stepH u z:=hr z g (by
      have:C++[g]=M++z::g::[]:=by rw [e];simp
      rw [this];exact adj_at)
     have hz:z∈C:=by rw [e];simp
     have:=stepH_inj U (hs.lt g' (List.mem_append.mpr (.inl h1))) (hs.lt z (List.mem_append.mpr (.inr hz))) (h2.trans e2)
     exact nd.2.2 g' h1 z hz this
    ·exact h
   obtain ⟨r,e⟩:=Row.round U hr nd.2.1 (fun c hc=>hs.lt c (List.mem_append.mpr (.inr hc))) hgC
   obtain ⟨r',e'⟩:=hC
   have:g=g0:=by rw [e] at e';exact (List.cons.inj e').1
   subst this
   exact ⟨C,rfl,hs,⟨r,e⟩,hr⟩
  ·have hs':=hs.snoc hg hm
   rw [wk_out hs hg hm]
   have e1:S0++C++[g]=S0++(C++[g]):=List.append_assoc ..
   have e2:C.map (letH u)++[letH u g]=(C++[g]).map (letH u):=by simp
   rw [e1] at hs' ⊢
   rw [e2]
   refine ih (C++[g]) (stepH u g) ?_ hs' (stepH_lt U g) hr.on (.inr ?_)
   ·rw [← e1,List.length_append,List.length_singleton]
    omega
   ·rcases hh with ⟨rfl,rfl⟩ | ⟨r,rfl⟩
    ·exact ⟨[],rfl⟩
    ·exact ⟨r++[g],rfl⟩
noncomputable def Gc (u:List L)(C:List Nat):Prop:=∃ g r,C=g::r∧Row u C g
theorem Gc.st {u:List L}{C:List Nat}(h:Gc u C){a b:Nat}(n:Nx C a b):b=stepH u a:=by
 obtain ⟨g,r,rfl,h⟩:=h
 exact h a b n
theorem Gc.pre {u:List L}{C:List Nat}(h:Gc u C){g:Nat}(hg:g∈C):∃ g'∈C,stepH u g'=g:=by
 obtain ⟨y,hy⟩:=nx_ex (w:=C.reverse) (x:=g) (by simpa using hg)
 have hy:=rev_nx hy
 exact ⟨y,(nx_mem hy).1,(h.st hy).symm⟩
structure HI (u:List L) (i:Nat) (Cs:List (List Nat)):Prop where
 s:(holS u i).1=Cs.flatten
 w:(holS u i).2=Cs.map (List.map (letH u))
 sn:Sn u Cs.flatten
 gc:∀ C∈Cs,Gc u C
 al:∀ g,g < i→g∈Cs.flatten
theorem hi_all {u:List L}(U:Srf u):∀ i,i≤u.length→∃ Cs,HI u i Cs
 | 0,_=>⟨[],rfl,rfl,Sn.nil u,fun _ h=>absurd h (by simp),fun g h=>absurd h (by omega)⟩
 | i+1,hi=>by
  obtain ⟨Cs,h⟩:=hi_all U i (by omega)
  by_cases hm:i∈(holS u i).1
  ·refine ⟨Cs,by rw [hol_in hm];exact h.s,by rw [hol_in hm];exact h.w,h.sn,h.gc,fun g hg=>?_⟩
   by_cases e:g=i
   ·subst e
    rw [← h.s]
    exact hm
   ·exact h.al g (by omega)
  ·rw [h.s] at hm
   have pre:Pre u Cs.flatten:=fun g hg=>by
    obtain ⟨C,hC,hg⟩:=List.mem_flatten.mp hg
    obtain ⟨g',h1,h2⟩:=(h.gc C hC).pre hg
    exact ⟨g',List.mem_flatten.mpr ⟨C,hC,h1⟩,h2⟩
   have hle:=h.sn.le
   obtain ⟨C,e,hs,⟨r,hr⟩,hrow⟩:=wk_cyc U pre hm (u.length+1 - Cs.flatten.length) [] i (by rw [List.append_nil];omega) (by rw [List.append_nil];exact h.sn) (by omega) (fun a b q=>q.elim) (.inl ⟨rfl,rfl⟩)
   rw [List.append_nil] at e
   have e:wk u i Cs.flatten []=(Cs.flatten++C,C.map (letH u)):=e
   have ho:holS u (i+1)=((wk u i (holS u i).1 []).1,(holS u i).2++[(wk u i (holS u i).1 []).2]):=hol_out (by rw [h.s];exact hm)
   rw [h.s,e,h.w] at ho
   have ef:(Cs++[C]).flatten=Cs.flatten++C:=by simp
   refine ⟨Cs++[C],by rw [ho,ef],by rw [ho];simp,by rw [ef];exact hs,fun D hD=>?_,fun g hg=>?_⟩
   ·rcases List.mem_append.mp hD with hD | hD
    ·exact h.gc D hD
    ·rw [List.mem_singleton] at hD
     subst hD
     exact ⟨i,r,hr,hrow⟩
   ·rw [ef,List.mem_append]
    by_cases e:g=i
    ·subst e
     exact .inr (by rw [hr];simp)
    ·exact .inl (h.al g (by omega))
theorem pm_nd {α:Type}[DecidableEq α]{a b:List α}(na:a.Nodup)(nb:b.Nodup)(h:∀ x,x∈a ↔ x∈b):a.Perm b:=by
 rw [List.perm_iff_count]
 intro x
 by_cases hx:x∈a
 ·rw [na.count,nb.count,if_pos hx,if_pos ((h x).mp hx)]
 ·rw [List.count_eq_zero.mpr hx,List.count_eq_zero.mpr (fun q=>hx ((h x).mpr q))]
theorem nd_map {α β:Type}(f:α→β):∀ {l:List α},l.Nodup→(∀ x∈l,∀ y∈l,f x=f y→x=y)→(l.map f).Nodup
 | [],_,_=>List.nodup_nil
 | a::t,nd,h=>by
  rw [List.map_cons,List.nodup_cons]
  obtain ⟨h1,h2⟩:=List.nodup_cons.mp nd
  refine ⟨fun q=>?_,nd_map f h2 fun x hx y hy=>h x (List.mem_cons_of_mem _ hx) y (List.mem_cons_of_mem _ hy)⟩
  obtain ⟨b,hb,e⟩:=List.mem_map.mp q
  have:=h b (List.mem_cons_of_mem _ hb) a List.mem_cons_self e
  exact h1 (this ▸ hb)
theorem hol_dc {u:List L}(U:Srf u):Dc (Rh u) u (hol u):=by
 obtain ⟨Cs,h⟩:=hi_all U u.length (Nat.le_refl _)
 have hw:hol u=Cs.map (List.map (letH u)):=h.w
 rw [hw]
 have inj:∀ x∈Cs.flatten,∀ y∈Cs.flatten,letH u x=letH u y→x=y:=fun x hx y hy e=>letH_inj U (h.sn.lt x hx) (h.sn.lt y hy) e
 refine ⟨fun w hw=>?_,?_⟩
 ·obtain ⟨C,hC,rfl⟩:=List.mem_map.mp hw
  have g:=h.gc C hC
  have sub:∀ x∈C,x∈Cs.flatten:=fun x hx=>List.mem_flatten.mpr ⟨C,hC,hx⟩
  refine ⟨?_,nd_map _ (List.Sublist.nodup (List.sublist_flatten_of_mem hC) h.sn.nd) fun x hx y hy=>inj x (sub x hx) y (sub y hy),fun x y n=>?_⟩
  ·obtain ⟨g0,r,rfl,_⟩:=g
   simp
  ·obtain ⟨a,b,n',rfl,rfl⟩:=nx_map _ n
   obtain rfl:=g.st n'
   exact step_rh U a
 ·rw [← List.map_flatten]
  refine pm_nd (nd_map _ h.sn.nd inj) U.nd fun x=>?_
  constructor
  ·intro hx
   obtain ⟨g,_,rfl⟩:=List.mem_map.mp hx
   exact letH_mem U g
  ·intro hx
   obtain ⟨k,hk,e⟩:=List.mem_iff_getElem.mp hx
   have hp:=U.pos
   refine List.mem_map.mpr ⟨(k+u.length - 1) % u.length,h.al _ (Nat.mod_lt _ hp),?_⟩
   have e2:((k+u.length - 1) % u.length+1) % u.length=k:=by
    rw [Nat.mod_add_mod]
    have:k+u.length - 1+1=k+u.length:=by omega
    rw [this,Nat.add_mod_right]
    exact Nat.mod_eq_of_lt hk
   have:=letH_get U ((k+u.length - 1) % u.length)
   rw [e2,List.getElem?_eq_getElem hk,e] at this
   exact (Option.some.inj this).symm
end Wd
namespace Wd
section
variable {α:Type}
theorem nx_out {A B:List α}{x a b:α}(nd:(A++x::B).Nodup):Nx (A++B) a b ↔ a≠x∧b≠x∧(Nx (A++x::B) a b ∨ (Nx (A++x::B) a x∧Nx (A++x::B) x b)):=by
 rw [nx_rot A B,nx_rot A (x::B),nx_rot A (x::B),nx_rot A (x::B)]
 have nd:(x::(B++A)).Nodup:=nd_rot nd
 show Nx (B++A) a b ↔ a≠x∧b≠x∧(Nx (x::(B++A)) a b ∨ (Nx (x::(B++A)) a x∧Nx (x::(B++A)) x b))
 generalize B++A=v at nd ⊢
 obtain ⟨hx,ndv⟩:=List.nodup_cons.mp nd
 rw [nx_head nd]
 cases v with
 | nil =>
  show False ↔ _
  constructor
  ·exact False.elim
  ·rintro ⟨h1,h2,h | h⟩
   ·have:=(nx_mem h).1
    simp at this
    exact h1 this
   ·simp at h
    exact h2 h.2.symm
 | cons c t =>
  have hc:c≠x:=fun e=>hx (by rw [e];simp)
  have e1:∀ p q,Nx (x::c::t) p q ↔ (p=x∧q=c) ∨ Adj (c::t++[x]) p q:=fun p q=>Iff.rfl
  obtain ⟨M,z,e⟩:∃ M z,c::t=M++[z]:=by
   rcases List.eq_nil_or_concat (c::t) with h | ⟨M,z,h⟩
   ·cases h
   ·exact ⟨M,z,by rw [h,List.concat_eq_append]⟩
  have e2:∀ p q r,Adj (c::t++[r]) p q ↔ Adj (c::t) p q ∨ (p=z∧q=r):=fun p q r=>by
   have:c::t++[r]=M++z::[r]:=by rw [e];simp
   rw [this,adj_mid,← e,adj_two,adj_one]
   simp
  have nin:∀ {p q},Adj (c::t) p q→p≠x∧q≠x:=fun h=>⟨fun e=>hx (e ▸ (adj_mem h).1),fun e=>hx (e ▸ (adj_mem h).2)⟩
  have hz:z≠x:=fun e'=>hx (by rw [← e',e];simp)
  show Adj (c::t++[c]) a b ↔ _
  rw [e1,e1,e2,e2,e2]
  have hh:((c::t++[x]).head? = some b) ↔ b=c:=by simp [eq_comm]
  rw [hh]
  constructor
  ·rintro (h | ⟨rfl,rfl⟩)
   ·exact ⟨(nin h).1,(nin h).2,.inl (.inr (.inl h))⟩
   ·exact ⟨hz,hc,.inr ⟨.inr (.inr ⟨rfl,rfl⟩),rfl⟩⟩
  ·rintro ⟨h1,h2,(⟨h,_⟩ | h | ⟨_,h⟩) | ⟨⟨h,_⟩ | h | ⟨h,_⟩,h'⟩⟩
   ·exact absurd h h1
   ·exact .inl h
   ·exact absurd h h2
   ·exact absurd h h1
   ·exact absurd rfl (nin h).2
   ·exact .inr ⟨h,h'⟩
end
end Wd
namespace Wd
section
variable {α:Type}
theorem Rts.pm {w v:List α}(h:Rts w v):w.Perm v:=by
 obtain ⟨A,B,C,D,rfl,rfl,e⟩:=h
 exact List.perm_append_comm.trans (by rw [e];exact List.perm_append_comm)
theorem flat_pm:∀ {Ws Vs:List (List α)},Ws.Perm Vs→Ws.flatten.Perm Vs.flatten
 | _,_,.nil=>.refl _
 | _,_,.cons x h=>by simpa using (flat_pm h).append_left x
 | _,_,.swap x y l=>by
  simp only [List.flatten_cons,← List.append_assoc]
  exact List.Perm.append_right _ List.perm_append_comm
 | _,_,.trans h g=>(flat_pm h).trans (flat_pm g)
theorem Dc.pms {R:α→α→Prop}{u:List α}{Ws Vs:List (List α)}(h:Dc R u Ws)(p:Vs.Perm Ws):Dc R u Vs:=⟨fun w hw=>h.cy w (p.mem_iff.mp hw),(flat_pm p).trans h.pm⟩
theorem dc_map {R:α→α→Prop}(hR:Fnl R){β:Type}(l:List α→β)(hl:∀ w v,Rts w v→l w=l v):∀ (Ws Vs:List (List α)) (u:List α),Dc R u Ws→Dc R u Vs→(Ws.map l).Perm (Vs.map l)
 | [],Vs,u,h,g=>by
  have hu:u=[]:=by simpa using h.pm
  subst hu
  cases Vs with
  | nil=>exact .refl _
  | cons v T =>
   exfalso
   have c:=g.cy v (by simp)
   have e:(v::T).flatten=[]:=by simpa using g.pm
   have:v=[]:=by
    rw [List.flatten_cons] at e
    exact (List.append_eq_nil_iff.mp e).1
   exact c.ne this
 | w::T,Vs,u,h,g=>by
  obtain ⟨v,hv,r⟩:=h.both hR g w (by simp)
  obtain ⟨S,S',e⟩:=List.append_of_mem hv
  have p:(v::(S++S')).Perm Vs:=by rw [e];exact List.perm_middle.symm
  have g':=g.pms p
  have q:(w++T.flatten).Perm (w++(S++S').flatten):=by
   have h1:(w++T.flatten).Perm u:=by simpa using h.pm
   have h2:(v++(S++S').flatten).Perm u:=by
    have:=g'.pm
    rwa [List.flatten_cons] at this
   exact h1.trans (h2.symm.trans (List.Perm.append_right _ r.pm.symm))
  have q:=(List.perm_append_left_iff w).mp q
  have ih:=dc_map hR l hl T (S++S') T.flatten ⟨fun x hx=>h.cy x (by simp [hx]),.refl _⟩ ⟨fun x hx=>g'.cy x (List.mem_cons_of_mem _ hx),q.symm⟩
  have:(Vs.map l).Perm (l v::(S++S').map l):=by simpa using (p.map l).symm
  rw [List.map_cons,hl w v r]
  exact (ih.cons _).trans this.symm
theorem dc_len {R:α→α→Prop}(hR:Fnl R){Ws Vs:List (List α)}{u:List α}(h:Dc R u Ws)(g:Dc R u Vs):Ws.length=Vs.length:=by
 have:=(dc_map hR (fun _=>()) (fun _ _ _=>rfl) Ws Vs u h g).length_eq
 simpa using this
theorem nx_self {u:List α}(nd:u.Nodup){p:α}(h:Nx u p p):∀ q∈u,q=p:=by
 obtain ⟨A,B,rfl⟩:=mem_rot (nx_mem h).1
 have h:=(nx_rot _ _ _ _).mp h
 have nd:(p::(B++A)).Nodup:=nd_rot nd
 have h:=(nx_head nd).mp h
 cases e:B++A with
 | nil =>
  obtain ⟨rfl,rfl⟩:=List.append_eq_nil_iff.mp e
  intro q hq
  simpa using hq
 | cons c t =>
  rw [e] at h nd
  simp at h
  exact absurd (by rw [h];simp) (List.nodup_cons.mp nd).1
noncomputable def Pt (R:α→α→Prop)(a:α)(P:List α)(b:α):Prop:=∀ c d,Adj (a::P++[b]) c d→R c d
theorem Pt.nil {R:α→α→Prop}{a b:α}(h:Pt R a [] b):R a b:=h a b (.inl ⟨rfl,rfl⟩)
theorem Pt.ends {R:α→α→Prop}{a b:α}{P:List α}(h:Pt R a P b)(hP:P≠[]):∃ p P' M z,P=p::P'∧P=M++[z]∧R a p∧R z b∧∀ c d,Adj P c d→R c d:=by
 obtain ⟨p,P',e⟩:∃ p P',P=p::P':=by
  cases P with
  | nil=>exact absurd rfl hP
  | cons p P'=>exact ⟨p,P',rfl⟩
 obtain ⟨M,z,e2⟩:∃ M z,P=M++[z]:=by
  rcases List.eq_nil_or_concat P with h | ⟨M,z,h⟩
  ·exact absurd h hP
  ·exact ⟨M,z,by rw [h,List.concat_eq_append]⟩
 have e3:a::P++[b]=(a::M)++z::[b]:=by rw [e2];simp
 refine ⟨p,P',M,z,e,e2,h a p ?_,h z b ?_,fun c d q=>h c d ?_⟩
 ·rw [e]
  exact .inl ⟨rfl,rfl⟩
 ·rw [e3]
  exact adj_at
 ·rw [e3,adj_mid]
  refine .inl ?_
  have:a::M++[z]=a::P:=by rw [e2];rfl
  rw [this,e]
  rw [e] at q
  exact .inr q
theorem cy_mk {R:α→α→Prop}{V V' M:List α}{v z:α}(e1:V=v::V')(e2:V=M++[z])(nd:V.Nodup)(h1:∀ c d,Adj V c d→R c d)(h2:R z v):Cy R V:=by
 refine ⟨by rw [e1];simp,nd,fun x y n=>?_⟩
 have n:Adj (V++[v]) x y:=by rw [e1] at n ⊢;exact n
 have:V++[v]=M++z::[v]:=by rw [e2];simp
 rw [this,adj_mid,← e2] at n
 rcases n with n | n
 ·exact h1 x y n
 ·rcases n with ⟨rfl,rfl⟩ | n
  ·exact h2
  ·exact n.elim
theorem adj_app {P Q M Q':List α}{z q:α}(e1:P=M++[z])(e2:Q=q::Q')(c d:α):Adj (P++Q) c d ↔ Adj P c d ∨ (c=z∧d=q) ∨ Adj Q c d:=by
 have:P++Q=M++z::Q:=by rw [e1];simp
 rw [this,adj_mid,← e1,e2]
 rfl
end
end Wd
namespace Wd
structure Out (u:List L) (x y:L) (v:List L):Prop where
 ex:∃ A B C D,u=A++x::B∧A++B=C++y::D∧v=C++D
theorem Out.pm {u v:List L}{x y:L}(o:Out u x y v):u.Perm (x::y::v):=by
 obtain ⟨A,B,C,D,rfl,e,rfl⟩:=o.ex
 refine List.perm_middle.trans (List.Perm.cons _ ?_)
 rw [e]
 exact List.perm_middle
theorem Out.nx {u v:List L}{x y:L}(o:Out u x y v)(nd:u.Nodup)(p q:L)(hp:p≠x)(hp':p≠y)(hq:q≠x)(hq':q≠y)
  (h:Nx u p q ∨ (Nx u p x∧Nx u x q) ∨ (Nx u p y∧Nx u y q) ∨ (Nx u p x∧Nx u x y∧Nx u y q) ∨ (Nx u p y∧Nx u y x∧Nx u x q)):Nx v p q:=by
 have hxy:y≠x:=by
  have:=o.pm.nodup_iff.mp nd
  intro e
  rw [e] at this
  simp at this
 obtain ⟨A,B,C,D,rfl,e,rfl⟩:=o.ex
 have nd2:(C++y::D).Nodup:=by
  rw [← e]
  exact (List.nodup_cons.mp (List.perm_middle.nodup_iff.mp nd)).2
 have s1:∀ a b,a≠x→b≠x→(Nx (A++x::B) a b ∨ (Nx (A++x::B) a x∧Nx (A++x::B) x b))→Nx (C++y::D) a b:=fun a b h1 h2 h=>by
  rw [← e]
  exact (nx_out nd).mpr ⟨h1,h2,h⟩
 refine (nx_out nd2).mpr ⟨hp',hq',?_⟩
 rcases h with h | ⟨h1,h2⟩ | ⟨h1,h2⟩ | ⟨h1,h2,h3⟩ | ⟨h1,h2,h3⟩
 ·exact .inl (s1 p q hp hq (.inl h))
 ·exact .inl (s1 p q hp hq (.inr ⟨h1,h2⟩))
 ·exact .inr ⟨s1 p y hp hxy (.inl h1),s1 y q hxy hq (.inl h2)⟩
 ·exact .inr ⟨s1 p y hp hxy (.inr ⟨h1,h2⟩),s1 y q hxy hq (.inl h3)⟩
 ·exact .inr ⟨s1 p y hp hxy (.inl h1),s1 y q hxy hq (.inr ⟨h2,h3⟩)⟩
theorem out_ex {u:List L}(nd:u.Nodup){x y:L}(hx:x∈u)(hy:y∈u)(hn:y≠x):∃ v,Out u x y v:=by
 obtain ⟨A,B,rfl⟩:=mem_rot hx
 have:y∈A++B:=by
  simp only [List.mem_append,List.mem_cons] at hy ⊢
  rcases hy with h | h | h
  ·exact .inl h
  ·exact absurd h hn
  ·exact .inr h
 obtain ⟨C,D,e⟩:=mem_rot this
 exact ⟨C++D,⟨A,B,C,D,rfl,e,rfl⟩⟩
theorem inv_eqn {a x:L}(h:a≠x):inv a≠inv x:=fun e=>h (by rw [← inv_inv a,e,inv_inv])
theorem inv_eqn' {a x:L}(h:a≠inv x):inv a≠x:=fun e=>h (by rw [← e,inv_inv])
theorem Out.rh {u v:List L}{x:L}(o:Out u x (inv x) v)(nd:u.Nodup){a b:L}(ha:a≠x)(ha':a≠inv x)(hb:b≠x)(hb':b≠inv x)
  (h:Rh u a b ∨ (Rh u a x∧Rh u (inv x) b) ∨ (Rh u a (inv x)∧Rh u x b) ∨ (Rh u a x∧Rh u (inv x) (inv x)∧Rh u x b) ∨ (Rh u a (inv x)∧Rh u x x∧Rh u (inv x) b)):Rh v a b:=by
 refine o.nx nd (inv a) b (inv_eqn' ha') (inv_eqn ha) hb hb' ?_
 unfold Rh at h
 simp only [inv_inv] at h
 exact h
theorem two_of {u:List L}(U:Srf u){x:L}(h1:Rh u x x)(h2:Rh u (inv x) (inv x)):u.length≤2:=by
 unfold Rh at h1 h2
 rw [inv_inv] at h2
 have hx:=(nx_mem h2).1
 obtain ⟨A,B,rfl⟩:=mem_rot hx
 have h1:=(nx_rot _ _ _ _).mp h1
 have h2:=(nx_rot _ _ _ _).mp h2
 have nd:(x::(B++A)).Nodup:=nd_rot U.nd
 have h2:=(nx_head nd).mp h2
 cases e:B++A with
 | nil =>
  obtain ⟨rfl,rfl⟩:=List.append_eq_nil_iff.mp e
  simp
 | cons c t =>
  rw [e] at h2
  simp at h2
  have h1:Nx (x::(B++A)) (inv x) x:=h1
  rw [e,h2] at h1 nd
  have h1:=(nx_rot [x] (inv x::t) _ _).mp h1
  have nd':(inv x::(t++[x])).Nodup:=nd_rot (A:=[x]) nd
  have h1:=(nx_head nd').mp h1
  cases t with
  | nil =>
   have:=congrArg List.length e
   simp only [List.length_append,List.length_cons,List.length_nil] at this ⊢
   omega
  | cons d t =>
   simp at h1
   subst h1
   simp at nd
theorem dc_two {R:L→L→Prop}{u:List L}{Ws:List (List L)}(h:Dc R u Ws){x y:L}(hx:x∈u)(hy:y∈u)(hn:y≠x) :
  (∃ (P Q:List L) (T:List (List L)),Ws.length=T.length+1∧Pt R x P y∧Pt R y Q x∧(x::y::(P++Q++T.flatten)).Perm u∧(∀ w∈T,Cy R w)∧∃ w∈Ws,x∈w∧y∈w) ∨
  (∃ (P Q:List L) (T:List (List L)),Ws.length=T.length+2∧Pt R x P x∧Pt R y Q y∧(x::y::(P++Q++T.flatten)).Perm u∧(∀ w∈T,Cy R w)∧∃ w∈Ws,x∈w∧y∉w):=by
 obtain ⟨w,hw,hxw⟩:=List.mem_flatten.mp (h.pm.mem_iff.mpr hx)
 obtain ⟨v,hv,hyv⟩:=List.mem_flatten.mp (h.pm.mem_iff.mpr hy)
 obtain ⟨S,S',e⟩:=List.append_of_mem hw
 have pw:(w::(S++S')).Perm Ws:=by rw [e];exact List.perm_middle.symm
 have g:=h.pms pw
 have cw:=h.cy w hw
 obtain ⟨A,B,eA⟩:=mem_rot hxw
 have cw':Cy R (x::(B++A)):=by rw [eA] at cw;exact cw.rot
 have pAB:(A++x::B).Perm (x::(B++A)):=List.perm_append_comm
 have pu:(x::(B++A)++(S++S').flatten).Perm u:=by
  have:=g.pm
  rw [List.flatten_cons,eA] at this
  exact (List.Perm.append_right _ pAB.symm).trans this
 by_cases hyw:y∈w
 ·left
  have hy2:y∈B++A:=by
   have:=(eA ▸ hyw:y∈A++x::B)
   simp only [List.mem_append,List.mem_cons] at this ⊢
   rcases this with h | h | h
   ·exact .inr h
   ·exact absurd h hn
   ·exact .inl h
  obtain ⟨P,Q,eP⟩:=mem_rot hy2
  rw [eP] at cw' pu
  have cs:∀ c d,Adj (x::(P++y::Q)++[x]) c d→R c d:=cw'.st
  have e2:x::(P++y::Q)++[x]=(x::P)++y::(Q++[x]):=by simp
  rw [e2] at cs
  refine ⟨P,Q,S++S',?_,fun c d q=>cs c d ((adj_mid _ _ _ _ _).mpr (.inl q)),fun c d q=>cs c d ((adj_mid _ _ _ _ _).mpr (.inr q)),?_,fun z hz=>g.cy z (List.mem_cons_of_mem _ hz),w,hw,hxw,hyw⟩
  ·have:=pw.length_eq
   simpa using this.symm
  ·refine List.Perm.trans ?_ pu
   refine List.Perm.cons x ?_
   have:(P++y::Q).Perm (y::(P++Q)):=List.perm_middle
   exact (List.Perm.append_right _ this.symm)
 ·right
  have hvm:v∈S++S':=by
   have:=pw.mem_iff.mpr hv
   rcases List.mem_cons.mp this with h | h
   ·exact absurd (h ▸ hyv) hyw
   ·exact h
  obtain ⟨T,T',eT⟩:=List.append_of_mem hvm
  have pv:(v::(T++T')).Perm (S++S'):=by rw [eT];exact List.perm_middle.symm
  have cv:=h.cy v hv
  obtain ⟨C,D,eC⟩:=mem_rot hyv
  have cv':Cy R (y::(D++C)):=by rw [eC] at cv;exact cv.rot
  have pCD:(C++y::D).Perm (y::(D++C)):=List.perm_append_comm
  refine ⟨B++A,D++C,T++T',?_,cw'.st,cv'.st,?_,fun z hz=>g.cy z (List.mem_cons_of_mem _ (pv.mem_iff.mp (List.mem_cons_of_mem _ hz))),w,hw,hxw,hyw⟩
  ·have h1:=pw.length_eq
   have h2:=pv.length_eq
   simp only [List.length_cons] at h1 h2
   omega
  ·refine List.Perm.trans ?_ pu
   refine List.Perm.cons x ?_
   have h3:(y::(D++C)++(T++T').flatten).Perm (S++S').flatten:=by
    have:=flat_pm pv
    rw [List.flatten_cons,eC] at this
    exact (List.Perm.append_right _ pCD.symm).trans this
   have h4:(B++A++(y::(D++C)++(T++T').flatten)).Perm (B++A++(S++S').flatten):=List.Perm.append_left _ h3
   refine List.Perm.trans ?_ h4
   have:B++A++(y::(D++C)++(T++T').flatten)=(B++A)++y::((D++C)++(T++T').flatten):=by simp
   rw [this]
   have q:=List.perm_middle (a:=y) (l₁:=B++A) (l₂:=(D++C)++(T++T').flatten)
   refine List.Perm.trans ?_ q.symm
   simp
end Wd
namespace Wd
theorem not_self {u:List L}(U:Srf u){x:L}(hx:x∈u):¬ Nx u x x:=fun h=>inv_ne x (nx_self U.nd h (inv x) (U.iv x hx))
theorem par_step {u v:List L}(U:Srf u)(h4:2 < u.length){x:L}(hx:x∈u)(o:Out u x (inv x) v){Ws:List (List L)}(h:Dc (Rh u) u Ws):∃ Vs,Dc (Rh v) v Vs∧((Vs.length=Ws.length+1∧∃ w∈Ws,x∈w∧inv x∈w) ∨ (Vs.length+1=Ws.length∧∃ w∈Ws,x∈w∧inv x∉w)):=by
 have hX:=U.iv x hx
 have key:∀ (P Q:List L) (T:List (List L)),(x::inv x::(P++Q++T.flatten)).Perm u→(∀ w∈T,Cy (Rh u) w) →
   (P++Q++T.flatten).Perm v∧(P++Q++T.flatten).Nodup∧(∀ y∈P++Q++T.flatten,y≠x∧y≠inv x)∧∀ w∈T,Cy (Rh v) w:=by
  intro P Q T pu ct
  have p2:(x::inv x::(P++Q++T.flatten)).Perm (x::inv x::v):=pu.trans o.pm
  have p3:=List.Perm.cons_inv (List.Perm.cons_inv p2)
  have nd:=pu.nodup_iff.mpr U.nd
  obtain ⟨n1,n2⟩:=List.nodup_cons.mp nd
  obtain ⟨n3,n4⟩:=List.nodup_cons.mp n2
  have ne:∀ y∈P++Q++T.flatten,y≠x∧y≠inv x:=fun y hy=>⟨fun e=>n1 (List.mem_cons_of_mem _ (e ▸ hy)),fun e=>n3 (e ▸ hy)⟩
  refine ⟨p3,n4,ne,fun w hw=>⟨(ct w hw).ne,(ct w hw).nd,fun a b q=>?_⟩⟩
  have sub:∀ y∈w,y∈P++Q++T.flatten:=fun y hy=>List.mem_append.mpr (.inr (List.mem_flatten.mpr ⟨w,hw,hy⟩))
  have m:=nx_mem q
  exact o.rh U.nd (ne a (sub a m.1)).1 (ne a (sub a m.1)).2 (ne b (sub b m.2)).1 (ne b (sub b m.2)).2 (.inl ((ct w hw).st a b q))
 have bad1:¬ Rh u x (inv x):=fun q=>not_self U hX q
 have bad2:¬ Rh u (inv x) x:=fun q=>by
  unfold Rh at q
  rw [inv_inv] at q
  exact not_self U hx q
 rcases dc_two h hx hX (inv_ne x) with ⟨P,Q,T,hl,hP,hQ,pu,ct,m⟩ | ⟨P,Q,T,hl,hP,hQ,pu,ct,m⟩
 ·obtain ⟨pv,nd,ne,ct'⟩:=key P Q T pu ct
  have P0:P≠[]:=fun e=>by subst e;exact bad1 hP.nil
  have Q0:Q≠[]:=fun e=>by subst e;exact bad2 hQ.nil
  obtain ⟨p,P',M,z,e1,e2,r1,r2,r3⟩:=hP.ends P0
  obtain ⟨q,Q',N,y,f1,f2,s1,s2,s3⟩:=hQ.ends Q0
  have mP:∀ a∈P,a≠x∧a≠inv x:=fun a ha=>ne a (by simp [ha])
  have mQ:∀ a∈Q,a≠x∧a≠inv x:=fun a ha=>ne a (by simp [ha])
  have hz:z∈P:=by rw [e2];simp
  have hp:p∈P:=by rw [e1];simp
  have hy:y∈Q:=by rw [f2];simp
  have hq:q∈Q:=by rw [f1];simp
  have nPQ:=(List.nodup_append.mp nd).1
  have cP:Cy (Rh v) P:=cy_mk e1 e2 (List.nodup_append.mp nPQ).1 (fun c d k=>o.rh U.nd (mP c (adj_mem k).1).1 (mP c (adj_mem k).1).2 (mP d (adj_mem k).2).1 (mP d (adj_mem k).2).2 (.inl (r3 c d k)))
   (o.rh U.nd (mP z hz).1 (mP z hz).2 (mP p hp).1 (mP p hp).2 (.inr (.inr (.inl ⟨r2,r1⟩))))
  have cQ:Cy (Rh v) Q:=cy_mk f1 f2 (List.nodup_append.mp nPQ).2.1 (fun c d k=>o.rh U.nd (mQ c (adj_mem k).1).1 (mQ c (adj_mem k).1).2 (mQ d (adj_mem k).2).1 (mQ d (adj_mem k).2).2 (.inl (s3 c d k)))
   (o.rh U.nd (mQ y hy).1 (mQ y hy).2 (mQ q hq).1 (mQ q hq).2 (.inr (.inl ⟨s2,s1⟩)))
  refine ⟨P::Q::T,⟨fun w hw=>?_,by simpa using pv⟩,.inl ⟨by rw [hl];simp,m⟩⟩
  rcases List.mem_cons.mp hw with rfl | hw
  ·exact cP
  ·rcases List.mem_cons.mp hw with rfl | hw
   ·exact cQ
   ·exact ct' w hw
 ·obtain ⟨pv,nd,ne,ct'⟩:=key P Q T pu ct
  have mP:∀ a∈P,a≠x∧a≠inv x:=fun a ha=>ne a (by simp [ha])
  have mQ:∀ a∈Q,a≠x∧a≠inv x:=fun a ha=>ne a (by simp [ha])
  have nPQ:=(List.nodup_append.mp nd).1
  have iP:∀ c d,Adj P c d→Rh u c d→Rh v c d:=fun c d k r=>o.rh U.nd (mP c (adj_mem k).1).1 (mP c (adj_mem k).1).2 (mP d (adj_mem k).2).1 (mP d (adj_mem k).2).2 (.inl r)
  have iQ:∀ c d,Adj Q c d→Rh u c d→Rh v c d:=fun c d k r=>o.rh U.nd (mQ c (adj_mem k).1).1 (mQ c (adj_mem k).1).2 (mQ d (adj_mem k).2).1 (mQ d (adj_mem k).2).2 (.inl r)
  have cy:Cy (Rh v) (P++Q):=by
   by_cases P0:P=[]
   ·subst P0
    have Q0:Q≠[]:=fun e=>by
     subst e
     have:=two_of U hP.nil hQ.nil
     omega
    obtain ⟨q,Q',N,y,f1,f2,s1,s2,s3⟩:=hQ.ends Q0
    have hy:y∈Q:=by rw [f2];simp
    have hq:q∈Q:=by rw [f1];simp
    exact cy_mk f1 f2 (List.nodup_append.mp nPQ).2.1 (fun c d k=>iQ c d k (s3 c d k)) (o.rh U.nd (mQ y hy).1 (mQ y hy).2 (mQ q hq).1 (mQ q hq).2 (.inr (.inr (.inr (.inr ⟨s2,hP.nil,s1⟩)))))
   ·obtain ⟨p,P',M,z,e1,e2,r1,r2,r3⟩:=hP.ends P0
    have hz:z∈P:=by rw [e2];simp
    have hp:p∈P:=by rw [e1];simp
    by_cases Q0:Q=[]
    ·subst Q0
     rw [List.append_nil]
     exact cy_mk e1 e2 (List.nodup_append.mp nPQ).1 (fun c d k=>iP c d k (r3 c d k)) (o.rh U.nd (mP z hz).1 (mP z hz).2 (mP p hp).1 (mP p hp).2 (.inr (.inr (.inr (.inl ⟨r2,hQ.nil,r1⟩)))))
    ·obtain ⟨q,Q',N,y,f1,f2,s1,s2,s3⟩:=hQ.ends Q0
     have hy:y∈Q:=by rw [f2];simp
     have hq:q∈Q:=by rw [f1];simp
     refine cy_mk (v:=p) (V':=P'++Q) (M:=P++N) (z:=y) (by rw [e1];rfl) (by rw [f2];simp) nPQ (fun c d k=>?_) (o.rh U.nd (mQ y hy).1 (mQ y hy).2 (mP p hp).1 (mP p hp).2 (.inr (.inr (.inl ⟨s2,r1⟩))))
     rcases (adj_app e2 f1 c d).mp k with k | ⟨rfl,rfl⟩ | k
     ·exact iP c d k (r3 c d k)
     ·exact o.rh U.nd (mP _ hz).1 (mP _ hz).2 (mQ _ hq).1 (mQ _ hq).2 (.inr (.inl ⟨r2,s1⟩))
     ·exact iQ c d k (s3 c d k)
  refine ⟨(P++Q)::T,⟨fun w hw=>?_,by simpa using pv⟩,.inr ⟨by rw [hl];simp,m⟩⟩
  rcases List.mem_cons.mp hw with rfl | hw
  ·exact cy
  ·exact ct' w hw
theorem par:∀ (n:Nat) (u:List L),u.length≤n→Srf u→∀ Ws,Dc (Rh u) u Ws→∃ k,u.length+2=2*Ws.length+4*k:=by
 intro n
 induction n with
 | zero =>
  intro u hl U
  have:=U.pos
  omega
 | succ n ih =>
  intro u hl U Ws h
  obtain ⟨x,hx⟩:=List.exists_mem_of_ne_nil u U.ne
  have hX:=U.iv x hx
  by_cases h2:u.length≤2
  ·have fin:∀ (P Q:List L) (T:List (List L)),(x::inv x::(P++Q++T.flatten)).Perm u→P=[]∧Q=[]∧T.flatten=[]:=fun P Q T p=>by
    have:=p.length_eq
    simp only [List.length_cons,List.length_append] at this
    exact ⟨List.eq_nil_of_length_eq_zero (by omega),List.eq_nil_of_length_eq_zero (by omega),List.eq_nil_of_length_eq_zero (by omega)⟩
   rcases dc_two h hx hX (inv_ne x) with ⟨P,Q,T,hl,hP,hQ,pu,ct,_⟩ | ⟨P,Q,T,hl,hP,hQ,pu,ct,_⟩
   ·obtain ⟨rfl,_,_⟩:=fin P Q T pu
    exact absurd hP.nil (not_self U hX)
   ·obtain ⟨rfl,rfl,e⟩:=fin P Q T pu
    have:T=[]:=by
     cases T with
     | nil=>rfl
     | cons w T =>
      rw [List.flatten_cons] at e
      exact absurd (List.append_eq_nil_iff.mp e).1 (ct w (by simp)).ne
    subst this
    have:=pu.length_eq
    simp at this hl
    exact ⟨0,by omega⟩
  ·obtain ⟨v,o⟩:=out_ex U.nd hx hX (inv_ne x)
   obtain ⟨Vs,g,c⟩:=par_step U (by omega) hx o h
   have pl:=o.pm.length_eq
   simp only [List.length_cons] at pl
   have nd:=o.pm.nodup_iff.mp U.nd
   obtain ⟨n1,n2⟩:=List.nodup_cons.mp nd
   obtain ⟨n3,n4⟩:=List.nodup_cons.mp n2
   have V:Srf v:=by
    refine ⟨fun e=>by subst e;simp at pl;omega,n4,fun y hy=>?_,by have:=U.le;omega⟩
    have hu:y∈u:=o.pm.mem_iff.mpr (by simp [hy])
    have:=o.pm.mem_iff.mp (U.iv y hu)
    rcases List.mem_cons.mp this with e | this
    ·exact absurd hy (by rw [show y=inv x by rw [← e,inv_inv]];exact n3)
    ·rcases List.mem_cons.mp this with e | this
     ·have:y=x:=by rw [← inv_inv y,e,inv_inv]
      exact absurd hy (by rw [this];exact fun q=>n1 (List.mem_cons_of_mem _ q))
     ·exact this
   obtain ⟨k,hk⟩:=ih v (by omega) V Vs g
   rcases c with ⟨c,_⟩ | ⟨c,_⟩
   ·exact ⟨k+1,by omega⟩
   ·exact ⟨k,by omega⟩
theorem hol_par {u:List L}(U:Srf u):∃ k,u.length+2=2*(hol u).length+4*k:=par u.length u (Nat.le_refl _) U _ (hol_dc U)
end Wd
namespace Wd
structure Ren (u:List L) (f:L→L):Prop where
 iv:∀ x,f (inv x)=inv (f x)
 inj:∀ x∈u,∀ y∈u,f x=f y→x=y
theorem Ren.srf {u:List L}{f:L→L}(R:Ren u f)(U:Srf u):Srf (u.map f):=by
 refine ⟨by simpa using U.ne,nd_map f U.nd R.inj,fun x hx=>?_,by rw [List.length_map];exact U.le⟩
 obtain ⟨y,hy,rfl⟩:=List.mem_map.mp hx
 exact List.mem_map.mpr ⟨inv y,U.iv y hy,R.iv y⟩
theorem dc_ren {u:List L}{f:L→L}(R:Ren u f)(U:Srf u):Dc (Rh (u.map f)) (u.map f) ((hol u).map (List.map f)):=by
 have h:=hol_dc U
 refine ⟨fun w hw=>?_,?_⟩
 ·obtain ⟨v,hv,rfl⟩:=List.mem_map.mp hw
  have c:=h.cy v hv
  have sub:∀ x∈v,x∈u:=fun x hx=>h.pm.mem_iff.mp (List.mem_flatten.mpr ⟨v,hv,hx⟩)
  refine ⟨by simpa using c.ne,nd_map f c.nd fun x hx y hy=>R.inj x (sub x hx) y (sub y hy),fun x y n=>?_⟩
  obtain ⟨a,b,n',rfl,rfl⟩:=nx_map f n
  have:=c.st a b n'
  unfold Rh at this ⊢
  rw [← R.iv]
  exact map_nx f this
 ·rw [← List.map_flatten]
  exact h.pm.map f
noncomputable def nm (N:List L)(x:L):L:=if x.val < 6 then N.getD x.val 0 else inv (N.getD (x.val - 6) 0)
end Wd
namespace L2
open PySem PySem.Spec PyProof.Rows Wd
theorem perm_map_ex {α β:Type}(f:α→β){zs ys:List β}(p:ys.Perm zs):∀ W:List α,ys=W.map f→∃ V:List α,V.Perm W∧zs=V.map f:=by
 induction p with
 | nil =>
  intro W e
  exact ⟨W,.refl _,e⟩
 | cons x _ ih =>
  intro W e
  cases W with
  | nil=>cases e
  | cons w W =>
   obtain ⟨e1,e2⟩:=List.cons.inj e
   obtain ⟨V,h1,h2⟩:=ih W e2
   exact ⟨w::V,h1.cons w,by rw [h2,e1];rfl⟩
 | swap x y l =>
  intro W e
  match W,e with
  | a::b::W,e =>
   obtain ⟨e1,e2⟩:=List.cons.inj e
   obtain ⟨e2,e3⟩:=List.cons.inj e2
   exact ⟨b::a::W,List.Perm.swap a b W,by rw [e1,e2,e3];rfl⟩
 | trans _ _ ih1 ih2 =>
  intro W e
  obtain ⟨V,h1,h2⟩:=ih1 W e
  obtain ⟨V2,h3,h4⟩:=ih2 V h2
  exact ⟨V2,h3.trans h1,h4⟩
section
variable {X:Cx}
end
end L2
namespace Kx
open PySem PySem.Spec PyProof.Rows L2 Wd
theorem lw_ex (w:List L):∃ v,Least (toS v) ((rots w).map toS):=by
 obtain ⟨m,h⟩:=least_is ((rots w).map toS) (by unfold rots;simp)
 obtain ⟨v,_,rfl⟩:=List.mem_map.mp h.1
 exact ⟨v,h⟩
noncomputable def lw (w:List L):List L:=Classical.choose (lw_ex w)
end Kx
namespace L2
open PySem PySem.Spec PyProof.Rows
theorem ddp_nodup (val:Nat→Str):∀ i,(ddp val i).Nodup
 | 0=>by unfold ddp;exact List.nodup_nil
 | i+1=>by
  unfold ddp
  split
  ·exact ddp_nodup val i
  ·rename_i h
   exact List.nodup_append.mpr ⟨ddp_nodup val i,List.nodup_cons.mpr ⟨List.not_mem_nil,List.nodup_nil⟩,fun a ha b hb e=>h (by rw [List.mem_singleton] at hb;subst hb;subst e;exact ha)⟩
theorem ddp_mem (val:Nat→Str)(z:Str):∀ i,z∈ddp val i ↔ ∃ j,j < i∧val j=z
 | 0=>by unfold ddp;simp
 | i+1=>by
  have ih:=ddp_mem val z i
  unfold ddp
  split
  ·rename_i h
   rw [ih]
   constructor
   ·rintro ⟨j,hj,e⟩;exact ⟨j,by omega,e⟩
   ·rintro ⟨j,hj,e⟩
    by_cases q:j=i
    ·subst q
     rw [← e]
     rw [e] at h ⊢
     exact ih.mp h
    ·exact ⟨j,by omega,e⟩
  ·rw [List.mem_append,ih,List.mem_singleton]
   constructor
   ·rintro (⟨j,hj,e⟩ | e)
    ·exact ⟨j,by omega,e⟩
    ·exact ⟨i,by omega,e.symm⟩
   ·rintro ⟨j,hj,e⟩
    by_cases q:j=i
    ·subst q;exact .inr e.symm
    ·exact .inl ⟨j,by omega,e⟩
theorem perm_of_members:∀ {dl zs:List Str},dl.Nodup→(∀ k∈dl,k∈zs)→zs.length≤dl.length→zs.Perm dl
 | [],zs,_,_,h=>by rw [List.length_eq_zero_iff.mp (Nat.le_zero.mp h)]
 | d::dl,zs,nd,m,h=>by
  have hd:=m d List.mem_cons_self
  have p:=List.perm_cons_erase hd
  refine p.trans (List.Perm.cons _ ?_)
  obtain ⟨n1,n2⟩:=List.nodup_cons.mp nd
  refine perm_of_members n2 (fun k hk=>?_) ?_
  ·have:=m k (List.mem_cons_of_mem _ hk)
   exact (List.mem_erase_of_ne (fun e=>n1 (by rw [← e];exact hk))).mpr this
  ·rw [List.length_erase_of_mem hd]
   simp at h
   omega
section
variable {prog:Program} {w:World} {A:Around} {E:Value→Shared→Prop} {s:Shared}
end
section
variable {X:Cx}
noncomputable def StO (P:Program)(w:World)(a:Addr)(dl:List Str):HO:=.ext fun h=>SetL P w h a dl
theorem SetL.lay {P:Program}{w:World}{H:Hp}{h:Heap}{a:Addr}{dl:List Str}(x:SetL P w h a dl):ObjOk P w H h a (StO P w a dl):=by
 refine ⟨x,?_,fun h1 h2 y k=>y.at k⟩
 obtain ⟨o,_,_,_,e,_⟩:=x
 exact ⟨o,e⟩
end
section
variable {prog:Program} {w:World} {A:Around} {E:Value→Shared→Prop} {s:Shared}
end
section
variable {X:Cx}
end
end L2
namespace Tv
open PySem PyProof.Rows
variable {κ:KeyKind} {kd:SortKind}
theorem Lel.sym_take {l:List Keyed}(h:Srt κ l)(i:Nat):Lel κ (l.take i) (l.drop i):=by
 have:Srt κ (l.take i++l.drop i):=by rw [List.take_append_drop];exact h
 exact (srt_app.mp this).2.2
theorem Lel.memL {l l' m:List Keyed}(h:Lel κ l m)(hs:∀ x∈l',x∈l):Lel κ l' m:=fun x hx y hy=>h x (hs x hx) y hy
theorem Lel.memR {l m m':List Keyed}(h:Lel κ l m)(hs:∀ x∈m',x∈m):Lel κ l m':=fun x hx y hy=>h x hx y (hs y hy)
theorem Lel.mid {l m:List Keyed}{x:Keyed}(h:Lel κ l [x])(g:Lel κ [x] m):Lel κ l m:=fun a ha b hb=>lek_trans (h a ha x (List.mem_singleton.mpr rfl)) (g x (List.mem_singleton.mpr rfl) b hb)
theorem first_le {l:List Keyed}{x:Keyed}(h:Srt κ l)(e:l[0]? = some x):Lel κ [x] l:=fun a ha y hy=>by
 rw [List.mem_singleton] at ha
 subst ha
 obtain ⟨i,hi⟩:=List.getElem?_of_mem hy
 exact h.at (Nat.zero_le _) e hi
theorem last_le {l:List Keyed}{x:Keyed}(h:Srt κ l)(e:l[l.length - 1]? = some x):Lel κ l [x]:=fun a ha y hy=>by
 rw [List.mem_singleton] at hy
 subst hy
 obtain ⟨i,hi⟩:=List.getElem?_of_mem ha
 have:=(List.getElem?_eq_some_iff.mp hi).1
 exact h.at (by omega) hi e
theorem lel_app {l m n:List Keyed}:Lel κ (l++m) n ↔ Lel κ l n∧Lel κ m n :=
 ⟨fun h=>⟨h.memL fun x hx=>List.mem_append_left _ hx,h.memL fun x hx=>List.mem_append_right _ hx⟩,fun h x hx=>(List.mem_append.mp hx).elim (h.1 x) (h.2 x)⟩
theorem lel_app' {l m n:List Keyed}:Lel κ l (m++n) ↔ Lel κ l m∧Lel κ l n :=
 ⟨fun h=>⟨h.memR fun x hx=>List.mem_append_left _ hx,h.memR fun x hx=>List.mem_append_right _ hx⟩,fun h x hx y hy=>(List.mem_append.mp hy).elim (h.1 x hx y) (h.2 x hx y)⟩
theorem mg_mid {A B r:List Keyed}{c m:Nat}{b0 al:Keyed}(sA:Srt κ A)(sB:Srt κ B)(e0:B[0]? = some b0)(el:A[A.length - 1]? = some al)
  (h1:Lel κ (A.take c) [b0]) (h2:Lel κ [al] (B.drop m)) (M:Mg κ (A.drop c) (B.take m) r):Mg κ A B (A.take c++(r++B.drop m)):=by
 have mm:∀ x,x∈r ↔ x∈A.drop c++B.take m:=fun x=>M.1.mem_iff
 refine ⟨?_,srt_app.mpr ⟨sA.take c,srt_app.mpr ⟨M.2,sB.drop m,?_⟩,lel_app'.mpr ⟨?_,?_⟩⟩⟩
 ·have:(A.take c++(r++B.drop m)).Perm (A.take c++((A.drop c++B.take m)++B.drop m)):=List.Perm.append_left _ (M.1.append_right _)
  refine this.trans (List.Perm.of_eq ?_)
  rw [List.append_assoc,← List.append_assoc,List.take_append_drop,List.take_append_drop]
 ·refine Lel.memL (l:=A.drop c++B.take m) (lel_app.mpr ⟨?_,Lel.sym_take sB m⟩) fun x hx=>(mm x).mp hx
  exact Lel.mid ((last_le sA el).memL fun x hx=>List.mem_of_mem_drop hx) h2
 ·refine Lel.memR (m:=A.drop c++B.take m) (lel_app'.mpr ⟨Lel.sym_take sA c,?_⟩) fun x hx=>(mm x).mp hx
  exact Lel.mid h1 ((first_le sB e0).memR fun x hx=>List.mem_of_mem_take hx)
 ·exact Lel.mid h1 ((first_le sB e0).memR fun x hx=>List.mem_of_mem_drop hx)
section
variable {prog:Program} {w:World} {A:Around} {E:Value→Shared→Prop} {s:Shared}
theorem wpS_put {st u:SortSt}{Q:PUnit→SortSt→Prop}(h:Q ⟨⟩ u):wpS (model prog w) A E s (set u:StateT SortSt Sem PUnit) Q st:=by
 unfold wpS
 rw [StateT.run_set]
 exact wpAny_pure ⟨rfl,h⟩
theorem wpS_galM {st:SortSt}{lf:Bool}{key:Keyed}{arr:Array Keyed}{P M S:List Keyed}{z n h:Nat}{Q:Option Nat→SortSt→Prop}(hO:Lt1 κ prog w A s kd)(hB:TB kd st)(hk:Gd κ key)(hg:∀ x∈arr.toList,Gd κ x)(ea:arr.toList=P++(M++S))(lp:P.length=z)(ln:M.length=n)(sa:Srt κ M)(hh:h < n)
  (hq:∀ k,k≤n→(∀ x∈M.take k,bdB κ lf (kof κ key) (kof κ x)=true)→(∀ x∈M.drop k,bdB κ lf (kof κ key) (kof κ x)=false)→Q (some k) st) :
  wpS (model prog w) A E s (gal lf key arr z n h) Q st:=by
 have ga:∀ i,i < n→arr[z+i]? = M[i]?:=fun i hi=>by
  rw [← Array.getElem?_toList,ea,List.getElem?_append_right (by omega),List.getElem?_append_left (by omega)]
  congr 1
  omega
 have gm:∀ x∈M,Gd κ x:=fun x hx=>hg x (by rw [ea];exact List.mem_append_right _ (List.mem_append_left _ hx))
 refine wpS_gal hO hB hk (fun t=>match M[t]? with | some p=>bdB κ lf (kof κ key) (kof κ p) | none=>false) hh (fun t ht=>?_) (fun t u htu hu hb=>?_) (fun k hk' h1 h2=>hq k hk' (fun x hx=>?_) fun x hx=>?_)
 ·have hlt:t < M.length:=by omega
  have e:=List.getElem?_eq_getElem hlt
  exact ⟨M[t],by rw [ga t ht,e],gm _ (List.getElem_mem _),by rw [e]⟩
 ·have e1:=List.getElem?_eq_getElem (l:=M) (i:=t) (by omega)
  have e2:=List.getElem?_eq_getElem (l:=M) (i:=u) (by omega)
  rw [e1]
  rw [e2] at hb
  have le:=sa.at htu e1 e2
  dsimp only at hb ⊢
  cases lf with
  | true=>exact KeyOrd.klt_of_kle_of_klt le hb
  | false =>
   have le2:=lek_trans le (bd_false hb)
   show (!κ.blt _ _)=true
   rw [show κ.blt (kof κ key) (kof κ M[t])=false from le2]
   rfl
 ·obtain ⟨i,hi⟩:=List.getElem?_of_mem hx
  have l1:=(List.getElem?_eq_some_iff.mp hi).1
  rw [List.length_take] at l1
  rw [List.getElem?_take_of_lt (by omega)] at hi
  have:=h1 i (by omega)
  rw [hi] at this
  exact this
 ·obtain ⟨i,hi⟩:=List.getElem?_of_mem hx
  rw [List.getElem?_drop] at hi
  have l1:=(List.getElem?_eq_some_iff.mp hi).1
  have:=h2 (k+i) (by omega) (by omega)
  rw [hi] at this
  exact this
theorem ext_mid {arr:Array Keyed}{P M S:List Keyed}{i j:Nat}(e:arr.toList=P++(M++S))(h1:P.length=i)(h2:j=i+M.length):(arr.extract i j).toList=M:=by
 rw [Array.toList_extract,e,List.extract_eq_drop_take,← h1,List.drop_left,h2,← h1,Nat.add_sub_cancel_left,List.take_left]
theorem wpS_mat {st:SortSt}{i z na nb pw pw2:Nat}{P Aa B S:List Keyed}{Q:Bool→SortSt→Prop}(hO:Lt1 κ prog w A s kd)(hB:TB kd st)(g:∀ x∈(arrOf st).toList,Gd κ x)(e1:(pendingOf st)[i]? = some (z,na,pw))(e2:(pendingOf st)[i+1]? = some (z+na,nb,pw2))
  (ea:(arrOf st).toList=P++(Aa++(B++S))) (lp:P.length=z) (la:Aa.length=na) (lb:B.length=nb) (h0:0 < na) (h1:0 < nb) (sA:Srt κ Aa) (sB:Srt κ B)
  (h:∀ st' R,TB kd st'→pendingOf st'=((pendingOf st).setIfInBounds i (z,na+nb,pw)).eraseIdxIfInBounds (i+1)→(arrOf st').toList=P++(R++S)→Mg κ Aa B R→Q true st'):wpS (model prog w) A E s (mergeAt' i) Q st:=by
 have eb:(arrOf st).toList=(P++Aa)++(B++S):=by rw [ea,List.append_assoc]
 rw [mAt_eq]
 unfold mAt
 refine wpS_bind (wpS_get ?_)
 rw [e1,e2]
 dsimp only
 refine wpS_bind (wpS_put ?_)
 have hB':TB kd (setPending st (((pendingOf st).setIfInBounds i (z,na+nb,pw)).eraseIdxIfInBounds (i+1))):=⟨hB.kind,hB.failed⟩
 generalize hst':setPending st (((pendingOf st).setIfInBounds i (z,na+nb,pw)).eraseIdxIfInBounds (i+1))=st' at hB' ⊢
 have hp':pendingOf st'=((pendingOf st).setIfInBounds i (z,na+nb,pw)).eraseIdxIfInBounds (i+1):=by rw [← hst']
 have har:arrOf st'=arrOf st:=by rw [← hst']
 obtain ⟨b0,eb0⟩:∃ b0,B[0]? = some b0:=⟨_,List.getElem?_eq_getElem (by omega)⟩
 obtain ⟨al,eal⟩:∃ al,Aa[Aa.length - 1]? = some al:=⟨_,List.getElem?_eq_getElem (by omega)⟩
 have gA:∀ x∈Aa,Gd κ x:=fun x hx=>g x (by rw [ea];simp [hx])
 have gB:∀ x∈B,Gd κ x:=fun x hx=>g x (by rw [ea];simp [hx])
 have x0:(arrOf st).toList[z+na]? = some b0:=by
  rw [eb,List.getElem?_append_right (by simp;omega),List.getElem?_append_left (by simp;omega)]
  rw [show z+na - (P++Aa).length=0 by simp;omega]
  exact eb0
 have xl:(arrOf st).toList[z+na - 1]? = some al:=by
  rw [ea,List.getElem?_append_right (by omega),List.getElem?_append_left (by omega)]
  rw [show z+na - 1 - P.length=Aa.length - 1 by omega]
  exact eal
 refine wpS_bind (wpS_elem x0 ?_)
 refine wpS_bind (wpS_galM hO hB' (gB b0 (List.mem_of_getElem? eb0)) g ea lp la sA h0 fun c hc t1 t2=>?_)
 dsimp only
 have k1:Lel κ (Aa.take c) [b0]:=fun x hx y hy=>by
  rw [List.mem_singleton] at hy
  subst hy
  exact bd_false (t1 x hx)
 have k2:Lel κ [b0] (Aa.drop c):=fun x hx y hy=>by
  rw [List.mem_singleton] at hx
  subst hx
  exact bd_false' (t2 y hy)
 by_cases hc0:na - c=0
 ·refine wpS_ifT (by simpa using hc0) ?_
  have:Aa.take c=Aa:=List.take_of_length_le (by omega)
  rw [this] at k1
  exact wpS_pure (h st' (Aa++B) hB' hp' (by rw [har,ea,List.append_assoc]) ⟨List.Perm.refl _,srt_app.mpr ⟨sA,sB,k1.mid (first_le sB eb0)⟩⟩)
 ·refine wpS_ifF (by simpa using hc0) ?_
  rw [show z+c+(na - c) - 1=z+na - 1 by omega]
  refine wpS_bind (wpS_elem xl ?_)
  refine wpS_bind (wpS_galM hO hB' (gA al (List.mem_of_getElem? eal)) g eb (by simp;omega) lb sB (by omega) fun m hm u1 u2=>?_)
  dsimp only
  have k3:Lel κ (B.take m) [al]:=fun x hx y hy=>by
   rw [List.mem_singleton] at hy
   subst hy
   exact bd_true (u1 x hx)
  have k4:Lel κ [al] (B.drop m):=fun x hx y hy=>by
   rw [List.mem_singleton] at hx
   subst hx
   exact bd_true' (u2 y hy)
  by_cases hm0:m=0
  ·refine wpS_ifT (by simpa using hm0) ?_
   subst hm0
   exact wpS_pure (h st' (Aa++B) hB' hp' (by rw [har,ea,List.append_assoc]) ⟨List.Perm.refl _,srt_app.mpr ⟨sA,sB,(last_le sA eal).mid k4⟩⟩)
  ·refine wpS_ifF (by simpa using hm0) ?_
   have ec:(arrOf st).toList=(P++Aa.take c)++(Aa.drop c++(B++S)):=by
    rw [ea]
    conv=>lhs;rw [← List.take_append_drop c Aa]
    simp only [List.append_assoc]
   have ed:(arrOf st).toList=(P++Aa)++(B.take m++(B.drop m++S)):=by
    rw [eb]
    conv=>lhs;rw [← List.take_append_drop m B]
    simp only [List.append_assoc]
   have ex:((arrOf st).extract (z+c) (z+na)).toList=Aa.drop c:=ext_mid ec (by simp;omega) (by simp;omega)
   have ey:((arrOf st).extract (z+na) (z+na+m)).toList=B.take m:=ext_mid ed (by simp;omega) (by simp;omega)
   have sx:((arrOf st).extract (z+c) (z+na)).size=na - c:=by rw [← Array.length_toList,ex];simp;omega
   have sy:((arrOf st).extract (z+na) (z+na+m)).size=m:=by rw [← Array.length_toList,ey];simp;omega
   generalize (arrOf st).extract (z+c) (z+na)=x at ex sx ⊢
   generalize (arrOf st).extract (z+na) (z+na+m)=y at ey sy ⊢
   have ga:∀ t∈x.toList,Gd κ t:=fun t ht=>gA t (by rw [ex] at ht;exact List.mem_of_mem_drop ht)
   have gb:∀ t∈y.toList,Gd κ t:=fun t ht=>gB t (by rw [ey] at ht;exact List.mem_of_mem_take ht)
   have sx':Srt κ x.toList:=by rw [ex];exact sA.drop c
   have sy':Srt κ y.toList:=by rw [ey];exact sB.take m
   have y0:y.toList[0]? = some b0:=by rw [ey,List.getElem?_take_of_lt (by omega)];exact eb0
   have xn:x.toList[x.size - 1]? = some al:=by
    rw [ex,List.getElem?_drop,sx,show c+(na - c - 1)=Aa.length - 1 by omega]
    exact eal
   have fin:∀ (r:Array Keyed) (st2:SortSt),Ok kd st' st2→Mg κ x.toList y.toList r.toList→wpS (model prog w) A E s (do
     modify fun v=>setArr v (r.toList.zipIdx.foldl (fun a (p,j)=>a.setIfInBounds (z+c+j) p) (arrOf v))
     return (failedOf (← get)).isNone:StateT SortSt Sem Bool) Q st2:=fun r st2 ok M=>by
    rw [ex,ey] at M
    have lr:r.toList.length=(Aa.drop c++B.take m).length:=M.1.length_eq
    refine wpS_bind (wpS_modify ?_)
    refine wpS_bind (wpS_get ?_)
    refine wpS_pure ?_
    have hf:failedOf (setArr st2 (r.toList.zipIdx.foldl (fun a (p,j)=>a.setIfInBounds (z+c+j) p) (arrOf st2)))=none:=ok.tb.failed
    rw [hf]
    refine h _ (Aa.take c++(r.toList++B.drop m)) ⟨ok.tb.kind,ok.tb.failed⟩ (ok.pd.trans hp') ?_ (mg_mid sA sB eb0 eal k1 k4 M)
    show (r.toList.zipIdx.foldl (fun a (p,j)=>a.setIfInBounds (z+c+j) p) (arrOf st2)).toList=_
    rw [put_all r.toList (z+c) 0 (arrOf st2) (P++Aa.take c) (Aa.drop c++B.take m) (B.drop m++S) (by
     rw [ok.ar,har,ea]
     conv=>lhs;rw [← List.take_append_drop c Aa,← List.take_append_drop m B]
     simp only [List.append_assoc]) (by simp;omega) lr.symm]
    simp only [List.append_assoc]
   by_cases hle:na - c≤m
   ·refine wpS_ifT hle ?_
    refine wpS_bind (wpS_mlo hO hB' ga gb sx' sy' (by omega) (by omega) (fun p q hp hq=>?_) (fun t ht=>?_) fun r st2 ok M=>fin r st2 ok M)
    ·rw [y0] at hq
     cases hq
     rw [ex] at hp
     exact k2 _ (List.mem_singleton.mpr rfl) _ (List.mem_of_getElem? hp)
    ·rw [xn] at ht
     cases ht
     rw [ey]
     exact k3
   ·refine wpS_ifF hle ?_
    refine wpS_bind (wpS_mhi hO hB' ⟨ga,gb,sx',sy',fun t ht=>?_⟩ (by omega) (by omega) (fun t ht=>?_) fun r st2 ok M=>fin r st2 ok M)
    ·rw [y0] at ht
     cases ht
     rw [ex]
     exact k2
    ·rw [xn] at ht
     cases ht
     rw [ey]
     exact k3
end
end Tv
namespace Tv
open PySem PyProof.Rows
variable {κ:KeyKind} {kd:SortKind}
noncomputable def PdL (κ:KeyKind):Nat→List (Nat × Nat × Nat)→List (List Keyed)→Prop
 | _,[],[]=>True
 | z,p::ps,r::rs=>p.1=z∧p.2.1=r.length∧0 < r.length∧Srt κ r∧PdL κ (z+r.length) ps rs
 | _,_,_=>False
theorem PdL.app:∀ {p q:List (Nat × Nat × Nat)} {z:Nat} {rs:List (List Keyed)},PdL κ z (p++q) rs→∃ r1 r2,rs=r1++r2∧r1.length=p.length∧PdL κ z p r1∧PdL κ (z+r1.flatten.length) q r2
 | [],q,z,rs,h=>⟨[],rs,rfl,rfl,trivial,h⟩
 | _::_,q,z,[],h=>h.elim
 | _::p,q,z,r::rs,h=>by
  obtain ⟨a1,a2,a3,a4,a5⟩:=h
  obtain ⟨r1,r2,e,l,b1,b2⟩:=PdL.app a5
  refine ⟨r::r1,r2,by rw [e];rfl,by simp [l],⟨a1,a2,a3,a4,b1⟩,?_⟩
  rw [List.flatten_cons,List.length_append,← Nat.add_assoc]
  exact b2
theorem PdL.join:∀ {p q:List (Nat × Nat × Nat)} {z:Nat} {r1 r2:List (List Keyed)},PdL κ z p r1→PdL κ (z+r1.flatten.length) q r2→PdL κ z (p++q) (r1++r2)
 | [],q,z,[],r2,_,h=>h
 | [],q,z,_::_,r2,h,_=>h.elim
 | _::_,q,z,[],r2,h,_=>h.elim
 | _::p,q,z,r::r1,r2,h,g=>by
  obtain ⟨a1,a2,a3,a4,a5⟩:=h
  rw [List.flatten_cons,List.length_append,← Nat.add_assoc] at g
  exact ⟨a1,a2,a3,a4,PdL.join a5 g⟩
theorem PdL.len:∀ {p:List (Nat × Nat × Nat)} {z:Nat} {rs:List (List Keyed)},PdL κ z p rs→p.length≤rs.flatten.length
 | [],z,[],_=>Nat.zero_le _
 | [],z,_::_,h=>h.elim
 | _::_,z,[],h=>h.elim
 | _::p,z,r::rs,h=>by
  obtain ⟨a1,a2,a3,a4,a5⟩:=h
  have:=PdL.len a5
  rw [List.flatten_cons,List.length_append,List.length_cons]
  omega
theorem PdL.same:∀ {p q:List (Nat × Nat × Nat)} {z:Nat} {rs:List (List Keyed)},PdL κ z p rs→q.map (fun t=>(t.1,t.2.1))=p.map (fun t=>(t.1,t.2.1))→PdL κ z q rs
 | [],[],z,rs,h,_=>h
 | [],_::_,z,rs,_,e=>by simp at e
 | _::_,[],z,rs,_,e=>by simp at e
 | _::_,_::_,z,[],h,_=>h.elim
 | x::p,y::q,z,r::rs,h,e=>by
  obtain ⟨a1,a2,a3,a4,a5⟩:=h
  simp only [List.map_cons,List.cons.injEq,Prod.mk.injEq] at e
  exact ⟨e.1.1.trans a1,e.1.2.trans a2,a3,a4,PdL.same a5 e.2⟩
theorem map_mod {f:Nat × Nat × Nat→Nat × Nat × Nat}(hf:∀ t,(f t).1=t.1∧(f t).2.1=t.2.1):∀ (l:List (Nat × Nat × Nat)) (i:Nat),(l.modify i f).map (fun t=>(t.1,t.2.1))=l.map (fun t=>(t.1,t.2.1))
 | [],i=>by cases i <;> rfl
 | x::l,0=>by
  show ((f x).1,(f x).2.1)::_=_
  rw [(hf x).1,(hf x).2]
  rfl
 | x::l,i+1=>by
  show (x.1,x.2.1)::(l.modify i f).map _=_
  rw [map_mod hf l i]
  rfl
theorem kk_kof {xs:Array Keyed}{i:Nat}{x:Keyed}(h:xs.toList[i]? = some x):KK κ xs i=kof κ x:=by
 rw [Array.getElem?_toList] at h
 unfold KK kof
 rw [h]
structure Iv (kd:SortKind) (κ:KeyKind) (a0:Array Keyed) (st:SortSt) (lo:Nat):Prop where
 tb:TB kd st
 pm:(arrOf st).Perm a0
 ex:∃ rs T,(arrOf st).toList=rs.flatten++T∧rs.flatten.length=lo∧PdL κ 0 (pendingOf st).toList rs
theorem Iv.gd {a0:Array Keyed}{st:SortSt}{lo:Nat}(I:Iv kd κ a0 st lo)(h0:KeysOf κ a0):∀ x∈(arrOf st).toList,Gd κ x:=fun x hx=>h0 x ((Array.perm_iff_toList_perm.mp I.pm).mem_iff.mp hx)
theorem Iv.part {a0:Array Keyed}{st st':SortSt}{lo hi:Nat}(I:Iv kd κ a0 st lo)(R:Rs kd κ lo hi st st'):Iv kd κ a0 st' lo:=by
 obtain ⟨rs,T,e,l,p⟩:=I.ex
 refine ⟨R.tb,R.rp.pm.trans I.pm,rs,(arrOf st').toList.drop lo,?_,l,by rw [R.pd];exact p⟩
 have:(arrOf st').toList.take lo=rs.flatten:=by
  have e2:(arrOf st).toList.take lo=rs.flatten:=by rw [e,← l,List.take_left]
  rw [← e2]
  apply List.ext_getElem?
  intro k
  by_cases hk:k < lo
  ·rw [List.getElem?_take_of_lt hk,List.getElem?_take_of_lt hk,Array.getElem?_toList,Array.getElem?_toList,R.rp.out k (.inl hk)]
  ·rw [List.getElem?_eq_none (by rw [List.length_take];omega),List.getElem?_eq_none (by rw [List.length_take];omega)]
 rw [← this,List.take_append_drop]
theorem Iv.mod {a0:Array Keyed}{st:SortSt}{lo i:Nat}(I:Iv kd κ a0 st lo){f:Nat × Nat × Nat→Nat × Nat × Nat}(hf:∀ t,(f t).1=t.1∧(f t).2.1=t.2.1):Iv kd κ a0 (setPending st ((pendingOf st).modify i f)) lo:=by
 obtain ⟨rs,T,e,l,p⟩:=I.ex
 refine ⟨⟨I.tb.kind,I.tb.failed⟩,I.pm,rs,T,e,l,?_⟩
 show PdL κ 0 ((pendingOf st).modify i f).toList rs
 rw [Array.toList_modify]
 exact p.same (map_mod hf _ _)
theorem Iv.push {a0:Array Keyed}{st:SortSt}{lo n w:Nat}(I:Iv kd κ a0 st lo)(hn:0 < n)(hz:lo+n≤(arrOf st).size)(hs:SrI κ (arrOf st) lo (lo+n)):Iv kd κ a0 (setPending st ((pendingOf st).push (lo,n,w))) (lo+n):=by
 obtain ⟨rs,T,e,l,p⟩:=I.ex
 have lT:lo+T.length=(arrOf st).size:=by rw [← Array.length_toList,e,List.length_append,l]
 have ln:(T.take n).length=n:=by rw [List.length_take];omega
 have at_:∀ i x,T[i]? = some x→KK κ (arrOf st) (lo+i)=kof κ x:=fun i x hx=>kk_kof (by rw [e,List.getElem?_append_right (by omega),← l,Nat.add_sub_cancel_left];exact hx)
 refine ⟨⟨I.tb.kind,I.tb.failed⟩,I.pm,rs++[T.take n],T.drop n,?_,?_,?_⟩
 ·show (arrOf st).toList=_
  rw [e,List.flatten_append,List.flatten_singleton,List.append_assoc,List.take_append_drop]
 ·rw [List.flatten_append,List.flatten_singleton,List.length_append,l,ln]
 ·show PdL κ 0 ((pendingOf st).push (lo,n,w)).toList _
  rw [Array.toList_push]
  refine PdL.join p ⟨by rw [l];omega,ln.symm,by omega,?_,trivial⟩
  refine List.pairwise_iff_getElem.mpr fun i j hi hj hij=>?_
  rw [List.length_take] at hi hj
  rw [List.getElem_take,List.getElem_take]
  have:=hs (lo+i) (lo+j) (by omega) (by omega) (by omega)
  rw [at_ i _ (List.getElem?_eq_getElem (by omega)),at_ j _ (List.getElem?_eq_getElem (by omega))] at this
  exact this
theorem two_at {l:List (Nat × Nat × Nat)}{i:Nat}(h:i+1 < l.length):∃ p x y q,l=p++x::y::q∧p.length=i:=by
 refine ⟨l.take i,l[i],l[i+1],l.drop (i+2),?_,by rw [List.length_take];omega⟩
 conv=>lhs;rw [← List.take_append_drop i l]
 rw [List.drop_eq_getElem_cons (by omega),List.drop_eq_getElem_cons h]
section
variable {prog:Program} {w:World} {A:Around} {E:Value→Shared→Prop} {s:Shared}
theorem wpS_merge {a0:Array Keyed}{st:SortSt}{lo i:Nat}{Q:Bool→SortSt→Prop}(hO:Lt1 κ prog w A s kd)(h0:KeysOf κ a0)(I:Iv kd κ a0 st lo)(hi:i+1 < (pendingOf st).size)
  (h:∀ st',Iv kd κ a0 st' lo→(pendingOf st').size+1=(pendingOf st).size→(∀ k,lo≤k→(arrOf st')[k]? = (arrOf st)[k]?)→Q true st'):wpS (model prog w) A E s (mergeAt' i) Q st:=by
 obtain ⟨rs,T,e,l,p⟩:=I.ex
 obtain ⟨p1,x,y,p2,ep,lp⟩:=two_at (l:=(pendingOf st).toList) (i:=i) (by rw [Array.length_toList];exact hi)
 rw [ep] at p
 obtain ⟨r1,r2,er,_,P1,P2⟩:=p.app
 match r2,P2,er with
 | A1::B1::r2,P2,er =>
  obtain ⟨x1,x2,x3,x4,y1,y2,y3,y4,P3⟩:=P2
  obtain ⟨xa,xb,xc⟩:=x
  obtain ⟨ya,yb,yc⟩:=y
  dsimp only at x1 x2 y1 y2
  subst er
  have ea:(arrOf st).toList=r1.flatten++(A1++(B1++(r2.flatten++T))):=by
   rw [e]
   simp only [List.flatten_append,List.flatten_cons,List.append_assoc]
  have e1:(pendingOf st)[i]? = some (r1.flatten.length,A1.length,xc):=by
   rw [← Array.getElem?_toList,ep,List.getElem?_append_right (by omega),lp,Nat.sub_self,x1,x2,Nat.zero_add]
   rfl
  have e2:(pendingOf st)[i+1]? = some (r1.flatten.length+A1.length,B1.length,yc):=by
   rw [← Array.getElem?_toList,ep,List.getElem?_append_right (by omega),lp,Nat.add_sub_cancel_left,y1,y2,Nat.zero_add]
   rfl
  refine wpS_mat hO I.tb (I.gd h0) e1 e2 ea rfl rfl rfl x3 y3 x4 y4 fun st' R t1 t2 t3 M=>?_
  have lR:R.length=A1.length+B1.length:=by rw [M.1.length_eq,List.length_append]
  have ep':(pendingOf st').toList=p1++(r1.flatten.length,A1.length+B1.length,xc)::p2:=by
   rw [t2,Array.toList_eraseIdxIfInBounds,Array.toList_setIfInBounds,ep,List.set_append_right _ _ (by omega),List.eraseIdx_append_of_length_le (by omega),lp,Nat.sub_self,Nat.add_sub_cancel_left]
   rfl
  have eT:(arrOf st').toList=(r1++R::r2).flatten++T:=by
   rw [t3]
   simp only [List.flatten_append,List.flatten_cons,List.append_assoc]
  have lT:(r1++R::r2).flatten.length=lo:=by
   rw [← l]
   simp only [List.flatten_append,List.flatten_cons,List.length_append,lR]
   omega
  refine h st' ⟨t1,?_,r1++R::r2,T,eT,lT,?_⟩ ?_ fun k hk=>?_
  ·refine Array.Perm.trans (Array.perm_iff_toList_perm.mpr ?_) I.pm
   rw [t3,ea,← List.append_assoc A1]
   exact List.Perm.append_left _ (M.1.append_right _)
  ·rw [ep']
   refine PdL.join P1 ⟨by omega,lR.symm,by omega,M.2,?_⟩
   rw [lR,← Nat.add_assoc]
   exact P3
  ·rw [← Array.length_toList,← Array.length_toList,ep',ep]
   simp only [List.length_append,List.length_cons]
   omega
  ·rw [← Array.getElem?_toList,← Array.getElem?_toList,eT,e,List.getElem?_append_right (by omega),List.getElem?_append_right (by omega),lT,l]
theorem Iv.done {a0:Array Keyed}{st:SortSt}(I:Iv kd κ a0 st a0.size)(h:(pendingOf st).size≤1):SortedToK κ (arrOf st) a0.size:=by
 obtain ⟨rs,T,e,l,p⟩:=I.ex
 have hz:(arrOf st).toList.length=a0.size:=by rw [Array.length_toList];exact I.pm.size_eq
 have hT:T=[]:=List.length_eq_zero_iff.mp (by rw [e,List.length_append,l] at hz;omega)
 subst hT
 rw [List.append_nil] at e
 rw [← Array.length_toList] at h
 have sr:Srt κ (arrOf st).toList:=by
  rw [e]
  match (pendingOf st).toList,rs,p,h with
  | [],[],_,_=>exact List.Pairwise.nil
  | [_],[r],p,_=>rw [List.flatten_singleton];exact p.2.2.2.1
  | _::_::_,_,_,h=>simp at h
 intro i j hij hj
 have e1:=List.getElem?_eq_getElem (l:=(arrOf st).toList) (i:=i) (by omega)
 have e2:=List.getElem?_eq_getElem (l:=(arrOf st).toList) (i:=j) (by omega)
 rw [kk_kof e1,kk_kof e2]
 exact sr.at hij e1 e2
structure SB (kd:SortKind) (a0:Array Keyed) (st:SortSt):Prop where
 perm:(arrOf st).Perm a0
 kind:kindOf st=kd
 failed:failedOf st=none
 pend:pendingOf st=#[]
theorem wpS_runs {a0:Array Keyed}{st:SortSt}{Q:Unit→SortSt→Prop}(hO:Lt1 κ prog w A s kd)(h0:KeysOf κ a0)(hB:SB kd a0 st)
  (h:∀ st',(arrOf st').Perm a0→failedOf st'=none→SortedToK κ (arrOf st') a0.size→Q () st'):wpS (model prog w) A E s sortRuns' Q st:=by
 rw [sortRuns'_eq]
 refine wpS_bind (wpS_get ?_)
 dsimp only
 simp only [hB.perm.size_eq]
 refine wpS_bind (wpS_mono (wpS_forRange
  (I:=fun x c st'=>∃ lo,c=(none,lo)∧x≤lo∧lo≤a0.size∧Iv kd κ a0 st' lo)
  (Q:=fun c st'=>c=(none,a0.size)∧Iv kd κ a0 st' a0.size) ?step ?fin ⟨0,rfl,Nat.le_refl _,Nat.zero_le _,⟨hB.kind,hB.failed⟩,hB.perm,[],(arrOf st).toList,rfl,rfl,by rw [hB.pend];exact trivial⟩) ?post)
 case fin =>
  rintro c st' ⟨lo,rfl,h1,h2,I⟩
  have:lo=a0.size:=by omega
  subst this
  exact ⟨rfl,I⟩
 case step =>
  rintro x c st' hx1 hx2 ⟨lo,rfl,h1,h2,I⟩
  have hz:(arrOf st').size=a0.size:=I.pm.size_eq
  dsimp only
  by_cases hge:lo≥a0.size
  ·refine wpS_ifT hge ?_
   have:lo=a0.size:=by omega
   subst this
   exact wpS_pure ⟨rfl,I⟩
  ·refine wpS_ifF hge ?_
   refine wpS_bind (wpS_crun hO I.tb (I.gd h0) (by omega) (by omega) fun n st2 n1 n2 R s2=>?_)
   have I2:=I.part R
   have hz2:(arrOf st2).size=a0.size:=I2.pm.size_eq
   dsimp only
   by_cases hm:n < minRun' a0.size a0.size 0
   ·refine wpS_ifT hm ?_
    refine wpS_bind (wpS_lift (wpAny_rule ⟨rfl,?_⟩))
    refine wpS_bind (wpS_bins hO I2.tb (I2.gd h0) (by omega) (by omega) s2 fun st3 R3 s3=>?_)
    simp only [Bool.not_true,Bool.false_eq_true,if_false]
    have M1:1≤(min (a0.size - lo) (minRun' a0.size a0.size 0)):=by omega
    have M2:lo+(min (a0.size - lo) (minRun' a0.size a0.size 0))≤a0.size:=by omega
    have IX:=I2.part R3
    have S3:=s3
    refine wpS_bind (wpS_get ?_)
    cases (pendingOf st3).back? with
    | none=>exact wpS_bind (wpS_modify (wpS_pure ⟨lo+(min (a0.size - lo) (minRun' a0.size a0.size 0)),rfl,by omega,M2,IX.push M1 (by rw [IX.pm.size_eq];exact M2) S3⟩))
    | some t =>
     obtain ⟨a,b,c⟩:=t
     dsimp only
     refine wpS_bind (wpS_mono (wpS_forRange (I:=fun _ c st3'=>c=(none,())∧Iv kd κ a0 st3' lo∧∀ k,lo≤k→(arrOf st3')[k]? = (arrOf st3)[k]?)
      (Q:=fun c st3'=>c=(none,())∧Iv kd κ a0 st3' lo∧∀ k,lo≤k→(arrOf st3')[k]? = (arrOf st3)[k]?) ?step1 (fun _ _ h=>h) ⟨rfl,IX,fun _ _=>rfl⟩) ?post1)
     case step1 =>
      rintro y c st3' _ _ ⟨rfl,Iw,kw⟩
      refine wpS_bind (wpS_get ?_)
      by_cases hz:(pendingOf st3').size > 1
      ·rw [if_pos hz]
       cases e:(pendingOf st3')[(pendingOf st3').size - 2]? with
       | none=>exact wpS_pure ⟨rfl,Iw,kw⟩
       | some t =>
        obtain ⟨a',b',c'⟩:=t
        dsimp only
        by_cases hp:c'≤power' a0.size (2*a+b) (2*a+b+b+(min (a0.size - lo) (minRun' a0.size a0.size 0))) a0.size
        ·refine wpS_ifT hp ?_
         exact wpS_pure ⟨rfl,Iw,kw⟩
        ·refine wpS_ifF hp ?_
         refine wpS_bind (wpS_merge hO h0 Iw (by omega) fun stq Iq _ k2=>?_)
         simp only [Bool.not_true,Bool.false_eq_true,if_false]
         exact wpS_pure ⟨rfl,Iq,fun k hk=>(k2 k hk).trans (kw k hk)⟩
      ·rw [if_neg hz]
       exact wpS_pure ⟨rfl,Iw,kw⟩
     case post1 =>
      rintro c st3' ⟨rfl,Iw,kw⟩
      dsimp only
      refine wpS_bind (wpS_modify ?_)
      have J2:=Iw.mod (i:=(pendingOf st3').size - 1) (f:=fun t=>(t.1,t.2.1,power' a0.size (2*a+b) (2*a+b+b+(min (a0.size - lo) (minRun' a0.size a0.size 0))) a0.size)) fun t=>⟨rfl,rfl⟩
      refine wpS_bind (wpS_modify (wpS_pure ⟨lo+(min (a0.size - lo) (minRun' a0.size a0.size 0)),rfl,by omega,M2,J2.push M1 (by rw [J2.pm.size_eq];exact M2) fun i j hi hij hj=>?_⟩))
      show κ.kle (KK κ (arrOf st3') i) (KK κ (arrOf st3') j)
      rw [KK_congr (kw i (by omega)),KK_congr (kw j (by omega))]
      exact S3 i j hi hij hj
   ·refine wpS_ifF hm ?_
    have M1:1≤n:=by omega
    have M2:lo+n≤a0.size:=by omega
    have IX:=I2
    have S3:=s2
    refine wpS_bind (wpS_get ?_)
    cases (pendingOf st2).back? with
    | none=>exact wpS_bind (wpS_modify (wpS_pure ⟨lo+n,rfl,by omega,M2,IX.push M1 (by rw [IX.pm.size_eq];exact M2) S3⟩))
    | some t =>
     obtain ⟨a,b,c⟩:=t
     dsimp only
     refine wpS_bind (wpS_mono (wpS_forRange (I:=fun _ c st2'=>c=(none,())∧Iv kd κ a0 st2' lo∧∀ k,lo≤k→(arrOf st2')[k]? = (arrOf st2)[k]?)
      (Q:=fun c st2'=>c=(none,())∧Iv kd κ a0 st2' lo∧∀ k,lo≤k→(arrOf st2')[k]? = (arrOf st2)[k]?) ?step2 (fun _ _ h=>h) ⟨rfl,IX,fun _ _=>rfl⟩) ?post2)
     case step2 =>
      rintro y c st2' _ _ ⟨rfl,Iw,kw⟩
      refine wpS_bind (wpS_get ?_)
      by_cases hz:(pendingOf st2').size > 1
      ·rw [if_pos hz]
       cases e:(pendingOf st2')[(pendingOf st2').size - 2]? with
       | none=>exact wpS_pure ⟨rfl,Iw,kw⟩
       | some t =>
        obtain ⟨a',b',c'⟩:=t
        dsimp only
        by_cases hp:c'≤power' a0.size (2*a+b) (2*a+b+b+n) a0.size
        ·refine wpS_ifT hp ?_
         exact wpS_pure ⟨rfl,Iw,kw⟩
        ·refine wpS_ifF hp ?_
         refine wpS_bind (wpS_merge hO h0 Iw (by omega) fun stq Iq _ k2=>?_)
         simp only [Bool.not_true,Bool.false_eq_true,if_false]
         exact wpS_pure ⟨rfl,Iq,fun k hk=>(k2 k hk).trans (kw k hk)⟩
      ·rw [if_neg hz]
       exact wpS_pure ⟨rfl,Iw,kw⟩
     case post2 =>
      rintro c st2' ⟨rfl,Iw,kw⟩
      dsimp only
      refine wpS_bind (wpS_modify ?_)
      have J2:=Iw.mod (i:=(pendingOf st2').size - 1) (f:=fun t=>(t.1,t.2.1,power' a0.size (2*a+b) (2*a+b+b+n) a0.size)) fun t=>⟨rfl,rfl⟩
      refine wpS_bind (wpS_modify (wpS_pure ⟨lo+n,rfl,by omega,M2,J2.push M1 (by rw [J2.pm.size_eq];exact M2) fun i j hi hij hj=>?_⟩))
      show κ.kle (KK κ (arrOf st2') i) (KK κ (arrOf st2') j)
      rw [KK_congr (kw i (by omega)),KK_congr (kw j (by omega))]
      exact S3 i j hi hij hj
 case post =>
  rintro c st' ⟨rfl,I⟩
  dsimp only
  refine wpS_bind (wpS_mono (wpS_forRange (I:=fun x c st''=>c=(none,())∧Iv kd κ a0 st'' a0.size∧((pendingOf st'').size+x≤a0.size ∨ (pendingOf st'').size≤1))
   (Q:=fun c st''=>c=(none,())∧Iv kd κ a0 st'' a0.size∧(pendingOf st'').size≤1) ?_ ?_ ⟨rfl,I,?_⟩) ?_)
  ·rintro x c st'' _ hx ⟨rfl,I',hp⟩
   refine wpS_bind (wpS_get ?_)
   by_cases h1:(pendingOf st'').size≤1
   ·refine wpS_ifT h1 ?_
    exact wpS_pure ⟨rfl,I',h1⟩
   ·refine wpS_ifF h1 ?_
    refine wpS_bind (wpS_merge hO h0 I' (have pick:∀ (b:Bool) (n:Nat),1 < n→(if b=true then n - 2 - 1 else n - 2)+1 < n:=(fun b n hn=>by cases b <;> simp <;> omega);pick _ _ (by omega)) fun st2 I2 z2 _=>?_)
    simp only [Bool.not_true,Bool.false_eq_true,if_false]
    exact wpS_pure ⟨rfl,I2,.inl (by omega)⟩
  ·rintro c st'' ⟨rfl,I',hp⟩
   exact ⟨rfl,I',by omega⟩
  ·obtain ⟨rs,T,e,l,p⟩:=I.ex
   have:=p.len
   rw [Array.length_toList,l] at this
   exact .inl (by omega)
  ·rintro c st'' ⟨rfl,I',hp⟩
   exact wpS_pure (h st'' I'.pm I'.tb.failed (I'.done hp))
end
end Tv
namespace Tv
open PySem PyProof.Rows
variable {κ:KeyKind} {kd:SortKind}
section
variable {prog:Program} {w:World} {A:Around} {E:Value→Shared→Prop} {s:Shared}
theorem sort_any {a:Addr}{its:List Value}{m:Nat}{P:Fin→Shared→Prop}(at_:s.heap.get? a=some (seqObj "list" its.toArray m))(g:KeysOf κ (pairsOf its))
  (hO:Lt1 κ prog w A { s with heap:=((s.heap.update a (Obj.mapSeq fun _=>#[])).push (seqObj "tuple" its.toArray 0)).push (seqObj "list" #[] 0) } kd) (one:∀ x y r,its=x::y::r→∀ (Q:SortKind→Shared→Prop),Q kd { s with heap:=((s.heap.update a (Obj.mapSeq fun _=>#[])).push (seqObj "tuple" its.toArray 0)).push (seqObj "list" #[] 0) }→wpAny (model prog w) A (keyKind' (x::y::r).toArray) Q E { s with heap:=((s.heap.update a (Obj.mapSeq fun _=>#[])).push (seqObj "tuple" its.toArray 0)).push (seqObj "list" #[] 0) }) (lim:its.length≤sizeLine)
  (q:∀ st:SortSt,(arrOf st).Perm (pairsOf its)→SortedToK κ (arrOf st) (pairsOf its).size→P (.done (.ret .none)) { s with heap:=sortedHeap s.heap a its ((arrOf st).map (·.2)) }) :
  wpAny (model prog w) A (Builtin.«list.sort» ⟨[.ref a],[]⟩) P E s:=by
 have la:=Heap.lt_size at_
 have lz:its.toArray.size=its.length:=by simp
 rw [list_sort_plain]
 refine wpAny_bind (listItems_at at_ rfl (wpAny_bind (listUpdate_at at_ rfl ?_ (by rw [lz];exact lim))))
 obtain ⟨n1,at1⟩:∃ n1,(s.heap.update a (Obj.mapSeq fun _=>#[])).get? a=some (seqObj "list" #[] n1):=⟨_,get?_update_seq at_ fun _=>#[]⟩
 refine wpAny_bind (seqEpoch_at at1 rfl (wpAny_bind (wpAny_newTuple (wpAny_bind (wpAny_newList (wpAny_holding ?_))))))
 have at2:(((s.heap.update a (Obj.mapSeq fun _=>#[])).push (seqObj "tuple" its.toArray 0)).push (seqObj "list" #[] 0)).get? a=some (seqObj "list" #[] n1) :=
  Heap.get?_push_of_some _ (Heap.get?_push_of_some _ at1)
 show wpAny (model prog w) A _ P E { s with heap:=((s.heap.update a (Obj.mapSeq fun _=>#[])).push (seqObj "tuple" its.toArray 0)).push (seqObj "list" #[] 0) }
 dsimp only
 by_cases two:its.toArray.size < 2
 ·rw [if_pos two,if_pos two]
  refine wpAny_bind (wpAny_pure ?_)
  rw [StateT.run_pure]
  refine wpAny_bind (wpAny_pure ?_)
  dsimp only
  have zz:((its.toArray.zip its.toArray).map (·.2)).size≤sizeLine+1:=by
   rw [Array.size_map]
   show (pairsOf its).size≤_
   rw [pairsOf_size]
   omega
  refine wpAny_bind (seqEpoch_at at2 rfl (wpAny_bind (listUpdate_at at2 rfl ?_ (hsz2:=zz))))
  simp only [bne_self_eq_false,Bool.false_eq_true,if_false]
  refine wpAny_pure (q (SortSt.mk' general' (its.toArray.zip its.toArray) #[] 7 none) (Array.Perm.refl _) fun i j hij hj=>?_)
  rw [pairsOf_size] at hj
  have:i=j:=by omega
  subst this
  exact KeyOrd.kle_refl _
 ·rw [if_neg two,if_neg two]
  obtain ⟨x,y,r,rfl⟩:∃ x y r,its=x::y::r:=by
   match its,lz,two with
   | [],_,t=>exact absurd (by simp) t
   | [_],_,t=>exact absurd (by simp) t
   | x::y::r,_,_=>exact ⟨x,y,r,rfl⟩
  refine wpAny_bind (one _ _ _ rfl _ (wpAny_bind (wpAny_mono (wpS_runs (κ:=κ) hO (a0:=pairsOf (x::y::r)) (st:=SortSt.mk' kd ((x::y::r).toArray.zip (x::y::r).toArray) #[] 7 none)
   (Q:=fun _ st=>(arrOf st).Perm (pairsOf (x::y::r))∧failedOf st=none∧SortedToK κ (arrOf st) (pairsOf (x::y::r)).size) g ⟨Array.Perm.refl _,rfl,rfl,rfl⟩ fun st c1 c2 c3=>⟨c1,c2,c3⟩) ?_ fun _ _ e=>e)))
  rintro ⟨⟨⟩,st⟩ s2 ⟨rfl,c1,c2,c3⟩
  dsimp only
  have zz:((arrOf st).map (·.2)).size≤sizeLine+1:=by
   rw [Array.size_map,c1.size_eq,pairsOf_size]
   omega
  refine wpAny_bind (seqEpoch_at at2 rfl (wpAny_bind (listUpdate_at at2 rfl ?_ (hsz2:=zz))))
  rw [c2]
  simp only [bne_self_eq_false,Bool.false_eq_true,if_false]
  exact wpAny_pure (q st c1 c3)
end
end Tv
namespace Ts
open PySem PyProof.Rows
section
variable {κ:KeyKind} {prog:Program} {w:World} {A:Around} {E:Value→Shared→Prop} {s:Shared}
end
end Ts
namespace Ts
open PySem PyProof.Rows
noncomputable def iOf:Value→Int
 | .int x _=>x
 | _=>0
theorem ints_map:∀ (vs:List Value),(∀ v,v∈vs→∃ x t,v = .int x t)→IntsAre vs (vs.map iOf)
 | [],_=>.nil
 | v::vs,h=>by
  obtain ⟨x,t,rfl⟩:=h v (List.mem_cons_self ..)
  exact .cons x t (ints_map vs fun u hu=>h u (List.mem_cons_of_mem _ hu))
end Ts
namespace L2
open PySem PySem.Spec PyProof.Rows Wd Ts
section
variable {prog:Program} {w:World} {A:Around} {E:Value→Shared→Prop} {s:Shared}
theorem collect_tup {l:Addr}{vs:List Value}{Q:List Value→Shared→Prop}(hl:s.heap.IsTuple l vs.toArray)
  (h:Q vs { s with heap:=(s.heap.push (seqObj "list" #[] 0)).update s.heap.objs.size (Obj.mapSeq (· ++ vs.toArray)) }) (hsz:vs.length≤sizeLine:=by size_fits) :
  wpAny (model prog w) A (collect (.ref l)) Q E s:=by
 obtain ⟨o,ho,hc,n,hd⟩:=id hl
 unfold collect
 refine wpAny_bind (wpAny_runValue (codeAny_builtin entry_proto_collect' ?_))
 show wpAny _ _ (do again (.builtin "list.__iadd__" ⟨[← newList [],.ref l],[]⟩)) _ _ s
 refine wpAny_bind (wpAny_newList (wpAny_pure ⟨Code.quiet_builtin _ (by decide +kernel),codeAny_builtin entry_list_iadd' ?_⟩))
 show wpAny _ _ (Builtin.List.listExtendWith (.ref s.heap.objs.size) (.ref l) (.ref s.heap.objs.size)) _ _ { s with heap:=s.heap.push (seqObj "list" #[] 0) }
 unfold Builtin.List.listExtendWith
 have ho':(s.heap.push (seqObj "list" #[] 0)).get? l=some o:=Heap.get?_push_of_some _ ho
 refine wpAny_bind (wpAny_typeOf (T:="tuple") ⟨o,ho',hc⟩ ?_)
 have ht:(Value.type "tuple" == Value.type "tuple")=true:=by rfl
 rw [if_pos (by rw [ht];simp)]
 refine wpAny_bind (listItems_at ho' hd ?_)
 refine wpAny_bind (listItems_at (xs:=#[]) (n:=0) (Heap.get?_push_size _ rfl) rfl ?_)
 rw [if_neg (by simp)]
 refine wpAny_bind (listUpdate_at (xs:=#[]) (n:=0) (Heap.get?_push_size _ rfl) rfl ?_ (Nat.zero_le _) (by show (#[]++vs.toArray).size≤sizeLine+1;simp only [Array.size_append,List.size_toArray,List.length_nil];omega))
 refine wpAny_pure ?_
 show wpAny (model prog w) A (do
   let o ← load s.heap.objs.size
   match o.data with
   | .seq xs _=>pure xs.toList
   | _=>unsupported "internal:collect") Q E { s with heap:=(s.heap.push (seqObj "list" #[] 0)).update s.heap.objs.size (Obj.mapSeq (· ++ vs.toArray)) }
 refine wpAny_bind (wpAny_load (get?_update_seq (Heap.get?_push_size _ rfl) _) ?_)
 show wpAny _ _ (pure ((#[]:Array Value)++vs.toArray).toList) Q E _
 rw [show ((#[]:Array Value)++vs.toArray).toList=vs by simp]
 exact wpAny_pure h
end
section
variable {X:Cx}
end
end L2
namespace Tv
open PySem PyProof.Rows
noncomputable def Pq (h:Heap)(v:Value)(i j:Int):Prop:=∃ (a:Addr) (o:Obj) (t u:Tok) (n:Nat),v = .ref a∧h.get? a=some o∧o.cls = .type "tuple"∧o.data = .seq #[.int i t,.int j u] n
inductive Kn where
 | i
 | s
 | p
noncomputable def Kn.R:Kn→Heap→Value→List Int→Prop
 | .i,_,v,a=>∃ i t,v = .int i t∧a=[i]
 | .s,_,v,a=>∃ (x:Str) (t:Tok),v = .str x t∧a=x.cps.toList.map Int.ofNat
 | .p,h,v,a=>∃ i j,Pq h v i j∧a=[i,j]
theorem ofNat_inj {x y:List Nat}(h:x.map Int.ofNat=y.map Int.ofNat):x=y:=(List.map_inj_right (fun _ _ e=>Int.ofNat.inj e)).mp h
theorem Kn.one {k:Kn}{h:Heap}{v:Value}{a b:List Int}(x:k.R h v a)(y:k.R h v b):a=b:=by
 cases k with
 | i =>
  obtain ⟨i,t,rfl,rfl⟩:=x
  obtain ⟨j,u,e,rfl⟩:=y
  cases e
  rfl
 | s =>
  obtain ⟨i,t,rfl,rfl⟩:=x
  obtain ⟨j,u,e,rfl⟩:=y
  cases e
  rfl
 | p =>
  obtain ⟨i,j,⟨c,o,t,u,n,rfl,e,_,d⟩,rfl⟩:=x
  obtain ⟨k,l,⟨c',o',t',u',n',e0,e',_,d'⟩,rfl⟩:=y
  cases e0
  rw [e] at e'
  cases e'
  rw [d] at d'
  injection d' with d1 _
  have d1:=congrArg Array.toList d1
  simp only [List.cons.injEq,Value.int.injEq,and_true] at d1
  rw [d1.1.1,d1.2.1]
structure KnOk (prog:Program) (w:World) (A:Around) (k:Kn):Prop where
 eq:∀ {s:Shared} {E:Value→Shared→Prop} {v u:Value} {a b:List Int} {Q:Bool→Shared→Prop},k.R s.heap v a→k.R s.heap u b→Q (decide (a=b)) s→wpAny (model prog w) A (eqBool v u) Q E s
 lt:∀ {s:Shared} {E:Value→Shared→Prop} {c:Bool} {v u:Value} {a b:List Int} {Q:Bool→Shared→Prop},(c=true→k ≠ .p)→k.R s.heap v a→k.R s.heap u b→a≠b→Q (decide (a < b)) s→wpAny (model prog w) A (oneLt' c v u) Q E s
section
variable {prog:Program} {w:World} {A:Around} {E:Value→Shared→Prop} {s:Shared}
theorem kn_i:KnOk prog w A .i:=by
 refine ⟨fun {s E v u a b Q} x y q=>?_,fun {s E c v u a b Q} _ x y ne q=>?_⟩
 ·obtain ⟨i,t,rfl,rfl⟩:=x
  obtain ⟨j,t',rfl,rfl⟩:=y
  refine wpAny_eqBool_int ?_
  have:decide ([i]=[j])=(i == j):=by rw [Bool.eq_iff_iff];simp
  rwa [this] at q
 ·obtain ⟨i,t,rfl,rfl⟩:=x
  obtain ⟨j,t',rfl,rfl⟩:=y
  have:decide ([i] < [j])=decide (i < j):=by
   rw [Bool.eq_iff_iff,decide_eq_true_iff,decide_eq_true_iff,List.cons_lt_cons_iff]
   exact ⟨fun h=>h.elim id fun h=>absurd h.2 (List.lt_irrefl _),.inl⟩
  rw [this] at q
  cases c with
  | true=>exact oneLt_int q
  | false =>
   rw [oneLt'_eq]
   simp only [Bool.false_eq_true,if_false]
   show wpAny _ _ (compareOp .Lt (.int i t) (.int j t') >>= _) Q E s
   exact wpAny_bind (wpAny_lt_int (wpAny_truthy_bool q))
theorem map_lt:∀ (x y:List Nat),x.map Int.ofNat < y.map Int.ofNat ↔ x < y
 | [],[]=>by simp
 | [],_::_=>by simp
 | _::_,[]=>by simp
 | a::x,b::y=>by
  rw [List.map_cons,List.map_cons,List.cons_lt_cons_iff,List.cons_lt_cons_iff,map_lt x y]
  constructor
  ·rintro (h | ⟨h,g⟩)
   ·exact .inl (Int.ofNat_lt.mp h)
   ·exact .inr ⟨Int.ofNat.inj h,g⟩
  ·rintro (h | ⟨h,g⟩)
   ·exact .inl (Int.ofNat_lt.mpr h)
   ·exact .inr ⟨congrArg _ h,g⟩
theorem kn_s:KnOk prog w A .s:=by
 refine ⟨fun {s E v u a b Q} x y q=>?_,fun {s E c v u a b Q} _ x y ne q=>?_⟩
 ·obtain ⟨x,t,rfl,rfl⟩:=x
  obtain ⟨y,t',rfl,rfl⟩:=y
  refine wpAny_eqBool_str ?_
  have:decide (x.cps.toList.map Int.ofNat=y.cps.toList.map Int.ofNat)=decide (x=y):=by
   rw [Bool.eq_iff_iff,decide_eq_true_iff,decide_eq_true_iff]
   refine ⟨fun h=>?_,fun h=>by rw [h]⟩
   have:=Array.toList_inj.mp (ofNat_inj h)
   cases x;cases y;simp_all
  rwa [this] at q
 ·obtain ⟨x,t,rfl,rfl⟩:=x
  obtain ⟨y,t',rfl,rfl⟩:=y
  have:decide (x.cps.toList.map Int.ofNat < y.cps.toList.map Int.ofNat)=decide (x.cps.toList < y.cps.toList):=by
   rw [Bool.eq_iff_iff,decide_eq_true_iff,decide_eq_true_iff,map_lt]
  rw [this] at q
  cases c with
  | true=>exact oneLt_str q
  | false =>
   rw [oneLt'_eq]
   simp only [Bool.false_eq_true,if_false]
   show wpAny _ _ (compareOp .Lt (.str x t) (.str y t') >>= _) Q E s
   exact wpAny_bind (PyProof.Rows.lt_str (wpAny_truthy_bool q))
end
inductive FlR (h:Heap):List Kn→List Value→List (List Int)→Prop
 | nil:FlR h [] [] []
 | cons {k:Kn} {ks:List Kn} {v:Value} {vs:List Value} {a:List Int} {as:List (List Int)} (x:k.R h v a) (r:FlR h ks vs as):FlR h (k::ks) (v::vs) (a::as)
theorem FlR.one {h:Heap}{ks:List Kn}{vs:List Value}{as:List (List Int)}(x:FlR h ks vs as):∀ {bs:List (List Int)},FlR h ks vs bs→as=bs:=by
 induction x with
 | nil=>intro bs y;cases y;rfl
 | cons x r ih=>intro bs y;cases y with | cons y q=>rw [Kn.one x y,ih q]
theorem FlR.len {h:Heap}{ks:List Kn}{vs us:List Value}{as bs:List (List Int)}(x:FlR h ks vs as):FlR h ks us bs→vs.length=us.length:=by
 induction x generalizing us bs with
 | nil=>intro y;cases y;rfl
 | cons x r ih=>intro y;cases y with | cons y q=>rw [List.length_cons,List.length_cons,ih q]
theorem FlR.stay {h h':Heap}(k:∀ b o,h.get? b=some o→o.cls = .type "tuple"→h'.get? b=some o){ks:List Kn}{vs:List Value}{as:List (List Int)}(x:FlR h ks vs as):FlR h' ks vs as:=by
 induction x with
 | nil=>exact .nil
 | @cons kn ks v vs a as x r ih =>
  refine .cons ?_ ih
  cases kn with
  | i=>exact x
  | s=>exact x
  | p =>
   obtain ⟨i,j,⟨c,o,t,u,n,e0,e,hc,d⟩,ea⟩:=x
   exact ⟨i,j,⟨c,o,t,u,n,e0,k _ _ e hc,hc,d⟩,ea⟩
noncomputable abbrev QKey:=List (List Int)
noncomputable def Kd (f:Kn)(sh:List Int→List Kn)(h:Heap)(v:Value)(k:QKey):Prop:=∃ (a:Addr) (o:Obj) (vs:List Value) (n:Nat),v = .ref a∧h.get? a=some o∧o.cls = .type "tuple"∧o.data = .seq vs.toArray n∧FlR h (f::sh (k.headD [])) vs k
theorem Kd.one {f:Kn}{sh:List Int→List Kn}{h:Heap}{v:Value}{k l:QKey}(x:Kd f sh h v k)(y:Kd f sh h v l):k=l:=by
 obtain ⟨a,o,vs,n,rfl,e,_,d,g⟩:=x
 obtain ⟨a',o',vs',n',e0,e',_,d',g'⟩:=y
 cases e0
 rw [e] at e'
 cases e'
 rw [d] at d'
 injection d' with d1 _
 have d1:=congrArg Array.toList d1
 simp only at d1
 subst d1
 cases g with
 | cons x r =>
  cases g' with
  | cons y q =>
   have e1:=Kn.one x y
   subst e1
   exact congrArg _ (FlR.one r q)
open Classical in
noncomputable def kdOf (f:Kn)(sh:List Int→List Kn)(h:Heap)(v:Value):Option QKey:=if hx:∃ p:QKey,Kd f sh h v p then some (Classical.choose hx) else none
theorem Kd.of {f:Kn}{sh:List Int→List Kn}{h:Heap}{v:Value}{k:QKey}(x:Kd f sh h v k):kdOf f sh h v=some k:=by
 unfold kdOf
 rw [dif_pos ⟨k,x⟩]
 exact congrArg some ((Classical.choose_spec (⟨k,x⟩:∃ p:QKey,Kd f sh h v p)).one x)
theorem Kd.is {f:Kn}{sh:List Int→List Kn}{h:Heap}{v:Value}{k:QKey}(e:kdOf f sh h v=some k):Kd f sh h v k:=by
 unfold kdOf at e
 split at e
 ·rename_i hx
  cases e
  exact Classical.choose_spec hx
 ·cases e
theorem Kd.stay {f:Kn}{sh:List Int→List Kn}{h h':Heap}{v:Value}{k:QKey}(kp:∀ b o,h.get? b=some o→o.cls = .type "tuple"→h'.get? b=some o)(x:Kd f sh h v k):Kd f sh h' v k:=by
 obtain ⟨a,o,vs,n,e0,e,c,d,g⟩:=x
 exact ⟨a,o,vs,n,e0,kp _ _ e c,c,d,g.stay kp⟩
@[reducible] noncomputable def kdK (f:Kn) (sh:List Int→List Kn) (h:Heap):KeyKind where
 α:=QKey
 blt a b:=decide (a < b)
 irrefl a:=by simpa using List.lt_irrefl a
 trans a b c h1 h2:=by simp only [decide_eq_true_eq] at *;exact List.lt_trans h1 h2
 negTrans a b c h:=by
  simp only [decide_eq_true_eq] at *
  by_cases hab:a < b
  ·exact .inl hab
  ·exact .inr (List.lt_of_le_of_lt (List.not_lt.mp hab) h)
 total a b h1 h2:=by simp only [decide_eq_false_iff_not] at *;exact List.le_antisymm (List.not_lt.mp h2) (List.not_lt.mp h1)
 keyOf v:=kdOf f sh h v
 dflt:=[]
noncomputable def lexGo (b:Bool)(L:List ((Value × Value) × Nat))(z:Bool):Sem Bool:=do
 for ((p,q),i) in L do
  if !(← eqBool p q) then return ← oneLt' (b && i == 0) p q
 return z
theorem keyLt'_go (b:Bool)(x y:Value):keyLt' (tuples' b) x y=(do
  let xs ← Builtin.List.listItems x;let ys ← Builtin.List.listItems y
  lexGo b (xs.toList.zip ys.toList).zipIdx (decide (xs.size < ys.size))):=rfl
theorem go_cons (b z:Bool)(p q:Value)(i:Nat)(L:List ((Value × Value) × Nat)):lexGo b (((p,q),i)::L) z=(eqBool p q >>= fun r=>if r then lexGo b L z else oneLt' (b && i == 0) p q):=by
 unfold lexGo
 rw [List.forIn_cons]
 simp only [bind_assoc]
 congr 1
 funext r
 cases r <;> simp
theorem lt_step {a b:List Int}{as bs:QKey}:decide (a::as < b::bs)=if a=b then decide (as < bs) else decide (a < b):=by
 rw [Bool.eq_iff_iff,decide_eq_true_iff,List.cons_lt_cons_iff]
 by_cases e:a=b
 ·rw [if_pos e,decide_eq_true_iff]
  subst e
  exact ⟨fun h=>h.elim (fun h=>absurd h (List.lt_irrefl _)) fun h=>h.2,fun h=>.inr ⟨rfl,h⟩⟩
 ·rw [if_neg e,decide_eq_true_iff]
  exact ⟨fun h=>h.elim id fun h=>absurd h.1 e,.inl⟩
section
variable {prog:Program} {w:World} {A:Around} {E:Value→Shared→Prop} {s:Shared}
theorem go_lt {b:Bool}{ks:List Kn}{vs:List Value}{as:QKey}(ok:∀ k∈ks,KnOk prog w A k)(x:FlR s.heap ks vs as):∀ {us:List Value} {bs:QKey} {m:Nat} {Q:Bool→Shared→Prop},(m=0→b=true→∀ k r,ks=k::r→k ≠ .p)→FlR s.heap ks us bs→Q (decide (as < bs)) s→wpAny (model prog w) A (lexGo b ((vs.zip us).zipIdx m) false) Q E s:=by
 induction x with
 | nil =>
  intro us bs m Q _ y q
  cases y
  exact wpAny_pure (by simpa using q)
 | @cons k ks v vs a as x r ih =>
  intro us bs m Q hp y q
  cases y with
  | @cons _ _ u us c bs y r2 =>
  rw [List.zip_cons_cons,List.zipIdx_cons,go_cons]
  have K:=ok k List.mem_cons_self
  rw [lt_step] at q
  refine wpAny_bind (K.eq x y ?_)
  by_cases e:a=c
  ·rw [decide_eq_true e,if_pos rfl]
   rw [if_pos e] at q
   exact ih (fun k hk=>ok k (List.mem_cons_of_mem _ hk)) (fun z=>by omega) r2 q
  ·rw [decide_eq_false e,if_neg (by decide)]
   rw [if_neg e] at q
   refine K.lt (fun z=>?_) x y e q
   have z:(b && (m == 0))=true:=z
   rw [Bool.and_eq_true] at z
   exact hp (by simpa using z.2) z.1 _ _ rfl
theorem kd_lt {f:Kn}{sh:List Int→List Kn}{b:Bool}{x y:Value}{k l:QKey}{Q:Bool→Shared→Prop}(hf:f ≠ .p)(okf:KnOk prog w A f)(ok:∀ a,∀ k∈sh a,KnOk prog w A k)(hx:Kd f sh s.heap x k)(hy:Kd f sh s.heap y l)(h:Q (decide (k < l)) s) :
  wpAny (model prog w) A (keyLt' (tuples' b) x y) Q E s:=by
 obtain ⟨a,o,vs,n,rfl,e,_,d,g⟩:=hx
 obtain ⟨a',o',us,n',rfl,e',_,d',g'⟩:=hy
 rw [keyLt'_go]
 refine wpAny_bind (listItems_at e d (wpAny_bind (listItems_at e' d' ?_)))
 cases g with
 | @cons _ _ v vs a as x r =>
 cases g' with
 | @cons _ _ u us c bs y r2 =>
 show wpAny _ _ (lexGo b ((v::vs).zip (u::us)).zipIdx _) Q E s
 rw [List.zip_cons_cons,List.zipIdx_cons,go_cons]
 rw [lt_step] at h
 refine wpAny_bind (okf.eq x y ?_)
 by_cases e2:a=c
 ·subst e2
  rw [decide_eq_true rfl,if_pos rfl]
  rw [if_pos rfl] at h
  have hz:decide ((v::vs).toArray.size < (u::us).toArray.size)=false:=by
   have:=r.len r2
   simp [this]
  rw [hz]
  exact go_lt (ok _) r (fun z=>by omega) r2 h
 ·rw [decide_eq_false e2,if_neg (by decide)]
  rw [if_neg e2] at h
  exact okf.lt (fun _=>hf) x y e2 h
theorem mapQ_wp {α β:Type}{g:α→Sem β}{f:α→β}:∀ {vs:List α} {Q:List β→Shared→Prop},(∀ v∈vs,∀ Q:β→Shared→Prop,Q (f v) s→wpAny (model prog w) A (g v) Q E s)→Q (vs.map f) s→wpAny (model prog w) A (vs.mapM g) Q E s
 | [],Q,_,h=>by rw [List.mapM_nil];exact wpAny_pure h
 | v::vs,Q,hg,h=>by
  rw [List.mapM_cons]
  refine wpAny_bind (hg v List.mem_cons_self _ (wpAny_bind (mapQ_wp (fun u hu=>hg u (List.mem_cons_of_mem _ hu)) (wpAny_pure ?_))))
  exact h
noncomputable def fst9 (h:Heap):Value→Option Value:=fun v=>match v with
 | .ref a=>match h.get? a with
  | some o=>match o.data with
   | .seq xs _=>xs[0]?
   | _=>none
  | none=>none
 | _=>none
theorem kind_kd {f:Kn}{sh:List Int→List Kn}{vs:List Value}(hf:f ≠ .p)(hv:∀ v∈vs,∃ k,Kd f sh s.heap v k)(ne:vs≠[]){Q:SortKind→Shared→Prop}(h:Q (tuples' true) s):wpAny (model prog w) A (keyKind' vs.toArray) Q E s:=by
 rw [keyKind'_eq,List.mapM_toArray]
 show wpAny _ _ ((List.toArray <$> vs.mapM firstOfTuple') >>= _) Q E s
 have hq:∀ v∈vs,∃ a o xs n x c,v = .ref a∧s.heap.get? a=some o∧o.cls = .type "tuple"∧o.data = .seq (x::xs:List Value).toArray n∧fst9 s.heap v=some x∧f.R s.heap x c:=fun v hv'=>by
  obtain ⟨k,a,o,us,n,rfl,e,hc,d,g⟩:=hv v hv'
  cases g with
  | @cons _ _ x xs c as q r =>
   refine ⟨a,o,xs,n,x,c,rfl,e,hc,d,?_,q⟩
   unfold fst9
   dsimp only
   rw [e]
   dsimp only
   rw [d]
   rfl
 refine wpAny_bind (wpAny_map (mapQ_wp (f:=fst9 s.heap) (fun v hv' Q' q=>?_) ?_))
 ·obtain ⟨a,o,xs,n,x,c,rfl,e,hc,d,ef,_⟩:=hq v hv'
  show wpAny _ _ (typeOf (.ref a) >>= fun ty=>if (ty != Value.type "tuple")=true then pure none else (do let xs ← Builtin.List.listItems (.ref a);pure xs[0]?)) Q' E s
  refine wpAny_bind (wpAny_typeOf (T:="tuple") ⟨o,e,hc⟩ ?_)
  have ht:(Value.type "tuple" != Value.type "tuple")=false:=by rfl
  rw [ht]
  simp only [Bool.false_eq_true,if_false]
  refine wpAny_bind (listItems_at e d (wpAny_pure ?_))
  rw [ef] at q
  exact q
 ·have h1:((vs.map (fst9 s.heap)).toArray.all (·.isSome))=true:=by
   simp only [List.all_toArray,List.all_map,List.all_eq_true]
   intro v hv'
   obtain ⟨_,_,_,_,x,_,_,_,_,_,ef,_⟩:=hq v hv'
   show (fst9 s.heap v).isSome=true
   rw [ef]
   rfl
  rw [if_pos h1]
  refine wpAny_bind (wpAny_rule ?_)
  obtain ⟨T,hTn,hT⟩:∃ T:Value,(T != Value.type "tuple")=true∧((vs.map (fst9 s.heap)).filterMap id).mapM typeOf=pure (((vs.map (fst9 s.heap)).filterMap id).map fun _=>T):=by
   clear h1 ne hv h
   cases f with
   | p=>exact absurd rfl hf
   | i =>
    refine ⟨.type "int",rfl,mapM_typeOf_ints (ns:=((vs.map (fst9 s.heap)).filterMap id).map Ts.iOf) ?_⟩
    refine Ts.ints_map _ fun x hx=>?_
    obtain ⟨y,hy,e⟩:=List.mem_filterMap.mp hx
    obtain ⟨v,hv',rfl⟩:=List.mem_map.mp hy
    obtain ⟨_,_,_,_,x',_,_,_,_,_,ef,i,t,rfl,_⟩:=hq v hv'
    rw [ef] at e
    cases e
    exact ⟨i,t,rfl⟩
   | s =>
    refine ⟨.type "str",rfl,?_⟩
    obtain ⟨ns,hI⟩:∃ ns,StrsAre ((vs.map (fst9 s.heap)).filterMap id) ns:=by
     induction vs with
     | nil=>exact ⟨[],.nil⟩
     | cons v r ih =>
      obtain ⟨_,_,_,_,x',_,_,_,_,_,ef,i,t,rfl,_⟩:=hq v List.mem_cons_self
      obtain ⟨ns,q⟩:=ih fun u hu=>hq u (List.mem_cons_of_mem _ hu)
      refine ⟨i::ns,?_⟩
      rw [List.map_cons,ef]
      exact .cons i t q
    exact mapM_typeOf_strs hI
  have e2:(vs.map (fst9 s.heap)).toArray.filterMap id=((vs.map (fst9 s.heap)).filterMap id).toArray:=by simp
  rw [e2,oneTypeOnly'_eq,List.mapM_toArray,hT]
  simp only [map_pure,pure_bind]
  have ne2:(vs.map (fst9 s.heap)).filterMap id≠[]:=by
   cases vs with
   | nil=>exact absurd rfl ne
   | cons v r =>
    obtain ⟨_,_,_,_,x',_,_,_,_,_,ef,_⟩:=hq v List.mem_cons_self
    rw [List.map_cons,ef]
    simp
  generalize (vs.map (fst9 s.heap)).filterMap id=fs at ne2
  cases fs with
  | nil=>exact absurd rfl ne2
  | cons x r =>
   have h0:(List.map (fun _=>T) (x::r)).toArray[0]? = some T:=by simp
   have hall:((List.map (fun _=>T) (x::r)).toArray.all fun y=>y == T)=true:=by
    simp only [List.all_toArray,List.all_map,List.all_eq_true]
    intro _ _
    exact beq_self_eq_true T
   rw [h0]
   simp only [hall,if_true,pure_bind]
   refine wpAny_pure ?_
   rw [show Option.any (fun x=>x != Value.type "tuple") (some T)=true from hTn]
   exact h
end
end Tv
namespace Tv
open PySem PyProof.Rows
noncomputable def qle (k l:QKey):Prop:=¬ l < k
theorem zipQ_self {α:Type}:∀ (l:List α),l.zip l=l.map fun x=>(x,x)
 | []=>rfl
 | x::r=>by rw [List.zip_cons_cons,zipQ_self r];rfl
section
variable {prog:Program} {w:World} {A:Around} {E:Value→Shared→Prop} {s:Shared}
end
end Tv
namespace L2
open PySem PySem.Spec PyProof.Rows Wd Tv
section
variable {X:Cx}
theorem valsQ_refs:∀ {as:List Addr} {us:List Value},Vals (as.map V.ref) us→us=as.map Value.ref
 | [],_,.nil=>rfl
 | a::as,_,.cons r t=>by cases r;rw [valsQ_refs t];rfl
theorem refsQ_vals:∀ (as:List Addr),Vals (as.map V.ref) (as.map Value.ref)
 | []=>.nil
 | a::as=>.cons rfl (refsQ_vals as)
inductive FlQ (H:Hp):List Kn→List V→QKey→Prop
 | nil:FlQ H [] [] []
 | i {ks:List Kn} {xs:List V} {as:QKey} (i:Int) (r:FlQ H ks xs as):FlQ H (.i::ks) (.int i::xs) ([i]::as)
 | s {ks:List Kn} {xs:List V} {as:QKey} (x:Str) (r:FlQ H ks xs as):FlQ H (.s::ks) (.str x::xs) (x.cps.toList.map Int.ofNat::as)
 | p {ks:List Kn} {xs:List V} {as:QKey} {b:Addr} {i j:Int} (p:H b=some (.tup [.int i,.int j])) (r:FlQ H ks xs as):FlQ H (.p::ks) (.ref b::xs) ([i,j]::as)
noncomputable def KdQ (f:Kn)(sh:List Int→List Kn)(H:Hp)(a:Addr)(k:QKey):Prop:=∃ xs,H a=some (.tup xs)∧FlQ H (f::sh (k.headD [])) xs k
theorem flq_of {pins:List (Addr × Obj)}{σ:St}{H:Hp}{s:Shared}(I:Inv X pins σ H s){ks:List Kn}{xs:List V}{as:QKey}(f:FlQ H ks xs as):∀ {us:List Value},Vals xs us→FlR s.heap ks us as:=by
 induction f with
 | nil=>intro us r;cases r;exact .nil
 | i i f ih =>
  intro us r
  cases r with
  | cons r1 r2 =>
   obtain ⟨t,rfl⟩:=r1
   exact .cons ⟨i,t,rfl,rfl⟩ (ih r2)
 | s x f ih =>
  intro us r
  cases r with
  | cons r1 r2 =>
   obtain ⟨t,rfl⟩:=r1
   exact .cons ⟨x,t,rfl,rfl⟩ (ih r2)
 | @p ks xs as b i j p f ih =>
  intro us r
  cases r with
  | cons r1 r2 =>
   cases r1
   obtain ⟨its,r,pl,_⟩:=I.tuple (SqT.of p)
   obtain ⟨u1,u2,rfl,⟨t,rfl⟩,⟨u,rfl⟩⟩:=vals2 r
   obtain ⟨o,e,c,n,d⟩:=pl
   exact .cons ⟨i,j,⟨b,o,t,u,n,rfl,e,c,d⟩,rfl⟩ (ih r2)
theorem kdq_of {pins:List (Addr × Obj)}{σ:St}{H:Hp}{s:Shared}(I:Inv X pins σ H s){f:Kn}{sh:List Int→List Kn}{a:Addr}{k:QKey}(h:KdQ f sh H a k):Kd f sh s.heap (.ref a) k:=by
 obtain ⟨xs,h1,h2⟩:=h
 obtain ⟨its,r,pl,_⟩:=I.tuple (SqT.of h1)
 obtain ⟨o,e,c,n,d⟩:=pl
 exact ⟨a,o,its,n,rfl,e,c,d,flq_of I h2 r⟩
end
end L2
namespace Tv
open PySem PyProof.Rows
section
variable {prog:Program} {w:World} {A:Around} {E:Value→Shared→Prop} {s:Shared}
theorem sorted_q {f:Kn}{sh:List Int→List Kn}{zs0:List (Addr × QKey)}{h:Heap}(hp:∀ z∈zs0,Kd f sh h (.ref z.1) z.2){xs:Array Keyed}(pm:xs.Perm (pairsOf (zs0.map fun z=>Value.ref z.1)))(hs:SortedToK (kdK f sh h) xs (pairsOf (zs0.map fun z=>Value.ref z.1)).size) :
  ∃ zs:List (Addr × QKey),zs.Perm zs0∧(xs.map (·.2)).toList=zs.map (fun z=>Value.ref z.1)∧(zs.map (·.2)).Pairwise qle:=by
 have hl:xs.toList.Perm (zs0.map fun z=>(Value.ref z.1,Value.ref z.1)):=by
  have:=Array.perm_iff_toList_perm.mp pm
  rw [pairsOf_toList,zipQ_self,List.map_map] at this
  exact this
 obtain ⟨zs,h1,h2⟩:=L2.perm_map_ex (fun z:Addr × QKey=>((Value.ref z.1,Value.ref z.1):Keyed)) hl.symm zs0 rfl
 refine ⟨zs,h1,?_,?_⟩
 ·rw [Array.toList_map,h2,List.map_map]
  rfl
 ·have hz:zs.length=xs.size:=by rw [← Array.length_toList,h2,List.length_map]
  rw [List.pairwise_iff_getElem]
  intro i j hi hj hij
  rw [List.length_map] at hi hj
  have q:=hs i j (Nat.le_of_lt hij) (by rw [← pm.size_eq];omega)
  have key:∀ k (hk:k < zs.length),KK (kdK f sh h) xs k=zs[k].2:=fun k hk=>by
   unfold KK
   have e:xs[k]? = some (Value.ref zs[k].1,Value.ref zs[k].1):=by
    rw [← Array.getElem?_toList,h2,List.getElem?_map,List.getElem?_eq_getElem hk]
    rfl
   rw [e]
   show ((kdOf f sh h (.ref zs[k].1)).getD [])=_
   rw [(hp _ (h1.mem_iff.mp (List.getElem_mem hk))).of]
   rfl
  rw [key i hi,key j hj] at q
  rw [List.getElem_map,List.getElem_map]
  exact of_decide_eq_false q
theorem sort_q {f:Kn}{sh:List Int→List Kn}(hf:f ≠ .p)(okf:KnOk prog w A f)(ok:∀ a,∀ k∈sh a,KnOk prog w A k){a:Addr}{zs0:List (Addr × QKey)}{m:Nat}{P:Fin→Shared→Prop}(at_:s.heap.get? a=some (seqObj "list" (zs0.map fun z=>Value.ref z.1).toArray m))(hp:∀ z∈zs0,Kd f sh s.heap (.ref z.1) z.2)(lim:zs0.length≤sizeLine)
  (q:∀ (out:Array Value) (zs:List (Addr × QKey)),zs.Perm zs0→out.toList=zs.map (fun z=>Value.ref z.1)→(zs.map (·.2)).Pairwise qle→P (.done (.ret .none)) { s with heap:=sortedHeap s.heap a (zs0.map fun z=>Value.ref z.1) out }) :
  wpAny (model prog w) A (Builtin.«list.sort» ⟨[.ref a],[]⟩) P E s:=by
 have la:=Heap.lt_size at_
 -- the pairs stay while the list is empty
 have stay:∀ z∈zs0,Kd f sh (((s.heap.update a (Obj.mapSeq fun _=>#[])).push (seqObj "tuple" (zs0.map fun z=>Value.ref z.1).toArray 0)).push (seqObj "list" #[] 0)) (.ref z.1) z.2:=fun z hz=>by
  refine Kd.stay (fun b o g c=>?_) (hp z hz)
  have hba:b≠a:=fun x=>by
   subst x
   rw [at_] at g
   rw [← Option.some.inj g] at c
   simp [seqObj] at c
  exact Heap.get?_push_of_some _ (Heap.get?_push_of_some _ ((Heap.get?_update_other _ _ (Ne.symm hba)).trans g))
 refine sort_any (κ:=kdK f sh (((s.heap.update a (Obj.mapSeq fun _=>#[])).push (seqObj "tuple" (zs0.map fun z=>Value.ref z.1).toArray 0)).push (seqObj "list" #[] 0))) (kd:=tuples' true) at_ ?_ ?_ ?_ (by rw [List.length_map];exact lim) ?_
 ·intro p hp'
  rw [pairsOf_toList,zipQ_self,List.map_map] at hp'
  obtain ⟨z,hz,rfl⟩:=List.mem_map.mp hp'
  exact ⟨_,(stay z hz).of⟩
 ·intro E' x y ka kb Q' hx hy hq
  exact kd_lt hf okf ok (Kd.is hx) (Kd.is hy) hq
 ·intro x y r e Q' hq
  refine kind_kd (f:=f) (sh:=sh) hf (fun v hv=>?_) (by simp) hq
  rw [← e] at hv
  obtain ⟨z,hz,rfl⟩:=List.mem_map.mp hv
  exact ⟨_,stay z hz⟩
 ·intro st c1 c2
  obtain ⟨zs,h1,h2,h3⟩:=sorted_q stay c1 c2
  exact q _ zs h1 h2 h3
theorem sorted_qB {f:Kn}{sh:List Int→List Kn}(hf:f ≠ .p)(okf:∀ A':Around,A'.units≤A.units+8→KnOk prog w A' f)(ok:∀ A':Around,A'.units≤A.units+8→∀ a,∀ k∈sh a,KnOk prog w A' k){l:Addr}{zs0:List (Addr × QKey)}{Q:Value→Shared→Prop}(hl:s.heap.IsList l (zs0.map fun z=>Value.ref z.1).toArray ∨ s.heap.IsTuple l (zs0.map fun z=>Value.ref z.1).toArray)(hp:∀ z∈zs0,Kd f sh s.heap (.ref z.1) z.2)(lim:zs0.length≤sizeLine)
  (q:∀ (out:Array Value) (zs:List (Addr × QKey)),zs.Perm zs0→out.toList=zs.map (fun z=>Value.ref z.1)→(zs.map (·.2)).Pairwise qle→Q (.ref (s.heap.objs.size+1)) { s with heap:=sortedAll s.heap (zs0.map fun z=>Value.ref z.1) out }) :
  wpAny (model prog w) A (call (.builtin "sorted") [.ref l]) Q E s:=by
 have lim':(zs0.map fun z=>Value.ref z.1).length≤sizeLine:=by rw [List.length_map];exact lim
 refine Calls.call_function_entry kind_sorted plain_sorted entry_sorted (args_sorted1 _) ?_
 unfold Builtin.«sorted»
 rcases hl with hl | hl
 ·refine wpAny_bind (m:=checkCount "sorted" 1 1 _) (wpAny_pure (wpAny_bind (collect_list hl (wpAny_bind (wpAny_newList ?_)) (hsz:=lim'))))
  have z1:((s.heap.push (seqObj "list" #[] 0)).update s.heap.objs.size (Obj.mapSeq (· ++ (zs0.map fun z=>Value.ref z.1).toArray))).objs.size=s.heap.objs.size+1:=(Heap.size_update ..).trans (size_push' ..)
  have g:(((s.heap.push (seqObj "list" #[] 0)).update s.heap.objs.size (Obj.mapSeq (· ++ (zs0.map fun z=>Value.ref z.1).toArray))).push (seqObj "list" (zs0.map fun z=>Value.ref z.1).toArray 0)).get? (s.heap.objs.size+1)=some (seqObj "list" (zs0.map fun z=>Value.ref z.1).toArray 0):=z1 ▸ Heap.get?_push_size _ rfl
  have old:∀ b o,s.heap.get? b=some o→(((s.heap.push (seqObj "list" #[] 0)).update s.heap.objs.size (Obj.mapSeq (· ++ (zs0.map fun z=>Value.ref z.1).toArray))).push (seqObj "list" (zs0.map fun z=>Value.ref z.1).toArray 0)).get? b=some o:=fun b o e =>
   Heap.get?_push_of_some _ ((Heap.get?_update_other _ _ (Nat.ne_of_gt (Heap.lt_size e))).trans (Heap.get?_push_of_some _ e))
  show wpAny _ _ _ _ _ { s with heap:=((s.heap.push (seqObj "list" #[] 0)).update s.heap.objs.size (Obj.mapSeq (· ++ (zs0.map fun z=>Value.ref z.1).toArray))).push (seqObj "list" (zs0.map fun z=>Value.ref z.1).toArray 0) }
  rw [z1]
  refine wpAny_bind (wpAny_holding (wpAny_call_entry slot_list_sort ⟨_,g,rfl⟩ entry_list_sort (sort_q (f:=f) (sh:=sh) hf (okf _ (by show A.units+1+1≤_;omega)) (ok _ (by show A.units+1+1≤_;omega)) (zs0:=zs0) g (fun z hz=>(hp z hz).stay fun b o e _=>old b o e) lim fun out zs h1 h2 h3=>⟨_,rfl,?_⟩) (args_list_sort _)))
  exact wpAny_pure ⟨_,rfl,q _ zs h1 h2 h3⟩
 ·refine wpAny_bind (m:=checkCount "sorted" 1 1 _) (wpAny_pure (wpAny_bind (L2.collect_tup hl (wpAny_bind (wpAny_newList ?_)) (hsz:=lim'))))
  have z1:((s.heap.push (seqObj "list" #[] 0)).update s.heap.objs.size (Obj.mapSeq (· ++ (zs0.map fun z=>Value.ref z.1).toArray))).objs.size=s.heap.objs.size+1:=(Heap.size_update ..).trans (size_push' ..)
  have g:(((s.heap.push (seqObj "list" #[] 0)).update s.heap.objs.size (Obj.mapSeq (· ++ (zs0.map fun z=>Value.ref z.1).toArray))).push (seqObj "list" (zs0.map fun z=>Value.ref z.1).toArray 0)).get? (s.heap.objs.size+1)=some (seqObj "list" (zs0.map fun z=>Value.ref z.1).toArray 0):=z1 ▸ Heap.get?_push_size _ rfl
  have old:∀ b o,s.heap.get? b=some o→(((s.heap.push (seqObj "list" #[] 0)).update s.heap.objs.size (Obj.mapSeq (· ++ (zs0.map fun z=>Value.ref z.1).toArray))).push (seqObj "list" (zs0.map fun z=>Value.ref z.1).toArray 0)).get? b=some o:=fun b o e =>
   Heap.get?_push_of_some _ ((Heap.get?_update_other _ _ (Nat.ne_of_gt (Heap.lt_size e))).trans (Heap.get?_push_of_some _ e))
  show wpAny _ _ _ _ _ { s with heap:=((s.heap.push (seqObj "list" #[] 0)).update s.heap.objs.size (Obj.mapSeq (· ++ (zs0.map fun z=>Value.ref z.1).toArray))).push (seqObj "list" (zs0.map fun z=>Value.ref z.1).toArray 0) }
  rw [z1]
  refine wpAny_bind (wpAny_holding (wpAny_call_entry slot_list_sort ⟨_,g,rfl⟩ entry_list_sort (sort_q (f:=f) (sh:=sh) hf (okf _ (by show A.units+1+1≤_;omega)) (ok _ (by show A.units+1+1≤_;omega)) (zs0:=zs0) g (fun z hz=>(hp z hz).stay fun b o e _=>old b o e) lim fun out zs h1 h2 h3=>⟨_,rfl,?_⟩) (args_list_sort _)))
  exact wpAny_pure ⟨_,rfl,q _ zs h1 h2 h3⟩
end
end Tv
namespace L2
open PySem PySem.Spec PyProof.Rows Wd Tv
section
variable {X:Cx}
inductive call_sorted_q_r (f:Kn)(sh:List Int→List Kn)(K:PySem.W.Frag)(xs:List V)(H:Hp)(Q:VK):Prop
 | mk:∀ (l:Addr) (zs0:List (Addr × QKey)),(xs=[.ref l])→(SqL K H l ((zs0.map (·.1)).map V.ref) ∨ SqT K H l ((zs0.map (·.1)).map V.ref))→(∀ z∈zs0,KdQ f sh H z.1 z.2) →
   (∀ (p:Addr) (zs:List (Addr × QKey)),H p=none→zs.Perm zs0→(zs.map (·.2)).Pairwise qle→Q (.ref p) (upd H p (.lst ((zs.map (·.1)).map V.ref))))→call_sorted_q_r f sh K xs H Q
theorem call_sorted_q {f:Kn}{sh:List Int→List Kn}{K:PySem.W.Frag}(hf:f ≠ .p)(okf:∀ A:Around,A.units≤X.A.units+8→KnOk X.prog X.w A f)(ok:∀ A:Around,A.units≤X.A.units+8→∀ a,∀ k∈sh a,KnOk X.prog X.w A k)(hK:X.K=K):CallR X (.builtin "sorted") (call_sorted_q_r f sh K):=by
 subst hK
 intro pins s σ H xs us Q I r h
 obtain ⟨l,zs0,rfl,hq,hp,q⟩:=h
 obtain ⟨u,rfl,ru⟩:=vals1 r
 cases ru
 have em:∀ zs:List (Addr × QKey),(zs.map (·.1)).map Value.ref=zs.map fun z=>Value.ref z.1:=fun zs=>by rw [List.map_map];rfl
 obtain ⟨pl,hz⟩:(s.heap.IsList l (zs0.map fun z=>Value.ref z.1).toArray ∨ s.heap.IsTuple l (zs0.map fun z=>Value.ref z.1).toArray)∧((zs0.map (·.1)).map V.ref).length≤sizeLine:=by
  rcases hq with hq | hq
  ·obtain ⟨its,rv,pl,hz⟩:=I.list hq
   rw [valsQ_refs rv,em] at pl
   exact ⟨.inl pl.isList,hz⟩
  ·obtain ⟨its,rv,pl,hz⟩:=I.tuple hq
   rw [valsQ_refs rv,em] at pl
   exact ⟨.inr pl,hz⟩
 rw [List.length_map,List.length_map] at hz
 refine sorted_qB hf okf ok pl (fun z hz'=>kdq_of I (hp z hz')) hz fun out zs h1 h2 h3=>?_
 obtain ⟨e,he⟩:=sortedAll_at s.heap (zs0.map fun z=>Value.ref z.1) out
 have I2:InvW X pins σ (upd H (s.heap.objs.size+1) (.lst ((zs.map (·.1)).map V.ref))) { s with heap:=sortedAll s.heap (zs0.map fun z=>Value.ref z.1) out,toks:=s.toks } :=
  I.laid (fun b o e=>sortedAll_old e) (Nat.le_succ _) ⟨by rw [List.length_map,List.length_map,h1.length_eq];exact hz,out.toList,e,by rw [h2,← em];exact refsQ_vals _,by simpa [seqObj] using he⟩
 exact ⟨.ref (s.heap.objs.size+1),_,I2,rfl,q _ zs (I.hok.fresh (Nat.le_succ _)) h1 h3⟩
end
end L2
namespace Tv
open PySem PyProof.Rows
theorem kn_p {prog:Program}{w:World}{A:Around}(hu:A.units+8 < cLine):KnOk prog w A .p:=by
 refine ⟨fun {s E v u a b Q} x y q=>?_,fun {s E c v u a b Q} hc x y ne q=>?_⟩
 ·obtain ⟨i,j,⟨a,o,t,t',n,rfl,e,hc,d⟩,rfl⟩:=x
  obtain ⟨k,l,⟨a2,o2,t2,t2',n2,rfl,e2,hc2,d2⟩,rfl⟩:=y
  have rd:∀ {a:Addr} {o:Obj} {t t':Tok} {n:Nat} {i j:Int},s.heap.get? a=some o→o.cls = .type "tuple"→o.data = .seq #[.int i t,.int j t'] n→Reads s.heap (.ref a) (.tuple [.int i,.int j]) []:=fun g1 g2 g3=>.tuple g1 g2 g3 (.cons (as:=[]) (bs:=[]) (.int _ _) (.cons (as:=[]) (bs:=[]) (.int _ _) .nil))
  refine SeqAt.eqAt_reads _ _ A s _ _ _ _ (rd e hc d) (rd e2 hc2 d2) rfl rfl (by show A.units+min 1 1 < cLine;omega) prog w E _ ?_
  have eq:PyData.eqv (.tuple [.int i,.int j]) (.tuple [.int k,.int l])=((i == k) && ((j == l) && true)):=rfl
  rw [eq]
  have:decide ([i,j]=[k,l])=((i == k) && ((j == l) && true)):=by
   rw [Bool.eq_iff_iff]
   simp
  rwa [this] at q
 ·obtain ⟨i,j,⟨a,o,t,t',n,rfl,e,hc1,d⟩,rfl⟩:=x
  obtain ⟨k,l,⟨a2,o2,t2,t2',n2,rfl,e2,hc2,d2⟩,rfl⟩:=y
  have hb:c=false:=by
   cases c with
   | true=>exact absurd rfl (hc rfl)
   | false=>rfl
  rw [hb,oneLt'_eq]
  simp only [Bool.false_eq_true,if_false]
  refine wpAny_bind (HT.lt_tupInts ⟨o,e,hc1,n,d⟩ ⟨o2,e2,hc2,n2,d2⟩ (.cons _ _ (.cons _ _ .nil)) (.cons _ _ (.cons _ _ .nil)) (by omega) (wpAny_truthy_bool ?_))
  have:HT.lexLt [i,j] [k,l]=decide ([i,j] < [k,l]):=by
   rw [Bool.eq_iff_iff,decide_eq_true_iff,List.cons_lt_cons_iff,List.cons_lt_cons_iff,HT.lexLt_cons,HT.lexLt_cons]
   by_cases c1:i=k
   ·have c2:¬ j=l:=fun z=>ne (by rw [c1,z])
    rw [if_pos c1,if_neg c2,decide_eq_true_iff]
    exact ⟨fun h=>.inr ⟨c1,.inl h⟩,fun h=>h.elim (fun h=>by omega) fun h=>h.2.elim id fun h=>absurd h.1 c2⟩
   ·rw [if_neg c1,decide_eq_true_iff]
    exact ⟨.inl,fun h=>h.elim id fun h=>absurd h.1 c1⟩
  rw [this]
  exact q
theorem kn_all {prog:Program}{w:World}{A:Around}(hu:A.units+8 < cLine):∀ k,KnOk prog w A k
 | .i=>kn_i
 | .s=>kn_s
 | .p=>kn_p hu
end Tv
namespace L2
open PySem PySem.Spec PyProof.Rows Wd Tv
theorem call_sorted_qu {X:Cx}{f:Kn}{sh:List Int→List Kn}{K:PySem.W.Frag}(hf:f ≠ .p)(hu:X.A.units+64 < cLine)(hK:X.K=K):CallR X (.builtin "sorted") (call_sorted_q_r f sh K):=call_sorted_q hf (fun A h=>kn_all (by omega) f) (fun A h _ k _=>kn_all (by omega) k) hK
end L2
namespace L2
open PySem PySem.Spec PyProof.Rows
section
variable {X:Cx}
open Classical in
end
end L2
namespace HT
open PySem PyProof.Rows
theorem rcGt_int (A:Around)(s:Shared)(a:Int)(t:Tok)(c:Int)(u:Tok)(prog:Program)(w:World)(E:Value→Shared→Prop)(Q:Value→Shared→Prop)(h:Q (.bool (decide (c < a))) s) :
  wpAny (model prog w) A (richCompare .Gt (.int a t) (.int c u)) Q E s :=
 (PyProof.Rows.gt_int (by exact h):wpAny (model prog w) A (compareOp .Gt (.int a t) (.int c u)) Q E s)
section
open PySem.SeqAt
open PySem.AutoSeq1 (wpAny_loadPart')
open PySem.MeetsSeq PySem.MeetsSeq2 PySem.MeetsSeq3
theorem tuple_gt_ints (l b:Addr)(items items2:Array Value)(n n2:Nat)(dd dd2:Option Addr)(sl sl2:Array (Option Value))(ns ms:List Int)(hi:IntsAre items.toList ns)(hj:IntsAre items2.toList ms) :
  Meets (Builtin.«tuple.__gt__» ⟨[.ref l,.ref b],[]⟩)
   (fun _ R s=>s.heap.get? l=some { cls:=.type "tuple",dict:=dd,data:=.seq items n,slots:=sl }∧s.heap.get? b=some { cls:=.type "tuple",dict:=dd2,data:=.seq items2 n2,slots:=sl2 } ∧
    R (.ok (.ret (.bool (lexLt ms ns)))) s) :=
 .of_wp fun prog w A R s h=>by
  obtain ⟨hp,g,d,tk,os⟩:=s;obtain ⟨hl,hb,h⟩:=h
  have f2:=AutoSeq1.sub_tuple_tuple
  have z1:items.size=ns.length:=by rw [← hi.length];simp
  have z2:items2.size=ms.length:=by rw [← hj.length];simp
  wp_walk using wpAny_loadPart' hl,wpAny_loadPart' hb,wpAny_forIn_list _ (fun rest b s'=>b.1=none∧s'=⟨hp,g,d,tk,os⟩∧∃ (vs ws:List Value) (ns' ms':List Int),rest=vs.zip ws ∧
   IntsAre vs ns'∧IntsAre ws ms'∧ns'.length+items2.size=ms'.length+items.size∧R (.ok (.ret (.bool (lexLt ms' ns')))) ⟨hp,g,d,tk,os⟩) _
  case turn =>
   rintro ⟨y,x⟩ rest b s' ⟨hb',rfl,vs,ws,ns',ms',hz,hvi,hwi,hlen,hR⟩
   cases hvi with
   | nil=>rw [List.zip_nil_left] at hz;cases hz
   | cons a t hvi' =>
    cases hwi with
    | nil=>rw [List.zip_nil_right] at hz;cases hz
    | cons c u hwi' =>
     rw [List.zip_cons_cons] at hz
     injection hz with hyx hrest
     injection hyx with hy hx
     subst hy hx
     rw [lexLt_cons] at hR
     simp only [List.length_cons] at hlen
     obtain ⟨e,he,hiff⟩:=eqAt_int A.in1 ⟨hp,g,d,tk,os⟩ a t c u
     refine wpAny_bind (he prog w _ _ ?_)
     cases e with
     | true =>
      rw [if_pos (hiff.mp rfl).symm] at hR
      wp_walk
      exact ⟨rfl,rfl,_,_,_,_,hrest,hvi',hwi',by omega,hR⟩
     | false =>
      rw [if_neg (fun q=>absurd (hiff.mpr q.symm) Bool.false_ne_true)] at hR
      have hri:=rcGt_int A.in1 ⟨hp,g,d,tk,os⟩ a t c u prog w
      wp_walk using hri
      exact ⟨_,rfl,by simpa using hR⟩
  case fin =>
   rintro ⟨b1,b2⟩ s' ⟨hb',rfl,vs,ws,ns',ms',hz,hvi,hwi,hlen,hR⟩
   simp only at hb'
   subst hb'
   have hv:lexLt ms' ns'=decide (items2.size < items.size):=by
    cases hvi with
    | nil =>
     cases hwi with
     | nil =>
      simp only [List.length_nil] at hlen
      rw [lexLt_nil_nil]
      exact (decide_eq_false (by omega)).symm
     | cons c u hw =>
      simp only [List.length_nil,List.length_cons] at hlen
      rw [lexLt_cons_nil]
      exact (decide_eq_false (by omega)).symm
    | cons a t hv =>
     cases hwi with
     | nil =>
      simp only [List.length_nil,List.length_cons] at hlen
      rw [lexLt_nil_cons]
      exact (decide_eq_true (by omega)).symm
     | cons c u hw =>
      rw [List.zip_cons_cons] at hz
      cases hz
   rw [hv] at hR
   wp_walk
   exact ⟨_,rfl,by simpa [Builtin.Tuple.tupleCompareSizes] using hR⟩
  case h =>
   exact ⟨rfl,rfl,items.toList,items2.toList,ns,ms,rfl,hi,hj,by omega,h⟩
end
section
variable {prog:Program} {w:World} {A:Around} {E:Value→Shared→Prop} {s:Shared}
theorem gt_tupInts {l b:Addr}{items items2:Array Value}{ns ms:List Int}{Q:Value→Shared→Prop}(hl:IsTup s.heap l items)(hb:IsTup s.heap b items2)(hi:IntsAre items.toList ns)(hj:IntsAre items2.toList ms)
  (hu:A.units < cLine) (h:Q (.bool (lexLt ms ns)) s):wpAny (model prog w) A (richCompare .Gt (.ref l) (.ref b)) Q E s:=by
 obtain ⟨⟨cls,dd,data,sl⟩,ho,hc,n,hd⟩:=id hl
 obtain ⟨⟨cls2,dd2,data2,sl2⟩,ho2,hc2,n2,hd2⟩:=id hb
 simp only at hc hd hc2 hd2
 subst hc hd hc2 hd2
 exact richCompare_meets_room (op:=.Gt) ⟨_,ho,rfl⟩ ⟨_,ho2,rfl⟩ PySem.F.slot_tuple_gt PySem.F.entry_tuple_gt (PySem.F.args_tuple_gt_2 _ _) (tuple_gt_ints l b items items2 n n2 dd dd2 sl sl2 ns ms hi hj)
  ⟨ho,ho2,show Value.bool (lexLt ms ns)≠Value.notImplemented∧Q (.bool (lexLt ms ns)) s from ⟨(fun x=>nomatch x),h⟩⟩ hu
end
end HT
namespace L2
open PySem PySem.Spec PyProof.Rows
section
variable {X:Cx}
end
end L2
namespace PySem
open Sem (wp)
section
variable {K:Type} [DecidableEq K] {prog:Program} {w:World} {knd:KeyKind prog w K} {A:Around} {E:Value→Shared→Prop} {s:Shared}
set_option maxHeartbeats 3200000 in
theorem call_setTx (dd:Nat→List K){z:Str}{zt:Tok}{val:Nat→K}{Q:Value→Shared→Prop}(hh:A.handled=none)(hl:z.cps.all (· < 128)=true)(d0:dd 0=[])(d1:∀ i,val i∈dd i→dd (i+1)=dd i)(d2:∀ i,val i∉dd i→dd (i+1)=dd i++[val i])(dl:∀ i,(dd i).length≤i)(hval:∀ (i:Nat) (v:Value),(∃ c u,z.cps[i]? = some c∧v = .str ⟨#[c]⟩ u)→knd.is (val i) v=true∧v.scannable=true)(hb:z.cps.size+1 < scanBound)
  (h:∀ (h':Heap) (tk:Nat),SetK knd h' s.heap.objs.size (dd z.cps.size)→(∀ b o,b < s.heap.objs.size→s.heap.get? b=some o→h'.get? b=some o)→Q (.ref s.heap.objs.size) { s with heap:=h',toks:=tk }) :
  wpAny (model prog w) A (call (.type "set") [.str z zt]) Q E s:=by
 obtain ⟨c,tl,hmro⟩:=F.called_set.mro
 have hmade:=F.called_set.made
 have hsub:=F.called_set.sub
 refine wpAny_call (codeAny_of_tree ?_)
 show wpAny _ _ (callAny (.type "set") _) _ _ _
 refine wpAny_pure ⟨Code.quiet_builtin _ (by decide +kernel),codeAny_builtin F.entry_type_call ?_⟩
 rw [Around.under_plain (weight_type_call_type "set" [.str z zt] []) rfl]
 have x1:=F.called_set.notType
 have x2:=F.called_set.canCreate
 have x3:=F.typeCall_set_1 (.str z zt)
 repeat (any_goals (first | assumption | wp_step))
 refine codeAny_mono (code_set_newL (.str z zt) (E:=E) (Q₁:=fun ob s1=>ob = .ref s.heap.objs.size∧s1={ s with heap:=s.heap.push (sob (ldr w)) }) ⟨rfl,rfl⟩) fun r s1 hr=>?_
 cases r with
 | error e=>exact hr
 | ok fl =>
  cases fl with
  | ret ob =>
   obtain ⟨rfl,rfl⟩:=hr
   have gS:(s.heap.push (sob (ldr w))).get? s.heap.objs.size=some (sob (ldr w)):=Heap.get?_push_size _ rfl
   have hT:Shared.TypeIs { s with heap:=s.heap.push (sob (ldr w)) } (.ref s.heap.objs.size) "set":=⟨_,gS,rfl⟩
   have x4:=F.called_set.init.lookup
   have x5:=F.called_set.init.bind (.ref s.heap.objs.size)
   repeat (any_goals (first | assumption | wp_step))
   refine codeAny_mono (codeAny_call_builtin (R:=wants (fun r s2=>r = .none∧∃ h' tk,s2={ s with heap:=h',toks:=tk }∧SetK knd h' s.heap.objs.size (dd z.cps.size)∧(∀ b o,b < s.heap.objs.size→s.heap.get? b=some o→h'.get? b=some o)) E) F.called_set.init.plain F.entry_set_init (check_set_init_1 hT ?_)) fun r2 s2 hr2=>?_
   ·have y1:=F.sub_str_set
    have y2:=F.sub_str_frozenset
    have y3:(Value.type "str" == Value.type "dict")=false:=by decide
    unfold Builtin.«set.__init__» noKeywords Builtin.Frozenset.updateFrom
    generalize hPI:pyIter=PI
    wp_walk
    subst hPI
    refine wpAny_pyIter_ascii hl (wpAny_bind (wpAny_runValue ?_))
    have z1:(s.heap.push (sob (ldr w))).objs.size=s.heap.objs.size+1:=Heap.size_push ..
    have nf:s.heap.objs.size∉[(s.heap.push (sob (ldr w))).objs.size]:=by
     rw [z1];simp only [List.mem_singleton]
     exact Nat.ne_of_lt (Nat.lt_succ_self _)
    refine updQq dd ((Walks.strAscii (by simp [hh]) _ z zt).toS) s.heap.objs.size nf val d1 d2 dl hval hb (z.cps.size - 0) 0 _ (by omega) (Nat.zero_le _) ⟨_,Heap.get?_push_size _ rfl,rfl,rfl⟩ ?s0 ?rr
    case s0=>exact ⟨_,#[],0,_,Heap.get?_push_of_some _ gS,⟨rfl,rfl,rfl⟩,rfl,fun e he=>by simp at he,fun k=>by rw [d0];simp,by decide,by rfl,by rw [d0];rfl,⟨rfl,rise_nil⟩,rfl⟩
    case rr =>
     intro s' mv hS'
     obtain ⟨h',g',d',tk',os'⟩:=s'
     obtain rfl:g'=s.gens:=mv.gens
     obtain rfl:d'=s.drawn:=mv.drawn
     obtain rfl:os'=s.os:=mv.os
     show wpAny _ _ _ _ _ _
     refine wpAny_pure ?_
     show wpAny _ _ (ret Value.none) _ _ _
     refine wpAny_pure ⟨rfl,h',tk',rfl,hS',fun b o hlt e=>mv.heap b o ?_ (Heap.get?_push_of_some _ (Heap.get?_push_of_some _ e))⟩
     simp only [List.mem_cons,List.mem_singleton,List.not_mem_nil,or_false,not_or]
     exact ⟨Nat.ne_of_lt hlt,by rw [z1];exact Nat.ne_of_lt (Nat.lt_succ_of_lt hlt)⟩
   ·cases r2 with
    | error e=>exact hr2
    | ok fl2 =>
     cases fl2 with
     | ret r =>
      obtain ⟨rfl,h',tk,rfl,hS',hk'⟩:=hr2
      repeat (any_goals (first | assumption | wp_step))
      exact h _ _ hS' hk'
     | _=>exact hr2.elim
  | _=>exact hr.elim
end
end PySem
namespace L2
open PySem PySem.Spec PyProof.Rows Wd
section
variable {X:Cx}
inductive call_len_sU_r (P:PySem.Program)(w:PySem.World)(xs:List V)(H:Hp)(Q:VK):Prop
 | mk:∀ (a:Addr) (dl:List Str),(xs=[.ref a])→(H a=some (StO P w a dl))→(Q (.int (dl.length:Int)) H)→call_len_sU_r P w xs H Q
theorem call_len_sU:CallR X (.builtin "len") (call_len_sU_r X.prog X.w):=by
 intro pins s σ H xs us Q I r h
 obtain ⟨a,dl,rfl,ha,q⟩:=h
 obtain ⟨u,rfl,ru⟩:=vals1 r
 cases ru
 have hS:SetL X.prog X.w s.heap a dl:=(I.hok a _ ha).1
 obtain ⟨o,es,ep,t,ho,hex,hd,hel,hm,hb,hf,hn,hpl,hld⟩:=hS
 have hb:es.size < 4096:=hb
 refine call_len_set ho hex hd hf (by omega) ?_
 rw [hn]
 exact ⟨.int (dl.length:Int),H,(I.tok _).tok _,⟨_,rfl⟩,q⟩
inductive call_min_l2_r (K:PySem.W.Frag)(xs:List V)(H:Hp)(Q:VK):Prop
 | mk:∀ p i j,(xs=[.ref p])→(SqL K H p [.int i,.int j])→(Q (.int (if j < i then j else i)) H)→call_min_l2_r K xs H Q
theorem call_min_l2 (hc:X.calm=true):CallR X (.builtin "min") (call_min_l2_r X.K):=by
 intro pins s σ H xs us Q I r h
 obtain ⟨p,i,j,rfl,hq,q⟩:=h
 obtain ⟨u,rfl,ru⟩:=vals1 r
 cases ru
 obtain ⟨its,rv,pl,_⟩:=I.list hq
 have ht:=pl.isList
 obtain ⟨t,u,rfl⟩:=two_at_int rv
 have hlt:p < s.heap.objs.size:=by obtain ⟨_,e,_⟩:=ht;exact Heap.lt_size e
 refine call_min_walk (wpAny_pyIter_list ht ?_)
 refine ⟨_,_,_,_,_,_,fun a b=>decide (nAt i j a < nAt i j b),rfl,Walks.list (A:=X.A.in1) (I.ok.hd hc) _ p (Nat.ne_of_lt hlt) _,⟨⟨_,Heap.get?_push_size _ rfl,rfl,rfl⟩,ht.push _⟩,fun b hb=>?_,?_,?_,fun v h' tk hP hk=>?_⟩
 ·show b < (s.heap.push _).objs.size
  rw [Heap.size_push]
  rcases List.mem_cons.mp hb with e | hb
  ·rw [e];exact Nat.lt_succ_self _
  ·rw [List.mem_singleton.mp hb];exact Nat.lt_succ_of_lt hlt
 ·exact Nat.zero_lt_succ 1
 ·refine CmpOf.ints_lt (nAt i j) fun a v hv=>?_
  match a,hv with
  | 0,hv=>exact ⟨t,(Option.some.inj hv).symm⟩
  | 1,hv=>exact ⟨u,(Option.some.inj hv).symm⟩
  | (a+2),hv=>simp at hv
 ·have old:∀ b o,s.heap.get? b=some o→h'.get? b=some o:=fun b o e=>hk b o (fun z=>by rw [List.mem_singleton.mp z] at e;exact absurd (Heap.lt_size e) (Nat.lt_irrefl _)) (Heap.get?_push_of_some _ e)
  have hP:[Value.int i t,Value.int j u].toArray[if decide (j < i)=true then 1 else 0]? = some v:=hP
  by_cases h:j < i
  ·rw [if_pos (decide_eq_true h)] at hP
   rw [if_pos h] at q
   exact ⟨.int j,H,I.kept old,⟨u,(Option.some.inj hP).symm⟩,q⟩
  ·rw [decide_eq_false h] at hP
   rw [if_neg h] at q
   exact ⟨.int i,H,I.kept old,⟨t,(Option.some.inj hP).symm⟩,q⟩
inductive call_max_l2_r (K:PySem.W.Frag)(xs:List V)(H:Hp)(Q:VK):Prop
 | mk:∀ p i j,(xs=[.ref p])→(SqL K H p [.int i,.int j])→(Q (.int (if j > i then j else i)) H)→call_max_l2_r K xs H Q
theorem call_max_l2 (hc:X.calm=true):CallR X (.builtin "max") (call_max_l2_r X.K):=by
 intro pins s σ H xs us Q I r h
 obtain ⟨p,i,j,rfl,hq,q⟩:=h
 obtain ⟨u,rfl,ru⟩:=vals1 r
 cases ru
 obtain ⟨its,rv,pl,_⟩:=I.list hq
 have ht:=pl.isList
 obtain ⟨t,u,rfl⟩:=two_at_int rv
 have hlt:p < s.heap.objs.size:=by obtain ⟨_,e,_⟩:=ht;exact Heap.lt_size e
 refine call_max_walk (wpAny_pyIter_list ht ?_)
 refine ⟨_,_,_,_,_,_,fun a b=>decide (nAt i j a > nAt i j b),rfl,Walks.list (A:=X.A.in1) (I.ok.hd hc) _ p (Nat.ne_of_lt hlt) _,⟨⟨_,Heap.get?_push_size _ rfl,rfl,rfl⟩,ht.push _⟩,fun b hb=>?_,?_,?_,fun v h' tk hP hk=>?_⟩
 ·show b < (s.heap.push _).objs.size
  rw [Heap.size_push]
  rcases List.mem_cons.mp hb with e | hb
  ·rw [e];exact Nat.lt_succ_self _
  ·rw [List.mem_singleton.mp hb];exact Nat.lt_succ_of_lt hlt
 ·exact Nat.zero_lt_succ 1
 ·refine CmpOf.ints_gt (nAt i j) fun a v hv=>?_
  match a,hv with
  | 0,hv=>exact ⟨t,(Option.some.inj hv).symm⟩
  | 1,hv=>exact ⟨u,(Option.some.inj hv).symm⟩
  | (a+2),hv=>simp at hv
 ·have old:∀ b o,s.heap.get? b=some o→h'.get? b=some o:=fun b o e=>hk b o (fun z=>by rw [List.mem_singleton.mp z] at e;exact absurd (Heap.lt_size e) (Nat.lt_irrefl _)) (Heap.get?_push_of_some _ e)
  have hP:[Value.int i t,Value.int j u].toArray[if decide (j > i)=true then 1 else 0]? = some v:=hP
  by_cases h:j > i
  ·rw [if_pos (decide_eq_true h)] at hP
   rw [if_pos h] at q
   exact ⟨.int j,H,I.kept old,⟨u,(Option.some.inj hP).symm⟩,q⟩
  ·rw [decide_eq_false h] at hP
   rw [if_neg h] at q
   exact ⟨.int i,H,I.kept old,⟨t,(Option.some.inj hP).symm⟩,q⟩
inductive rGtT (K:PySem.W.Frag)(x:V)(y:V)(H:Hp)(Q:VK):Prop
 | mk:∀ a b ns ms,(x = .ref a)→(y = .ref b)→(SqT K H a (ns.map V.int))→(SqT K H b (ms.map V.int))→(Q (.bl (HT.lexLt ms ns)) H)→rGtT K x y H Q
theorem op_gtT {K:PySem.W.Frag}(hK:X.K=K)(hu:X.A.units+64 < cLine):OpR X (compareOp .Gt) (rGtT K):=by
 subst hK
 intro pins s σ H x y v u Q I rx ry h
 obtain ⟨a,b,ns,ms,rfl,rfl,ha,hb,q⟩:=h
 cases rx
 cases ry
 obtain ⟨its,r1,p1,_⟩:=I.tuple ha
 obtain ⟨its2,r2,p2,_⟩:=I.tuple hb
 have i1:IntsAre its.toArray.toList ns:=intsAre_of r1
 have i2:IntsAre its2.toArray.toList ms:=intsAre_of r2
 exact HT.gt_tupInts p1 p2 i1 i2 (by omega) ⟨.bl (HT.lexLt ms ns),H,I,rfl,q⟩
inductive call_set_text_r (P:PySem.Program)(w:PySem.World)(xs:List V)(H:Hp)(Q:VK):Prop
 | mk:∀ (u:List L),(xs=[tx u])→(u.length≤4000)→(∀ (p:Addr) (dl:List Str),H p=none→dl.Nodup→(∀ z,z∈dl ↔ ∃ x∈u,z=toS [x])→Q (.ref p) (upd H p (StO P w p dl)))→call_set_text_r P w xs H Q
theorem call_set_text (hc:X.calm=true):CallR X (.type "set") (call_set_text_r X.prog X.w):=by
 intro pins s σ H xs us Q I r h
 obtain ⟨v,rfl,hz,q⟩:=h
 obtain ⟨u,rfl,ru⟩:=vals1 r
 obtain ⟨zt,rfl⟩:=ru
 have hsz:(toS v).cps.size=v.length:=toS_size v
 have hval:∀ (i:Nat) (x:Value),(∃ c u,(toS v).cps[i]? = some c∧x = .str ⟨#[c]⟩ u)→∃ t,x = .str (toS [v.getD i 0]) t:=fun i x ⟨c,u,hc,e⟩=>by
  obtain ⟨y,hy,ey⟩:=sign_at hc
  refine ⟨u,?_⟩
  rw [e,ey,List.getD_eq_getElem?_getD,hy]
  rfl
 refine call_setTx (knd:=strKind X.prog X.w) (val:=fun i=>toS [v.getD i 0]) (ddp fun i=>toS [v.getD i 0]) (I.ok.hd hc) (Kx.asc v) (by unfold ddp;rfl) (fun i m=>by rw [ddp,if_pos m]) (fun i m=>by rw [ddp,if_neg m]) (ddp_len _) (fun i x e=>by obtain ⟨t,rfl⟩:=hval i x e;exact ⟨strKind_is _ _ _ _,rfl⟩) (by rw [hsz];show _ < 4096;omega) fun h' tk hS k=>?_
 refine ⟨.ref s.heap.objs.size,_,I.laid (fun b o e=>k b o (Heap.lt_size e) e) (Nat.le_refl _) (SetL.lay hS),rfl,q _ _ (I.hok.fresh (Nat.le_refl _)) (ddp_nodup _ _) fun z=>?_⟩
 rw [ddp_mem,hsz]
 constructor
 ·rintro ⟨j,hj,rfl⟩
  refine ⟨v[j],List.getElem_mem hj,?_⟩
  show toS [v.getD j 0]=_
  rw [List.getD_eq_getElem?_getD,List.getElem?_eq_getElem hj]
  rfl
 ·rintro ⟨x,hx,rfl⟩
  obtain ⟨j,hj,rfl⟩:=List.getElem_of_mem hx
  refine ⟨j,hj,?_⟩
  show toS [v.getD j 0]=_
  rw [List.getD_eq_getElem?_getD,List.getElem?_eq_getElem hj]
  rfl
end
end L2
namespace L2
open PySem PySem.Spec PyProof.Rows
theorem op_ltTK {X:Cx}{K:PySem.W.Frag}(hK:X.K=K)(hu:X.A.units < cLine):OpR X (compareOp .Lt) (rLtT K):=by subst hK; exact op_ltT hu
end L2
namespace Kx
open PySem PySem.Spec PyProof.Rows L2 Wd Tv
theorem b_set:bootBuiltins "set" = some (.type "set"):=by kernel_rfl
theorem ifsT {t u:TS}{D:Ends}{σ:L2.St}{H:Hp}(h:t D σ H):tIfS_k1 t u D σ true H:=iteT h
theorem ifsF {t u:TS}{D:Ends}{σ:L2.St}{H:Hp}(h:u D σ H):tIfS_k1 t u D σ false H:=iteF h
theorem orkT {u:TT}{σ:L2.St}{Q:Bool→Hp→Prop}{H:Hp}(h:Q true H):tOr_k1 u σ Q true H:=iteT h
theorem orkF {u:TT}{σ:L2.St}{Q:Bool→Hp→Prop}{H:Hp}(h:u σ H Q):tOr_k1 u σ Q false H:=iteF h
theorem ifkT {ta tb:TE}{σ:L2.St}{Q:VK}{H:Hp}(h:ta σ H Q):tIf_k1 ta tb σ Q true H:=iteT h
theorem ifkF {ta tb:TE}{σ:L2.St}{Q:VK}{H:Hp}(h:tb σ H Q):tIf_k1 ta tb σ Q false H:=iteF h
theorem nkF {Q:Bool→Hp→Prop}{H:Hp}(h:Q true H):tNot_k1 Q false H:=h
theorem nkT {Q:Bool→Hp→Prop}{H:Hp}(h:Q false H):tNot_k1 Q true H:=h
theorem lt0 {n c:Nat}(h:n+64 < c):n < c:=by omega
noncomputable def atZ (w:List L)(j:Int):L:=w.getD (j % (w.length:Int)).toNat 0
noncomputable def sgZ (w:List L)(p wy k:Int):L:=if wy=1 then atZ w (p+wy*k) else inv (atZ w (p+wy*k))
theorem atZ_per {w:List L}(j:Int):atZ w (j+(w.length:Int))=atZ w j:=by
 unfold atZ
 rw [Int.add_emod_right]
theorem sg_per {w:List L}{wy:Int}(hw:wy=1 ∨ wy = -1)(p k:Int):sgZ w p wy (k+(w.length:Int))=sgZ w p wy k:=by
 unfold sgZ
 rcases hw with rfl | rfl
 ·rw [if_pos rfl,if_pos rfl,← atZ_per (p+1*k)]
  congr 1
  omega
 ·rw [if_neg (by decide),if_neg (by decide),← atZ_per (p + -1*(k+(w.length:Int)))]
  congr 2
  omega
theorem per_back {f g:Int→L}{a b:Int}(ha:0 < a)(hb:0 < b)(pf:∀ k,f (k+a)=f k)(pg:∀ k,g (k+b)=g k)(h:∀ k,0≤k→k < a+b→f k=g k):f (-1)=g (-1):=by
 have e1:=pf (-1)
 have e2:=h (-1+a) (by omega) (by omega)
 have e3:=pg (-1+a)
 have e4:=h (-1+a+b) (by omega) (by omega)
 have e5:=pf (-1+b)
 have e6:=h (-1+b) (by omega) (by omega)
 have e7:=pg (-1)
 rw [← e1,e2,← e3,← e4,show -1+a+b = -1+b+a by omega,e5,e6,e7]
noncomputable def frN (f g:Int→L):Nat→Nat→Nat
 | k,0=>k
 | k,b+1=>if f k=g k then frN f g (k+1) b else k
theorem fr_spec (f g:Int→L):∀ (b k:Nat),k≤frN f g k b∧frN f g k b≤k+b∧(∀ j:Nat,k≤j→j < frN f g k b→f j=g j)∧(frN f g k b < k+b→f (frN f g k b)≠g (frN f g k b))
 | 0,k=>⟨Nat.le_refl _,Nat.le_refl _,fun j h1 h2=>absurd h2 (by show ¬ j < k;omega),fun h=>absurd h (by show ¬ k < k+0;omega)⟩
 | b+1,k=>by
  unfold frN
  by_cases e:f k=g k
  ·rw [if_pos e]
   obtain ⟨h1,h2,h3,h4⟩:=fr_spec f g b (k+1)
   refine ⟨by omega,by omega,fun j hj hl=>?_,fun h=>h4 (by omega)⟩
   by_cases hk:j=k
   ·rw [hk];exact e
   ·exact h3 j (by omega) hl
  ·rw [if_neg e]
   exact ⟨Nat.le_refl _,by omega,fun j h1 h2=>by omega,fun _=>e⟩
noncomputable def ptB (u:List L)(f g:Int→L)(n:Nat):Bool:=decide (0 < n) && (decide (f (-1)≠g (-1)) && (decide (f n≠g n) && (decide (rfI u (inv (f ((n:Int) - 1))) (f n) < rfI u (inv (f ((n:Int) - 1))) (g n)) == decide (rfI u (f 0) (inv (f (-1))) < rfI u (f 0) (inv (g (-1)))))))
theorem ptB_back {u:List L}{f g:Int→L}{n:Nat}(h:f (-1)=g (-1)):ptB u f g n=false:=by
 unfold ptB
 rw [decide_eq_false (p:=f (-1)≠g (-1)) (fun z=>z h),Bool.false_and,Bool.and_false]
theorem fr_end {w v:List L}(hw:w≠[])(hv:v≠[]){p q wy:Int}(hy:wy=1 ∨ wy = -1)(h:sgZ w p 1 (-1)≠sgZ v q wy (-1)):frN (sgZ w p 1) (sgZ v q wy) 0 (w.length+v.length) < w.length+v.length∧sgZ w p 1 (frN (sgZ w p 1) (sgZ v q wy) 0 (w.length+v.length))≠sgZ v q wy (frN (sgZ w p 1) (sgZ v q wy) 0 (w.length+v.length)):=by
 have l1:=List.length_pos_iff.mpr hw
 have l2:=List.length_pos_iff.mpr hv
 obtain ⟨_,h2,h3,h4⟩:=fr_spec (sgZ w p 1) (sgZ v q wy) (w.length+v.length) 0
 generalize frN (sgZ w p 1) (sgZ v q wy) 0 (w.length+v.length)=n at h2 h3 h4 ⊢
 by_cases c:n < w.length+v.length
 ·exact ⟨c,h4 (by omega)⟩
 ·refine absurd (per_back (f:=sgZ w p 1) (g:=sgZ v q wy) (a:=(w.length:Int)) (b:=(v.length:Int)) (by omega) (by omega) (sg_per (.inl rfl) p) (sg_per hy q) fun k hk hl=>?_) h
  obtain ⟨m,rfl⟩:=Int.eq_ofNat_of_zero_le hk
  exact h3 m (Nat.zero_le _) (by omega)
theorem rd_step {w:List L}(h:Rd w){a:Nat}(ha:a+1 < w.length):w[a+1]≠inv w[a]:=by
 have e:w=w.take (a+1)++w.drop (a+1):=(List.take_append_drop _ _).symm
 rw [e] at h
 obtain ⟨_,_,j⟩:=(rd_append _ _).mp h
 refine j _ _ ?_ ?_
 ·rw [List.getLast?_eq_getElem?,List.length_take,show min (a+1) w.length - 1=a by omega,List.getElem?_take_of_lt (by omega),List.getElem?_eq_getElem (by omega)]
 ·rw [List.head?_eq_getElem?,List.getElem?_drop,List.getElem?_eq_getElem (by omega)]
theorem rnd_at {w:List L}(R:Rnd w)(j:Int):atZ w (j+1)≠inv (atZ w j):=by
 have l1:=List.length_pos_iff.mpr R.ne
 have e0:=Int.emod_nonneg j (show (w.length:Int)≠0 by omega)
 have e1:=Int.emod_lt_of_pos j (show (0:Int) < (w.length:Int) by omega)
 obtain ⟨a,ha⟩:=Int.eq_ofNat_of_zero_le e0
 have hal:a < w.length:=by omega
 have ea:atZ w j=w[a]:=by
  unfold atZ
  rw [ha,List.getD_eq_getElem?_getD,Int.toNat_natCast,List.getElem?_eq_getElem hal]
  rfl
 rw [ea]
 by_cases c:a+1 < w.length
 ·have e2:(j+1) % (w.length:Int)=((a+1:Nat):Int):=by
   rw [Int.add_emod,ha,show (1:Int) % (w.length:Int)=1 from Int.emod_eq_of_lt (by omega) (by omega)]
   exact Int.emod_eq_of_lt (by omega) (by omega)
  have e3:atZ w (j+1)=w[a+1]:=by
   unfold atZ
   rw [e2,List.getD_eq_getElem?_getD,Int.toNat_natCast,List.getElem?_eq_getElem c]
   rfl
  rw [e3]
  exact rd_step R.rd c
 ·have e2:(j+1) % (w.length:Int)=0:=by
   have:j+1=(w.length:Int)*(j / (w.length:Int))+(w.length:Int):=by
    have:=Int.mul_ediv_add_emod j (w.length:Int)
    omega
   rw [this,Int.add_emod_right,Int.mul_emod_right]
  have e3:atZ w (j+1)=w[0]:=by
   unfold atZ
   rw [e2,List.getD_eq_getElem?_getD,show (0:Int).toNat=0 from rfl,List.getElem?_eq_getElem l1]
   rfl
  rw [e3]
  have hl:w.getLast? = some w[a]:=by
   rw [List.getLast?_eq_getElem?,show w.length - 1=a by omega,List.getElem?_eq_getElem hal]
  have hh:w.head? = some w[0]:=by rw [List.head?_eq_getElem?,List.getElem?_eq_getElem l1]
  exact R.jn _ _ hl hh
theorem no_self {w:List L}(R:Rnd w){p q:Int}{n:Nat}(hn:0 < n)(h:∀ j:Nat,j < n→sgZ w p 1 j=sgZ w q (-1) j)(hq:(q - n+1) % (w.length:Int)=p % (w.length:Int)):False:=by
 have at_mod:∀ {i j:Int},i % (w.length:Int)=j % (w.length:Int)→atZ w i=atZ w j:=fun e=>by unfold atZ;rw [e]
 have key:∀ j:Nat,j < n→atZ w (p+j)=inv (atZ w (p+(n:Int) - 1 - j)):=fun j hj=>by
  have:=h j hj
  unfold sgZ at this
  rw [if_pos rfl,if_neg (by decide)] at this
  rw [show p+(j:Int)=p+1*(j:Int) by omega,this]
  congr 1
  refine at_mod ?_
  have e:q + -1*(j:Int)=(q - n+1)+((n:Int) - 1 - j):=by omega
  rw [e,Int.add_emod,hq,← Int.add_emod]
  congr 1
  omega
 by_cases c:n % 2=1
 ·obtain ⟨r,hr⟩:∃ r,n=2*r+1:=⟨n / 2,by omega⟩
  have:=key r (by omega)
  rw [show p+(n:Int) - 1 - (r:Int)=p+r by omega] at this
  exact inv_ne _ this.symm
 ·obtain ⟨r,hr⟩:∃ r,n=2*(r+1):=⟨n / 2 - 1,by omega⟩
  have:=key (r+1) (by omega)
  rw [show p+(n:Int) - 1 - ((r+1:Nat):Int)=p+r by omega,show p+((r+1:Nat):Int)=(p+r)+1 by omega] at this
  exact rnd_at R _ this
noncomputable abbrev P2:=Int × Int
inductive Lnk where
 | b (s t:P2)
 | a (s t:P2) (n:Nat)
 | g (s t:P2) (n:Nat)
noncomputable def cB:List Int:=("beside":Str).cps.toList.map Int.ofNat
noncomputable def cA:List Int:=("along":Str).cps.toList.map Int.ofNat
noncomputable def cG:List Int:=("against":Str).cps.toList.map Int.ofNat
theorem cB_A:cB≠cA:=by decide +kernel
theorem cB_G:cB≠cG:=by decide +kernel
noncomputable def pZ (s:P2):List Int:=[s.1,s.2]
noncomputable def Lnk.key:Lnk→QKey
 | .b s t=>[cB,pZ s,pZ t]
 | .a s t n=>[cA,pZ s,pZ t,[(n:Int)]]
 | .g s t n=>[cG,pZ s,pZ t,[(n:Int)]]
noncomputable def shL:List Int→List Kn:=fun x=>if x=cB then [.p,.p] else [.p,.p,.i]
noncomputable abbrev Sp2 (H:Hp)(a:Addr)(s:P2):Prop:=H a=some (.tup [.int s.1,.int s.2])
noncomputable def LkAt (H:Hp)(r:Addr):Lnk→Prop
 | .b s t=>∃ a c,H r=some (.tup [.str "beside",.ref a,.ref c])∧Sp2 H a s∧Sp2 H c t
 | .a s t n=>∃ a c,H r=some (.tup [.str "along",.ref a,.ref c,.int (n:Nat)])∧Sp2 H a s∧Sp2 H c t
 | .g s t n=>∃ a c,H r=some (.tup [.str "against",.ref a,.ref c,.int (n:Nat)])∧Sp2 H a s∧Sp2 H c t
theorem LkAt.to {H H':Hp}{r:Addr}{k:Lnk}(h:LkAt H r k)(s:∀ b ys,H b=some (.tup ys)→H' b=some (.tup ys)):LkAt H' r k:=by
 cases k with
 | b _ _=>obtain ⟨a,c,h1,h2,h3⟩:=h;exact ⟨a,c,s _ _ h1,s _ _ h2,s _ _ h3⟩
 | a _ _ _=>obtain ⟨a,c,h1,h2,h3⟩:=h;exact ⟨a,c,s _ _ h1,s _ _ h2,s _ _ h3⟩
 | g _ _ _=>obtain ⟨a,c,h1,h2,h3⟩:=h;exact ⟨a,c,s _ _ h1,s _ _ h2,s _ _ h3⟩
theorem LkAt.kd {H:Hp}{r:Addr}{k:Lnk}(h:LkAt H r k):KdQ .s shL H r k.key:=by
 cases k with
 | b s t =>
  obtain ⟨a,c,h1,h2,h3⟩:=h
  refine ⟨_,h1,?_⟩
  show FlQ H (.s::shL cB) _ [cB,pZ s,pZ t]
  unfold shL
  rw [if_pos rfl]
  exact .s _ (.p h2 (.p h3 .nil))
 | a s t n =>
  obtain ⟨a,c,h1,h2,h3⟩:=h
  refine ⟨_,h1,?_⟩
  show FlQ H (.s::shL cA) _ [cA,pZ s,pZ t,[(n:Int)]]
  unfold shL
  rw [if_neg cB_A.symm]
  exact .s _ (.p h2 (.p h3 (.i _ .nil)))
 | g s t n =>
  obtain ⟨a,c,h1,h2,h3⟩:=h
  refine ⟨_,h1,?_⟩
  show FlQ H (.s::shL cG) _ [cG,pZ s,pZ t,[(n:Int)]]
  unfold shL
  rw [if_neg cB_G.symm]
  exact .s _ (.p h2 (.p h3 (.i _ .nil)))
noncomputable def LkA (H:Hp)(zs:List (Addr × Lnk)):Prop:=∀ z∈zs,LkAt H z.1 z.2
theorem LkA.to {H H':Hp}{zs:List (Addr × Lnk)}(h:LkA H zs)(s:∀ b ys,H b=some (.tup ys)→H' b=some (.tup ys)):LkA H' zs:=fun z hz=>(h z hz).to s
theorem LkA.same {H H':Hp}{zs:List (Addr × Lnk)}(h:LkA H zs)(s:Same H H'):LkA H' zs:=h.to fun _ _ e=>s _ _ e
theorem LkA.app {H:Hp}{zs ys:List (Addr × Lnk)}(h:LkA H zs)(g:LkA H ys):LkA H (zs++ys):=fun z hz=>(List.mem_append.mp hz).elim (h z) (g z)
noncomputable def ltP (s t:P2):Bool:=HT.lexLt [s.1,s.2] [t.1,t.2]
theorem ltP_iff {s t:P2}:ltP s t=true ↔ s.1 < t.1 ∨ (s.1=t.1∧s.2 < t.2):=by
 unfold ltP
 rw [HT.lexLt_cons,HT.lexLt_cons,HT.lexLt_nil_nil]
 by_cases e1:s.1=t.1
 ·rw [if_pos e1]
  by_cases e2:s.2=t.2
  ·rw [if_pos e2]
   simp only [Bool.false_eq_true,false_iff,not_or,not_and]
   omega
  ·rw [if_neg e2,decide_eq_true_iff]
   omega
 ·rw [if_neg e1,decide_eq_true_iff]
  omega
noncomputable def fourB (u:List L)(a b c d:L):Bool:=decide ([a,b,c,d].Nodup) && (decide (rfI u a c < rfI u a b) != decide (rfI u a d < rfI u a b))
noncomputable def wyZ (W:List (List L))(i:Int):List L:=W.getD i.toNat []
noncomputable def fZ (W:List (List L))(s:P2)(wy:Int):Int→L:=sgZ (wyZ W s.1) s.2 wy
noncomputable def nZ (W:List (List L))(s t:P2)(wy:Int):Nat:=frN (fZ W s 1) (fZ W t wy) 0 ((wyZ W s.1).length+(wyZ W t.1).length)
noncomputable def besZ (u:List L)(W:List (List L))(s t:P2):List Lnk:=if ltP s t && fourB u (inv (fZ W s 1 0)) (fZ W s 1 1) (inv (fZ W t 1 0)) (fZ W t 1 1) then [.b s t] else []
noncomputable def algZ (u:List L)(W:List (List L))(s t:P2):List Lnk:=if ltP s t && ptB u (fZ W s 1) (fZ W t 1) (nZ W s t 1) then [.a s t (nZ W s t 1)] else []
noncomputable def fstZ (W:List (List L))(s t:P2)(n:Nat):P2:=(t.1,(t.2 - (n:Int)+1) % ((wyZ W t.1).length:Int))
noncomputable def agnZ (u:List L)(W:List (List L))(s t:P2):List Lnk:=if ltP s (fstZ W s t (nZ W s t (-1))) && ptB u (fZ W s 1) (fZ W t (-1)) (nZ W s t (-1)) then [.g s t (nZ W s t (-1))] else []
structure WyR (n:Nat) (W:List (List L)):Prop where
 le:W.length≤4
 lo:1≤W.length
 ws:∀ w∈W,Rnd w∧w.length≤30∧InM n w
structure WyA (n:Nat) (W:List (List L)) (H:Hp) (a:Addr):Prop where
 at_:H a=some (.tup (W.map tx))
 ok:WyR n W
theorem WyA.same {n:Nat}{W:List (List L)}{H H':Hp}{a:Addr}(h:WyA n W H a)(s:Same H H'):WyA n W H' a:=⟨s _ _ h.at_,h.ok⟩
noncomputable def okP (W:List (List L))(s:P2):Prop:=0≤s.1∧s.1 < (W.length:Int)∧0≤s.2∧s.2 < ((wyZ W s.1).length:Int)
theorem WyR.get {n:Nat}{W:List (List L)}(h:WyR n W){i:Int}(h0:0≤i)(h1:i < (W.length:Int)):wyZ W i∈W∧atI (W.map tx) i=some (tx (wyZ W i))∧Rnd (wyZ W i)∧(wyZ W i).length≤30∧0 < (wyZ W i).length∧InM n (wyZ W i):=by
 obtain ⟨m,rfl⟩:=Int.eq_ofNat_of_zero_le h0
 have hm:m < W.length:=by omega
 have e:wyZ W (m:Int)=W[m]:=by
  unfold wyZ
  rw [Int.toNat_natCast,List.getD_eq_getElem?_getD,List.getElem?_eq_getElem hm]
  rfl
 rw [e]
 have hmem:=List.getElem_mem hm
 obtain ⟨a,b,c⟩:=h.ws _ hmem
 exact ⟨hmem,atI_nat (j:=m) (by rw [List.getElem?_map,List.getElem?_eq_getElem hm];rfl),a,b,List.length_pos_iff.mpr a.ne,c⟩
theorem atZ_mem {w:List L}(h:0 < w.length)(j:Int):atZ w j∈w:=by
 have e0:=Int.emod_nonneg j (show (w.length:Int)≠0 by omega)
 have e1:=Int.emod_lt_of_pos j (show (0:Int) < (w.length:Int) by omega)
 unfold atZ
 rw [List.getD_eq_getElem?_getD,List.getElem?_eq_getElem (show (j % (w.length:Int)).toNat < w.length by omega)]
 exact List.getElem_mem _
theorem sg_in38 {n:Nat}{w:List L}(h:0 < w.length)(hi:InM n w)(p wy k:Int):(sgZ w p wy k).val % 6 < n:=by
 unfold sgZ
 have:=hi _ (atZ_mem h (p+wy*k))
 split
 ·exact this
 ·rw [inv_val]
  have:=(atZ w (p+wy*k)).isLt
  split <;> omega
theorem agn_prog {n:Nat}{u:List L}{W:List (List L)}(hW:WyR n W){s t:P2}(hs:okP W s)(ht:okP W t)(hb:fZ W s 1 (-1)≠fZ W t (-1) (-1)):(if ltP (fstZ W s t (nZ W s t (-1))) s then [] else if ptB u (fZ W s 1) (fZ W t (-1)) (nZ W s t (-1)) then [Lnk.g s t (nZ W s t (-1))] else [])=agnZ u W s t:=by
 unfold agnZ
 by_cases c1:ltP (fstZ W s t (nZ W s t (-1))) s=true
 ·rw [if_pos c1]
  have:ltP s (fstZ W s t (nZ W s t (-1)))=false:=by
   rw [Bool.eq_false_iff]
   intro z
   rw [ltP_iff] at c1 z
   omega
  rw [this,Bool.false_and,if_neg (by decide)]
 ·rw [if_neg c1]
  by_cases c2:ltP s (fstZ W s t (nZ W s t (-1)))=true
  ·rw [c2,Bool.true_and]
  ·have e:s=fstZ W s t (nZ W s t (-1)):=by
    have c1:¬ (ltP (fstZ W s t (nZ W s t (-1))) s=true):=c1
    rw [ltP_iff] at c1 c2
    exact Prod.ext (by omega) (by omega)
   have:ptB u (fZ W s 1) (fZ W t (-1)) (nZ W s t (-1))=false:=by
    rw [Bool.eq_false_iff]
    intro z
    unfold ptB at z
    rw [Bool.and_eq_true,decide_eq_true_iff] at z
    obtain ⟨hn,_⟩:=z
    have e1:s.1=t.1:=by
     have:=congrArg Prod.fst e
     exact this
    have e2:s.2=(t.2 - (nZ W s t (-1):Nat)+1) % ((wyZ W t.1).length:Int):=congrArg Prod.snd e
    obtain ⟨_,_,R,_,lp,_⟩:=hW.get hs.1 hs.2.1
    refine no_self (w:=wyZ W s.1) (p:=s.2) (q:=t.2) R hn (fun j hj=>?_) ?_
    ·have:=(fr_spec (fZ W s 1) (fZ W t (-1)) ((wyZ W s.1).length+(wyZ W t.1).length) 0).2.2.1 j (Nat.zero_le _) hj
     unfold fZ at this
     rw [← e1] at this
     exact this
    ·rw [← e1] at e2
     rw [e2,Int.emod_emod_of_dvd _ (Int.dvd_refl _)]
   rw [this,Bool.and_false]
noncomputable def lkZ (u:List L)(W:List (List L))(s t:P2):List Lnk:=besZ u W s t++(algZ u W s t++agnZ u W s t)
noncomputable def rowL (u:List L)(W:List (List L))(i j:Int)(p:Nat)(m:Nat):List Lnk:=(List.range m).flatMap fun q:Nat=>lkZ u W (i,(p:Int)) (j,(q:Int))
noncomputable def allL (u:List L)(W:List (List L))(i j:Int)(m:Nat):List Lnk:=(List.range m).flatMap fun p:Nat=>rowL u W i j p (wyZ W j).length
theorem row_succ (u:List L)(W:List (List L))(i j:Int)(p m:Nat):rowL u W i j p (m+1)=rowL u W i j p m++lkZ u W (i,(p:Int)) (j,(m:Int)):=by
 unfold rowL
 rw [List.range_succ,List.flatMap_append]
 simp
theorem all_succ (u:List L)(W:List (List L))(i j:Int)(m:Nat):allL u W i j (m+1)=allL u W i j m++rowL u W i j m (wyZ W j).length:=by
 unfold allL
 rw [List.range_succ,List.flatMap_append]
 simp
theorem lk_len (u:List L)(W:List (List L))(s t:P2):(lkZ u W s t).length≤3:=by
 unfold lkZ besZ algZ agnZ
 rw [List.length_append,List.length_append]
 have h:∀ (b:Bool) (x:Lnk),(if b=true then [x] else []).length≤1:=fun b x=>by cases b <;> simp
 have h1:=h (ltP s t && fourB u (inv (fZ W s 1 0)) (fZ W s 1 1) (inv (fZ W t 1 0)) (fZ W t 1 1)) (.b s t)
 have h2:=h (ltP s t && ptB u (fZ W s 1) (fZ W t 1) (nZ W s t 1)) (.a s t (nZ W s t 1))
 have h3:=h (ltP s (fstZ W s t (nZ W s t (-1))) && ptB u (fZ W s 1) (fZ W t (-1)) (nZ W s t (-1))) (.g s t (nZ W s t (-1)))
 omega
theorem row_len (u:List L)(W:List (List L))(i j:Int)(p:Nat):∀ m,(rowL u W i j p m).length≤3*m
 | 0=>Nat.le_refl _
 | m+1=>by
  have:=row_len u W i j p m
  have:=lk_len u W (i,(p:Int)) (j,(m:Int))
  rw [row_succ,List.length_append]
  omega
theorem all_len (u:List L)(W:List (List L))(i j:Int){b:Nat}(hb:(wyZ W j).length≤b):∀ m,(allL u W i j m).length≤3*b*m
 | 0=>Nat.le_refl _
 | m+1=>by
  have:=all_len u W i j hb m
  have:=row_len u W i j m (wyZ W j).length
  rw [all_succ,List.length_append,Nat.mul_add,Nat.mul_one]
  omega
noncomputable abbrev Wk3 (H:Hp)(x:Addr)(s:P2)(wy:Int):Prop:=H x=some (.tup [.int s.1,.int s.2,.int wy])
inductive spRf (vs:List V)(H:Hp)(Q:VK)(u3_:XK):Prop
 | mk:∀ (u:List L) (k:Nat) (a b:L),(vs=[tx u,tx [a],tx [b]])→SK u k→a∈u→b∈u→Q (.int (rfI u a b)) H→spRf vs H Q u3_
inductive spFst (vs:List V)(H:Hp)(Q:VK)(u3_:XK):Prop
 | mk:∀ (u:List L) (k:Nat) (s a b:L),(vs=[tx u,tx [s],tx [a],tx [b]])→SK u k→s∈u→a∈u→b∈u→(∀ H',Same H H'→Q (.bl (decide (rfI u s a < rfI u s b))) H')→spFst vs H Q u3_
inductive spMets (vs:List V)(H:Hp)(Q:VK)(u3_:XK):Prop
 | mk:∀ (a x:Addr) (n:Nat) (W:List (List L)) (s:P2) (wy k:Int),(vs=[.ref a,.ref x,.int k])→WyA n W H a→Wk3 H x s wy→0≤s.1→s.1 < (W.length:Int)→(wy=1 ∨ wy = -1)→(∀ H',Same H H'→Q (tx [fZ W s wy k]) H')→spMets vs H Q u3_
inductive spStrc (vs:List V)(H:Hp)(Q:VK)(u3_:XK):Prop
 | mk:∀ (a x y:Addr) (n:Nat) (W:List (List L)) (s t:P2) (wy:Int),(vs=[.ref a,.ref x,.ref y])→WyA n W H a→Wk3 H x s 1→Wk3 H y t wy→okP W s→okP W t→(wy=1 ∨ wy = -1)→(∀ H',Same H H'→Q (.int ((if fZ W s 1 (-1)=fZ W t wy (-1) then 0 else nZ W s t wy:Nat):Int)) H')→spStrc vs H Q u3_
noncomputable def partZ (u:List L)(f g:Int→L)(n:Nat):Bool:=decide (0 < n) && (decide (rfI u (inv (f ((n:Int) - 1))) (f n) < rfI u (inv (f ((n:Int) - 1))) (g n)) == decide (rfI u (f 0) (inv (f (-1))) < rfI u (f 0) (inv (g (-1)))))
inductive spPart (vs:List V)(H:Hp)(Q:VK)(u3_:XK):Prop
 | mk:∀ (u:List L) (a x y:Addr) (n m:Nat) (W:List (List L)) (s t:P2) (wy:Int),(vs=[tx u,.ref a,.ref x,.ref y,.int (m:Nat)])→SK u n→WyA n W H a→Wk3 H x s 1→Wk3 H y t wy→okP W s→okP W t→(wy=1 ∨ wy = -1)→(∀ H',Same H H'→Q (.bl (partZ u (fZ W s 1) (fZ W t wy) m)) H')→spPart vs H Q u3_
inductive spCe (vs:List V)(H:Hp)(Q:VK)(u3_:XK):Prop
 | mk:∀ (a x:Addr) (n:Nat) (W:List (List L)) (s:P2),(vs=[.ref a,.ref x])→WyA n W H a→Sp2 H x s→okP W s→(∀ H',Same H H'→Q (tx [inv (fZ W s 1 0),fZ W s 1 1]) H')→spCe vs H Q u3_
inductive spLk (r:List L→List (List L)→P2→P2→List Lnk)(vs:List V)(H:Hp)(Q:VK)(u3_:XK):Prop
 | mk:∀ (u:List L) (a x y:Addr) (n:Nat) (W:List (List L)) (s t:P2),(vs=[tx u,.ref a,.ref x,.ref y])→SK u n→WyA n W H a→Sp2 H x s→Sp2 H y t→okP W s→okP W t →
  (∀ (l:Addr) (zs:List (Addr × Lnk)) (H':Hp),H l=none→Same H H'→H' l=some (.lst ((zs.map (·.1)).map V.ref))→LkA H' zs→zs.map (·.2)=r u W s t→Q (.ref l) H')→spLk r vs H Q u3_
noncomputable def rBes (u:List L)(W:List (List L))(s t:P2):List Lnk:=if fourB u (inv (fZ W s 1 0)) (fZ W s 1 1) (inv (fZ W t 1 0)) (fZ W t 1 1) then [.b s t] else []
noncomputable def rAlg (u:List L)(W:List (List L))(s t:P2):List Lnk:=if ptB u (fZ W s 1) (fZ W t 1) (nZ W s t 1) then [.a s t (nZ W s t 1)] else []
noncomputable def rLat (u:List L)(W:List (List L))(s t:P2):List Lnk:=agnZ u W s t++(if ltP s t then rAlg u W s t++rBes u W s t else [])
theorem rLat_perm (u:List L)(W:List (List L))(s t:P2):(rLat u W s t).Perm (lkZ u W s t):=by
 unfold rLat lkZ algZ besZ rAlg rBes
 cases ltP s t with
 | true =>
  rw [if_pos rfl,Bool.true_and,Bool.true_and]
  refine List.perm_append_comm.trans ?_
  rw [← List.append_assoc]
  exact (List.perm_append_comm).append_right _
 | false =>
  rw [if_neg (by decide),Bool.false_and,Bool.false_and,if_neg (by decide),if_neg (by decide)]
  simp
inductive spLinks (vs:List V)(H:Hp)(Q:VK)(u3_:XK):Prop
 | mk:∀ (u:List L) (a:Addr) (n:Nat) (W:List (List L)) (i j:Int),(vs=[tx u,.ref a,.int i,.int j])→SK u n→WyA n W H a→0≤i→i < (W.length:Int)→0≤j→j < (W.length:Int) →
  (∀ (l:Addr) (zs:List (Addr × Lnk)) (H':Hp),H l=none→Same H H'→H' l=some (.lst ((zs.map (·.1)).map V.ref))→LkA H' zs→(zs.map (·.2)).Perm (allL u W i j (wyZ W i).length)→((zs.map (·.2)).map Lnk.key).Pairwise qle→Q (.ref l) H')→spLinks vs H Q u3_
theorem pt_in {n:Nat}{u:List L}(U:SK u n){W:List (List L)}(hW:WyR n W){s:P2}(os:okP W s)(wy k:Int):fZ W s wy k∈u∧inv (fZ W s wy k)∈u:=by
 obtain ⟨_,_,_,_,lp,hi⟩:=hW.get os.1 os.2.1
 have:=sg_in38 lp hi s.2 wy k
 exact ⟨(U.mem _).mpr this,(U.mem _).mpr (by rw [inv_mod];exact this)⟩
theorem part_of {u:List L}{f g:Int→L}{n:Nat}(h:f (-1)≠g (-1))(h':f n≠g n):partZ u f g n=ptB u f g n:=by
 unfold partZ ptB
 rw [decide_eq_true h,decide_eq_true h',Bool.true_and,Bool.true_and]
theorem part_0 {u:List L}{f g:Int→L}:partZ u f g 0=false:=rfl
theorem part_str {n:Nat}{u:List L}{W:List (List L)}(hW:WyR n W){s t:P2}(os:okP W s)(ot:okP W t){wy:Int}(hwy:wy=1 ∨ wy = -1):partZ u (fZ W s 1) (fZ W t wy) (if fZ W s 1 (-1)=fZ W t wy (-1) then 0 else nZ W s t wy)=ptB u (fZ W s 1) (fZ W t wy) (nZ W s t wy):=by
 by_cases e:fZ W s 1 (-1)=fZ W t wy (-1)
 ·rw [if_pos e,part_0,ptB_back e]
 ·rw [if_neg e]
  obtain ⟨_,_,Rw,_⟩:=hW.get os.1 os.2.1
  obtain ⟨_,_,Rv,_⟩:=hW.get ot.1 ot.2.1
  exact part_of e (fr_end Rw.ne Rv.ne hwy e).2
theorem eq_bl (a b:Bool):(a == b)=decide (V.bl a=V.bl b):=by cases a <;> cases b <;> rfl
theorem ret_no {H H4:Hp}{Q:VK}{r:List Lnk}{l:Addr}(q:Same H H4)(hl:H4 l=none)(k:∀ (l:Addr) (zs:List (Addr × Lnk)) (H':Hp),H l=none→Same H H'→H' l=some (.lst ((zs.map (·.1)).map V.ref))→LkA H' zs→zs.map (·.2)=r→Q (.ref l) H')(e:r=[]):Q (.ref l) (upd H4 l (.lst [])) :=
 k l [] _ (q.free hl) (q.trans (Same.new hl)) upd_same (fun _ h=>absurd h (by simp)) e.symm
theorem ret_yes {H H4:Hp}{Q:VK}{r:List Lnk}{m:Lnk}{l c:Addr}{ys:List V}(q:Same H H4)(hc:H4 c=none)(hl:(upd H4 c (.tup ys)) l=none)(hm:LkAt (upd H4 c (.tup ys)) c m)(k:∀ (l:Addr) (zs:List (Addr × Lnk)) (H':Hp),H l=none→Same H H'→H' l=some (.lst ((zs.map (·.1)).map V.ref))→LkA H' zs→zs.map (·.2)=r→Q (.ref l) H')(e:r=[m]):Q (.ref l) (upd (upd H4 c (.tup ys)) l (.lst [.ref c])):=by
 have q1:=q.trans (Same.new (o:=.tup ys) hc)
 refine k l [(c,m)] _ (q1.free hl) (q1.trans (Same.new hl)) upd_same (fun z h=>?_) e.symm
 rw [List.mem_singleton.mp h]
 exact hm.to fun _ _ e=>Same.new hl _ _ e
theorem over_same {H H2:Hp}{l:Addr}{o:HO}(s:Same H H2)(h:H l=none):Same H (upd H2 l o):=fun b u e=>by rw [upd_ne (ne_of_none e h)]; exact s b u e
theorem over_tup {H:Hp}{l:Addr}{xs:List V}{o:HO}(h:H l=some (.lst xs)):∀ b ys,H b=some (.tup ys)→(upd H l o) b=some (.tup ys):=fun b ys e=>by
 have:b≠l:=fun z=>by rw [z,h] at e;cases e
 rw [upd_ne this]
 exact e
theorem maps_app (xs ys:List (Addr × Lnk)):((xs.map (·.1)).map V.ref)++((ys.map (·.1)).map V.ref)=((xs++ys).map (·.1)).map V.ref:=by rw [List.map_append,List.map_append]
theorem at38 {w:List L}{j:Int}(h:0 < (w.length:Int)):atI (toS w).cps.toList (j % (w.length:Int))=some (cp (atZ w j)):=by
 have e0:=Int.emod_nonneg j (show (w.length:Int)≠0 by omega)
 have e1:=Int.emod_lt_of_pos j h
 refine atI_toS (k:=(j % (w.length:Int)).toNat) (by omega) ?_
 unfold atZ
 rw [List.getD_eq_getElem?_getD,List.getElem?_eq_getElem (show (j % (w.length:Int)).toNat < w.length by omega)]
 rfl
theorem set4 {a b c d:L}{dl:List Str}(nd:dl.Nodup)(hm:∀ z,z∈dl ↔ ∃ x∈[a,b,c,d],z=toS [x]):decide ((dl.length:Int) < 4)=!decide ([a,b,c,d].Nodup):=by
 by_cases h:[a,b,c,d].Nodup
 ·rw [decide_eq_true h]
  refine decide_eq_false ?_
  have nd2:([a,b,c,d].map fun x=>toS [x]).Nodup:=List.Pairwise.map _ (fun x y n e=>n (List.cons.inj (toS_inj e)).1) h
  have p:([a,b,c,d].map fun x=>toS [x]).Perm dl:=(List.perm_ext_iff_of_nodup nd2 nd).mpr fun z=>by
   rw [hm,List.mem_map]
   exact ⟨fun ⟨x,h1,h2⟩=>⟨x,h1,h2.symm⟩,fun ⟨x,h1,h2⟩=>⟨x,h1,h2.symm⟩⟩
  have:=p.length_eq
  rw [List.length_map] at this
  have:dl.length=4:=this.symm
  omega
 ·rw [decide_eq_false h]
  refine decide_eq_true ?_
  have key:∀ x y z:L,(∀ v∈[a,b,c,d],v∈[x,y,z])→(dl.length:Int) < 4:=fun x y z hs=>by
   apply Classical.byContradiction
   intro n
   have:=(perm_of_members (zs:=[toS [x],toS [y],toS [z]]) nd (fun k hk=>by
    obtain ⟨v,hv,rfl⟩:=(hm k).mp hk
    have:=hs v hv
    simp only [List.mem_cons,List.not_mem_nil,or_false] at this ⊢
    rcases this with rfl | rfl | rfl
    ·exact .inl rfl
    ·exact .inr (.inl rfl)
    ·exact .inr (.inr rfl)) (by show 3≤_;omega)).length_eq
   have:3=dl.length:=this
   omega
  simp only [List.nodup_cons,List.mem_cons,List.not_mem_nil,or_false,not_false_eq_true,List.nodup_nil,and_true,not_or] at h
  by_cases e1:a=b
  ·exact key b c d (by intro v hv;simp only [List.mem_cons,List.not_mem_nil,or_false] at hv ⊢;rw [e1] at hv;rcases hv with h | h | h | h <;> simp [h])
  by_cases e2:a=c
  ·exact key b c d (by intro v hv;simp only [List.mem_cons,List.not_mem_nil,or_false] at hv ⊢;rw [e2] at hv;rcases hv with h | h | h | h <;> simp [h])
  by_cases e3:a=d
  ·exact key b c d (by intro v hv;simp only [List.mem_cons,List.not_mem_nil,or_false] at hv ⊢;rw [e3] at hv;rcases hv with h | h | h | h <;> simp [h])
  by_cases e4:b=c
  ·exact key a c d (by intro v hv;simp only [List.mem_cons,List.not_mem_nil,or_false] at hv ⊢;rw [e4] at hv;rcases hv with h | h | h | h <;> simp [h])
  by_cases e5:b=d
  ·exact key a c d (by intro v hv;simp only [List.mem_cons,List.not_mem_nil,or_false] at hv ⊢;rw [e5] at hv;rcases hv with h | h | h | h <;> simp [h])
  by_cases e6:c=d
  ·exact key a b d (by intro v hv;simp only [List.mem_cons,List.not_mem_nil,or_false] at hv ⊢;rw [e6] at hv;rcases hv with h | h | h | h <;> simp [h])
  exact absurd ⟨⟨e1,e2,e3⟩,⟨e4,e5⟩,e6⟩ h
end Kx
namespace Kx
open PySem PySem.Spec PyProof.Rows L2 Wd Tv
noncomputable def Cyc (w:List L):Prop:=Wd.Rd w∧J w w
theorem Cyc.rnd {w:List L}(h:Cyc w)(n:w≠[]):Rnd w:=⟨n,h.1,h.2⟩
theorem cyc_nil:Cyc []:=⟨trivial,fun x y h=>by simp at h⟩
theorem rnd_one (x:L):Rnd [x]:=⟨by simp,trivial,fun a b ha hb=>by
 have ha:x=a:=by simpa using ha
 have hb:x=b:=by simpa using hb
 subst ha hb
 exact fun e=>inv_ne _ e.symm⟩
theorem rd_mid {x y:L}{mid:List L}(h:Wd.Rd (x::(mid++[y]))):Wd.Rd mid:=((rd_append _ _).mp h.tail).1
theorem cyc_end {x y:L}{mid:List L}(h:Wd.Rd (x::(mid++[y])))(g:x≠inv y):Cyc (x::(mid++[y])):=⟨h,fun a b ha hb=>by
 have e:x::(mid++[y])=(x::mid)++[y]:=rfl
 rw [e,List.getLast?_append,List.getLast?_singleton] at ha
 have ha:y=a:=by simpa using ha
 have hb:x=b:=by simpa using hb
 rw [← ha,← hb]
 exact g⟩
theorem cyc_few {w:List L}(h:¬ 1 < w.length):Cyc w:=by
 match w,h with
 | [],_=>exact cyc_nil
 | [x],_=>exact ⟨(rnd_one x).rd,(rnd_one x).jn⟩
 | x::y::r,h=>simp at h
theorem cyc_rep {v:List L}{n:Nat}(h:Cyc (rep n v))(hn:rep n v≠[]):Cyc v:=by
 cases n with
 | zero=>exact absurd rfl hn
 | succ n=>exact ⟨(rnd_part (h.rnd hn)).rd,(rnd_part (h.rnd hn)).jn⟩
noncomputable def GR (n b:Nat)(w:List L):Prop:=Rnd w∧w.length≤b∧InM n w
theorem rd_all {w:List L}:(∀ a (h:a+1 < w.length),w[a+1]≠inv w[a])→Wd.Rd w:=by
 induction w with
 | nil=>intro _;trivial
 | cons x r ih =>
  intro h
  cases r with
  | nil=>trivial
  | cons y r =>
   refine ⟨h 0 (by simp),ih fun a ha=>?_⟩
   exact h (a+1) (by simp at ha ⊢;omega)
theorem atZ_nat {w:List L}{a:Nat}(h:a < w.length):atZ w (a:Int)=w[a]:=by
 unfold atZ
 rw [Int.emod_eq_of_lt (by omega) (by omega),Int.toNat_natCast,List.getD_eq_getElem?_getD,List.getElem?_eq_getElem h]
 rfl
theorem rnd_of {w:List L}(hne:w≠[])(h:∀ k:Nat,k < w.length→atZ w (k:Int)≠inv (atZ w ((k:Int) - 1))):Rnd w:=by
 have l1:=List.length_pos_iff.mpr hne
 refine ⟨hne,rd_all fun a ha=>?_,fun x y hx hy=>?_⟩
 ·have:=h (a+1) ha
  rw [atZ_nat ha,show ((a+1:Nat):Int) - 1=(a:Int) by omega,atZ_nat (by omega)] at this
  exact this
 ·have:=h 0 l1
  have e:atZ w (((0:Nat):Int) - 1)=w[w.length - 1]:=by
   rw [← atZ_per,show ((0:Nat):Int) - 1+(w.length:Int)=((w.length - 1:Nat):Int) by omega]
   exact atZ_nat (by omega)
  rw [e,atZ_nat l1] at this
  rw [List.getLast?_eq_getElem?,List.getElem?_eq_getElem (show w.length - 1 < w.length by omega)] at hx
  rw [List.head?_eq_getElem?,List.getElem?_eq_getElem l1] at hy
  rw [← Option.some.inj hx,← Option.some.inj hy]
  exact this
end Kx
namespace Kx
open PySem PySem.Spec PyProof.Rows L2 Wd Tv
structure Tl (u v:List L) (f:L→L) (b:Bool):Prop where
 ren:Ren u f
 od:∀ e∈u,∀ x∈u,∀ y∈u,e≠x→e≠y→x≠y→decide (rfI v (f e) (f x) < rfI v (f e) (f y))=(decide (rfI u e x < rfI u e y) != b)
theorem ren_id (u:List L):Ren u id:=⟨fun _=>rfl,fun _ _ _ _ e=>e⟩
theorem idx_map {u:List L}{f:L→L}(R:Ren u f)(nd:u.Nodup){x:L}(h:x∈u):(u.map f).idxOf (f x)=u.idxOf x:=by
 refine idx_of_get (nd_map f nd R.inj) ?_
 rw [List.getElem?_map,get_idx h]
 rfl
theorem rf_ren {u:List L}{f:L→L}(R:Ren u f)(nd:u.Nodup){x y:L}(hx:x∈u)(hy:y∈u):rfI (u.map f) (f x) (f y)=rfI u x y:=by
 unfold rfI
 rw [idx_map R nd hx,idx_map R nd hy,List.length_map]
theorem tl_ren {u:List L}{f:L→L}(R:Ren u f)(nd:u.Nodup):Tl u (u.map f) f false:=⟨R,fun e he x hx y hy _ _ _=>by
 rw [rf_ren R nd he hx,rf_ren R nd he hy,Bool.bne_false]⟩
theorem inv_ne2 {x y:L}(n:x≠y):inv x≠inv y:=fun e=>n (by have:=congrArg inv e; rwa [inv_inv,inv_inv] at this)
theorem bne3 (a b c:Bool):((a != c) != (b != c))=(a != b):=by cases a <;> cases b <;> cases c <;> rfl
theorem beq3 (a b c:Bool):((a != c) == (b != c))=(a == b):=by cases a <;> cases b <;> cases c <;> rfl
theorem four_tl {u v:List L}{f:L→L}{k:Bool}(T:Tl u v f k){a b c d:L}(ha:a∈u)(hb:b∈u)(hc:c∈u)(hd:d∈u):fourB v (f a) (f b) (f c) (f d)=fourB u a b c d:=by
 unfold fourB
 by_cases h:[a,b,c,d].Nodup
 ·have h':[f a,f b,f c,f d].Nodup:=by
   have:=nd_map f h (fun x hx y hy e=>T.ren.inj x (by simp only [List.mem_cons,List.not_mem_nil,or_false] at hx;rcases hx with rfl | rfl | rfl | rfl <;> assumption) y (by simp only [List.mem_cons,List.not_mem_nil,or_false] at hy;rcases hy with rfl | rfl | rfl | rfl <;> assumption) e)
   exact this
  simp only [List.nodup_cons,List.mem_cons,List.not_mem_nil,or_false,not_or] at h
  obtain ⟨⟨n1,n2,n3⟩,⟨n4,n5⟩,n6,_⟩:=h
  rw [decide_eq_true h',T.od a ha c hc b hb n2 n1 (fun e=>n4 e.symm),T.od a ha d hd b hb n3 n1 (fun e=>n5 e.symm),bne3]
  congr 1
  refine (decide_eq_true ?_).symm
  simp only [List.nodup_cons,List.mem_cons,List.not_mem_nil,or_false,not_or]
  exact ⟨⟨n1,n2,n3⟩,⟨n4,n5⟩,n6,not_false,List.nodup_nil⟩
 ·have h':¬ [f a,f b,f c,f d].Nodup:=fun z=>h (by
   have:([a,b,c,d].map f).Nodup:=z
   exact List.Pairwise.of_map f (fun x y n e=>n (by rw [e])) this)
  rw [decide_eq_false h,decide_eq_false h',Bool.false_and,Bool.false_and]
structure Wlk (u:List L) (f:Int→L):Prop where
 m:∀ k,f k∈u
 i:∀ k,inv (f k)∈u
 st:∀ k,f (k+1)≠inv (f k)
theorem Wlk.st' {u:List L}{f:Int→L}(h:Wlk u f)(k:Int):f k≠inv (f (k - 1)):=by
 have:=h.st (k - 1)
 rwa [show k - 1+1=k by omega] at this
theorem Wlk.s0 {u:List L}{f:Int→L}(h:Wlk u f):f 0≠inv (f (-1)):=by
 have:=h.st (-1)
 rwa [show (-1:Int)+1=0 from rfl] at this
theorem sg_wlk {n:Nat}{u:List L}(U:SK u n){w:List L}(R:Rnd w)(hi:InM n w){wy:Int}(hw:wy=1 ∨ wy = -1)(p:Int):Wlk u (sgZ w p wy):=by
 have lp:=List.length_pos_iff.mpr R.ne
 refine ⟨fun k=>(U.mem _).mpr (sg_in38 lp hi p wy k),fun k=>(U.mem _).mpr (by rw [inv_mod];exact sg_in38 lp hi p wy k),fun k=>?_⟩
 unfold sgZ
 rcases hw with rfl | rfl
 ·rw [if_pos rfl,if_pos rfl,show p+1*(k+1)=(p+1*k)+1 by omega]
  exact rnd_at R _
 ·rw [if_neg (by decide),if_neg (by decide),inv_inv]
  have:=rnd_at R (p + -1*(k+1))
  rw [show p + -1*(k+1)+1=p + -1*k by omega] at this
  exact this.symm
theorem pt_tl {u v:List L}{f g:Int→L}{φ:L→L}{k:Bool}(T:Tl u v φ k)(F:Wlk u f)(G:Wlk u g){n:Nat}(h:∀ j:Nat,j < n→f j=g j):ptB v (fun i=>φ (f i)) (fun i=>φ (g i)) n=ptB u f g n:=by
 unfold ptB
 by_cases hn:0 < n
 ·have e0:f 0=g 0:=h 0 hn
  have e1:f ((n:Int) - 1)=g ((n:Int) - 1):=by
   have:=h (n - 1) (by omega)
   rwa [show ((n - 1:Nat):Int)=(n:Int) - 1 by omega] at this
  have q:∀ x y,x∈u→y∈u→decide (φ x ≠ φ y)=decide (x≠y):=fun x y hx hy=>by
   rw [decide_eq_decide]
   exact ⟨fun z e=>z (by rw [e]),fun z e=>z (T.ren.inj x hx y hy e)⟩
  rw [q _ _ (F.m _) (G.m _),q _ _ (F.m _) (G.m _)]
  by_cases c1:f (-1)=g (-1)
  ·rw [decide_eq_false (p:=f (-1)≠g (-1)) (fun z=>z c1),Bool.false_and,Bool.false_and]
  by_cases c2:f n=g n
  ·rw [decide_eq_false (p:=f n≠g n) (fun z=>z c2),Bool.false_and,Bool.false_and]
  dsimp only
  rw [← T.ren.iv,← T.ren.iv,← T.ren.iv,
   T.od _ (F.i _) _ (F.m _) _ (G.m _) (F.st' n).symm (by rw [e1];exact (G.st' n).symm) c2,
   T.od _ (F.m 0) _ (F.i _) _ (G.i _) F.s0 (by rw [e0];exact G.s0) (inv_ne2 c1),beq3]
 ·rw [decide_eq_false hn,Bool.false_and,Bool.false_and]
theorem fr_map {f g:Int→L}{φ:L→L}(h:∀ i j,φ (f i) = φ (g j)→f i=g j):∀ (b k:Nat),frN (fun i=>φ (f i)) (fun i=>φ (g i)) k b=frN f g k b
 | 0,_=>rfl
 | b+1,k=>by
  unfold frN
  by_cases e:f k=g k
  ·rw [if_pos e,if_pos (by rw [e])]
   exact fr_map h b (k+1)
  ·rw [if_neg e,if_neg (fun z=>e (h _ _ z))]
theorem fr_all {f g:Int→L}{N:Nat}:∀ j:Nat,j < frN f g 0 N→f j=g j:=fun j hj=>(fr_spec f g N 0).2.2.1 j (Nat.zero_le _) hj
theorem atZ_map {w:List L}(h:0 < w.length)(f:L→L)(j:Int):atZ (w.map f) j=f (atZ w j):=by
 have e0:=Int.emod_nonneg j (show (w.length:Int)≠0 by omega)
 have e1:=Int.emod_lt_of_pos j (show (0:Int) < (w.length:Int) by omega)
 unfold atZ
 rw [List.length_map,List.getD_eq_getElem?_getD,List.getD_eq_getElem?_getD,List.getElem?_map,List.getElem?_eq_getElem (show (j % (w.length:Int)).toNat < w.length by omega)]
 rfl
theorem sg_map {w:List L}(h:0 < w.length){f:L→L}(iv:∀ x,f (inv x)=inv (f x))(p wy:Int):sgZ (w.map f) p wy=fun k=>f (sgZ w p wy k):=by
 funext k
 unfold sgZ
 rw [atZ_map h]
 split
 ·rfl
 ·rw [iv]
theorem wy_map {W:List (List L)}{f:L→L}{i:Int}:wyZ (W.map (List.map f)) i=(wyZ W i).map f:=by
 unfold wyZ
 rw [List.getD_eq_getElem?_getD,List.getD_eq_getElem?_getD,List.getElem?_map]
 cases W[i.toNat]? <;> rfl
theorem lk_tl {n:Nat}{u v:List L}{f:L→L}{k:Bool}(U:SK u n)(T:Tl u v f k){W:List (List L)}(hW:WyR n W){s t:P2}(hs:okP W s)(ht:okP W t):lkZ v (W.map (List.map f)) s t=lkZ u W s t:=by
 obtain ⟨_,_,R1,_,l1,i1⟩:=hW.get hs.1 hs.2.1
 obtain ⟨_,_,R2,_,l2,i2⟩:=hW.get ht.1 ht.2.1
 have ef:∀ wy,fZ (W.map (List.map f)) s wy=fun k=>f (fZ W s wy k):=fun wy=>by
  unfold fZ
  rw [wy_map,sg_map l1 T.ren.iv]
 have eg:∀ wy,fZ (W.map (List.map f)) t wy=fun k=>f (fZ W t wy k):=fun wy=>by
  unfold fZ
  rw [wy_map,sg_map l2 T.ren.iv]
 have F:∀ wy:Int,(wy=1 ∨ wy = -1)→Wlk u (fZ W s wy):=fun wy h=>sg_wlk U R1 i1 h _
 have G:∀ wy:Int,(wy=1 ∨ wy = -1)→Wlk u (fZ W t wy):=fun wy h=>sg_wlk U R2 i2 h _
 have en:∀ wy:Int,(wy=1 ∨ wy = -1)→nZ (W.map (List.map f)) s t wy=nZ W s t wy:=fun wy h=>by
  unfold nZ
  rw [ef,eg,wy_map,wy_map,List.length_map,List.length_map]
  exact fr_map (fun i j e=>T.ren.inj _ ((F 1 (.inl rfl)).m _) _ ((G wy h).m _) e) _ _
 have ep:∀ wy:Int,(wy=1 ∨ wy = -1)→ptB v (fZ (W.map (List.map f)) s 1) (fZ (W.map (List.map f)) t wy) (nZ W s t wy)=ptB u (fZ W s 1) (fZ W t wy) (nZ W s t wy):=fun wy h=>by
  rw [ef,eg]
  exact pt_tl T (F 1 (.inl rfl)) (G wy h) fr_all
 unfold lkZ besZ algZ agnZ fstZ
 rw [en 1 (.inl rfl),en (-1) (.inr rfl),ep 1 (.inl rfl),ep (-1) (.inr rfl),ef,eg,wy_map,List.length_map]
 have F1:=F 1 (.inl rfl)
 have G1:=G 1 (.inl rfl)
 rw [show fourB v (inv (f (fZ W s 1 0))) (f (fZ W s 1 1)) (inv (f (fZ W t 1 0))) (f (fZ W t 1 1))=fourB u (inv (fZ W s 1 0)) (fZ W s 1 1) (inv (fZ W t 1 0)) (fZ W t 1 1) by
  rw [← T.ren.iv,← T.ren.iv]
  exact four_tl T (F1.i _) (F1.m _) (G1.i _) (G1.m _)]
theorem fm_congr {α β:Type}{f g:α→List β}:∀ {l:List α},(∀ x∈l,f x=g x)→l.flatMap f=l.flatMap g
 | [],_=>rfl
 | x::l,h=>by rw [List.flatMap_cons,List.flatMap_cons,h x List.mem_cons_self,fm_congr fun y hy=>h y (List.mem_cons_of_mem _ hy)]
theorem all_tl {n:Nat}{u v:List L}{f:L→L}{k:Bool}(U:SK u n)(T:Tl u v f k){W:List (List L)}(hW:WyR n W){i j:Int}(i0:0≤i)(i1:i < (W.length:Int))(j0:0≤j)(j1:j < (W.length:Int)):allL v (W.map (List.map f)) i j (wyZ (W.map (List.map f)) i).length=allL u W i j (wyZ W i).length:=by
 rw [wy_map,List.length_map]
 unfold allL
 refine fm_congr fun p hp=>?_
 unfold rowL
 rw [wy_map,List.length_map]
 rw [List.mem_range] at hp
 refine fm_congr fun q hq=>?_
 rw [List.mem_range] at hq
 exact lk_tl U T hW ⟨i0,i1,by show (0:Int)≤(p:Int);omega,by show (p:Int) < ((wyZ W i).length:Int);omega⟩ ⟨j0,j1,by show (0:Int)≤(q:Int);omega,by show (q:Int) < ((wyZ W j).length:Int);omega⟩
noncomputable def hF (u w v:List L)(s:P2):Bool:=fourB u (inv (sgZ w s.1 1 0)) (sgZ w s.1 1 1) (inv (sgZ v s.2 1 0)) (sgZ v s.2 1 1)
noncomputable def nW (w v:List L)(wy:Int)(s:P2):Nat:=frN (sgZ w s.1 1) (sgZ v s.2 wy) 0 (w.length+v.length)
noncomputable def hP (u w v:List L)(wy:Int)(s:P2):Bool:=ptB u (sgZ w s.1 1) (sgZ v s.2 wy) (nW w v wy s)
end Kx
namespace Kx
open PySem PySem.Spec PyProof.Rows L2 Wd Tv
end Kx
namespace Kx
open PySem PySem.Spec PyProof.Rows L2 Wd Tv
end Kx
namespace L2
open PySem PySem.Spec PyProof.Rows
end L2
namespace Kx
open PySem PySem.Spec PyProof.Rows L2 Wd Tv
@[irreducible] def sml (m:Int):List L:=([0,1,2,3,4,5]:List L).take m.toNat
theorem slice_sml {m:Int}(h:1≤m):Txt.slice ("abcdef":Str) none (some m)=toS (sml m):=by
 rw [← small,slice_toS,cut_to _ (by omega)]
 unfold sml
 rfl
theorem sml_length {m:Int}:(sml m).length≤6:=by
 unfold sml
 rw [List.length_take]
 exact Nat.min_le_right _ _
theorem erase_perm {α:Type}:∀ {xs:List α} {k:Nat} {x:α},xs[k]? = some x→xs.Perm (x::xs.eraseIdx k)
 | [],k,x,h=>by simp at h
 | y::r,0,x,h=>by simp at h;subst h;exact List.Perm.refl _
 | y::r,k+1,x,h=>by
  have:=erase_perm (xs:=r) (k:=k) (x:=x) (by simpa using h)
  exact (List.Perm.cons y this).trans (List.Perm.swap _ _ _)
theorem signs_ones (W:List L):L2.signs (toS W)=ones W:=by
 unfold L2.signs ones
 rw [toS_cps,List.map_map]
 rfl
theorem map_erase {α β:Type}(g:α→β):∀ (xs:List α) (k:Nat),(xs.map g).eraseIdx k=(xs.eraseIdx k).map g
 | [],k=>by simp
 | x::r,0=>by simp
 | x::r,k+1=>by
  rw [List.map_cons,List.eraseIdx_cons_succ,List.eraseIdx_cons_succ,List.map_cons,map_erase g r k]
theorem ones_erase (W:List L)(k:Nat):(ones W).eraseIdx k=ones (W.eraseIdx k):=map_erase _ W k
end Kx
namespace L2
open PySem PySem.Spec PyProof.Rows Wd
section
variable {X:Cx}
end
end L2
namespace Kx
open PySem PySem.Spec PyProof.Rows L2 Wd Tv
noncomputable def ins (u:List L)(p:Nat)(z:L):List L:=u.take p++z::u.drop p
structure Od (u v:List L):Prop where
 m:∀ x∈u,x∈v
 o:∀ x∈u,∀ y∈u,v.idxOf x < v.idxOf y ↔ u.idxOf x < u.idxOf y
theorem tl_od {u v:List L}(h:Od u v):Tl u v id false:=⟨ren_id u,fun e he x hx y hy n1 n2 n3=>by
 show decide (rfI v e x < rfI v e y)=_
 have o1:=h.o e he x hx
 have o2:=h.o x hx e he
 have o3:=h.o e he y hy
 have o4:=h.o y hy e he
 have o5:=h.o x hx y hy
 have o6:=h.o y hy x hx
 have b1:u.idxOf e≠u.idxOf x:=fun z=>n1 (idx_inj he hx z)
 have b2:u.idxOf e≠u.idxOf y:=fun z=>n2 (idx_inj he hy z)
 have b3:u.idxOf x≠u.idxOf y:=fun z=>n3 (idx_inj hx hy z)
 have a1:=idx_lt he
 have a2:=idx_lt hx
 have a3:=idx_lt hy
 have c1:=idx_lt (h.m e he)
 have c2:=idx_lt (h.m x hx)
 have c3:=idx_lt (h.m y hy)
 rw [rf_val (h.m e he) (h.m x hx),rf_val (h.m e he) (h.m y hy),rf_val he hx,rf_val he hy,Bool.bne_false,decide_eq_decide]
 generalize u.idxOf e=a at *
 generalize u.idxOf x=b at *
 generalize u.idxOf y=c at *
 generalize v.idxOf e=a' at *
 generalize v.idxOf x=b' at *
 generalize v.idxOf y=c' at *
 generalize u.length=n at *
 generalize v.length=n' at *
 split <;> split <;> split <;> split <;> omega⟩
noncomputable def dJ (ns:List Int):List PyData:=ns.map .int
theorem dts_j {H:Hp}:∀ ns:List Int,Dts H (ns.map V.int) (dJ ns)
 | []=>.nil
 | n::ns=>.cons (.int n) (dts_j ns)
theorem lay_j:∀ ns:List Int,PyData.canLayAll0 (dJ ns)=true
 | []=>rfl
 | n::ns=>lay_j ns
theorem dep_j:∀ ns:List Int,PyData.depthAll (dJ ns)=0
 | []=>rfl
 | n::ns=>by show max 0 (PyData.depthAll (dJ ns))=0;rw [dep_j ns];rfl
theorem lay_jl (r:List Int):(PyData.list (dJ r)).canLay0=true:=by
 unfold PyData.canLay0
 exact lay_j r
theorem dep_jl (r:List Int):(PyData.list (dJ r)).depth≤10:=by
 show PyData.depthAll (dJ r)+1≤10
 rw [dep_j]
 decide
end Kx
namespace Kx
open PySem PySem.Spec PyProof.Rows L2 Wd Tv
noncomputable def sm {α:Type}(h:α→Int):List α→Int
 | []=>0
 | x::l=>h x+sm h l
noncomputable def sgn (u:List L)(x y:L):Int:=if u.idxOf x < u.idxOf y then 1 else if u.idxOf y < u.idxOf x then -1 else 0
noncomputable def ch (u:List L)(a b c d:L):Int:=sgn u a c - sgn u a d - sgn u b c+sgn u b d
end Kx
namespace Kx
open PySem PySem.Spec PyProof.Rows L2 Wd Tv
theorem at_mod {w:List L}{i j:Int}(h:i % (w.length:Int)=j % (w.length:Int))(c:Int):atZ w (i+c)=atZ w (j+c):=by
 unfold atZ
 rw [Int.add_emod,h,← Int.add_emod]
noncomputable def c2 (u w v:List L)(s:P2):Int:=ch u (inv (atZ w s.1)) (atZ w (s.1+1)) (inv (atZ v s.2)) (atZ v (s.2+1))
noncomputable def eA (w v:List L)(s:P2):Bool:=decide (atZ w s.1=atZ v s.2∧atZ w (s.1+1)≠atZ v (s.2+1))
end Kx
namespace Kx
open PySem PySem.Spec PyProof.Rows L2 Wd Tv
end Kx
namespace Kx
open PySem PySem.Spec PyProof.Rows L2 Wd Tv
theorem lay_list (ws:List (List L)):(PyData.list (dws ws)).canLay0=true:=by
 unfold PyData.canLay0
 exact lay_words ws
theorem flat_len {u:List L}(U:Srf u):(hol u).flatten.length=u.length:=(hol_dc U).pm.length_eq
theorem hol_le {u:List L}(U:Srf u){w:List L}(hw:w∈hol u):w≠[]∧w.length≤12:=by
 refine ⟨((hol_dc U).cy w hw).ne,?_⟩
 have h1:=List.Sublist.length_le (List.sublist_flatten_of_mem hw)
 have h2:=flat_len U
 have:=U.le
 omega
theorem depth_dws:∀ ws:List (List L),PyData.depthAll (dws ws)≤0
 | []=>Nat.le_refl _
 | w::ws=>by
  have:=depth_dws ws
  show max (PyData.depth (.str (toS w))) (PyData.depthAll (dws ws))≤0
  have:PyData.depth (.str (toS w))=0:=rfl
  omega
end Kx
namespace Kx
open PySem PySem.Spec PyProof.Rows L2 Wd Tv
noncomputable def raiL (x y:L):L:=if y.val % 6 < x.val % 6 then y else y+1
theorem rai_inv:∀ x y:L,raiL x (inv y)=inv (raiL x y):=by decide
theorem rai_inj:∀ x y z:L,x.val < 6→y.val % 6 < 5→z.val % 6 < 5→raiL x y=raiL x z→y=z:=by decide
theorem rai_low:∀ x y:L,x.val < 6→y.val % 6≠x.val→raiL x (lowL x y)=y:=by decide
theorem low_inv:∀ x y:L,x.val < 6→y.val % 6≠x.val→lowL x (inv y)=inv (lowL x y):=by decide
theorem low_inj:∀ x y z:L,x.val < 6→y.val % 6≠x.val→z.val % 6≠x.val→lowL x y=lowL x z→y=z:=by decide
theorem mod_ne:∀ x y:L,x.val < 6→(y.val % 6≠x.val ↔ y≠x∧y≠inv x):=by decide
theorem low_lt:∀ (n:Fin 7) (x y:L),x.val < n.val→y.val % 6 < n.val→y.val % 6≠x.val→(lowL x y).val % 6 < n.val - 1:=by decide
theorem fam_cut:∀ (n:Fin 7) (x:Fin 6),x.val < n.val→(((fam n.val).filter fun y=>decide (y.val % 6≠x.val)).map (lowL ⟨x.val,by omega⟩)).isPerm (fam (n.val - 1))=true:=by decide
noncomputable def offL (u:List L)(x:L):List L:=u.filter fun y=>decide (y.val % 6≠x.val)
theorem cutW_off {u:List L}{x:L}(hx:x.val < 6):cutW u x=(offL u x).map (lowL x):=by
 unfold cutW offL
 rw [List.filter_filter]
 refine congrArg _ (List.filter_congr fun y _=>?_)
 have key:=mod_ne x y hx
 show (decide (y≠inv x) && decide (y≠x))=_
 rw [← Bool.decide_and]
 exact decide_eq_decide.mpr ⟨fun h=>key.mpr ⟨h.2,h.1⟩,fun h=>⟨(key.mp h).2,(key.mp h).1⟩⟩
theorem sk_cut {u:List L}{n:Nat}{x:L}(U:SK u n)(h2:2≤n)(hx:x.val < n):SK (cutW u x) (n - 1):=by
 have h6:=U.hi
 rw [cutW_off (by omega)]
 refine ⟨?_,by omega,by omega⟩
 have p:=List.isPerm_iff.mp (fam_cut ⟨n,by omega⟩ ⟨x.val,by omega⟩ hx)
 exact ((U.pm.filter _).map _).trans p
theorem off_mem {u:List L}{x y:L}:y∈offL u x ↔ y∈u∧y.val % 6≠x.val:=by
 unfold offL
 rw [List.mem_filter]
 exact and_congr Iff.rfl (decide_eq_true_iff)
theorem idx_filter (p:L→Bool):∀ (l:List L) (a b:L),a∈l→b∈l→p a=true→p b=true→((l.filter p).idxOf a < (l.filter p).idxOf b ↔ l.idxOf a < l.idxOf b)
 | [],a,b,h,_,_,_=>by cases h
 | z::t,a,b,ha,hb,pa,pb=>by
  by_cases hz:p z=true
  ·rw [List.filter_cons_of_pos hz,List.idxOf_cons,List.idxOf_cons,List.idxOf_cons,List.idxOf_cons]
   by_cases ea:z=a
   ·by_cases eb:z=b
    ·subst ea;subst eb;simp
    ·subst ea
     rw [beq_self_eq_true,beq_false_of_ne eb]
     show 0 < _+1 ↔ 0 < _+1
     omega
   ·by_cases eb:z=b
    ·subst eb
     rw [beq_self_eq_true,beq_false_of_ne ea]
     show _+1 < 0 ↔ _+1 < 0
     omega
    ·have ea':(z == a)=false:=beq_false_of_ne ea
     have eb':(z == b)=false:=beq_false_of_ne eb
     rw [ea',eb']
     have:=idx_filter p t a b (by rcases List.mem_cons.mp ha with h | h;exact absurd h.symm ea;exact h) (by rcases List.mem_cons.mp hb with h | h;exact absurd h.symm eb;exact h) pa pb
     show _+1 < _+1 ↔ _+1 < _+1
     omega
  ·have ea:z≠a:=fun e=>hz (by rw [e];exact pa)
   have eb:z≠b:=fun e=>hz (by rw [e];exact pb)
   rw [List.filter_cons_of_neg hz,List.idxOf_cons,List.idxOf_cons,beq_false_of_ne ea,beq_false_of_ne eb]
   have:=idx_filter p t a b (by rcases List.mem_cons.mp ha with h | h;exact absurd h.symm ea;exact h) (by rcases List.mem_cons.mp hb with h | h;exact absurd h.symm eb;exact h) pa pb
   show _ ↔ _+1 < _+1
   omega
theorem od_off (u:List L)(x:L):Od (offL u x) u:=⟨fun y hy=>(off_mem.mp hy).1,fun a ha b hb=>(idx_filter _ u a b (off_mem.mp ha).1 (off_mem.mp hb).1 (decide_eq_true (off_mem.mp ha).2) (decide_eq_true (off_mem.mp hb).2)).symm⟩
theorem ren_rai {u:List L}{n:Nat}{x:L}(U:SK u n)(h2:2≤n)(hx:x.val < n):Ren (cutW u x) (raiL x):=⟨rai_inv x,fun a ha b hb e=>by
 have S:=sk_cut U h2 hx
 have h6:=U.hi
 have:=(S.mem a).mp ha
 have:=(S.mem b).mp hb
 exact rai_inj x a b (by omega) (by omega) (by omega) e⟩
theorem cut_rai {u:List L}{x:L}(hx:x.val < 6):(cutW u x).map (raiL x)=offL u x:=by
 rw [cutW_off hx,List.map_map]
 exact (List.map_congr_left fun y hy=>rai_low x y hx (off_mem.mp hy).2).trans (List.map_id _)
theorem tl_cut {u:List L}{n:Nat}{x:L}(U:SK u n)(h2:2≤n)(hx:x.val < n):Tl (cutW u x) u (raiL x) false:=by
 have S:=sk_cut U h2 hx
 have R:=ren_rai U h2 hx
 have h6:=U.hi
 have T1:=tl_ren R S.srf.nd
 rw [cut_rai (by omega)] at T1
 have T2:=tl_od (od_off u x)
 have m:∀ y∈cutW u x,raiL x y∈offL u x:=fun y hy=>by
  rw [← cut_rai (u:=u) (x:=x) (by omega)]
  exact List.mem_map.mpr ⟨y,hy,rfl⟩
 refine ⟨R,fun e he a ha b hb n1 n2 n3=>?_⟩
 have q:=T2.od _ (m e he) _ (m a ha) _ (m b hb) (fun z=>n1 (R.inj _ he _ ha z)) (fun z=>n2 (R.inj _ he _ hb z)) (fun z=>n3 (R.inj _ ha _ hb z))
 have r:=T1.od e he a ha b hb n1 n2 n3
 rw [Bool.bne_false] at q r ⊢
 exact q.trans r
structure Gw (n:Nat) (x:L) (w:List L):Prop where
 gr:GR n 8 w
 off:∀ y∈w,y.val % 6≠x.val
theorem Gw.low {u:List L}{n:Nat}{x:L}(U:SK u n)(h2:2≤n)(hx:x.val < n){w:List L}(h:Gw n x w):GR (n - 1) 8 (w.map (lowL x)):=by
 have h6:=U.hi
 have hI:∀ y∈w,y.val % 6 < n:=h.gr.2.2
 refine ⟨?_,by rw [List.length_map];exact h.gr.2.1,fun z hz=>?_⟩
 ·have lp:=List.length_pos_iff.mpr h.gr.1.ne
  refine rnd_of (by simpa using h.gr.1.ne) fun k _=>?_
  rw [atZ_map lp,atZ_map lp]
  have m1:=h.off _ (atZ_mem lp (k:Int))
  have m2:=h.off _ (atZ_mem lp ((k:Int) - 1))
  rw [← low_inv x _ (by omega) m2]
  have:=rnd_at h.gr.1 ((k:Int) - 1)
  rw [show (k:Int) - 1+1=k by omega] at this
  exact fun e=>this (low_inj x _ _ (by omega) m1 (by rw [inv_mod];exact m2) e)
 ·obtain ⟨y,hy,rfl⟩:=List.mem_map.mp hz
  exact low_lt ⟨n,by omega⟩ x y hx (hI y hy) (h.off y hy)
theorem low_rai {x:L}(hx:x.val < 6):∀ {W:List (List L)},(∀ w∈W,∀ y∈w,y.val % 6≠x.val)→(W.map (List.map (lowL x))).map (List.map (raiL x))=W:=fun {W} h=>by
 rw [List.map_map]
 refine (List.map_congr_left fun w hw=>?_).trans (List.map_id _)
 show (w.map (lowL x)).map (raiL x)=w
 rw [List.map_map]
 exact (List.map_congr_left fun y hy=>rai_low x y hx (h w hw y hy)).trans (List.map_id _)
theorem links_cut {u:List L}{n:Nat}{x:L}(U:SK u n)(h2:2≤n)(hx:x.val < n){W:List (List L)}(hW:∀ w∈W,Gw n x w)(lo:1≤W.length)(le:W.length≤4){i j:Int}(i0:0≤i)(i1:i < (W.length:Int))(j0:0≤j)(j1:j < (W.length:Int)) :
  WyR n W∧WyR (n - 1) (W.map (List.map (lowL x)))∧allL u W i j (wyZ W i).length=allL (cutW u x) (W.map (List.map (lowL x))) i j (wyZ (W.map (List.map (lowL x))) i).length:=by
 have h6:=U.hi
 have S:=sk_cut U h2 hx
 have T:=tl_cut U h2 hx
 have A:WyR n W:=⟨le,lo,fun w hw=>⟨(hW w hw).gr.1,Nat.le_trans (hW w hw).gr.2.1 (by decide),(hW w hw).gr.2.2⟩⟩
 have B:WyR (n - 1) (W.map (List.map (lowL x))):=⟨by rw [List.length_map];exact le,by rw [List.length_map];exact lo,fun z hz=>by
  obtain ⟨w,hw,rfl⟩:=List.mem_map.mp hz
  have g:=(hW w hw).low U h2 hx
  exact ⟨g.1,Nat.le_trans g.2.1 (by decide),g.2.2⟩⟩
 refine ⟨A,B,?_⟩
 have:=all_tl S T B (i:=i) (j:=j) i0 (by rw [List.length_map];exact i1) j0 (by rw [List.length_map];exact j1)
 rwa [low_rai (by omega) fun w hw=>(hW w hw).off] at this
theorem out_off {u:List L}{x:L}(nd:u.Nodup)(hx:x.val < 6)(h1:x∈u)(h2:inv x∈u):Out u x (inv x) (offL u x):=by
 obtain ⟨A,B,rfl⟩:=List.append_of_mem h1
 have ix:=inv_ne x
 have n1:=List.perm_middle.nodup_iff.mp nd
 obtain ⟨n2,n3⟩:=List.nodup_cons.mp n1
 have h3:inv x∈A++B:=by
  have:=List.perm_middle.mem_iff.mp h2
  rcases List.mem_cons.mp this with h | h
  ·exact absurd h ix
  ·exact h
 obtain ⟨C,D,e⟩:=List.append_of_mem h3
 refine ⟨A,B,C,D,rfl,e,?_⟩
 have k1:offL (A++x::B) x=offL (A++B) x:=by
  unfold offL
  rw [List.filter_append,List.filter_append,List.filter_cons_of_neg (by simp [Nat.mod_eq_of_lt hx])]
 rw [k1,e]
 unfold offL
 rw [List.filter_append,List.filter_cons_of_neg (by simp [inv_mod,Nat.mod_eq_of_lt hx]),← List.filter_append]
 rw [e] at n2 n3
 have n4:=(List.nodup_cons.mp (List.perm_middle.nodup_iff.mp n3)).1
 refine List.filter_eq_self.mpr fun y hy=>decide_eq_true ((mod_ne x y hx).mpr ⟨fun e=>n2 ?_,fun e=>n4 (e ▸ hy)⟩)
 subst e
 rcases List.mem_append.mp hy with h | h
 ·exact List.mem_append_left _ h
 ·exact List.mem_append_right _ (List.mem_cons_of_mem _ h)
theorem flat_one {α:Type}:∀ {Ws:List (List α)},Ws.flatten.Nodup→∀ {i j:Nat} {a b:List α} {x:α},Ws[i]? = some a→Ws[j]? = some b→x∈a→x∈b→i=j
 | [],_,i,j,a,b,x,h,_,_,_=>by simp at h
 | w::T,nd,i,j,a,b,x,h1,h2,ha,hb=>by
  rw [List.flatten_cons] at nd
  obtain ⟨n1,n2,n3⟩:=List.nodup_append.mp nd
  cases i with
  | zero =>
   cases j with
   | zero=>rfl
   | succ j =>
    have e:w=a:=by simpa using h1
    subst e
    exact absurd rfl (n3 x ha x (List.mem_flatten.mpr ⟨b,List.mem_of_getElem? h2,hb⟩))
  | succ i =>
   cases j with
   | zero =>
    have e:w=b:=by simpa using h2
    subst e
    exact absurd rfl (n3 x hb x (List.mem_flatten.mpr ⟨a,List.mem_of_getElem? h1,ha⟩))
   | succ j=>exact congrArg (· + 1) (flat_one n2 (i:=i) (j:=j) h1 h2 ha hb)
theorem hol_nd {u:List L}(U:Srf u):(hol u).flatten.Nodup:=(hol_dc U).pm.nodup_iff.mpr U.nd
theorem hol_has {u:List L}(U:Srf u){x:L}(hx:x∈u):∃ p,p < (hol u).length∧∀ k w,(hol u)[k]? = some w→(x∈w ↔ k=p):=by
 obtain ⟨w,hw,hxw⟩:=List.mem_flatten.mp ((hol_dc U).pm.mem_iff.mpr hx)
 obtain ⟨p,hp,e⟩:=List.getElem_of_mem hw
 have e':(hol u)[p]? = some w:=by rw [List.getElem?_eq_getElem hp,e]
 refine ⟨p,hp,fun k v hv=>⟨fun h=>flat_one (hol_nd U) hv e' h hxw,fun h=>?_⟩⟩
 subst h
 rw [e'] at hv
 cases hv
 exact hxw
theorem hol_cut {u:List L}{n:Nat}{x:L}(U:SK u n)(h2:2≤n)(hx:x.val < n){p q:Nat}(hp:∀ k w,(hol u)[k]? = some w→(x∈w ↔ k=p))(hq:∀ k w,(hol u)[k]? = some w→(inv x∈w ↔ k=q)) :
  ((hol (cutW u x)).length:Int)=((hol u).length:Int)+(if p=q then 1 else -1):=by
 have h6:=U.hi
 have S:=sk_cut U h2 hx
 have R:=ren_rai U h2 hx
 have mx:x∈u:=(U.mem x).mpr (by rw [Nat.mod_eq_of_lt (by omega)];exact hx)
 have mi:inv x∈u:=U.srf.iv x mx
 have d1:=dc_ren R S.srf
 rw [cut_rai (by omega)] at d1
 obtain ⟨Vs,d2,c⟩:=par_step U.srf (by rw [U.len];omega) mx (out_off U.srf.nd (by omega) mx mi) (hol_dc U.srf)
 have O:=Ren.srf R S.srf
 rw [cut_rai (by omega)] at O
 have l:=dc_len (rh_fnl O) d1 d2
 rw [List.length_map] at l
 rcases c with ⟨c,w,hw,a,b⟩ | ⟨c,w,hw,a,b⟩
 ·obtain ⟨k,hk,e⟩:=List.getElem_of_mem hw
  have e':(hol u)[k]? = some w:=by rw [List.getElem?_eq_getElem hk,e]
  rw [if_pos (((hp k w e').mp a).symm.trans ((hq k w e').mp b))]
  omega
 ·obtain ⟨k,hk,e⟩:=List.getElem_of_mem hw
  have e':(hol u)[k]? = some w:=by rw [List.getElem?_eq_getElem hk,e]
  rw [if_neg fun z=>b ((hq k w e').mpr (((hp k w e').mp a).trans z))]
  omega
theorem hol_hnd {u:List L}(U:Srf u):2*((1+(u.length:Int) / 2 - ((hol u).length:Int)) / 2)=(u.length:Int) / 2+1 - ((hol u).length:Int):=by
 obtain ⟨k,hk⟩:=hol_par U
 omega
noncomputable def renL (n:Nat)(x y:L):L:=if y=x then lt6 (n - 1) else if y=inv x then inv (lt6 (n - 1)) else lowL x y
theorem ren_lt:∀ (n:Fin 7) (x y:L),x.val < n.val→renL n.val x (inv y)=inv (renL n.val x y):=by decide
theorem ren_inj:∀ (n:Fin 7) (x y z:L),x.val < n.val→y.val % 6 < n.val→z.val % 6 < n.val→renL n.val x y=renL n.val x z→y=z:=by decide +kernel
theorem ren_ren {u:List L}{n:Nat}{x:L}(U:SK u n)(hx:x.val < n):Ren u (renL n x):=by
 have h6:=U.hi
 exact ⟨fun y=>ren_lt ⟨n,by omega⟩ x y hx,fun a ha b hb e=>ren_inj ⟨n,by omega⟩ x a b hx ((U.mem a).mp ha) ((U.mem b).mp hb) e⟩
theorem ren_off {n:Nat}{x:L}(hx:x.val < 6){l:List L}(h:∀ y∈l,y≠x∧y≠inv x):l.map (renL n x)=l.map (lowL x):=List.map_congr_left fun y hy=>by
 unfold renL
 rw [if_neg (h y hy).1,if_neg (h y hy).2]
theorem off_app {x:L}(a b:List L):offL (a++b) x=offL a x++offL b x:=List.filter_append _ _
theorem off_self {x:L}(hx:x.val < 6){l:List L}(h:∀ y∈l,y≠x∧y≠inv x):offL l x=l:=List.filter_eq_self.mpr fun y hy=>decide_eq_true ((mod_ne x y hx).mpr (h y hy))
theorem off_no {x y:L}(hy:y.val % 6=x.val)(l:List L):offL (y::l) x=offL l x:=List.filter_cons_of_neg (by simp [hy])
theorem ins_at (A B:List L)(z:L):(A++B).take A.length++[z]++(A++B).drop A.length=A++z::B:=by
 rw [List.take_left,List.drop_left]
 simp
theorem glu_cut {u:List L}{n:Nat}{x:L}(U:SK u n)(hx:x.val < n) :
  gluW (cutW u x) (u.idxOf x - (if u.idxOf (inv x) < u.idxOf x then 1 else 0)) (u.idxOf (inv x)) (n - 1)=u.map (renL n x):=by
 have h6:=U.hi
 have hx6:x.val < 6:=by omega
 have nd:=U.srf.nd
 have ix:=inv_ne x
 have mx:x∈u:=(U.mem x).mpr (by rw [Nat.mod_eq_of_lt (by omega)];exact hx)
 have mi:inv x∈u:=U.srf.iv x mx
 have xm:x.val % 6=x.val:=Nat.mod_eq_of_lt hx6
 have im:(inv x).val % 6=x.val:=by rw [inv_mod];exact xm
 rw [cutW_off hx6]
 obtain ⟨A,Z,e⟩:=List.append_of_mem mx
 have r1:renL n x x=lt6 (n - 1):=by unfold renL;rw [if_pos rfl]
 have r2:renL n x (inv x)=inv (lt6 (n - 1)):=by unfold renL;rw [if_neg ix,if_pos rfl]
 rw [e] at nd mi
 have n1:=List.perm_middle.nodup_iff.mp nd
 obtain ⟨n2,n3⟩:=List.nodup_cons.mp n1
 have nxA:x∉A:=fun h=>n2 (List.mem_append_left _ h)
 have nxZ:x∉Z:=fun h=>n2 (List.mem_append_right _ h)
 by_cases hZ:inv x∈Z
 ·obtain ⟨B,C,e2⟩:=List.append_of_mem hZ
  subst e2
  subst e
  have n4:(A++B++inv x::C).Nodup:=by rw [List.append_assoc];exact n3
  have n5:=(List.nodup_cons.mp (List.perm_middle.nodup_iff.mp n4)).1
  have gA:∀ y∈A,y≠x∧y≠inv x:=fun y hy=>⟨fun e=>nxA (e ▸ hy),fun e=>n5 (by rw [← e];simp [hy])⟩
  have gB:∀ y∈B,y≠x∧y≠inv x:=fun y hy=>⟨fun e=>nxZ (by rw [← e];simp [hy]),fun e=>n5 (by rw [← e];simp [hy])⟩
  have gC:∀ y∈C,y≠x∧y≠inv x:=fun y hy=>⟨fun e=>nxZ (by rw [← e];simp [hy]),fun e=>n5 (by rw [← e];simp [hy])⟩
  have i1:(A++x::(B++inv x::C)).idxOf x=A.length:=idx_of_get nd (by rw [List.getElem?_append_right (Nat.le_refl _),Nat.sub_self];rfl)
  have i2:(A++x::(B++inv x::C)).idxOf (inv x)=A.length+1+B.length:=idx_of_get nd (by
   rw [List.getElem?_append_right (by omega),show A.length+1+B.length - A.length=B.length+1 by omega,List.getElem?_cons_succ,List.getElem?_append_right (Nat.le_refl _),Nat.sub_self];rfl)
  rw [i1,i2,if_neg (by omega),Nat.sub_zero,off_app,off_no xm,off_app,off_no im,off_self hx6 gA,off_self hx6 gB,off_self hx6 gC]
  simp only [List.map_append,List.map_cons,r1,r2]
  rw [ren_off hx6 gA,ren_off hx6 gB,ren_off hx6 gC]
  unfold gluW
  have a1:=ins_at (A.map (lowL x)) (B.map (lowL x)++C.map (lowL x)) (lt6 (n - 1))
  rw [List.length_map] at a1
  simp only
  rw [a1,show A.map (lowL x)++lt6 (n - 1)::(B.map (lowL x)++C.map (lowL x))=(A.map (lowL x)++lt6 (n - 1)::B.map (lowL x))++C.map (lowL x) by simp,show A.length+1+B.length=(A.map (lowL x)++lt6 (n - 1)::B.map (lowL x)).length by simp;omega,ins_at]
  simp
 ·have hA:inv x∈A:=by
   rcases List.mem_append.mp mi with h | h
   ·exact h
   ·rcases List.mem_cons.mp h with h | h
    ·exact absurd h ix
    ·exact absurd h hZ
  obtain ⟨B,C,e2⟩:=List.append_of_mem hA
  subst e2
  subst e
  have n4:(B++inv x::(C++Z)).Nodup:=by
   rw [List.append_assoc,List.cons_append] at n3;exact n3
  have n5:=(List.nodup_cons.mp (List.perm_middle.nodup_iff.mp n4)).1
  have gB:∀ y∈B,y≠x∧y≠inv x:=fun y hy=>⟨fun e=>nxA (by rw [← e];simp [hy]),fun e=>n5 (by rw [← e];simp [hy])⟩
  have gC:∀ y∈C,y≠x∧y≠inv x:=fun y hy=>⟨fun e=>nxA (by rw [← e];simp [hy]),fun e=>n5 (by rw [← e];simp [hy])⟩
  have gZ:∀ y∈Z,y≠x∧y≠inv x:=fun y hy=>⟨fun e=>nxZ (by rw [← e];exact hy),fun e=>n5 (by rw [← e];simp [hy])⟩
  have i1:(B++inv x::C++x::Z).idxOf x=B.length+1+C.length:=idx_of_get nd (by
   have l:(B++inv x::C).length=B.length+1+C.length:=by simp;omega
   rw [List.getElem?_append_right (by omega),l,Nat.sub_self];rfl)
  have i2:(B++inv x::C++x::Z).idxOf (inv x)=B.length:=idx_of_get nd (by
   rw [List.append_assoc,List.getElem?_append_right (Nat.le_refl _),Nat.sub_self];rfl)
  rw [i1,i2,if_pos (by omega),show B.length+1+C.length - 1=B.length+C.length by omega,off_app,off_no xm,off_app,off_no im,off_self hx6 gZ,off_self hx6 gB,off_self hx6 gC]
  simp only [List.map_append,List.map_cons,r1,r2]
  rw [ren_off hx6 gZ,ren_off hx6 gB,ren_off hx6 gC]
  unfold gluW
  have a1:=ins_at (B.map (lowL x)++C.map (lowL x)) (Z.map (lowL x)) (lt6 (n - 1))
  rw [List.length_append,List.length_map,List.length_map] at a1
  simp only
  rw [a1,show B.map (lowL x)++C.map (lowL x)++lt6 (n - 1)::Z.map (lowL x)=B.map (lowL x)++(C.map (lowL x)++lt6 (n - 1)::Z.map (lowL x)) by simp,show B.length=(B.map (lowL x)).length by simp,ins_at]
  simp
theorem sk_of {u:List L}{n:Nat}(n1:1≤n)(h6:n≤6)(nd:u.Nodup)(hl:u.length=2*n)(hi:∀ x∈u,x.val % 6 < n):SK u n:=by
 have p:=row_perm71 (n:=n) ⟨hl,nd,hi⟩ h6
 have q:∀ n:Fin 7,(ends n.val).isPerm (fam n.val)=true:=by decide
 exact ⟨p.trans (List.isPerm_iff.mp (q ⟨n,by omega⟩)),n1,h6⟩
theorem ren_in:∀ (n:Fin 7) (x z:L),x.val < n.val→z.val % 6 < n.val→(renL n.val x z).val % 6 < n.val:=by decide +kernel
theorem hol_glu {u:List L}{n:Nat}{x:L}(U:SK u n)(hx:x.val < n):SK (u.map (renL n x)) n∧(hol (u.map (renL n x))).length=(hol u).length:=by
 have R:=ren_ren U hx
 have h6:=U.hi
 have V:=R.srf U.srf
 refine ⟨sk_of U.lo h6 V.nd (by rw [List.length_map,U.len]) fun y hy=>?_,?_⟩
 ·obtain ⟨z,hz,rfl⟩:=List.mem_map.mp hy
  exact ren_in ⟨n,by omega⟩ x z hx ((U.mem z).mp hz)
 ·have:=dc_len (rh_fnl V) (dc_ren R U.srf) (hol_dc V)
  rw [List.length_map] at this
  exact this.symm
theorem sk_row {u:List L}{n p q:Nat}(R:RowN n u)(h5:n≤5)(h1:1≤n):SK (gluW u p q n) (n+1):=by
 have pm:=glu_perm (u:=u) (p:=p) (q:=q) (m:=n)
 have hn:∀ m:Fin 6,(lt6 m.val).val % 6=m.val∧(inv (lt6 m.val)).val % 6=m.val∧lt6 m.val≠inv (lt6 m.val):=by decide
 obtain ⟨a1,a2,a3⟩:=hn ⟨n,by omega⟩
 simp only at a1 a2 a3
 refine sk_of (by omega) (by omega) (pm.nodup_iff.mpr ?_) (by rw [pm.length_eq,List.length_cons,List.length_cons,R.len];omega) fun y hy=>?_
 ·refine List.nodup_cons.mpr ⟨fun h=>?_,List.nodup_cons.mpr ⟨fun h=>?_,R.nd⟩⟩
  ·rcases List.mem_cons.mp h with h | h
   ·exact a3 h
   ·have:=R.ins _ h;omega
  ·have:=R.ins _ h;omega
 ·rcases List.mem_cons.mp (pm.mem_iff.mp hy) with h | h
  ·rw [h];omega
  ·rcases List.mem_cons.mp h with h | h
   ·rw [h];omega
   ·have:=R.ins _ h;omega
theorem low_ne72 {x:L}(hx:x.val < 6)(y:L):(!decide (V.str (Txt.lower (toS [y]))=V.str (toS [x])))=decide (y.val % 6≠x.val):=by
 rw [low_ne x y hx]
 by_cases h:y.val % 6≠x.val
 ·have:=(mod_ne x y hx).mp h
  rw [decide_eq_true h,decide_eq_true this.1,decide_eq_true this.2];rfl
 ·rw [decide_eq_false h]
  by_cases h1:y=x
  ·rw [decide_eq_false (fun e=>e h1),Bool.false_and]
  ·have:¬ y≠inv x:=fun e=>h ((mod_ne x y hx).mpr ⟨h1,e⟩)
   rw [decide_eq_false this,Bool.and_false]
theorem bk_low {x:L}(hx:x.val < 6){w:List L}(h:∀ y∈w,y.val % 6≠x.val):bk (w.map (lowL x))=(bk w).map (lowL x):=by
 unfold bk
 rw [List.map_reverse,List.map_map,List.map_map]
 exact congrArg List.reverse (List.map_congr_left fun y hy=>(low_inv x y hx (h y hy)).symm)
theorem off_not {x:L}(hx:x.val < 6){w:List L}(h:∀ y∈w,y.val % 6≠x.val):¬ (x∈w ∨ inv x∈w):=by
 rintro (m | m)
 ·exact ((mod_ne x x hx).mp (h _ m)).1 rfl
 ·exact ((mod_ne x _ hx).mp (h _ m)).2 rfl
theorem off_len {u:List L}{n:Nat}{x:L}(U:SK u n)(h2:2≤n)(hx:x.val < n):(offL u x).length=2*(n - 1):=by
 have h6:=U.hi
 have:=(sk_cut U h2 hx).len
 rwa [cutW_off (by omega),List.length_map] at this
end Kx
namespace Kx
open PySem PySem.Spec PyProof.Rows L2 Wd
noncomputable def top (i:Nat):Stmt:=PySem.Challenge.pw_ringwords_k72_whole_cut_and_glued.main.body.getD i (.Pass ⟨0,0,0,0⟩)
theorem len1 {α:Type}{us:List α}(h:us.length=1):∃ a0,us=[a0]:=by
 cases us with
 | nil=>cases h
 | cons a0 us =>
  cases us with
  | nil=>exact ⟨a0,rfl⟩
  | cons b us=>cases h
theorem len2 {α:Type}{us:List α}(h:us.length=2):∃ a0 a1,us=[a0,a1]:=by
 cases us with
 | nil=>cases h
 | cons a0 us =>
  cases us with
  | nil=>cases h
  | cons a1 us =>
   cases us with
   | nil=>exact ⟨a0,a1,rfl⟩
   | cons b us=>cases h
theorem len3 {α:Type}{us:List α}(h:us.length=3):∃ a0 a1 a2,us=[a0,a1,a2]:=by
 cases us with
 | nil=>cases h
 | cons a0 us =>
  cases us with
  | nil=>cases h
  | cons a1 us =>
   cases us with
   | nil=>cases h
   | cons a2 us =>
    cases us with
    | nil=>exact ⟨a0,a1,a2,rfl⟩
    | cons b us=>cases h
theorem len4 {α:Type}{us:List α}(h:us.length=4):∃ a0 a1 a2 a3,us=[a0,a1,a2,a3]:=by
 cases us with
 | nil=>cases h
 | cons a0 us =>
  cases us with
  | nil=>cases h
  | cons a1 us =>
   cases us with
   | nil=>cases h
   | cons a2 us =>
    cases us with
    | nil=>cases h
    | cons a3 us =>
     cases us with
     | nil=>exact ⟨a0,a1,a2,a3,rfl⟩
     | cons b us=>cases h
theorem len5 {α:Type}{us:List α}(h:us.length=5):∃ a0 a1 a2 a3 a4,us=[a0,a1,a2,a3,a4]:=by
 cases us with
 | nil=>cases h
 | cons a0 us =>
  cases us with
  | nil=>cases h
  | cons a1 us =>
   cases us with
   | nil=>cases h
   | cons a2 us =>
    cases us with
    | nil=>cases h
    | cons a3 us =>
     cases us with
     | nil=>cases h
     | cons a4 us =>
      cases us with
      | nil=>exact ⟨a0,a1,a2,a3,a4,rfl⟩
      | cons b us=>cases h
end Kx
namespace Kx
open PySem PySem.Spec PyProof.Rows L2 Wd
section
variable {P:Program} {w:World} {K:PySem.W.Frag} {mg:Str→Option Value} {base:Heap} {aB:Addr}
noncomputable abbrev s_draw:Stmt:=top 39
theorem sc_draw:FnScope ["_law_feed_here","_law_many","_law_cell","_law_mixed","_law_found"] ["_law_feed_here","_law_many"] (defScope s_draw):=⟨rfl,rfl,rfl,by decide +kernel,rfl,by decide +kernel,by decide +kernel⟩
theorem c_draw (D:Df K mg "_law_draw" s_draw)(T:Bt K w mg aB):Fnc P w K mg base "_law_draw" ["_law_feed_here","_law_many"] 1 spDraw:=by
 have sc:=sc_draw
 refine D.ok sc (fun _ _ _ _ _ _ us hl=>by obtain ⟨_,_,rfl⟩:=len2 hl;rfl) (fun vs H Q E h=>?_) (fun f cdv A outer s H vs Q E hr h=>?_)
 ·obtain ⟨d,m,rfl,_⟩:=h
  rfl
 ·obtain ⟨d,m,rfl,F,m0,m1,k⟩:=h
  have hu:=hu_of hr
  refine ⟨_,(@pss_cons _ _ _ _ _ (@ps_dput _ _ _ _ _ _ _ _ _ hu (pv 0) pe_str (@pe_op _ _ _ _ _ _ _ _ op_add (@pe_dget _ _ _ _ _ _ hu (pv 0) pe_str (fun _ _=>rfl)) pe_int) rfl) (@pss_cons _ _ _ _ _ (@ps_if _ _ _ _ _ _ _ _ (@pt_cmpR _ _ _ _ _ _ _ _ op_eq (@pe_dget _ _ _ _ _ _ hu (pv 0) pe_str (fun _ _=>rfl)) pe_int (nomark _)) (@pss_cons _ _ _ _ _ (@ps_set _ _ (2) _ _ _ _ sc.nd rfl (Or.inl rfl) (@pe_ix _ _ _ _ _ _ _ ix_list (@pe_dget _ _ _ _ _ _ hu (pv 0) pe_str (fun _ _=>rfl)) (@pe_op _ _ _ _ _ _ _ _ op_mod (@pe_dget _ _ _ _ _ _ hu (pv 0) pe_str (fun _ _=>rfl)) (@pe_callB _ _ _ _ _ _ _ _ _ call_len_seq (by rfl) T.len PySem.boot_len (@pa_cons _ _ _ _ _ (@pe_dget _ _ _ _ _ _ hu (pv 0) pe_str (fun _ _=>rfl)) pa_nil (by rfl)) (by decide) (by decide) (by rfl) (by rfl))) (fun _ _=>rfl)) (by rfl) (by first | exact .inl rfl | exact .inr rfl | assumption)) (@pss_cons _ _ _ _ _ (@ps_dput _ _ _ _ _ _ _ _ _ hu (pv 0) pe_str (@pe_op _ _ _ _ _ _ _ _ op_add (@pe_dget _ _ _ _ _ _ hu (pv 0) pe_str (fun _ _=>rfl)) pe_int) rfl) (@pss_cons _ _ _ _ _ (@ps_if _ _ _ _ _ _ _ _ (@pt_cmpR _ _ _ _ _ _ _ _ op_lt (pv 2) (@pe_op _ _ _ _ _ _ _ _ op_pow pe_int pe_int) (nomark _)) (@pss_cons _ _ _ _ _ (@ps_set _ _ (3) _ _ _ _ sc.nd rfl (Or.inl rfl) (@pe_op _ _ _ _ _ _ _ _ op_mod (@pe_op _ _ _ _ _ _ _ _ op_mul (@pe_op _ _ _ _ _ _ _ _ op_add (@pe_op _ _ _ _ _ _ _ _ op_mod (pv 2) pe_int) (@pe_op _ _ _ _ _ _ _ _ op_mul pe_int (@pe_dget _ _ _ _ _ _ hu (pv 0) pe_str (fun _ _=>rfl)))) pe_int) pe_int) (by rfl) (by first | exact .inl rfl | exact .inr rfl | assumption)) (@pss_cons _ _ _ _ _ (@ps_set _ _ (3) _ _ _ _ sc.nd rfl (Or.inl rfl) (@pe_op _ _ _ _ _ _ _ _ op_mod (@pe_op _ _ _ _ _ _ _ _ op_mul (@pe_op _ _ _ _ _ _ _ _ op_add (@pe_op _ _ _ _ _ _ _ _ op_fdiv (pv 3) pe_int) (@pe_op _ _ _ _ _ _ _ _ op_mul pe_int (@pe_dget _ _ _ _ _ _ hu (pv 0) pe_str (fun _ _=>rfl)))) pe_int) pe_int) (by rfl) (by first | exact .inl rfl | exact .inr rfl | assumption)) (@pss_one _ _ _ (@ps_ret _ _ _ _ (@pe_op _ _ _ _ _ _ _ _ op_mod (@pe_op _ _ _ _ _ _ _ _ op_fdiv (pv 3) pe_int) (pv 1)))))) pss_nil) (@pss_one _ _ _ (@ps_dput _ _ _ _ _ _ _ _ _ hu (pv 0) pe_str (pv 2) rfl))))) pss_nil) (@pss_cons _ _ _ _ _ (@ps_set _ _ (4) _ _ _ _ sc.nd rfl (Or.inl rfl) (@pe_op _ _ _ _ _ _ _ _ op_mod (@pe_dget _ _ _ _ _ _ hu (pv 0) pe_str (fun _ _=>rfl)) (pv 1)) (by rfl) (by first | exact .inl rfl | exact .inr rfl | assumption)) (@pss_cons _ _ _ _ _ (@ps_dput _ _ _ _ _ _ _ _ _ hu (pv 0) pe_str (@pe_op _ _ _ _ _ _ _ _ op_fdiv (@pe_dget _ _ _ _ _ _ hu (pv 0) pe_str (fun _ _=>rfl)) (pv 1)) rfl) (@pss_one _ _ _ (@ps_ret _ _ _ _ (pv 4))))))),?_⟩
  obtain ⟨c,i,l,t,ns,hd,hc,hne,h64⟩:=F.ex
  have dc:c≠d:=ne_of hc hd (by intro z;cases z)
  have fin:∀ (r i' l' t':Int),0≤r→r < m→Q (.int r) (upd H d (.dK (fkv c i' l' t'))):=fun r i' l' t' h0 h1 =>
   k r _ h0 h1 ⟨c,i',l',t',ns,upd_same,by rw [upd_ne dc];exact hc,hne,h64⟩ SameB.upd
  have c1:∀ o,(upd H d o) c=some (.lst (ns.map V.int)):=fun o=>by rw [upd_ne dc];exact hc
  have hl0:(0:Int) < ((ns.map V.int).length:Int):=by
   rw [List.length_map]
   have:=List.length_pos_iff.mpr hne
   omega
  refine ⟨_,rfl,d,_,rfl,dg hd (g_turn c i l t),_,_,rfl,rfl,_,rfl,d,_,rfl,dp hd (fkv_len c i l t) (p_turn c i l t _),?_⟩
  refine ⟨_,rfl,d,_,rfl,dg upd_same (g_left c i l _),rfl,_,rfl,?_⟩
  refine ite2 (fun _=>?_) (fun _=>?_)
  rotate_left
  ·refine ⟨_,rfl,d,_,rfl,dg upd_same (g_left c _ _ _),_,rfl,_,_,rfl,rfl,m0,?_⟩
   refine ⟨_,rfl,d,_,rfl,dg upd_same (g_left c _ _ _),_,rfl,_,_,rfl,rfl,⟨m0,by omega⟩,_,rfl,d,_,rfl,dp upd_same (fkv_len c _ _ _) (p_left c _ _ _ _),?_⟩
   refine ⟨_,rfl,?_⟩
   rw [upd_upd]
   exact fin _ _ _ _ (Int.emod_nonneg _ (by omega)) (Int.emod_lt_of_pos _ m0)
  obtain ⟨n,hn⟩:=cell_at hne i
  refine ⟨_,rfl,d,_,rfl,dg upd_same (g_cells c i l _),_,rfl,d,_,rfl,dg upd_same (g_at c i l _),_,rfl,d,_,rfl,dg upd_same (g_cells c i l _),c,_,rfl,.inl (SqL.of (c1 _)),_,_,rfl,rfl,hl0,c,_,_,_,rfl,rfl,SqL.of (c1 _),hn,?_⟩
  refine ⟨_,rfl,d,_,rfl,dg upd_same (g_at c i l _),_,_,rfl,rfl,_,rfl,d,_,rfl,dp upd_same (fkv_len c i l _) (p_at c i l _ _),?_⟩
  rw [upd_upd]
  refine ⟨_,rfl,_,_,rfl,rfl,⟨by decide,by decide,by decide⟩,_,_,rfl,rfl,_,rfl,?_⟩
  refine ite2 (fun _=>?_) (fun _=>?_)
  ·refine ⟨_,rfl,_,_,rfl,rfl,(by show (0:Int) < 2147483629;decide),_,rfl,d,_,rfl,dg upd_same (g_turn c _ l _),_,_,rfl,rfl,.inl ⟨by decide,by decide⟩,_,_,rfl,rfl,_,_,rfl,rfl,.inr ⟨by decide,by decide⟩,_,_,rfl,rfl,(by show (0:Int) < 2147483647;decide),?_⟩
   refine ⟨_,rfl,_,_,rfl,rfl,⟨by decide,by decide⟩,_,rfl,d,_,rfl,dg upd_same (g_turn c _ l _),_,_,rfl,rfl,.inl ⟨by decide,by decide⟩,_,_,rfl,rfl,_,_,rfl,rfl,.inr ⟨by decide,by decide⟩,_,_,rfl,rfl,(by show (0:Int) < 2147483587;decide),?_⟩
   refine ⟨_,rfl,_,_,rfl,rfl,⟨by decide,by decide⟩,_,rfl,_,_,rfl,rfl,m0,?_⟩
   exact fin _ _ _ _ (Int.emod_nonneg _ (by omega)) (Int.emod_lt_of_pos _ m0)
  ·refine ⟨_,rfl,_,rfl,d,_,rfl,dp upd_same (fkv_len c _ l _) (p_left c _ l _ _),?_⟩
   rw [upd_upd]
   refine ⟨_,rfl,d,_,rfl,dg upd_same (g_left c _ _ _),_,rfl,_,_,rfl,rfl,m0,?_⟩
   refine ⟨_,rfl,d,_,rfl,dg upd_same (g_left c _ _ _),_,rfl,_,_,rfl,rfl,⟨m0,by omega⟩,_,rfl,d,_,rfl,dp upd_same (fkv_len c _ _ _) (p_left c _ _ _ _),?_⟩
   refine ⟨_,rfl,?_⟩
   rw [upd_upd]
   exact fin _ _ _ _ (Int.emod_nonneg _ (by omega)) (Int.emod_lt_of_pos _ m0)
end
section
variable {P:Program} {w:World} {K:PySem.W.Frag} {mg:Str→Option Value} {base:Heap} {aB:Addr}
noncomputable abbrev s_feed:Stmt:=top 38
theorem sc_feed:FnScope ["_law_script"] ["_law_script"] (defScope s_feed):=⟨rfl,rfl,rfl,by decide +kernel,rfl,by decide +kernel,by decide +kernel⟩
theorem c_feed (D:Df K mg "_law_feed" s_feed)(T:Bt K w mg aB):Fnc P w K mg base "_law_feed" ["_law_script"] 1 (spFeed K):=by
 have sc:=sc_feed
 refine D.ok sc (fun _ _ _ _ _ _ us hl=>by obtain ⟨_,rfl⟩:=len1 hl;rfl) (fun vs H Q E h=>?_) (fun f cdv A outer s H vs Q E hr h=>?_)
 ·obtain ⟨a,ns,rfl,_⟩:=h
  rfl
 ·obtain ⟨a,ns,rfl,hS,hlen,k⟩:=h
  have hu:=hu_of hr
  refine ⟨_,(@pss_one _ _ _ (@ps_ret _ _ _ _ (@pe_disp _ _ _ _ _ (@pps_cons _ _ _ _ _ _ _ _ _ pe_str (@pe_op _ _ _ _ _ _ _ _ op_cat (@pe_callTy _ _ _ _ _ _ _ _ _ call_list_of (by rfl) T.list b_list (@pa_cons _ _ _ _ _ (@pe_slice _ _ _ _ _ _ _ _ _ _ sl_list (pv 0) po_none (@po_some _ _ _ pe_int)) pa_nil (by rfl)) (by decide) (by decide) (by rfl) (by rfl)) (@pe_op _ _ _ _ _ _ _ _ op_rep (@pe_lst _ _ _ _ (@pa_cons _ _ _ _ _ pe_int pa_nil (by rfl))) (@pe_callTy _ _ _ _ _ _ _ _ _ call_int1 (by rfl) T.int b_int (@pa_cons _ _ _ _ _ (@pe_cmpR _ _ _ _ _ _ _ _ op_eq (@pe_callB _ _ _ _ _ _ _ _ _ call_len_seq (by rfl) T.len PySem.boot_len (@pa_cons _ _ _ _ _ (pv 0) pa_nil (by rfl)) (by decide) (by decide) (by rfl) (by rfl)) pe_int (nomark _)) pa_nil (by rfl)) (by decide) (by decide) (by rfl) (by rfl)))) (@pps_cons _ _ _ _ _ _ _ _ _ pe_str pe_int (@pps_cons _ _ _ _ _ _ _ _ _ pe_str pe_int (@pps_cons _ _ _ _ _ _ _ _ _ pe_str pe_int pps_nil)))) rfl rfl (by simp) (by decide)))),?_⟩
  intro p hp
  have s1:Same H (upd H p (.dK [])):=Same.new hp
  have p1:(upd H p (.dK [])) p=some (.dK []):=upd_same
  generalize upd H p (.dK [])=H1 at s1 p1
  refine ⟨_,rfl,_,rfl,a,_,rfl,s1.seq hS,fun q1 hq1=>?_⟩
  rw [cut63 hlen]
  have s2:Same H1 (upd H1 q1 (.lst (ns.map V.int))):=Same.new hq1
  have l2:(upd H1 q1 (.lst (ns.map V.int))) q1=some (.lst (ns.map V.int)):=upd_same
  generalize upd H1 q1 (.lst (ns.map V.int))=H2 at s2 l2 ⊢
  refine ⟨q1,_,rfl,.inl (SqL.of l2),fun q2 hq2=>?_⟩
  have s3:Same H2 (upd H2 q2 (.lst (ns.map V.int))):=Same.new hq2
  have l3:(upd H2 q2 (.lst (ns.map V.int))) q2=some (.lst (ns.map V.int)):=upd_same
  generalize upd H2 q2 (.lst (ns.map V.int))=H3 at s3 l3 ⊢
  refine ⟨(by show 1≤sizeLine;decide),fun q4 hq4=>?_⟩
  have s4:Same H3 (upd H3 q4 (.lst [V.int 0])):=Same.new hq4
  have l4:(upd H3 q4 (.lst [V.int 0])) q4=some (.lst [V.int 0]):=upd_same
  generalize upd H3 q4 (.lst [V.int 0])=H4 at s4 l4 ⊢
  have s14:Same H H4:=((s1.trans s2).trans s3).trans s4
  refine ⟨_,rfl,a,_,rfl,.inl (s14.seq hS),rfl,.inr ⟨_,rfl,q4,_,_,rfl,rfl,l4,?_,?_,?_,fun q5 hq5=>?_⟩⟩
  ·split <;> decide
  ·split <;> decide
  ·split <;> decide
  have s5:Same H4 (upd H4 q5 (.lst (List.replicate ((if decide (V.int ((ns.map V.int).length:Int)=V.int 0)=true then 1 else 0:Int)).toNat [V.int 0]).flatten)):=Same.new hq5
  have l5:(upd H4 q5 (.lst (List.replicate ((if decide (V.int ((ns.map V.int).length:Int)=V.int 0)=true then 1 else 0:Int)).toNat [V.int 0]).flatten)) q5=_:=upd_same
  generalize upd H4 q5 (.lst (List.replicate ((if decide (V.int ((ns.map V.int).length:Int)=V.int 0)=true then 1 else 0:Int)).toNat [V.int 0]).flatten)=H5 at s5 l5 ⊢
  refine ⟨q2,q5,_,_,rfl,rfl,s5 _ _ (s4 _ _ l3),l5,?_,fun q6 hq6=>?_⟩
  ·have e:(List.replicate ((if decide (V.int ((ns.map V.int).length:Int)=V.int 0)=true then 1 else 0:Int)).toNat [V.int 0]).flatten.length≤1:=by split <;> decide
   have e2:sizeLine=16777216:=sizeLine_eq
   have e3:(ns.map V.int).length=ns.length:=List.length_map ..
   omega
  have el:ns.map V.int++(List.replicate ((if decide (V.int ((ns.map V.int).length:Int)=V.int 0)=true then 1 else 0:Int)).toNat [V.int 0]).flatten=(if ns=[] then [0] else ns).map V.int:=by
   cases ns with
   | nil=>rfl
   | cons n r =>
    have en:¬ (decide (V.int (((n::r).map V.int).length:Int)=V.int 0)=true):=by
     rw [List.length_map,List.length_cons]
     simp only [V.int.injEq,decide_eq_true_eq]
     omega
    rw [if_neg en,if_neg (by simp)]
    simp
  rw [el]
  have s6:Same H5 (upd H5 q6 (.lst ((if ns=[] then [0] else ns).map V.int))):=Same.new hq6
  have l6:(upd H5 q6 (.lst ((if ns=[] then [0] else ns).map V.int))) q6=_:=upd_same
  generalize upd H5 q6 (.lst ((if ns=[] then [0] else ns).map V.int))=H6 at s6 l6 ⊢
  have p6:H6 p=some (.dK []):=s6 _ _ (s5 _ _ (s4 _ _ (s3 _ _ (s2 _ _ p1))))
  have pq:q6≠p:=ne_of l6 p6 (by intro z;cases z)
  refine ⟨p6,fkv q6 0 0 0,rfl,(by show 4≤15;decide),?_⟩
  rw [m_fkv]
  refine k p _ hp ⟨q6,0,0,0,(if ns=[] then [0] else ns),upd_same,by rw [upd_ne pq];exact l6,?_,?_⟩ fun b o e=>?_
  ·split
   ·simp
   ·assumption
  ·split
   ·decide
   ·omega
  ·rw [upd_ne (ne_of_none e hp)]
   exact s6 _ _ (s5 _ _ (s14 _ _ e))
end
end Kx
namespace Kx
open PySem PySem.Spec PyProof.Rows L2 Wd
section
variable {P:Program} {w:World} {K:PySem.W.Frag} {mg:Str→Option Value} {base:Heap} {aB:Addr}
noncomputable abbrev s_back:Stmt:=top 8
theorem sc_back:FnScope ["word"] ["word"] (defScope s_back):=⟨rfl,rfl,rfl,by decide +kernel,rfl,by decide +kernel,by decide +kernel⟩
theorem c_back (D:Df K mg "back" s_back)(T:Bt K w mg aB):Fnc P w K mg base "back" ["word"] 1 spBk:=by
 have sc:=sc_back
 refine D.ok sc (fun _ _ _ _ _ _ us hl=>by obtain ⟨_,rfl⟩:=len1 hl;rfl) (fun vs H Q E h=>?_) (fun f cdv A outer s H vs Q E hr h=>?_)
 ·obtain ⟨u,rfl,_⟩:=h
  rfl
 ·obtain ⟨u,rfl,hu,k⟩:=h
  have l16:=line16
  refine ⟨_,(@pss_one _ _ _ (@ps_ret _ _ _ _ (@pe_bm _ _ _ _ _ _ _ _ _ _ _ _ PySem.F.plainAttrs_str PySem.F.slot_str_join PySem.F.type_str_join mt_join pe_str (@pa_cons _ _ _ _ _ (@pe_comp _ _ _ _ _ _ _ (["letter"]) (["letter"]) ([]) _ _ _ _ (@blk_of _ _ _ _ _ _ rfl (by kernel_rfl)) rfl (@pi_strR _ _ _ _ _ _ rfl T.reversed b_reversed (@pa_cons _ _ _ _ _ (pv 0) pa_nil (by rfl)) (by rfl)) (fun _ _ _ _=>@pg_name _ _ (0) _ (show (["letter"]:List Str).Nodup from by decide +kernel) rfl (Or.inl rfl) (by first | exact .inl rfl | exact .inr rfl | assumption)) (fun _ _ _ _=>pifs_nil) (fun _ _ _ _=>by (exact (@pe_kget _ _ _ _ _ _ _ _ _ T.dB rfl rfl rfl T.mgB (pv 0) (fun _ _=>rfl) (by decide)))) (by intro _ ;rfl)) pa_nil (by rfl)) (by rfl) (by rfl) (by rfl) (by rfl) (by rfl)))),?_⟩
  refine ⟨rfl,_,rfl,_,rfl,(by rw [toS_length];omega),?_⟩
  refine comp_by (own:=["letter"]) (cap:=[]) (J:=Itsr (toS u)) u.length (fun i ys σ H'=>H'=H∧ys=ones ((bk u).take i)∧∃ v,σ = [v]) ⟨rfl,rfl,none,rfl⟩ (fun i ys σ H' hi ⟨_,e,_⟩=>?_) (by omega) (fun i ys σ H' hi _=>?_) (fun ys σ H' _=>?_) ?_ ?_
  ·rw [e,ones_length,List.length_take];omega
  ·show i < (toS u).cps.size;rw [toS_size];exact hi
  ·show _=(toS u).cps.size;rw [toS_size]
  ·rintro i ys σ H1 x H2 N hi ⟨rfl,rfl,v,rfl⟩ ⟨rfl,c,hc,rfl⟩ hN
   rw [toS_size] at hc
   obtain ⟨y,hy,e⟩:=sign_at hc
   obtain ⟨t,ht⟩:=T.gB y
   refine ⟨_,rfl,toS [y],toS [inv y],t,by rw [e],ht,hN _ _ _ ⟨rfl,?_,_,rfl⟩⟩
   rw [take_snoc (bk_get u hi hy),← ones_snoc]
   rfl
  ·rintro ys σ H1 l ⟨rfl,rfl,v,rfl⟩ hl
   rw [List.take_of_length_le (by rw [bk_length];exact Nat.le_refl _)]
   refine ⟨_,l,(bk u).map fun x=>toS [x],rfl,rfl,SqL.of (by rw [upd_same,ones_str]),join_room _ (by rw [bk_length];omega),?_⟩
   rw [join_ones]
   exact k _ (Same.new hl)
end
section
variable {P:Program} {w:World} {K:PySem.W.Frag} {mg:Str→Option Value} {base:Heap} {aB:Addr}
theorem c_backT {N:Nat}(D:Df K mg "back" s_back)(T:Bt K w mg aB)(G:∀ x:L,∃ t,0 < t∧t < N∧PySem.W.nsIn K aB (toS [x])=some (some (.str (toS [inv x]) t))):Fnc P w K mg base "back" ["word"] 1 (spBk1 N):=by
 have sc:=sc_back
 refine D.ok sc (fun _ _ _ _ _ _ us hl=>by obtain ⟨_,rfl⟩:=len1 hl;rfl) (fun vs H Q E h=>?_) (fun f cdv A outer s H vs Q E hr h=>?_)
 ·obtain ⟨x,rfl,_⟩:=h
  rfl
 ·obtain ⟨x,rfl,k⟩:=h
  have l16:=line16
  obtain ⟨t,t0,tN,ht⟩:=G x
  refine ⟨_,(@pss_one _ _ _ (@ps_ret _ _ _ _ (@pe_bm _ _ _ _ _ _ _ _ _ _ _ _ PySem.F.plainAttrs_str PySem.F.slot_str_join PySem.F.type_str_join mt_join1 pe_str (@pa_cons _ _ _ _ _ (@pe_comp _ _ _ _ _ _ _ (["letter"]) (["letter"]) ([]) _ _ _ _ (@blk_of _ _ _ _ _ _ rfl (by kernel_rfl)) rfl (@pi_strR _ _ _ _ _ _ rfl T.reversed b_reversed (@pa_cons _ _ _ _ _ (pv 0) pa_nil (by rfl)) (by rfl)) (fun _ _ _ _=>@pg_name _ _ (0) _ (show (["letter"]:List Str).Nodup from by decide +kernel) rfl (Or.inl rfl) (by first | exact .inl rfl | exact .inr rfl | assumption)) (fun _ _ _ _=>pifs_nil) (fun _ _ _ _=>by (exact (@pe_kgetT _ _ _ _ _ _ _ _ _ T.dB rfl rfl rfl T.mgB (pv 0) (fun _ _=>rfl) (by decide)))) (by intro _ ;rfl)) pa_nil (by rfl)) (by rfl) (by rfl) (by rfl) (by rfl) (by rfl)))),?_⟩
  refine ⟨rfl,_,rfl,_,rfl,(by rw [toS_length];show 1≤_;omega),?_⟩
  refine comp_by (own:=["letter"]) (cap:=[]) (J:=Itsr (toS [x])) 1 (fun i ys σ H'=>H'=H∧ys=([V.tks (toS [inv x]) t]).take i∧∃ v,σ = [v]) ⟨rfl,rfl,none,rfl⟩ (fun i ys σ H' hi ⟨_,e,_⟩=>?_) (by omega) (fun i ys σ H' hi _=>?_) (fun ys σ H' _=>?_) ?_ ?_
  ·rw [e,List.length_take];omega
  ·show i < (toS [x]).cps.size;rw [toS_size];exact hi
  ·show _=(toS [x]).cps.size;rw [toS_size];rfl
  ·rintro i ys σ H1 z H2 N' hi ⟨rfl,rfl,v,rfl⟩ ⟨rfl,c,hc,rfl⟩ hN
   rw [toS_size] at hc
   obtain ⟨y,hy,e⟩:=sign_at hc
   obtain rfl:i=0:=by omega
   obtain rfl:x=y:=Option.some.inj hy
   exact ⟨_,rfl,toS [x],toS [inv x],t,by rw [e],ht,hN _ _ _ ⟨rfl,rfl,_,rfl⟩⟩
  ·rintro ys σ H1 l ⟨rfl,rfl,v,rfl⟩ hl
   refine ⟨_,l,toS [inv x],t,rfl,rfl,SqL.of upd_same,?_,?_⟩
   ·rw [toS_length,show (Str.ofString "").length=0 by decide +kernel];show 1+0≤1000;decide
   ·exact k t _ t0 tN (Same.new hl)
end
section
variable {P:Program} {w:World} {K:PySem.W.Frag} {mg:Str→Option Value} {base:Heap} {aB:Addr}
noncomputable abbrev s_lback:Stmt:=top 40
theorem sc_lback:FnScope ["_law_word","_law_found","_law_sign"] ["_law_word"] (defScope s_lback):=⟨rfl,rfl,rfl,by decide +kernel,rfl,by decide +kernel,by decide +kernel⟩
theorem c_lback (D:Df K mg "_law_back" s_lback):Fnc P w K mg base "_law_back" ["_law_word"] 1 spBk:=by
 have sc:=sc_lback
 refine D.ok sc (fun _ _ _ _ _ _ us hl=>by obtain ⟨_,rfl⟩:=len1 hl;rfl) (fun vs H Q E h=>?_) (fun f cdv A outer s H vs Q E hr h=>?_)
 ·obtain ⟨u,rfl,_⟩:=h
  rfl
 ·obtain ⟨u,rfl,hu,k⟩:=h
  have l16:=line16
  refine ⟨_,(@pss_cons _ _ _ _ _ (@ps_set _ _ (1) _ _ _ _ sc.nd rfl (Or.inl rfl) pe_str (by rfl) (by first | exact .inl rfl | exact .inr rfl | assumption)) (@pss_cons _ _ _ _ _ (@ps_for _ _ _ _ _ _ _ _ PassesOwn.never rfl (@pi_str _ _ _ _ (pv 0)) (@pg_name _ _ (2) _ sc.nd rfl (Or.inl rfl) (by first | exact .inl rfl | exact .inr rfl | assumption)) (@pss_one _ _ _ (@ps_set _ _ (1) _ _ _ _ sc.nd rfl (Or.inl rfl) (@pe_op _ _ _ _ _ _ _ _ op_add_str (@pe_ifExp _ _ _ _ _ _ _ _ (@pt_cmpR _ _ _ _ _ _ _ _ op_in_str (pv 2) pe_str rfl) (@pe_bm0 _ _ _ _ _ _ _ _ _ PySem.F.plainAttrs_str PySem.F.slot_str_upper PySem.F.type_str_upper mt_upper (pv 2) (by rfl) (by rfl)) (@pe_bm0 _ _ _ _ _ _ _ _ _ PySem.F.plainAttrs_str PySem.F.slot_str_lower PySem.F.type_str_lower mt_lower (pv 2) (by rfl) (by rfl))) (pv 1)) (by rfl) (by first | exact .inl rfl | exact .inr rfl | assumption))) (by intro _ ;rfl)) (@pss_one _ _ _ (@ps_ret _ _ _ _ (pv 1))))),?_⟩
  refine ⟨_,rfl,_,rfl,for_str (z:=toS u) (fun i σ H'=>∃ v,σ = [some (tx u),some (tx (bk (u.take i))),v]∧H'=H) ⟨none,(by rw [List.take_zero];show _=[some (tx u),some (tx []),none];rw [tx_nil];rfl),rfl⟩ ?_ ?_⟩
  ·rintro i c σ H1 hc ⟨v,rfl,rfl⟩
   obtain ⟨x,hx,e⟩:=sign_at hc
   rw [e]
   have hi:i < u.length:=(List.getElem?_eq_some_iff.mp hx).1
   have fin:∀ z,z=toS [inv x]→∃ v',[some (tx u),some (V.str (z++toS (bk (u.take i)))),some (V.str (toS [x]))]=[some (tx u),some (tx (bk (u.take (i+1)))),v']∧H1=H1:=fun z ez=>by
    refine ⟨some (V.str (toS [x])),?_,rfl⟩
    rw [ez,tx_app,take_snoc hx,bk_append]
    rfl
   have room:∀ z,z=toS [inv x]→z.length+(toS (bk (u.take i))).length≤sizeLine:=fun z ez=>by
    rw [ez,toS_length,toS_length,bk_length,List.length_take]
    simp only [List.length_singleton]
    omega
   refine ⟨_,rfl,_,_,rfl,rfl,_,rfl,?_⟩
   rw [in_small]
   refine ite2 (fun h=>?_) (fun h=>?_)
   ·have h:x.val < 6:=by simpa using h
    exact ⟨_,rfl,rfl,_,rfl,rfl,(by rw [toS_length];show 1≤5592405;decide),_,rfl,_,_,rfl,rfl,room _ (upper_one h),fin _ (upper_one h)⟩
   ·have h:¬ x.val < 6:=by simpa using h
    exact ⟨_,rfl,rfl,_,rfl,rfl,(by rw [toS_length];show 1≤5592405;decide),_,rfl,_,_,rfl,rfl,room _ (lower_one h),fin _ (lower_one h)⟩
  ·rintro σ H1 ⟨v,rfl,rfl⟩
   rw [toS_size,List.take_length]
   exact ⟨_,rfl,k _ (Same.refl _)⟩
end
end Kx
namespace Kx
open PySem PySem.Spec PyProof.Rows L2 Wd
section
variable {P:Program} {w:World} {K:PySem.W.Frag} {mg:Str→Option Value} {base:Heap} {aB:Addr}
noncomputable abbrev s_num:Stmt:=top 7
theorem sc_num:FnScope ["letter"] ["letter"] (defScope s_num):=⟨rfl,rfl,rfl,by decide +kernel,rfl,by decide +kernel,by decide +kernel⟩
theorem c_num (D:Df K mg "number_of" s_num)(T:Bt K w mg aB)(S:∃ t,mg "SMALL" = some (.str "abcdef" t)):Fnc P w K mg base "number_of" ["letter"] 1 spNum:=by
 have sc:=sc_num
 refine D.ok sc (fun _ _ _ _ _ _ us hl=>by obtain ⟨_,rfl⟩:=len1 hl;rfl) (fun vs H Q E h=>?_) (fun f cdv A outer s H vs Q E hr h=>?_)
 ·obtain ⟨x,rfl,_⟩:=h
  rfl
 ·obtain ⟨x,rfl,k⟩:=h
  obtain ⟨tS,mgS⟩:=S
  refine ⟨_,(@pss_one _ _ _ (@ps_ret _ _ _ _ (@pe_bm _ _ _ _ _ _ _ _ _ _ _ _ PySem.F.plainAttrs_str PySem.F.slot_str_index PySem.F.type_str_index mt_index (@pe_glob _ _ (.str "abcdef") _ _ rfl mgS ⟨_,rfl⟩ (by decide)) (@pa_cons _ _ _ _ _ (@pe_bm0 _ _ _ _ _ _ _ _ _ PySem.F.plainAttrs_str PySem.F.slot_str_lower PySem.F.type_str_lower mt_lower (pv 0) (by rfl) (by rfl)) pa_nil (by rfl)) (by rfl) (by rfl) (by rfl) (by rfl) (by rfl)))),?_⟩
  exact ⟨rfl,_,rfl,rfl,_,rfl,rfl,(by rw [toS_length];show 1≤5592405;decide),_,_,_,_,rfl,rfl,num_at x,k⟩
end
section
variable {P:Program} {w:World} {K:PySem.W.Frag} {mg:Str→Option Value} {base:Heap} {aB:Addr}
theorem low_at:∀ x y:L,y.val % 6≠x.val % 6→y.val % 6 < x.val % 6→lowL x y=y:=by decide
theorem low_small:∀ x y:L,¬ y.val % 6 < x.val % 6→y.val % 6≠x.val % 6→y.val < 6→lt6 (y.val % 6 - 1)=lowL x y:=by decide
theorem low_great:∀ x y:L,¬ y.val % 6 < x.val % 6→y.val % 6≠x.val % 6→¬ y.val < 6→inv (lt6 (y.val % 6 - 1))=lowL x y:=by decide
theorem small_at7:∀ k:Fin 6,("abcdef":Str).cps.toList[k.val]? = some (cp (lt6 k.val)):=by decide +kernel
theorem islow:∀ y:L,Txt.islower (toS [y])=decide (y.val < 6):=by decide +kernel
noncomputable abbrev s_low:Stmt:=top 18
theorem sc_low:FnScope ["letter","sign","small"] ["letter","sign"] (defScope s_low):=⟨rfl,rfl,rfl,by decide +kernel,rfl,by decide +kernel,by decide +kernel⟩
theorem c_low (D:Df K mg "lower_letter" s_low)(T:Bt K w mg aB)(S:∃ t,mg "SMALL" = some (.str "abcdef" t))(F_num:Fnc P w K mg base "number_of" ["letter"] 1 spNum)(F_back:Fnc P w K mg base "back" ["word"] 1 spBk):Fnc P w K mg base "lower_letter" ["letter","sign"] 2 spLowL:=by
 have sc:=sc_low
 refine D.ok sc (fun _ _ _ _ _ _ us hl=>by obtain ⟨_,_,rfl⟩:=len2 hl;rfl) (fun vs H Q E h=>?_) (fun f cdv A outer s H vs Q E hr h=>?_)
 ·obtain ⟨x,y,rfl,_⟩:=h
  rfl
 ·obtain ⟨x,y,rfl,ne,k⟩:=h
  obtain ⟨tS,mgS⟩:=S
  have l16:=line16
  refine ⟨_,(@pss_cons _ _ _ _ _ (@ps_if _ _ _ _ _ _ _ _ (@pt_cmpR _ _ _ _ _ _ _ _ op_lt (@pe_fn _ _ _ _ _ _ _ _ _ _ _ F_num hr (by decide) rfl (@pa_cons _ _ _ _ _ (pv 1) pa_nil (by rfl)) (by decide) (by rfl) (by rfl)) (@pe_fn _ _ _ _ _ _ _ _ _ _ _ F_num hr (by decide) rfl (@pa_cons _ _ _ _ _ (pv 0) pa_nil (by rfl)) (by decide) (by rfl) (by rfl)) (nomark _)) (@pss_one _ _ _ (@ps_ret _ _ _ _ (pv 1))) pss_nil) (@pss_cons _ _ _ _ _ (@ps_set _ _ (2) _ _ _ _ sc.nd rfl (Or.inl rfl) (@pe_ix _ _ _ _ _ _ _ ix_str (@pe_glob _ _ (.str "abcdef") _ _ rfl mgS ⟨_,rfl⟩ (by decide)) (@pe_op _ _ _ _ _ _ _ _ op_sub (@pe_fn _ _ _ _ _ _ _ _ _ _ _ F_num hr (by decide) rfl (@pa_cons _ _ _ _ _ (pv 1) pa_nil (by rfl)) (by decide) (by rfl) (by rfl)) pe_int) (fun _ _=>rfl)) (by rfl) (by first | exact .inl rfl | exact .inr rfl | assumption)) (@pss_one _ _ _ (@ps_ret _ _ _ _ (@pe_ifExp _ _ _ _ _ _ _ _ (@pt_truth _ _ _ (@pe_bm0 _ _ _ _ _ _ _ _ _ PySem.F.plainAttrs_str PySem.F.slot_str_islower PySem.F.type_str_islower mt_islower (pv 1) (by rfl) (by rfl)) (fun _=>rfl)) (pv 2) (@pe_fn _ _ _ _ _ _ _ _ _ _ _ F_back hr (by decide) rfl (@pa_cons _ _ _ _ _ (pv 2) pa_nil (by rfl)) (by decide) (by rfl) (by rfl))))))),?_⟩
  refine ⟨_,rfl,y,rfl,_,rfl,x,rfl,_,_,rfl,rfl,_,rfl,ite2 (fun h=>?_) (fun h=>?_)⟩
  ·have h:y.val % 6 < x.val % 6:=by have:=of_decide_eq_true h;omega
   refine ⟨_,rfl,?_⟩
   rw [← low_at x y ne h]
   exact k _ (Same.refl _)
  ·have h:¬ y.val % 6 < x.val % 6:=fun q=>h (decide_eq_true (by omega))
   have hy:y.val % 6 < 6:=Nat.mod_lt _ (by decide)
   have at0:atI ("abcdef":Str).cps.toList ((y.val % 6:Nat) - 1:Int)=some (cp (lt6 (y.val % 6 - 1))):=by
    have e:((y.val % 6:Nat) - 1:Int)=((y.val % 6 - 1:Nat):Int):=by omega
    rw [e]
    exact atI_nat (small_at7 ⟨y.val % 6 - 1,by omega⟩)
   refine ⟨_,rfl,y,rfl,_,_,rfl,rfl,_,_,_,rfl,rfl,(by decide +kernel),at0,?_⟩
   refine ⟨_,rfl,rfl,_,rfl,rfl,_,rfl,?_⟩
   show if Txt.islower (toS [y])=true then _ else _
   rw [islow]
   refine ite2 (fun h6=>?_) (fun h6=>?_)
   ·rw [low_small x y h ne (of_decide_eq_true h6)]
    exact ⟨_,rfl,k _ (Same.refl _)⟩
   ·refine ⟨_,rfl,[lt6 (y.val % 6 - 1)],rfl,(by show 1≤5000;decide),fun H1 s1=>?_⟩
    rw [bk_one,low_great x y h ne (fun q=>h6 (decide_eq_true q))]
    exact k _ s1
noncomputable abbrev s_lowd:Stmt:=top 17
theorem sc_lowd:FnScope ["letter","word"] ["letter","word"] (defScope s_lowd):=⟨rfl,rfl,rfl,by decide +kernel,rfl,by decide +kernel,by decide +kernel⟩
theorem c_lowd (D:Df K mg "lowered" s_lowd)(T:Bt K w mg aB)(F_low:Fnc P w K mg base "lower_letter" ["letter","sign"] 2 spLowL):Fnc P w K mg base "lowered" ["letter","word"] 3 spLowered:=by
 have sc:=sc_lowd
 refine D.ok sc (fun _ _ _ _ _ _ us hl=>by obtain ⟨_,_,rfl⟩:=len2 hl;rfl) (fun vs H Q E h=>?_) (fun f cdv A outer s H vs Q E hr h=>?_)
 ·obtain ⟨x,u,rfl,_⟩:=h
  rfl
 ·obtain ⟨x,u,rfl,hu,hne,k⟩:=h
  have l16:=line16
  refine ⟨_,(@pss_one _ _ _ (@ps_ret _ _ _ _ (@pe_bm _ _ _ _ _ _ _ _ _ _ _ _ PySem.F.plainAttrs_str PySem.F.slot_str_join PySem.F.type_str_join mt_join pe_str (@pa_cons _ _ _ _ _ (@pe_comp _ _ _ _ _ _ _ (["sign","letter"]) (["sign"]) ([0]) _ _ _ _ (@blk_of _ _ _ _ _ _ rfl (by kernel_rfl)) rfl (@pi_str _ _ _ _ (pv 1)) (fun _ _ _ _=>@pg_name _ _ (0) _ (show (["sign","letter"]:List Str).Nodup from by decide +kernel) rfl (Or.inl rfl) (by first | exact .inl rfl | exact .inr rfl | assumption)) (fun _ _ _ _=>pifs_nil) (fun _ _ _ _=>by (exact (@pe_fn _ _ _ _ _ _ _ _ _ _ _ F_low hr (by decide) rfl (@pa_cons _ _ _ _ _ (pv 1) (@pa_cons _ _ _ _ _ (pv 0) pa_nil (by rfl)) (by rfl)) (by decide) (by rfl) (by rfl)))) (by intro _ ;rfl)) pa_nil (by rfl)) (by rfl) (by rfl) (by rfl) (by rfl) (by rfl)))),?_⟩
  refine ⟨rfl,_,rfl,_,rfl,?_⟩
  refine comp_by (own:=["sign"]) (cap:=[0]) (J:=Its (toS u)) u.length (fun j ys σ H'=>∃ v:Option V,σ = [v,some (tx [x])]∧ys=ones ((u.map (lowL x)).take j)∧Same H H') ⟨none,rfl,rfl,Same.refl _⟩ (fun j ys σ H' hj ⟨_,_,e,_⟩=>by rw [e,ones_length,List.length_take];omega) (by omega) (fun j ys σ H' hj _=>?_) (fun ys σ H' _=>?_) ?_ ?_
  ·show j < (toS u).cps.size;rw [toS_size];exact hj
  ·show _=(toS u).cps.size;rw [toS_size]
  ·rintro j ys σ H1 z H2 N' hj ⟨v,rfl,rfl,s1⟩ ⟨rfl,c,hc,rfl⟩ hN
   obtain ⟨y,hy,e⟩:=sign_at hc
   refine ⟨_,rfl,_,rfl,x,y,by rw [e];rfl,hne y (List.mem_of_getElem? hy),fun H3 s3=>hN _ _ _ ⟨_,rfl,?_,s1.trans s3⟩⟩
   have hy2:(u.map (lowL x))[j]? = some (lowL x y):=by rw [List.getElem?_map,hy];rfl
   rw [take_snoc hy2,← ones_snoc]
  ·rintro ys σ H1 l ⟨v,rfl,rfl,s1⟩ hl
   rw [List.take_of_length_le (by rw [List.length_map];exact Nat.le_refl _)]
   refine ⟨_,l,(u.map (lowL x)).map fun x=>toS [x],rfl,rfl,SqL.of (by rw [upd_same,ones_str]),join_room _ (by rw [List.length_map];omega),?_⟩
   rw [join_ones]
   exact k _ (s1.then hl)
end
end Kx
namespace Kx
open PySem PySem.Spec PyProof.Rows L2 Wd
noncomputable def spLet0:Sp:=fun vs H Q _=>∃ (z:Str) (k:Nat),vs=[.str z]∧z.length / 2=k∧1≤k∧k≤6∧Q (tx (sml (k:Int))) H
section
variable {P:Program} {w:World} {K:PySem.W.Frag} {mg:Str→Option Value} {base:Heap} {aB:Addr}
noncomputable abbrev s_let:Stmt:=top 11
theorem sc_let:FnScope ["surface"] ["surface"] (defScope s_let):=⟨rfl,rfl,rfl,by decide +kernel,rfl,by decide +kernel,by decide +kernel⟩
theorem c_let (D:Df K mg "letters_of" s_let)(T:Bt K w mg aB)(S:∃ t,mg "SMALL" = some (.str "abcdef" t)):Fnc P w K mg base "letters_of" ["surface"] 1 spLet0:=by
 have sc:=sc_let
 refine D.ok sc (fun _ _ _ _ _ _ us hl=>by obtain ⟨_,rfl⟩:=len1 hl;rfl) (fun vs H Q E h=>?_) (fun f cdv A outer s H vs Q E hr h=>?_)
 ·obtain ⟨z,k,rfl,_⟩:=h
  rfl
 ·obtain ⟨z,k,rfl,hl,h1,h6,q⟩:=h
  obtain ⟨tS,mgS⟩:=S
  have l16:=line16
  refine ⟨_,(@pss_one _ _ _ (@ps_ret _ _ _ _ (@pe_slice _ _ _ _ _ _ _ _ _ _ sl_str (@pe_glob _ _ (.str "abcdef") _ _ rfl mgS ⟨_,rfl⟩ (by decide)) po_none (@po_some _ _ _ (@pe_op _ _ _ _ _ _ _ _ op_fdiv (@pe_callB _ _ _ _ _ _ _ _ _ call_len_str (by rfl) T.len PySem.boot_len (@pa_cons _ _ _ _ _ (pv 0) pa_nil (by rfl)) (by decide) (by decide) (by rfl) (by rfl)) pe_int))))),?_⟩
  refine ⟨_,rfl,_,rfl,(by omega),_,_,rfl,rfl,⟨by decide,by decide⟩,_,rfl,_,rfl,(by rw [len_sm];omega),?_⟩
  have e:(z.length:Int) / 2=(k:Int):=by omega
  rw [e,slice_sml (by omega)]
  exact q
end
end Kx
namespace Kx
open PySem PySem.Spec PyProof.Rows L2 Wd
theorem signs_ones7 (W:List L):L2.signs (toS W)=(W.map fun x=>[x]).map tx:=by
 unfold L2.signs
 rw [toS_cps,List.map_map,List.map_map]
 rfl
theorem in_str7 (z:Str)(F:List (List L)):inV (.str z) (F.map tx)=decide (z∈F.map toS):=by
 unfold inV
 by_cases h:z∈F.map toS
 ·rw [decide_eq_true h,List.any_eq_true]
  obtain ⟨v,hv,rfl⟩:=List.mem_map.mp h
  exact ⟨tx v,List.mem_map.mpr ⟨v,hv,rfl⟩,by simp [tx,eqV]⟩
 ·rw [decide_eq_false h,List.any_eq_false]
  intro x hx
  obtain ⟨u,hu,rfl⟩:=List.mem_map.mp hx
  have:toS u≠z:=fun e=>h (List.mem_map.mpr ⟨u,hu,e⟩)
  simp [tx,eqV,this]
theorem flat7 (F:List (List L)):(F.map tx).all flatV=true:=by
 rw [List.all_eq_true]
 intro x hx
 obtain ⟨v,_,rfl⟩:=List.mem_map.mp hx
 rfl
theorem mem_sml7:∀ (k:Fin 7) (x:L),x∈sml (k.val:Int) ↔ (x.val < k.val∧x.val < 6):=by
 unfold sml
 decide
section
variable {P:Program} {w:World} {K:PySem.W.Frag} {mg:Str→Option Value} {base:Heap} {aB:Addr}
noncomputable abbrev s_cut:Stmt:=top 15
theorem sc_cut:FnScope ["surface","letter"] ["surface","letter"] (defScope s_cut):=⟨rfl,rfl,rfl,by decide +kernel,rfl,by decide +kernel,by decide +kernel⟩
theorem c_cut {N:Nat}{CB:Addr}(D:Df K mg "cut" s_cut)(T:Bt K w mg aB)(M_band:XMk P w K mg base "NoBand" CB ["letter"] 1)(F_let:Fnc P w K mg base "letters_of" ["surface"] 1 spLet0)(F_backT:Fnc P w K mg base "back" ["word"] 1 (spBk1 N))(F_lowd:Fnc P w K mg base "lowered" ["letter","word"] 3 spLowered):FncT P w K mg base "cut" ["surface","letter"] 4 (spCutX CB N):=by
 have sc:=sc_cut
 refine D.okT sc (fun _ _ _ _ _ _ us hl=>by obtain ⟨_,_,rfl⟩:=len2 hl;rfl) (fun n vs H Q E h=>?_) (fun f cdv A outer s H vs Q E hr h=>?_)
 ·obtain ⟨u,z,y,rfl,_⟩:=h
  rfl
 ·obtain ⟨u,z,y,rfl,ey,hN,u2,u14,hz,kY,kN⟩:=h
  have l16:=line16
  refine ⟨_,(@pss_cons _ _ _ _ _ (@ps_if _ _ _ _ _ _ _ _ (@PW.pt _ _ _ (@pw_or _ _ _ _ _ _ _ (@pt_cmpR _ _ _ _ _ _ _ _ op_eq (@pe_callB _ _ _ _ _ _ _ _ _ call_len_str (by rfl) T.len PySem.boot_len (@pa_cons _ _ _ _ _ (pv 0) pa_nil (by rfl)) (by decide) (by decide) (by rfl) (by rfl)) pe_int (nomark _)) (@pw_or1 _ _ _ _ (@pt_cmpR _ _ _ _ _ _ _ _ (@op_notIn_K _ (K) rfl) (@pe_wk _ _ _ (pv 1)) (@pe_callTy _ _ _ _ _ _ _ _ _ (@call_list_signs _ rfl) (by rfl) T.list b_list (@pa_cons _ _ _ _ _ (@pe_fn _ _ _ _ _ _ _ _ _ _ _ F_let hr (by decide) rfl (@pa_cons _ _ _ _ _ (pv 0) pa_nil (by rfl)) (by decide) (by rfl) (by rfl)) pa_nil (by rfl)) (by decide) (by decide) (by rfl) (by rfl)) rfl)))) (@pss_one _ _ _ (@ps_raiseX _ _ _ _ _ raises_def rfl (@pe_mk _ _ _ _ _ _ _ _ _ _ _ M_band hr (by decide) rfl (@pa_cons _ _ _ _ _ (@pe_wk _ _ _ (pv 1)) pa_nil (by rfl)) (by decide) (by rfl) (by rfl)))) pss_nil) (@pss_one _ _ _ (@ps_ret _ _ _ _ (@pe_fn _ _ _ _ _ _ _ _ _ _ _ F_lowd hr (by decide) rfl (@pa_cons _ _ _ _ _ (@pe_wk _ _ _ (pv 1)) (@pa_cons _ _ _ _ _ (@pe_strike _ _ _ _ _ _ _ _ _ (@pe_strike _ _ _ _ _ _ _ _ _ (pv 0) (pv 1) (by rfl) (by rfl) (by rfl) (by rfl)) (@pe_fn _ _ _ _ _ _ _ _ _ _ _ F_backT hr (by decide) rfl (@pa_cons _ _ _ _ _ (@pe_wk _ _ _ (pv 1)) pa_nil (by rfl)) (by decide) (by rfl) (by rfl)) (by rfl) (by rfl) (by rfl) (by rfl)) pa_nil (by rfl)) (by rfl)) (by decide) (by rfl) (by rfl))))),?_⟩
  have lu:=toS_length u
  have e2:decide (V.int ((toS u).length:Int)=V.int 2)=decide (u.length=2):=by
   rw [lu]
   by_cases h:u.length=2
   ·rw [decide_eq_true h,h];rfl
   ·rw [decide_eq_false h];exact decide_eq_false fun q=>h (by have:=V.int.inj q;omega)
  refine ⟨_,rfl,toS u,rfl,by omega,rfl,_,rfl,?_⟩
  rw [e2]
  have raise:∀ H1,Same H H1→(u.length=2 ∨ ∀ x:L,x.val < u.length / 2→x.val < 6→z≠toS [x])→sRaise (cxOf (CXe P w) P w K mg base ["surface","letter"] (Str.ofString "cut") (defScope s_cut) f cdv A outer s H E).K (tNewX CB [Str.ofString "letter"] (tCons (tWk (tVar 1)) tNil)) E { nx:=fun _ H'=>Q .non H',rt:=Q } [some (tx u),some y] H1:=fun H1 s1 hc =>
   ⟨_,rfl,rfl,by decide,fun b dx hb hd ne=>⟨b,CB,some dx,true,rfl,by rw [upd_ne ne.symm,upd_same],M_band.ca.1,kN hc b _ (ey ▸ new_x1 hb hd ne) (s1.trans (new_sameS hb hd))⟩⟩
  by_cases h2:u.length=2
  ·rw [decide_eq_true h2]
   refine orkT (ifsT ?_)
   exact raise H (Same.refl _) (.inl h2)
  rw [decide_eq_false h2]
  refine orkF ?_
  refine ⟨_,rfl,_,rfl,toS u,u.length / 2,rfl,by rw [lu],by omega,by omega,_,rfl,?_,fun p hp=>?_⟩
  ·rw [toS_length];have:=sml_length (m:=((u.length / 2:Nat):Int));omega
  rw [signs_ones7]
  refine ⟨p,_,rfl,.inl (SqL.of upd_same),?_,flat7 _,?_⟩
  ·rw [ey];rfl
  rw [ey,in_str7]
  have hm:z∈(((sml ((u.length / 2:Nat):Int)).map fun x=>[x]).map toS) ↔ ∃ x:L,x.val < u.length / 2∧x.val < 6∧z=toS [x]:=by
   rw [List.map_map,List.mem_map]
   constructor
   ·rintro ⟨x,hx,rfl⟩
    obtain ⟨h1,h2⟩:=(mem_sml7 ⟨u.length / 2,by omega⟩ x).mp hx
    exact ⟨x,h1,h2,rfl⟩
   ·rintro ⟨x,h1,h2,rfl⟩
    exact ⟨x,(mem_sml7 ⟨u.length / 2,by omega⟩ x).mpr ⟨h1,h2⟩,rfl⟩
  by_cases hc:∃ x:L,x.val < u.length / 2∧x.val < 6∧z=toS [x]
  ·rw [decide_eq_true (hm.mpr hc)]
   refine ⟨_,rfl,ifsF ?_⟩
   obtain ⟨x,hx,hx6,rfl⟩:=hc
   obtain ⟨⟨t,rfl,t0,tn⟩,kq⟩:=kY x h2 hx hx6 rfl
   refine ⟨_,rfl,_,rfl,_,rfl,by omega,_,rfl,cp x,t,rfl,t0,tn,?_⟩
   rw [strike_toS]
   have l1:=List.length_filter_le (fun y=>decide (y≠x)) u
   refine ⟨_,rfl,by rw [toS_length];omega,_,rfl,x,rfl,fun tb H2 b0 bN s2=>⟨cp (inv x),tb,rfl,b0,Nat.lt_of_lt_of_le bN hN,?_⟩⟩
   rw [strike_toS]
   have l2:=List.length_filter_le (fun y=>decide (y≠inv x)) (u.filter fun y=>decide (y≠x))
   refine ⟨x,_,rfl,by omega,fun y hy=>?_,fun H3 s3=>kq H3 ((Same.new hp).trans (s2.trans s3))⟩
   obtain ⟨hy1,hy2⟩:=List.mem_filter.mp hy
   obtain ⟨_,hy3⟩:=List.mem_filter.mp hy1
   have:∀ x y:L,y≠x→y≠inv x→y.val % 6≠x.val % 6:=by decide
   exact this x y (of_decide_eq_true hy3) (of_decide_eq_true hy2)
  ·rw [decide_eq_false fun q=>hc (hm.mp q)]
   refine ⟨_,rfl,ifsT ?_⟩
   exact raise _ (Same.new hp) (.inr fun x h1 h6 e=>hc ⟨x,h1,h6,e⟩)
end
end Kx
namespace Kx
open PySem PySem.Spec PyProof.Rows L2 Wd
theorem fd_upd5 {H:Hp}{d l:Addr}{z:Str}{o:HO}{xs:List V}(F:Fd H d)(h:H l=some (.lst xs))(n:l≠d)(hx:V.str z∈xs):Fd (L2.upd H l o) d:=by
 obtain ⟨c,i,ll,t,ns,h1,h2,h3,h4⟩:=F.ex
 have hc:c≠l:=fun e=>by
  subst e
  rw [h2] at h
  have h:=HO.lst.inj (Option.some.inj h)
  rw [← h] at hx
  obtain ⟨k,_,e⟩:=List.mem_map.mp hx
  cases e
 exact ⟨c,i,ll,t,ns,by rw [upd_ne (fun e=>n e.symm)];exact h1,by rw [upd_ne hc];exact h2,h3,h4⟩
section
variable {P:Program} {w:World} {K:PySem.W.Frag} {mg:Str→Option Value} {base:Heap} {aB:Addr}
noncomputable abbrev s_surf:Stmt:=top 43
theorem sc_surf:FnScope ["_law_feed_here","_law_many","_law_left","_law_found","_law_k"] ["_law_feed_here","_law_many"] (defScope s_surf):=⟨rfl,rfl,rfl,by decide +kernel,rfl,by decide +kernel,by decide +kernel⟩
theorem c_surf (D:Df K mg "_law_surface" s_surf)(T:Bt K w mg aB)(F_draw:Fnc P w K mg base "_law_draw" ["_law_feed_here","_law_many"] 1 spDraw):Fnc P w K mg base "_law_surface" ["_law_feed_here","_law_many"] 2 spSurfD:=by
 have sc:=sc_surf
 refine D.ok sc (fun _ _ _ _ _ _ us hl=>by obtain ⟨_,_,rfl⟩:=len2 hl;rfl) (fun vs H Q E h=>?_) (fun f cdv A outer s H vs Q E hr h=>?_)
 ·obtain ⟨d,n,rfl,_⟩:=h
  rfl
 ·obtain ⟨d,n,rfl,F,h1,h6,k⟩:=h
  have l16:=line16
  refine ⟨_,(@pss_cons _ _ _ _ _ (@ps_set _ _ (2) _ _ _ _ sc.nd rfl (Or.inl rfl) (@pe_callTy _ _ _ _ _ _ _ _ _ (@call_list_signs _ rfl) (by rfl) T.list b_list (@pa_cons _ _ _ _ _ (@pe_op _ _ _ _ _ _ _ _ op_add_str (@pe_slice _ _ _ _ _ _ _ _ _ _ sl_str pe_str po_none (@po_some _ _ _ (pv 1))) (@pe_slice _ _ _ _ _ _ _ _ _ _ sl_str pe_str po_none (@po_some _ _ _ (pv 1)))) pa_nil (by rfl)) (by decide) (by decide) (by rfl) (by rfl)) (by rfl) (by first | exact .inl rfl | exact .inr rfl | assumption)) (@pss_cons _ _ _ _ _ (@ps_set _ _ (3) _ _ _ _ sc.nd rfl (Or.inl rfl) pe_str (by rfl) (by first | exact .inl rfl | exact .inr rfl | assumption)) (@pss_cons _ _ _ _ _ (@ps_for _ _ _ _ _ _ _ _ PassesOwn.never rfl (@pi_range1 _ _ _ _ _ _ rfl T.range (@pa_cons _ _ _ _ _ (@pe_op _ _ _ _ _ _ _ _ op_mul pe_int (pv 1)) pa_nil (by rfl)) (by rfl)) (@pg_name _ _ (4) _ sc.nd rfl (Or.inl rfl) (by first | exact .inl rfl | exact .inr rfl | assumption)) (@pss_one _ _ _ (@ps_set _ _ (3) _ _ _ _ sc.nd rfl (Or.inl rfl) (@pe_op _ _ _ _ _ _ _ _ op_add_str (pv 3) (@pe_bm _ _ _ _ _ _ _ _ _ _ _ _ PySem.F.plainAttrs_list PySem.F.slot_list_pop PySem.F.type_list_pop mt_popAt (pv 2) (@pa_cons _ _ _ _ _ (@pe_fn _ _ _ _ _ _ _ _ _ _ _ F_draw hr (by decide) rfl (@pa_cons _ _ _ _ _ (pv 0) (@pa_cons _ _ _ _ _ (@pe_callB _ _ _ _ _ _ _ _ _ call_len_seq (by rfl) T.len PySem.boot_len (@pa_cons _ _ _ _ _ (pv 2) pa_nil (by rfl)) (by decide) (by decide) (by rfl) (by rfl)) pa_nil (by rfl)) (by rfl)) (by decide) (by rfl) (by rfl)) pa_nil (by rfl)) (by rfl) (by rfl) (by rfl) (by rfl) (by rfl))) (by rfl) (by first | exact .inl rfl | exact .inr rfl | assumption))) (by intro _ ;rfl)) (@pss_one _ _ _ (@ps_ret _ _ _ _ (pv 3)))))),?_⟩
  refine ⟨_,rfl,_,rfl,_,rfl,(by rw [len_sm];omega),_,rfl,_,rfl,_,rfl,(by rw [len_bg];omega),_,_,rfl,rfl,?_,?_⟩
  ·have q1:=Txt.slice_le ("abcdef":Str) none (some (n:Int))
   have q2:=Txt.slice_le ("ABCDEF":Str) none (some (n:Int))
   rw [len_sm] at q1
   rw [len_bg] at q2
   omega
  rw [slice_sg (by omega)]
  have hsl:(sg (n:Int)).length=2*n:=by rw [sg_length (by omega) (by omega)];omega
  refine ⟨_,rfl,(by rw [toS_length,hsl];omega),fun l hl=>?_⟩
  rw [signs_ones]
  have nl:=F.ne hl
  refine ⟨_,rfl,_,_,rfl,rfl,(Or.inl ⟨by decide,by decide⟩),?_⟩
  refine ⟨_,rfl,by omega,by omega,?_⟩
  rw [show ((2:Int)*(n:Int)).toNat=2*n by omega]
  refine for_range (lo:=0) (n:=2*n) (fun i σ H'=>∃ (v:Option V) (W left:List L),σ = [some (.ref d),some (.int (n:Int)),some (.ref l),some (tx W),v]∧H' l=some (.lst (ones left))∧(W++left).Perm (sg (n:Int))∧W.length=i∧Fd H' d∧SameB d H H') ⟨none,[],sg (n:Int),(by rw [tx_nil];rfl),upd_same,List.Perm.refl _,rfl,F.new hl,(Same.new hl).b⟩ ?_ ?_
  ·rintro i σ H1 hi ⟨v,W,left,rfl,f1,pW,hW,F1,sb1⟩
   have hll:left.length=2*n - i:=by
    have:=pW.length_eq
    rw [List.length_append,hW,hsl] at this
    omega
   refine ⟨_,rfl,_,rfl,.inl ⟨rfl,_,SqL.of f1⟩,_,rfl,_,rfl,l,_,rfl,.inl (SqL.of f1),d,_,rfl,F1,by rw [ones_length];omega,by rw [ones_length];omega,fun r H2 r0 r1 F2 sb2=>?_⟩
   rw [ones_length] at r1
   have f2:=sb2 _ _ nl f1
   have hrk:r.toNat < left.length:=by omega
   have gy:left[r.toNat]? = some left[r.toNat]:=List.getElem?_eq_getElem hrk
   generalize left[r.toNat]=y at gy
   refine ⟨l,_,r,r.toNat,tx [y],rfl,rfl,f2,by omega,by omega,(ixN_seq (by unfold ixN;rw [if_pos r0,if_pos (by rw [ones_length];omega)])).1,(by unfold ones;rw [List.getElem?_map,gy];rfl),?_⟩
   rw [ones_erase]
   refine ⟨_,_,rfl,rfl,(by rw [toS_length,toS_length];show _+1≤_;omega),?_⟩
   rw [toS_append]
   have hy:V.str (toS [y])∈ones left:=by
    unfold ones
    exact List.mem_map.mpr ⟨y,List.mem_of_getElem? gy,rfl⟩
   refine ⟨_,W++[y],left.eraseIdx r.toNat,rfl,upd_same,?_,by rw [List.length_append,hW];rfl,fd_upd5 F2 f2 nl hy,fun b o n' e=>?_⟩
   ·refine List.Perm.trans ?_ pW
    rw [List.append_assoc]
    exact List.Perm.append_left W (erase_perm gy).symm
   ·rw [upd_ne (ne_of_none e hl)]
    exact sb2 _ _ n' (sb1 _ _ n' e)
  ·rintro σ H1 ⟨v,W,left,rfl,f1,pW,hW,F1,sb1⟩
   have hll:left.length=0:=by
    have:=pW.length_eq
    rw [List.length_append,hW,hsl] at this
    omega
   have:left=[]:=List.eq_nil_of_length_eq_zero hll
   subst this
   rw [List.append_nil] at pW
   have pW':W.Perm (([0,1,2,3,4,5]:List L).take n++([6,7,8,9,10,11]:List L).take n):=by
    unfold sg at pW
    rwa [Int.toNat_natCast] at pW
   refine ⟨_,rfl,k W _ (row_perm h1 h6 pW') (fun x hx=>pW'.mem_iff.mpr (sg_all h6 hx)) F1 sb1⟩
end
end Kx
namespace Kx
open PySem PySem.Spec PyProof.Rows L2 Wd
section
variable {P:Program} {w:World} {K:PySem.W.Frag} {mg:Str→Option Value} {base:Heap} {aB:Addr}
noncomputable abbrev s_put:Stmt:=top 20
theorem sc_put:FnScope ["row","place","sign"] ["row","place","sign"] (defScope s_put):=⟨rfl,rfl,rfl,by decide +kernel,rfl,by decide +kernel,by decide +kernel⟩
theorem c_put (D:Df K mg "put_in" s_put):Fnc P w K mg base "put_in" ["row","place","sign"] 1 spPutIn:=by
 have sc:=sc_put
 refine D.ok sc (fun _ _ _ _ _ _ us hl=>by obtain ⟨_,_,_,rfl⟩:=len3 hl;rfl) (fun vs H Q E h=>?_) (fun f cdv A outer s H vs Q E hr h=>?_)
 ·obtain ⟨u,p,v,rfl,_⟩:=h
  rfl
 ·obtain ⟨u,p,v,rfl,hp,hu,hv,k⟩:=h
  have l16:=line16
  have e1:Txt.slice (toS u) none (some (p:Int))=toS (u.take p):=by rw [slice_toS,cut_to _ (by omega),Int.toNat_natCast]
  have e2:Txt.slice (toS u) (some (p:Int)) none=toS (u.drop p):=by rw [slice_toS,cut_from _ (by omega),Int.toNat_natCast]
  have lu:=toS_length u
  refine ⟨_,(@pss_one _ _ _ (@ps_ret _ _ _ _ (@pe_op _ _ _ _ _ _ _ _ op_add_str (@pe_op _ _ _ _ _ _ _ _ op_add_str (@pe_slice _ _ _ _ _ _ _ _ _ _ sl_str (pv 0) po_none (@po_some _ _ _ (pv 1))) (pv 2)) (@pe_slice _ _ _ _ _ _ _ _ _ _ sl_str (pv 0) (@po_some _ _ _ (pv 1)) po_none)))),?_⟩
  refine ⟨_,rfl,_,rfl,_,rfl,_,rfl,by omega,?_⟩
  rw [e1]
  refine ⟨_,rfl,_,_,rfl,rfl,(by rw [toS_length,toS_length,List.length_take];omega),?_⟩
  rw [toS_append]
  refine ⟨_,rfl,_,rfl,_,rfl,_,rfl,by omega,?_⟩
  rw [e2]
  refine ⟨_,_,rfl,rfl,(by rw [toS_length,toS_length,List.length_append,List.length_take,List.length_drop];omega),?_⟩
  rw [toS_append]
  exact k _ (Same.refl _)
noncomputable abbrev s_glued:Stmt:=top 19
theorem sc_glued:FnScope ["surface","place","other","letter"] ["surface","place","other"] (defScope s_glued):=⟨rfl,rfl,rfl,by decide +kernel,rfl,by decide +kernel,by decide +kernel⟩
theorem c_glued {CB CS:Addr}(D:Df K mg "glued" s_glued)(T:Bt K w mg aB)(S:∃ t,mg "SMALL" = some (.str "abcdef" t))(ME:∃ t,mg "MOST_ENDS" = some (.int 12 t))(M_band:XMk P w K mg base "NoBand" CB ["letter"] 1)(M_slide:XMk P w K mg base "NoSlide" CS ["place"] 1)(F_put:Fnc P w K mg base "put_in" ["row","place","sign"] 1 spPutIn)(F_back:Fnc P w K mg base "back" ["word"] 1 spBk):FncX P w K mg base "glued" ["surface","place","other"] 3 (spGlued CB CS):=by
 have sc:=sc_glued
 refine D.okX sc (fun _ _ _ _ _ _ us hl=>by obtain ⟨_,_,_,rfl⟩:=len3 hl;rfl) (fun vs H Q E h=>?_) (fun f cdv A outer s H vs Q E hr h=>?_)
 ·obtain ⟨u,p,q,rfl,_⟩:=h
  rfl
 ·obtain ⟨u,p,q,rfl,u2,u12,kT,kB,kS⟩:=h
  obtain ⟨tS,mgS⟩:=S
  obtain ⟨tE,mgE⟩:=ME
  have l16:=line16
  have lu:=toS_length u
  refine ⟨_,(@pss_cons _ _ _ _ _ (@ps_if _ _ _ _ _ _ _ _ (@pt_cmpR _ _ _ _ _ _ _ _ op_eq (@pe_callB _ _ _ _ _ _ _ _ _ call_len_str (by rfl) T.len PySem.boot_len (@pa_cons _ _ _ _ _ (pv 0) pa_nil (by rfl)) (by decide) (by decide) (by rfl) (by rfl)) (@pe_glob _ _ (.int 12) _ _ rfl mgE ⟨_,rfl⟩ (by decide)) (nomark _)) (@pss_one _ _ _ (@ps_raiseX _ _ _ _ _ raises_def rfl (@pe_mk _ _ _ _ _ _ _ _ _ _ _ M_band hr (by decide) rfl (@pa_cons _ _ _ _ _ pe_str pa_nil (by rfl)) (by decide) (by rfl) (by rfl)))) pss_nil) (@pss_cons _ _ _ _ _ (@ps_if _ _ _ _ _ _ _ _ (@pt_not _ _ _ _ (@pt_chain _ _ _ _ _ _ _ _ _ _ _ _ op_le op_le pe_int (pv 1) (@pe_callB _ _ _ _ _ _ _ _ _ call_len_str (by rfl) T.len PySem.boot_len (@pa_cons _ _ _ _ _ (pv 0) pa_nil (by rfl)) (by decide) (by decide) (by rfl) (by rfl)) (by with_unfolding_all rfl))) (@pss_one _ _ _ (@ps_raiseX _ _ _ _ _ raises_def rfl (@pe_mk _ _ _ _ _ _ _ _ _ _ _ M_slide hr (by decide) rfl (@pa_cons _ _ _ _ _ pe_int pa_nil (by rfl)) (by decide) (by rfl) (by rfl)))) pss_nil) (@pss_cons _ _ _ _ _ (@ps_if _ _ _ _ _ _ _ _ (@pt_not _ _ _ _ (@pt_chain _ _ _ _ _ _ _ _ _ _ _ _ op_le op_le pe_int (pv 2) (@pe_op _ _ _ _ _ _ _ _ op_add (@pe_callB _ _ _ _ _ _ _ _ _ call_len_str (by rfl) T.len PySem.boot_len (@pa_cons _ _ _ _ _ (pv 0) pa_nil (by rfl)) (by decide) (by decide) (by rfl) (by rfl)) pe_int) (by with_unfolding_all rfl))) (@pss_one _ _ _ (@ps_raiseX _ _ _ _ _ raises_def rfl (@pe_mk _ _ _ _ _ _ _ _ _ _ _ M_slide hr (by decide) rfl (@pa_cons _ _ _ _ _ pe_int pa_nil (by rfl)) (by decide) (by rfl) (by rfl)))) pss_nil) (@pss_cons _ _ _ _ _ (@ps_set _ _ (3) _ _ _ _ sc.nd rfl (Or.inl rfl) (@pe_ix _ _ _ _ _ _ _ ix_str (@pe_glob _ _ (.str "abcdef") _ _ rfl mgS ⟨_,rfl⟩ (by decide)) (@pe_op _ _ _ _ _ _ _ _ op_fdiv (@pe_callB _ _ _ _ _ _ _ _ _ call_len_str (by rfl) T.len PySem.boot_len (@pa_cons _ _ _ _ _ (pv 0) pa_nil (by rfl)) (by decide) (by decide) (by rfl) (by rfl)) pe_int) (fun _ _=>rfl)) (by rfl) (by first | exact .inl rfl | exact .inr rfl | assumption)) (@pss_one _ _ _ (@ps_ret _ _ _ _ (@pe_fn _ _ _ _ _ _ _ _ _ _ _ F_put hr (by decide) rfl (@pa_cons _ _ _ _ _ (@pe_fn _ _ _ _ _ _ _ _ _ _ _ F_put hr (by decide) rfl (@pa_cons _ _ _ _ _ (pv 0) (@pa_cons _ _ _ _ _ (pv 1) (@pa_cons _ _ _ _ _ (pv 3) pa_nil (by rfl)) (by rfl)) (by rfl)) (by decide) (by rfl) (by rfl)) (@pa_cons _ _ _ _ _ (pv 2) (@pa_cons _ _ _ _ _ (@pe_fn _ _ _ _ _ _ _ _ _ _ _ F_back hr (by decide) rfl (@pa_cons _ _ _ _ _ (pv 3) pa_nil (by rfl)) (by decide) (by rfl) (by rfl)) pa_nil (by rfl)) (by rfl)) (by rfl)) (by decide) (by rfl) (by rfl)))))))),?_⟩
  refine ⟨_,rfl,toS u,rfl,by omega,rfl,_,rfl,?_⟩
  have e2:decide (V.int ((toS u).length:Int)=V.int 12)=decide (u.length=12):=by
   rw [lu]
   by_cases h:u.length=12
   ·rw [decide_eq_true h,h];rfl
   ·rw [decide_eq_false h];exact decide_eq_false fun q=>h (by have:=V.int.inj q;omega)
  rw [e2]
  by_cases h12:u.length=12
  ·rw [decide_eq_true h12]
   refine ifsT ?_
   exact ⟨rfl,by decide,fun b dx hb hd ne=>⟨b,CB,some dx,true,rfl,by rw [upd_ne ne.symm,upd_same],M_band.ca.1,kB (glu_band h12) b _ (new_x1 hb hd ne) (new_sameS hb hd)⟩⟩
  rw [decide_eq_false h12]
  refine ifsF ?_
  have raise:∀ (kk:Nat) (hk:glu u p q = .slide kk),sRaise (cxOf (CXe P w) P w K mg base ["surface","place","other","letter"] (Str.ofString "glued") (defScope s_glued) f cdv A outer s H E).K (tNewX CS [Str.ofString "place"] (tCons (tC (V.int (kk:Nat))) tNil)) E { nx:=fun _ H'=>Q .non H',rt:=Q } (start ["surface","place","other","letter"] [tx u,.int p,.int q]) H:=fun kk hk =>
   ⟨rfl,by decide,fun b dx hb hd ne=>⟨b,CS,some dx,true,rfl,by rw [upd_ne ne.symm,upd_same],M_slide.ca.1,kS kk hk b _ (new_x1 hb hd ne) (new_sameS hb hd)⟩⟩
  refine ⟨_,rfl,_,_,rfl,rfl,_,rfl,?_⟩
  by_cases hp:0≤p∧p≤(u.length:Int)
  rotate_left
  ·have hs:=raise 0 (glu_s0 h12 hp)
   by_cases hp0:0≤p
   ·refine iteC (decide_eq_true hp0) ⟨_,rfl,toS u,rfl,by omega,_,_,rfl,rfl,_,rfl,?_⟩
    rw [decide_eq_false (fun z=>hp ⟨hp0,by omega⟩)]
    exact nkF (ifsT hs)
   ·rw [decide_eq_false hp0]
    exact ⟨_,rfl,nkF (ifsT hs)⟩
  refine iteC (decide_eq_true hp.1) ⟨_,rfl,toS u,rfl,by omega,_,_,rfl,rfl,_,rfl,?_⟩
  rw [decide_eq_true (show p≤((toS u).length:Int) by omega)]
  refine nkT (ifsF ?_)
  refine ⟨_,rfl,_,_,rfl,rfl,_,rfl,?_⟩
  by_cases hq:0≤q∧q≤(u.length:Int)+1
  rotate_left
  ·have hs:=raise 1 (glu_s1 h12 hp hq)
   by_cases hq0:0≤q
   ·refine iteC (decide_eq_true hq0) ⟨_,rfl,toS u,rfl,by omega,_,_,rfl,rfl,_,_,rfl,rfl,_,rfl,?_⟩
    rw [decide_eq_false (fun z=>hq ⟨hq0,by omega⟩)]
    exact nkF (ifsT hs)
   ·rw [decide_eq_false hq0]
    exact ⟨_,rfl,nkF (ifsT hs)⟩
  refine iteC (decide_eq_true hq.1) ⟨_,rfl,toS u,rfl,by omega,_,_,rfl,rfl,_,_,rfl,rfl,_,rfl,?_⟩
  rw [decide_eq_true (show q≤((toS u).length:Int)+1 by omega)]
  refine nkT (ifsF ?_)
  have kT:=kT _ (glu_ok h12 hp hq)
  obtain ⟨pn,rfl⟩:=Int.eq_ofNat_of_zero_le hp.1
  obtain ⟨qn,rfl⟩:=Int.eq_ofNat_of_zero_le hq.1
  rw [Int.toNat_natCast,Int.toNat_natCast] at kT
  have hk:u.length / 2 < 6:=by omega
  have e6:((toS u).length:Int) / 2=((u.length / 2:Nat):Int):=by omega
  refine ⟨_,rfl,toS u,rfl,by omega,_,_,rfl,rfl,⟨by decide,by decide⟩,?_⟩
  rw [e6]
  refine ⟨_,_,_,rfl,rfl,(by decide +kernel),atI_nat (small71 ⟨u.length / 2,hk⟩),?_⟩
  refine ⟨_,rfl,_,rfl,_,rfl,u,pn,[lt6 (u.length / 2)],rfl,by omega,by omega,(by show 1≤4;decide),fun H1 s1=>?_⟩
  refine ⟨_,rfl,_,rfl,[lt6 (u.length / 2)],rfl,(by show 1≤5000;decide),fun H2 s2=>?_⟩
  rw [bk_one]
  have hl:(u.take pn++[lt6 (u.length / 2)]++u.drop pn).length=u.length+1:=by
   rw [List.length_append,List.length_append,List.length_take,List.length_drop,List.length_singleton]
   omega
  refine ⟨_,qn,[inv (lt6 (u.length / 2))],rfl,by omega,by omega,(by show 1≤4;decide),fun H3 s3=>?_⟩
  exact kT H3 (s1.trans (s2.trans s3))
end
end Kx
namespace Kx
open PySem PySem.Spec PyProof.Rows L2 Wd
section
variable {P:Program} {w:World} {K:PySem.W.Frag} {mg:Str→Option Value} {base:Heap} {aB:Addr}
noncomputable abbrev s_cutw:Stmt:=top 16
theorem sc_cutw:FnScope ["letter","word"] ["letter","word"] (defScope s_cutw):=⟨rfl,rfl,rfl,by decide +kernel,rfl,by decide +kernel,by decide +kernel⟩
theorem c_cutw (D:Df K mg "cut_word" s_cutw)(T:Bt K w mg aB)(F_back:Fnc P w K mg base "back" ["word"] 1 spBk)(F_lowd:Fnc P w K mg base "lowered" ["letter","word"] 3 spLowered):Fnc P w K mg base "cut_word" ["letter","word"] 4 spCutWord:=by
 have sc:=sc_cutw
 refine D.ok sc (fun _ _ _ _ _ _ us hl=>by obtain ⟨_,_,rfl⟩:=len2 hl;rfl) (fun vs H Q E h=>?_) (fun f cdv A outer s H vs Q E hr h=>?_)
 ·obtain ⟨x,u,rfl,_⟩:=h
  rfl
 ·obtain ⟨x,u,rfl,hu,k⟩:=h
  have l16:=line16
  refine ⟨_,(@pss_cons _ _ _ _ _ (@ps_if _ _ _ _ _ _ _ _ (@PW.pt _ _ _ (@pw_or _ _ _ _ _ _ _ (@pt_cmpR _ _ _ _ _ _ _ _ op_in_str (pv 0) (pv 1) rfl) (@pw_or1 _ _ _ _ (@pt_cmpR _ _ _ _ _ _ _ _ op_in_str (@pe_fn _ _ _ _ _ _ _ _ _ _ _ F_back hr (by decide) rfl (@pa_cons _ _ _ _ _ (pv 0) pa_nil (by rfl)) (by decide) (by rfl) (by rfl)) (pv 1) rfl)))) (@pss_one _ _ _ (@ps_ret _ _ _ _ pe_non)) pss_nil) (@pss_one _ _ _ (@ps_ret _ _ _ _ (@pe_fn _ _ _ _ _ _ _ _ _ _ _ F_lowd hr (by decide) rfl (@pa_cons _ _ _ _ _ (pv 0) (@pa_cons _ _ _ _ _ (pv 1) pa_nil (by rfl)) (by rfl)) (by decide) (by rfl) (by rfl))))),?_⟩
  refine ⟨_,rfl,_,rfl,_,_,rfl,rfl,_,rfl,?_⟩
  rw [in_toS]
  by_cases h1:x∈u
  ·rw [decide_eq_true h1]
   refine orkT (ifsT ?_)
   have:=k H (Same.refl _)
   rw [if_pos (.inl h1)] at this
   exact this
  rw [decide_eq_false h1]
  refine orkF ⟨_,rfl,[x],rfl,(by show 1≤5000;decide),fun H1 s1=>?_⟩
  rw [bk_one]
  refine ⟨_,rfl,_,_,rfl,rfl,_,rfl,?_⟩
  rw [in_toS]
  by_cases h2:inv x∈u
  ·rw [decide_eq_true h2]
   refine ifsT ?_
   have:=k H1 s1
   rw [if_pos (.inr h2)] at this
   exact this
  rw [decide_eq_false h2]
  refine ifsF ⟨_,rfl,_,rfl,x,u,rfl,hu,fun y hy=>?_,fun H2 s2=>?_⟩
  ·have:∀ x y:L,y≠x→y≠inv x→y.val % 6≠x.val % 6:=by decide
   exact this x y (fun e=>h1 (e ▸ hy)) (fun e=>h2 (e ▸ hy))
  ·have:=k H2 (s1.trans s2)
   rw [if_neg (by simp [h1,h2])] at this
   exact this
end
end Kx
namespace Kx
open PySem PySem.Spec PyProof.Rows L2 Wd
section
variable {P:Program} {w:World} {K:PySem.W.Frag} {mg:Str→Option Value} {base:Heap} {aB:Addr}
noncomputable abbrev s_hole:Stmt:=top 23
theorem sc_hole:FnScope ["surface","start","seen","word","gap","letter"] ["surface","start","seen"] (defScope s_hole):=⟨rfl,rfl,rfl,by decide +kernel,rfl,by decide +kernel,by decide +kernel⟩
theorem c_hole (D:Df K mg "hole_from" s_hole)(T:Bt K w mg aB)(F_back:Fnc P w K mg base "back" ["word"] 1 spBk):Fnc P w K mg base "hole_from" ["surface","start","seen"] 2 spHole:=by
 have sc:=sc_hole
 refine D.ok sc (fun _ _ _ _ _ _ us hl=>by obtain ⟨_,_,_,rfl⟩:=len3 hl;rfl) (fun vs H Q E h=>?_) (fun f cdv A outer s H vs Q E hr h=>?_)
 ·obtain ⟨u,g,a,S,rfl,_⟩:=h
  rfl
 ·obtain ⟨u,g0,a,S0,rfl,U,hg0,hs0,ha0,k⟩:=h
  have hu:=hu_of hr
  have l16:=line16
  have h12:=U.le
  have hpos:=U.pos
  refine ⟨_,(@pss_cons _ _ _ _ _ (@ps_set _ _ (3) _ _ _ _ sc.nd rfl (Or.inl rfl) pe_str (by rfl) (by first | exact .inl rfl | exact .inr rfl | assumption)) (@pss_cons _ _ _ _ _ (@ps_set _ _ (4) _ _ _ _ sc.nd rfl (Or.inl rfl) (pv 1) (by rfl) (by first | exact .inl rfl | exact .inr rfl | assumption)) (@pss_cons _ _ _ _ _ (@ps_while _ _ _ _ _ _ PassesOwn.never (@pt_dnot _ _ _ _ _ _ hu (pv 4) (pv 2) rfl) (@pss_cons _ _ _ _ _ (@ps_dput _ _ _ _ _ _ _ _ _ hu (pv 2) (pv 4) pe_bl rfl) (@pss_cons _ _ _ _ _ (@ps_set _ _ (5) _ _ _ _ sc.nd rfl (Or.inl rfl) (@pe_ix _ _ _ _ _ _ _ ix_str (pv 0) (@pe_op _ _ _ _ _ _ _ _ op_mod (@pe_op _ _ _ _ _ _ _ _ op_add (pv 4) pe_int) (@pe_callB _ _ _ _ _ _ _ _ _ call_len_str (by rfl) T.len PySem.boot_len (@pa_cons _ _ _ _ _ (pv 0) pa_nil (by rfl)) (by decide) (by decide) (by rfl) (by rfl))) (fun _ _=>rfl)) (by rfl) (by first | exact .inl rfl | exact .inr rfl | assumption)) (@pss_cons _ _ _ _ _ (@ps_set _ _ (3) _ _ _ _ sc.nd rfl (Or.inl rfl) (@pe_op _ _ _ _ _ _ _ _ op_add_str (pv 3) (pv 5)) (by rfl) (by first | exact .inl rfl | exact .inr rfl | assumption)) (@pss_one _ _ _ (@ps_set _ _ (4) _ _ _ _ sc.nd rfl (Or.inl rfl) (@pe_bm _ _ _ _ _ _ _ _ _ _ _ _ PySem.F.plainAttrs_str PySem.F.slot_str_index PySem.F.type_str_index mt_index (pv 0) (@pa_cons _ _ _ _ _ (@pe_fn _ _ _ _ _ _ _ _ _ _ _ F_back hr (by decide) rfl (@pa_cons _ _ _ _ _ (pv 5) pa_nil (by rfl)) (by decide) (by rfl) (by rfl)) pa_nil (by rfl)) (by rfl) (by rfl) (by rfl) (by rfl) (by rfl)) (by rfl) (by first | exact .inl rfl | exact .inr rfl | assumption))))))) (@pss_one _ _ _ (@ps_ret _ _ _ _ (pv 3)))))),?_⟩
  refine ⟨_,rfl,?_⟩
  refine ⟨fun m σ H'=>∃ (S:List Nat) (w:List L) (g:Nat) (v:Option V),σ = [some (tx u),some (.int g0),some (.ref a),some (tx w),some (.int g),v]∧Sn u S∧g < u.length∧H' a=some (.dK (sk S))∧SameB a H H'∧wk u g S w=wk u g0 S0 []∧w.length≤S.length∧m=u.length+1 - S.length,⟨_,S0,[],g0,none,rfl,hs0,hg0,ha0,SameB.refl _ _,rfl,Nat.zero_le _,rfl⟩,?_⟩
  rintro m σ H1 ⟨S,w,g,v,rfl,hs,hg,ha,sb,e,hw,rfl⟩
  have hle:=hs.le
  refine ⟨_,rfl,_,rfl,a,_,rfl,DGet.k (k:=Sum.inl (g:Int)) ha,?_⟩
  rw [sk_get]
  refine ⟨_,rfl,?_⟩
  refine ite2 (fun h=>?_) (fun h=>?_)
  ·have h:g∉S:=by simpa using h
   have hs':=hs.snoc hg h
   have hle':=hs'.le
   rw [List.length_append,List.length_singleton] at hle'
   refine ⟨_,fun σ' H' q=>q,?_⟩
   refine ⟨_,rfl,_,rfl,a,_,rfl,DPut.k (k:=Sum.inl (g:Int)) ha (by rw [sk_len];omega),?_⟩
   rw [sk_put h]
   have hx:=letH_get U g
   have em:((g:Int)+1) % (u.length:Int)=(((g+1) % u.length:Nat):Int):=by rw [Int.natCast_emod];rfl
   refine ⟨_,rfl,_,rfl,_,_,rfl,rfl,_,rfl,_,rfl,(by rw [toS_length];omega),_,_,rfl,rfl,(by rw [toS_length];omega),_,_,cp (letH u g),rfl,rfl,(by rw [toS_length];omega),atI_toS (k:=(g+1) % u.length) (by rw [toS_length];exact em) hx,?_⟩
   refine ⟨_,rfl,_,rfl,_,_,rfl,rfl,(by rw [toS_length];show w.length+1≤sizeLine;omega),?_⟩
   obtain ⟨rest,ho⟩:=idx_at (U.iv _ (letH_mem U g))
   refine ⟨_,rfl,rfl,_,rfl,[letH u g],rfl,(by show 1≤5000;decide),fun H2 s2=>?_⟩
   rw [bk_one]
   refine ⟨_,_,_,rest,rfl,rfl,ho,?_⟩
   have e2:=(wk_out (w:=w) hs hg h).symm.trans e
   refine ⟨u.length+1 - (S++[g]).length,?_,S++[g],w++[letH u g],stepH u g,some (tx [letH u g]),(by rw [← tx_app];rfl),hs',stepH_lt U g,s2 _ _ upd_same,(sb.trans SameB.upd).trans s2.b,e2,?_,rfl⟩
   ·rw [List.length_append,List.length_singleton]
    omega
   ·rw [List.length_append,List.length_append]
    simp only [List.length_singleton]
    omega
  ·have h:g∈S:=by simpa using h
   rw [wk_in h] at e
   rw [← e] at k
   exact ⟨_,rfl,k _ ha hs sb⟩
end
end Kx
namespace Kx
open PySem PySem.Spec PyProof.Rows L2 Wd
section
variable {P:Program} {w:World} {K:PySem.W.Frag} {mg:Str→Option Value} {base:Heap} {aB:Addr}
noncomputable abbrev s_holes:Stmt:=top 22
theorem sc_holes:FnScope ["surface","told","seen","gap"] ["surface"] (defScope s_holes):=⟨rfl,rfl,rfl,by decide +kernel,rfl,by decide +kernel,by decide +kernel⟩
theorem c_holes (D:Df K mg "holes" s_holes)(T:Bt K w mg aB)(F_hole:Fnc P w K mg base "hole_from" ["surface","start","seen"] 2 spHole):Fnc P w K mg base "holes" ["surface"] 3 spHoles:=by
 have sc:=sc_holes
 refine D.ok sc (fun _ _ _ _ _ _ us hl=>by obtain ⟨_,rfl⟩:=len1 hl;rfl) (fun vs H Q E h=>?_) (fun f cdv A outer s H vs Q E hr h=>?_)
 ·obtain ⟨u,rfl,_⟩:=h
  rfl
 ·obtain ⟨u,rfl,U,k⟩:=h
  have hu:=hu_of hr
  have l16:=line16
  have h12:=U.le
  refine ⟨_,(@pss_cons _ _ _ _ _ (@ps_set _ _ (1) _ _ _ _ sc.nd rfl (Or.inl rfl) (@pe_lst _ _ _ _ pa_nil) (by rfl) (by first | exact .inl rfl | exact .inr rfl | assumption)) (@pss_cons _ _ _ _ _ (@ps_set _ _ (2) _ _ _ _ sc.nd rfl (Or.inl rfl) pe_dnewK (by rfl) (by first | exact .inl rfl | exact .inr rfl | assumption)) (@pss_cons _ _ _ _ _ (@ps_for _ _ _ _ _ _ _ _ PassesOwn.never rfl (@pi_range1 _ _ _ _ _ _ rfl T.range (@pa_cons _ _ _ _ _ (@pe_callB _ _ _ _ _ _ _ _ _ call_len_str (by rfl) T.len PySem.boot_len (@pa_cons _ _ _ _ _ (pv 0) pa_nil (by rfl)) (by decide) (by decide) (by rfl) (by rfl)) pa_nil (by rfl)) (by rfl)) (@pg_name _ _ (3) _ sc.nd rfl (Or.inl rfl) (by first | exact .inl rfl | exact .inr rfl | assumption)) (@pss_one _ _ _ (@ps_if _ _ _ _ _ _ _ _ (@pt_dnot _ _ _ _ _ _ hu (pv 3) (pv 2) rfl) (@pss_one _ _ _ (@ps_expr _ _ _ _ (@pe_bm _ _ _ _ _ _ _ _ _ _ _ _ PySem.F.plainAttrs_list PySem.F.slot_list_append PySem.F.type_list_append mt_append (pv 1) (@pa_cons _ _ _ _ _ (@pe_fn _ _ _ _ _ _ _ _ _ _ _ F_hole hr (by decide) rfl (@pa_cons _ _ _ _ _ (pv 0) (@pa_cons _ _ _ _ _ (pv 3) (@pa_cons _ _ _ _ _ (pv 2) pa_nil (by rfl)) (by rfl)) (by rfl)) (by decide) (by rfl) (by rfl)) pa_nil (by rfl)) (by rfl) (by rfl) (by rfl) (by rfl) (by rfl)) (by rfl))) pss_nil)) (by intro _ ;rfl)) (@pss_one _ _ _ (@ps_ret _ _ _ _ (pv 1)))))),?_⟩
  refine ⟨(by show 0≤sizeLine;decide),fun l hl=>?_⟩
  have s1:Same H (upd H l (.lst [])):=Same.new hl
  have f1:(upd H l (.lst [])) l=some (.lst []):=upd_same
  generalize upd H l (.lst [])=H1 at s1 f1 ⊢
  intro a ha
  have la:a≠l:=(ne_of_none f1 ha).symm
  have s2:Same H1 (upd H1 a (.dK [])):=Same.new ha
  have f2:(upd H1 a (.dK [])) a=some (.dK []):=upd_same
  have g1:=s2 _ _ f1
  have s2:=s1.trans s2
  generalize upd H1 a (.dK [])=H2 at s2 f2 g1 ⊢
  have na:H a=none:=by
   cases e:H a with
   | none=>rfl
   | some o=>exact absurd (s1 _ _ e) (by rw [ha];intro z;cases z)
  refine ⟨_,rfl,_,rfl,(by rw [toS_length];omega),_,rfl,(by rw [toS_length];omega),(by rw [toS_length];omega),?_⟩
  rw [toS_length]
  refine for_range (lo:=0) (n:=(u.length:Int).toNat) (fun i σ H'=>∃ v:Option V,σ = [some (tx u),some (.ref l),some (.ref a),v]∧H' l=some (.lst ((holS u i).2.map tx))∧H' a=some (.dK (sk (holS u i).1))∧Sn u (holS u i).1∧Same H H') ⟨none,rfl,g1,f2,Sn.nil u,s2⟩ ?_ ?_
  ·rintro i σ H3 hi ⟨v,rfl,h1,h2,hs,s3⟩
   have hi:i < u.length:=by omega
   rw [Int.zero_add]
   refine ⟨_,rfl,_,rfl,a,_,rfl,DGet.k (k:=Sum.inl (i:Int)) h2,?_⟩
   rw [sk_get]
   refine ⟨_,rfl,?_⟩
   refine ite2 (fun h=>?_) (fun h=>?_)
   ·have h:i∉(holS u i).1:=by simpa using h
    refine ⟨_,rfl,.inl ⟨rfl,_,SqL.of h1⟩,_,rfl,_,rfl,_,rfl,u,i,a,_,rfl,U,hi,hs,h2,fun H4 q1 q2 q3=>?_⟩
    have h4:=q3 _ _ la.symm h1
    have hlen:=hol_txs u i
    refine ⟨l,_,_,rfl,rfl,h4,by omega,_,rfl,?_,?_,?_,?_⟩
    ·rw [upd_same,hol_out h,List.map_append]
     rfl
    ·rw [upd_ne la,hol_out h]
     exact q1
    ·rw [hol_out h]
     exact q2
    ·intro b o e
     rw [upd_ne (ne_of_none e hl)]
     exact q3 _ _ (ne_of_none e na) (s3 _ _ e)
   ·have h:i∈(holS u i).1:=by simpa using h
    exact ⟨_,rfl,by rw [hol_in h];exact h1,by rw [hol_in h];exact h2,by rw [hol_in h];exact hs,s3⟩
  ·rintro σ H3 ⟨v,rfl,h1,h2,hs,s3⟩
   exact ⟨_,rfl,k l _ hl h1 s3⟩
noncomputable abbrev s_handles:Stmt:=top 24
theorem sc_handles:FnScope ["surface"] ["surface"] (defScope s_handles):=⟨rfl,rfl,rfl,by decide +kernel,rfl,by decide +kernel,by decide +kernel⟩
theorem c_handles (D:Df K mg "handles" s_handles)(T:Bt K w mg aB)(F_holes:Fnc P w K mg base "holes" ["surface"] 3 spHoles):Fnc P w K mg base "handles" ["surface"] 4 spHandles:=by
 have sc:=sc_handles
 refine D.ok sc (fun _ _ _ _ _ _ us hl=>by obtain ⟨_,rfl⟩:=len1 hl;rfl) (fun vs H Q E h=>?_) (fun f cdv A outer s H vs Q E hr h=>?_)
 ·obtain ⟨u,rfl,_⟩:=h
  rfl
 ·obtain ⟨u,rfl,U,k⟩:=h
  have l16:=line16
  have h12:=U.le
  refine ⟨_,(@pss_one _ _ _ (@ps_ret _ _ _ _ (@pe_op _ _ _ _ _ _ _ _ op_fdiv (@pe_op _ _ _ _ _ _ _ _ op_sub (@pe_op _ _ _ _ _ _ _ _ op_add pe_int (@pe_op _ _ _ _ _ _ _ _ op_fdiv (@pe_callB _ _ _ _ _ _ _ _ _ call_len_str (by rfl) T.len PySem.boot_len (@pa_cons _ _ _ _ _ (pv 0) pa_nil (by rfl)) (by decide) (by decide) (by rfl) (by rfl)) pe_int)) (@pe_callB _ _ _ _ _ _ _ _ _ call_len_seq (by rfl) T.len PySem.boot_len (@pa_cons _ _ _ _ _ (@pe_fn _ _ _ _ _ _ _ _ _ _ _ F_holes hr (by decide) rfl (@pa_cons _ _ _ _ _ (pv 0) pa_nil (by rfl)) (by decide) (by rfl) (by rfl)) pa_nil (by rfl)) (by decide) (by decide) (by rfl) (by rfl))) pe_int))),?_⟩
  refine ⟨_,rfl,_,rfl,(by rw [toS_length];omega),_,_,rfl,rfl,⟨by decide,by decide⟩,_,_,rfl,rfl,_,rfl,u,rfl,U,fun l H1 _ hl s1=>?_⟩
  refine ⟨l,_,rfl,.inl (SqL.of hl),_,_,rfl,rfl,_,_,rfl,rfl,⟨by decide,by decide⟩,?_⟩
  rw [List.length_map,toS_length]
  exact k _ s1
end
end Kx
namespace Kx
open PySem PySem.Spec PyProof.Rows L2 Wd
section
variable {P:Program} {w:World} {K:PySem.W.Frag} {mg:Str→Option Value} {base:Heap} {aB:Addr}
noncomputable abbrev s_mets:Stmt:=top 26
theorem sc_mets:FnScope ["ways","walk","step","way","letter"] ["ways","walk","step"] (defScope s_mets):=⟨rfl,rfl,rfl,by decide +kernel,rfl,by decide +kernel,by decide +kernel⟩
theorem c_mets (D:Df K mg "met" s_mets)(T:Bt K w mg aB)(F_back:Fnc P w K mg base "back" ["word"] 1 spBk):Fnc P w K mg base "met" ["ways","walk","step"] 2 spMets:=by
 have sc:=sc_mets
 refine D.ok sc (fun _ _ _ _ _ _ us hl=>by obtain ⟨_,_,_,rfl⟩:=len3 hl;rfl) (fun vs H Q E h=>?_) (fun f cdv A outer s H vs Q E hr h=>?_)
 ·obtain ⟨a,x,n,W,s,wy,kk,rfl,_⟩:=h
  rfl
 ·obtain ⟨a,x,n,W,s,wy,kk,rfl,hW,hp,i0,i1,hwy,k⟩:=h
  have l16:=line16
  obtain ⟨_,hat,_,l30,lp,_⟩:=hW.ok.get i0 i1
  have k:∀ H',Same H H'→Q (tx [sgZ (wyZ W s.1) s.2 wy kk]) H':=k
  generalize wyZ W s.1=v at hat l30 lp k
  refine ⟨_,(@pss_cons _ _ _ _ _ (@ps_set _ _ (3) _ _ _ _ sc.nd rfl (Or.inl rfl) (@pe_ix _ _ _ _ _ _ _ ix_tup (pv 0) (@pe_ix _ _ _ _ _ _ _ ix_tup (pv 1) pe_int (fun _ _=>rfl)) (fun _ _=>rfl)) (by rfl) (by first | exact .inl rfl | exact .inr rfl | assumption)) (@pss_cons _ _ _ _ _ (@ps_set _ _ (4) _ _ _ _ sc.nd rfl (Or.inl rfl) (@pe_ix _ _ _ _ _ _ _ ix_str (pv 3) (@pe_op _ _ _ _ _ _ _ _ op_mod (@pe_op _ _ _ _ _ _ _ _ op_add (@pe_ix _ _ _ _ _ _ _ ix_tup (pv 1) pe_int (fun _ _=>rfl)) (@pe_op _ _ _ _ _ _ _ _ op_mul (@pe_ix _ _ _ _ _ _ _ ix_tup (pv 1) pe_int (fun _ _=>rfl)) (pv 2))) (@pe_callB _ _ _ _ _ _ _ _ _ call_len_str (by rfl) T.len PySem.boot_len (@pa_cons _ _ _ _ _ (pv 3) pa_nil (by rfl)) (by decide) (by decide) (by rfl) (by rfl))) (fun _ _=>rfl)) (by rfl) (by first | exact .inl rfl | exact .inr rfl | assumption)) (@pss_one _ _ _ (@ps_ret _ _ _ _ (@pe_ifExp _ _ _ _ _ _ _ _ (@pt_cmpR _ _ _ _ _ _ _ _ op_eq (@pe_ix _ _ _ _ _ _ _ ix_tup (pv 1) pe_int (fun _ _=>rfl)) pe_int (nomark _)) (pv 4) (@pe_fn _ _ _ _ _ _ _ _ _ _ _ F_back hr (by decide) rfl (@pa_cons _ _ _ _ _ (pv 4) pa_nil (by rfl)) (by decide) (by rfl) (by rfl))))))),?_⟩
  refine ⟨_,rfl,_,rfl,x,_,_,_,rfl,rfl,SqT.of hp,rfl,a,_,_,_,rfl,rfl,SqT.of hW.at_,hat,?_⟩
  have cm:CMul wy kk:=.inl ⟨by rcases hwy with rfl | rfl <;> decide,by rcases hwy with rfl | rfl <;> decide⟩
  refine ⟨_,rfl,_,rfl,x,_,_,_,rfl,rfl,SqT.of hp,rfl,_,rfl,x,_,_,_,rfl,rfl,SqT.of hp,rfl,_,rfl,_,_,rfl,rfl,cm,_,_,rfl,rfl,_,rfl,_,rfl,(by rw [toS_length];omega),_,_,rfl,rfl,(by rw [toS_length];omega),?_⟩
  rw [toS_length]
  refine ⟨_,_,_,rfl,rfl,(by rw [toS_length];omega),at38 (by omega),?_⟩
  refine ⟨_,rfl,x,_,_,_,rfl,rfl,SqT.of hp,rfl,?_⟩
  refine ⟨rfl,_,rfl,?_⟩
  rcases hwy with rfl | rfl
  ·refine iteC rfl ⟨_,rfl,?_⟩
   have:=k _ (Same.refl _)
   unfold sgZ at this
   rw [if_pos rfl] at this
   exact this
  ·refine iteD rfl ⟨_,rfl,[atZ v (s.2 + -1*kk)],rfl,(by show 1≤_;decide),fun H' s'=>?_⟩
   have:=k _ s'
   unfold sgZ at this
   rw [if_neg (by decide)] at this
   exact this
noncomputable abbrev s_rf:Stmt:=top 12
theorem sc_rf:FnScope ["surface","start","end"] ["surface","start","end"] (defScope s_rf):=⟨rfl,rfl,rfl,by decide +kernel,rfl,by decide +kernel,by decide +kernel⟩
theorem c_rf (D:Df K mg "round_from" s_rf)(T:Bt K w mg aB):Fnc P w K mg base "round_from" ["surface","start","end"] 1 spRf:=by
 have sc:=sc_rf
 refine D.ok sc (fun _ _ _ _ _ _ us hl=>by obtain ⟨_,_,_,rfl⟩:=len3 hl;rfl) (fun vs H Q E h=>?_) (fun f cdv A outer s H vs Q E hr h=>?_)
 ·obtain ⟨u,k,a,b,rfl,_⟩:=h
  rfl
 ·obtain ⟨u,k,a,b,rfl,U,ha,hb,q⟩:=h
  have l16:=line16
  have hl:=U.len
  have h1:=U.lo
  have h6:=U.hi
  obtain ⟨r1,o1⟩:=idx_at ha
  obtain ⟨r2,o2⟩:=idx_at hb
  refine ⟨_,(@pss_one _ _ _ (@ps_ret _ _ _ _ (@pe_op _ _ _ _ _ _ _ _ op_mod (@pe_op _ _ _ _ _ _ _ _ op_sub (@pe_bm _ _ _ _ _ _ _ _ _ _ _ _ PySem.F.plainAttrs_str PySem.F.slot_str_index PySem.F.type_str_index mt_index (pv 0) (@pa_cons _ _ _ _ _ (pv 2) pa_nil (by rfl)) (by rfl) (by rfl) (by rfl) (by rfl) (by rfl)) (@pe_bm _ _ _ _ _ _ _ _ _ _ _ _ PySem.F.plainAttrs_str PySem.F.slot_str_index PySem.F.type_str_index mt_index (pv 0) (@pa_cons _ _ _ _ _ (pv 1) pa_nil (by rfl)) (by rfl) (by rfl) (by rfl) (by rfl) (by rfl))) (@pe_callB _ _ _ _ _ _ _ _ _ call_len_str (by rfl) T.len PySem.boot_len (@pa_cons _ _ _ _ _ (pv 0) pa_nil (by rfl)) (by decide) (by decide) (by rfl) (by rfl))))),?_⟩
  refine ⟨_,rfl,rfl,_,rfl,_,_,_,r2,rfl,rfl,o2,_,rfl,rfl,_,rfl,_,_,_,r1,rfl,rfl,o1,_,_,rfl,rfl,_,rfl,_,rfl,(by rw [toS_length];omega),_,_,rfl,rfl,(by rw [toS_length];omega),?_⟩
  rw [toS_length]
  exact q
noncomputable abbrev s_fst:Stmt:=top 36
theorem sc_fst:FnScope ["surface","start","end","other"] ["surface","start","end","other"] (defScope s_fst):=⟨rfl,rfl,rfl,by decide +kernel,rfl,by decide +kernel,by decide +kernel⟩
theorem c_fst (D:Df K mg "is_first" s_fst)(T:Bt K w mg aB)(F_rf:Fnc P w K mg base "round_from" ["surface","start","end"] 1 spRf):Fnc P w K mg base "is_first" ["surface","start","end","other"] 2 spFst:=by
 have sc:=sc_fst
 refine D.ok sc (fun _ _ _ _ _ _ us hl=>by obtain ⟨_,_,_,_,rfl⟩:=len4 hl;rfl) (fun vs H Q E h=>?_) (fun f cdv A outer s H vs Q E hr h=>?_)
 ·obtain ⟨u,k,s,a,b,rfl,_⟩:=h
  rfl
 ·obtain ⟨u,kk,s,a,b,rfl,U,hs,ha,hb,k⟩:=h
  refine ⟨_,(@pss_one _ _ _ (@ps_ret _ _ _ _ (@pe_cmpR _ _ _ _ _ _ _ _ op_lt (@pe_fn _ _ _ _ _ _ _ _ _ _ _ F_rf hr (by decide) rfl (@pa_cons _ _ _ _ _ (pv 0) (@pa_cons _ _ _ _ _ (pv 1) (@pa_cons _ _ _ _ _ (pv 2) pa_nil (by rfl)) (by rfl)) (by rfl)) (by decide) (by rfl) (by rfl)) (@pe_fn _ _ _ _ _ _ _ _ _ _ _ F_rf hr (by decide) rfl (@pa_cons _ _ _ _ _ (pv 0) (@pa_cons _ _ _ _ _ (pv 1) (@pa_cons _ _ _ _ _ (pv 3) pa_nil (by rfl)) (by rfl)) (by rfl)) (by decide) (by rfl) (by rfl)) (nomark _)))),?_⟩
  exact ⟨_,rfl,_,rfl,_,rfl,u,kk,s,a,rfl,U,hs,ha,_,rfl,_,rfl,_,rfl,u,kk,s,b,rfl,U,hs,hb,_,_,rfl,rfl,k _ (Same.refl _)⟩
noncomputable abbrev s_ce:Stmt:=top 31
theorem sc_ce:FnScope ["ways","strand","walk"] ["ways","strand"] (defScope s_ce):=⟨rfl,rfl,rfl,by decide +kernel,rfl,by decide +kernel,by decide +kernel⟩
theorem c_ce (D:Df K mg "chord_ends" s_ce)(T:Bt K w mg aB)(F_back:Fnc P w K mg base "back" ["word"] 1 spBk)(F_mets:Fnc P w K mg base "met" ["ways","walk","step"] 2 spMets):Fnc P w K mg base "chord_ends" ["ways","strand"] 3 spCe:=by
 have sc:=sc_ce
 refine D.ok sc (fun _ _ _ _ _ _ us hl=>by obtain ⟨_,_,rfl⟩:=len2 hl;rfl) (fun vs H Q E h=>?_) (fun f cdv A outer s H vs Q E hr h=>?_)
 ·obtain ⟨a,x,n,W,s,rfl,_⟩:=h
  rfl
 ·obtain ⟨a,x,n,W,s,rfl,hW,hx,ok,k⟩:=h
  have l16:=line16
  refine ⟨_,(@pss_cons _ _ _ _ _ (@ps_set _ _ (2) _ _ _ _ sc.nd rfl (Or.inl rfl) (@pe_tup _ _ _ _ _ (@pa_cons _ _ _ _ _ (@pe_ix _ _ _ _ _ _ _ ix_tup (pv 1) pe_int (fun _ _=>rfl)) (@pa_cons _ _ _ _ _ (@pe_ix _ _ _ _ _ _ _ ix_tup (pv 1) pe_int (fun _ _=>rfl)) (@pa_cons _ _ _ _ _ pe_int pa_nil (by rfl)) (by rfl)) (by rfl))) (by rfl) (by first | exact .inl rfl | exact .inr rfl | assumption)) (@pss_one _ _ _ (@ps_ret _ _ _ _ (@pe_op _ _ _ _ _ _ _ _ op_add_str (@pe_fn _ _ _ _ _ _ _ _ _ _ _ F_back hr (by decide) rfl (@pa_cons _ _ _ _ _ (@pe_fn _ _ _ _ _ _ _ _ _ _ _ F_mets hr (by decide) rfl (@pa_cons _ _ _ _ _ (pv 0) (@pa_cons _ _ _ _ _ (pv 2) (@pa_cons _ _ _ _ _ pe_int pa_nil (by rfl)) (by rfl)) (by rfl)) (by decide) (by rfl) (by rfl)) pa_nil (by rfl)) (by decide) (by rfl) (by rfl)) (@pe_fn _ _ _ _ _ _ _ _ _ _ _ F_mets hr (by decide) rfl (@pa_cons _ _ _ _ _ (pv 0) (@pa_cons _ _ _ _ _ (pv 2) (@pa_cons _ _ _ _ _ pe_int pa_nil (by rfl)) (by rfl)) (by rfl)) (by decide) (by rfl) (by rfl)))))),?_⟩
  refine ⟨_,rfl,x,_,_,_,rfl,rfl,SqT.of hx,rfl,_,rfl,x,_,_,_,rfl,rfl,SqT.of hx,rfl,(by show 3≤sizeLine;omega),fun p hp=>?_⟩
  have s1:Same H (upd H p (.tup [.int s.1,.int s.2,.int 1])):=Same.new hp
  have f1:(upd H p (.tup [.int s.1,.int s.2,.int 1])) p=some (.tup [.int s.1,.int s.2,.int 1]):=upd_same
  generalize upd H p (.tup [.int s.1,.int s.2,.int 1])=H1 at s1 f1 ⊢
  refine ⟨_,rfl,_,rfl,a,p,n,W,s,1,0,rfl,hW.same s1,f1,ok.1,ok.2.1,.inl rfl,fun H2 s2=>⟨[fZ W s 1 0],rfl,(by show 1≤_;decide),fun H3 s3=>?_⟩⟩
  have s13:=(s1.trans s2).trans s3
  refine ⟨_,rfl,_,rfl,a,p,n,W,s,1,1,rfl,hW.same s13,s3 _ _ (s2 _ _ f1),ok.1,ok.2.1,.inl rfl,fun H4 s4=>⟨_,_,rfl,rfl,(by rw [toS_length,toS_length,bk_length];show 1+1≤_;omega),?_⟩⟩
  rw [tx_app,bk_one]
  exact k _ (s13.trans s4)
noncomputable abbrev s_str:Stmt:=top 34
theorem sc_str:FnScope ["ways","one","other","many"] ["ways","one","other"] (defScope s_str):=⟨rfl,rfl,rfl,by decide +kernel,rfl,by decide +kernel,by decide +kernel⟩
theorem c_str (D:Df K mg "stretch" s_str)(T:Bt K w mg aB)(F_mets:Fnc P w K mg base "met" ["ways","walk","step"] 2 spMets):Fnc P w K mg base "stretch" ["ways","one","other"] 3 spStrc:=by
 have sc:=sc_str
 refine D.ok sc (fun _ _ _ _ _ _ us hl=>by obtain ⟨_,_,_,rfl⟩:=len3 hl;rfl) (fun vs H Q E h=>?_) (fun f cdv A outer s H vs Q E hr h=>?_)
 ·obtain ⟨a,x,y,n,W,s,t,wy,rfl,_⟩:=h
  rfl
 ·obtain ⟨a,x,y,n,W,s,t,wy,rfl,hW,hx,hy,os,ot,hwy,k⟩:=h
  have l16:=line16
  obtain ⟨_,_,Rw,lw30,lwp,_⟩:=hW.ok.get os.1 os.2.1
  obtain ⟨_,_,Rv,lv30,lvp,_⟩:=hW.ok.get ot.1 ot.2.1
  refine ⟨_,(@pss_cons _ _ _ _ _ (@ps_if _ _ _ _ _ _ _ _ (@pt_cmpR _ _ _ _ _ _ _ _ op_eq (@pe_fn _ _ _ _ _ _ _ _ _ _ _ F_mets hr (by decide) rfl (@pa_cons _ _ _ _ _ (pv 0) (@pa_cons _ _ _ _ _ (pv 1) (@pa_cons _ _ _ _ _ (@pe_un _ _ _ _ _ _ un_neg pe_int) pa_nil (by rfl)) (by rfl)) (by rfl)) (by decide) (by rfl) (by rfl)) (@pe_fn _ _ _ _ _ _ _ _ _ _ _ F_mets hr (by decide) rfl (@pa_cons _ _ _ _ _ (pv 0) (@pa_cons _ _ _ _ _ (pv 2) (@pa_cons _ _ _ _ _ (@pe_un _ _ _ _ _ _ un_neg pe_int) pa_nil (by rfl)) (by rfl)) (by rfl)) (by decide) (by rfl) (by rfl)) (nomark _)) (@pss_one _ _ _ (@ps_ret _ _ _ _ pe_int)) pss_nil) (@pss_cons _ _ _ _ _ (@ps_set _ _ (3) _ _ _ _ sc.nd rfl (Or.inl rfl) pe_int (by rfl) (by first | exact .inl rfl | exact .inr rfl | assumption)) (@pss_cons _ _ _ _ _ (@ps_while _ _ _ _ _ _ PassesOwn.never (@pt_cmpR _ _ _ _ _ _ _ _ op_eq (@pe_fn _ _ _ _ _ _ _ _ _ _ _ F_mets hr (by decide) rfl (@pa_cons _ _ _ _ _ (pv 0) (@pa_cons _ _ _ _ _ (pv 1) (@pa_cons _ _ _ _ _ (pv 3) pa_nil (by rfl)) (by rfl)) (by rfl)) (by decide) (by rfl) (by rfl)) (@pe_fn _ _ _ _ _ _ _ _ _ _ _ F_mets hr (by decide) rfl (@pa_cons _ _ _ _ _ (pv 0) (@pa_cons _ _ _ _ _ (pv 2) (@pa_cons _ _ _ _ _ (pv 3) pa_nil (by rfl)) (by rfl)) (by rfl)) (by decide) (by rfl) (by rfl)) (nomark _)) (@pss_one _ _ _ (@ps_aug _ _ (3) _ _ _ _ _ _ sc.nd rfl (Or.inl rfl) pe_int ip_add (by first | exact .inl rfl | exact .inr rfl | assumption)))) (@pss_one _ _ _ (@ps_ret _ _ _ _ (pv 3)))))),?_⟩
  refine ⟨_,rfl,_,rfl,_,rfl,a,x,n,W,s,1,-1,rfl,hW,hx,os.1,os.2.1,.inl rfl,fun H1 s1=>?_⟩
  refine ⟨_,rfl,_,rfl,_,rfl,a,y,n,W,t,wy,-1,rfl,hW.same s1,s1 _ _ hy,ot.1,ot.2.1,hwy,fun H2 s2=>⟨rfl,_,rfl,?_⟩⟩
  have s12:=s1.trans s2
  rw [dec_tx]
  by_cases e:fZ W s 1 (-1)=fZ W t wy (-1)
  ·rw [decide_eq_true (by rw [e])]
   refine ifsT ?_
   have:=k _ s12
   rw [if_pos e] at this
   exact this
  ·rw [decide_eq_false (fun z=>e (List.cons.inj z).1)]
   refine ifsF ?_
   rw [if_neg e] at k
   obtain ⟨hend,hne⟩:=fr_end Rw.ne Rv.ne hwy e
   obtain ⟨_,_,hal,_⟩:=fr_spec (fZ W s 1) (fZ W t wy) ((wyZ W s.1).length+(wyZ W t.1).length) 0
   have hne:fZ W s 1 (nZ W s t wy)≠fZ W t wy (nZ W s t wy):=hne
   have hal:∀ j:Nat,0≤j→j < nZ W s t wy→fZ W s 1 j=fZ W t wy j:=hal
   refine ⟨fun m σ H'=>∃ i:Nat,σ = [some (.ref a),some (.ref x),some (.ref y),some (.int (i:Int))]∧i≤nZ W s t wy∧m=nZ W s t wy - i∧Same H H',⟨_,0,rfl,Nat.zero_le _,rfl,s12⟩,?_⟩
   rintro m σ H3 ⟨i,rfl,hi,rfl,s3⟩
   refine ⟨_,rfl,_,rfl,_,rfl,a,x,n,W,s,1,(i:Int),rfl,hW.same s3,s3 _ _ hx,os.1,os.2.1,.inl rfl,fun H4 s4=>?_⟩
   refine ⟨_,rfl,_,rfl,_,rfl,a,y,n,W,t,wy,(i:Int),rfl,hW.same (s3.trans s4),(s3.trans s4) _ _ hy,ot.1,ot.2.1,hwy,fun H5 s5=>⟨rfl,_,rfl,?_⟩⟩
   have s35:=(s3.trans s4).trans s5
   rw [dec_tx]
   by_cases c:i < nZ W s t wy
   ·refine ite2 (fun _=>?_) (fun z=>?_)
    ·refine ⟨_,fun σ' H' q=>q,?_⟩
     refine ⟨_,rfl,_,_,rfl,rfl,?_⟩
     exact ⟨_,Nat.sub_lt_sub_left c (Nat.lt_succ_self i),i+1,(by rw [show (((i+1:Nat):Int))=(i:Int)+1 by omega];rfl),c,rfl,s35⟩
    ·rw [hal i (Nat.zero_le _) c] at z
     simp at z
   ·obtain rfl:i=nZ W s t wy:=by omega
    refine ite2 (fun z=>?_) (fun _=>?_)
    ·exact absurd (by simpa using z) hne
    ·exact ⟨_,rfl,k _ s35⟩
end
end Kx
namespace Kx
open PySem PySem.Spec PyProof.Rows L2 Wd
section
variable {P:Program} {w:World} {K:PySem.W.Frag} {mg:Str→Option Value} {base:Heap} {aB:Addr}
noncomputable abbrev s_part:Stmt:=top 35
theorem sc_part:FnScope ["surface","ways","one","other","many","end","ahead","begin"] ["surface","ways","one","other","many"] (defScope s_part):=⟨rfl,rfl,rfl,by decide +kernel,rfl,by decide +kernel,by decide +kernel⟩
theorem c_part (D:Df K mg "is_parted" s_part)(T:Bt K w mg aB)(F_back:Fnc P w K mg base "back" ["word"] 1 spBk)(F_mets:Fnc P w K mg base "met" ["ways","walk","step"] 2 spMets)(F_fst:Fnc P w K mg base "is_first" ["surface","start","end","other"] 2 spFst):Fnc P w K mg base "is_parted" ["surface","ways","one","other","many"] 3 spPart:=by
 have sc:=sc_part
 refine D.ok sc (fun _ _ _ _ _ _ us hl=>by obtain ⟨_,_,_,_,_,rfl⟩:=len5 hl;rfl) (fun vs H Q E h=>?_) (fun f cdv A outer s H vs Q E hr h=>?_)
 ·obtain ⟨u,a,x,y,n,m,W,s,t,wy,rfl,_⟩:=h
  rfl
 ·obtain ⟨u,a,x,y,n,m,W,s,t,wy,rfl,U,hW,hx,hy,os,ot,hwy,k⟩:=h
  have one:1≤100000:=by decide
  refine ⟨_,(@pss_cons _ _ _ _ _ (@ps_if _ _ _ _ _ _ _ _ (@pt_cmpR _ _ _ _ _ _ _ _ op_eq (pv 4) pe_int (nomark _)) (@pss_one _ _ _ (@ps_ret _ _ _ _ pe_bl)) pss_nil) (@pss_cons _ _ _ _ _ (@ps_set _ _ (5) _ _ _ _ sc.nd rfl (Or.inl rfl) (@pe_fn _ _ _ _ _ _ _ _ _ _ _ F_back hr (by decide) rfl (@pa_cons _ _ _ _ _ (@pe_fn _ _ _ _ _ _ _ _ _ _ _ F_mets hr (by decide) rfl (@pa_cons _ _ _ _ _ (pv 1) (@pa_cons _ _ _ _ _ (pv 2) (@pa_cons _ _ _ _ _ (@pe_op _ _ _ _ _ _ _ _ op_sub (pv 4) pe_int) pa_nil (by rfl)) (by rfl)) (by rfl)) (by decide) (by rfl) (by rfl)) pa_nil (by rfl)) (by decide) (by rfl) (by rfl)) (by rfl) (by first | exact .inl rfl | exact .inr rfl | assumption)) (@pss_cons _ _ _ _ _ (@ps_set _ _ (6) _ _ _ _ sc.nd rfl (Or.inl rfl) (@pe_fn _ _ _ _ _ _ _ _ _ _ _ F_fst hr (by decide) rfl (@pa_cons _ _ _ _ _ (pv 0) (@pa_cons _ _ _ _ _ (pv 5) (@pa_cons _ _ _ _ _ (@pe_fn _ _ _ _ _ _ _ _ _ _ _ F_mets hr (by decide) rfl (@pa_cons _ _ _ _ _ (pv 1) (@pa_cons _ _ _ _ _ (pv 2) (@pa_cons _ _ _ _ _ (pv 4) pa_nil (by rfl)) (by rfl)) (by rfl)) (by decide) (by rfl) (by rfl)) (@pa_cons _ _ _ _ _ (@pe_fn _ _ _ _ _ _ _ _ _ _ _ F_mets hr (by decide) rfl (@pa_cons _ _ _ _ _ (pv 1) (@pa_cons _ _ _ _ _ (pv 3) (@pa_cons _ _ _ _ _ (pv 4) pa_nil (by rfl)) (by rfl)) (by rfl)) (by decide) (by rfl) (by rfl)) pa_nil (by rfl)) (by rfl)) (by rfl)) (by rfl)) (by decide) (by rfl) (by rfl)) (by rfl) (by first | exact .inl rfl | exact .inr rfl | assumption)) (@pss_cons _ _ _ _ _ (@ps_set _ _ (7) _ _ _ _ sc.nd rfl (Or.inl rfl) (@pe_fn _ _ _ _ _ _ _ _ _ _ _ F_mets hr (by decide) rfl (@pa_cons _ _ _ _ _ (pv 1) (@pa_cons _ _ _ _ _ (pv 2) (@pa_cons _ _ _ _ _ pe_int pa_nil (by rfl)) (by rfl)) (by rfl)) (by decide) (by rfl) (by rfl)) (by rfl) (by first | exact .inl rfl | exact .inr rfl | assumption)) (@pss_one _ _ _ (@ps_ret _ _ _ _ (@pe_cmpR _ _ _ _ _ _ _ _ op_eq (pv 6) (@pe_fn _ _ _ _ _ _ _ _ _ _ _ F_fst hr (by decide) rfl (@pa_cons _ _ _ _ _ (pv 0) (@pa_cons _ _ _ _ _ (pv 7) (@pa_cons _ _ _ _ _ (@pe_fn _ _ _ _ _ _ _ _ _ _ _ F_back hr (by decide) rfl (@pa_cons _ _ _ _ _ (@pe_fn _ _ _ _ _ _ _ _ _ _ _ F_mets hr (by decide) rfl (@pa_cons _ _ _ _ _ (pv 1) (@pa_cons _ _ _ _ _ (pv 2) (@pa_cons _ _ _ _ _ (@pe_un _ _ _ _ _ _ un_neg pe_int) pa_nil (by rfl)) (by rfl)) (by rfl)) (by decide) (by rfl) (by rfl)) pa_nil (by rfl)) (by decide) (by rfl) (by rfl)) (@pa_cons _ _ _ _ _ (@pe_fn _ _ _ _ _ _ _ _ _ _ _ F_back hr (by decide) rfl (@pa_cons _ _ _ _ _ (@pe_fn _ _ _ _ _ _ _ _ _ _ _ F_mets hr (by decide) rfl (@pa_cons _ _ _ _ _ (pv 1) (@pa_cons _ _ _ _ _ (pv 3) (@pa_cons _ _ _ _ _ (@pe_un _ _ _ _ _ _ un_neg pe_int) pa_nil (by rfl)) (by rfl)) (by rfl)) (by decide) (by rfl) (by rfl)) pa_nil (by rfl)) (by decide) (by rfl) (by rfl)) pa_nil (by rfl)) (by rfl)) (by rfl)) (by rfl)) (by decide) (by rfl) (by rfl)) (nomark _)))))))),?_⟩
  refine ⟨_,rfl,rfl,_,rfl,?_⟩
  by_cases e:m=0
  ·subst e
   exact ifsT (k _ (Same.refl _))
  ·have ez:decide (V.int (m:Int)=V.int 0)=false:=decide_eq_false (fun z=>e (by injection z with z;omega))
   rw [ez]
   refine ifsF ?_
   have ws:=fun {H'} (q:Same H H')=>hW.same q
   refine ⟨_,rfl,_,rfl,_,rfl,_,_,rfl,rfl,a,x,n,W,s,1,_,rfl,hW,hx,os.1,os.2.1,.inl rfl,fun H1 s1=>?_⟩
   refine ⟨[fZ W s 1 ((m:Int) - 1)],rfl,(by show 1≤_;decide),fun H2 s2=>?_⟩
   rw [bk_one]
   have q2:=s1.trans s2
   refine ⟨_,rfl,_,rfl,_,rfl,_,rfl,_,rfl,a,x,n,W,s,1,_,rfl,ws q2,q2 _ _ hx,os.1,os.2.1,.inl rfl,fun H3 s3=>?_⟩
   have q3:=q2.trans s3
   refine ⟨_,rfl,_,rfl,_,rfl,a,y,n,W,t,wy,_,rfl,ws q3,q3 _ _ hy,ot.1,ot.2.1,hwy,fun H4 s4=>?_⟩
   have q4:=q3.trans s4
   refine ⟨u,n,_,_,_,rfl,U,(pt_in U hW.ok os 1 _).2,(pt_in U hW.ok os 1 _).1,(pt_in U hW.ok ot wy _).1,fun H5 s5=>?_⟩
   have q5:=q4.trans s5
   refine ⟨_,rfl,_,rfl,a,x,n,W,s,1,_,rfl,ws q5,q5 _ _ hx,os.1,os.2.1,.inl rfl,fun H6 s6=>?_⟩
   have q6:=q5.trans s6
   refine ⟨_,rfl,_,rfl,_,rfl,_,rfl,_,rfl,_,rfl,a,x,n,W,s,1,_,rfl,ws q6,q6 _ _ hx,os.1,os.2.1,.inl rfl,fun H7 s7=>?_⟩
   refine ⟨[fZ W s 1 (-1)],rfl,(by show 1≤_;decide),fun H8 s8=>?_⟩
   rw [bk_one]
   have q8:=(q6.trans s7).trans s8
   refine ⟨_,rfl,_,rfl,_,rfl,a,y,n,W,t,wy,_,rfl,ws q8,q8 _ _ hy,ot.1,ot.2.1,hwy,fun H9 s9=>?_⟩
   refine ⟨[fZ W t wy (-1)],rfl,(by show 1≤_;decide),fun H10 s10=>?_⟩
   rw [bk_one]
   have q10:=(q8.trans s9).trans s10
   refine ⟨u,n,_,_,_,rfl,U,(pt_in U hW.ok os 1 _).1,(pt_in U hW.ok os 1 _).2,(pt_in U hW.ok ot wy _).2,fun H11 s11=>?_⟩
   have:=k _ (q10.trans s11)
   unfold partZ at this
   rw [decide_eq_true (show 0 < m by omega),Bool.true_and] at this
   refine ⟨rfl,?_⟩
   refine cast (congrArg (fun b=>Q (.bl b) H11) ?_) this
   exact eq_bl _ _
noncomputable abbrev s_alg:Stmt:=top 32
theorem sc_alg:FnScope ["surface","ways","one","other","mine","theirs","many"] ["surface","ways","one","other"] (defScope s_alg):=⟨rfl,rfl,rfl,by decide +kernel,rfl,by decide +kernel,by decide +kernel⟩
theorem c_alg (D:Df K mg "along_at" s_alg)(T:Bt K w mg aB)(F_str:Fnc P w K mg base "stretch" ["ways","one","other"] 3 spStrc)(F_part:Fnc P w K mg base "is_parted" ["surface","ways","one","other","many"] 3 spPart):Fnc P w K mg base "along_at" ["surface","ways","one","other"] 4 (spLk rAlg):=by
 have sc:=sc_alg
 refine D.ok sc (fun _ _ _ _ _ _ us hl=>by obtain ⟨_,_,_,_,rfl⟩:=len4 hl;rfl) (fun vs H Q E h=>?_) (fun f cdv A outer s H vs Q E hr h=>?_)
 ·obtain ⟨u,a,x,y,n,W,s,t,rfl,_⟩:=h
  rfl
 ·obtain ⟨u,a,x,y,n,W,s,t,rfl,U,hW,hx,hy,os,ot,k⟩:=h
  refine ⟨_,(@pss_cons _ _ _ _ _ (@ps_set _ _ (4) _ _ _ _ sc.nd rfl (Or.inl rfl) (@pe_tup _ _ _ _ _ (@pa_cons _ _ _ _ _ (@pe_ix _ _ _ _ _ _ _ ix_tup (pv 2) pe_int (fun _ _=>rfl)) (@pa_cons _ _ _ _ _ (@pe_ix _ _ _ _ _ _ _ ix_tup (pv 2) pe_int (fun _ _=>rfl)) (@pa_cons _ _ _ _ _ pe_int pa_nil (by rfl)) (by rfl)) (by rfl))) (by rfl) (by first | exact .inl rfl | exact .inr rfl | assumption)) (@pss_cons _ _ _ _ _ (@ps_set _ _ (5) _ _ _ _ sc.nd rfl (Or.inl rfl) (@pe_tup _ _ _ _ _ (@pa_cons _ _ _ _ _ (@pe_ix _ _ _ _ _ _ _ ix_tup (pv 3) pe_int (fun _ _=>rfl)) (@pa_cons _ _ _ _ _ (@pe_ix _ _ _ _ _ _ _ ix_tup (pv 3) pe_int (fun _ _=>rfl)) (@pa_cons _ _ _ _ _ pe_int pa_nil (by rfl)) (by rfl)) (by rfl))) (by rfl) (by first | exact .inl rfl | exact .inr rfl | assumption)) (@pss_cons _ _ _ _ _ (@ps_set _ _ (6) _ _ _ _ sc.nd rfl (Or.inl rfl) (@pe_fn _ _ _ _ _ _ _ _ _ _ _ F_str hr (by decide) rfl (@pa_cons _ _ _ _ _ (pv 1) (@pa_cons _ _ _ _ _ (pv 4) (@pa_cons _ _ _ _ _ (pv 5) pa_nil (by rfl)) (by rfl)) (by rfl)) (by decide) (by rfl) (by rfl)) (by rfl) (by first | exact .inl rfl | exact .inr rfl | assumption)) (@pss_one _ _ _ (@ps_ret _ _ _ _ (@pe_ifExp _ _ _ _ _ _ _ _ (@pt_truth _ _ _ (@pe_fn _ _ _ _ _ _ _ _ _ _ _ F_part hr (by decide) rfl (@pa_c _ _ _ _ _ (pv 0) (@pa_c _ _ _ _ _ (pv 1) (@pa_c _ _ _ _ _ (pv 4) (@pa_c _ _ _ _ _ (pv 5) (@pa_c _ _ _ _ _ (pv 6) pa_nil (by rfl)) (by rfl)) (by rfl)) (by rfl)) (by rfl)) (by decide) (by rfl) (by rfl)) (fun _=>rfl)) (@pe_lst _ _ _ _ (@pa_cons _ _ _ _ _ (@pe_tup _ _ _ _ _ (@pa_cons _ _ _ _ _ pe_str (@pa_cons _ _ _ _ _ (pv 2) (@pa_cons _ _ _ _ _ (pv 3) (@pa_cons _ _ _ _ _ (pv 6) pa_nil (by rfl)) (by rfl)) (by rfl)) (by rfl))) pa_nil (by rfl))) (@pe_lst _ _ _ _ pa_nil))))))),?_⟩
  refine ⟨_,rfl,x,_,_,_,rfl,rfl,SqT.of hx,rfl,_,rfl,x,_,_,_,rfl,rfl,SqT.of hx,rfl,(by show 3≤_;decide),fun p hp=>?_⟩
  have s1:Same H (upd H p (.tup [.int s.1,.int s.2,.int 1])):=Same.new hp
  have f1:(upd H p (.tup [.int s.1,.int s.2,.int 1])) p=some (.tup [.int s.1,.int s.2,.int 1]):=upd_same
  generalize upd H p (.tup [.int s.1,.int s.2,.int 1])=H1 at s1 f1 ⊢
  refine ⟨_,rfl,y,_,_,_,rfl,rfl,SqT.of (s1 _ _ hy),rfl,_,rfl,y,_,_,_,rfl,rfl,SqT.of (s1 _ _ hy),rfl,(by show 3≤_;decide),fun q hq=>?_⟩
  have s2:Same H1 (upd H1 q (.tup [.int t.1,.int t.2,.int 1])):=Same.new hq
  have f2:(upd H1 q (.tup [.int t.1,.int t.2,.int 1])) q=some (.tup [.int t.1,.int t.2,.int 1]):=upd_same
  generalize upd H1 q (.tup [.int t.1,.int t.2,.int 1])=H2 at s2 f2 ⊢
  have q2:=s1.trans s2
  refine ⟨_,rfl,_,rfl,_,rfl,a,p,q,n,W,s,t,1,rfl,hW.same q2,s2 _ _ f1,f2,os,ot,.inl rfl,fun H3 s3=>?_⟩
  have q3:=q2.trans s3
  refine ⟨_,rfl,_,rfl,_,rfl,_,rfl,_,rfl,u,a,p,q,n,_,W,s,t,1,rfl,U,hW.same q3,s3 _ _ (s2 _ _ f1),s3 _ _ f2,os,ot,.inl rfl,fun H4 s4=>⟨_,rfl,?_⟩⟩
  rw [part_str hW.ok os ot (.inl rfl)]
  have q4:=q3.trans s4
  by_cases c:ptB u (fZ W s 1) (fZ W t 1) (nZ W s t 1)=true
  ·have hb:¬ fZ W s 1 (-1)=fZ W t 1 (-1):=fun z=>by rw [ptB_back z] at c;cases c
   rw [c,if_neg hb]
   refine ifkT ⟨_,rfl,_,rfl,_,rfl,(by show 4≤_;decide),fun r hr'=>⟨(by show 1≤_;decide),fun l hl=>?_⟩⟩
   refine ret_yes (m:=.a s t (nZ W s t 1)) q4 hr' hl ⟨x,y,upd_same,(q4.trans (Same.new hr')) _ _ hx,(q4.trans (Same.new hr')) _ _ hy⟩ k ?_
   unfold rAlg
   rw [c]
   rfl
  ·rw [Bool.not_eq_true] at c
   rw [c]
   refine ifkF ⟨(by show 0≤_;decide),fun l hl=>?_⟩
   refine ret_no q4 hl k ?_
   unfold rAlg
   rw [c]
   rfl
noncomputable abbrev s_agn:Stmt:=top 33
theorem sc_agn:FnScope ["surface","ways","one","other","mine","theirs","many"] ["surface","ways","one","other"] (defScope s_agn):=⟨rfl,rfl,rfl,by decide +kernel,rfl,by decide +kernel,by decide +kernel⟩
theorem c_agn (D:Df K mg "against_at" s_agn)(T:Bt K w mg aB)(F_str:Fnc P w K mg base "stretch" ["ways","one","other"] 3 spStrc)(F_part:Fnc P w K mg base "is_parted" ["surface","ways","one","other","many"] 3 spPart):Fnc P w K mg base "against_at" ["surface","ways","one","other"] 4 (spLk agnZ):=by
 have sc:=sc_agn
 refine D.ok sc (fun _ _ _ _ _ _ us hl=>by obtain ⟨_,_,_,_,rfl⟩:=len4 hl;rfl) (fun vs H Q E h=>?_) (fun f cdv A outer s H vs Q E hr h=>?_)
 ·obtain ⟨u,a,x,y,n,W,s,t,rfl,_⟩:=h
  rfl
 ·obtain ⟨u,a,x,y,n,W,s,t,rfl,U,hW,hx,hy,os,ot,k⟩:=h
  have l16:=line16
  obtain ⟨_,hat,_,l30,lp,_⟩:=hW.ok.get ot.1 ot.2.1
  refine ⟨_,(@pss_cons _ _ _ _ _ (@ps_set _ _ (4) _ _ _ _ sc.nd rfl (Or.inl rfl) (@pe_tup _ _ _ _ _ (@pa_cons _ _ _ _ _ (@pe_ix _ _ _ _ _ _ _ ix_tup (pv 2) pe_int (fun _ _=>rfl)) (@pa_cons _ _ _ _ _ (@pe_ix _ _ _ _ _ _ _ ix_tup (pv 2) pe_int (fun _ _=>rfl)) (@pa_cons _ _ _ _ _ pe_int pa_nil (by rfl)) (by rfl)) (by rfl))) (by rfl) (by first | exact .inl rfl | exact .inr rfl | assumption)) (@pss_cons _ _ _ _ _ (@ps_set _ _ (5) _ _ _ _ sc.nd rfl (Or.inl rfl) (@pe_tup _ _ _ _ _ (@pa_cons _ _ _ _ _ (@pe_ix _ _ _ _ _ _ _ ix_tup (pv 3) pe_int (fun _ _=>rfl)) (@pa_cons _ _ _ _ _ (@pe_ix _ _ _ _ _ _ _ ix_tup (pv 3) pe_int (fun _ _=>rfl)) (@pa_cons _ _ _ _ _ (@pe_un _ _ _ _ _ _ un_neg pe_int) pa_nil (by rfl)) (by rfl)) (by rfl))) (by rfl) (by first | exact .inl rfl | exact .inr rfl | assumption)) (@pss_cons _ _ _ _ _ (@ps_set _ _ (6) _ _ _ _ sc.nd rfl (Or.inl rfl) (@pe_fn _ _ _ _ _ _ _ _ _ _ _ F_str hr (by decide) rfl (@pa_cons _ _ _ _ _ (pv 1) (@pa_cons _ _ _ _ _ (pv 4) (@pa_cons _ _ _ _ _ (pv 5) pa_nil (by rfl)) (by rfl)) (by rfl)) (by decide) (by rfl) (by rfl)) (by rfl) (by first | exact .inl rfl | exact .inr rfl | assumption)) (@pss_cons _ _ _ _ _ (@ps_if _ _ _ _ _ _ _ _ (@pt_cmpR _ _ _ _ _ _ _ _ (@op_gtT _ (K) rfl (by exact hr.units)) (pv 2) (@pe_tup _ _ _ _ _ (@pa_cons _ _ _ _ _ (@pe_ix _ _ _ _ _ _ _ ix_tup (pv 3) pe_int (fun _ _=>rfl)) (@pa_cons _ _ _ _ _ (@pe_op _ _ _ _ _ _ _ _ op_mod (@pe_op _ _ _ _ _ _ _ _ op_add (@pe_op _ _ _ _ _ _ _ _ op_sub (@pe_ix _ _ _ _ _ _ _ ix_tup (pv 3) pe_int (fun _ _=>rfl)) (pv 6)) pe_int) (@pe_callB _ _ _ _ _ _ _ _ _ call_len_str (by rfl) T.len PySem.boot_len (@pa_cons _ _ _ _ _ (@pe_ix _ _ _ _ _ _ _ ix_tup (pv 1) (@pe_ix _ _ _ _ _ _ _ ix_tup (pv 3) pe_int (fun _ _=>rfl)) (fun _ _=>rfl)) pa_nil (by rfl)) (by decide) (by decide) (by rfl) (by rfl))) pa_nil (by rfl)) (by rfl))) (nomark _)) (@pss_one _ _ _ (@ps_ret _ _ _ _ (@pe_lst _ _ _ _ pa_nil))) pss_nil) (@pss_one _ _ _ (@ps_ret _ _ _ _ (@pe_ifExp _ _ _ _ _ _ _ _ (@pt_truth _ _ _ (@pe_fn _ _ _ _ _ _ _ _ _ _ _ F_part hr (by decide) rfl (@pa_c _ _ _ _ _ (pv 0) (@pa_c _ _ _ _ _ (pv 1) (@pa_c _ _ _ _ _ (pv 4) (@pa_c _ _ _ _ _ (pv 5) (@pa_c _ _ _ _ _ (pv 6) pa_nil (by rfl)) (by rfl)) (by rfl)) (by rfl)) (by rfl)) (by decide) (by rfl) (by rfl)) (fun _=>rfl)) (@pe_lst _ _ _ _ (@pa_cons _ _ _ _ _ (@pe_tup _ _ _ _ _ (@pa_cons _ _ _ _ _ pe_str (@pa_cons _ _ _ _ _ (pv 2) (@pa_cons _ _ _ _ _ (pv 3) (@pa_cons _ _ _ _ _ (pv 6) pa_nil (by rfl)) (by rfl)) (by rfl)) (by rfl))) pa_nil (by rfl))) (@pe_lst _ _ _ _ pa_nil)))))))),?_⟩
  refine ⟨_,rfl,x,_,_,_,rfl,rfl,SqT.of hx,rfl,_,rfl,x,_,_,_,rfl,rfl,SqT.of hx,rfl,(by show 3≤_;decide),fun p hp=>?_⟩
  have s1:Same H (upd H p (.tup [.int s.1,.int s.2,.int 1])):=Same.new hp
  have f1:(upd H p (.tup [.int s.1,.int s.2,.int 1])) p=some (.tup [.int s.1,.int s.2,.int 1]):=upd_same
  generalize upd H p (.tup [.int s.1,.int s.2,.int 1])=H1 at s1 f1 ⊢
  refine ⟨_,rfl,y,_,_,_,rfl,rfl,SqT.of (s1 _ _ hy),rfl,_,rfl,y,_,_,_,rfl,rfl,SqT.of (s1 _ _ hy),rfl,_,rfl,(by show 3≤_;decide),fun q hq=>?_⟩
  have s2:Same H1 (upd H1 q (.tup [.int t.1,.int t.2,.int (-1)])):=Same.new hq
  have f2:(upd H1 q (.tup [.int t.1,.int t.2,.int (-1)])) q=some (.tup [.int t.1,.int t.2,.int (-1)]):=upd_same
  generalize upd H1 q (.tup [.int t.1,.int t.2,.int (-1)])=H2 at s2 f2 ⊢
  have q2:=s1.trans s2
  refine ⟨_,rfl,_,rfl,_,rfl,a,p,q,n,W,s,t,-1,rfl,hW.same q2,s2 _ _ f1,f2,os,ot,.inr rfl,fun H3 s3=>?_⟩
  have q3:=q2.trans s3
  have hy3:=q3 _ _ hy
  generalize hm:(if fZ W s 1 (-1)=fZ W t (-1) (-1) then 0 else nZ W s t (-1))=m
  refine ⟨_,rfl,_,rfl,y,_,_,_,rfl,rfl,SqT.of hy3,rfl,_,rfl,y,_,_,_,rfl,rfl,SqT.of hy3,rfl,_,rfl,_,_,rfl,rfl,_,_,rfl,rfl,_,rfl,_,rfl,y,_,_,_,rfl,rfl,SqT.of hy3,rfl,?_⟩
  refine ⟨a,_,_,_,rfl,rfl,SqT.of (q3 _ _ hW.at_),hat,_,rfl,(by rw [toS_length];omega),_,_,rfl,rfl,(by rw [toS_length];omega),(by show 2≤_;decide),fun r hr'=>?_⟩
  rw [toS_length]
  have s4:Same H3 (upd H3 r (.tup [.int t.1,.int ((t.2 - (m:Int)+1) % ((wyZ W t.1).length:Int))])):=Same.new hr'
  have f4:(upd H3 r (.tup [.int t.1,.int ((t.2 - (m:Int)+1) % ((wyZ W t.1).length:Int))])) r=some (.tup [.int t.1,.int ((t.2 - (m:Int)+1) % ((wyZ W t.1).length:Int))]):=upd_same
  generalize upd H3 r (.tup [.int t.1,.int ((t.2 - (m:Int)+1) % ((wyZ W t.1).length:Int))])=H4 at s4 f4 ⊢
  have q4:=q3.trans s4
  refine ⟨x,r,[s.1,s.2],[t.1,(t.2 - (m:Int)+1) % ((wyZ W t.1).length:Int)],rfl,rfl,SqT.of (q4 _ _ hx),SqT.of f4,_,rfl,?_⟩
  have he:agnZ u W s t=if ltP (fstZ W s t m) s then [] else if partZ u (fZ W s 1) (fZ W t (-1)) m then [Lnk.g s t m] else []:=by
   rw [← hm]
   by_cases e:fZ W s 1 (-1)=fZ W t (-1) (-1)
   ·rw [if_pos e,part_0]
    unfold agnZ
    rw [ptB_back e,Bool.and_false,if_neg (by decide)]
    split <;> rfl
   ·rw [← agn_prog hW.ok os ot e,part_str hW.ok os ot (.inr rfl),if_neg e]
  show tIfS_k1 _ _ _ _ (ltP (fstZ W s t m) s) _
  by_cases c:ltP (fstZ W s t m) s=true
  ·rw [c]
   rw [c] at he
   exact ifsT ⟨(by show 0≤_;decide),fun l hl=>ret_no q4 hl k he⟩
  ·rw [Bool.not_eq_true] at c
   rw [c]
   rw [c] at he
   refine ifsF ?_
   refine ⟨_,rfl,_,rfl,_,rfl,_,rfl,_,rfl,u,a,p,q,n,_,W,s,t,-1,rfl,U,hW.same q4,s4 _ _ (s3 _ _ (s2 _ _ f1)),s4 _ _ (s3 _ _ f2),os,ot,.inr rfl,fun H5 s5=>⟨_,rfl,?_⟩⟩
   have q5:=q4.trans s5
   by_cases c2:partZ u (fZ W s 1) (fZ W t (-1)) m=true
   ·rw [c2]
    rw [c2] at he
    refine ifkT ⟨_,rfl,_,rfl,_,rfl,(by show 4≤_;decide),fun r hr'=>⟨(by show 1≤_;decide),fun l hl=>?_⟩⟩
    exact ret_yes (m:=.g s t m) q5 hr' hl ⟨x,y,upd_same,(q5.trans (Same.new hr')) _ _ hx,(q5.trans (Same.new hr')) _ _ hy⟩ k he
   ·rw [Bool.not_eq_true] at c2
    rw [c2]
    rw [c2] at he
    exact ifkF ⟨(by show 0≤_;decide),fun l hl=>ret_no q5 hl k he⟩
end
end Kx
namespace Kx
open PySem PySem.Spec PyProof.Rows L2 Wd
section
variable {P:Program} {w:World} {K:PySem.W.Frag} {mg:Str→Option Value} {base:Heap} {aB:Addr}
theorem rf_btw {u:List L}{a b c:L}(ha:a∈u)(hb:b∈u)(hc:c∈u)(ab:a≠b)(ac:a≠c)(bc:b≠c):decide (rfI u a c < rfI u a b)=(decide (min (u.idxOf a) (u.idxOf b) < u.idxOf c∧u.idxOf c < max (u.idxOf a) (u.idxOf b)) != decide (u.idxOf b < u.idxOf a)):=by
 have inj:∀ {x y:L},x∈u→y∈u→x≠y→u.idxOf x≠u.idxOf y:=fun hx hy n e=>n (by
  have h1:=List.getElem_idxOf (idx_lt hx)
  have h2:=List.getElem_idxOf (idx_lt hy)
  rw [← h1,← h2]
  simp only [e])
 have n1:=inj ha hb ab
 have n2:=inj ha hc ac
 have n3:=inj hb hc bc
 have l1:=idx_lt ha
 have l2:=idx_lt hb
 have l3:=idx_lt hc
 rw [rf_val ha hc,rf_val ha hb]
 by_cases o:u.idxOf b < u.idxOf a
 ·rw [decide_eq_true o,if_neg (show ¬ u.idxOf a≤u.idxOf b by omega),Bool.eq_iff_iff,decide_eq_true_iff]
  rw [show ∀ x:Bool,(x != true)=!x by decide,Bool.not_eq_true',decide_eq_false_iff_not]
  split <;> omega
 ·rw [decide_eq_false o,if_pos (show u.idxOf a≤u.idxOf b by omega),Bool.bne_false,Bool.eq_iff_iff,decide_eq_true_iff,decide_eq_true_iff]
  split <;> omega
theorem four_btw {u:List L}{a b c d:L}(ha:a∈u)(hb:b∈u)(hc:c∈u)(hd:d∈u)(h:[a,b,c,d].Nodup):fourB u a b c d=(decide (min (u.idxOf a) (u.idxOf b) < u.idxOf c∧u.idxOf c < max (u.idxOf a) (u.idxOf b)) != decide (min (u.idxOf a) (u.idxOf b) < u.idxOf d∧u.idxOf d < max (u.idxOf a) (u.idxOf b))):=by
 unfold fourB
 rw [decide_eq_true h,Bool.true_and]
 simp only [List.nodup_cons,List.mem_cons,List.not_mem_nil,or_false,not_false_eq_true,List.nodup_nil,and_true,not_or] at h
 obtain ⟨⟨e1,e2,e3⟩,⟨e4,e5⟩,e6⟩:=h
 rw [rf_btw ha hb hc e1 e2 e4,rf_btw ha hb hd e1 e3 e5]
 generalize decide (u.idxOf b < u.idxOf a)=z
 exact (show ∀ x y z:Bool,((x != z) != (y != z))=(x != y) by decide) _ _ _
inductive spMtL (vs:List V)(H:Hp)(Q:VK)(u3_:XK):Prop
 | mk:∀ (p q:Addr) (a b c d:Nat),(vs=[.ref p,.ref q])→H p=some (.lst [.int a,.int b])→H q=some (.lst [.int c,.int d])→Q (.bl (decide (min a b < c∧c < max a b) != decide (min a b < d∧d < max a b))) H→spMtL vs H Q u3_
noncomputable abbrev s_met:Stmt:=top 13
theorem sc_met:FnScope ["one","other","low","high"] ["one","other"] (defScope s_met):=⟨rfl,rfl,rfl,by decide +kernel,rfl,by decide +kernel,by decide +kernel⟩
theorem c_met (D:Df K mg "are_met_by_turns" s_met)(T:Bt K w mg aB):Fnc P w K mg base "are_met_by_turns" ["one","other"] 1 spMtL:=by
 have sc:=sc_met
 refine D.ok sc (fun _ _ _ _ _ _ us hl=>by obtain ⟨_,_,rfl⟩:=len2 hl;rfl) (fun vs H Q E h=>?_) (fun f cdv A outer s H vs Q E hr h=>?_)
 ·obtain ⟨p,q,a,b,c,d,rfl,_⟩:=h
  rfl
 ·obtain ⟨p,q,a,b,c,d,rfl,hp,hq,k⟩:=h
  have l16:=line16
  refine ⟨_,(@pss_cons _ _ _ _ _ (@ps_set _ _ (2) _ _ _ _ sc.nd rfl (Or.inl rfl) (@pe_callB _ _ _ _ _ _ _ _ _ (@call_min_l2 _ rfl) (by rfl) T.min b_min (@pa_cons _ _ _ _ _ (pv 0) pa_nil (by rfl)) (by decide) (by decide) (by rfl) (by rfl)) (by rfl) (by first | exact .inl rfl | exact .inr rfl | assumption)) (@pss_cons _ _ _ _ _ (@ps_set _ _ (3) _ _ _ _ sc.nd rfl (Or.inl rfl) (@pe_callB _ _ _ _ _ _ _ _ _ (@call_max_l2 _ rfl) (by rfl) T.max b_max (@pa_cons _ _ _ _ _ (pv 0) pa_nil (by rfl)) (by decide) (by decide) (by rfl) (by rfl)) (by rfl) (by first | exact .inl rfl | exact .inr rfl | assumption)) (@pss_one _ _ _ (@ps_ret _ _ _ _ (@pe_cmpR _ _ _ _ _ _ _ _ op_ne (@pe_chain _ _ _ _ _ _ _ _ _ _ _ _ op_lt op_lt (pv 2) (@pe_ix _ _ _ _ _ _ _ ix_list (pv 1) pe_int (fun _ _=>rfl)) (pv 3) (by with_unfolding_all rfl)) (@pe_chain _ _ _ _ _ _ _ _ _ _ _ _ op_lt op_lt (pv 2) (@pe_ix _ _ _ _ _ _ _ ix_list (pv 1) pe_int (fun _ _=>rfl)) (pv 3) (by with_unfolding_all rfl)) (nomark _)))))),?_⟩
  refine ⟨_,rfl,p,_,_,rfl,SqL.of hp,?_⟩
  refine ⟨_,rfl,p,_,_,rfl,SqL.of hp,?_⟩
  have e1:(if (b:Int) < (a:Int) then (b:Int) else (a:Int))=((min a b:Nat):Int):=by split <;> omega
  have e2:(if (b:Int) > (a:Int) then (b:Int) else (a:Int))=((max a b:Nat):Int):=by split <;> omega
  rw [e1,e2]
  have fin:∀ v1 v2:Bool,v1=decide (min a b < c∧c < max a b)→v2=decide (min a b < d∧d < max a b)→Q (.bl (!decide (V.bl v1=V.bl v2))) H:=fun v1 v2 e1 e2=>by
   subst e1 e2
   have e:∀ x y:Bool,(!decide (V.bl x=V.bl y))=(x != y):=by intro x y;cases x <;> cases y <;> rfl
   rw [e]
   exact k
  refine ⟨_,rfl,_,rfl,q,_,_,_,rfl,rfl,SqL.of hq,rfl,_,_,rfl,rfl,_,rfl,?_⟩
  by_cases h1:min a b < c
  ·refine iteC (decide_eq_true (by omega)) ⟨_,rfl,_,_,rfl,rfl,?_⟩
   refine ⟨_,rfl,_,rfl,q,_,_,_,rfl,rfl,SqL.of hq,rfl,_,_,rfl,rfl,_,rfl,?_⟩
   by_cases h2:min a b < d
   ·exact iteC (decide_eq_true (by omega)) ⟨_,rfl,_,_,rfl,rfl,rfl,fin _ _ (by rw [Bool.eq_iff_iff,decide_eq_true_iff,decide_eq_true_iff];omega) (by rw [Bool.eq_iff_iff,decide_eq_true_iff,decide_eq_true_iff];omega)⟩
   ·exact iteD (decide_eq_false (by omega)) ⟨rfl,fin _ _ (by rw [Bool.eq_iff_iff,decide_eq_true_iff,decide_eq_true_iff];omega) (decide_eq_false (by omega)).symm⟩
  ·refine iteD (decide_eq_false (by omega)) ?_
   refine ⟨_,rfl,_,rfl,q,_,_,_,rfl,rfl,SqL.of hq,rfl,_,_,rfl,rfl,_,rfl,?_⟩
   by_cases h2:min a b < d
   ·exact iteC (decide_eq_true (by omega)) ⟨_,rfl,_,_,rfl,rfl,rfl,fin _ _ (decide_eq_false (by omega)).symm (by rw [Bool.eq_iff_iff,decide_eq_true_iff,decide_eq_true_iff];omega)⟩
   ·exact iteD (decide_eq_false (by omega)) ⟨rfl,fin _ _ (decide_eq_false (by omega)).symm (decide_eq_false (by omega)).symm⟩
noncomputable abbrev s_bes:Stmt:=top 30
theorem sc_bes:FnScope ["surface","ways","one","other","mine","theirs","places"] ["surface","ways","one","other"] (defScope s_bes):=⟨rfl,rfl,rfl,by decide +kernel,rfl,by decide +kernel,by decide +kernel⟩
theorem c_bes (D:Df K mg "beside_at" s_bes)(T:Bt K w mg aB)(Tset:mg "set" = none)(F_ce:Fnc P w K mg base "chord_ends" ["ways","strand"] 3 spCe)(F_met:Fnc P w K mg base "are_met_by_turns" ["one","other"] 1 spMtL):Fnc P w K mg base "beside_at" ["surface","ways","one","other"] 4 (spLk rBes):=by
 have sc:=sc_bes
 refine D.ok sc (fun _ _ _ _ _ _ us hl=>by obtain ⟨_,_,_,_,rfl⟩:=len4 hl;rfl) (fun vs H Q E h=>?_) (fun f cdv A outer s H vs Q E hr h=>?_)
 ·obtain ⟨u,a,x,y,n,W,s,t,rfl,_⟩:=h
  rfl
 ·obtain ⟨u,a,x,y,n,W,s,t,rfl,U,hW,hx,hy,os,ot,k⟩:=h
  have l16:=line16
  have m1:=(pt_in U hW.ok os 1 0).2
  have m2:=(pt_in U hW.ok os 1 1).1
  have m3:=(pt_in U hW.ok ot 1 0).2
  have m4:=(pt_in U hW.ok ot 1 1).1
  have k:∀ (l:Addr) (zs:List (Addr × Lnk)) (H':Hp),H l=none→Same H H'→H' l=some (.lst ((zs.map (·.1)).map V.ref))→LkA H' zs→zs.map (·.2)=(if fourB u (inv (fZ W s 1 0)) (fZ W s 1 1) (inv (fZ W t 1 0)) (fZ W t 1 1) then [.b s t] else [])→Q (.ref l) H':=k
  refine ⟨_,(@pss_cons _ _ _ _ _ (@ps_set _ _ (4) _ _ _ _ sc.nd rfl (Or.inl rfl) (@pe_fn _ _ _ _ _ _ _ _ _ _ _ F_ce hr (by decide) rfl (@pa_cons _ _ _ _ _ (pv 1) (@pa_cons _ _ _ _ _ (pv 2) pa_nil (by rfl)) (by rfl)) (by decide) (by rfl) (by rfl)) (by rfl) (by first | exact .inl rfl | exact .inr rfl | assumption)) (@pss_cons _ _ _ _ _ (@ps_set _ _ (5) _ _ _ _ sc.nd rfl (Or.inl rfl) (@pe_fn _ _ _ _ _ _ _ _ _ _ _ F_ce hr (by decide) rfl (@pa_cons _ _ _ _ _ (pv 1) (@pa_cons _ _ _ _ _ (pv 3) pa_nil (by rfl)) (by rfl)) (by decide) (by rfl) (by rfl)) (by rfl) (by first | exact .inl rfl | exact .inr rfl | assumption)) (@pss_cons _ _ _ _ _ (@ps_if _ _ _ _ _ _ _ _ (@pt_cmpR _ _ _ _ _ _ _ _ op_lt (@pe_callB _ _ _ _ _ _ _ _ _ call_len_sU (by rfl) T.len PySem.boot_len (@pa_cons _ _ _ _ _ (@pe_callTy _ _ _ _ _ _ _ _ _ (@call_set_text _ rfl) (by rfl) Tset b_set (@pa_cons _ _ _ _ _ (@pe_op _ _ _ _ _ _ _ _ op_add_str (pv 4) (pv 5)) pa_nil (by rfl)) (by decide) (by decide) (by rfl) (by rfl)) pa_nil (by rfl)) (by decide) (by decide) (by rfl) (by rfl)) pe_int (nomark _)) (@pss_one _ _ _ (@ps_ret _ _ _ _ (@pe_lst _ _ _ _ pa_nil))) pss_nil) (@pss_cons _ _ _ _ _ (@ps_setC _ (6) _ _ _ _ _ _ _ _ _ (["end","surface"]) (["end"]) ([0]) _ _ _ _ sc.nd rfl (Or.inl rfl) (@blk_of _ _ _ _ _ _ rfl (by kernel_rfl)) rfl (@pi_str _ _ _ _ (@pe_op _ _ _ _ _ _ _ _ op_add_str (pv 4) (pv 5))) (fun _ _ _ _=>@pg_name _ _ (0) _ (show (["end","surface"]:List Str).Nodup from by decide +kernel) rfl (Or.inl rfl) (by first | exact .inl rfl | exact .inr rfl | assumption)) (fun _ _ _ _=>pifs_nil) (fun _ _ _ _=>by (exact (@pe_bmK _ _ _ _ _ _ _ _ _ _ _ _ (K) rfl PySem.F.plainAttrs_str PySem.F.slot_str_index PySem.F.type_str_index mt_index (pv 1) (@pa_cons _ _ _ _ _ (pv 0) pa_nil (by rfl)) (by rfl) (by rfl) (by rfl) (by rfl) (by rfl)))) (by intro _ ;rfl) (by rfl) (by first | exact .inl rfl | exact .inr rfl | assumption)) (@pss_one _ _ _ (@ps_ret _ _ _ _ (@pe_ifExp _ _ _ _ _ _ _ _ (@pt_truth _ _ _ (@pe_fn _ _ _ _ _ _ _ _ _ _ _ F_met hr (by decide) rfl (@pa_cons _ _ _ _ _ (@pe_slice _ _ _ _ _ _ _ _ _ _ sl_list (pv 6) po_none (@po_some _ _ _ pe_int)) (@pa_cons _ _ _ _ _ (@pe_slice _ _ _ _ _ _ _ _ _ _ sl_list (pv 6) (@po_some _ _ _ pe_int) po_none) pa_nil (by rfl)) (by rfl)) (by decide) (by rfl) (by rfl)) (fun _=>rfl)) (@pe_lst _ _ _ _ (@pa_cons _ _ _ _ _ (@pe_tup _ _ _ _ _ (@pa_cons _ _ _ _ _ pe_str (@pa_cons _ _ _ _ _ (pv 2) (@pa_cons _ _ _ _ _ (pv 3) pa_nil (by rfl)) (by rfl)) (by rfl))) pa_nil (by rfl))) (@pe_lst _ _ _ _ pa_nil)))))))),?_⟩
  refine ⟨_,rfl,_,rfl,a,x,n,W,s,rfl,hW,hx,os,fun H1 s1=>?_⟩
  refine ⟨_,rfl,_,rfl,a,y,n,W,t,rfl,hW.same s1,s1 _ _ hy,ot,fun H2 s2=>?_⟩
  have q2:=s1.trans s2
  generalize inv (fZ W s 1 0)=e1 at m1 k ⊢
  generalize fZ W s 1 1=e2 at m2 k ⊢
  generalize inv (fZ W t 1 0)=e3 at m3 k ⊢
  generalize fZ W t 1 1=e4 at m4 k ⊢
  refine ⟨_,rfl,_,rfl,_,_,rfl,rfl,(by rw [toS_length,toS_length];show 2+2≤_;omega),?_⟩
  rw [tx_app]
  refine ⟨[e1,e2,e3,e4],rfl,(by show 4≤4000;decide),fun p dl hp nd hm=>?_⟩
  refine ⟨p,dl,rfl,upd_same,_,_,rfl,rfl,_,rfl,?_⟩
  rw [set4 nd hm]
  generalize hG:upd H2 p (StO _ _ p dl)=H3
  have q3:Same H H3:=hG ▸ q2.trans (Same.new hp)
  by_cases c:[e1,e2,e3,e4].Nodup
  ·rw [decide_eq_true c]
   refine ifsF ?_
   have hall:∀ x∈[e1,e2,e3,e4],x∈u:=fun x hx=>by
    simp only [List.mem_cons,List.not_mem_nil,or_false] at hx
    rcases hx with rfl | rfl | rfl | rfl <;> assumption
   have k4:=four_btw m1 m2 m3 m4 c
   refine ⟨_,rfl,_,rfl,_,_,rfl,rfl,(by rw [toS_length,toS_length];show 2+2≤_;omega),?_⟩
   rw [tx_app]
   refine ⟨_,rfl,?_⟩
   refine comp_by (own:=["end"]) (cap:=[0]) (J:=Its (toS [e1,e2,e3,e4])) 4 (fun i ys σ H'=>∃ v:Option V,σ = [v,some (tx u)]∧ys=(([e1,e2,e3,e4].take i).map fun x=>V.int (u.idxOf x:Nat))∧H'=H3) ⟨none,rfl,rfl,rfl⟩ (fun i ys σ H' hi ⟨v,_,e,_⟩=>?_) (by omega) (fun i ys σ H' hi _=>?_) (fun ys σ H' _=>?_) ?_ ?_
   ·rw [e,List.length_map,List.length_take];omega
   ·show i < (toS _).cps.size;rw [toS_size];exact hi
   ·show _=(toS _).cps.size;rw [toS_size];rfl
   ·rintro i ys σ H4 y H5 N hi ⟨v,rfl,rfl,rfl⟩ ⟨rfl,cc,hcc,rfl⟩ hN
    obtain ⟨z,hz,ez⟩:=sign_at hcc
    rw [ez]
    obtain ⟨r1,o1⟩:=idx_at (hall z (List.mem_of_getElem? hz))
    refine ⟨_,rfl,rfl,_,rfl,_,_,_,r1,rfl,rfl,o1,hN _ _ _ ⟨_,rfl,?_,rfl⟩⟩
    rw [take_snoc hz,List.map_append]
    rfl
   ·rintro ys σ H4 l ⟨v,rfl,rfl,rfl⟩ hl
    show tAsg_k1 _ _ _ _ (upd H4 l (.lst [.int (u.idxOf e1:Nat),.int (u.idxOf e2:Nat),.int (u.idxOf e3:Nat),.int (u.idxOf e4:Nat)]))
    have s4:Same H4 (upd H4 l (.lst [.int (u.idxOf e1:Nat),.int (u.idxOf e2:Nat),.int (u.idxOf e3:Nat),.int (u.idxOf e4:Nat)])):=Same.new hl
    have f4:(upd H4 l (.lst [.int (u.idxOf e1:Nat),.int (u.idxOf e2:Nat),.int (u.idxOf e3:Nat),.int (u.idxOf e4:Nat)])) l=some (.lst [.int (u.idxOf e1:Nat),.int (u.idxOf e2:Nat),.int (u.idxOf e3:Nat),.int (u.idxOf e4:Nat)]):=upd_same
    generalize upd H4 l (.lst [.int (u.idxOf e1:Nat),.int (u.idxOf e2:Nat),.int (u.idxOf e3:Nat),.int (u.idxOf e4:Nat)])=H5 at s4 f4 ⊢
    refine ⟨_,rfl,_,rfl,l,_,rfl,SqL.of f4,fun p1 hp1=>?_⟩
    have s5:=Same.new (o:=.lst (cutV [.int (u.idxOf e1:Nat),.int (u.idxOf e2:Nat),.int (u.idxOf e3:Nat),.int (u.idxOf e4:Nat)] none (some 2))) hp1
    have f5:(upd H5 p1 (.lst (cutV [.int (u.idxOf e1:Nat),.int (u.idxOf e2:Nat),.int (u.idxOf e3:Nat),.int (u.idxOf e4:Nat)] none (some 2)))) p1=some (.lst [.int (u.idxOf e1:Nat),.int (u.idxOf e2:Nat)]):=upd_same
    generalize upd H5 p1 (.lst (cutV [.int (u.idxOf e1:Nat),.int (u.idxOf e2:Nat),.int (u.idxOf e3:Nat),.int (u.idxOf e4:Nat)] none (some 2)))=H6 at s5 f5 ⊢
    refine ⟨_,rfl,_,rfl,l,_,rfl,SqL.of (s5 _ _ f4),fun p2 hp2=>?_⟩
    have s6:=Same.new (o:=.lst (cutV [.int (u.idxOf e1:Nat),.int (u.idxOf e2:Nat),.int (u.idxOf e3:Nat),.int (u.idxOf e4:Nat)] (some 2) none)) hp2
    have f6:(upd H6 p2 (.lst (cutV [.int (u.idxOf e1:Nat),.int (u.idxOf e2:Nat),.int (u.idxOf e3:Nat),.int (u.idxOf e4:Nat)] (some 2) none))) p2=some (.lst [.int (u.idxOf e3:Nat),.int (u.idxOf e4:Nat)]):=upd_same
    generalize upd H6 p2 (.lst (cutV [.int (u.idxOf e1:Nat),.int (u.idxOf e2:Nat),.int (u.idxOf e3:Nat),.int (u.idxOf e4:Nat)] (some 2) none))=H7 at s6 f6 ⊢
    refine ⟨p1,p2,_,_,_,_,rfl,s6 _ _ f5,f6,_,rfl,?_⟩
    rw [← k4]
    have q7:=((q3.trans s4).trans s5).trans s6
    by_cases c2:fourB u e1 e2 e3 e4=true
    ·rw [c2]
     rw [c2] at k
     refine ifkT ⟨_,rfl,_,rfl,(by show 3≤_;decide),fun r hr'=>⟨(by show 1≤_;decide),fun l hl=>?_⟩⟩
     exact ret_yes (m:=.b s t) q7 hr' hl ⟨x,y,upd_same,(q7.trans (Same.new hr')) _ _ hx,(q7.trans (Same.new hr')) _ _ hy⟩ k rfl
    ·rw [Bool.not_eq_true] at c2
     rw [c2]
     rw [c2] at k
     exact ifkF ⟨(by show 0≤_;decide),fun l hl=>ret_no q7 hl k rfl⟩
  ·rw [decide_eq_false c]
   refine ifsT ⟨(by show 0≤_;decide),fun l hl=>ret_no q3 hl k ?_⟩
   unfold fourB
   rw [decide_eq_false c]
   rfl
end
end Kx
namespace Kx
open PySem PySem.Spec PyProof.Rows L2 Wd
section
variable {P:Program} {w:World} {K:PySem.W.Frag} {mg:Str→Option Value} {base:Heap} {aB:Addr}
noncomputable abbrev s_lat:Stmt:=top 29
theorem sc_lat:FnScope ["surface","ways","one","other","told"] ["surface","ways","one","other"] (defScope s_lat):=⟨rfl,rfl,rfl,by decide +kernel,rfl,by decide +kernel,by decide +kernel⟩
theorem c_lat (D:Df K mg "links_at" s_lat)(T:Bt K w mg aB)(F_agn:Fnc P w K mg base "against_at" ["surface","ways","one","other"] 4 (spLk agnZ))(F_alg:Fnc P w K mg base "along_at" ["surface","ways","one","other"] 4 (spLk rAlg))(F_bes:Fnc P w K mg base "beside_at" ["surface","ways","one","other"] 4 (spLk rBes)):Fnc P w K mg base "links_at" ["surface","ways","one","other"] 5 (spLk rLat):=by
 have sc:=sc_lat
 refine D.ok sc (fun _ _ _ _ _ _ us hl=>by obtain ⟨_,_,_,_,rfl⟩:=len4 hl;rfl) (fun vs H Q E h=>?_) (fun f cdv A outer s H vs Q E hr h=>?_)
 ·obtain ⟨u,a,x,y,n,W,s,t,rfl,_⟩:=h
  rfl
 ·obtain ⟨u,a,x,y,n,W,s,t,rfl,U,hW,hx,hy,os,ot,k⟩:=h
  have l16:=line16
  refine ⟨_,(@pss_cons _ _ _ _ _ (@ps_set _ _ (4) _ _ _ _ sc.nd rfl (Or.inl rfl) (@pe_fn _ _ _ _ _ _ _ _ _ _ _ F_agn hr (by decide) rfl (@pa_cons _ _ _ _ _ (pv 0) (@pa_cons _ _ _ _ _ (pv 1) (@pa_cons _ _ _ _ _ (pv 2) (@pa_cons _ _ _ _ _ (pv 3) pa_nil (by rfl)) (by rfl)) (by rfl)) (by rfl)) (by decide) (by rfl) (by rfl)) (by rfl) (by first | exact .inl rfl | exact .inr rfl | assumption)) (@pss_cons _ _ _ _ _ (@ps_if _ _ _ _ _ _ _ _ (@pt_cmpR _ _ _ _ _ _ _ _ (op_ltTK (K:=K) rfl (by exact lt0 hr.units)) (pv 2) (pv 3) (nomark _)) (@pss_cons _ _ _ _ _ (@ps_expr _ _ _ _ (@pe_bm _ _ _ _ _ _ _ _ _ _ _ _ PySem.F.plainAttrs_list PySem.F.slot_list_extend PySem.F.type_list_extend mt_extend (pv 4) (@pa_cons _ _ _ _ _ (@pe_fn _ _ _ _ _ _ _ _ _ _ _ F_alg hr (by decide) rfl (@pa_cons _ _ _ _ _ (pv 0) (@pa_cons _ _ _ _ _ (pv 1) (@pa_cons _ _ _ _ _ (pv 2) (@pa_cons _ _ _ _ _ (pv 3) pa_nil (by rfl)) (by rfl)) (by rfl)) (by rfl)) (by decide) (by rfl) (by rfl)) pa_nil (by rfl)) (by rfl) (by rfl) (by rfl) (by rfl) (by rfl)) (by rfl)) (@pss_one _ _ _ (@ps_expr _ _ _ _ (@pe_bm _ _ _ _ _ _ _ _ _ _ _ _ PySem.F.plainAttrs_list PySem.F.slot_list_extend PySem.F.type_list_extend mt_extend (pv 4) (@pa_cons _ _ _ _ _ (@pe_fn _ _ _ _ _ _ _ _ _ _ _ F_bes hr (by decide) rfl (@pa_cons _ _ _ _ _ (pv 0) (@pa_cons _ _ _ _ _ (pv 1) (@pa_cons _ _ _ _ _ (pv 2) (@pa_cons _ _ _ _ _ (pv 3) pa_nil (by rfl)) (by rfl)) (by rfl)) (by rfl)) (by decide) (by rfl) (by rfl)) pa_nil (by rfl)) (by rfl) (by rfl) (by rfl) (by rfl) (by rfl)) (by rfl)))) pss_nil) (@pss_one _ _ _ (@ps_ret _ _ _ _ (pv 4))))),?_⟩
  refine ⟨_,rfl,_,rfl,_,rfl,_,rfl,u,a,x,y,n,W,s,t,rfl,U,hW,hx,hy,os,ot,fun l1 z1 H1 n1 s1 f1 k1 e1=>?_⟩
  refine ⟨_,rfl,_,rfl,x,y,[s.1,s.2],[t.1,t.2],rfl,rfl,SqT.of (s1 _ _ hx),SqT.of (s1 _ _ hy),_,rfl,?_⟩
  show tIfS_k1 _ _ _ _ (ltP s t) _
  by_cases c:ltP s t=true
  ·rw [c]
   refine ifsT ?_
   have len:∀ {zs:List (Addr × Lnk)} {r:List Lnk} {m:Nat},zs.map (·.2)=r→r.length≤m→zs.length≤m:=fun e h=>by rw [← e,List.length_map] at h;exact h
   have la1:z1.length≤1:=len e1 (by unfold agnZ;split <;> simp)
   refine ⟨_,rfl,.inl ⟨rfl,_,SqL.of f1⟩,_,rfl,_,rfl,_,rfl,_,rfl,u,a,x,y,n,W,s,t,rfl,U,hW.same s1,s1 _ _ hx,s1 _ _ hy,os,ot,fun l2 z2 H2 n2 s2 f2 k2 e2=>?_⟩
   have la2:z2.length≤1:=len e2 (by unfold rAlg;split <;> simp)
   have g1:=s2 _ _ f1
   refine ⟨l1,l2,_,_,rfl,rfl,g1,f2,(by simp only [List.length_map];omega),?_⟩
   rw [maps_app]
   have s3:Same H (upd H2 l1 (.lst (((z1++z2).map (·.1)).map V.ref))):=over_same (s1.trans s2) n1
   have f3:(upd H2 l1 (.lst (((z1++z2).map (·.1)).map V.ref))) l1=some (.lst (((z1++z2).map (·.1)).map V.ref)):=upd_same
   have k3:LkA (upd H2 l1 (.lst (((z1++z2).map (·.1)).map V.ref))) (z1++z2):=((k1.same s2).app k2).to (over_tup g1)
   generalize upd H2 l1 (.lst (((z1++z2).map (·.1)).map V.ref))=H3 at s3 f3 k3 ⊢
   refine ⟨_,rfl,.inl ⟨rfl,_,SqL.of f3⟩,_,rfl,_,rfl,_,rfl,_,rfl,u,a,x,y,n,W,s,t,rfl,U,hW.same s3,s3 _ _ hx,s3 _ _ hy,os,ot,fun l4 z4 H4 n4 s4 f4 k4 e4=>?_⟩
   have la4:z4.length≤1:=len e4 (by unfold rBes;split <;> simp)
   have g3:=s4 _ _ f3
   refine ⟨l1,l4,_,_,rfl,rfl,g3,f4,(by simp only [List.length_map,List.length_append];omega),?_⟩
   rw [maps_app]
   refine ⟨_,rfl,k l1 (z1++z2++z4) _ n1 (over_same (s3.trans s4) n1) upd_same (((k3.same s4).app k4).to (over_tup g3)) ?_⟩
   unfold rLat
   rw [c,if_pos rfl,List.map_append,List.map_append,e1,e2,e4,List.append_assoc]
  ·rw [Bool.not_eq_true] at c
   rw [c]
   refine ifsF ⟨_,rfl,k l1 z1 H1 n1 s1 f1 k1 ?_⟩
   unfold rLat
   rw [c,e1]
   simp
noncomputable abbrev s_links:Stmt:=top 28
theorem sc_links:FnScope ["surface","ways","i","j","told","p","q"] ["surface","ways","i","j"] (defScope s_links):=⟨rfl,rfl,rfl,by decide +kernel,rfl,by decide +kernel,by decide +kernel⟩
theorem c_links (D:Df K mg "links" s_links)(T:Bt K w mg aB)(F_lat:Fnc P w K mg base "links_at" ["surface","ways","one","other"] 5 (spLk rLat)):Fnc P w K mg base "links" ["surface","ways","i","j"] 6 spLinks:=by
 have sc:=sc_links
 refine D.ok sc (fun _ _ _ _ _ _ us hl=>by obtain ⟨_,_,_,_,rfl⟩:=len4 hl;rfl) (fun vs H Q E h=>?_) (fun f cdv A outer s H vs Q E hr h=>?_)
 ·obtain ⟨u,a,n,W,i,j,rfl,_⟩:=h
  rfl
 ·obtain ⟨u,a,n,W,i,j,rfl,U,hW,i0,i1,j0,j1,k⟩:=h
  have l16:=line16
  obtain ⟨_,ati,_,li,_,_⟩:=hW.ok.get i0 i1
  obtain ⟨_,atj,_,lj,_,_⟩:=hW.ok.get j0 j1
  refine ⟨_,(@pss_cons _ _ _ _ _ (@ps_set _ _ (4) _ _ _ _ sc.nd rfl (Or.inl rfl) (@pe_lst _ _ _ _ pa_nil) (by rfl) (by first | exact .inl rfl | exact .inr rfl | assumption)) (@pss_cons _ _ _ _ _ (@ps_for _ _ _ _ _ _ _ _ PassesOwn.never rfl (@pi_range1 _ _ _ _ _ _ rfl T.range (@pa_cons _ _ _ _ _ (@pe_callB _ _ _ _ _ _ _ _ _ call_len_str (by rfl) T.len PySem.boot_len (@pa_cons _ _ _ _ _ (@pe_ix _ _ _ _ _ _ _ ix_tup (pv 1) (pv 2) (fun _ _=>rfl)) pa_nil (by rfl)) (by decide) (by decide) (by rfl) (by rfl)) pa_nil (by rfl)) (by rfl)) (@pg_name _ _ (5) _ sc.nd rfl (Or.inl rfl) (by first | exact .inl rfl | exact .inr rfl | assumption)) (@pss_one _ _ _ (@ps_for _ _ _ _ _ _ _ _ PassesOwn.never rfl (@pi_range1 _ _ _ _ _ _ rfl T.range (@pa_cons _ _ _ _ _ (@pe_callB _ _ _ _ _ _ _ _ _ call_len_str (by rfl) T.len PySem.boot_len (@pa_cons _ _ _ _ _ (@pe_ix _ _ _ _ _ _ _ ix_tup (pv 1) (pv 3) (fun _ _=>rfl)) pa_nil (by rfl)) (by decide) (by decide) (by rfl) (by rfl)) pa_nil (by rfl)) (by rfl)) (@pg_name _ _ (6) _ sc.nd rfl (Or.inl rfl) (by first | exact .inl rfl | exact .inr rfl | assumption)) (@pss_one _ _ _ (@ps_expr _ _ _ _ (@pe_bm _ _ _ _ _ _ _ _ _ _ _ _ PySem.F.plainAttrs_list PySem.F.slot_list_extend PySem.F.type_list_extend mt_extend (pv 4) (@pa_cons _ _ _ _ _ (@pe_fn _ _ _ _ _ _ _ _ _ _ _ F_lat hr (by decide) rfl (@pa_cons _ _ _ _ _ (pv 0) (@pa_cons _ _ _ _ _ (pv 1) (@pa_cons _ _ _ _ _ (@pe_tup _ _ _ _ _ (@pa_cons _ _ _ _ _ (pv 2) (@pa_cons _ _ _ _ _ (pv 5) pa_nil (by rfl)) (by rfl))) (@pa_cons _ _ _ _ _ (@pe_tup _ _ _ _ _ (@pa_cons _ _ _ _ _ (pv 3) (@pa_cons _ _ _ _ _ (pv 6) pa_nil (by rfl)) (by rfl))) pa_nil (by rfl)) (by rfl)) (by rfl)) (by rfl)) (by decide) (by rfl) (by rfl)) pa_nil (by rfl)) (by rfl) (by rfl) (by rfl) (by rfl) (by rfl)) (by rfl))) (by intro _ ;rfl))) (by intro _ ;rfl)) (@pss_one _ _ _ (@ps_ret _ _ _ _ (@pe_callB _ _ _ _ _ _ _ _ _ (@call_sorted_qu _ (.s) (shL) _ (fun z=>by cases z) (by exact hr.units) rfl) (by rfl) T.sorted b_sorted (@pa_cons _ _ _ _ _ (pv 4) pa_nil (by rfl)) (by decide) (by decide) (by rfl) (by rfl)))))),?_⟩
  refine ⟨(by show 0≤_;decide),fun l hl=>?_⟩
  have s0:Same H (upd H l (.lst [])):=Same.new hl
  have f0:(upd H l (.lst [])) l=some (.lst []):=upd_same
  generalize upd H l (.lst [])=H0 at s0 f0 ⊢
  refine ⟨_,rfl,_,rfl,a,_,_,_,rfl,rfl,SqT.of (s0 _ _ hW.at_),ati,_,rfl,(by rw [toS_length];omega),_,rfl,?_⟩
  rw [toS_length]
  refine ⟨by omega,by omega,?_⟩
  refine for_range (lo:=0) (n:=((wyZ W i).length:Int).toNat) (fun m σ H'=>∃ (v1 v2:Option V) (zs:List (Addr × Lnk)),σ = [some (tx u),some (.ref a),some (.int i),some (.int j),some (.ref l),v1,v2]∧Same H H'∧H' l=some (.lst ((zs.map (·.1)).map V.ref))∧LkA H' zs∧(zs.map (·.2)).Perm (allL u W i j m)) ⟨none,none,[],rfl,s0,f0,(fun _ h=>absurd h (by simp)),List.Perm.refl _⟩ ?_ ?_
  ·rintro p σ H1 hp ⟨v1,v2,zs,rfl,s1,f1,k1,e1⟩
   have hp':p < (wyZ W i).length:=by omega
   refine ⟨_,rfl,_,rfl,a,_,_,_,rfl,rfl,SqT.of (s1 _ _ hW.at_),atj,_,rfl,(by rw [toS_length];omega),_,rfl,?_⟩
   rw [toS_length]
   refine ⟨by omega,by omega,?_⟩
   rw [show ((0:Int)+(p:Int))=(p:Int) by omega]
   refine for_range (lo:=0) (n:=((wyZ W j).length:Int).toNat) (fun m σ H'=>∃ (v2:Option V) (zs:List (Addr × Lnk)),σ = [some (tx u),some (.ref a),some (.int i),some (.int j),some (.ref l),some (.int (p:Int)),v2]∧Same H H'∧H' l=some (.lst ((zs.map (·.1)).map V.ref))∧LkA H' zs∧(zs.map (·.2)).Perm (allL u W i j p++rowL u W i j p m)) ⟨v2,zs,rfl,s1,f1,k1,by rw [show rowL u W i j p 0=[] from rfl,List.append_nil];exact e1⟩ ?_ ?_
   ·clear e1 k1 f1 s1 zs
    rintro q σ H2 hq ⟨v2,zs,rfl,s2,f2,k2,e2⟩
    have hq':q < (wyZ W j).length:=by omega
    rw [show ((0:Int)+(q:Int))=(q:Int) by omega]
    refine ⟨_,rfl,.inl ⟨rfl,_,SqL.of f2⟩,_,rfl,_,rfl,_,rfl,_,rfl,(by show 2≤_;decide),fun x hx=>?_⟩
    have s3:Same H2 (upd H2 x (.tup [.int i,.int (p:Int)])):=Same.new hx
    have f3:(upd H2 x (.tup [.int i,.int (p:Int)])) x=some (.tup [.int i,.int (p:Int)]):=upd_same
    generalize upd H2 x (.tup [.int i,.int (p:Int)])=H3 at s3 f3 ⊢
    refine ⟨_,rfl,_,rfl,(by show 2≤_;decide),fun y hy=>?_⟩
    have s4:Same H3 (upd H3 y (.tup [.int j,.int (q:Int)])):=Same.new hy
    have f4:(upd H3 y (.tup [.int j,.int (q:Int)])) y=some (.tup [.int j,.int (q:Int)]):=upd_same
    generalize upd H3 y (.tup [.int j,.int (q:Int)])=H4 at s4 f4 ⊢
    have s24:=s3.trans s4
    refine ⟨u,a,x,y,n,W,(i,(p:Int)),(j,(q:Int)),rfl,U,hW.same (s2.trans s24),s4 _ _ f3,f4,⟨i0,i1,by omega,by show (p:Int) < ((wyZ W i).length:Int);omega⟩,⟨j0,j1,by omega,by show (q:Int) < ((wyZ W j).length:Int);omega⟩,fun l5 z5 H5 n5 s5 f5 k5 e5=>?_⟩
    have s25:=s24.trans s5
    have g2:=s25 _ _ f2
    have ez:(z5.map (·.2)).Perm (lkZ u W (i,(p:Int)) (j,(q:Int))):=by rw [e5];exact rLat_perm _ _ _ _
    have en:((zs++z5).map (·.2)).Perm (allL u W i j p++rowL u W i j p (q+1)):=by
     rw [List.map_append,row_succ,← List.append_assoc]
     exact e2.append ez
    have hlen:zs.length+z5.length≤3*30*p+3*(q+1):=by
     have h1:=en.length_eq
     rw [List.length_map,List.length_append,List.length_append] at h1
     have h2:=all_len u W i j lj p
     have h3:=row_len u W i j p (q+1)
     omega
    refine ⟨l,l5,_,_,rfl,rfl,g2,f5,(by simp only [List.length_map];omega),?_⟩
    rw [maps_app]
    exact ⟨_,zs++z5,rfl,over_same (s2.trans s25) hl,upd_same,((k2.same s25).app k5).to (over_tup g2),en⟩
   ·clear e1 k1 f1 s1 zs
    rintro σ H2 ⟨v2,zs,rfl,s2,f2,k2,e2⟩
    refine ⟨_,_,zs,rfl,s2,f2,k2,?_⟩
    rw [all_succ]
    exact e2
  ·rintro σ H1 ⟨v1,v2,zs,rfl,s1,f1,k1,e1⟩
   have em:zs.map (·.1)=(zs.map fun z=>(z.1,z.2.key)).map (·.1):=by rw [List.map_map];rfl
   rw [em] at f1
   refine ⟨_,rfl,l,zs.map fun z=>(z.1,z.2.key),rfl,.inl (SqL.of f1),fun z hz=>?_,fun p ks hp pm pw=>?_⟩
   ·obtain ⟨y,hy,rfl⟩:=List.mem_map.mp hz
    exact (k1 y hy).kd
   ·obtain ⟨ys,h1,h2⟩:=perm_map_ex (fun z:Addr × Lnk=>(z.1,z.2.key)) pm.symm zs rfl
    have e2:ks.map (·.1)=ys.map (·.1):=by rw [h2,List.map_map];rfl
    have e3:ks.map (·.2)=(ys.map (·.2)).map Lnk.key:=by rw [h2,List.map_map,List.map_map];rfl
    rw [e2]
    rw [e3] at pw
    refine k p ys _ (s1.free hp) (s1.trans (Same.new hp)) upd_same (fun z hz=>?_) ((h1.map _).trans e1) pw
    exact (k1 z (h1.mem_iff.mp hz)).to fun b o e=>Same.new hp _ _ e
end
end Kx
namespace Kx
open PySem PySem.Spec PyProof.Rows L2 Wd
section
variable {P:Program} {w:World} {K:PySem.W.Frag} {mg:Str→Option Value} {base:Heap} {aB:Addr}
noncomputable abbrev s_lred:Stmt:=top 41
theorem sc_lred:FnScope ["_law_word","_law_found","_law_sign"] ["_law_word"] (defScope s_lred):=⟨rfl,rfl,rfl,by decide +kernel,rfl,by decide +kernel,by decide +kernel⟩
theorem c_lred (D:Df K mg "_law_reduced" s_lred)(T:Bt K w mg aB)(F_lback:Fnc P w K mg base "_law_back" ["_law_word"] 1 spBk):Fnc P w K mg base "_law_reduced" ["_law_word"] 2 spRed:=by
 have sc:=sc_lred
 refine D.ok sc (fun _ _ _ _ _ _ us hl=>by obtain ⟨_,rfl⟩:=len1 hl;rfl) (fun vs H Q E h=>?_) (fun f cdv A outer s H vs Q E hr h=>?_)
 ·obtain ⟨u,rfl,_⟩:=h
  rfl
 ·obtain ⟨u,rfl,hu,k⟩:=h
  have l16:=line16
  refine ⟨_,(@pss_cons _ _ _ _ _ (@ps_set _ _ (1) _ _ _ _ sc.nd rfl (Or.inl rfl) pe_str (by rfl) (by first | exact .inl rfl | exact .inr rfl | assumption)) (@pss_cons _ _ _ _ _ (@ps_for _ _ _ _ _ _ _ _ PassesOwn.never rfl (@pi_str _ _ _ _ (pv 0)) (@pg_name _ _ (2) _ sc.nd rfl (Or.inl rfl) (by first | exact .inl rfl | exact .inr rfl | assumption)) (@pss_one _ _ _ (@ps_if _ _ _ _ _ _ _ _ (@PW.pt _ _ _ (@pw_and _ _ _ _ _ _ _ (@pt_cmpR _ _ _ _ _ _ _ _ op_ne (pv 1) pe_str (nomark _)) (@pw_and1 _ _ _ _ (@pt_cmpR _ _ _ _ _ _ _ _ op_eq (@pe_fn _ _ _ _ _ _ _ _ _ _ _ F_lback hr (by decide) rfl (@pa_cons _ _ _ _ _ (pv 2) pa_nil (by rfl)) (by decide) (by rfl) (by rfl)) (@pe_ix _ _ _ _ _ _ _ ix_str (pv 1) (@pe_op _ _ _ _ _ _ _ _ op_sub (@pe_callB _ _ _ _ _ _ _ _ _ call_len_str (by rfl) T.len PySem.boot_len (@pa_cons _ _ _ _ _ (pv 1) pa_nil (by rfl)) (by decide) (by decide) (by rfl) (by rfl)) pe_int) (fun _ _=>rfl)) (nomark _))))) (@pss_one _ _ _ (@ps_set _ _ (1) _ _ _ _ sc.nd rfl (Or.inl rfl) (@pe_slice _ _ _ _ _ _ _ _ _ _ sl_str (pv 1) po_none (@po_some _ _ _ (@pe_op _ _ _ _ _ _ _ _ op_sub (@pe_callB _ _ _ _ _ _ _ _ _ call_len_str (by rfl) T.len PySem.boot_len (@pa_cons _ _ _ _ _ (pv 1) pa_nil (by rfl)) (by decide) (by decide) (by rfl) (by rfl)) pe_int))) (by rfl) (by first | exact .inl rfl | exact .inr rfl | assumption))) (@pss_one _ _ _ (@ps_set _ _ (1) _ _ _ _ sc.nd rfl (Or.inl rfl) (@pe_op _ _ _ _ _ _ _ _ op_add_str (pv 1) (pv 2)) (by rfl) (by first | exact .inl rfl | exact .inr rfl | assumption))))) (by intro _ ;rfl)) (@pss_one _ _ _ (@ps_ret _ _ _ _ (pv 1))))),?_⟩
  refine ⟨_,rfl,_,rfl,for_str (z:=toS u) (fun i σ H'=>∃ v,σ = [some (tx u),some (tx (act (u.take i) []).reverse),v]∧Same H H') ⟨none,rfl,Same.refl _⟩ ?_ ?_⟩
  ·rintro i c σ H1 hc ⟨v,rfl,s1⟩
   obtain ⟨x,hx,e⟩:=sign_at hc
   rw [e]
   have hi:i < u.length:=(List.getElem?_eq_some_iff.mp hx).1
   have step:act (u.take (i+1)) []=push (act (u.take i) []) x:=by rw [take_snoc hx,act_snoc]
   have long:(act (u.take i) []).length≤u.length:=by
    have:=act_length (u.take i) []
    rw [List.length_nil,List.length_take] at this
    omega
   rw [step]
   generalize act (u.take i) []=st at long
   have hst:(toS st.reverse).length≤sizeLine:=by rw [toS_length,List.length_reverse];omega
   cases st with
   | nil =>
    refine ⟨_,rfl,rfl,_,rfl,iteD (by rw [List.reverse_nil,tx_nil];simp) (iteF ?_)⟩
    refine ⟨_,rfl,_,rfl,_,_,rfl,rfl,(by rw [toS_length,toS_length];simp;omega),?_⟩
    rw [tx_app]
    exact ⟨_,rfl,s1⟩
   | cons y r =>
    rw [List.length_cons] at long
    have hl:(toS (y::r).reverse).length=r.length+1:=by rw [toS_length,List.length_reverse,List.length_cons]
    refine ⟨_,rfl,rfl,_,rfl,iteC (by rw [← tx_nil];simpa using fun e=>by have:=congrArg List.length (tx_inj e);simp at this) ?_⟩
    refine ⟨_,rfl,[x],rfl,(by show 1≤5000;decide),fun H2 s2=>?_⟩
    refine ⟨_,rfl,_,rfl,_,rfl,hst,_,_,rfl,rfl,_,_,cp y,rfl,rfl,hst,atI_toS (k:=r.length) (by rw [hl];omega) ?_,rfl,_,rfl,?_⟩
    ·rw [List.reverse_cons,List.getElem?_append_right (by rw [List.length_reverse];exact Nat.le_refl _),List.length_reverse,Nat.sub_self]
     rfl
    ·show if decide (tx (bk [x])=tx [y])=true then _ else _
     rw [dec_tx,bk_one]
     have ep:push (y::r) x=if y=inv x then r else x::y::r:=rfl
     rw [ep]
     refine ite2 (fun h=>?_) (fun h=>?_)
     ·have h:inv x=y:=by simpa using h
      rw [if_pos h.symm]
      refine ⟨_,rfl,_,rfl,_,rfl,hst,_,_,rfl,rfl,_,rfl,_,rfl,hst,?_⟩
      rw [hl,slice_toS,cut_to _ (by omega),show (((r.length+1:Nat):Int) - 1).toNat=r.length by omega,List.reverse_cons,List.take_left' (by rw [List.length_reverse])]
      exact ⟨_,rfl,s1.trans s2⟩
     ·have h:¬ inv x=y:=by simpa using h
      rw [if_neg fun e=>h e.symm]
      refine ⟨_,rfl,_,rfl,_,_,rfl,rfl,(by rw [toS_length,toS_length,List.length_reverse,List.length_cons];show r.length+1+1≤_;omega),?_⟩
      rw [tx_app,List.reverse_cons (a:=x)]
      exact ⟨_,rfl,s1.trans s2⟩
  ·rintro σ H1 ⟨v,rfl,s1⟩
   rw [toS_size,List.take_length]
   exact ⟨_,rfl,k _ s1⟩
end
end Kx
namespace Kx
open PySem PySem.Spec PyProof.Rows L2 Wd
section
variable {P:Program} {w:World} {K:PySem.W.Frag} {mg:Str→Option Value} {base:Heap} {aB:Addr}
theorem seq_by7 {t u:TS}{D:Ends}{σ:L2.St}{H:Hp}(R:L2.St→Hp→Prop)(h1:∀ nx:L2.St→Hp→Prop,(∀ σ2 H2,R σ2 H2→nx σ2 H2)→t ⟨nx,D.rt,D.bk,D.ct⟩ σ H)(h2:∀ σ2 H2,R σ2 H2→u D σ2 H2):tSeq t u D σ H:=h1 _ h2
theorem asg_go7 {nx:L2.St→Hp→Prop}{rt:VK}{bk ct:L2.St→Hp→Prop}{i:Nat}{σ:L2.St}{x:V}{H:Hp}(h:nx (σ.set i (some x)) H):tAsg_k1 (gName i) ⟨nx,rt,bk,ct⟩ σ x H:=h
inductive spMid72 (vs:List V)(H:Hp)(Q:VK)(u3_:XK):Prop
 | mk:∀ u:List L,(vs=[tx u])→(u.length≤2000)→(∀ (W:List L) (H':Hp),Cyc W→W.length≤u.length→(∀ x∈W,x∈u)→Same H H'→Q (tx W) H')→spMid72 vs H Q u3_
noncomputable abbrev s_mid:Stmt:=top 42
theorem sc_mid:FnScope ["_law_word","_law_found"] ["_law_word"] (defScope s_mid):=⟨rfl,rfl,rfl,by decide +kernel,rfl,by decide +kernel,by decide +kernel⟩
theorem c_mid (D:Df K mg "_law_middle" s_mid)(T:Bt K w mg aB)(F_lback:Fnc P w K mg base "_law_back" ["_law_word"] 1 spBk)(F_lred:Fnc P w K mg base "_law_reduced" ["_law_word"] 2 spRed):Fnc P w K mg base "_law_middle" ["_law_word"] 3 spMid72:=by
 have sc:=sc_mid
 refine D.ok sc (fun _ _ _ _ _ _ us hl=>by obtain ⟨_,rfl⟩:=len1 hl;rfl) (fun vs H Q E h=>?_) (fun f cdv A outer s H vs Q E hr h=>?_)
 ·obtain ⟨u,rfl,_⟩:=h
  rfl
 ·obtain ⟨u,rfl,hu,k⟩:=h
  have l16:=line16
  refine ⟨_,(@pss_cons _ _ _ _ _ (@ps_set _ _ (1) _ _ _ _ sc.nd rfl (Or.inl rfl) (@pe_fn _ _ _ _ _ _ _ _ _ _ _ F_lred hr (by decide) rfl (@pa_cons _ _ _ _ _ (pv 0) pa_nil (by rfl)) (by decide) (by rfl) (by rfl)) (by rfl) (by first | exact .inl rfl | exact .inr rfl | assumption)) (@pss_cons _ _ _ _ _ (@ps_while _ _ _ _ _ _ PassesOwn.never (@PW.pt _ _ _ (@pw_and _ _ _ _ _ _ _ (@pt_cmpR _ _ _ _ _ _ _ _ op_gt (@pe_callB _ _ _ _ _ _ _ _ _ call_len_str (by rfl) T.len PySem.boot_len (@pa_cons _ _ _ _ _ (pv 1) pa_nil (by rfl)) (by decide) (by decide) (by rfl) (by rfl)) pe_int (nomark _)) (@pw_and1 _ _ _ _ (@pt_cmpR _ _ _ _ _ _ _ _ op_eq (@pe_ix _ _ _ _ _ _ _ ix_str (pv 1) pe_int (fun _ _=>rfl)) (@pe_fn _ _ _ _ _ _ _ _ _ _ _ F_lback hr (by decide) rfl (@pa_cons _ _ _ _ _ (@pe_ix _ _ _ _ _ _ _ ix_str (pv 1) (@pe_op _ _ _ _ _ _ _ _ op_sub (@pe_callB _ _ _ _ _ _ _ _ _ call_len_str (by rfl) T.len PySem.boot_len (@pa_cons _ _ _ _ _ (pv 1) pa_nil (by rfl)) (by decide) (by decide) (by rfl) (by rfl)) pe_int) (fun _ _=>rfl)) pa_nil (by rfl)) (by decide) (by rfl) (by rfl)) (nomark _))))) (@pss_one _ _ _ (@ps_set _ _ (1) _ _ _ _ sc.nd rfl (Or.inl rfl) (@pe_slice _ _ _ _ _ _ _ _ _ _ sl_str (pv 1) (@po_some _ _ _ pe_int) (@po_some _ _ _ (@pe_op _ _ _ _ _ _ _ _ op_sub (@pe_callB _ _ _ _ _ _ _ _ _ call_len_str (by rfl) T.len PySem.boot_len (@pa_cons _ _ _ _ _ (pv 1) pa_nil (by rfl)) (by decide) (by decide) (by rfl) (by rfl)) pe_int))) (by rfl) (by first | exact .inl rfl | exact .inr rfl | assumption)))) (@pss_one _ _ _ (@ps_ret _ _ _ _ (pv 1))))),?_⟩
  refine ⟨_,rfl,u,rfl,by omega,fun H2 s2=>?_⟩
  have r0:=rd_red u
  have n0:=red_length u
  have j0:∀ x∈red u,x∈u:=fun x hx=>red_mem hx
  generalize red u=w0 at r0 n0 j0 ⊢
  refine asg_go7 (seq_by7 (fun σ H'=>∃ W:List L,σ = [some (tx u),some (tx W)]∧Cyc W∧W.length≤u.length∧(∀ x∈W,x∈u)∧Same H2 H') ?_ ?_)
  ·intro nx hn
   refine ⟨fun mm σ H'=>∃ W:List L,σ = [some (tx u),some (tx W)]∧Wd.Rd W∧W.length≤u.length∧(∀ x∈W,x∈u)∧Same H2 H'∧mm=W.length,⟨_,w0,rfl,r0,by omega,j0,Same.refl _,rfl⟩,?_⟩
   rintro mm σ H3 ⟨W,rfl,rW,lW,iW,s3,rfl⟩
   have hll:(toS W).length≤sizeLine:=by rw [toS_length];omega
   refine ⟨_,rfl,_,rfl,hll,_,_,rfl,rfl,_,rfl,?_⟩
   rw [toS_length]
   by_cases g1:1 < W.length
   ·refine iteC (decide_eq_true (by omega)) ?_
    obtain ⟨x,mid,y,rfl⟩:∃ x mid y,W=x::(mid++[y]):=by
     cases W with
     | nil=>simp at g1
     | cons x r =>
      have hr:r≠[]:=by
       intro e
       subst e
       simp at g1
      exact ⟨x,r.dropLast,r.getLast hr,by rw [List.dropLast_concat_getLast]⟩
    have hl2:(x::(mid++[y])).length=mid.length+2:=by simp
    have a0:atI (toS (x::(mid++[y]))).cps.toList 0=some (cp x):=atI_toS (k:=0) rfl rfl
    have al:atI (toS (x::(mid++[y]))).cps.toList (((toS (x::(mid++[y]))).length:Int) - 1)=some (cp y):=by
     rw [toS_length,hl2]
     refine atI_toS (k:=mid.length+1) (by omega) ?_
     rw [List.getElem?_cons_succ,List.getElem?_append_right (Nat.le_refl _),Nat.sub_self]
     rfl
    refine ⟨_,rfl,_,_,_,rfl,rfl,hll,a0,_,rfl,_,rfl,_,rfl,hll,_,_,rfl,rfl,_,_,_,rfl,rfl,hll,al,[y],rfl,(by show 1≤5000;decide),fun H4 s4=>?_⟩
    refine ⟨rfl,_,rfl,?_⟩
    rw [bk_one]
    by_cases hxy:x=inv y
    ·refine iteC (by rw [hxy];exact decide_eq_true rfl) ⟨_,fun σ' H' q=>q,?_⟩
     refine ⟨_,rfl,_,rfl,_,rfl,_,rfl,hll,_,_,rfl,rfl,_,rfl,_,rfl,hll,?_⟩
     have cm:Txt.slice (toS (x::(mid++[y]))) (some 1) (some (((toS (x::(mid++[y]))).length:Int) - 1))=toS mid:=by rw [slice_toS,toS_length,cut_mid]
     rw [cm]
     exact ⟨mid.length,by omega,mid,rfl,rd_mid rW,by omega,fun z hz=>iW z (List.mem_cons_of_mem _ (List.mem_append_left _ hz)),s3.trans s4,rfl⟩
    ·refine iteD (decide_eq_false fun e=>hxy (List.cons.inj (tx_inj (show tx [x]=tx [inv y] from e))).1) ?_
     exact hn _ _ ⟨_,rfl,cyc_end rW hxy,lW,iW,s3.trans s4⟩
   ·refine iteD (decide_eq_false (by omega)) (iteF ?_)
    exact hn _ _ ⟨_,rfl,cyc_few g1,lW,iW,s3⟩
  ·rintro σ H3 ⟨W,rfl,cW,lW,iW,s3⟩
   exact ⟨_,rfl,k W _ cW lW iW (s2.trans s3)⟩
end
end Kx
namespace Kx
open PySem PySem.Spec PyProof.Rows L2 Wd
section
variable {P:Program} {w:World} {K:PySem.W.Frag} {mg:Str→Option Value} {base:Heap} {aB:Addr}
inductive spWay72 (K:PySem.W.Frag)(vs:List V)(H:Hp)(Q:VK)(u3_:XK):Prop
 | mk:∀ (d l:Addr) (S:List L),(vs=[.ref d,.ref l])→Fd H d→H l=some (.lst (ones S))→1≤S.length→S.length≤12→(∀ (v:List L) (H':Hp),Rnd v→v.length≤8→(∀ x∈v,x∈S)→Fd H' d→SameB d H H'→Q (tx v) H')→spWay72 K vs H Q u3_
theorem rep_one72 (w:List L):rep 1 w=w:=rfl
noncomputable abbrev s_way:Stmt:=top 44
theorem sc_way:FnScope ["_law_feed_here","_law_signs","_law_word","_law_sizes"] ["_law_feed_here","_law_signs"] (defScope s_way):=⟨rfl,rfl,rfl,by decide +kernel,rfl,by decide +kernel,by decide +kernel⟩
theorem c_way (D:Df K mg "_law_way" s_way)(T:Bt K w mg aB)(F_draw:Fnc P w K mg base "_law_draw" ["_law_feed_here","_law_many"] 1 spDraw)(F_mid:Fnc P w K mg base "_law_middle" ["_law_word"] 3 spMid72):Fnc P w K mg base "_law_way" ["_law_feed_here","_law_signs"] 4 (spWay72 K):=by
 have sc:=sc_way
 refine D.ok sc (fun _ _ _ _ _ _ us hl=>by obtain ⟨_,_,rfl⟩:=len2 hl;rfl) (fun vs H Q E h=>?_) (fun f cdv A outer s H vs Q E hr h=>?_)
 ·obtain ⟨d,l,S,rfl,_⟩:=h
  rfl
 ·obtain ⟨d,l,S,rfl,F,hl,s1,s12,k⟩:=h
  have l16:=line16
  refine ⟨_,(@pss_cons _ _ _ _ _ (@ps_set _ _ (2) _ _ _ _ sc.nd rfl (Or.inr rfl) (@pe_fn _ _ _ _ _ _ _ _ _ _ _ F_mid hr (by decide) rfl (@pa_cons _ _ _ _ _ (@pe_bm _ _ _ _ _ _ _ _ _ _ _ _ PySem.F.plainAttrs_str PySem.F.slot_str_join PySem.F.type_str_join mt_join pe_str (@pa_cons _ _ _ _ _ (@pe_comp _ _ _ _ _ _ _ (["_law_k","_law_signs","_law_feed_here"]) (["_law_k"]) ([1,0]) _ _ _ _ (@blk_of _ _ _ _ _ _ rfl (by kernel_rfl)) rfl (@pi_range1 _ _ _ _ _ _ rfl T.range (@pa_cons _ _ _ _ _ (@pe_op _ _ _ _ _ _ _ _ op_add pe_int (@pe_fn _ _ _ _ _ _ _ _ _ _ _ F_draw hr (by decide) rfl (@pa_cons _ _ _ _ _ (pv 0) (@pa_cons _ _ _ _ _ pe_int pa_nil (by rfl)) (by rfl)) (by decide) (by rfl) (by rfl))) pa_nil (by rfl)) (by rfl)) (fun _ _ _ _=>@pg_name _ _ (0) _ (show (["_law_k","_law_signs","_law_feed_here"]:List Str).Nodup from by decide +kernel) rfl (Or.inl rfl) (by first | exact .inl rfl | exact .inr rfl | assumption)) (fun _ _ _ _=>pifs_nil) (fun _ _ _ _=>by (exact (@pe_ix _ _ _ _ _ _ _ (@ix_listK _ (K) rfl) (pv 1) (@pe_fn _ _ _ _ _ _ _ _ _ _ _ F_draw hr (by decide) rfl (@pa_cons _ _ _ _ _ (pv 2) (@pa_cons _ _ _ _ _ (@pe_callB _ _ _ _ _ _ _ _ _ (@call_len_seqK _ (K) rfl) (by rfl) T.len PySem.boot_len (@pa_cons _ _ _ _ _ (pv 1) pa_nil (by rfl)) (by decide) (by decide) (by rfl) (by rfl)) pa_nil (by rfl)) (by rfl)) (by decide) (by rfl) (by rfl)) (fun _ _=>rfl)))) (by intro _ ;rfl)) pa_nil (by rfl)) (by rfl) (by rfl) (by rfl) (by rfl) (by rfl)) pa_nil (by rfl)) (by decide) (by rfl) (by rfl)) (by rfl) (by first | exact .inl rfl | exact .inr rfl | assumption)) (@pss_cons _ _ _ _ _ (@ps_setC _ (3) _ _ _ _ _ _ _ _ _ (["_law_k","_law_word"]) (["_law_k"]) ([2]) _ _ _ _ sc.nd rfl (Or.inl rfl) (@blk_of _ _ _ _ _ _ rfl (by kernel_rfl)) rfl (@pi_range2 _ _ _ _ _ _ _ rfl T.range (@pa_cons _ _ _ _ _ pe_int (@pa_cons _ _ _ _ _ (@pe_op _ _ _ _ _ _ _ _ op_add (@pe_callB _ _ _ _ _ _ _ _ _ call_len_str (by rfl) T.len PySem.boot_len (@pa_cons _ _ _ _ _ (pv 2) pa_nil (by rfl)) (by decide) (by decide) (by rfl) (by rfl)) pe_int) pa_nil (by rfl)) (by rfl)) (by rfl) (by rfl)) (fun _ _ _ _=>@pg_name _ _ (0) _ (show (["_law_k","_law_word"]:List Str).Nodup from by decide +kernel) rfl (Or.inl rfl) (by first | exact .inl rfl | exact .inr rfl | assumption)) (fun _ _ _ _=>(@pifs_one _ _ _ (by exact (@pt_cmpR _ _ _ _ _ _ _ _ op_eq (@pe_op _ _ _ _ _ _ _ _ op_mul_str (@pe_slice _ _ _ _ _ _ _ _ _ _ sl_str (pv 1) po_none (@po_some _ _ _ (pv 0))) (@pe_op _ _ _ _ _ _ _ _ op_fdiv (@pe_callB _ _ _ _ _ _ _ _ _ call_len_str (by rfl) T.len PySem.boot_len (@pa_cons _ _ _ _ _ (pv 1) pa_nil (by rfl)) (by decide) (by decide) (by rfl) (by rfl)) (pv 0))) (pv 1) (nomark _))))) (fun _ _ _ _=>by (exact (pv 0))) (by intro _ ;rfl) (by rfl) (by first | exact .inl rfl | exact .inr rfl | assumption)) (@pss_one _ _ _ (@ps_ret _ _ _ _ (@pe_ifExp _ _ _ _ _ _ _ _ (@pt_cmpR _ _ _ _ _ _ _ _ (@op_ne_nil _ (by exact hr.units)) (pv 3) (@pe_lst _ _ _ _ pa_nil) (nomark _)) (@pe_slice _ _ _ _ _ _ _ _ _ _ sl_str (pv 2) po_none (@po_some _ _ _ (@pe_ix _ _ _ _ _ _ _ ix_list (pv 3) pe_int (fun _ _=>rfl)))) (@pe_ix _ _ _ _ _ _ _ ix_list (pv 1) pe_int (fun _ _=>rfl))))))),?_⟩
  refine ⟨rfl,_,rfl,d,_,rfl,F,by decide,by decide,fun r H1 r0 r1 F1 sb1=>?_⟩
  refine ⟨_,_,rfl,rfl,_,rfl,by omega,by omega,?_⟩
  refine comp_by (own:=["_law_k"]) (cap:=[1,0]) (J:=Itr 0 (1+r).toNat) (1+r).toNat (fun i ys σ H'=>∃ (v:Option V) (W:List L),σ = [v,some (.ref l),some (.ref d)]∧ys=ones W∧W.length=i∧(∀ x∈W,x∈S)∧Fd H' d∧SameB d H H') ⟨none,[],rfl,rfl,rfl,(fun x hx=>by cases hx),F1,sb1⟩ (fun i ys σ H' hi ⟨v,W,_,e,e2,_⟩=>by rw [e,ones_length,e2];exact Nat.le_refl _) (by omega) (fun i ys σ H' hi _=>hi) (fun ys σ H' _=>Nat.le_refl _) ?_ ?_
  ·rintro i ys σ H2 x H3 N' hi ⟨v,W,rfl,rfl,hW,hI,F2,sb2⟩ ⟨rfl,rfl⟩ hN
   have h2:=sb2 _ _ (F.nl hl) hl
   refine ⟨_,rfl,_,rfl,_,rfl,l,_,rfl,.inl (SqL.of h2),d,_,rfl,F2,by rw [ones_length];omega,by rw [ones_length];omega,fun q H4 q0 q1 F4 sb4=>?_⟩
   rw [ones_length] at q1
   obtain ⟨qn,rfl⟩:=Int.eq_ofNat_of_zero_le q0
   have hq:qn < S.length:=by omega
   refine ⟨l,_,_,tx [S[qn]],rfl,rfl,SqL.of (sb4 _ _ (F.nl hl) h2),?_,hN _ _ _ ⟨_,W++[S[qn]],rfl,ones_snoc _ _,by rw [List.length_append,hW];rfl,fun x hx=>?_,F4,fun b o n e=>sb4 _ _ n (sb2 _ _ n e)⟩⟩
   ·refine atI_nat ?_
    unfold ones
    rw [List.getElem?_map,List.getElem?_eq_getElem (by omega)]
    rfl
   ·rcases List.mem_append.mp hx with h | h
    ·exact hI x h
    ·rw [List.mem_singleton.mp h];exact List.getElem_mem hq
  rintro ys σ H2 lj ⟨v,W0,rfl,rfl,hW0,hI0,F2,sb2⟩ hlj
  have w8:W0.length≤8:=by omega
  refine ⟨_,lj,W0.map fun x=>toS [x],rfl,rfl,SqL.of (by rw [upd_same,ones_str]),join_room _ (by omega),?_⟩
  rw [join_ones]
  refine ⟨W0,rfl,by omega,fun W H3 cW lW iW s3=>?_⟩
  have iS:∀ x∈W,x∈S:=fun x hx=>hI0 x (iW x hx)
  have F4:=(F2.new (o:=.lst (ones W0)) hlj).same s3
  have sb4:SameB d H H3:=fun b o n e=>s3 _ _ (Same.new hlj _ _ (sb2 _ _ n e))
  have hll:(toS W).length≤sizeLine:=by rw [toS_length];omega
  have h3:=sb4 _ _ (F.nl hl) hl
  refine ⟨_,rfl,_,rfl,hll,_,_,rfl,rfl,_,_,rfl,?_,?_⟩
  ·rw [toS_length]
   omega
  rw [toS_length,show ((W.length:Int)+1 - 1).toNat=W.length by omega]
  by_cases w0:W=[]
  ·subst w0
   refine comp_by (own:=["_law_k"]) (cap:=[2]) (J:=Itr 1 0) 0 (fun i ys σ H'=>ys=[]∧H'=H3) ⟨rfl,rfl⟩ (fun i ys σ H' _ ⟨e,_⟩=>by rw [e];exact Nat.zero_le _) (by omega) (fun i ys σ H' hi _=>hi) (fun ys σ H' _=>Nat.le_refl _) (fun i ys σ H x H' N hi=>absurd hi (by omega)) ?_
   rintro ys σ H5 p ⟨rfl,rfl⟩ hp
   have f6:(upd H5 p (.lst [])) p=some (.lst []):=upd_same
   have s6:Same H5 (upd H5 p (.lst [])):=Same.new hp
   generalize upd H5 p (.lst [])=H6 at f6 s6 ⊢
   refine ⟨_,rfl,(by show 0≤sizeLine;omega),fun l9 hl9=>⟨p,l9,_,rfl,rfl,Same.new hl9 _ _ f6,upd_same,_,rfl,ifkF ?_⟩⟩
   have s7:=s6.then (o:=.lst []) hl9
   have hs0:(ones S)[0]? = some (tx [S[0]]):=by
    unfold ones
    rw [List.getElem?_map,List.getElem?_eq_getElem (by omega)]
    rfl
   refine ⟨_,rfl,l,_,_,_,rfl,rfl,SqL.of (s7 _ _ h3),atI_nat (j:=0) hs0,?_⟩
   exact k [S[0]] _ (rnd_one _) (by show 1≤8;decide) (fun x hx=>by rw [List.mem_singleton.mp hx];exact List.getElem_mem (by omega)) (F4.same s7) (fun b o n e=>s7 _ _ (sb4 _ _ n e))
  have pW:0 < W.length:=List.length_pos_iff.mpr w0
  refine comp_by (own:=["_law_k"]) (cap:=[2]) (J:=Itr 1 W.length) W.length (fun i ys σ H'=>∃ (v:Option V) (zs:List Nat),σ = [v,some (tx W)]∧ys=zs.map (fun z:Nat=>V.int (z:Int))∧zs.length≤i∧(∀ z∈zs,1≤z∧z≤W.length∧rep (W.length / z) (W.take z)=W)∧(W.length≤i→zs≠[])∧H'=H3)
   ⟨none,[],rfl,rfl,Nat.le_refl _,(fun z hz=>by cases hz),(fun h=>absurd h (by omega)),rfl⟩ (fun i ys σ H' hi ⟨_,zs,_,e,e2,_⟩=>by rw [e,List.length_map];exact e2) (by omega) (fun i ys σ H' hi _=>hi) (fun ys σ H' _=>Nat.le_refl _) ?_ ?_
  ·rintro i ys σ H5 x H6 N hi ⟨v,zs,rfl,rfl,hz,gz,nz,rfl⟩ ⟨rfl,rfl⟩ hN
   have e1:(1:Int)+(i:Int)=((i+1:Nat):Int):=by omega
   rw [e1]
   have c1:Txt.slice (toS W) none (some ((i+1:Nat):Int))=toS (W.take (i+1)):=by rw [slice_toS,cut_to _ (by omega)];rfl
   have dv:((toS W).length:Int) / ((i+1:Nat):Int)=((W.length / (i+1):Nat):Int):=by rw [toS_length];rfl
   have db:W.length / (i+1)≤W.length:=Nat.div_le_self _ _
   refine ⟨_,rfl,_,rfl,_,rfl,_,rfl,hll,?_⟩
   rw [c1]
   refine ⟨_,rfl,_,rfl,hll,_,rfl,_,_,rfl,rfl,⟨by omega,by omega⟩,?_⟩
   refine ⟨_,((W.length / (i+1):Nat):Int),rfl,congrArg V.int dv,mulOk_toS _ (Int.le_trans (by decide) (Int.natCast_nonneg _)) (Int.ofNat_le.mpr (show W.length / (i+1)≤1000 by omega)) (by rw [List.length_take];omega),?_⟩
   rw [rep_toS,Int.toNat_natCast]
   refine ⟨_,rfl,rfl,_,rfl,?_⟩
   by_cases he:rep (W.length / (i+1)) (W.take (i+1))=W
   ·refine iteC (by rw [he];exact decide_eq_true rfl) ⟨_,rfl,?_⟩
    refine hN _ _ _ ⟨_,zs++[i+1],rfl,by rw [List.map_append];rfl,by rw [List.length_append];show _+1≤_;omega,fun z hz=>?_,fun _=>by simp,rfl⟩
    rcases List.mem_append.mp hz with hz | hz
    ·exact gz z hz
    ·rw [List.mem_singleton.mp hz];exact ⟨by omega,by omega,he⟩
   ·refine iteD (decide_eq_false fun e=>he (tx_inj e)) (hN _ _ _ ⟨_,zs,rfl,rfl,by omega,gz,fun h=>?_,rfl⟩)
    exfalso
    apply he
    have:i+1=W.length:=by omega
    rw [this,Nat.div_self pW,List.take_length]
    exact rep_one72 W
  ·rintro ys σ H5 p ⟨v,zs,rfl,rfl,hz,gz,nz,rfl⟩ hp
   obtain ⟨z,r,rfl⟩:∃ z r,zs=z::r:=by
    cases zs with
    | nil=>exact absurd rfl (nz (Nat.le_refl _))
    | cons z r=>exact ⟨z,r,rfl⟩
   obtain ⟨z1,z2,z3⟩:=gz z List.mem_cons_self
   have c1:Txt.slice (toS W) none (some (z:Int))=toS (W.take z):=by rw [slice_toS,cut_to _ (by omega),Int.toNat_natCast]
   have f6:(upd H5 p (.lst ((z::r).map (fun z:Nat=>V.int (z:Int))))) p=some (.lst (V.int (z:Int)::r.map (fun z:Nat=>V.int (z:Int)))):=upd_same
   have s6:Same H5 (upd H5 p (.lst ((z::r).map (fun z:Nat=>V.int (z:Int))))):=Same.new hp
   generalize upd H5 p (.lst ((z::r).map (fun z:Nat=>V.int (z:Int))))=H6 at f6 s6 ⊢
   refine ⟨_,rfl,(by show 0≤sizeLine;omega),fun l9 hl9=>⟨p,l9,_,rfl,rfl,Same.new hl9 _ _ f6,upd_same,_,rfl,ifkT ?_⟩⟩
   have s7:=s6.then (o:=.lst []) hl9
   refine ⟨_,rfl,_,rfl,p,_,_,_,rfl,rfl,SqL.of (Same.new hl9 _ _ f6),atI_nat (j:=0) rfl,_,rfl,_,rfl,hll,?_⟩
   rw [c1]
   have cy:Cyc (W.take z):=cyc_rep (n:=W.length / z) (by rw [z3];exact cW) (by rw [z3];exact w0)
   exact k _ _ (cy.rnd (List.length_pos_iff.mp (by rw [List.length_take];omega))) (by rw [List.length_take];omega) (fun x hx=>iS x (List.mem_of_mem_take hx)) (F4.same s7) (fun b o n e=>s7 _ _ (sb4 _ _ n e))
end
end Kx
namespace Kx
open PySem PySem.Spec PyProof.Rows L2 Wd
section
variable {P:Program} {w:World} {K:PySem.W.Frag} {mg:Str→Option Value} {base:Heap} {aB:Addr}
theorem find_at72 {u:List L}{x:L}(h:x∈u):Txt.find (toS u) (toS [x])=(u.idxOf x:Int):=by
 obtain ⟨rest,e⟩:=idx_at h
 unfold Txt.find
 rw [e]
inductive spHR72 (N n:Nat)(vs:List V)(H:Hp)(Q:VK)(E:XK):Prop
 | mk:∀ (u:List L) (m:Nat) (x:L) (t:Tok),(vs=[tx u,.tks (toS [x]) t])→(0 < N)→(N≤n)→(0 < t)→(t < n)→(SK u m)→(2≤m)→(x.val < m)→(∀ H',Same H H'→Q (.bl true) H')→spHR72 N n vs H Q E
noncomputable abbrev s_hright:Stmt:=top 45
theorem sc_hright:FnScope ["_law_row","_law_letter","_law_before","_law_after","_law_place","_law_other","_law_due","_law_ends","_law_first"] ["_law_row","_law_letter"] (defScope s_hright):=⟨rfl,rfl,rfl,by decide +kernel,rfl,by decide +kernel,by decide +kernel⟩
theorem c_hright {N:Nat}{CB CS:Addr}(D:Df K mg "_law_holes_right" s_hright)(T:Bt K w mg aB)(F_holes:Fnc P w K mg base "holes" ["surface"] 3 spHoles)(F_handles:Fnc P w K mg base "handles" ["surface"] 4 spHandles)(F_cut:FncT P w K mg base "cut" ["surface","letter"] 4 (spCutX CB N))(F_glued:FncX P w K mg base "glued" ["surface","place","other"] 3 (spGlued CB CS)):FncT P w K mg base "_law_holes_right" ["_law_row","_law_letter"] 5 (spHR72 N):=by
 have sc:=sc_hright
 refine D.okT sc (fun _ _ _ _ _ _ us hl=>by obtain ⟨_,_,rfl⟩:=len2 hl;rfl) (fun n vs H Q E h=>?_) (fun f cdv A outer s H vs Q E hr h=>?_)
 ·obtain ⟨u,m,x,t,rfl,_⟩:=h
  rfl
 ·obtain ⟨u,m,x,t,rfl,hN0,hN,t0,tn,U,m2,hx,k⟩:=h
  have l16:=line16
  have hlu:=U.len
  have h6:=U.hi
  have lu:=toS_length u
  refine ⟨_,(@pss_cons _ _ _ _ _ (@ps_set _ _ (2) _ _ _ _ sc.nd rfl (Or.inr rfl) (@pe_fn _ _ _ _ _ _ _ _ _ _ _ F_holes hr (by decide) rfl (@pa_cons _ _ _ _ _ (pv 0) pa_nil (by rfl)) (by decide) (by rfl) (by rfl)) (by rfl) (by first | exact .inl rfl | exact .inr rfl | assumption)) (@pss_cons _ _ _ _ _ (@ps_set _ _ (3) _ _ _ _ sc.nd rfl (Or.inl rfl) (@pe_fnT _ _ _ _ _ _ _ _ _ _ _ _ F_cut hr (by decide) passes_def rfl (@pa_cons _ _ _ _ _ (pv 0) (@pa_cons _ _ _ _ _ (pv 1) pa_nil (by rfl)) (by rfl)) (by decide) (by rfl) (by rfl)) (by rfl) (by first | exact .inl rfl | exact .inr rfl | assumption)) (@pss_cons _ _ _ _ _ (@ps_setC _ (4) _ _ _ _ _ _ _ _ _ (["_law_k","_law_letter","_law_before"]) (["_law_k"]) ([1,2]) _ _ _ _ sc.nd rfl (Or.inl rfl) (@blk_of _ _ _ _ _ _ rfl (by kernel_rfl)) rfl (@pi_range1 _ _ _ _ _ _ rfl T.range (@pa_cons _ _ _ _ _ (@pe_callB _ _ _ _ _ _ _ _ _ call_len_seq (by rfl) T.len PySem.boot_len (@pa_cons _ _ _ _ _ (pv 2) pa_nil (by rfl)) (by decide) (by decide) (by rfl) (by rfl)) pa_nil (by rfl)) (by rfl)) (fun _ _ _ _=>@pg_name _ _ (0) _ (show (["_law_k","_law_letter","_law_before"]:List Str).Nodup from by decide +kernel) rfl (Or.inl rfl) (by first | exact .inl rfl | exact .inr rfl | assumption)) (fun _ _ _ _=>(@pifs_one _ _ _ (by exact (@pt_cmpR _ _ _ _ _ _ _ _ op_in_str (@pe_wk _ _ _ (pv 1)) (@pe_ix _ _ _ _ _ _ _ (@ix_listK _ (K) rfl) (pv 2) (pv 0) (fun _ _=>rfl)) rfl)))) (fun _ _ _ _=>by (exact (pv 0))) (by intro _ ;rfl) (by rfl) (by first | exact .inl rfl | exact .inr rfl | assumption)) (@pss_cons _ _ _ _ _ (@ps_setC _ (5) _ _ _ _ _ _ _ _ _ (["_law_k","_law_before","_law_letter"]) (["_law_k"]) ([2,1]) _ _ _ _ sc.nd rfl (Or.inl rfl) (@blk_of _ _ _ _ _ _ rfl (by kernel_rfl)) rfl (@pi_range1 _ _ _ _ _ _ rfl T.range (@pa_cons _ _ _ _ _ (@pe_callB _ _ _ _ _ _ _ _ _ call_len_seq (by rfl) T.len PySem.boot_len (@pa_cons _ _ _ _ _ (pv 2) pa_nil (by rfl)) (by decide) (by decide) (by rfl) (by rfl)) pa_nil (by rfl)) (by rfl)) (fun _ _ _ _=>@pg_name _ _ (0) _ (show (["_law_k","_law_before","_law_letter"]:List Str).Nodup from by decide +kernel) rfl (Or.inl rfl) (by first | exact .inl rfl | exact .inr rfl | assumption)) (fun _ _ _ _=>(@pifs_one _ _ _ (by exact (@pt_cmpR _ _ _ _ _ _ _ _ op_in_str (@pe_bm0K _ _ _ _ _ _ _ _ _ (K) rfl PySem.F.plainAttrs_str PySem.F.slot_str_upper PySem.F.type_str_upper mt_upper (@pe_wk _ _ _ (pv 2)) (by rfl) (by rfl)) (@pe_ix _ _ _ _ _ _ _ (@ix_listK _ (K) rfl) (pv 1) (pv 0) (fun _ _=>rfl)) rfl)))) (fun _ _ _ _=>by (exact (pv 0))) (by intro _ ;rfl) (by rfl) (by first | exact .inl rfl | exact .inr rfl | assumption)) (@pss_cons _ _ _ _ _ (@ps_if _ _ _ _ _ _ _ _ (@PW.pt _ _ _ (@pw_or _ _ _ _ _ _ _ (@pt_cmpR _ _ _ _ _ _ _ _ op_ne (@pe_callB _ _ _ _ _ _ _ _ _ call_len_seq (by rfl) T.len PySem.boot_len (@pa_cons _ _ _ _ _ (pv 4) pa_nil (by rfl)) (by decide) (by decide) (by rfl) (by rfl)) pe_int (nomark _)) (@pw_or1 _ _ _ _ (@pt_cmpR _ _ _ _ _ _ _ _ op_ne (@pe_callB _ _ _ _ _ _ _ _ _ call_len_seq (by rfl) T.len PySem.boot_len (@pa_cons _ _ _ _ _ (pv 5) pa_nil (by rfl)) (by decide) (by decide) (by rfl) (by rfl)) pe_int (nomark _))))) (@pss_one _ _ _ (@ps_ret _ _ _ _ pe_bl)) pss_nil) (@pss_cons _ _ _ _ _ (@ps_set _ _ (6) _ _ _ _ sc.nd rfl (Or.inl rfl) (@pe_op _ _ _ _ _ _ _ _ op_add (@pe_callB _ _ _ _ _ _ _ _ _ call_len_seq (by rfl) T.len PySem.boot_len (@pa_cons _ _ _ _ _ (pv 2) pa_nil (by rfl)) (by decide) (by decide) (by rfl) (by rfl)) (@pe_ix _ _ _ _ _ _ _ ix_list (@pe_lst _ _ _ _ (@pa_cons _ _ _ _ _ (@pe_un _ _ _ _ _ _ un_neg pe_int) (@pa_cons _ _ _ _ _ pe_int pa_nil (by rfl)) (by rfl))) (@pe_callTy _ _ _ _ _ _ _ _ _ call_int1 (by rfl) T.int b_int (@pa_cons _ _ _ _ _ (@pe_cmpR _ _ _ _ _ _ _ _ (@op_eq_dat _ (by exact hr.units)) (pv 4) (pv 5) (nomark _)) pa_nil (by rfl)) (by decide) (by decide) (by rfl) (by rfl)) (fun _ _=>rfl))) (by rfl) (by first | exact .inl rfl | exact .inr rfl | assumption)) (@pss_cons _ _ _ _ _ (@ps_if _ _ _ _ _ _ _ _ (@PW.pt _ _ _ (@pw_or _ _ _ _ _ _ _ (@pt_cmpR _ _ _ _ _ _ _ _ op_ne (@pe_callB _ _ _ _ _ _ _ _ _ call_len_seq (by rfl) T.len PySem.boot_len (@pa_cons _ _ _ _ _ (@pe_fn _ _ _ _ _ _ _ _ _ _ _ F_holes hr (by decide) rfl (@pa_cons _ _ _ _ _ (pv 3) pa_nil (by rfl)) (by decide) (by rfl) (by rfl)) pa_nil (by rfl)) (by decide) (by decide) (by rfl) (by rfl)) (pv 6) (nomark _)) (@pw_or1 _ _ _ _ (@pt_cmpR _ _ _ _ _ _ _ _ op_ne (@pe_op _ _ _ _ _ _ _ _ op_mul pe_int (@pe_fn _ _ _ _ _ _ _ _ _ _ _ F_handles hr (by decide) rfl (@pa_cons _ _ _ _ _ (pv 3) pa_nil (by rfl)) (by decide) (by rfl) (by rfl))) (@pe_op _ _ _ _ _ _ _ _ op_sub (@pe_op _ _ _ _ _ _ _ _ op_add (@pe_op _ _ _ _ _ _ _ _ op_fdiv (@pe_callB _ _ _ _ _ _ _ _ _ call_len_str (by rfl) T.len PySem.boot_len (@pa_cons _ _ _ _ _ (pv 3) pa_nil (by rfl)) (by decide) (by decide) (by rfl) (by rfl)) pe_int) pe_int) (pv 6)) (nomark _))))) (@pss_one _ _ _ (@ps_ret _ _ _ _ pe_bl)) pss_nil) (@pss_cons _ _ _ _ _ (@ps_set _ _ (7) _ _ _ _ sc.nd rfl (Or.inl rfl) (@pe_lst _ _ _ _ (@pa_cons _ _ _ _ _ (@pe_bm _ _ _ _ _ _ _ _ _ _ _ _ PySem.F.plainAttrs_str PySem.F.slot_str_find PySem.F.type_str_find mt_find1 (pv 0) (@pa_cons _ _ _ _ _ (@pe_wk _ _ _ (pv 1)) pa_nil (by rfl)) (by rfl) (by rfl) (by rfl) (by rfl) (by rfl)) (@pa_cons _ _ _ _ _ (@pe_bm _ _ _ _ _ _ _ _ _ _ _ _ PySem.F.plainAttrs_str PySem.F.slot_str_find PySem.F.type_str_find mt_find1 (pv 0) (@pa_cons _ _ _ _ _ (@pe_bm0 _ _ _ _ _ _ _ _ _ PySem.F.plainAttrs_str PySem.F.slot_str_upper PySem.F.type_str_upper mt_upper (@pe_wk _ _ _ (pv 1)) (by rfl) (by rfl)) pa_nil (by rfl)) (by rfl) (by rfl) (by rfl) (by rfl) (by rfl)) pa_nil (by rfl)) (by rfl))) (by rfl) (by first | exact .inl rfl | exact .inr rfl | assumption)) (@pss_cons _ _ _ _ _ (@ps_set _ _ (8) _ _ _ _ sc.nd rfl (Or.inl rfl) (@pe_op _ _ _ _ _ _ _ _ op_sub (@pe_ix _ _ _ _ _ _ _ ix_list (pv 7) pe_int (fun _ _=>rfl)) (@pe_callTy _ _ _ _ _ _ _ _ _ call_int1 (by rfl) T.int b_int (@pa_cons _ _ _ _ _ (@pe_cmpR _ _ _ _ _ _ _ _ op_lt (@pe_ix _ _ _ _ _ _ _ ix_list (pv 7) pe_int (fun _ _=>rfl)) (@pe_ix _ _ _ _ _ _ _ ix_list (pv 7) pe_int (fun _ _=>rfl)) (nomark _)) pa_nil (by rfl)) (by decide) (by decide) (by rfl) (by rfl))) (by rfl) (by first | exact .inl rfl | exact .inr rfl | assumption)) (@pss_one _ _ _ (@ps_ret _ _ _ _ (@pe_cmpR _ _ _ _ _ _ _ _ op_eq (@pe_callB _ _ _ _ _ _ _ _ _ call_len_seq (by rfl) T.len PySem.boot_len (@pa_cons _ _ _ _ _ (@pe_fn _ _ _ _ _ _ _ _ _ _ _ F_holes hr (by decide) rfl (@pa_cons _ _ _ _ _ (@pe_fnX _ _ _ _ _ _ _ _ _ _ _ _ F_glued hr (by decide) passes_def rfl (@pa_cons _ _ _ _ _ (pv 3) (@pa_cons _ _ _ _ _ (pv 8) (@pa_cons _ _ _ _ _ (@pe_ix _ _ _ _ _ _ _ ix_list (pv 7) pe_int (fun _ _=>rfl)) pa_nil (by rfl)) (by rfl)) (by rfl)) (by decide) (by rfl) (by rfl)) pa_nil (by rfl)) (by decide) (by rfl) (by rfl)) pa_nil (by rfl)) (by decide) (by decide) (by rfl) (by rfl)) (@pe_callB _ _ _ _ _ _ _ _ _ call_len_seq (by rfl) T.len PySem.boot_len (@pa_cons _ _ _ _ _ (pv 2) pa_nil (by rfl)) (by decide) (by decide) (by rfl) (by rfl)) (nomark _))))))))))))),?_⟩
  have hL:=hol_len u u.length
  have hL2:(hol u).length≤u.length:=hL
  have hx6:x.val < 6:=by omega
  have mx:x∈u:=(U.mem x).mpr (by rw [Nat.mod_eq_of_lt hx6];exact hx)
  obtain ⟨p,hpl,hp⟩:=hol_has U.srf mx
  obtain ⟨q,hql,hq⟩:=hol_has U.srf (U.srf.iv x mx)
  refine ⟨_,rfl,u,rfl,U.srf,fun lb H1 nlb f1 s1=>?_⟩
  refine ⟨_,rfl,_,rfl,fun n1 hn1=>⟨u,toS [x],_,rfl,rfl,Nat.le_trans hN hn1,by omega,by omega,(by rw [toS_length];show 1≤100;decide),fun y h1 h2 h3 h4=>⟨⟨t,rfl,t0,Nat.lt_of_lt_of_le tn hn1⟩,fun H2 s2=>?_⟩,fun hc=>?_⟩⟩
  rotate_left
  ·exact (hc.elim (fun z=>by omega) fun z=>z x (by omega) hx6 rfl).elim
  obtain rfl:x=y:=by
   have:=toS_inj h4
   simpa using this
  have f2:=s2 _ _ f1
  have s02:=s1.trans s2
  have bits:∀ {i r:Nat},i < (hol u).length→(if r < i then [V.int (r:Int)] else [])++(if i=r then [V.int (i:Int)] else [])=(if r < i+1 then [V.int (r:Int)] else []):=fun {i r} hi=>by
   by_cases h:r < i
   ·rw [if_pos h,if_neg (by omega),if_pos (by omega)];rfl
   ·by_cases e:i=r
    ·subst e;rw [if_neg h,if_pos rfl,if_pos (by omega)];rfl
    ·rw [if_neg h,if_neg e,if_neg (by omega)];rfl
  have hol_at:∀ {i:Nat},i < (hol u).length→∃ w,(hol u)[i]? = some w∧atI ((hol u).map tx) (0+(i:Int))=some (tx w)∧w.length≤12:=fun {i} hi=>⟨(hol u)[i],List.getElem?_eq_getElem hi,by rw [Int.zero_add];exact atI_nat (by rw [List.getElem?_map,List.getElem?_eq_getElem hi];rfl),(hol_le U.srf (List.getElem_mem hi)).2⟩
  refine ⟨_,rfl,lb,_,rfl,.inl (SqL.of f2),_,rfl,by rw [List.length_map];omega,by rw [List.length_map];omega,?_⟩
  rw [List.length_map,Int.toNat_natCast]
  refine comp_by (own:=["_law_k"]) (cap:=[1,2]) (J:=Itr 0 (hol u).length) (hol u).length (fun i ys σ H'=>∃ v:Option V,σ = [v,some (.tks (toS [x]) t),some (.ref lb)]∧ys=(if p < i then [V.int (p:Int)] else [])∧H'=H2) ⟨none,rfl,(by rw [if_neg (Nat.not_lt_zero _)]),rfl⟩ (fun i ys σ H' _ ⟨_,_,e,_⟩=>by
   rw [e];split
   ·show 1≤i;omega
   ·exact Nat.zero_le _) (by omega) (fun i ys σ H' hi _=>hi) (fun ys σ H' _=>Nat.le_refl _) ?_ ?_
  ·rintro i ys σ H5 z H6 N' hi ⟨v,rfl,rfl,rfl⟩ ⟨rfl,rfl⟩ hN'
   obtain ⟨w,hw,aw,lw⟩:=hol_at hi
   refine ⟨_,rfl,_,rfl,_,rfl,?_⟩
   refine ⟨lb,_,_,tx w,rfl,rfl,SqL.of f2,aw,_,_,rfl,rfl,?_⟩
   rw [in_toS]
   by_cases e:i=p
   ·rw [decide_eq_true ((hp i w hw).mpr e)]
    refine ⟨true,rfl,iteT ⟨_,rfl,hN' _ _ _ ⟨_,rfl,?_,rfl⟩⟩⟩
    rw [← bits hi,if_pos e,Int.zero_add]
   ·rw [decide_eq_false fun c=>e ((hp i w hw).mp c)]
    refine ⟨false,rfl,iteF (hN' _ _ _ ⟨_,rfl,?_,rfl⟩)⟩
    rw [← bits hi,if_neg e,List.append_nil]
  rintro ys σ H5 lp ⟨v,rfl,rfl,rfl⟩ nlp
  rw [if_pos hpl]
  have s3:Same H5 (upd H5 lp (.lst [V.int (p:Int)])):=Same.new nlp
  have f3:(upd H5 lp (.lst [V.int (p:Int)])) lp=some (.lst ([(p:Int)].map V.int)):=upd_same
  generalize upd H5 lp (.lst [V.int (p:Int)])=H3 at s3 f3 ⊢
  have f23:=s3 _ _ f2
  refine ⟨_,rfl,lb,_,rfl,.inl (SqL.of f23),_,rfl,by rw [List.length_map];omega,by rw [List.length_map];omega,?_⟩
  rw [List.length_map,Int.toNat_natCast]
  refine comp_by (own:=["_law_k"]) (cap:=[2,1]) (J:=Itr 0 (hol u).length) (hol u).length (fun i ys σ H'=>∃ v:Option V,σ = [v,some (.ref lb),some (.tks (toS [x]) t)]∧ys=(if q < i then [V.int (q:Int)] else [])∧H'=H3) ⟨none,rfl,(by rw [if_neg (Nat.not_lt_zero _)]),rfl⟩ (fun i ys σ H' _ ⟨_,_,e,_⟩=>by
   rw [e];split
   ·show 1≤i;omega
   ·exact Nat.zero_le _) (by omega) (fun i ys σ H' hi _=>hi) (fun ys σ H' _=>Nat.le_refl _) ?_ ?_
  ·rintro i ys σ H5 z H6 N' hi ⟨v,rfl,rfl,rfl⟩ ⟨rfl,rfl⟩ hN'
   obtain ⟨w,hw,aw,lw⟩:=hol_at hi
   refine ⟨_,rfl,rfl,_,rfl,rfl,(by rw [toS_length];show 1≤5592405;decide),?_⟩
   rw [upper_one hx6]
   refine ⟨_,rfl,_,rfl,?_⟩
   refine ⟨lb,_,_,tx w,rfl,rfl,SqL.of f23,aw,_,_,rfl,rfl,?_⟩
   rw [in_toS]
   by_cases e:i=q
   ·rw [decide_eq_true ((hq i w hw).mpr e)]
    refine ⟨true,rfl,iteT ⟨_,rfl,hN' _ _ _ ⟨_,rfl,?_,rfl⟩⟩⟩
    rw [← bits hi,if_pos e,Int.zero_add]
   ·rw [decide_eq_false fun c=>e ((hq i w hw).mp c)]
    refine ⟨false,rfl,iteF (hN' _ _ _ ⟨_,rfl,?_,rfl⟩)⟩
    rw [← bits hi,if_neg e,List.append_nil]
  rintro ys σ H5 lq ⟨v,rfl,rfl,rfl⟩ nlq
  rw [if_pos hql]
  have s4:Same H5 (upd H5 lq (.lst [V.int (q:Int)])):=Same.new nlq
  have f4:(upd H5 lq (.lst [V.int (q:Int)])) lq=some (.lst ([(q:Int)].map V.int)):=upd_same
  generalize upd H5 lq (.lst [V.int (q:Int)])=H4 at s4 f4 ⊢
  have f34:=s4 _ _ f3
  have f24:=s4 _ _ f23
  have one:∀ r:Nat,(!decide (V.int ((([(r:Int)].map V.int).length:Nat):Int)=V.int 1))=false:=fun r=>by
   rw [decide_eq_true (show V.int ((([(r:Int)].map V.int).length:Nat):Int)=V.int 1 from rfl)];rfl
  refine ⟨_,rfl,lp,_,rfl,.inl (SqL.of f34),rfl,_,rfl,?_⟩
  refine (congrArg (fun b=>tOr_k1 _ _ _ b _) (one p)).mpr (orkF ?_)
  refine ⟨_,rfl,lq,_,rfl,.inl (SqL.of f4),rfl,_,rfl,?_⟩
  refine (congrArg (fun b=>tIfS_k1 _ _ _ _ b _) (one q)).mpr (ifsF ?_)
  refine ⟨_,rfl,lb,_,rfl,.inl (SqL.of f24),?_⟩
  refine ⟨_,rfl,(by show 2≤sizeLine;omega),fun l5 nl5=>?_⟩
  have s5:Same H4 (upd H4 l5 (.lst [V.int (-1),V.int 1])):=Same.new nl5
  have f5:(upd H4 l5 (.lst [V.int (-1),V.int 1])) l5=some (.lst [V.int (-1),V.int 1]):=upd_same
  have ev:PyData.eqv (.list (dJ [(p:Int)])) (.list (dJ [(q:Int)]))=decide (p=q):=by
   show (((p:Int) == (q:Int)) && true)=decide (p=q)
   rw [Bool.and_true]
   by_cases e:p=q
   ·rw [decide_eq_true e,e,beq_self_eq_true]
   ·rw [decide_eq_false e];exact beq_false_of_ne fun z=>e (Int.ofNat.inj z)
  obtain ⟨z,hz,az⟩:∃ z:Int,z=(if p=q then 1 else -1)∧atI [V.int (-1),V.int 1] (if decide (p=q)=true then 1 else 0)=some (V.int z):=by
   by_cases e:p=q
   ·exact ⟨1,by rw [if_pos e],by rw [decide_eq_true e];rfl⟩
   ·exact ⟨-1,by rw [if_neg e],by rw [decide_eq_false e];rfl⟩
  have hcut:=hol_cut U m2 hx hp hq
  rw [← hz] at hcut
  have S:=sk_cut U m2 hx
  have lc:=S.len
  have hnd:=hol_hnd S.srf
  obtain ⟨V6,hol6⟩:=hol_glu U hx
  have eglu:=glu_cut U hx
  refine ⟨_,rfl,_,rfl,_,_,.lst (s5 _ _ f34) (dts_j _),.lst (s5 _ _ f4) (dts_j _),lay_jl _,lay_jl _,dep_jl _,?_⟩
  rw [ev]
  refine .inr ⟨_,rfl,l5,_,_,_,rfl,rfl,SqL.of f5,az,_,_,rfl,rfl,?_⟩
  have f25:=s5 _ _ f24
  generalize upd H4 l5 (.lst [V.int (-1),V.int 1])=H5' at s5 f5 f25 ⊢
  rw [List.length_map]
  refine ⟨_,rfl,cutW u x,rfl,S.srf,fun lc6 H6 nl6 f6 s6=>⟨lc6,_,rfl,.inl (SqL.of f6),_,rfl,rfl,_,rfl,?_⟩⟩
  rw [List.length_map,← hcut]
  refine (congrArg (fun b=>tOr_k1 _ _ _ b _) (show (!decide (V.int ((hol (cutW u x)).length:Int)=V.int ((hol (cutW u x)).length:Int)))=false by rw [decide_eq_true rfl];rfl)).mpr (orkF ?_)
  have lcs:=toS_length (cutW u x)
  refine ⟨_,rfl,cutW u x,rfl,S.srf,fun H7 s7=>⟨_,_,rfl,rfl,.inl ⟨by decide,by decide⟩,_,rfl,toS (cutW u x),rfl,by omega,_,_,rfl,rfl,⟨by decide,by decide⟩,_,_,rfl,rfl,_,rfl,_,_,rfl,rfl,rfl,_,rfl,?_⟩⟩
  rw [lcs,hnd]
  refine (congrArg (fun b=>tIfS_k1 _ _ _ _ b _) (show (!decide (V.int (((cutW u x).length:Int) / 2+1 - ((hol (cutW u x)).length:Int))=V.int (((cutW u x).length:Int) / 2+1 - ((hol (cutW u x)).length:Int))))=false by rw [decide_eq_true rfl];rfl)).mpr (ifsF ?_)
  refine ⟨_,rfl,rfl,_,rfl,toS u,toS [x],rfl,rfl,?_⟩
  rw [find_at72 mx]
  refine ⟨_,rfl,rfl,_,rfl,rfl,_,rfl,rfl,(by rw [toS_length];show 1≤5592405;decide),?_⟩
  rw [upper_one hx6]
  refine ⟨toS u,toS [inv x],rfl,rfl,?_⟩
  rw [find_at72 (U.srf.iv x mx)]
  refine ⟨(by show 2≤sizeLine;omega),fun l8 nl8=>?_⟩
  have i0:=idx_lt mx
  have i1:=idx_lt (U.srf.iv x mx)
  have i01:u.idxOf (inv x)≠u.idxOf x:=fun e=>inv_ne x (idx_inj (U.srf.iv x mx) mx e)
  generalize u.idxOf (inv x)=j at *
  generalize u.idxOf x=i at *
  have f8:(upd H7 l8 (.lst [V.int (i:Int),V.int (j:Int)])) l8=some (.lst [V.int (i:Int),V.int (j:Int)]):=upd_same
  have s8:Same H7 (upd H7 l8 (.lst [V.int (i:Int),V.int (j:Int)])):=Same.new nl8
  refine ⟨_,rfl,l8,_,_,_,rfl,rfl,SqL.of f8,atI_nat (j:=0) rfl,_,rfl,l8,_,_,_,rfl,rfl,SqL.of f8,atI_nat (j:=1) rfl,_,rfl,l8,_,_,_,rfl,rfl,SqL.of f8,atI_nat (j:=0) rfl,_,_,rfl,rfl,.inr ⟨_,rfl,_,_,rfl,rfl,?_⟩⟩
  have ek:(i:Int) - (if decide ((j:Int) < (i:Int))=true then 1 else 0)=((i - (if j < i then 1 else 0):Nat):Int):=by
   by_cases h:j < i
   ·rw [decide_eq_true (by omega),if_pos rfl,if_pos h];omega
   ·rw [decide_eq_false (by omega),if_neg (by decide),if_neg h];omega
  rw [ek]
  have bi:i - (if j < i then 1 else 0)≤(cutW u x).length:=by split <;> omega
  have bj:j≤(cutW u x).length+1:=by omega
  generalize i - (if j < i then 1 else 0)=i' at *
  refine ⟨_,rfl,_,rfl,_,rfl,l8,_,_,_,rfl,rfl,SqL.of f8,atI_nat (j:=1) rfl,cutW u x,_,_,rfl,by omega,by omega,fun w hw H9 s9=>?_,fun hb=>?_,fun k hb=>?_⟩
  rotate_left
  ·rw [glu_ok (by omega) ⟨by omega,by omega⟩ ⟨by omega,by omega⟩] at hb;cases hb
  ·rw [glu_ok (by omega) ⟨by omega,by omega⟩ ⟨by omega,by omega⟩] at hb;cases hb
  rw [glu_ok (by omega) ⟨by omega,by omega⟩ ⟨by omega,by omega⟩,Int.toNat_natCast,Int.toNat_natCast,show (cutW u x).length / 2=m - 1 by omega,eglu] at hw
  cases hw
  have f29:=s9 _ _ (s8 _ _ (s7 _ _ (s6 _ _ f25)))
  refine ⟨u.map (renL m x),rfl,V6.srf,fun l10 H10 nl10 f10 s10=>⟨l10,_,rfl,.inl (SqL.of f10),_,rfl,lb,_,rfl,.inl (SqL.of (s10 _ _ f29)),rfl,?_⟩⟩
  rw [List.length_map,List.length_map,hol6]
  have sA:Same H H5':=((s02.trans s3).trans s4).trans s5
  exact (congrArg (fun b=>Q (V.bl b) H10) (decide_eq_true (rfl:V.int ((hol u).length:Int)=V.int ((hol u).length:Int)))).mpr (k _ (((((sA.trans s6).trans s7).trans s8).trans s9).trans s10))
end
end Kx
namespace Kx
open PySem PySem.Spec PyProof.Rows L2 Wd
section
variable {P:Program} {w:World} {K:PySem.W.Frag} {mg:Str→Option Value} {base:Heap} {aB:Addr}
inductive spWR72 (N n:Nat)(vs:List V)(H:Hp)(Q:VK)(E:XK):Prop
 | mk:∀ (d:Addr) (u:List L) (m:Nat) (x:L) (t:Tok),(vs=[.ref d,tx u,.tks (toS [x]) t])→(Fd H d)→(0 < N)→(N≤n)→(0 < t)→(t < n)→(SK u m)→(2≤m)→(x.val < m)→(∀ H',Fd H' d→SameB d H H'→Q (.bl true) H')→spWR72 N n vs H Q E
theorem eqv_dws72:∀ ws:List (List L),PyData.eqvAll (dws ws) (dws ws)=true
 | []=>rfl
 | w::ws=>by
  show (((toS w:Str) == toS w) && PyData.eqvAll (dws ws) (dws ws))=true
  rw [eqv_dws72 ws,beq_self_eq_true]
  rfl
noncomputable abbrev s_wright:Stmt:=top 46
theorem sc_wright:FnScope ["_law_feed_here","_law_row","_law_letter","_law_signs","_law_ways","_law_after","_law_gone","_law_i","_law_j"] ["_law_feed_here","_law_row","_law_letter"] (defScope s_wright):=⟨rfl,rfl,rfl,by decide +kernel,rfl,by decide +kernel,by decide +kernel⟩
theorem c_wright {N:Nat}{CB:Addr}(D:Df K mg "_law_ways_right" s_wright)(T:Bt K w mg aB)(F_way:Fnc P w K mg base "_law_way" ["_law_feed_here","_law_signs"] 4 (spWay72 K))(F_cut:FncT P w K mg base "cut" ["surface","letter"] 4 (spCutX CB N))(F_cutw:Fnc P w K mg base "cut_word" ["letter","word"] 4 spCutWord)(F_back:Fnc P w K mg base "back" ["word"] 1 spBk)(F_lback:Fnc P w K mg base "_law_back" ["_law_word"] 1 spBk)(F_links:Fnc P w K mg base "links" ["surface","ways","i","j"] 6 spLinks):FncT P w K mg base "_law_ways_right" ["_law_feed_here","_law_row","_law_letter"] 7 (spWR72 N):=by
 have sc:=sc_wright
 refine D.okT sc (fun _ _ _ _ _ _ us hl=>by obtain ⟨_,_,_,rfl⟩:=len3 hl;rfl) (fun n vs H Q E h=>?_) (fun f cdv A outer s H vs Q E hr h=>?_)
 ·obtain ⟨d,u,m,x,t,rfl,_⟩:=h
  rfl
 ·obtain ⟨d,u,m,x,t,rfl,F,hN0,hN,t0,tn,U,m2,hx,k⟩:=h
  have l16:=line16
  have hlu:=U.len
  have h6:=U.hi
  have hx6:x.val < 6:=by omega
  have lu:=toS_length u
  refine ⟨_,(@pss_cons _ _ _ _ _ (@ps_setC _ (3) _ _ _ _ _ _ _ _ _ (["_law_sign","_law_letter"]) (["_law_sign"]) ([2]) _ _ _ _ sc.nd rfl (Or.inl rfl) (@blk_of _ _ _ _ _ _ rfl (by kernel_rfl)) rfl (@pi_str _ _ _ _ (pv 1)) (fun _ _ _ _=>@pg_name _ _ (0) _ (show (["_law_sign","_law_letter"]:List Str).Nodup from by decide +kernel) rfl (Or.inl rfl) (by first | exact .inl rfl | exact .inr rfl | assumption)) (fun _ _ _ _=>(@pifs_one _ _ _ (by exact (@pt_cmpR _ _ _ _ _ _ _ _ op_ne (@pe_bm0K _ _ _ _ _ _ _ _ _ (K) rfl PySem.F.plainAttrs_str PySem.F.slot_str_lower PySem.F.type_str_lower mt_lower (pv 0) (by rfl) (by rfl)) (@pe_wk _ _ _ (pv 1)) (nomark _))))) (fun _ _ _ _=>by (exact (pv 0))) (by intro _ ;rfl) (by rfl) (by first | exact .inl rfl | exact .inr rfl | assumption)) (@pss_cons _ _ _ _ _ (@ps_set _ _ (4) _ _ _ _ sc.nd rfl (Or.inl rfl) (@pe_tup _ _ _ _ _ (@pa_cons _ _ _ _ _ (@pe_fn _ _ _ _ _ _ _ _ _ _ _ F_way hr (by decide) rfl (@pa_cons _ _ _ _ _ (pv 0) (@pa_cons _ _ _ _ _ (pv 3) pa_nil (by rfl)) (by rfl)) (by decide) (by rfl) (by rfl)) (@pa_cons _ _ _ _ _ (@pe_fn _ _ _ _ _ _ _ _ _ _ _ F_way hr (by decide) rfl (@pa_cons _ _ _ _ _ (pv 0) (@pa_cons _ _ _ _ _ (pv 3) pa_nil (by rfl)) (by rfl)) (by decide) (by rfl) (by rfl)) pa_nil (by rfl)) (by rfl))) (by rfl) (by first | exact .inl rfl | exact .inr rfl | assumption)) (@pss_cons _ _ _ _ _ (@ps_set _ _ (5) _ _ _ _ sc.nd rfl (Or.inl rfl) (@pe_fnT _ _ _ _ _ _ _ _ _ _ _ _ F_cut hr (by decide) passes_def rfl (@pa_cons _ _ _ _ _ (pv 1) (@pa_cons _ _ _ _ _ (pv 2) pa_nil (by rfl)) (by rfl)) (by decide) (by rfl) (by rfl)) (by rfl) (by first | exact .inl rfl | exact .inr rfl | assumption)) (@pss_cons _ _ _ _ _ (@ps_set _ _ (6) _ _ _ _ sc.nd rfl (Or.inl rfl) (@pe_callTy _ _ _ _ _ _ _ _ _ call_tuple_of (by rfl) T.tuple b_tuple (@pa_cons _ _ _ _ _ (@pe_comp _ _ _ _ _ _ _ (["_law_way_here","_law_letter"]) (["_law_way_here"]) ([2]) _ _ _ _ (@blk_of _ _ _ _ _ _ rfl (by kernel_rfl)) rfl (@pi_tup _ _ _ _ (pv 4)) (fun _ _ _ _=>@pg_name _ _ (0) _ (show (["_law_way_here","_law_letter"]:List Str).Nodup from by decide +kernel) rfl (Or.inl rfl) (by first | exact .inl rfl | exact .inr rfl | assumption)) (fun _ _ _ _=>pifs_nil) (fun _ _ _ _=>by (exact (@pe_fn _ _ _ _ _ _ _ _ _ _ _ F_cutw hr (by decide) rfl (@pa_cons _ _ _ _ _ (@pe_wk _ _ _ (pv 1)) (@pa_cons _ _ _ _ _ (pv 0) pa_nil (by rfl)) (by rfl)) (by decide) (by rfl) (by rfl)))) (by intro _ ;rfl)) pa_nil (by rfl)) (by decide) (by decide) (by rfl) (by rfl)) (by rfl) (by first | exact .inl rfl | exact .inr rfl | assumption)) (@pss_cons _ _ _ _ _ (@ps_if _ _ _ _ _ _ _ _ (@pt_cmpR _ _ _ _ _ _ _ _ (@op_ne_dat _ (by exact hr.units)) (@pe_comp _ _ _ _ _ _ _ (["_law_way_here","_law_letter"]) (["_law_way_here"]) ([2]) _ _ _ _ (@blk_of _ _ _ _ _ _ rfl (by kernel_rfl)) rfl (@pi_tup _ _ _ _ (pv 4)) (fun _ _ _ _=>@pg_name _ _ (0) _ (show (["_law_way_here","_law_letter"]:List Str).Nodup from by decide +kernel) rfl (Or.inl rfl) (by first | exact .inl rfl | exact .inr rfl | assumption)) (fun _ _ _ _=>pifs_nil) (fun _ _ _ _=>by (exact (@pe_fn _ _ _ _ _ _ _ _ _ _ _ F_cutw hr (by decide) rfl (@pa_cons _ _ _ _ _ (@pe_wk _ _ _ (pv 1)) (@pa_cons _ _ _ _ _ (@pe_fn _ _ _ _ _ _ _ _ _ _ _ F_back hr (by decide) rfl (@pa_cons _ _ _ _ _ (pv 0) pa_nil (by rfl)) (by decide) (by rfl) (by rfl)) pa_nil (by rfl)) (by rfl)) (by decide) (by rfl) (by rfl)))) (by intro _ ;rfl)) (@pe_comp _ _ _ _ _ _ _ (["_law_way_here"]) (["_law_way_here"]) ([]) _ _ _ _ (@blk_of _ _ _ _ _ _ rfl (by kernel_rfl)) rfl (@pi_tup _ _ _ _ (pv 6)) (fun _ _ _ _=>@pg_name _ _ (0) _ (show (["_law_way_here"]:List Str).Nodup from by decide +kernel) rfl (Or.inl rfl) (by first | exact .inl rfl | exact .inr rfl | assumption)) (fun _ _ _ _=>pifs_nil) (fun _ _ _ _=>by (exact (@pe_fn _ _ _ _ _ _ _ _ _ _ _ F_lback hr (by decide) rfl (@pa_cons _ _ _ _ _ (pv 0) pa_nil (by rfl)) (by decide) (by rfl) (by rfl)))) (by intro _ ;rfl)) (nomark _)) (@pss_one _ _ _ (@ps_ret _ _ _ _ pe_bl)) pss_nil) (@pss_cons _ _ _ _ _ (@ps_for _ _ _ _ _ _ _ _ PassesOwn.leaving rfl (@pi_list _ _ _ _ (@pe_lst _ _ _ _ (@pa_cons _ _ _ _ _ (@pe_tup _ _ _ _ _ (@pa_cons _ _ _ _ _ pe_int (@pa_cons _ _ _ _ _ pe_int pa_nil (by rfl)) (by rfl))) (@pa_cons _ _ _ _ _ (@pe_tup _ _ _ _ _ (@pa_cons _ _ _ _ _ pe_int (@pa_cons _ _ _ _ _ pe_int pa_nil (by rfl)) (by rfl))) (@pa_cons _ _ _ _ _ (@pe_tup _ _ _ _ _ (@pa_cons _ _ _ _ _ pe_int (@pa_cons _ _ _ _ _ pe_int pa_nil (by rfl)) (by rfl))) pa_nil (by rfl)) (by rfl)) (by rfl)))) (@pg_tup _ _ _ _ _ _ rfl (@pgs_cons _ _ _ _ _ (@pg_name _ _ (7) _ sc.nd rfl (Or.inl rfl) (by first | exact .inl rfl | exact .inr rfl | assumption)) (@pgs_cons _ _ _ _ _ (@pg_name _ _ (8) _ sc.nd rfl (Or.inl rfl) (by first | exact .inl rfl | exact .inr rfl | assumption)) pgs_nil (by rfl)) (by rfl)) (by rfl) (by rfl)) (@pss_one _ _ _ (@ps_if _ _ _ _ _ _ _ _ (@pt_cmpR _ _ _ _ _ _ _ _ op_ne (@pe_callB _ _ _ _ _ _ _ _ _ call_len_seq (by rfl) T.len PySem.boot_len (@pa_cons _ _ _ _ _ (@pe_fn _ _ _ _ _ _ _ _ _ _ _ F_links hr (by decide) rfl (@pa_cons _ _ _ _ _ (pv 1) (@pa_cons _ _ _ _ _ (pv 4) (@pa_cons _ _ _ _ _ (pv 7) (@pa_cons _ _ _ _ _ (pv 8) pa_nil (by rfl)) (by rfl)) (by rfl)) (by rfl)) (by decide) (by rfl) (by rfl)) pa_nil (by rfl)) (by decide) (by decide) (by rfl) (by rfl)) (@pe_callB _ _ _ _ _ _ _ _ _ call_len_seq (by rfl) T.len PySem.boot_len (@pa_cons _ _ _ _ _ (@pe_fn _ _ _ _ _ _ _ _ _ _ _ F_links hr (by decide) rfl (@pa_cons _ _ _ _ _ (pv 5) (@pa_cons _ _ _ _ _ (pv 6) (@pa_cons _ _ _ _ _ (pv 7) (@pa_cons _ _ _ _ _ (pv 8) pa_nil (by rfl)) (by rfl)) (by rfl)) (by rfl)) (by decide) (by rfl) (by rfl)) pa_nil (by rfl)) (by decide) (by decide) (by rfl) (by rfl)) (nomark _)) (@pss_one _ _ _ (@ps_ret _ _ _ _ pe_bl)) pss_nil)) (by intro _ ;rfl)) (@pss_one _ _ _ (@ps_ret _ _ _ _ pe_bl)))))))),?_⟩
  have oL:=off_len U m2 hx
  have nld:=fun {l:Addr} {xs:List V} (h:H l=some (.lst xs))=>F.nl h
  refine ⟨_,rfl,_,rfl,?_⟩
  refine comp_by (own:=["_law_sign"]) (cap:=[2]) (J:=Its (toS u)) u.length (fun j ys σ H'=>∃ v:Option V,σ = [v,some (.tks (toS [x]) t)]∧ys=ones (offL (u.take j) x)∧H'=H) ⟨none,rfl,rfl,rfl⟩ (fun j ys σ H' hj ⟨_,_,e,_⟩=>by
   rw [e,ones_length]
   have:=List.length_filter_le (fun y:L=>decide (y.val % 6≠x.val)) (u.take j)
   rw [List.length_take] at this
   exact Nat.le_trans this (Nat.min_le_left _ _)) (by omega) (fun j ys σ H' hj _=>?_) (fun ys σ H' _=>?_) ?_ ?_
  ·show j < (toS u).cps.size;rw [toS_size];exact hj
  ·show _=(toS u).cps.size;rw [toS_size]
  ·rintro j ys σ H2 zz H3 N' hj ⟨v,rfl,rfl,rfl⟩ ⟨rfl,c,hc,rfl⟩ hN'
   obtain ⟨yy,hy,e⟩:=sign_at hc
   rw [e]
   refine ⟨_,rfl,rfl,_,rfl,rfl,(by rw [toS_length];show 1≤5592405;decide),_,rfl,?_⟩
   refine ⟨rfl,_,rfl,?_⟩
   show if (!decide (V.str (Txt.lower (toS [yy]))=V.str (toS [x])))=true then _ else _
   rw [low_ne72 hx6 yy]
   have ap:offL (u.take (j+1)) x=offL (u.take j) x++(if decide (yy.val % 6≠x.val)=true then [yy] else []):=by
    rw [take_snoc hy,off_app]
    refine congrArg _ ?_
    unfold offL
    rw [List.filter_cons,List.filter_nil]
   by_cases hb:decide (yy.val % 6≠x.val)=true
   ·rw [if_pos hb] at ap ⊢
    refine ⟨_,rfl,hN' _ _ _ ⟨_,rfl,?_,rfl⟩⟩
    rw [ap,← ones_snoc]
    rfl
   ·rw [if_neg hb] at ap ⊢
    refine hN' _ _ _ ⟨_,rfl,?_,rfl⟩
    rw [ap,List.append_nil]
  rintro ys σ H1 l1 ⟨v,rfl,rfl,rfl⟩ nl1
  rw [List.take_of_length_le (Nat.le_refl _)]
  have F1:=F.new (o:=.lst (ones (offL u x))) nl1
  have s1:Same H1 (upd H1 l1 (.lst (ones (offL u x)))):=Same.new nl1
  have f1:(upd H1 l1 (.lst (ones (offL u x)))) l1=some (.lst (ones (offL u x))):=upd_same
  generalize upd H1 l1 (.lst (ones (offL u x)))=H2 at F1 s1 f1 ⊢
  have oG:∀ w:List L,Rnd w→w.length≤8→(∀ y∈w,y∈offL u x)→Gw m x w:=fun w h1 h2 h3=>⟨⟨h1,h2,fun y hy=>(U.mem y).mp (off_mem.mp (h3 y hy)).1⟩,fun y hy=>(off_mem.mp (h3 y hy)).2⟩
  refine ⟨_,rfl,_,rfl,d,l1,_,rfl,F1,f1,by omega,by omega,fun w1 H3 r1 c1 i1 F3 sb3=>?_⟩
  refine ⟨_,rfl,_,rfl,d,l1,_,rfl,F3,sb3 _ _ (F1.nl f1) f1,by omega,by omega,fun w2 H4 r2 c2 i2 F4 sb4=>?_⟩
  have G1:=oG w1 r1 c1 i1
  have G2:=oG w2 r2 c2 i2
  have hG:∀ w∈[w1,w2],Gw m x w:=fun w hw=>by
   simp only [List.mem_cons,List.not_mem_nil,or_false] at hw
   rcases hw with rfl | rfl
   ·exact G1
   ·exact G2
  refine ⟨(by show 2≤sizeLine;omega),fun a5 n5=>?_⟩
  have F5:=F4.new (o:=.tup ([w1,w2].map tx)) n5
  have f5:(upd H4 a5 (.tup ([w1,w2].map tx))) a5=some (.tup ([w1,w2].map tx)):=upd_same
  have sb5:SameB d H4 (upd H4 a5 (.tup ([w1,w2].map tx))):=(Same.new n5).b
  change tAsg_k1 (gName 4) _ _ _ (upd H4 a5 (.tup ([w1,w2].map tx)))
  generalize upd H4 a5 (.tup ([w1,w2].map tx))=H5 at F5 f5 sb5 ⊢
  have lW:[w1,w2].length=2:=rfl
  generalize hW:[w1,w2]=W at *
  refine ⟨_,rfl,_,rfl,fun n1 hn1=>⟨u,toS [x],_,rfl,rfl,Nat.le_trans hN hn1,by omega,by omega,(by rw [toS_length];show 1≤100;decide),fun y h1 h2 h3 h4=>⟨⟨t,rfl,t0,Nat.lt_of_lt_of_le tn hn1⟩,fun H6 s6=>?_⟩,fun hc=>?_⟩⟩
  rotate_left
  ·exact (hc.elim (fun z=>by omega) fun z=>z x (by omega) hx6 rfl).elim
  obtain rfl:x=y:=by
   have:=toS_inj h4
   simpa using this
  have F6:=F5.same s6
  have f6:=s6 _ _ f5
  have W_at:∀ {i:Nat} {z:V},(W.map tx)[i]? = some z→∃ w,W[i]? = some w∧z=tx w∧w∈W:=fun {i z} hz=>by
   rw [List.getElem?_map] at hz
   cases e:W[i]? with
   | none=>rw [e] at hz;cases hz
   | some w=>rw [e] at hz;exact ⟨w,rfl,(Option.some.inj hz).symm,List.mem_of_getElem? e⟩
  refine ⟨_,rfl,a5,rfl,⟨_,SqT.of f6⟩,?_⟩
  refine comp_tup (xs:=W.map tx) (own:=["_law_way_here"]) (cap:=[2]) (fun i ys σ H'=>∃ v:Option V,σ = [v,some (.tks (toS [x]) t)]∧ys=((W.take i).map (List.map (lowL x))).map tx∧Same H6 H') ⟨none,rfl,rfl,Same.refl _⟩ (fun i ys σ H' _ ⟨_,_,e,_⟩=>by
   rw [e,List.length_map,List.length_map,List.length_take];exact Nat.min_le_left _ _) (by rw [List.length_map];omega) (fun i ys σ H' ⟨_,_,_,s⟩=>SqT.of (s _ _ f6)) ?_ ?_
  ·rintro i ys σ H7 z N' hz ⟨v,rfl,rfl,s7⟩ hN'
   obtain ⟨w,hw,rfl,mw⟩:=W_at hz
   have gw:=hG w mw
   have:=gw.gr.2.1
   refine ⟨_,rfl,_,rfl,x,w,rfl,by omega,fun H8 s8=>?_⟩
   rw [if_neg (off_not hx6 gw.off)]
   exact hN' _ _ _ ⟨_,rfl,by rw [List.take_add_one,hw,List.map_append,List.map_append];rfl,s7.trans s8⟩
  rintro ys σ H7 l7 ⟨v,rfl,rfl,s7⟩ n7
  rw [List.length_map,List.take_length]
  have hx7:x.val < 6:=hx6
  generalize hV:W.map (List.map (lowL x))=V' at *
  have lV:V'.length=2:=by rw [← hV,List.length_map];exact lW
  refine ⟨l7,_,rfl,.inl ⟨SqL.of upd_same,fun a8 n8=>?_⟩⟩
  have s8:=((s7.then (o:=.lst (V'.map tx)) n7).then (o:=.tup (V'.map tx)) n8)
  have f8:(upd (upd H7 l7 (.lst (V'.map tx))) a8 (.tup (V'.map tx))) a8=some (.tup (V'.map tx)):=upd_same
  change tAsg_k1 (gName 6) _ _ _ (upd (upd H7 l7 (.lst (V'.map tx))) a8 (.tup (V'.map tx)))
  generalize upd (upd H7 l7 (.lst (V'.map tx))) a8 (.tup (V'.map tx))=H8 at s8 f8 ⊢
  have f68:=s8 _ _ f6
  refine ⟨_,rfl,a5,rfl,⟨_,SqT.of f68⟩,?_⟩
  refine comp_tup (xs:=W.map tx) (own:=["_law_way_here"]) (cap:=[2]) (fun i ys σ H'=>∃ v:Option V,σ = [v,some (.tks (toS [x]) t)]∧ys=(((W.take i).map bk).map (List.map (lowL x))).map tx∧Same H8 H') ⟨none,rfl,rfl,Same.refl _⟩ (fun i ys σ H' _ ⟨_,_,e,_⟩=>by
   rw [e,List.length_map,List.length_map,List.length_map,List.length_take];exact Nat.min_le_left _ _) (by rw [List.length_map];omega) (fun i ys σ H' ⟨_,_,_,s⟩=>SqT.of (s _ _ f68)) ?_ ?_
  ·rintro i ys σ H9 z N' hz ⟨v,rfl,rfl,s9⟩ hN'
   obtain ⟨w,hw,rfl,mw⟩:=W_at hz
   have gw:=hG w mw
   have lw:=gw.gr.2.1
   have ob:∀ y∈bk w,y.val % 6≠x.val:=fun y hy=>by
    obtain ⟨z,hz,rfl⟩:=List.mem_map.mp (List.mem_reverse.mp hy)
    rw [inv_mod];exact gw.off z hz
   refine ⟨_,rfl,_,rfl,w,rfl,by omega,fun H10 s10=>⟨x,bk w,rfl,by rw [bk_length];omega,fun H11 s11=>?_⟩⟩
   rw [if_neg (off_not hx7 ob)]
   exact hN' _ _ _ ⟨_,rfl,by rw [List.take_add_one,hw,List.map_append,List.map_append,List.map_append];rfl,(s9.trans s10).trans s11⟩
  rintro ys σ H9 l9 ⟨v,rfl,rfl,s9⟩ n9
  rw [List.length_map,List.take_length]
  have hVb:(W.map bk).map (List.map (lowL x))=V'.map bk:=by
   rw [← hV,List.map_map,List.map_map]
   exact List.map_congr_left fun w hw=>(bk_low hx7 (hG w hw).off).symm
  rw [hVb]
  have s10:=s9.then (o:=.lst ((V'.map bk).map tx)) n9
  have f10:(upd H9 l9 (.lst ((V'.map bk).map tx))) l9=some (.lst ((V'.map bk).map tx)):=upd_same
  generalize upd H9 l9 (.lst ((V'.map bk).map tx))=H10 at s10 f10 ⊢
  have f810:=s10 _ _ f8
  have V_len:∀ w∈V',w.length≤8:=fun w hw=>by
   rw [← hV] at hw
   obtain ⟨z,hz,rfl⟩:=List.mem_map.mp hw
   rw [List.length_map];exact (hG z hz).gr.2.1
  refine ⟨_,rfl,a8,rfl,⟨_,SqT.of f810⟩,?_⟩
  refine comp_tup (xs:=V'.map tx) (own:=["_law_way_here"]) (cap:=[]) (fun i ys σ H'=>∃ v:Option V,σ = [v]∧ys=((V'.take i).map bk).map tx∧Same H10 H') ⟨none,rfl,rfl,Same.refl _⟩ (fun i ys σ H' _ ⟨_,_,e,_⟩=>by
   rw [e,List.length_map,List.length_map,List.length_take];exact Nat.min_le_left _ _) (by rw [List.length_map];omega) (fun i ys σ H' ⟨_,_,_,s⟩=>SqT.of (s _ _ f810)) ?_ ?_
  ·rintro i ys σ H11 z N' hz ⟨v,rfl,rfl,s11⟩ hN'
   rw [List.getElem?_map] at hz
   cases e:V'[i]? with
   | none=>rw [e] at hz;cases hz
   | some w =>
    rw [e] at hz
    cases hz
    have:=V_len w (List.mem_of_getElem? e)
    refine ⟨_,rfl,w,rfl,by omega,fun H12 s12=>hN' _ _ _ ⟨_,rfl,by rw [List.take_add_one,e,List.map_append,List.map_append];rfl,s11.trans s12⟩⟩
  rintro ys σ H11 l11 ⟨v,rfl,rfl,s11⟩ n11
  rw [List.length_map,List.take_length]
  have s12:=s11.then (o:=.lst ((V'.map bk).map tx)) n11
  have f12:(upd H11 l11 (.lst ((V'.map bk).map tx))) l11=some (.lst ((V'.map bk).map tx)):=upd_same
  generalize upd H11 l11 (.lst ((V'.map bk).map tx))=H12 at s12 f12 ⊢
  refine ⟨_,_,.lst (s12 _ _ f10) (dts_txs _),.lst f12 (dts_txs _),lay_list _,lay_list _,(by show PyData.depthAll (dws (V'.map bk))+1≤10;have:=depth_dws (V'.map bk);omega),?_⟩
  refine ⟨_,rfl,(congrArg (fun b=>tIfS_k1 _ _ _ _ b _) (show (!PyData.eqvAll (dws (V'.map bk)) (dws (V'.map bk)))=false by rw [eqv_dws72];rfl)).mpr (ifsF ?_)⟩
  refine ⟨(by show 2≤sizeLine;omega),fun p1 np1=>⟨(by show 2≤sizeLine;omega),fun p2 np2=>⟨(by show 2≤sizeLine;omega),fun p3 np3=>⟨(by show 3≤sizeLine;omega),fun l4 nl4=>?_⟩⟩⟩⟩
  obtain ⟨H16,e16⟩:∃ H',H'=upd (upd (upd (upd H12 p1 (.tup [V.int 0,V.int 0])) p2 (.tup [V.int 0,V.int 1])) p3 (.tup [V.int 1,V.int 1])) l4 (.lst [V.ref p1,V.ref p2,V.ref p3]):=⟨_,rfl⟩
  have t1:=(Same.new (o:=.tup [V.int 0,V.int 1]) np2).then (o:=.tup [V.int 1,V.int 1]) np3 |>.then (o:=.lst [V.ref p1,V.ref p2,V.ref p3]) nl4
  have t2:=(Same.new (o:=.tup [V.int 1,V.int 1]) np3).then (o:=.lst [V.ref p1,V.ref p2,V.ref p3]) nl4
  have t3:=Same.new (o:=.lst [V.ref p1,V.ref p2,V.ref p3]) nl4
  have g1:=t1 _ _ (upd_same (H:=H12) (a:=p1) (o:=.tup [V.int 0,V.int 0]))
  have g2:=t2 _ _ (upd_same (a:=p2) (o:=.tup [V.int 0,V.int 1]))
  have g3:=t3 _ _ (upd_same (a:=p3) (o:=.tup [V.int 1,V.int 1]))
  have s16:=(Same.new (o:=.tup [V.int 0,V.int 0]) np1).trans t1
  have g4:H16 l4=some (.lst [V.ref p1,V.ref p2,V.ref p3]):=by rw [e16];exact upd_same
  rw [← e16] at g1 g2 g3 s16
  rw [← e16]
  have f5a:=s16 _ _ (s12 _ _ (s10 _ _ f68))
  have f8a:=s16 _ _ (s12 _ _ f810)
  have sAll:SameB d H1 H16:=fun b o n e=>s16 _ _ (s12 _ _ (s10 _ _ (s8 _ _ (s6 _ _ (sb5 _ _ n (sb4 _ _ n (sb3 _ _ n (s1 _ _ e))))))))
  have F16:=(((F6.same s8).same s10).same s12).same s16
  refine ⟨l4,rfl,⟨_,SqL.of g4⟩,for_list (xs:=[V.ref p1,V.ref p2,V.ref p3]) (fun i σ H'=>∃ b7 b8:Option V,σ = [some (.ref d),some (tx u),some (.tks (toS [x]) t),some (.ref l1),some (.ref a5),some (tx (cutW u x)),some (.ref a8),b7,b8]∧Same H16 H') ⟨none,none,rfl,Same.refl _⟩ (fun i σ H' _ ⟨_,_,_,q⟩=>SqL.of (q _ _ g4)) ?_ ?_⟩
  ·rintro i9 z σ H17 hz ⟨b7,b8,rfl,s17⟩
   obtain ⟨pp,i,j,rfl,gp,i0,i1,j0,j1⟩:∃ (pp:Addr) (i j:Int),z = .ref pp∧H16 pp=some (.tup [.int i,.int j])∧0≤i∧i < 2∧0≤j∧j < 2:=by
    have h3:i9 < 3:=(List.getElem?_eq_some_iff.mp hz).1
    rcases (show i9=0 ∨ i9=1 ∨ i9=2 by omega) with rfl | rfl | rfl
    ·exact ⟨p1,0,0,(Option.some.inj hz).symm,g1,by decide,by decide,by decide,by decide⟩
    ·exact ⟨p2,0,1,(Option.some.inj hz).symm,g2,by decide,by decide,by decide,by decide⟩
    ·exact ⟨p3,1,1,(Option.some.inj hz).symm,g3,by decide,by decide,by decide,by decide⟩
   obtain ⟨hR,hR',eL⟩:=links_cut U m2 hx hG (by omega) (by omega) (i:=i) (j:=j) i0 (by omega) j0 (by omega)
   rw [hV] at hR' eL
   refine ⟨pp,_,rfl,SqT.of (s17 _ _ gp),rfl,_,_,rfl,_,_,rfl,rfl,?_⟩
   refine ⟨_,rfl,_,rfl,_,rfl,_,rfl,u,a5,m,W,i,j,rfl,U,⟨s17 _ _ f5a,hR⟩,i0,by omega,j0,by omega,fun l18 z18 H18 n18 s18 f18 k18 e18 w18=>⟨l18,_,rfl,.inl (SqL.of f18),?_⟩⟩
   refine ⟨_,rfl,_,rfl,_,rfl,_,rfl,cutW u x,a8,m - 1,V',i,j,rfl,sk_cut U m2 hx,⟨s18 _ _ (s17 _ _ f8a),hR'⟩,i0,by omega,j0,by omega,fun l19 z19 H19 n19 s19 f19 k19 e19 w19=>⟨l19,_,rfl,.inl (SqL.of f19),rfl,_,rfl,?_⟩⟩
   have el:((z18.map (·.1)).map V.ref).length=((z19.map (·.1)).map V.ref).length:=by
    have q1:=e18.length_eq
    have q2:=e19.length_eq
    rw [eL] at q1
    simp only [List.length_map] at q1 q2 ⊢
    omega
   rw [el]
   refine (congrArg (fun b=>tIfS_k1 _ _ _ _ b _) (show (!decide (V.int (((z19.map (·.1)).map V.ref).length:Int)=V.int (((z19.map (·.1)).map V.ref).length:Int)))=false by rw [decide_eq_true rfl];rfl)).mpr (ifsF ?_)
   exact ⟨_,_,rfl,(s17.trans s18).trans s19⟩
  ·rintro σ H17 ⟨b7,b8,rfl,s17⟩
   exact k H17 (F16.same s17) fun b o n e=>s17 _ _ (sAll _ _ n e)
end
end Kx
namespace Kx
open PySem PySem.Spec PyProof.Rows L2 Wd
section
variable {P:Program} {w:World} {K:PySem.W.Frag} {mg:Str→Option Value} {base:Heap} {aB:Addr}
noncomputable def cmem (st:Stmt)(j:Nat):Stmt:=match st with | .ClassDef (body:=b) ..=>b.getD j (.Pass ⟨0,0,0,0⟩) | _=>.Pass ⟨0,0,0,0⟩
noncomputable abbrev i_slide:Stmt:=cmem (top 2) 0
theorem sc_islide:FnScope ["self","place"] ["self","place"] (defScope i_slide):=⟨rfl,rfl,rfl,by decide +kernel,rfl,by decide +kernel,by decide +kernel⟩
theorem c_islide {R C f:Addr}{fd:FuncData}(D:Fun K "__init__" "NoSlide.__init__" i_slide f fd)(B:XBase K R)(hR:mg "RingError" = some (.ref R))(x:XAt K C)(n0:PySem.W.findIn K (.ref C) "place" = some none) :
  Binds K fd ["self","place"] []∧FnOk P w K mg base CX0 1 f fd ["self","place"] (spInit ["place"] C):=by
 have sc:=sc_islide
 refine ⟨D.binds fun _ _ _ _ _ _ us hl=>match us,hl with | [_,_],_=>rfl,D.ok sc (fun vs H Q E h=>?_) (fun cdv A outer s H vs Q E hr h=>?_)⟩
 ·obtain ⟨a,ys,b,c,rfl,hl,_⟩:=h
  rw [List.length_cons,hl];rfl
 ·obtain ⟨a,ys,b,c,rfl,hl,ea,k⟩:=h
  match ys,hl with
  | [y],_ =>
  refine ⟨_,(@pss_cons _ _ _ _ _ (@ps_expr _ _ _ _ (@pe_initX _ _ _ _ _ _ _ _ _ _ B rfl hR (@pa_cons _ _ _ _ _ (pv 0) (@pa_cons _ _ _ _ _ pe_str pa_nil (by rfl)) (by rfl)) (by decide) (by rfl) (by rfl) (by rfl)) (by rfl))
   (@pss_one _ _ _ (@ps_fx0 _ _ _ _ _ _ _ _ (pv 0) (pv 1) (by rfl)))),?_⟩
  refine ⟨_,rfl,a,C,none,b,c,[_],rfl,by simp,ea,x,?_⟩
  refine ⟨_,rfl,_,rfl,a,C,b,c,rfl,ea,x,n0,fun dx hdx ne=>?_⟩
  exact k dx hdx ne
end
section
variable {P:Program} {w:World} {K:PySem.W.Frag} {mg:Str→Option Value} {base:Heap} {aB:Addr}
noncomputable abbrev i_band:Stmt:=cmem (top 3) 0
theorem sc_iband:FnScope ["self","letter"] ["self","letter"] (defScope i_band):=⟨rfl,rfl,rfl,by decide +kernel,rfl,by decide +kernel,by decide +kernel⟩
theorem c_iband {R C f:Addr}{fd:FuncData}(D:Fun K "__init__" "NoBand.__init__" i_band f fd)(B:XBase K R)(hR:mg "RingError" = some (.ref R))(x:XAt K C)(n0:PySem.W.findIn K (.ref C) "letter" = some none) :
  Binds K fd ["self","letter"] []∧FnOk P w K mg base CX0 1 f fd ["self","letter"] (spInit ["letter"] C):=by
 have sc:=sc_iband
 refine ⟨D.binds fun _ _ _ _ _ _ us hl=>match us,hl with | [_,_],_=>rfl,D.ok sc (fun vs H Q E h=>?_) (fun cdv A outer s H vs Q E hr h=>?_)⟩
 ·obtain ⟨a,ys,b,c,rfl,hl,_⟩:=h
  rw [List.length_cons,hl];rfl
 ·obtain ⟨a,ys,b,c,rfl,hl,ea,k⟩:=h
  match ys,hl with
  | [y],_ =>
  refine ⟨_,(@pss_cons _ _ _ _ _ (@ps_expr _ _ _ _ (@pe_initX _ _ _ _ _ _ _ _ _ _ B rfl hR (@pa_cons _ _ _ _ _ (pv 0) (@pa_cons _ _ _ _ _ pe_str pa_nil (by rfl)) (by rfl)) (by decide) (by rfl) (by rfl) (by rfl)) (by rfl))
   (@pss_one _ _ _ (@ps_fx0 _ _ _ _ _ _ _ _ (pv 0) (pv 1) (by rfl)))),?_⟩
  refine ⟨_,rfl,a,C,none,b,c,[_],rfl,by simp,ea,x,?_⟩
  refine ⟨_,rfl,_,rfl,a,C,b,c,rfl,ea,x,n0,fun dx hdx ne=>?_⟩
  exact k dx hdx ne
end
end Kx
namespace Kx
open PySem PySem.Spec PyProof.Rows L2 Wd
section
variable {P:Program} {w:World} {K:PySem.W.Frag} {mg:Str→Option Value} {base:Heap} {aB:Addr}
noncomputable abbrev s_law:Stmt:=top 47
theorem sc_law:FnScope ["_law_script","_law_feed_here","_law_k","_law_row","_law_letter"] ["_law_script"] (defScope s_law):=⟨rfl,rfl,rfl,by decide +kernel,rfl,by decide +kernel,by decide +kernel⟩
theorem c_law {f:Addr}{fd:FuncData}{N:Nat}{CB CS:Addr}(D:Fun K "law" "law" s_law f fd)(T:Bt K w mg aB)(F_feed:Fnc P w K mg base "_law_feed" ["_law_script"] 1 (spFeed K))(F_draw:Fnc P w K mg base "_law_draw" ["_law_feed_here","_law_many"] 1 spDraw)(F_surf:Fnc P w K mg base "_law_surface" ["_law_feed_here","_law_many"] 2 spSurfD)(F_glued:FncX P w K mg base "glued" ["surface","place","other"] 3 (spGlued CB CS))
  (F_hright:FncT P w K mg base "_law_holes_right" ["_law_row","_law_letter"] 5 (spHR72 N)) (F_wright:FncT P w K mg base "_law_ways_right" ["_law_feed_here","_law_row","_law_letter"] 7 (spWR72 N)):FnOkT P w K mg base CX0 9 f fd ["_law_script"] (spLaw70 K N):=by
 have sc:=sc_law
 refine D.okT sc (fun n vs H Q E h=>?_) (fun cdv A outer s H vs Q E hr h=>?_)
 ·obtain ⟨a,ns,rfl,_⟩:=h
  rfl
 ·obtain ⟨a,ns,rfl,hS,hlen,hN0,hN,k⟩:=h
  have l16:=line16
  refine ⟨_,(@pss_cons _ _ _ _ _ (@ps_set _ _ (1) _ _ _ _ sc.nd rfl (Or.inl rfl) (@pe_fn _ _ _ _ _ _ _ _ _ _ _ F_feed hr (by decide) rfl (@pa_cons _ _ _ _ _ (pv 0) pa_nil (by rfl)) (by decide) (by rfl) (by rfl)) (by rfl) (by first | exact .inl rfl | exact .inr rfl | assumption)) (@pss_cons _ _ _ _ _ (@ps_for _ _ _ _ _ _ _ _ PassesOwn.never rfl (@pi_range1 _ _ _ _ _ _ rfl T.range (@pa_cons _ _ _ _ _ pe_int pa_nil (by rfl)) (by rfl)) (@pg_name _ _ (2) _ sc.nd rfl (Or.inl rfl) (by first | exact .inl rfl | exact .inr rfl | assumption)) (@pss_cons _ _ _ _ _ (@ps_set _ _ (3) _ _ _ _ sc.nd rfl (Or.inl rfl) (@pe_fn _ _ _ _ _ _ _ _ _ _ _ F_surf hr (by decide) rfl (@pa_cons _ _ _ _ _ (pv 1) (@pa_cons _ _ _ _ _ (@pe_op _ _ _ _ _ _ _ _ op_add pe_int (@pe_fn _ _ _ _ _ _ _ _ _ _ _ F_draw hr (by decide) rfl (@pa_cons _ _ _ _ _ (pv 1) (@pa_cons _ _ _ _ _ pe_int pa_nil (by rfl)) (by rfl)) (by decide) (by rfl) (by rfl))) pa_nil (by rfl)) (by rfl)) (by decide) (by rfl) (by rfl)) (by rfl) (by first | exact .inl rfl | exact .inr rfl | assumption)) (@pss_cons _ _ _ _ _ (@ps_set _ _ (3) _ _ _ _ sc.nd rfl (Or.inl rfl) (@pe_fnX _ _ _ _ _ _ _ _ _ _ _ _ F_glued hr (by decide) passes_e0 rfl (@pa_cons _ _ _ _ _ (pv 3) (@pa_cons _ _ _ _ _ (@pe_fn _ _ _ _ _ _ _ _ _ _ _ F_draw hr (by decide) rfl (@pa_cons _ _ _ _ _ (pv 1) (@pa_cons _ _ _ _ _ (@pe_op _ _ _ _ _ _ _ _ op_add (@pe_callB _ _ _ _ _ _ _ _ _ call_len_str (by rfl) T.len PySem.boot_len (@pa_cons _ _ _ _ _ (pv 3) pa_nil (by rfl)) (by decide) (by decide) (by rfl) (by rfl)) pe_int) pa_nil (by rfl)) (by rfl)) (by decide) (by rfl) (by rfl)) (@pa_cons _ _ _ _ _ (@pe_fn _ _ _ _ _ _ _ _ _ _ _ F_draw hr (by decide) rfl (@pa_cons _ _ _ _ _ (pv 1) (@pa_cons _ _ _ _ _ (@pe_op _ _ _ _ _ _ _ _ op_add (@pe_callB _ _ _ _ _ _ _ _ _ call_len_str (by rfl) T.len PySem.boot_len (@pa_cons _ _ _ _ _ (pv 3) pa_nil (by rfl)) (by decide) (by decide) (by rfl) (by rfl)) pe_int) pa_nil (by rfl)) (by rfl)) (by decide) (by rfl) (by rfl)) pa_nil (by rfl)) (by rfl)) (by rfl)) (by decide) (by rfl) (by rfl)) (by rfl) (by first | exact .inl rfl | exact .inr rfl | assumption)) (@pss_one _ _ _ (ps_forT (k:=4) PassesOwn.never rfl (@pe_slice _ _ _ _ _ _ _ _ _ _ sl_str pe_str po_none (@po_some _ _ _ (@pe_op _ _ _ _ _ _ _ _ op_fdiv (@pe_callB _ _ _ _ _ _ _ _ _ call_len_str (by rfl) T.len PySem.boot_len (@pa_cons _ _ _ _ _ (pv 3) pa_nil (by rfl)) (by decide) (by decide) (by rfl) (by rfl)) pe_int))) sc.nd rfl (Or.inl rfl) (by first | exact .inl rfl | exact .inr rfl | assumption))))) (by intro _ ;rfl)) (@pss_one _ _ _ (@ps_ret _ _ _ _ pe_bl)))),?_⟩
  refine ⟨_,rfl,a,ns,rfl,hS,hlen,fun d H1 _ F1 s1=>?_⟩
  refine ⟨_,rfl,by decide,by decide,for_range (lo:=0) (n:=2) (fun i σ H'=>∃ (b2 b3 b4:Option V),σ = [some (.ref a),some (.ref d),b2,b3,b4]∧Fd H' d) ⟨none,none,none,rfl,F1⟩ ?_ ?_⟩
  rotate_left
  ·rintro σ H2 ⟨b2,b3,b4,rfl,F2⟩
   exact k _
  rintro i σ H2 hi ⟨b2,b3,b4,rfl,F2⟩
  refine ⟨_,rfl,_,rfl,d,_,rfl,F2,by decide,by decide,fun r H3 r0 r1 F3 sb3=>⟨_,_,rfl,rfl,?_⟩⟩
  obtain ⟨m,rfl⟩:=Int.eq_ofNat_of_zero_le r0
  rw [show 1+(m:Int)=((m+1:Nat):Int) by omega]
  refine ⟨d,m+1,rfl,F3,by omega,by omega,fun u H4 R hall F4 sb4=>?_⟩
  have hlu:=R.len
  have lu:=toS_length u
  refine ⟨_,rfl,_,rfl,_,rfl,toS u,rfl,by omega,_,_,rfl,rfl,d,_,rfl,F4,by omega,by omega,fun q H5 q0 q1 F5 sb5=>?_⟩
  refine ⟨_,rfl,_,rfl,toS u,rfl,by omega,_,_,rfl,rfl,d,_,rfl,F5,by omega,by omega,fun q' H6 q0' q1' F6 sb6=>?_⟩
  refine ⟨u,q,q',rfl,by omega,by omega,fun w9 hw H7 s7=>?_,fun hb=>?_,fun k hb=>?_⟩
  rotate_left
  ·rw [glu_ok (by omega) ⟨by omega,by omega⟩ ⟨by omega,by omega⟩] at hb;cases hb
  ·rw [glu_ok (by omega) ⟨by omega,by omega⟩ ⟨by omega,by omega⟩] at hb;cases hb
  rw [glu_ok (by omega) ⟨by omega,by omega⟩ ⟨by omega,by omega⟩,show u.length / 2=m+1 by omega] at hw
  cases hw
  have UV:=sk_row (p:=q.toNat) (q:=q'.toNat) R (by omega) (by omega)
  have hlv:=UV.len
  have F7:=F6.same s7
  generalize gluW u q.toNat q'.toNat (m+1)=v at UV hlv ⊢
  have lv:=toS_length v
  have asc:∀ k:Fin 7,((toS (sml ((k.val:Nat):Int))).cps.all fun x=>decide (x < 128))=true:=by decide +kernel
  refine ⟨⟨_,rfl,toS v,rfl,by omega,_,_,rfl,rfl,⟨by decide,by decide⟩,_,rfl,_,rfl,(by rw [len_sm];omega),?_⟩⟩
  rw [show ((toS v).length:Int) / 2=((m+2:Nat):Int) by omega,slice_sml (by omega)]
  refine ⟨_,rfl,asc ⟨m+2,by omega⟩,fun j σ H'=>∃ b4:Option V,σ = [some (.ref a),some (.ref d),some (.int (0+(i:Int))),some (tx v),b4]∧Fd H' d,⟨b4,rfl,F7⟩,?_,fun σ H' ⟨b4',e,F'⟩=>⟨_,_,_,e,F'⟩⟩
  rintro j σ H8 c hc ⟨b4',rfl,F8⟩ n9 t9 l1 l2
  obtain ⟨x,hx,e⟩:=sign_at hc
  rw [e]
  have l1:s.toks≤t9:=l1
  have mem_sml7:∀ (k:Fin 7) (x:L),x∈sml ((k.val:Nat):Int)→x.val < k.val∧x.val < 6:=by decide +kernel
  obtain ⟨hx1,hx6⟩:=mem_sml7 ⟨m+2,by omega⟩ x (List.mem_of_getElem? hx)
  refine ⟨_,(@pss_one _ _ _ (@ps_if _ _ _ _ _ _ _ _ (@PW.pt _ _ _ (@pw_or _ _ _ _ _ _ _ (@pt_not _ _ _ _ (@pt_truth _ _ _ (@pe_fnTL _ E0 _ _ _ _ (n9) _ _ _ _ _ _ rfl F_hright hr (by decide) passes_e0 rfl (@pa_cons _ _ _ _ _ (pv 3) (@pa_cons _ _ _ _ _ (pv 4) pa_nil (by rfl)) (by rfl)) (by decide) (by rfl) (by rfl)) (fun _=>rfl))) (@pw_or1 _ _ _ _ (@pt_not _ _ _ _ (@pt_truth _ _ _ (@pe_fnTL _ E0 _ _ _ _ (n9) _ _ _ _ _ _ rfl F_wright hr (by decide) passes_e0 rfl (@pa_cons _ _ _ _ _ (pv 1) (@pa_cons _ _ _ _ _ (pv 3) (@pa_cons _ _ _ _ _ (pv 4) pa_nil (by rfl)) (by rfl)) (by rfl)) (by decide) (by rfl) (by rfl)) (fun _=>rfl)))))) (@pss_one _ _ _ (@ps_ret _ _ _ _ pe_bl)) pss_nil)),?_⟩
  have t0:0 < t9:=Nat.lt_of_lt_of_le hN0 (Nat.le_trans hN l1)
  have hN9:N≤n9:=Nat.le_trans hN (Nat.le_trans l1 (Nat.le_of_lt l2))
  refine ⟨_,rfl,_,rfl,fun n10 l10=>⟨v,m+2,x,t9,rfl,hN0,Nat.le_trans hN9 l10,t0,Nat.lt_of_lt_of_le l2 l10,UV,by omega,hx1,fun H9 s9=>?_⟩⟩
  have F9:=F8.same s9
  refine ⟨true,rfl,nkT (orkF ?_)⟩
  refine ⟨_,rfl,_,rfl,_,rfl,fun n11 l11=>⟨d,v,m+2,x,t9,rfl,F9,hN0,Nat.le_trans hN9 l11,t0,Nat.lt_of_lt_of_le l2 l11,UV,by omega,hx1,fun H10 F10 sb10=>?_⟩⟩
  exact ⟨true,rfl,nkT (ifsF ⟨_,rfl,F10⟩)⟩
end
end Kx
namespace Kx
open PySem PySem.Spec PyProof.Rows L2 Wd
theorem df_mk {K:PySem.W.Frag}{h:Heap}{mg:Str→Option Value}{x:Str}{st:Stmt}{f:Addr}{oc:Value}{od an:Option Addr}{osl:Array (Option Value)}{kV doc pm cdv ct:Value}(X:K.In h)(G:h.Ns mainGlobals mg)(a:PySem.W.nsIn K mainGlobals x=some (some (.ref f)))
  (l:K.lookup f=some ⟨oc,od,.func (PySem.W.fnOf x x (defArgs st) (defBody st) (defScope st) .none kV doc pm an cdv ct),osl⟩) (c:PySem.W.codeIn K cdv x=true) (k:PySem.W.keepIn K (.ref f)=true):Df K mg x st:=⟨f,_,PySem.W.mg_of X G a,fun_mk l c k⟩
inductive DI (K:PySem.W.Frag)(x:Str)(st:Stmt):Prop
 | mk {f:Addr} {oc:Value} {od an:Option Addr} {osl:Array (Option Value)} {kV doc pm cdv ct:Value} (a:PySem.W.nsIn K mainGlobals x=some (some (.ref f))) (l:K.lookup f=some ⟨oc,od,.func (PySem.W.fnOf x x (defArgs st) (defBody st) (defScope st) .none kV doc pm an cdv ct),osl⟩) (c:PySem.W.codeIn K cdv x=true) (k:PySem.W.keepIn K (.ref f)=true):DI K x st
theorem DI.df {K:PySem.W.Frag}{h:Heap}{mg:Str→Option Value}{x:Str}{st:Stmt}(d:DI K x st)(X:K.In h)(G:h.Ns mainGlobals mg):Df K mg x st:=by
 cases d with
 | mk a l c k=>exact df_mk X G a l c k
inductive DL where
 | n
 | c (x:Str) (st:Stmt) (r:DL)
noncomputable def DIs (K:PySem.W.Frag):DL→Prop
 | .n=>True
 | .c x st r=>DI K x st∧DIs K r
theorem DIs.on {K:PySem.W.Frag}{x:Str}{st:Stmt}{r:DL}{f:Addr}{oc:Value}{od an:Option Addr}{osl:Array (Option Value)}{kV doc pm cdv ct:Value}(a:PySem.W.nsIn K mainGlobals x=some (some (.ref f)))(l:K.lookup f=some ⟨oc,od,.func (PySem.W.fnOf x x (defArgs st) (defBody st) (defScope st) .none kV doc pm an cdv ct),osl⟩)(c:PySem.W.codeIn K cdv x=true)(k:PySem.W.keepIn K (.ref f)=true)(hr:DIs K r):DIs K (.c x st r):=⟨.mk a l c k,hr⟩
theorem all_mk {l:PySem.W.OpenLaw}{w:World}{K:PySem.W.Frag}{h:Heap}{mg:Str→Option Value}{fa:Addr}(X:K.In h)(G:h.Ns mainGlobals mg)(hfa:mg "law" = some (.ref fa))
  {f33:Addr} {od33 an33:Option Addr} {sl33:Array (Option Value)} {oc33 kV33 dc33 pm33 cd33 ct33:Value} {N:Nat} {aB:Addr} {es:Array DictEntry} {en:Nat} {tS:Tok} {tE:Tok}   {CR:Addr} {ddCR:Option Addr} {cdCR:ClassData} {sCR0 sCR1 sCR2 sCR3 sCR5:Option Value}         {nsCR:Addr} {onCR:Value} {dnCR:Option Addr} {esCR:Array DictEntry} {nnCR:Nat} {snCR:Array (Option Value)}         {CT:Addr} {ddCT:Option Addr} {cdCT:ClassData} {sCT0 sCT1 sCT2 sCT3 sCT5:Option Value}          {fCT:Addr} {ocCT kVCT dcCT pmCT cvCT ctCT:Value} {odCT anCT:Option Addr} {slCT:Array (Option Value)}    {CB:Addr} {ddCB:Option Addr} {cdCB:ClassData} {sCB0 sCB1 sCB2 sCB3 sCB5:Option Value}          {fCB:Addr} {ocCB kVCB dcCB pmCB cvCB ctCB:Value} {odCB anCB:Option Addr} {slCB:Array (Option Value)}    {t0 t1 t2 t3 t4 t5 t6 t7 t8 t9 t10 t11:Tok}
  (hs:DIs K (.c "number_of" s_num <| .c "back" s_back <| .c "letters_of" s_let <| .c "round_from" s_rf <| .c "are_met_by_turns" s_met <| .c "cut" s_cut <| .c "cut_word" s_cutw <| .c "lowered" s_lowd <| .c "lower_letter" s_low <| .c "glued" s_glued <| .c "put_in" s_put <| .c "holes" s_holes <| .c "hole_from" s_hole <| .c "handles" s_handles <| .c "met" s_mets <| .c "links" s_links <| .c "links_at" s_lat <| .c "beside_at" s_bes <| .c "chord_ends" s_ce <| .c "along_at" s_alg <| .c "against_at" s_agn <| .c "stretch" s_str <| .c "is_parted" s_part <| .c "is_first" s_fst <| .c "_law_feed" s_feed <| .c "_law_draw" s_draw <| .c "_law_back" s_lback <| .c "_law_reduced" s_lred <| .c "_law_middle" s_mid <| .c "_law_surface" s_surf <| .c "_law_way" s_way <| .c "_law_holes_right" s_hright <| .c "_law_ways_right" s_wright <| .n))
  (a33:PySem.W.nsIn K mainGlobals "law" = some (some (.ref f33)))
  (l33:K.lookup f33=some ⟨oc33,od33,.func (PySem.W.fnOf "law" "law" (defArgs s_law) (defBody s_law) (defScope s_law) .none kV33 dc33 pm33 an33 cd33 ct33),sl33⟩)
  (c33:PySem.W.codeIn K cd33 "law" = true)
  (k33:PySem.W.keepIn K (.ref f33)=true)
  (z_len:PySem.W.nsIn K mainGlobals "len" = some none)
  (z_repr:PySem.W.nsIn K mainGlobals "repr" = some none)
  (z_abs:PySem.W.nsIn K mainGlobals "abs" = some none)
  (z_max:PySem.W.nsIn K mainGlobals "max" = some none)
  (z_int:PySem.W.nsIn K mainGlobals "int" = some none)
  (z_list:PySem.W.nsIn K mainGlobals "list" = some none)
  (z_range:PySem.W.nsIn K mainGlobals "range" = some none)
  (z_reversed:PySem.W.nsIn K mainGlobals "reversed" = some none)
  (z_min:PySem.W.nsIn K mainGlobals "min" = some none)
  (z_sorted:PySem.W.nsIn K mainGlobals "sorted" = some none)
  (z_tuple:PySem.W.nsIn K mainGlobals "tuple" = some none)
  (z_isinstance:PySem.W.nsIn K mainGlobals "isinstance" = some none)
  (z_all:PySem.W.nsIn K mainGlobals "all" = some none)
  (z_str:PySem.W.nsIn K mainGlobals "str" = some none)
  (z_zip:PySem.W.nsIn K mainGlobals "zip" = some none)
  (aBk:PySem.W.nsIn K mainGlobals "BACKS" = some (some (.ref aB)))
  (lB:K.lookup aB=some ⟨.type "dict",none,.dict es en,#[]⟩)
  (kB:PySem.W.KeysLit w.params es.toList)
  (aS:PySem.W.nsIn K mainGlobals "SMALL" = some (some (.str "abcdef" tS)))
  (aE:PySem.W.nsIn K mainGlobals "MOST_ENDS" = some (some (.int 12 tE)))
  (zV:PySem.W.nsIn K mainGlobals "ValueError" = some none)
  (zS:PySem.W.nsIn K mainGlobals "set" = some none)
  (aCR:PySem.W.nsIn K mainGlobals "RingError" = some (some (.ref CR)))
  (lCR:K.lookup CR=some ⟨.type "type",ddCR,.cls cdCR,#[sCR0,sCR1,sCR2,sCR3,some (.builtin "ValueError.__new__"),sCR5]⟩)
  (mCR:cdCR.mro = .ref CR::bmV)
  (eCR:cdCR.hasDel=false)
  (dCR:cdCR.hasDict=true)
  (kCR:PySem.W.keepIn K (.ref CR)=true)
  (saCR:PySem.W.findIn K (.ref CR) "__setattr__" = some (some (.builtin "object.__setattr__")))
  (gaCR:PySem.W.findIn K (.ref CR) "__getattribute__" = some (some (.builtin "BaseException.__getattribute__")))
  (gnCR:PySem.W.findIn K (.ref CR) "__getattr__" = some (none))
  (caCR:PySem.W.findIn K (.ref CR) "__class__" = some (some (.builtin "object.__class__")))
  (nCR:cdCR.ns=nsCR)
  (oCR:K.lookup nsCR=some ⟨onCR,dnCR,.dict esCR nnCR,snCR⟩)
  (pCR:(esCR.toList.all fun e=>match e.key with | .str _ _=>true | _=>false)=true)
  (qCR:PySem.W.nsIn K nsCR "__init__" = some none)
  (rdCR:PySem.W.readsIn K CR (.type "type")=true)
  (atCR:PySem.W.findCls K (.ref CR) (.type "type") "__init__" = some (.val (.builtin "ValueError.__init__")))
  (gtCR:PySem.W.specialIn K (.ref CR) "__getattribute__" = some (some (.builtin "type.__getattribute__")))
  (hdI:PySem.W.handedIn (.builtin "ValueError.__init__")=true)
  (cgt:PySem.W.specialIn K (.builtin "object.__class__") "__get__" = some (some (.builtin "getset_descriptor.__get__")))
  (ctk:PySem.W.takesIn K (.builtin "object.__class__")=some true)
  (aCT:PySem.W.nsIn K mainGlobals "NoSlide" = some (some (.ref CT)))
  (lCT:K.lookup CT=some ⟨.type "type",ddCT,.cls cdCT,#[sCT0,sCT1,sCT2,sCT3,some (.builtin "ValueError.__new__"),sCT5]⟩)
  (mCT:cdCT.mro = .ref CT :: .ref CR::bmV)
  (eCT:cdCT.hasDel=false)
  (dCT:cdCT.hasDict=true)
  (kCT:PySem.W.keepIn K (.ref CT)=true)
  (saCT:PySem.W.findIn K (.ref CT) "__setattr__" = some (some (.builtin "object.__setattr__")))
  (gaCT:PySem.W.findIn K (.ref CT) "__getattribute__" = some (some (.builtin "BaseException.__getattribute__")))
  (gnCT:PySem.W.findIn K (.ref CT) "__getattr__" = some (none))
  (caCT:PySem.W.findIn K (.ref CT) "__class__" = some (some (.builtin "object.__class__")))
  (xCT0:PySem.W.findIn K (.ref CT) "place" = some none)
  (iCT:PySem.W.findIn K (.ref CT) "__init__" = some (some (.ref fCT)))
  (uCT:K.lookup fCT=some ⟨ocCT,odCT,.func (PySem.W.fnOf "__init__" "NoSlide.__init__" (defArgs i_slide) (defBody i_slide) (defScope i_slide) .none kVCT dcCT pmCT anCT cvCT ctCT),slCT⟩)
  (vCT:PySem.W.codeIn K cvCT "NoSlide.__init__" = true)
  (wCT:PySem.W.keepIn K (.ref fCT)=true)
  (jCT:PySem.W.isFn K (.ref fCT)=true)
  (aCB:PySem.W.nsIn K mainGlobals "NoBand" = some (some (.ref CB)))
  (lCB:K.lookup CB=some ⟨.type "type",ddCB,.cls cdCB,#[sCB0,sCB1,sCB2,sCB3,some (.builtin "ValueError.__new__"),sCB5]⟩)
  (mCB:cdCB.mro = .ref CB :: .ref CR::bmV)
  (eCB:cdCB.hasDel=false)
  (dCB:cdCB.hasDict=true)
  (kCB:PySem.W.keepIn K (.ref CB)=true)
  (saCB:PySem.W.findIn K (.ref CB) "__setattr__" = some (some (.builtin "object.__setattr__")))
  (gaCB:PySem.W.findIn K (.ref CB) "__getattribute__" = some (some (.builtin "BaseException.__getattribute__")))
  (gnCB:PySem.W.findIn K (.ref CB) "__getattr__" = some (none))
  (caCB:PySem.W.findIn K (.ref CB) "__class__" = some (some (.builtin "object.__class__")))
  (xCB0:PySem.W.findIn K (.ref CB) "letter" = some none)
  (iCB:PySem.W.findIn K (.ref CB) "__init__" = some (some (.ref fCB)))
  (uCB:K.lookup fCB=some ⟨ocCB,odCB,.func (PySem.W.fnOf "__init__" "NoBand.__init__" (defArgs i_band) (defBody i_band) (defScope i_band) .none kVCB dcCB pmCB anCB cvCB ctCB),slCB⟩)
  (vCB:PySem.W.codeIn K cvCB "NoBand.__init__" = true)
  (wCB:PySem.W.keepIn K (.ref fCB)=true)
  (jCB:PySem.W.isFn K (.ref fCB)=true)
  (gl0:PySem.W.nsIn K aB "a" = some (some (.str "A" t0)))
  (gl1:PySem.W.nsIn K aB "b" = some (some (.str "B" t1)))
  (gl2:PySem.W.nsIn K aB "c" = some (some (.str "C" t2)))
  (gl3:PySem.W.nsIn K aB "d" = some (some (.str "D" t3)))
  (gl4:PySem.W.nsIn K aB "e" = some (some (.str "E" t4)))
  (gl5:PySem.W.nsIn K aB "f" = some (some (.str "F" t5)))
  (gl6:PySem.W.nsIn K aB "A" = some (some (.str "a" t6)))
  (gl7:PySem.W.nsIn K aB "B" = some (some (.str "b" t7)))
  (gl8:PySem.W.nsIn K aB "C" = some (some (.str "c" t8)))
  (gl9:PySem.W.nsIn K aB "D" = some (some (.str "d" t9)))
  (gl10:PySem.W.nsIn K aB "E" = some (some (.str "e" t10)))
  (gl11:PySem.W.nsIn K aB "F" = some (some (.str "f" t11)))
  (tb0:0 < t0∧t0 < N)
  (tb1:0 < t1∧t1 < N)
  (tb2:0 < t2∧t2 < N)
  (tb3:0 < t3∧t3 < N)
  (tb4:0 < t4∧t4 < N)
  (tb5:0 < t5∧t5 < N)
  (tb6:0 < t6∧t6 < N)
  (tb7:0 < t7∧t7 < N)
  (tb8:0 < t8∧t8 < N)
  (tb9:0 < t9∧t9 < N)
  (tb10:0 < t10∧t10 < N)
  (tb11:0 < t11∧t11 < N) :
  ∃ fd:FuncData,(∀ (s:Shared) (v:Value),BindsTo s fd ⟨[v],[]⟩ [("_law_script",v)])∧∀ base:Heap,K.In base→base.Ns mainGlobals mg→FnOkT l.prog w K mg base CX0 9 fa fd ["_law_script"] (spLaw70 K N):=by
 have e:=hfa.symm.trans (PySem.W.mg_of X G a33)
 cases e
 have gB:∀ x:L,∃ t,PySem.W.nsIn K aB (toS [x])=some (some (.str (toS [inv x]) t)):=by
  have q:∀ (x:L) (u v:Str) (t:Tok),PySem.W.nsIn K aB u=some (some (.str v t))→toS [x]=u→toS [inv x]=v→∃ t,PySem.W.nsIn K aB (toS [x])=some (some (.str (toS [inv x]) t)):=fun x u v t g e1 e2=>⟨t,by rw [e1,e2];exact g⟩
  intro x
  match x with
  | ⟨0,_⟩=>exact q 0 "a" "A" _ gl0 (by decide +kernel) (by decide +kernel)
  | ⟨1,_⟩=>exact q 1 "b" "B" _ gl1 (by decide +kernel) (by decide +kernel)
  | ⟨2,_⟩=>exact q 2 "c" "C" _ gl2 (by decide +kernel) (by decide +kernel)
  | ⟨3,_⟩=>exact q 3 "d" "D" _ gl3 (by decide +kernel) (by decide +kernel)
  | ⟨4,_⟩=>exact q 4 "e" "E" _ gl4 (by decide +kernel) (by decide +kernel)
  | ⟨5,_⟩=>exact q 5 "f" "F" _ gl5 (by decide +kernel) (by decide +kernel)
  | ⟨6,_⟩=>exact q 6 "A" "a" _ gl6 (by decide +kernel) (by decide +kernel)
  | ⟨7,_⟩=>exact q 7 "B" "b" _ gl7 (by decide +kernel) (by decide +kernel)
  | ⟨8,_⟩=>exact q 8 "C" "c" _ gl8 (by decide +kernel) (by decide +kernel)
  | ⟨9,_⟩=>exact q 9 "D" "d" _ gl9 (by decide +kernel) (by decide +kernel)
  | ⟨10,_⟩=>exact q 10 "E" "e" _ gl10 (by decide +kernel) (by decide +kernel)
  | ⟨11,_⟩=>exact q 11 "F" "f" _ gl11 (by decide +kernel) (by decide +kernel)
 have T:Bt K w mg aB:=⟨PySem.W.mg_none_of X G z_len,PySem.W.mg_none_of X G z_repr,PySem.W.mg_none_of X G z_abs,PySem.W.mg_none_of X G z_max,PySem.W.mg_none_of X G z_int,PySem.W.mg_none_of X G z_list,PySem.W.mg_none_of X G z_range,PySem.W.mg_none_of X G z_reversed,PySem.W.mg_none_of X G z_min,PySem.W.mg_none_of X G z_sorted,PySem.W.mg_none_of X G z_tuple,PySem.W.mg_none_of X G z_isinstance,PySem.W.mg_none_of X G z_all,PySem.W.mg_none_of X G z_str,PySem.W.mg_none_of X G z_zip,PySem.W.mg_of X G aBk,⟨es,en,lB,kB⟩,gB⟩
 have S:∃ t,mg "SMALL" = some (.str "abcdef" t):=⟨_,PySem.W.mg_of X G aS⟩
 have ME:∃ t,mg "MOST_ENDS" = some (.int 12 t):=⟨_,PySem.W.mg_of X G aE⟩
 have gT:∀ x:L,∃ t,0 < t∧t < N∧PySem.W.nsIn K aB (toS [x])=some (some (.str (toS [inv x]) t)):=by
  have q:∀ (x:L) (u v:Str) (t:Tok),PySem.W.nsIn K aB u=some (some (.str v t))→(0 < t∧t < N)→toS [x]=u→toS [inv x]=v→∃ t,0 < t∧t < N∧PySem.W.nsIn K aB (toS [x])=some (some (.str (toS [inv x]) t)):=fun x u v t g b e1 e2=>⟨t,b.1,b.2,by rw [e1,e2];exact g⟩
  intro x
  match x with
  | ⟨0,_⟩=>exact q 0 "a" "A" _ gl0 tb0 (by decide +kernel) (by decide +kernel)
  | ⟨1,_⟩=>exact q 1 "b" "B" _ gl1 tb1 (by decide +kernel) (by decide +kernel)
  | ⟨2,_⟩=>exact q 2 "c" "C" _ gl2 tb2 (by decide +kernel) (by decide +kernel)
  | ⟨3,_⟩=>exact q 3 "d" "D" _ gl3 tb3 (by decide +kernel) (by decide +kernel)
  | ⟨4,_⟩=>exact q 4 "e" "E" _ gl4 tb4 (by decide +kernel) (by decide +kernel)
  | ⟨5,_⟩=>exact q 5 "f" "F" _ gl5 tb5 (by decide +kernel) (by decide +kernel)
  | ⟨6,_⟩=>exact q 6 "A" "a" _ gl6 tb6 (by decide +kernel) (by decide +kernel)
  | ⟨7,_⟩=>exact q 7 "B" "b" _ gl7 tb7 (by decide +kernel) (by decide +kernel)
  | ⟨8,_⟩=>exact q 8 "C" "c" _ gl8 tb8 (by decide +kernel) (by decide +kernel)
  | ⟨9,_⟩=>exact q 9 "D" "d" _ gl9 tb9 (by decide +kernel) (by decide +kernel)
  | ⟨10,_⟩=>exact q 10 "E" "e" _ gl10 tb10 (by decide +kernel) (by decide +kernel)
  | ⟨11,_⟩=>exact q 11 "F" "f" _ gl11 tb11 (by decide +kernel) (by decide +kernel)
 have XCR:XCl K CR bmV:=xcl_of lCR mCR eCR dCR tail_base kCR
 have ACR:XAt K CR:=⟨⟨_,XCR⟩,saCR,gaCR,gnCR⟩
 have GCR:mg "RingError" = some (.ref CR):=PySem.W.mg_of X G aCR
 have BCR:XBase K CR:=⟨rdCR,atCR,gtCR,hdI⟩
 have XCT:XCl K CT (.ref CR::bmV):=xcl_of lCT mCT eCT dCT (tail_own lCR (by rw [nCR];exact nsok_of oCR pCR) (by rw [nCR];exact qCR) tail_base) kCT
 have ACT:XAt K CT:=⟨⟨_,XCT⟩,saCT,gaCT,gnCT⟩
 have CCT:XCa K CT:=⟨ACT,caCT,cgt,ctk⟩
 have ICT:=fun base:Heap=>c_islide (P:=l.prog) (w:=w) (mg:=mg) (base:=base) (fun_mk uCT vCT wCT) BCR GCR ACT xCT0
 have MCT:∀ base:Heap,XMk l.prog w K mg base "NoSlide" CT ["place"] 1:=fun base=>⟨PySem.W.mg_of X G aCT,CCT,by intro f hf;simp only [List.mem_cons,List.not_mem_nil,or_false] at hf;rcases hf with rfl <;> assumption,⟨_,_,_,XCT,iCT,jCT,(ICT base).1,(ICT base).2⟩⟩
 have XCB:XCl K CB (.ref CR::bmV):=xcl_of lCB mCB eCB dCB (tail_own lCR (by rw [nCR];exact nsok_of oCR pCR) (by rw [nCR];exact qCR) tail_base) kCB
 have ACB:XAt K CB:=⟨⟨_,XCB⟩,saCB,gaCB,gnCB⟩
 have CCB:XCa K CB:=⟨ACB,caCB,cgt,ctk⟩
 have ICB:=fun base:Heap=>c_iband (P:=l.prog) (w:=w) (mg:=mg) (base:=base) (fun_mk uCB vCB wCB) BCR GCR ACB xCB0
 have MCB:∀ base:Heap,XMk l.prog w K mg base "NoBand" CB ["letter"] 1:=fun base=>⟨PySem.W.mg_of X G aCB,CCB,by intro f hf;simp only [List.mem_cons,List.not_mem_nil,or_false] at hf;rcases hf with rfl <;> assumption,⟨_,_,_,XCB,iCB,jCB,(ICB base).1,(ICB base).2⟩⟩
 have Tset:mg "set" = none:=PySem.W.mg_none_of X G zS
 refine ⟨PySem.W.fnOf "law" "law" (defArgs s_law) (defBody s_law) (defScope s_law) .none kV33 dc33 pm33 an33 cd33 ct33,fun s v=>.of_eq rfl,fun base _ _=>?_⟩
 obtain ⟨h0,h1,h2,h3,h4,h5,h6,h7,h8,h9,h10,h11,h12,h13,h14,h15,h16,h17,h18,h19,h20,h21,h22,h23,h24,h25,h26,h27,h28,h29,h30,h31,h32,_⟩:=hs
 have F_num:=c_num (P:=l.prog) (w:=w) (base:=base) (h0.df X G) T S
 have F_back:=c_back (P:=l.prog) (w:=w) (base:=base) (h1.df X G) T
 have F_backT:=c_backT (P:=l.prog) (w:=w) (base:=base) (h1.df X G) T gT
 have F_let:=c_let (P:=l.prog) (w:=w) (base:=base) (h2.df X G) T S
 have F_low:=c_low (P:=l.prog) (w:=w) (base:=base) (h8.df X G) T S F_num F_back
 have F_lowd:=c_lowd (P:=l.prog) (w:=w) (base:=base) (h7.df X G) T F_low
 have F_cut:=c_cut (P:=l.prog) (w:=w) (base:=base) (h5.df X G) T (MCB _) F_let F_backT F_lowd
 have F_cutw:=c_cutw (P:=l.prog) (w:=w) (base:=base) (h6.df X G) T F_back F_lowd
 have F_put:=c_put (P:=l.prog) (w:=w) (base:=base) (h10.df X G)
 have F_glued:=c_glued (P:=l.prog) (w:=w) (base:=base) (h9.df X G) T S ME (MCB _) (MCT _) F_put F_back
 have F_hole:=c_hole (P:=l.prog) (w:=w) (base:=base) (h12.df X G) T F_back
 have F_holes:=c_holes (P:=l.prog) (w:=w) (base:=base) (h11.df X G) T F_hole
 have F_handles:=c_handles (P:=l.prog) (w:=w) (base:=base) (h13.df X G) T F_holes
 have F_mets:=c_mets (P:=l.prog) (w:=w) (base:=base) (h14.df X G) T F_back
 have F_rf:=c_rf (P:=l.prog) (w:=w) (base:=base) (h3.df X G) T
 have F_fst:=c_fst (P:=l.prog) (w:=w) (base:=base) (h23.df X G) T F_rf
 have F_ce:=c_ce (P:=l.prog) (w:=w) (base:=base) (h18.df X G) T F_back F_mets
 have F_str:=c_str (P:=l.prog) (w:=w) (base:=base) (h21.df X G) T F_mets
 have F_part:=c_part (P:=l.prog) (w:=w) (base:=base) (h22.df X G) T F_back F_mets F_fst
 have F_alg:=c_alg (P:=l.prog) (w:=w) (base:=base) (h19.df X G) T F_str F_part
 have F_agn:=c_agn (P:=l.prog) (w:=w) (base:=base) (h20.df X G) T F_str F_part
 have F_met:=c_met (P:=l.prog) (w:=w) (base:=base) (h4.df X G) T
 have F_bes:=c_bes (P:=l.prog) (w:=w) (base:=base) (h17.df X G) T Tset F_ce F_met
 have F_lat:=c_lat (P:=l.prog) (w:=w) (base:=base) (h16.df X G) T F_agn F_alg F_bes
 have F_links:=c_links (P:=l.prog) (w:=w) (base:=base) (h15.df X G) T F_lat
 have F_feed:=c_feed (P:=l.prog) (w:=w) (base:=base) (h24.df X G) T
 have F_draw:=c_draw (P:=l.prog) (w:=w) (base:=base) (h25.df X G) T
 have F_lback:=c_lback (P:=l.prog) (w:=w) (base:=base) (h26.df X G)
 have F_lred:=c_lred (P:=l.prog) (w:=w) (base:=base) (h27.df X G) T F_lback
 have F_mid:=c_mid (P:=l.prog) (w:=w) (base:=base) (h28.df X G) T F_lback F_lred
 have F_surf:=c_surf (P:=l.prog) (w:=w) (base:=base) (h29.df X G) T F_draw
 have F_way:=c_way (P:=l.prog) (w:=w) (base:=base) (h30.df X G) T F_draw F_mid
 have F_hright:=c_hright (P:=l.prog) (w:=w) (base:=base) (h31.df X G) T F_holes F_handles F_cut F_glued
 have F_wright:=c_wright (P:=l.prog) (w:=w) (base:=base) (h32.df X G) T F_way F_cut F_cutw F_back F_lback F_links
 exact c_law (fun_mk l33 c33 k33) T F_feed F_draw F_surf F_glued F_hright F_wright
theorem walk {l:PySem.W.OpenLaw}{q:Program}{loose:List Str}{XP:(Str→Option Value)→Heap→Prop}{d:DefRec}{K:Params→PySem.W.Frag}{as:List Addr}{n0 t0:Nat}(he:∀ P,as=(K P).map (·.1))(hn:l.most=some 63)(hdf:d.params.defaults=[])(h0:0 < t0)
  (F:∀ (w:World) (mg:Str→Option Value) (fa:Addr) (h:Heap),(K w.params).In h→h.Ns mainGlobals mg→mg d.name=some (.ref fa) →
   ∃ fd:FuncData,(∀ (s:Shared) (u:Value),BindsTo s fd ⟨[u],[]⟩ [("_law_script",u)])∧∀ base:Heap,(K w.params).In base→base.Ns mainGlobals mg→FnOkT l.prog w (K w.params) mg base CX0 9 fa fd ["_law_script"] (spLaw70 (K w.params) t0)) :
  PySem.W.WalkX q loose XP (PySem.W.X.obsZ as) (PySem.W.X.valZ K n0 t0) l.row.toRowW d [] (fun f vs=>PySem.call f vs) :=
 L2.walk_ofX (n:=63) (k:=9) (x:="_law_script") (CX:=fun _=>CX0) (sp:=fun w=>spLaw70 (K w.params) t0) he hn (by decide) hdf ⟨rfl,by decide,by decide,rfl⟩ F (fun w m H a ns hm hl _ hS=>⟨a,ns,rfl,hS,hl,h0,hm,fun _=>rfl⟩) fun _ _ _ _ _ z=>z
end Kx
open PySem PySem.W PyProof.Rows
set_option maxRecDepth 100000 in
set_option maxHeartbeats 0 in
theorem PySem.Challenge.cw_ringwords_k72_whole_cut_and_glued_holds : PySem.Challenge.rw_ringwords_k72_whole_cut_and_glued.Holds := by
 w_on; o_law; z_head; (case hw=>w_witness2)
 k_fill
 refine Kx.walk (l:=PySem.Challenge.rw_ringwords_k72_whole_cut_and_glued) (fun _=>rfl) rfl rfl (by decide) ?F
 case F =>
  intro w mg fa h KX G hmg
  refine' Kx.all_mk KX G hmg ?hs ?a33 ?l33 ?c33 ?k33 ?z_len ?z_repr ?z_abs ?z_max ?z_int ?z_list ?z_range ?z_reversed ?z_min ?z_sorted ?z_tuple ?z_isinstance ?z_all ?z_str ?z_zip ?aBk ?lB ?kB ?aS ?aE ?zV ?zS ?aCR ?lCR ?mCR ?eCR ?dCR ?kCR ?saCR ?gaCR ?gnCR ?caCR ?nCR ?oCR ?pCR ?qCR ?rdCR ?atCR ?gtCR ?hdI ?cgt ?ctk ?aCT ?lCT ?mCT ?eCT ?dCT ?kCT ?saCT ?gaCT ?gnCT ?caCT ?xCT0 ?iCT ?uCT ?vCT ?wCT ?jCT ?aCB ?lCB ?mCB ?eCB ?dCB ?kCB ?saCB ?gaCB ?gnCB ?caCB ?xCB0 ?iCB ?uCB ?vCB ?wCB ?jCB ?gl0 ?gl1 ?gl2 ?gl3 ?gl4 ?gl5 ?gl6 ?gl7 ?gl8 ?gl9 ?gl10 ?gl11 ?tb0 ?tb1 ?tb2 ?tb3 ?tb4 ?tb5 ?tb6 ?tb7 ?tb8 ?tb9 ?tb10 ?tb11
  (case hs=>(iterate 33 (refine' Kx.DIs.on ?_ ?_ ?_ ?_ ?_; rotate_left 10; k_is; k_is; k_is; k_is)); exact trivial)
  (case a33 | l33 | c33 | k33 | z_len | z_repr | z_abs | z_max | z_int | z_list | z_range | z_reversed | z_min | z_sorted | z_tuple | z_isinstance | z_all | z_str | z_zip | aBk | lB=>k_is)
  (case kB=>exact ⟨⟨_,_,rfl,rfl⟩,⟨_,_,rfl,rfl⟩,⟨_,_,rfl,rfl⟩,⟨_,_,rfl,rfl⟩,⟨_,_,rfl,rfl⟩,⟨_,_,rfl,rfl⟩,⟨_,_,rfl,rfl⟩,⟨_,_,rfl,rfl⟩,⟨_,_,rfl,rfl⟩,⟨_,_,rfl,rfl⟩,⟨_,_,rfl,rfl⟩,⟨_,_,rfl,rfl⟩,trivial⟩)
  (case aS | aE | zV | zS | aCR | lCR=>k_is)
  (case mCR | eCR | dCR=>rfl)
  (case kCR | saCR | gaCR | gnCR | caCR=>k_is)
  (case nCR=>rfl)
  (case oCR=>k_is)
  (case pCR=>rfl)
  (case qCR | rdCR | atCR | gtCR=>k_is)
  (case hdI=>rfl)
  (case cgt | ctk | aCT | lCT=>k_is)
  (case mCT | eCT | dCT=>rfl)
  (case kCT | saCT | gaCT | gnCT | caCT | xCT0 | iCT | uCT | vCT | wCT | jCT | aCB | lCB=>k_is)
  (case mCB | eCB | dCB=>rfl)
  (case kCB | saCB | gaCB | gnCB | caCB | xCB0 | iCB | uCB | vCB | wCB | jCB | gl0 | gl1 | gl2 | gl3 | gl4 | gl5 | gl6 | gl7 | gl8 | gl9 | gl10 | gl11=>k_is)
  (case tb0 | tb1 | tb2 | tb3 | tb4 | tb5 | tb6 | tb7 | tb8 | tb9 | tb10 | tb11=>decide)
