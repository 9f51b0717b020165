import PyProof.Rows.All
import Wide.All
import OpenK.AllK
import Wide.FinOn
import Lean
import PyProof.EqAt
import PyProof.EqKinds
import PyProof.TupleCall
import KE.KRevIter
import PyProof.Rows.SortShellK
import PyProof.FString5
import PyProof.NeData
import PyProof.TupleOfStr
import PyProof.IsRules
import PyProof.ListRange
import PyProof.FactsAll.tuple_3
import PyProof.ExcInit
import PyProof.InstStoreFacts
import PyProof.NsDelKeeps
import PyProof.DictWalks
import PyProof.Rows.DictUnroll
import PyProof.WalkInts
import PySem.Challenge.RW_ringwords_k18_refused_where_thick
set_option Elab.async false
set_option linter.all false
set_option maxRecDepth 100000
namespace L2
open PySem PySem.Spec PyProof.Rows
noncomputable abbrev Key:=Sum Int Str
noncomputable def keyIs:Key→Value→Bool
 | .inl k,v=>Value.isInt k v
 | .inr x,v=>Value.isStrOf x v
noncomputable def keyH (w:World):Key→Int
 | .inl k=>hashInt k
 | .inr x=>hashStr w x
theorem za7:∀ {k:Key} {v:Value},keyIs k v=true→(∃ i t,k=Sum.inl i∧v=Value.int i t) ∨ (∃ x t,k=Sum.inr x∧v=Value.str x t)
 | .inl i,v,h=>by
  obtain ⟨t,e⟩:=Value.isInt_shape (k:=i) (v:=v) h
  exact .inl ⟨i,t,rfl,e⟩
 | .inr x,v,h=>by
  obtain ⟨t,e⟩:=Value.isStrOf_shape (x:=x) (v:=v) h
  exact .inr ⟨x,t,rfl,e⟩
theorem zje (i:Int)(t:Tok):keyIs (.inl i) (.int i t)=true:=by simp [keyIs,Value.isInt]
theorem zjf (x:Str)(t:Tok):keyIs (.inr x) (.str x t)=true:=by simp [keyIs,Value.isStrOf]
theorem key_ll (a b:Int):decide ((Sum.inl a:Key)=Sum.inl b)=(a == b):=by
 by_cases e:a=b
 ·subst e;simp
 ·have h:¬ (Sum.inl a:Key)=Sum.inl b:=fun q=>e (Sum.inl.inj q)
  rw [decide_eq_false h]
  exact (beq_eq_false_iff_ne.mpr e).symm
theorem key_rr (a b:Str):decide ((Sum.inr a:Key)=Sum.inr b)=decide (a=b):=by
 by_cases e:a=b
 ·subst e;simp
 ·have h:¬ (Sum.inr a:Key)=Sum.inr b:=fun q=>e (Sum.inr.inj q)
  rw [decide_eq_false h,decide_eq_false e]
theorem key_lr (a:Int)(b:Str):decide ((Sum.inl a:Key)=Sum.inr b)=false:=decide_eq_false (fun q=>nomatch q)
theorem key_rl (a:Str)(b:Int):decide ((Sum.inr a:Key)=Sum.inl b)=false:=decide_eq_false (fun q=>nomatch q)
noncomputable def mixKind (prog:Program)(w:World):PySem.KeyKind prog w Key where
 is:=keyIs
 hash:=keyH w
 inj:=fun v a b ha hb=>by
  rcases za7 ha with ⟨i,t,rfl,rfl⟩ | ⟨x,t,rfl,rfl⟩
  ·rcases za7 hb with ⟨j,u,rfl,e⟩ | ⟨y,u,rfl,e⟩
   ·injection e with e1 _;rw [e1]
   ·exact nomatch e
  ·rcases za7 hb with ⟨j,u,rfl,e⟩ | ⟨y,u,rfl,e⟩
   ·exact nomatch e
   ·injection e with e1 _;rw [e1]
 byValue:=fun k v h=>by
  rcases za7 h with ⟨i,t,rfl,rfl⟩ | ⟨x,t,rfl,rfl⟩ <;> rfl
 pyHash:=fun hv h=>by
  rcases za7 hv with ⟨i,t,rfl,rfl⟩ | ⟨x,t,rfl,rfl⟩
  ·exact wpAny_pyHash_int h
  ·exact wpAny_pyHash_str h
 eqBool:=fun hu hv h=>by
  rcases za7 hu with ⟨i,t,rfl,rfl⟩ | ⟨x,t,rfl,rfl⟩
  ·rcases za7 hv with ⟨j,u,rfl,rfl⟩ | ⟨y,u,rfl,rfl⟩
   ·rw [key_ll] at h;exact wpAny_eqBool_int h
   ·rw [key_lr] at h;exact SeqAt.EqAt.int_str i t y u _ _ _ _ h
  ·rcases za7 hv with ⟨j,u,rfl,rfl⟩ | ⟨y,u,rfl,rfl⟩
   ·rw [key_rl] at h;exact SeqAt.EqAt.str_int x t j u _ _ _ _ h
   ·rw [key_rr] at h;exact wpAny_eqBool_str h
 «strs»:=fun k x t v h=>by
  rcases za7 h with ⟨i,u,rfl,e⟩ | ⟨y,u,rfl,e⟩
  ·exact nomatch e
  ·injection e with e1 _
   subst e1
   cases v <;> rfl
theorem zhd (prog:Program)(w:World)(i:Int)(t:Tok):(mixKind prog w).is (.inl i) (.int i t)=true:=zje i t
theorem zhe (prog:Program)(w:World)(x:Str)(t:Tok):(mixKind prog w).is (.inr x) (.str x t)=true:=zjf x t
end L2
namespace L2
open PySem PySem.Spec PyProof.Rows
inductive V where
 | non | bl (b:Bool) | int (i:Int) | str (x:Str) | byt (b:Array UInt8) | flt (b:UInt64) | ref (a:Addr) | ty (n:String)
 deriving DecidableEq
noncomputable def RelV:V→Value→Prop
 | .non,u=>u=Value.none
 | .bl b,u=>u=Value.bool b
 | .int i,u=>∃ t,u=Value.int i t
 | .str x,u=>∃ t,u=Value.str x t
 | .byt b,u=>∃ t,u=Value.bytes b t
 | .flt b,u=>∃ t,u=Value.float b t
 | .ref a,u=>u=Value.ref a
 | .ty n,u=>u=Value.type n
noncomputable abbrev Vals:List V→List Value→Prop:=Paired RelV
theorem Vals.length {xs:List V}{us:List Value}(r:Vals xs us):xs.length=us.length:=Paired.length r
theorem Vals.get:∀ {xs:List V} {us:List Value} {i:Nat} {x:V},Vals xs us→xs[i]? = some x→∃ u,us[i]? = some u∧RelV x u
 | _,_,_,_,.nil,e=>by simp at e
 | _,_,0,_,.cons r _,e=>by simp at e;subst e;exact ⟨_,rfl,r⟩
 | _,_,i+1,x,.cons _ t,e=>by
  obtain ⟨u,h1,h2⟩:=Vals.get (i:=i) (x:=x) t (by simpa using e)
  exact ⟨u,by simpa using h1,h2⟩
theorem Vals.append:∀ {xs ys:List V} {us ws:List Value},Vals xs us→Vals ys ws→Vals (xs++ys) (us++ws)
 | _,_,_,_,.nil,s=>s
 | _,_,_,_,.cons r t,s=>.cons r (Vals.append t s)
theorem Vals.take:∀ {xs:List V} {us:List Value} (n:Nat),Vals xs us→Vals (xs.take n) (us.take n)
 | _,_,0,_=>.nil
 | _,_,_+1,.nil=>.nil
 | _,_,n+1,.cons r t=>.cons r (Vals.take n t)
theorem Vals.drop:∀ {xs:List V} {us:List Value} (n:Nat),Vals xs us→Vals (xs.drop n) (us.drop n)
 | _,_,0,r=>r
 | _,_,_+1,.nil=>.nil
 | _,_,n+1,.cons _ t=>Vals.drop n t
noncomputable def RelO:Option V→Option Value→Prop
 | some v,some u=>RelV v u
 | none,none=>True
 | _,_=>False
noncomputable def KV {κ:Type}:List (κ × V)→List (κ × Value)→Prop:=Paired fun (p:κ × V) (q:κ × Value)=>p.1=q.1∧RelV p.2 q.2
noncomputable def kV:Key→V
 | .inl i=>.int i
 | .inr x=>.str x
inductive HO where
 | lst (xs:List V)
 | tup (xs:List V)
 | dK (kvs:List (Key × V)) | dT (kvs:List (List Key × V))
 | set (S:Int→Bool) (n:Nat)
 | ins (C dx:Addr) (fs:List (Str × V))
 | own (x:Addr)
 | xd (fs:List (Str × V))
 | met (f x:Addr)
 | rng (lo hi:Int)
 | frz (o:Obj) (u:HO)
 | tbl (ps:Array Value)
 | ext (φ:Heap→Prop)
noncomputable abbrev Hp:=Addr→Option HO
noncomputable def upd (H:Hp)(a:Addr)(o:HO):Hp:=fun b=>if b=a then some o else H b
theorem zac {H:Hp}{a:Addr}{o:HO}:upd H a o a=some o:=by unfold upd; rw [if_pos rfl]
theorem zai {H:Hp}{a b:Addr}{o:HO}(h:b≠a):upd H a o b=H b:=by unfold upd; rw [if_neg h]
theorem zcx {H:Hp}{a:Addr}{o u:HO}:upd (upd H a o) a u=upd H a u:=by
 funext b;unfold upd;split <;> rfl
theorem zjg {H:Hp}{a b:Addr}{o u:HO}(h:H a=some o)(h':H b=some u)(d:o≠u):a≠b:=by
 intro e;subst e;rw [h] at h';exact d (Option.some.inj h')
theorem zah {H:Hp}{a b:Addr}{o:HO}(h:H a=some o)(h':H b=none):a≠b:=by
 intro e;subst e;rw [h] at h';cases h'
section
variable (P:Program) (w:World)
noncomputable def NoD (h:Heap)(a:Addr):Prop:=∃ o,h.get? a=some o∧o.dict=none
theorem NoD.new (h:Heap)(o:Obj)(e:o.dict=none)(hf:o.isFreed=false:=by rfl):NoD (h.push o) h.objs.size:=⟨o,Heap.get?_push_size _ hf,e⟩
noncomputable def ObjOk (H:Hp)(h:Heap)(a:Addr):HO→Prop
 | .lst xs=>xs.length≤sizeLine∧∃ (its:List Value) (n:Nat),Vals xs its∧h.get? a=some { cls:=.type "list",data:=.seq its.toArray n }
 | .tup xs=>xs.length≤sizeLine∧∃ its:List Value,Vals xs its∧IsTup h a its.toArray∧NoD h a
 | .dK kvs=>kvs.length≤sizeLine∧(a == sysModules)=false∧∃ vs,KV kvs vs∧h.DictOf (mixKind P w) a vs
 | .dT kvs=>kvs.length≤sizeLine∧(a == sysModules)=false∧∃ xs:List (List Key × Addr × Value),
   Paired (fun (p:List Key × V) (q:List Key × Addr × Value)=>p.1=q.1∧H q.2.1=some (.tup (p.1.map kV))∧RelV p.2 q.2.2) kvs xs ∧
   ∃ o es ep,h.get? a=some o∧o.ExactDict∧o.data = .dict es ep∧es.toList=xs.map (entryOfKey (tupleKind (mixKind P w)))∧(xs.map (·.1)).Nodup
 | .set S n=>h.SetOf (intKind P w) a S n
 | .ins C dx fs=>H dx=some (.own a)∧fs.length≤1000∧dx≠a∧h.get? a=some (PySem.W.instObj C dx) ∧
   ∃ mA,h.Ns1 dx mA∧(∀ f,RelO (fs.lookup f) (mA f))∧PySem.Within mA (fs.map (·.1))
 | .own _=>∃ o,h.get? a=some o
 | .xd fs=>∃ mA,h.Ns1 a mA∧∀ f,RelO (fs.lookup f) (mA f)
 | .rng lo hi=>∃ t u v,h.get? a=some { cls:=.type "range",data:=.fields #[.int lo t,.int hi u,.int 1 v] }
 | .frz o u=>h.get? a=some o∧ObjOk H h a u
 | .tbl ps=>h.get? a=some { cls:=.none,data:=.fields ps }
 | .met f x=>h.get? a=some (PySem.W.methodObj (.ref f) (.ref x))
 | .ext φ=>φ h∧(∃ o,h.get? a=some o)∧∀ h1 h2:Heap,φ h1→(∀ o,h1.get? a=some o→h2.get? a=some o)→φ h2
noncomputable def HOk (H:Hp)(h:Heap):Prop:=∀ a o,H a=some o→ObjOk P w H h a o
end
section
variable {P:Program} {w:World} {H H':Hp} {h h':Heap} {a:Addr} {o:HO}
theorem ObjOk.lt (x:ObjOk P w H h a o):a < h.objs.size:=by
 cases o with
 | lst xs=>obtain ⟨_,_,_,_,e⟩:=x;exact Heap.lt_size e
 | tup xs=>obtain ⟨_,_,_,p,_⟩:=x;exact p.lt
 | dK kvs=>obtain ⟨_,_,_,_,o,_,_,e,_⟩:=x;exact Heap.lt_size e
 | dT kvs=>obtain ⟨_,_,_,_,o,_,_,e,_⟩:=x;exact Heap.lt_size e
 | set S n=>obtain ⟨o,_,_,_,e,_⟩:=x;exact Heap.lt_size e
 | ins C dx fs=>obtain ⟨_,_,_,e,_⟩:=x;exact Heap.lt_size e
 | own y=>obtain ⟨_,e⟩:=x;exact Heap.lt_size e
 | xd fs=>obtain ⟨_,⟨_,_,_,e,_⟩,_⟩:=x;exact Heap.lt_size e
 | rng lo hi=>obtain ⟨_,_,_,e⟩:=x;exact Heap.lt_size e
 | frz ob u=>obtain ⟨e,_⟩:=x;exact Heap.lt_size e
 | tbl ps=>exact Heap.lt_size (show h.get? a=some _ from x)
 | met f y=>exact Heap.lt_size (show h.get? a=some _ from x)
 | ext φ=>obtain ⟨_,⟨_,e⟩,_⟩:=x;exact Heap.lt_size e
theorem Paired.mapP {α β:Type}{F G:α→β→Prop}:∀ {l₁:List α} {l₂:List β},Paired F l₁ l₂→(∀ a b,F a b→G a b)→Paired G l₁ l₂
 | _,_,.nil,_=>.nil
 | _,_,.cons r t,f=>.cons (f _ _ r) (Paired.mapP t f)
theorem ObjOk.stay (x:ObjOk P w H h a o)(k:∀ b u,(b=a ∨ H b=some (.own a))→h.get? b=some u→h'.get? b=some u)
  (ho:∀ b,H b=some (.own a)→H' b=some (.own a)) (ht:∀ b xs,H b=some (.tup xs)→H' b=some (.tup xs)):ObjOk P w H' h' a o:=by
 induction o with
 | lst xs=>obtain ⟨z,its,n,r,e⟩:=x;exact ⟨z,its,n,r,k _ _ (.inl rfl) e⟩
 | tup xs=>obtain ⟨z,its,r,⟨ob,e,c⟩,o2,e2,c2⟩:=x;exact ⟨z,its,r,⟨ob,k _ _ (.inl rfl) e,c⟩,o2,k _ _ (.inl rfl) e2,c2⟩
 | dK kvs=>obtain ⟨z,y,vs,r,ob,es,ep,e,c⟩:=x;exact ⟨z,y,vs,r,ob,es,ep,k _ _ (.inl rfl) e,c⟩
 | dT kvs =>
  obtain ⟨z,y,xs,r,ob,es,ep,e,c⟩:=x
  exact ⟨z,y,xs,Paired.mapP r fun p q z=>⟨z.1,ht _ _ z.2.1,z.2.2⟩,ob,es,ep,k _ _ (.inl rfl) e,c⟩
 | set S n=>obtain ⟨ob,es,ep,t,e,c⟩:=x;exact ⟨ob,es,ep,t,k _ _ (.inl rfl) e,c⟩
 | ins C dx fs =>
  obtain ⟨d,z,ne,e,mA,⟨od,es,ep,e2,c⟩,r⟩:=x
  exact ⟨ho _ d,z,ne,k _ _ (.inl rfl) e,mA,⟨od,es,ep,k _ _ (.inr d) e2,c⟩,r⟩
 | own y=>obtain ⟨ob,e⟩:=x;exact ⟨ob,k _ _ (.inl rfl) e⟩
 | xd fs=>obtain ⟨mA,⟨od,es,ep,e,c⟩,r⟩:=x;exact ⟨mA,⟨od,es,ep,k _ _ (.inl rfl) e,c⟩,r⟩
 | rng lo hi=>obtain ⟨t,u,v,e⟩:=x;exact ⟨t,u,v,k _ _ (.inl rfl) e⟩
 | frz ob u ih=>obtain ⟨e,q⟩:=x;exact ⟨k _ _ (.inl rfl) e,ih q⟩
 | tbl ps =>
  have e:h.get? a=some { cls:=.none,data:=.fields ps }:=x
  show h'.get? a=some { cls:=.none,data:=.fields ps }
  exact k a _ (.inl rfl) e
 | met f y =>
  have e:h.get? a=some (PySem.W.methodObj (.ref f) (.ref y)):=x
  show h'.get? a=some (PySem.W.methodObj (.ref f) (.ref y))
  exact k a _ (.inl rfl) e
 | ext φ=>obtain ⟨p,⟨o,e⟩,st⟩:=x;exact ⟨st _ _ p fun o q=>k _ _ (.inl rfl) q,⟨o,k _ _ (.inl rfl) e⟩,st⟩
theorem HOk.lt (x:HOk P w H h)(e:H a=some o):a < h.objs.size:=(x a o e).lt
theorem HOk.fresh (x:HOk P w H h)(e:h.objs.size≤a):H a=none:=by
 cases q:H a with
 | none=>rfl
 | some u=>exact absurd (Nat.lt_of_lt_of_le (x.lt q) e) (Nat.lt_irrefl _)
theorem HOk.kept (x:HOk P w H h)(k:∀ b u,h.get? b=some u→h'.get? b=some u):HOk P w H h':=fun a o e =>
 (x a o e).stay (fun b u _ q=>k b u q) (fun _ q=>q) fun _ _ q=>q
theorem HOk.laid (x:HOk P w H h)(k:∀ b u,h.get? b=some u→h'.get? b=some u)(hp:h.objs.size≤a)(new:ObjOk P w (upd H a o) h' a o):HOk P w (upd H a o) h':=fun b u e=>by
 have hn:=x.fresh hp
 by_cases hb:b=a
 ·subst hb;rw [zac] at e;cases e;exact new
 ·rw [zai hb] at e
  exact (x b u e).stay (fun c v _ q=>k c v q) (fun c q=>by rw [zai (zah q hn)];exact q) fun c xs q=>by rw [zai (zah q hn)];exact q
end
noncomputable def Rd (H:Hp)(a:Addr)(u:HO):Prop:=H a=some u ∨ ∃ o,H a=some (.frz o u)
theorem Rd.ok {P:Program}{w:World}{H:Hp}{h:Heap}{a:Addr}{u:HO}(r:Rd H a u)(x:HOk P w H h):ObjOk P w H h a u:=by
 rcases r with r | ⟨o,r⟩
 ·exact x a u r
 ·obtain ⟨_,q⟩:=x a _ r
  exact q
noncomputable def Mut:Option HO→Prop
 | some (.lst _)=>True
 | some (.dK _)=>True
 | some (.dT _)=>True
 | some (.set _ _)=>True
 | some (.ins _ _ _)=>True
 | some (.ext _)=>True
 | _=>False
section
variable {P:Program} {w:World} {H:Hp} {h h':Heap} {x e:Addr} {o':HO}
theorem HOk.write (ok:HOk P w H h)(mu:Mut (H x))(he:e=x ∨ H e=some (.own x))(k:∀ b u,b≠e→h.get? b=some u→h'.get? b=some u)(heo:∃ u,h'.get? e=some u)
  (new:ObjOk P w (upd H x o') h' x o'):HOk P w (upd H x o') h':=fun b u q=>by
 have nown:∀ c y,H c=some (.own y)→c≠x:=fun c y r z=>by subst z;rw [r] at mu;exact mu
 have ntup:∀ c xs,H c=some (.tup xs)→c≠x:=fun c xs r z=>by subst z;rw [r] at mu;exact mu
 by_cases hb:b=x
 ·subst hb;rw [zac] at q;cases q;exact new
 ·rw [zai hb] at q
  by_cases hbe:b=e
  ·have q':H b=some (.own x):=by
    rcases he with z | z
    ·exact absurd (hbe.trans z) hb
    ·rw [hbe];exact z
   rw [q] at q';cases q'
   obtain ⟨v,hv⟩:=heo
   exact ⟨v,by rw [hbe];exact hv⟩
  ·refine (ok b u q).stay (fun c v hc r=>k c v ?_ r) (fun c r=>by rw [zai (nown c b r)];exact r) fun c xs r=>by rw [zai (ntup c xs r)];exact r
   rcases hc with rfl | hc
   ·exact hbe
   ·rintro rfl
    rcases he with z | z
    ·exact nown c b hc z
    ·rw [hc] at z;cases z;exact hb rfl
end
structure Un (fs ex:List Addr) (H H':Hp) (h h':Heap):Prop where
 keep:∀ b o,h.get? b=some o→H b=none→b∉fs→b∉ex→h'.get? b=some o
 slot:∀ b o,h.get? b=some o→H b=none→b∈fs→b∉ex→∃ sl,h'.get? b=some { o with slots:=sl }
 free:∀ b o,h.get? b=some o→H b=none→b∉ex→H' b=none
 there:∀ b o,h.get? b=some o→b∉ex→∃ o',h'.get? b=some o'
 tups:∀ b xs,H b=some (.tup xs)→H' b=some (.tup xs)
 frzs:∀ b o u,H b=some (.frz o u)→H' b=some (.frz o u)
 tbls:∀ b ps,H b=some (.tbl ps)→∃ more,H' b=some (.tbl (ps++more))
section
variable {fs fs' ex ex':List Addr} {H H1 H2:Hp} {h h1 h2 h':Heap} {a x e:Addr} {o:HO}
theorem Un.any (u:Un fs ex H H1 h h1){b:Addr}{ob:Obj}(q:h.get? b=some ob)(n:H b=none)(hx:b∉ex):∃ sl,h1.get? b=some { ob with slots:=sl }:=by
 by_cases hb:b∈fs
 ·exact u.slot b ob q n hb hx
 ·exact ⟨ob.slots,u.keep b ob q n hb hx⟩
theorem Un.kept (k:∀ b u,h.get? b=some u→h'.get? b=some u):Un fs ex H H h h' :=
 ⟨fun b ob q _ _ _=>k b ob q,fun b ob q _ _ _=>⟨ob.slots,k b ob q⟩,fun _ _ _ n _=>n,fun b ob q _=>⟨ob,k b ob q⟩,fun _ _ q=>q,fun _ _ _ q=>q,fun _ ps q=>⟨#[],by rw [q];simp⟩⟩
theorem Un.refl:Un fs ex H H h h:=Un.kept fun _ _ q=>q
theorem Un.laid (k:∀ b u,h.get? b=some u→h'.get? b=some u)(hp:h.objs.size≤a)(hn:H a=none):Un fs ex H (upd H a o) h h' where
 keep:=fun b u q _ _ _=>k b u q
 slot:=fun b u q _ _ _=>⟨u.slots,k b u q⟩
 free:=fun b u q n _=>by rw [zai (Nat.ne_of_lt (Nat.lt_of_lt_of_le (Heap.lt_size q) hp))];exact n
 there:=fun b u q _=>⟨u,k b u q⟩
 tups:=fun b xs q=>by rw [zai (zah q hn)];exact q
 frzs:=fun b u xs q=>by rw [zai (zah q hn)];exact q
 tbls:=fun b ps q=>⟨#[],by rw [zai (zah q hn),q];simp⟩
theorem Un.write (mu:Mut (H x))(he:e=x ∨ H e=some (.own x))(k:∀ b u,b≠e→h.get? b=some u→h'.get? b=some u)(heo:∃ u,h'.get? e=some u):Un fs ex H (upd H x o) h h':=by
 have hx:∀ b,H b=none→b≠x:=fun b n z=>by subst z;rw [n] at mu;exact mu
 have hb:∀ b,H b=none→b≠e:=fun b n z=>by
  subst z
  rcases he with r | r
  ·exact hx b n r
  ·rw [n] at r;cases r
 have hm:∀ b u,H b=some u→¬ Mut (some u)→b≠x:=fun b u q nm z=>by subst z;rw [q] at mu;exact nm mu
 refine ⟨fun b u q n _ _=>k b u (hb b n) q,fun b u q n _ _=>⟨u.slots,k b u (hb b n) q⟩,fun b u q n _=>by rw [zai (hx b n)];exact n,fun b u q _=>?_,
  fun b xs q=>by rw [zai (hm b _ q fun z=>z)];exact q,fun b u xs q=>by rw [zai (hm b _ q fun z=>z)];exact q,fun b ps q=>⟨#[],by rw [zai (hm b _ q fun z=>z),q];simp⟩⟩
 by_cases hbe:b=e
 ·subst hbe;exact heo
 ·exact ⟨u,k b u hbe q⟩
end
noncomputable def trk (h:Heap)(H:Hp):List Addr:=(List.range h.objs.size).filter fun a=>(H a).isSome
noncomputable def hidT (h:Heap)(H:Hp):Heap:=PySem.W.hideAll h (trk h H)
theorem zjh (h:Heap)(H:Hp):(hidT h H).objs.size=h.objs.size:=PySem.W.hideAll_size _ _
theorem hidT_get {h:Heap}{H:Hp}{b:Addr}{o:Obj}(e:h.get? b=some o)(n:H b=none):(hidT h H).get? b=some o :=
 PySem.W.hideAll_get _ e fun hm=>by
  have q:(H b).isSome=true:=(List.mem_filter.mp hm).2
  rw [n] at q;simp at q
theorem of_hidT {h:Heap}{H:Hp}{b:Addr}{o:Obj}(e:(hidT h H).get? b=some o):h.get? b=some o∧H b=none:=by
 have e':h.get? b=some o:=PySem.W.of_hideAll (trk h H) e
 refine ⟨e',?_⟩
 cases q:H b with
 | none=>rfl
 | some x =>
  have hm:b∈trk h H:=List.mem_filter.mpr ⟨List.mem_range.mpr (Heap.lt_size e'),by simp [q]⟩
  have z:(hidT h H).get? b=none:=PySem.W.hideAll_none (trk h H) hm
  rw [z] at e;cases e
end L2
namespace L2
open PySem PySem.Spec PyProof.Rows
structure Mod (K:PySem.W.Frag) (mg:Str→Option Value) (base:Heap):Prop where
 kin:K.In base
 glob:base.Ns mainGlobals mg
 blt:∃ mb,base.Ns builtinsNs mb∧∀ x:Str,x ≠ "__name__"→mb x=bootBuiltins x
 nolimit:base.NoLimit
/-- the context: a def's body (or a comprehension's block) running. base: fixed through the whole law;s₀,H₀: the entry;outer: the frames whose slots others may change (a def's callers);stack: all frames that run;
  ex: iterators that were made ahead of the entry and are walked here (a comprehension's);fn: the names whose cells were made at the entry (a def: all;a comprehension's block: its own);calm: not within an except suite;pn: pins that every state bears;xe: what is wanted of an exception that leaves the code -/
structure Cx where
 prog:Program
 w:World
 K:PySem.W.Frag
 mg:Str→Option Value
 base:Heap
 A:Around
 N:List Str
 s₀:Shared
 H₀:Hp
 env:Env
 outer:List Env
 stack:List Env
 ex:List Addr
 fn:Str→Bool
 calm:Bool
 pn:List (Addr × Obj)
 xe:Value→Shared→Prop
noncomputable def frs (l:List Env):List Addr:=l.filterMap (·.frame)
noncomputable abbrev Cx.fs (X:Cx):List Addr:=frs X.outer
noncomputable def Vis (sc:Scope)(x:Str):Prop:=sc.names.lookup x=some .local ∨ sc.names.lookup x=some .cell ∨ sc.names.lookup x=some .free
noncomputable def Loc (sc:Scope)(x:Str):Prop:=sc.names.lookup x=some .local ∨ sc.names.lookup x=some .cell
noncomputable def Look (env:Env)(h:Heap)(m:Str→Option Value)(x:Str)(u:Value):Prop :=
 (env.kindOf x=some .local∧m x=some u) ∨ ((env.kindOf x=some .cell ∨ env.kindOf x=some .free)∧∃ c,env.cells.lookup x=some c∧h.IsCell c (some u))
structure Cx.Ok (X:Cx):Prop where
 mod:Mod X.K X.mg X.base
 kind:X.env.scope.kind = .function
 glob:X.env.globals=mainGlobals
 blt:X.env.builtins=builtinsNs
 above:X.s₀.heap.objs.size≤X.env.locals
 inj:∀ x y c,X.env.cells.lookup x=some c→X.env.cells.lookup y=some c→x=y
 has:∀ x,(X.env.kindOf x=some .cell ∨ X.env.kindOf x=some .free)→∃ c,X.env.cells.lookup x=some c
 cab:∀ x c,X.fn x=true→X.env.cells.lookup x=some c→X.s₀.heap.objs.size≤c
 hd:X.calm=true→X.A.handled=none
 frames:X.A.frames=some X.stack
 stk:X.stack=X.outer ∨ (X.stack=X.env::X.outer∧X.env.frame=some X.env.locals)
 exf:∀ b∈X.ex,b≠X.env.locals∧∀ x c,X.env.cells.lookup x=some c→c≠b
 bs:∀ b o,X.base.get? b=some o→X.s₀.heap.get? b=some o∧X.H₀ b=none
 bsz:X.base.objs.size≤X.s₀.heap.objs.size
 noex:∀ b o,X.base.get? b=some o→b∉X.ex
 exfs:∀ b∈X.ex,b∉X.fs
 funs:X.s₀.heap.FunFrames X.base X.outer
 frf:∀ b∈X.fs,X.H₀ b=none
structure Inv (X:Cx) (pins:List (Addr × Obj)) (σ:List (Option V)) (H:Hp) (s:Shared):Prop where
 ok:X.Ok
 os:s.os=X.s₀.os
 bare:AllBare s.gens
 base:Un X.fs X.ex X.H₀ H X.s₀.heap s.heap
 loc:∃ m,s.heap.Ns X.env.locals m∧∀ (i:Nat) (x:Str) (v:V),X.N[i]? = some x→σ[i]? = some (some v)→Vis X.env.scope x→∃ u,RelV v u∧Look X.env s.heap m x u
 cell:∀ x c,X.env.cells.lookup x=some c→∃ v,s.heap.IsCell c v
 free:H X.env.locals=none
 freeC:∀ x c,X.env.cells.lookup x=some c→H c=none
 pin:∀ p∈X.pn++pins,s.heap.get? p.1=some p.2∧H p.1=none∧p.1≠X.env.locals∧p.1∉X.fs∧∀ v,p.2.data ≠ .cell v
 hok:HOk X.prog X.w H s.heap
 len:σ.length=X.N.length
section
variable {X:Cx} {pins:List (Addr × Obj)} {σ:List (Option V)} {H H':Hp} {s:Shared} {h':Heap}
theorem Cx.Ok.nofr (ok:X.Ok){b:Addr}{o:Obj}(e:X.base.get? b=some o):b∉X.fs:=fun hb=>by
 have:=(ok.funs.mem hb).1
 rw [e] at this;cases this
theorem Inv.bs (I:Inv X pins σ H s):∀ b o,X.base.get? b=some o→s.heap.get? b=some o∧H b=none:=fun b o e =>
 ⟨I.base.keep b o (I.ok.bs b o e).1 (I.ok.bs b o e).2 (I.ok.nofr e) (I.ok.noex b o e),I.base.free b o (I.ok.bs b o e).1 (I.ok.bs b o e).2 (I.ok.noex b o e)⟩
theorem Inv.bk (I:Inv X pins σ H s):∀ b o,X.base.get? b=some o→s.heap.get? b=some o:=fun b o e=>(I.bs b o e).1
theorem Inv.mod (I:Inv X pins σ H s):Mod X.K X.mg X.base:=I.ok.mod
theorem Inv.kIn (I:Inv X pins σ H s):X.K.In s.heap:=I.ok.mod.kin.keeps I.bk
theorem Inv.fr (I:Inv X pins σ H s):∃ m,Fr X.base X.env.locals s.heap m :=
 let ⟨m,hn,_⟩:=I.loc
 ⟨m,hn,I.bk,Nat.le_trans I.ok.bsz I.ok.above⟩
theorem Inv.lt (I:Inv X pins σ H s):X.env.locals < s.heap.objs.size:=let ⟨_,hn,_⟩:=I.loc; hn.lt
theorem Inv.sz (I:Inv X pins σ H s):X.s₀.heap.objs.size≤s.heap.objs.size:=Nat.le_trans I.ok.above (Nat.le_of_lt I.lt)
theorem Inv.nofs (I:Inv X pins σ H s){a:Addr}(h:s.heap.objs.size≤a):a∉X.fs:=fun hb=>by
 obtain ⟨_,o,ho,_⟩:=I.ok.funs.mem hb
 exact absurd (Nat.lt_of_lt_of_le (Heap.lt_size ho) (Nat.le_trans I.sz h)) (Nat.lt_irrefl _)
theorem Inv.cne (I:Inv X pins σ H s):∀ x c,X.env.cells.lookup x=some c→c≠X.env.locals:=fun x c e z=>by
 obtain ⟨v,o,ho,hd⟩:=I.cell x c e
 obtain ⟨m,⟨o',es,ep,ho',hd',_⟩,_⟩:=I.loc
 rw [z,ho'] at ho;cases ho;rw [hd'] at hd;cases hd
theorem Inv.funs (I:Inv X pins σ H s):s.heap.FunFrames X.base X.outer:=by
 have all:∀ (l:List Env),(∀ b∈frs l,b∈X.fs)→X.s₀.heap.FunFrames X.base l→s.heap.FunFrames X.base l:=by
  intro l
  induction l with
  | nil=>intro _ _;trivial
  | cons env r ih =>
   intro hs hl
   obtain ⟨hk,⟨L,o,hf,hn,ho,hd⟩,hr⟩:=hl
   have hL:L∈X.fs:=hs L (by unfold frs;rw [List.filterMap_cons,hf];exact List.mem_cons_self)
   obtain ⟨sl,e⟩:=I.base.slot L o ho (I.ok.frf L hL) hL fun z=>I.ok.exfs L z hL
   exact ⟨hk,⟨L,_,hf,hn,e,hd⟩,ih (fun b hb=>hs b (by unfold frs;rw [List.filterMap_cons,hf];exact List.mem_cons_of_mem _ hb)) hr⟩
 exact all X.outer (fun _ hb=>hb) I.ok.funs
theorem Inv.stack (I:Inv X pins σ H s):s.heap.FunFrames X.base X.stack:=by
 rcases I.ok.stk with e | ⟨e,hf⟩
 ·rw [e];exact I.funs
 ·rw [e]
  obtain ⟨m,hn,_⟩:=I.loc
  refine .cons (by rw [I.ok.kind];decide) hf hn ?_ I.funs
  exact Heap.get?_none_of_le (Nat.le_trans I.ok.bsz I.ok.above)
theorem Inv.stkSub (I:Inv X pins σ H s):∀ b∈frs X.stack,b∈X.env.locals::X.fs:=fun b hb=>by
 rcases I.ok.stk with e | ⟨e,hf⟩
 ·rw [e] at hb;exact List.mem_cons_of_mem _ hb
 ·rw [e] at hb
  unfold frs at hb
  rw [List.filterMap_cons,hf] at hb
  exact hb
theorem Inv.stkFree (I:Inv X pins σ H s):∀ b∈frs X.stack,H b=none:=fun b hb=>by
 rcases List.mem_cons.mp (I.stkSub b hb) with e | hb
 ·rw [e];exact I.free
 ·obtain ⟨_,o,ho,_⟩:=I.ok.funs.mem hb
  exact I.base.free b o ho (I.ok.frf b hb) fun z=>I.ok.exfs b z hb
theorem Inv.step {g':Array GenState}{t':Nat}{d':Drawn}{ch:List Addr}(I:Inv X pins σ H s)
  (hch:∀ b∈ch,(b∈X.ex ∨ X.s₀.heap.objs.size≤b)∧b≠X.env.locals∧(∀ x c,X.env.cells.lookup x=some c→c≠b)∧∀ p∈X.pn++pins,p.1≠b)
  (keep:∀ b o,b≠X.env.locals→b∉X.fs→b∉ch→s.heap.get? b=some o→H b=none→h'.get? b=some o)
  (slot:∀ b o,b≠X.env.locals→b∈X.fs→b∉ch→s.heap.get? b=some o→H b=none→∃ sl,h'.get? b=some { o with slots:=sl }) (free:∀ b o,b∉ch→s.heap.get? b=some o→H b=none→H' b=none)
  (there:∀ b o,b∉ch→s.heap.get? b=some o→∃ o',h'.get? b=some o')
  (tups:∀ b xs,H b=some (.tup xs)→H' b=some (.tup xs)) (frzs:∀ b o u,H b=some (.frz o u)→H' b=some (.frz o u)) (tbls:∀ b ps,H b=some (.tbl ps)→∃ more,H' b=some (.tbl (ps++more)))
  (ns:∀ m,s.heap.Ns X.env.locals m→h'.Ns X.env.locals m) (hok:HOk X.prog X.w H' h') (hg:AllBare g') :
  Inv X pins σ H' { s with heap:=h',gens:=g',drawn:=d',toks:=t' }:=by
 have neL:∀ b o,X.s₀.heap.get? b=some o→b≠X.env.locals:=fun b o e=>Nat.ne_of_lt (Nat.lt_of_lt_of_le (Heap.lt_size e) I.ok.above)
 have neC:∀ b o,X.s₀.heap.get? b=some o→b∉X.ex→b∉ch:=fun b o e hx hb=>by
  rcases (hch b hb).1 with z | z
  ·exact hx z
  ·exact absurd (Nat.lt_of_lt_of_le (Heap.lt_size e) z) (Nat.lt_irrefl _)
 have cellK:∀ x c,X.env.cells.lookup x=some c→∀ v,s.heap.IsCell c v→h'.IsCell c v:=fun x c e v ⟨o,ho,hd⟩=>by
  have nch:c∉ch:=fun z=>(hch c z).2.2.1 x c e rfl
  by_cases hc:c∈X.fs
  ·obtain ⟨sl,q⟩:=slot c o (I.cne x c e) hc nch ho (I.freeC x c e)
   exact ⟨_,q,hd⟩
  ·exact ⟨o,keep c o (I.cne x c e) hc nch ho (I.freeC x c e),hd⟩
 refine ⟨I.ok,I.os,hg,⟨fun b o e n hb hx=>?_,fun b o e n hb hx=>?_,fun b o e n hx=>?_,fun b o e hx=>?_,fun b xs e=>tups b xs (I.base.tups b xs e),fun b o xs e=>frzs b o xs (I.base.frzs b o xs e),fun b ps e=>?_⟩,?_,fun x c e=>?_,?_,fun x c e=>?_,fun p hp=>?_,hok,I.len⟩
 ·exact keep b o (neL b o e) hb (neC b o e hx) (I.base.keep b o e n hb hx) (I.base.free b o e n hx)
 ·obtain ⟨sl,e1⟩:=I.base.slot b o e n hb hx
  obtain ⟨sl',e2⟩:=slot b _ (neL b o e) hb (neC b o e hx) e1 (I.base.free b o e n hx)
  exact ⟨sl',e2⟩
 ·obtain ⟨o',e1⟩:=I.base.there b o e hx
  exact free b o' (neC b o e hx) e1 (I.base.free b o e n hx)
 ·obtain ⟨o',e1⟩:=I.base.there b o e hx
  exact there b o' (neC b o e hx) e1
 ·obtain ⟨m1,e1⟩:=I.base.tbls b ps e
  obtain ⟨m2,e2⟩:=tbls b _ e1
  exact ⟨m1++m2,by rw [e2,Array.append_assoc]⟩
 ·obtain ⟨m,hn,hl⟩:=I.loc
  refine ⟨m,ns m hn,fun i x v e1 e2 e3=>?_⟩
  obtain ⟨u,r,l⟩:=hl i x v e1 e2 e3
  refine ⟨u,r,?_⟩
  rcases l with l | ⟨k,c,e,z⟩
  ·exact .inl l
  ·exact .inr ⟨k,c,e,cellK x c e _ z⟩
 ·obtain ⟨v,z⟩:=I.cell x c e
  exact ⟨v,cellK x c e v z⟩
 ·obtain ⟨m,⟨o,_,_,ho,_⟩,_⟩:=I.loc
  exact free _ o (fun z=>(hch _ z).2.1 rfl) ho I.free
 ·obtain ⟨v,o,ho,hd⟩:=I.cell x c e
  exact free c o (fun z=>(hch c z).2.2.1 x c e rfl) ho (I.freeC x c e)
 ·obtain ⟨e,n,ne,nf,d⟩:=I.pin p hp
  have nch:p.1∉ch:=fun z=>(hch p.1 z).2.2.2 p hp rfl
  exact ⟨keep p.1 p.2 ne nf nch e n,free p.1 p.2 nch e n,ne,nf,d⟩
theorem Inv.un {t':Nat}(I:Inv X pins σ H s)(u:Un X.fs [] H H' s.heap h')(hok:HOk X.prog X.w H' h'):Inv X pins σ H' { s with heap:=h',toks:=t' }:=by
 obtain ⟨m,⟨o,es,ep,ho,r⟩,_⟩:=id I.loc
 obtain ⟨sl,hL⟩:=u.any ho I.free (by simp)
 exact I.step (g':=s.gens) (d':=s.drawn) (ch:=[]) (fun _ z=>nomatch z) (fun b o _ hb _ e n=>u.keep b o e n hb (by simp)) (fun b o _ hb _ e n=>u.slot b o e n hb (by simp)) (fun b o _ e n=>u.free b o e n (by simp)) (fun b o _ e=>u.there b o e (by simp)) u.tups u.frzs u.tbls (fun m' hm=>by
  obtain ⟨o',es',ep',ho',r'⟩:=hm
  rw [ho] at ho';cases ho'
  exact ⟨_,es',ep',hL,r'⟩) hok I.bare
theorem Inv.call {g':Array GenState}{t':Nat}{d':Drawn}{ch:List Addr}(I:Inv X pins σ H s)(u:Un (frs X.stack) ch H H' s.heap h')(hok:HOk X.prog X.w H' h')(hg:AllBare g')
  (hch:∀ b∈ch,(b∈X.ex ∨ X.s₀.heap.objs.size≤b)∧b≠X.env.locals∧(∀ x c,X.env.cells.lookup x=some c→c≠b)∧∀ p∈X.pn++pins,p.1≠b) :
  Inv X pins σ H' { s with heap:=h',gens:=g',drawn:=d',toks:=t' }:=by
 obtain ⟨m,⟨o,es,ep,ho,r⟩,_⟩:=id I.loc
 obtain ⟨sl,hL⟩:=u.any ho I.free fun z=>(hch _ z).2.1 rfl
 exact I.step (ch:=ch) hch (fun b o hL hb hc e n=>u.keep b o e n (fun z=>(List.mem_cons.mp (I.stkSub b z)).elim hL hb) hc) (fun b o _ _ hc e n=>u.any e n hc) (fun b o hc e n=>u.free b o e n hc) (fun b o hc e=>u.there b o e hc) u.tups u.frzs u.tbls (fun m' hm=>by
  obtain ⟨o',es',ep',ho',r'⟩:=hm
  rw [ho] at ho';cases ho'
  exact ⟨_,es',ep',hL,r'⟩) hok hg
theorem Inv.turned {t':Nat}{it:Addr}(I:Inv X pins σ H s)(k:∀ b o,b≠it→s.heap.get? b=some o→h'.get? b=some o)(hn:H it=none)(hL:it≠X.env.locals)
  (h1:it∈X.ex ∨ X.s₀.heap.objs.size≤it) (h2:∀ x c,X.env.cells.lookup x=some c→c≠it) (h3:∀ p∈X.pn++pins,p.1≠it):Inv X pins σ H { s with heap:=h',toks:=t' }:=by
 have nit:∀ b u,H b=some u→b≠it:=fun b u e z=>by rw [z,hn] at e;cases e
 refine I.step (g':=s.gens) (d':=s.drawn) (ch:=[it]) (fun b hb=>?_) (fun b o _ _ hc e _=>k b o (fun z=>hc (by simp [z])) e) (fun b o _ _ hc e _=>⟨o.slots,k b o (fun z=>hc (by simp [z])) e⟩) (fun _ _ _ _ n=>n)
  (fun b o hc e=>⟨o,k b o (fun z=>hc (by simp [z])) e⟩) (fun _ _ e=>e) (fun _ _ _ e=>e) (fun b ps e=>⟨#[],by rw [e];simp⟩) (fun m hm=>?_) (fun b u e=>?_) I.bare
 ·have e:b=it:=by simpa using hb
  subst e
  exact ⟨h1,hL,h2,h3⟩
 ·obtain ⟨o,es,ep,ho,r⟩:=hm
  exact ⟨o,es,ep,k _ o (Ne.symm hL) ho,r⟩
 ·refine (I.hok b u e).stay (fun c v hc q=>k c v ?_ q) (fun _ q=>q) fun _ _ q=>q
  rcases hc with z | z
  ·rw [z];exact nit b u e
  ·exact nit c _ z
theorem Inv.tok (I:Inv X pins σ H s)(t:Nat):Inv X pins σ H { s with toks:=t }:=I.un (h':=s.heap) (t':=t) Un.refl I.hok
theorem Inv.kept {t':Nat}(I:Inv X pins σ H s)(k:∀ b u,s.heap.get? b=some u→h'.get? b=some u):Inv X pins σ H { s with heap:=h',toks:=t' }:=I.un (Un.kept k) (I.hok.kept k)
theorem Inv.laid {a:Addr}{o:HO}{t':Nat}(I:Inv X pins σ H s)(k:∀ b u,s.heap.get? b=some u→h'.get? b=some u)(hp:s.heap.objs.size≤a)(new:ObjOk X.prog X.w (upd H a o) h' a o) :
  Inv X pins σ (upd H a o) { s with heap:=h',toks:=t' }:=I.un (Un.laid k hp (I.hok.fresh hp)) (I.hok.laid k hp new)
theorem Inv.write {x e:Addr}{o:HO}{t':Nat}(I:Inv X pins σ H s)(mu:Mut (H x))(he:e=x ∨ H e=some (.own x))(k:∀ b u,b≠e→s.heap.get? b=some u→h'.get? b=some u)(heo:∃ u,h'.get? e=some u)
  (new:ObjOk X.prog X.w (upd H x o) h' x o):Inv X pins σ (upd H x o) { s with heap:=h',toks:=t' }:=I.un (Un.write mu he k heo) (I.hok.write mu he k heo new)
theorem Inv.pins_of {pins':List (Addr × Obj)}(I:Inv X pins σ H s)(h:∀ p∈pins',s.heap.get? p.1=some p.2∧H p.1=none∧p.1≠X.env.locals∧p.1∉X.fs∧∀ v,p.2.data ≠ .cell v):Inv X pins' σ H s :=
 ⟨I.ok,I.os,I.bare,I.base,I.loc,I.cell,I.free,I.freeC,fun p hp=>(List.mem_append.mp hp).elim (fun z=>I.pin p (List.mem_append_left _ z)) (h p),I.hok,I.len⟩
theorem zfi {N:List Str}(hN:N.Nodup){i j:Nat}{x:Str}(a:N[i]? = some x)(b:N[j]? = some x):i=j:=by
 obtain ⟨h1,e1⟩:=List.getElem?_eq_some_iff.mp a
 obtain ⟨h2,e2⟩:=List.getElem?_eq_some_iff.mp b
 exact (List.getElem_inj hN).mp (e1.trans e2.symm)
theorem zji {M:Model}{A:Around}{E:Value→Shared→Prop}{i:Nat}{x:Str}{v:V}{u:Value}{Q:Unit→Shared→Prop}(I:Inv X pins σ H s)(hN:X.N.Nodup)(hi:X.N[i]? = some x)(hx:Loc X.env.scope x)(r:RelV v u)
  (h:∀ s',Inv X pins (σ.set i (some v)) H s'→(∃ a,Heap.SameBut a s.heap s'.heap∧(a=X.env.locals ∨ X.env.cells.lookup x=some a))→Q () s') (hf:X.fn x=true ∨ X.env.scope.names.lookup x=some .local:=by first | exact .inl rfl | exact .inr rfl | assumption):wpAny M A (storeName X.env x u) Q E s:=by
 obtain ⟨m,hn,hl⟩:=id I.loc
 have hcls:(X.env.scope.kind == .class || (X.env.scope.kind == .module && X.env.locals != X.env.globals))=false:=by rw [I.ok.kind];rfl
 have hiσ:i < σ.length:=by rw [I.len];exact (List.getElem?_eq_some_iff.mp hi).1
 have cne:=I.cne
 have tracked:∀ {a:Addr} {h':Heap},(∃ o,s.heap.get? a=some o∧H a=none)→Heap.SameBut a s.heap h'→HOk X.prog X.w H h':=fun {a h'} ha hs b ob e=>by
  obtain ⟨_,_,hfree⟩:=ha
  refine (I.hok b ob e).stay (fun c w' hc q=>(hs.2 c ?_).trans q) (fun _ q=>q) fun _ _ q=>q
  rintro rfl
  rcases hc with rfl | hc
  ·rw [hfree] at e;cases e
  ·rw [hfree] at hc;cases hc
 rcases hx with hk | hk
 ·refine wpAny_storeName_local hk hn (fun h' hn' hs=>?_) hcls
  obtain ⟨oL,_,_,hoL,_⟩:=id hn
  refine h _ ⟨I.ok,I.os,I.bare,⟨fun b o e n hb hx=>?_,fun b o e n hb hx=>?_,I.base.free,fun b o e hx=>?_,I.base.tups,I.base.frzs,I.base.tbls⟩,⟨_,hn',fun j y v' e1 e2 e3=>?_⟩,fun y c e=>?_,I.free,I.freeC,fun p hp=>?_,tracked ⟨oL,hoL,I.free⟩ hs,by simpa using I.len⟩ ⟨_,hs,.inl rfl⟩
  ·exact (hs.2 b (Nat.ne_of_lt (Nat.lt_of_lt_of_le (Heap.lt_size e) I.ok.above))).trans (I.base.keep b o e n hb hx)
  ·obtain ⟨sl,e1⟩:=I.base.slot b o e n hb hx
   exact ⟨sl,(hs.2 b (Nat.ne_of_lt (Nat.lt_of_lt_of_le (Heap.lt_size e) I.ok.above))).trans e1⟩
  ·obtain ⟨o',e1⟩:=I.base.there b o e hx
   exact ⟨o',(hs.2 b (Nat.ne_of_lt (Nat.lt_of_lt_of_le (Heap.lt_size e) I.ok.above))).trans e1⟩
  ·by_cases hj:j=i
   ·subst hj
    rw [hi] at e1;cases e1
    rw [List.getElem?_set_self hiσ] at e2
    cases e2
    exact ⟨u,r,.inl ⟨hk,by simp⟩⟩
   ·rw [List.getElem?_set_ne (Ne.symm hj)] at e2
    obtain ⟨u',r',q⟩:=hl j y v' e1 e2 e3
    refine ⟨u',r',?_⟩
    rcases q with ⟨k,e⟩ | ⟨k,c,e,z⟩
    ·refine .inl ⟨k,?_⟩
     have:y≠x:=fun e=>hj (zfi hN e1 (e ▸ hi))
     simp [this,e]
    ·exact .inr ⟨k,c,e,z.sameBut hs (cne y c e)⟩
  ·obtain ⟨w',z⟩:=I.cell y c e
   exact ⟨w',z.sameBut hs (cne y c e)⟩
  ·obtain ⟨e,n,ne,nf,d⟩:=I.pin p hp
   exact ⟨(hs.2 p.1 ne).trans e,n,ne,nf,d⟩
 ·have hfn:X.fn x=true:=by
   rcases hf with z | z
   ·exact z
   ·rw [z] at hk;cases hk
  obtain ⟨c,hc⟩:=I.ok.has x (.inl hk)
  obtain ⟨w',z⟩:=I.cell x c hc
  refine wpAny_storeName_cell I.ok.kind hk hc z (fun h' hc' hs=>?_)
  obtain ⟨oc,hoc,hocd⟩:=id z
  refine h { s with heap:=h' } ⟨I.ok,I.os,I.bare,⟨fun b o e n hb hx=>?_,fun b o e n hb hx=>?_,I.base.free,fun b o e hx=>?_,I.base.tups,I.base.frzs,I.base.tbls⟩,⟨m,hn.sameBut hs (Ne.symm (cne x c hc)),fun j y v' e1 e2 e3=>?_⟩,fun y c' e=>?_,I.free,I.freeC,fun p hp=>?_,tracked ⟨oc,hoc,I.freeC x c hc⟩ hs,by simpa using I.len⟩ ⟨c,hs,.inr hc⟩
  ·exact (hs.2 b (Nat.ne_of_lt (Nat.lt_of_lt_of_le (Heap.lt_size e) (I.ok.cab x c hfn hc)))).trans (I.base.keep b o e n hb hx)
  ·obtain ⟨sl,e1⟩:=I.base.slot b o e n hb hx
   exact ⟨sl,(hs.2 b (Nat.ne_of_lt (Nat.lt_of_lt_of_le (Heap.lt_size e) (I.ok.cab x c hfn hc)))).trans e1⟩
  ·obtain ⟨o',e1⟩:=I.base.there b o e hx
   exact ⟨o',(hs.2 b (Nat.ne_of_lt (Nat.lt_of_lt_of_le (Heap.lt_size e) (I.ok.cab x c hfn hc)))).trans e1⟩
  ·by_cases hj:j=i
   ·subst hj
    rw [hi] at e1;cases e1
    rw [List.getElem?_set_self hiσ] at e2
    cases e2
    exact ⟨u,r,.inr ⟨.inl hk,c,hc,hc'⟩⟩
   ·rw [List.getElem?_set_ne (Ne.symm hj)] at e2
    obtain ⟨u',r',q⟩:=hl j y v' e1 e2 e3
    refine ⟨u',r',?_⟩
    rcases q with q | ⟨k,c',e,z'⟩
    ·exact .inl q
    ·refine .inr ⟨k,c',e,z'.sameBut hs ?_⟩
     rintro rfl
     exact hj (zfi hN e1 (I.ok.inj _ _ _ e hc ▸ hi))
  ·by_cases hcc:c'=c
   ·subst hcc;exact ⟨_,hc'⟩
   ·obtain ⟨w2,z2⟩:=I.cell y c' e
    exact ⟨w2,z2.sameBut hs hcc⟩
  ·obtain ⟨e,n,ne,nf,d⟩:=I.pin p hp
   refine ⟨(hs.2 p.1 ?_).trans e,n,ne,nf,d⟩
   intro q
   rw [q,hoc] at e
   have q':oc=p.2:=Option.some.inj e
   exact d w' (by rw [← q'];exact hocd)
theorem zc2 {M:Model}{A:Around}{E:Value→Shared→Prop}{i:Nat}{x:Str}{v:V}{u:Value}{Q:Unit→Shared→Prop}(I:Inv X pins σ H s)(hN:X.N.Nodup)(hi:X.N[i]? = some x)(hx:Loc X.env.scope x)(r:RelV v u)
  (h:∀ s',Inv X pins (σ.set i (some v)) H s'→Q () s') (hf:X.fn x=true ∨ X.env.scope.names.lookup x=some .local:=by first | exact .inl rfl | exact .inr rfl | assumption):wpAny M A (storeName X.env x u) Q E s :=
 zji I hN hi hx r (fun s' I' _=>h s' I') hf
theorem Inv.call' {s':Shared}{ch:List Addr}(I:Inv X pins σ H s)(ho:s'.os=s.os)(u:Un (frs X.stack) ch H H' s.heap s'.heap)(hok:HOk X.prog X.w H' s'.heap)(hg:AllBare s'.gens)
  (hch:∀ b∈ch,(b∈X.ex ∨ X.s₀.heap.objs.size≤b)∧b≠X.env.locals∧(∀ x c,X.env.cells.lookup x=some c→c≠b)∧∀ p∈X.pn++pins,p.1≠b):Inv X pins σ H' s':=by
 obtain ⟨h',g',d',t',o'⟩:=s'
 have e:o'=s.os:=ho
 subst e
 exact I.call (g':=g') (t':=t') (d':=d') u hok hg hch
end
noncomputable abbrev XK:=Value→Option Addr→Hp→Prop
noncomputable abbrev St:=List (Option V)
noncomputable abbrev VK:=V→Hp→Prop
noncomputable abbrev TE:=St→Hp→VK→Prop
noncomputable abbrev TT:=St→Hp→(Bool→Hp→Prop)→Prop
noncomputable abbrev TA:=St→Hp→(List V→Hp→Prop)→Prop
structure Ends where
 nx:St→Hp→Prop
 rt:VK
 bk:St→Hp→Prop:=fun _ _=>False
 ct:St→Hp→Prop:=fun _ _=>False
noncomputable abbrev TS:=Ends→St→Hp→Prop
noncomputable def EP (X:Cx)(pins:List (Addr × Obj))(σ:St)(Q:VK)(u:Value)(s':Shared):Prop:=∃ v H',Inv X pins σ H' s'∧RelV v u∧Q v H'
noncomputable def TP (X:Cx)(pins:List (Addr × Obj))(σ:St)(Q:Bool→Hp→Prop)(b:Bool)(s':Shared):Prop:=∃ H',Inv X pins σ H' s'∧Q b H'
noncomputable def AP (X:Cx)(pins:List (Addr × Obj))(σ:St)(Q:List V→Hp→Prop)(us:List Value)(s':Shared):Prop:=∃ vs H',Inv X pins σ H' s'∧Vals vs us∧Q vs H'
noncomputable def SP (X:Cx)(pins:List (Addr × Obj))(D:Ends)(f:Flow)(s':Shared):Prop :=
 match f with
 | .next=>∃ σ' H',Inv X pins σ' H' s'∧D.nx σ' H'
 | .brk=>∃ σ' H',Inv X pins σ' H' s'∧D.bk σ' H'
 | .cont=>∃ σ' H',Inv X pins σ' H' s'∧D.ct σ' H'
 | .ret u=>∃ v σ' H',Inv X pins σ' H' s'∧RelV v u∧D.rt v H'
noncomputable def PE (X:Cx)(e:Expr)(t:TE):Prop :=
 ∀ (pins:List (Addr × Obj)) (s:Shared) (σ:St) (H:Hp) (Q:VK),Inv X pins σ H s→t σ H Q→wpAny (model X.prog X.w) X.A (eval e X.env) (EP X pins σ Q) X.xe s
noncomputable def PT (X:Cx)(e:Expr)(t:TT):Prop :=
 ∀ (pins:List (Addr × Obj)) (s:Shared) (σ:St) (H:Hp) (Q:Bool→Hp→Prop),Inv X pins σ H s→t σ H Q→wpAny (model X.prog X.w) X.A (isTrue e X.env (eval e X.env)) (TP X pins σ Q) X.xe s
noncomputable def PW (X:Cx)(e:Expr)(t:TT):Prop :=
 ∀ (whole:Sem Value) (pins:List (Addr × Obj)) (s:Shared) (σ:St) (H:Hp) (Q:Bool→Hp→Prop),Inv X pins σ H s→t σ H Q→wpAny (model X.prog X.w) X.A (isTrue e X.env whole) (TP X pins σ Q) X.xe s
theorem PW.pt {X:Cx}{e:Expr}{t:TT}(h:PW X e t):PT X e t:=h _
noncomputable def PA (X:Cx)(es:List Expr)(t:TA):Prop :=
 ∀ (pos:Pos) (pins:List (Addr × Obj)) (s:Shared) (σ:St) (H:Hp) (Q:List V→Hp→Prop),Inv X pins σ H s→t σ H Q→wpAny (model X.prog X.w) X.A (spliced (backTo pos (starEach es X.env))) (AP X pins σ Q) X.xe s
noncomputable def PS (X:Cx)(st:Stmt)(t:TS):Prop :=
 ∀ (pins:List (Addr × Obj)) (s:Shared) (σ:St) (H:Hp) (D:Ends),Inv X pins σ H s→t D σ H→wpAny (model X.prog X.w) X.A (exec st X.env) (SP X pins D) X.xe s
noncomputable def PSs (X:Cx)(st:List Stmt)(t:TS):Prop :=
 ∀ (pins:List (Addr × Obj)) (s:Shared) (σ:St) (H:Hp) (D:Ends),Inv X pins σ H s→t D σ H→wpAny (model X.prog X.w) X.A (execs st X.env) (SP X pins D) X.xe s
theorem thn {α:Type}{t:Sem α}{Q Q':α→Shared→Prop}{M:Model}{A:Around}{E:Value→Shared→Prop}{s:Shared}(h:wpAny M A t Q E s)(hQ:∀ a s,Q a s→Q' a s):wpAny M A t Q' E s:=wpAny_mono h hQ fun _ _ x=>x
end L2
namespace L2
open PySem PySem.Spec PyProof.Rows
section
variable {X:Cx}
inductive tVar (i:Nat)(σ:St)(H:Hp)(Q:VK):Prop
 | mk:∀ v,(σ[i]? = some (some v))→(Q v H)→tVar i σ H Q
noncomputable def tC (v:V):TE:=fun _ H Q=>Q v H
theorem pe_var {i:Nat}{x:Str}{pos:Pos}(hN:X.N[i]? = some x)(hv:Vis X.env.scope x)(hd:(x == ("__debug__":Str))=false:=by decide)(hcd:(x == ("__classdict__":Str))=false:=by decide):PE X (.Name x pos) (tVar i):=by
 intro pins s σ H Q I h
 obtain ⟨v,e,h⟩:=h
 obtain ⟨m,hn,hl⟩:=I.loc
 obtain ⟨u,r,l⟩:=hl i x v hN e hv
 have fin:EP X pins σ Q u s:=⟨v,H,I,r,h⟩
 rcases l with ⟨hk,hm⟩ | ⟨hk,c,hc,hcell⟩
 ·exact wpAny_Name (wpAny_loadName_local I.ok.kind hk hn hm fin) hd
 ·rcases hk with hk | hk
  ·exact wpAny_Name (wpAny_loadName_cell I.ok.kind hk hc hcell fin) hd
  ·exact wpAny_Name (wpAny_loadName_free I.ok.kind hk hc hcell fin hcd) hd
theorem zaf {i j pos}:PE X (.Constant (.int i) j pos) (tC (.int i)):=fun _ _ _ H _ I h=>wpAny_Constant_int ⟨.int i,H,I.tok _,⟨_,rfl⟩,h⟩
theorem pe_bl {b j pos}:PE X (.Constant (.bool b) j pos) (tC (.bl b)):=fun _ _ _ H _ I h=>Constant_bool ⟨.bl b,H,I,rfl,h⟩
theorem zcs {j pos}:PE X (.Constant .none j pos) (tC .non):=fun _ _ _ H _ I h=>Constant_none ⟨.non,H,I,rfl,h⟩
theorem zar {x j pos}:PE X (.Constant (.str x) j pos) (tC (.str x)):=fun _ _ _ H _ I h=>Calls.Constant_str ⟨.str x,H,I.tok _,⟨_,rfl⟩,h⟩
noncomputable def Gl (X:Cx)(x:Str):Prop:=X.env.kindOf x=some .globalImplicit
theorem zcy {E:Value→Shared→Prop}{pins:List (Addr × Obj)}{s:Shared}{σ:St}{H:Hp}{x:Str}{u:Value}{pos:Pos}{Q:Value→Shared→Prop}(I:Inv X pins σ H s)(hg:Gl X x)(hm:X.mg x=some u)(h:Q u s)
  (hd:(x == ("__debug__":Str))=false:=by decide):wpAny (model X.prog X.w) X.A (eval (.Name x pos) X.env) Q E s :=
 Calls.Name_function_global I.ok.kind hg (Calls.loadGlobal_global (by rw [I.ok.glob];exact I.mod.glob.keeps I.bk) hm h) hd
theorem zdm {E:Value→Shared→Prop}{pins:List (Addr × Obj)}{s:Shared}{σ:St}{H:Hp}{x:Str}{u:Value}{pos:Pos}{Q:Value→Shared→Prop}(I:Inv X pins σ H s)(hg:Gl X x)(hm:X.mg x=none)(hv:bootBuiltins x=some u)(h:Q u s)
  (hn:x ≠ "__name__":=by decide) (hd:(x == ("__debug__":Str))=false:=by decide):wpAny (model X.prog X.w) X.A (eval (.Name x pos) X.env) Q E s:=by
 obtain ⟨mb,h1,h2⟩:=I.mod.blt
 exact Calls.Name_function_global I.ok.kind hg (Calls.loadGlobal_builtin (by rw [I.ok.glob];exact I.mod.glob.keeps I.bk) hm (by rw [I.ok.blt];exact h1.keeps I.bk) ((h2 x hn).trans hv) h) hd
theorem zb4 {x:Str}{v:V}{u:Value}{pos:Pos}(hg:Gl X x)(hm:X.mg x=some u)(r:RelV v u)(hd:(x == ("__debug__":Str))=false:=by decide):PE X (.Name x pos) (tC v) :=
 fun _ _ _ H _ I h=>zcy I hg hm ⟨v,H,I,r,h⟩ hd
theorem pe_bltn {x:Str}{v:V}{u:Value}{pos:Pos}(hg:Gl X x)(hm:X.mg x=none)(hv:bootBuiltins x=some u)(r:RelV v u)(hn:x ≠ "__name__":=by decide)(hd:(x == ("__debug__":Str))=false:=by decide):PE X (.Name x pos) (tC v) :=
 fun _ _ _ H _ I h=>zdm I hg hm hv ⟨v,H,I,r,h⟩ hn hd
variable {a b:Expr} {ta tb:TE} {pos:Pos}
inductive IsB (x:V)(H:Hp)(Q:Bool→Hp→Prop):Prop
 | mk:∀ c,(x = .bl c)→(Q c H)→IsB x H Q
variable {tA tB':TT} {rest:List Expr}
noncomputable def tAnd_k1 (u:TT)(σ:St)(Q:(Bool→Hp→Prop)):Bool→Hp→Prop:=fun c H1=>if c=true then u σ H1 Q else Q false H1
noncomputable def tAnd (t u:TT):TT:=fun σ H Q=>t σ H (tAnd_k1 u σ Q)
noncomputable def tNot_k1 (Q:(Bool→Hp→Prop)):Bool→Hp→Prop:=fun c H1=>Q (!c) H1
noncomputable def tNot (t:TT):TT:=fun σ H Q=>t σ H (tNot_k1 Q)
theorem zcz (ha:PT X a tA):PW X (.BoolOp .And [a] pos) tA:=by
 intro wh pins s σ H Q I h
 refine isTrue_and (thn (ha pins s σ H Q I h) fun c s1 e=>?_)
 cases c with
 | true=>exact isTrue_and_nil e
 | false=>exact e
theorem zdn (ha:PT X a tA)(hb:PW X (.BoolOp .And (b::rest) pos) tB'):PW X (.BoolOp .And (a::b::rest) pos) (tAnd tA tB'):=by
 intro wh pins s σ H Q I h
 refine isTrue_and (thn (ha pins s σ H _ I h) fun c s1 zq7=>?_)
 obtain ⟨H1,I1,q1⟩:=zq7
 cases c with
 | true=>exact hb wh pins s1 σ H1 Q I1 q1
 | false=>exact ⟨H1,I1,q1⟩
theorem pt_not (ha:PT X a tA):PT X (.UnaryOp .Not a pos) (tNot tA):=by
 intro pins s σ H Q I h
 exact isTrue_not (ha pins s σ H (fun c H1=>Q (!c) H1) I h)
noncomputable def tAndV_k1 (tb:TE)(σ:St)(Q:VK):Bool→Hp→Prop:=fun c H1=>if c=true then tb σ H1 Q else Q (.bl false) H1
noncomputable def tAndV_k2 (tb:TE)(σ:St)(Q:VK):V→Hp→Prop:=fun x H1=>IsB x H1 (tAndV_k1 tb σ Q)
noncomputable def tAndV (ta tb:TE):TE:=fun σ H Q=>ta σ H (tAndV_k2 tb σ Q)
theorem pe_one {op}{t:TE}(h:PE X a t):PE X (.BoolOp op [a] pos) t:=fun pins s σ H Q I hw=>BoolOp_one (h pins s σ H Q I hw)
theorem pe_and (ha:PE X a ta)(hb:PE X (.BoolOp .And (b::rest) pos) tb):PE X (.BoolOp .And (a::b::rest) pos) (tAndV ta tb):=by
 intro pins s σ H Q I h
 refine BoolOp_and (thn (ha pins s σ H _ I h) fun v s1 zq9=>?_)
 obtain ⟨x,H1,I1,r1,q1⟩:=zq9
 obtain ⟨c,rfl,q1⟩:=q1
 cases r1
 refine wpAny_truthy_bool ?_
 cases c with
 | true=>exact hb pins s1 σ H1 Q I1 q1
 | false=>exact ⟨.bl false,H1,I1,rfl,q1⟩
noncomputable def tIf_k1 (ta:TE)(tb:TE)(σ:St)(Q:VK):Bool→Hp→Prop:=fun c H1=>if c=true then ta σ H1 Q else tb σ H1 Q
noncomputable def tIf (t:TT)(ta tb:TE):TE:=fun σ H Q=>t σ H (tIf_k1 ta tb σ Q)
theorem zc3 {c:Expr}(hc:PT X c tA)(ha:PE X a ta)(hb:PE X b tb):PE X (.IfExp c a b pos) (tIf tA ta tb):=by
 intro pins s σ H Q I h
 refine wpAny_IfExp (thn (hc pins s σ H _ I h) fun d s1 zq12=>?_)
 obtain ⟨H1,I1,q1⟩:=zq12
 cases d with
 | true=>exact ha pins s1 σ H1 Q I1 q1
 | false=>exact hb pins s1 σ H1 Q I1 q1
end
end L2
namespace L2
open PySem PySem.Spec PyProof.Rows
noncomputable def SqL (K:PySem.W.Frag)(H:Hp)(a:Addr)(xs:List V):Prop :=
 Rd H a (.lst xs) ∨
  ∃ (o:Obj) (its:Array Value) (n:Nat),K.lookup a=some o∧o.cls = .type "list"∧o.dict=none∧o.data = .seq its n∧its.size≤sizeLine∧Vals xs its.toList
noncomputable def SqT (K:PySem.W.Frag)(H:Hp)(a:Addr)(xs:List V):Prop :=
 Rd H a (.tup xs) ∨
  ∃ (o:Obj) (its:Array Value) (n:Nat),K.lookup a=some o∧o.cls = .type "tuple"∧o.data = .seq its n∧its.size≤sizeLine∧Vals xs its.toList
noncomputable def absV:Value→Option V
 | .none=>some .non
 | .bool b=>some (.bl b)
 | .int i _=>some (.int i)
 | .str x _=>some (.str x)
 | .bytes b _=>some (.byt b)
 | .float b _=>some (.flt b)
 | .ref a=>some (.ref a)
 | .type n=>some (.ty n)
 | _=>none
theorem RelV.abs {x:V}{u:Value}(r:RelV x u):absV u=some x:=by
 cases x with
 | non=>cases r;rfl
 | bl _=>cases r;rfl
 | int _=>obtain ⟨t,rfl⟩:=r;rfl
 | str _=>obtain ⟨t,rfl⟩:=r;rfl
 | byt _=>obtain ⟨t,rfl⟩:=r;rfl
 | flt _=>obtain ⟨t,rfl⟩:=r;rfl
 | ref _=>cases r;rfl
 | ty _=>cases r;rfl
theorem RelV.inj {x y:V}{u:Value}(r:RelV x u)(q:RelV y u):x=y:=Option.some.inj (r.abs.symm.trans q.abs)
theorem Vals.inj:∀ {xs ys:List V} {us:List Value},Vals xs us→Vals ys us→xs=ys
 | _,_,_,.nil,.nil=>rfl
 | _,_,_,.cons r t,.cons r' t'=>by rw [r.inj r',Vals.inj t t']
section
variable {X:Cx} {pins:List (Addr × Obj)} {σ:St} {H:Hp} {s:Shared} {a:Addr} {xs ys:List V}
theorem SqL.of {K:PySem.W.Frag}(h:H a=some (.lst xs)):SqL K H a xs:=.inl (.inl h)
theorem SqT.of {K:PySem.W.Frag}(h:H a=some (.tup xs)):SqT K H a xs:=.inl (.inl h)
theorem Inv.list (I:Inv X pins σ H s)(h:SqL X.K H a xs):∃ its:List Value,Vals xs its∧PlainL s.heap a its.toArray∧xs.length≤sizeLine:=by
 rcases h with h | ⟨o,its,n,hk,hc,hd,hs,hz,r⟩
 ·obtain ⟨z,its,n,r,e⟩:=h.ok I.hok
  exact ⟨its,r,⟨_,n,e,rfl,rfl,rfl⟩,z⟩
 ·refine ⟨its.toList,r,⟨o,n,I.kIn a o hk,hc,hd,by simpa using hs⟩,?_⟩
  have e:=r.length
  simp only [Array.length_toList] at e
  omega
theorem Inv.tuple (I:Inv X pins σ H s)(h:SqT X.K H a xs):∃ its:List Value,Vals xs its∧IsTup s.heap a its.toArray∧xs.length≤sizeLine:=by
 rcases h with h | ⟨o,its,n,hk,hc,hs,hz,r⟩
 ·obtain ⟨z,its,r,p,_⟩:=h.ok I.hok
  exact ⟨its,r,p,z⟩
 ·refine ⟨its.toList,r,⟨o,I.kIn a o hk,hc,n,by simpa using hs⟩,?_⟩
  have e:=r.length
  simp only [Array.length_toList] at e
  omega
theorem Inv.list_inj (I:Inv X pins σ H s)(h:SqL X.K H a xs)(h':SqL X.K H a ys):xs=ys:=by
 obtain ⟨its,r,⟨o,n,e,_,_,d⟩,_⟩:=I.list h
 obtain ⟨its',r',⟨o',n',e',_,_,d'⟩,_⟩:=I.list h'
 rw [e] at e';cases e'
 rw [d] at d'
 injection d' with d1 _
 have:its=its':=by simpa using congrArg Array.toList d1
 subst this
 exact r.inj r'
theorem Inv.tuple_inj (I:Inv X pins σ H s)(h:SqT X.K H a xs)(h':SqT X.K H a ys):xs=ys:=by
 obtain ⟨its,r,⟨o,e,_,n,d⟩,_⟩:=I.tuple h
 obtain ⟨its',r',⟨o',e',_,n',d'⟩,_⟩:=I.tuple h'
 rw [e] at e';cases e'
 rw [d] at d'
 injection d' with d1 _
 have:its=its':=by simpa using congrArg Array.toList d1
 subst this
 exact r.inj r'
end
noncomputable abbrev Cx.wish (X:Cx)(E:Value→Shared→Prop):Cx:={ X with xe:=E }
noncomputable abbrev Cx.nox (X:Cx):Cx:=X.wish fun _ _=>False
theorem Cx.Ok.wish {X:Cx}(ok:X.Ok)(E:Value→Shared→Prop):(X.wish E).Ok :=
 ⟨ok.mod,ok.kind,ok.glob,ok.blt,ok.above,ok.inj,ok.has,ok.cab,ok.hd,ok.frames,ok.stk,ok.exf,ok.bs,ok.bsz,ok.noex,ok.exfs,ok.funs,ok.frf⟩
theorem Cx.Ok.unwish {X:Cx}{E:Value→Shared→Prop}(ok:(X.wish E).Ok):X.Ok :=
 ⟨ok.mod,ok.kind,ok.glob,ok.blt,ok.above,ok.inj,ok.has,ok.cab,ok.hd,ok.frames,ok.stk,ok.exf,ok.bs,ok.bsz,ok.noex,ok.exfs,ok.funs,ok.frf⟩
section
variable {X:Cx} {pins:List (Addr × Obj)} {σ:St} {H:Hp} {s:Shared} {E:Value→Shared→Prop}
theorem Inv.wish (I:Inv X pins σ H s)(E:Value→Shared→Prop):Inv (X.wish E) pins σ H s:=⟨I.ok.wish E,I.os,I.bare,I.base,I.loc,I.cell,I.free,I.freeC,I.pin,I.hok,I.len⟩
theorem Inv.unwish (I:Inv (X.wish E) pins σ H s):Inv X pins σ H s:=⟨I.ok.unwish,I.os,I.bare,I.base,I.loc,I.cell,I.free,I.freeC,I.pin,I.hok,I.len⟩
theorem SP.unwish {D:Ends}{f:Flow}{s':Shared}(h:SP (X.wish E) pins D f s'):SP X pins D f s':=by
 cases f with
 | next=>obtain ⟨σ',H',I,q⟩:=h;exact ⟨σ',H',I.unwish,q⟩
 | brk=>obtain ⟨σ',H',I,q⟩:=h;exact ⟨σ',H',I.unwish,q⟩
 | cont=>obtain ⟨σ',H',I,q⟩:=h;exact ⟨σ',H',I.unwish,q⟩
 | ret u=>obtain ⟨v,σ',H',I,r,q⟩:=h;exact ⟨v,σ',H',I.unwish,r,q⟩
theorem PSs.nox {st:List Stmt}{t:TS}(h:PSs X.nox st t):PSs X st t:=fun pins s σ H D I hw =>
 wpAny_mono (h pins s σ H D (I.wish _) hw) (fun _ _ q=>q.unwish) fun _ _ z=>False.elim z
end
section
variable {X:Cx} {st:Stmt} {rest:List Stmt} {t u:TS} {e:Expr} {te:TE} {pos:Pos}
noncomputable def tNext:TS:=fun D σ H=>D.nx σ H
noncomputable def tSeq (t u:TS):TS:=fun D σ H=>t { D with nx:=u D } σ H
theorem za3:PSs X [] tNext:=fun _ _ σ H _ I h=>wpAny_execs_nil ⟨σ,H,I,h⟩
theorem zae (h1:PS X st t)(h2:PSs X rest u):PSs X (st::rest) (tSeq t u):=by
 intro pins s σ H D I h
 refine wpAny_execs_cons (thn (h1 pins s σ H { D with nx:=u D } I h) fun f s1 q=>?_)
 cases f with
 | next =>
  obtain ⟨σ',H',I',q⟩:=q
  exact h2 pins s1 σ' H' D I' q
 | ret v=>exact q
 | brk=>exact q
 | cont=>exact q
theorem zag (h1:PS X st t):PSs X [st] t:=by
 intro pins s σ H D I h
 refine wpAny_execs_cons (thn (h1 pins s σ H D I h) fun f s1 q=>?_)
 cases f with
 | next=>exact wpAny_execs_nil q
 | ret v=>exact q
 | brk=>exact q
 | cont=>exact q
theorem Inv.quiet {pins:List (Addr × Obj)}{σ:St}{H:Hp}{s:Shared}(I:Inv X pins σ H s):interactive X.env=false:=by simp [interactive,I.ok.kind]
noncomputable def tDrop_k1 (D:Ends)(σ:St):V→Hp→Prop:=fun _ H1=>D.nx σ H1
noncomputable def tDrop (te:TE):TS:=fun D σ H=>te σ H (tDrop_k1 D σ)
theorem zdf (he:PE X e te)(hs:swapsWith e none pos.line X.env=pure false:=by rfl):PS X (.Expr e pos) (tDrop te):=by
 intro pins s σ H D I h
 exact wpAny_Expr_any (thn (he pins s σ H _ I h) fun v s1 zq15=>(by obtain ⟨x,H1,I1,r1,q1⟩:=zq15;exact ⟨σ,H1,I1,q1⟩)) I.quiet hs
noncomputable def tRet (te:TE):TS:=fun D σ H=>te σ H D.rt
theorem zax (he:PE X e te):PS X (.Return (some e) pos) (tRet te):=by
 intro pins s σ H D I h
 exact wpAny_Return_some (thn (he pins s σ H _ I h) fun v s1 zq16=>(by obtain ⟨x,H1,I1,r1,q1⟩:=zq16;exact ⟨x,σ,H1,I1,r1,q1⟩))
noncomputable def tIfS_k1 (t:TS)(u:TS)(D:Ends)(σ:St):Bool→Hp→Prop:=fun b H1=>if b=true then t D σ H1 else u D σ H1
noncomputable def tIfS (c:TT)(t u:TS):TS:=fun D σ H=>c σ H (tIfS_k1 t u D σ)
theorem zbl {c:Expr}{a b:List Stmt}{tc:TT}(hc:PT X c tc)(ha:PSs X a t)(hb:PSs X b u):PS X (.If c a b pos) (tIfS tc t u):=by
 intro pins s σ H D I h
 refine wpAny_If (thn (hc pins s σ H _ I h) fun d s1 zq17=>?_)
 obtain ⟨H1,I1,q1⟩:=zq17
 cases d with
 | true=>exact ha pins s1 σ H1 D I1 q1
 | false=>exact hb pins s1 σ H1 D I1 q1
end
noncomputable abbrev TG:=V→St→Hp→(St→Hp→Prop)→Prop
noncomputable abbrev TGs:=List V→St→Hp→(St→Hp→Prop)→Prop
noncomputable def PG (X:Cx)(target:Expr)(t:TG):Prop :=
 ∀ (pins:List (Addr × Obj)) (s:Shared) (σ:St) (H:Hp) (v:V) (u:Value) (Q:St→Hp→Prop),Inv X pins σ H s→RelV v u→t v σ H Q →
  wpAny (model X.prog X.w) X.A (assign target X.env u) (fun _ s'=>∃ σ' H',Inv X pins σ' H' s'∧Q σ' H') X.xe s
noncomputable def PGs (X:Cx)(ts:List Expr)(t:TGs):Prop :=
 ∀ (pins:List (Addr × Obj)) (s:Shared) (σ:St) (H:Hp) (vs:List V) (us:List Value) (Q:St→Hp→Prop),Inv X pins σ H s→Vals vs us→t vs σ H Q →
  wpAny (model X.prog X.w) X.A (assignInOrder ((assignEach ts X.env).map (·.2)) us) (fun _ s'=>∃ σ' H',Inv X pins σ' H' s'∧Q σ' H') X.xe s
noncomputable abbrev TIp:=V→V→Hp→VK→Prop
noncomputable def PIp (X:Cx)(op:Operator)(t:TIp):Prop :=
 ∀ (pins:List (Addr × Obj)) (s:Shared) (σ:St) (H:Hp) (x y:V) (v u:Value) (Q:VK),Inv X pins σ H s→RelV x v→RelV y u→t x y H Q →
  wpAny (model X.prog X.w) X.A (inplaceOp op v u) (EP X pins σ Q) X.xe s
section
variable {X:Cx} {pos:Pos}
noncomputable def gName (i:Nat):TG:=fun v σ H Q=>Q (σ.set i (some v)) H
theorem za4 {i:Nat}{x:Str}(hN:X.N.Nodup)(hi:X.N[i]? = some x)(hx:Loc X.env.scope x)(hf:X.fn x=true ∨ X.env.scope.names.lookup x=some .local:=by first | exact .inl rfl | exact .inr rfl | assumption):PG X (.Name x pos) (gName i):=by
 intro pins s σ H v u Q I r h
 exact wpAny_assign_Name (zc2 I hN hi hx r (fun s' I'=>⟨_,H,I',h⟩) hf)
noncomputable def gNil:TGs:=fun vs σ H Q=>vs=[]∧Q σ H
noncomputable def gCons (t:TG)(u:TGs):TGs:=fun vs σ H Q=>∃ v r,vs=v::r∧t v σ H fun σ' H'=>u r σ' H' Q
theorem zjj:PGs X [] gNil:=by
 intro pins s σ H vs us Q I r h
 obtain ⟨e,h⟩:=h
 subst e
 cases r
 exact assignInOrder_nil ⟨σ,H,I,h⟩
theorem zdu {e:Expr}{es:List Expr}{t:TG}{u:TGs}(h1:PG X e t)(h2:PGs X es u)
  (hs:(assignEach (e::es) X.env).map (·.2)=assign e X.env::(assignEach es X.env).map (·.2):=by rfl):PGs X (e::es) (gCons t u):=by
 intro pins s σ H vs us Q I r h
 obtain ⟨v,vr,e1,h⟩:=h
 subst e1
 cases r with
 | cons r rr =>
  rw [hs]
  refine assignInOrder_cons (thn (h1 pins s σ H _ _ _ I r h) fun _ s1 zq18=>?_)
  obtain ⟨σ1,H1,I1,q1⟩:=zq18
  exact h2 pins s1 σ1 H1 _ _ Q I1 rr q1
noncomputable def gTup (K:PySem.W.Frag)(n:Nat)(t:TGs):TG:=fun v σ H Q=>∃ a xs,v = .ref a∧SqT K H a xs∧xs.length=n∧t xs σ H Q
theorem pg_tup {es:List Expr}{k:Nat}{t:TGs}{n:Nat}(hc:X.calm=true)(h:PGs X es t)
  (hn:(assignEach es X.env).length=n:=by rfl) (hst:(assignEach es X.env).findIdx? (·.1)=none:=by rfl):PG X (.Tuple es k pos) (gTup X.K n t):=by
 intro pins s σ H v u Q I r hw
 obtain ⟨a,xs,e1,hq,hl,hw⟩:=hw
 subst e1
 cases r
 obtain ⟨its,rv,ht,hz⟩:=I.tuple hq
 refine assign_Tuple_tuple (I.ok.hd hc) ht (by simp [hn,← hl,rv.length]) hst fun h' hx=>?_
 have I1:Inv X pins σ H { s with heap:=h' }:=I.kept (t':=s.toks) fun b o e=>hx b o (Nat.ne_of_lt (Heap.lt_size e)) e
 exact h pins _ σ H xs _ Q I1 (by simpa using rv) hw
noncomputable def tAsg_k1 (g:TG)(D:Ends)(σ:St):V→Hp→Prop:=fun x H1=>g x σ H1 D.nx
noncomputable def tAsg (te:TE)(g:TG):TS:=fun D σ H=>te σ H (tAsg_k1 g D σ)
theorem zap {i:Nat}{x:Str}{e:Expr}{te:TE}{pos':Pos}(hN:X.N.Nodup)(hi:X.N[i]? = some x)(hx:Loc X.env.scope x)(he:PE X e te)(hs:swapsWith e (some (.Name x pos')) pos.line X.env=pure false:=by rfl)(hf:X.fn x=true ∨ X.env.scope.names.lookup x=some .local:=by first | exact .inl rfl | exact .inr rfl | assumption) :
  PS X (.Assign [.Name x pos'] e pos) (tAsg te (gName i)):=by
 intro pins s σ H D I h
 refine wpAny_Assign_Name (thn (he pins s σ H _ I h) fun v s1 zq23=>?_) hs
 obtain ⟨y,H1,I1,r1,q1⟩:=zq23
 exact zc2 I1 hN hi hx r1 (fun s2 I2=>⟨_,H1,I2,q1⟩) hf
inductive tAug (i:Nat)(te:TE)(ti:TIp)(D:Ends)(σ:St)(H:Hp):Prop
 | mk:∀ x,(σ[i]? = some (some x))→(te σ H fun y H1=>ti x y H1 fun z H2=>D.nx (σ.set i (some z)) H2)→tAug i te ti D σ H
theorem ps_aug {i:Nat}{x:Str}{e:Expr}{te:TE}{op:Operator}{ti:TIp}{pos':Pos}(hN:X.N.Nodup)(hi:X.N[i]? = some x)(hx:Loc X.env.scope x)(he:PE X e te)(ho:PIp X op ti)(hf:X.fn x=true ∨ X.env.scope.names.lookup x=some .local:=by first | exact .inl rfl | exact .inr rfl | assumption) :
  PS X (.AugAssign (.Name x pos') op e pos) (tAug i te ti):=by
 intro pins s σ H D I h
 obtain ⟨v,e1,h⟩:=h
 obtain ⟨m,hn,hl⟩:=I.loc
 have vis:Vis X.env.scope x:=by rcases hx with k | k;exact .inl k;exact .inr (.inl k)
 obtain ⟨u,r,l⟩:=hl i x v hi e1 vis
 refine wpAny_AugAssign_Name ?_
 have go:wpAny (model X.prog X.w) X.A (eval e X.env) (fun w s₂=>wpAny (model X.prog X.w) X.A (inplaceOp op u w) (fun r s₃=>wpAny (model X.prog X.w) X.A (storeName X.env x r) (fun _=>SP X pins D .next) X.xe s₃) X.xe s₂) X.xe s:=by
  refine thn (he pins s σ H _ I h) fun w s1 zq25=>?_
  obtain ⟨y,H1,I1,r1,q1⟩:=zq25
  refine thn (ho pins s1 σ H1 v y u w _ I1 r r1 q1) fun z s2 zq26=>?_
  obtain ⟨zv,H2,I2,r2,q2⟩:=zq26
  exact zc2 I2 hN hi hx r2 (fun s3 I3=>⟨_,H2,I3,q2⟩) hf
 rcases l with ⟨hk,hm⟩ | ⟨hk,c,hc,hcell⟩
 ·exact wpAny_loadName_local I.ok.kind hk hn hm go
 ·rcases hk with hk | hk
  ·exact wpAny_loadName_cell I.ok.kind hk hc hcell go
  ·rcases hx with k | k
   ·have:X.env.scope.names.lookup x=some .free:=hk
    rw [k] at this;cases this
   ·have:X.env.scope.names.lookup x=some .free:=hk
    rw [k] at this;cases this
noncomputable def ipI (f:Int→Int→Int):TIp:=fun x y H Q=>∃ i j,x = .int i∧y = .int j∧Q (.int (f i j)) H
theorem ip_add:PIp X .Add (ipI fun i j=>i+j):=by
 intro pins s σ H x y v u Q I r1 r2 h
 obtain ⟨i,j,e1,e2,q⟩:=h
 subst e1;subst e2
 obtain ⟨t,rfl⟩:=r1
 obtain ⟨t',rfl⟩:=r2
 exact iadd_int ⟨.int _,H,I.tok _,⟨_,rfl⟩,q⟩
theorem ip_sub:PIp X .Sub (ipI fun i j=>i - j):=by
 intro pins s σ H x y v u Q I r1 r2 h
 obtain ⟨i,j,e1,e2,q⟩:=h
 subst e1;subst e2
 obtain ⟨t,rfl⟩:=r1
 obtain ⟨t',rfl⟩:=r2
 exact isub_int ⟨.int _,H,I.tok _,⟨_,rfl⟩,q⟩
end
section
variable {X:Cx} {pos:Pos}
noncomputable def tWhile (c:TT)(tb:TS):TS:=fun D σ H=>∃ W:Nat→St→Hp→Prop,(∃ m,W m σ H)∧∀ m σ H,W m σ H →
 c σ H fun b H1=>if b=true then ∃ N:St→Hp→Prop,(∀ σ' H',N σ' H'→∃ m',m' < m∧W m' σ' H')∧tb { D with nx:=N,ct:=N,bk:=D.nx } σ H1 else D.nx σ H1
theorem zc4 {c:Expr}{body:List Stmt}{tc:TT}{tb:TS}(hp:PassesOwn (model X.prog X.w) X.A X.env X.xe)(hc:PT X c tc)(hb:PSs X body tb):PS X (.While c body [] pos) (tWhile tc tb):=by
 intro pins s σ H D I h
 obtain ⟨W,⟨m0,w0⟩,turn⟩:=h
 refine wpAny_While (codeAny_whileLoop (fun n s'=>∃ σ' H',Inv X pins σ' H' s'∧W n σ' H') ?_ m0 ⟨σ,H,I,w0⟩)
 rintro n s1 ⟨σ1,H1,I1,w1⟩
 refine wpAny_passesOwn hp (thn (hc pins s1 σ1 H1 _ I1 (turn n σ1 H1 w1)) fun b s2 zq33=>?_)
 obtain ⟨H2,I2,q2⟩:=zq33
 cases b with
 | true =>
  obtain ⟨N,hN,q2⟩:=q2
  rw [if_pos rfl]
  refine wpAny_passesOwn hp (thn (hb pins s2 σ1 H2 _ I2 q2) fun f s3 q3=>?_)
  cases f with
  | next =>
   obtain ⟨σ3,H3,I3,n3⟩:=q3
   obtain ⟨m',hm,w3⟩:=hN σ3 H3 n3
   exact ⟨m',hm,σ3,H3,I3,w3⟩
  | cont =>
   obtain ⟨σ3,H3,I3,n3⟩:=q3
   obtain ⟨m',hm,w3⟩:=hN σ3 H3 n3
   exact ⟨m',hm,σ3,H3,I3,w3⟩
  | brk=>exact q3
  | ret v=>exact q3
 | false =>
  rw [if_neg Bool.false_ne_true]
  exact wpAny_execs_nil ⟨σ1,H2,I2,q2⟩
end
structure It where
 go:Nat→Hp→Prop
 yld:Nat→Hp→V→Hp→Prop
 stop:Nat→Hp→Prop
noncomputable def FpOk (X:Cx)(pins:List (Addr × Obj))(H:Hp)(b:Addr):Prop :=
 H b=none∧b≠X.env.locals∧b∉X.fs∧(b∈X.ex ∨ X.s₀.heap.objs.size≤b)∧(∀ x c,X.env.cells.lookup x=some c→c≠b)∧∀ p∈X.pn++pins,p.1≠b
theorem Inv.fpOk {X:Cx}{pins:List (Addr × Obj)}{σ:St}{H H':Hp}{s:Shared}{b:Addr}(I:Inv X pins σ H s)(hb:s.heap.objs.size≤b)(hn:H' b=none):FpOk X pins H' b:=by
 refine ⟨hn,Nat.ne_of_gt (Nat.lt_of_lt_of_le I.lt hb),I.nofs hb,.inr (Nat.le_trans I.sz hb),fun x c e z=>?_,fun p hp z=>?_⟩
 ·obtain ⟨v,q⟩:=I.cell x c e
  exact absurd (Nat.lt_of_lt_of_le q.lt (by rw [z];exact hb)) (Nat.lt_irrefl _)
 ·exact absurd (Nat.lt_of_lt_of_le (Heap.lt_size (I.pin p hp).1) (by rw [z];exact hb)) (Nat.lt_irrefl _)
structure Turn (P:Program) (w:World) (K:PySem.W.Frag) (tg:Expr) (J:It) (fp:List Addr) (it:Addr) (tn:Nat→Heap→Prop):Prop where
 mem:it∈fp
 obj:∀ i h,tn i h→∀ b∈fp,∃ o,h.get? b=some o∧∀ v,o.data ≠ .cell v
 keep:∀ i h h',tn i h→(∀ b∈fp,∀ o,h.get? b=some o→h'.get? b=some o)→tn i h'
 item:∀ (X:Cx),X.prog=P→X.w=w→X.K=K→X.calm=true→∀ (i:Nat) (pins:List (Addr × Obj)) (s:Shared) (σ:St) (H:Hp) (E:Value→Shared→Prop),Inv X pins σ H s→(∀ b∈fp,FpOk X pins H b)→tn i s.heap→J.go i H →
  wpAny (model P w) X.A (pyNext (.ref it)) (fun r s1=>∃ u,r=some u ∧
   wpAny (model P w) X.A (letOwnedTupleGo tg (.ref it) u) (fun _ s2=>∃ x H',Inv X pins σ H' s2∧RelV x u∧J.yld i H x H'∧tn (i+1) s2.heap∧∀ b∈fp,H' b=none) E s1) E s
 done:∀ (X:Cx),X.prog=P→X.w=w→X.K=K→X.calm=true→∀ (i:Nat) (pins:List (Addr × Obj)) (s:Shared) (σ:St) (H:Hp) (E:Value→Shared→Prop),Inv X pins σ H s→(∀ b∈fp,FpOk X pins H b)→tn i s.heap→J.stop i H →
  wpAny (model P w) X.A (pyNext (.ref it)) (fun r s1=>r=none∧Inv X pins σ H s1) E s
 self:∀ (A:Around) (i:Nat) (s:Shared) (Q:Value→Shared→Prop) (E:Value→Shared→Prop),tn i s.heap→Q (.ref it) s→wpAny (model P w) A (pyIter (.ref it)) Q E s
noncomputable abbrev TI:=St→Hp→(It→Hp→Prop)→Prop
noncomputable def PIE (X:Cx)(pins:List (Addr × Obj))(σ:St)(tg:Expr)(R:It→Hp→Prop)(itv:Value)(s2:Shared):Prop :=
 ∃ (it:Addr) (fp:List Addr) (tn:Nat→Heap→Prop) (J:It) (H':Hp),itv = .ref it∧Inv X pins σ H' s2∧Turn X.prog X.w X.K tg J fp it tn∧tn 0 s2.heap∧(∀ b∈fp,FpOk X pins H' b)∧R J H'
noncomputable def PI (X:Cx)(tg iter:Expr)(wi:TI):Prop :=
 ∀ (pins:List (Addr × Obj)) (s:Shared) (σ:St) (H:Hp) (R:It→Hp→Prop),Inv X pins σ H s→wi σ H R →
  wpAny (model X.prog X.w) X.A (eval iter X.env) (fun v s1=>wpAny (model X.prog X.w) X.A (pyIter v) (PIE X pins σ tg R) X.xe s1) X.xe s
theorem go_of {M:Model}{A:Around}{E:Value→Shared→Prop}{s:Shared}{tg:Expr}{it:Addr}{u:Value}{o:Obj}{n:String}{vs:Array Value}{Q:Unit→Shared→Prop}(ho:s.heap.get? it=some o)(hc:o.cls = .type n)(hd:o.data = .fields vs)
  (hn:["enumerate","zip","dict_itemiterator","dict_reverseitemiterator","odict_iterator","itertools.zip_longest","itertools.pairwise"].contains n=false) (hQ:Q () s):wpAny M A (letOwnedTupleGo tg (.ref it) u) Q E s:=by
 unfold letOwnedTupleGo
 cases tg <;> first
  | exact wpAny_pure hQ
  | (cases u <;> first
    | exact wpAny_pure hQ
    | (
      refine wpAny_bind (wpAny_load ho ?_)
      rw [hc,hd]
      show wpAny M A (if (["enumerate","zip","dict_itemiterator","dict_reverseitemiterator","odict_iterator","itertools.zip_longest","itertools.pairwise"].contains n && vs[0]? == some (rawInt _))=true then _ else _) Q E s
      rw [if_neg (by intro h;rw [hn,Bool.false_and] at h;cases h)]
      exact wpAny_pure hQ))
noncomputable def Itl (K:PySem.W.Frag)(a:Addr):It :=
 ⟨fun i H=>∃ xs x,SqL K H a xs∧xs[i]? = some x,fun i H x H'=>H'=H∧∀ xs,SqL K H a xs→xs[i]? = some x,fun i H=>∃ xs,SqL K H a xs∧xs.length≤i⟩
noncomputable def Itt (K:PySem.W.Frag)(a:Addr):It :=
 ⟨fun i H=>∃ xs x,SqT K H a xs∧xs[i]? = some x,fun i H x H'=>H'=H∧∀ xs,SqT K H a xs→xs[i]? = some x,fun i H=>∃ xs,SqT K H a xs∧xs.length≤i⟩
noncomputable def Itr (lo:Int)(n:Nat):It:=⟨fun i _=>i < n,fun i H x H'=>H'=H∧x = .int (lo+i),fun i _=>n≤i⟩
theorem zf9 {P:Program}{w:World}{K:PySem.W.Frag}{tg:Expr}(a it:Addr):Turn P w K tg (Itl K a) [it] it (fun i h=>h.IsListIter it a i) where
 mem:=by simp
 obj:=fun i h st b hb=>by
  have e:b=it:=by simpa using hb
  subst e
  obtain ⟨o,e,c,d⟩:=st
  exact ⟨o,e,fun v z=>by rw [d] at z;cases z⟩
 keep:=fun i h h' st k=>st.at fun o e=>k it (by simp) o e
 item:=by
  intro X hP hw hK hc i pins s σ H E I hf st hg
  subst hP hw hK
  obtain ⟨xs,x,hq,hx⟩:=hg
  obtain ⟨its,rv,p,hz⟩:=I.list hq
  obtain ⟨u,hu,ru⟩:=rv.get hx
  obtain ⟨f0,f1,f2,f3,f4,f5⟩:=hf it (by simp)
  refine wpAny_pyNext_list_item st p.isList (x:=u) (by simpa using hu) fun h' st' sb=>?_
  have I1:Inv X pins σ H { s with heap:=h' }:=I.turned (t':=s.toks) (fun b o hb e=>(sb.2 b hb).trans e) f0 f1 f3 f4 f5
  obtain ⟨o,e,c,d⟩:=id st'
  exact ⟨u,rfl,go_of (s:={ s with heap:=h' }) e c d (by decide) ⟨x,H,I1,ru,⟨rfl,fun ys hy=>by rw [I.list_inj hy hq];exact hx⟩,st',fun b hb=>(hf b hb).1⟩⟩
 done:=by
  intro X hP hw hK hc i pins s σ H E I hf st hg
  subst hP hw hK
  obtain ⟨xs,hq,hx⟩:=hg
  obtain ⟨its,rv,p,hz⟩:=I.list hq
  obtain ⟨f0,f1,f2,f3,f4,f5⟩:=hf it (by simp)
  have hl:=rv.length
  exact wpAny_pyNext_list_end (I.ok.hd hc) st p.isList (by simp;omega) fun h' eb=>⟨rfl,I.turned (t':=s.toks) (fun b o hb e=>eb b o hb e) f0 f1 f3 f4 f5⟩
 self:=fun _ _ _ _ _ st h=>wpAny_pyIter_listiter st h
theorem zez {P:Program}{w:World}{K:PySem.W.Frag}{tg:Expr}(a it:Addr):Turn P w K tg (Itt K a) [it] it (fun i h=>h.IsTupleIter it a i) where
 mem:=by simp
 obj:=fun i h st b hb=>by
  have e:b=it:=by simpa using hb
  subst e
  obtain ⟨o,e,c,d⟩:=st
  exact ⟨o,e,fun v z=>by rw [d] at z;cases z⟩
 keep:=fun i h h' st k=>st.at fun o e=>k it (by simp) o e
 item:=by
  intro X hP hw hK hc i pins s σ H E I hf st hg
  subst hP hw hK
  obtain ⟨xs,x,hq,hx⟩:=hg
  obtain ⟨its,rv,p,hz⟩:=I.tuple hq
  obtain ⟨u,hu,ru⟩:=rv.get hx
  obtain ⟨f0,f1,f2,f3,f4,f5⟩:=hf it (by simp)
  refine wpAny_pyNext_tuple_item st (show s.heap.IsTuple a its.toArray from p) (x:=u) (by simpa using hu) fun h' st' sb=>?_
  have I1:Inv X pins σ H { s with heap:=h' }:=I.turned (t':=s.toks) (fun b o hb e=>(sb.2 b hb).trans e) f0 f1 f3 f4 f5
  obtain ⟨o,e,c,d⟩:=id st'
  exact ⟨u,rfl,go_of (s:={ s with heap:=h' }) e c d (by decide) ⟨x,H,I1,ru,⟨rfl,fun ys hy=>by rw [I.tuple_inj hy hq];exact hx⟩,st',fun b hb=>(hf b hb).1⟩⟩
 done:=by
  intro X hP hw hK hc i pins s σ H E I hf st hg
  subst hP hw hK
  obtain ⟨xs,hq,hx⟩:=hg
  obtain ⟨its,rv,p,hz⟩:=I.tuple hq
  obtain ⟨f0,f1,f2,f3,f4,f5⟩:=hf it (by simp)
  have hl:=rv.length
  exact wpAny_pyNext_tuple_end (I.ok.hd hc) st (show s.heap.IsTuple a its.toArray from p) (by simp;omega) fun h' eb=>⟨rfl,I.turned (t':=s.toks) (fun b o hb e=>eb b o hb e) f0 f1 f3 f4 f5⟩
 self:=fun _ _ _ _ _ st h=>wpAny_pyIter_tupleiter st h
theorem ziu {P:Program}{w:World}{K:PySem.W.Frag}{tg:Expr}(it:Addr)(lo:Int)(n:Nat):Turn P w K tg (Itr lo n) [it] it (fun i h=>IsRangeIter h it (lo+(i:Nat)*1) ((n:Int) - (i:Nat)) 1) where
 mem:=by simp
 obj:=fun i h st b hb=>by
  have e:b=it:=by simpa using hb
  subst e
  exact ⟨_,st,fun v z=>by
   have z':Data.fields _=Data.cell v:=z
   cases z'⟩
 keep:=fun i h h' st k=>k it (by simp) _ st
 item:=by
  intro X hP hw hK hc i pins s σ H E I hf st hg
  subst hP hw hK
  obtain ⟨f0,f1,f2,f3,f4,f5⟩:=hf it (by simp)
  have W:=Walks.range (prog:=X.prog) (w:=X.w) (I.ok.hd hc) it lo 1 n
  refine W.item i s _ _ hg st fun v h' tk hv st' kk=>?_
  obtain ⟨t,rfl⟩:=hv
  have I1:Inv X pins σ H { s with heap:=h',toks:=tk }:=I.turned (fun b o hb e=>kk b o (by simpa using hb) e) f0 f1 f3 f4 f5
  refine ⟨_,rfl,go_of (s:={ s with heap:=h',toks:=tk }) (n:="range_iterator") st' rfl rfl (by decide) ⟨.int (lo+i),H,I1,⟨t,?_⟩,⟨rfl,rfl⟩,st',fun b hb=>(hf b hb).1⟩⟩
  rw [Int.mul_one]
 done:=by
  intro X hP hw hK hc i pins s σ H E I hf st hg
  subst hP hw hK
  obtain ⟨f0,f1,f2,f3,f4,f5⟩:=hf it (by simp)
  exact wpAny_pyNext_range_end (I.ok.hd hc) st (by have:n≤i:=hg;omega) fun h' eb=>⟨rfl,I.turned (t':=s.toks) (fun b o hb e=>eb b o hb e) f0 f1 f3 f4 f5⟩
 self:=fun _ _ _ _ _ st h=>wpAny_pyIter_rangeiter st h
end L2
namespace L2
open PySem PySem.Spec PyProof.Rows
section
variable {X:Cx} {tg:Expr}
noncomputable def iList (K:PySem.W.Frag)(tl:TE):TI:=fun σ H R=>tl σ H fun x H1=>∃ a,x = .ref a∧(∃ xs,SqL K H1 a xs)∧R (Itl K a) H1
noncomputable def iTup (K:PySem.W.Frag)(tl:TE):TI:=fun σ H R=>tl σ H fun x H1=>∃ a,x = .ref a∧(∃ xs,SqT K H1 a xs)∧R (Itt K a) H1
theorem zd1 {l:Expr}{tl:TE}(hl:PE X l tl):PI X tg l (iList X.K tl):=by
 intro pins s σ H R I h
 refine thn (hl pins s σ H _ I h) fun v s1 zq34=>?_
 obtain ⟨x,H1,I1,r1,q1⟩:=zq34
 obtain ⟨a,e,⟨xs,hq⟩,q⟩:=q1
 subst e
 cases r1
 obtain ⟨its,rv,p,hz⟩:=I1.list hq
 refine wpAny_pyIter_list p.isList ?_
 refine ⟨s1.heap.objs.size,[s1.heap.objs.size],_,_,H1,rfl,I1.kept (t':=s1.toks) fun b o e=>Heap.get?_push_of_some _ e,zf9 a _,⟨_,Heap.get?_push_size _ rfl,rfl,rfl⟩,fun b hb=>?_,q⟩
 have e:b=s1.heap.objs.size:=by simpa using hb
 subst e
 exact I1.fpOk (Nat.le_refl _) (I1.hok.fresh (Nat.le_refl _))
theorem zjk {l:Expr}{tl:TE}(hl:PE X l tl):PI X tg l (iTup X.K tl):=by
 intro pins s σ H R I h
 refine thn (hl pins s σ H _ I h) fun v s1 zq35=>?_
 obtain ⟨x,H1,I1,r1,q1⟩:=zq35
 obtain ⟨a,e,⟨xs,hq⟩,q⟩:=q1
 subst e
 cases r1
 obtain ⟨its,rv,p,hz⟩:=I1.tuple hq
 refine wpAny_pyIter_tuple (show s1.heap.IsTuple a its.toArray from p) ?_
 refine ⟨s1.heap.objs.size,[s1.heap.objs.size],_,_,H1,rfl,I1.kept (t':=s1.toks) fun b o e=>Heap.get?_push_of_some _ e,zez a _,⟨_,Heap.get?_push_size _ rfl,rfl,rfl⟩,fun b hb=>?_,q⟩
 have e:b=s1.heap.objs.size:=by simpa using hb
 subst e
 exact I1.fpOk (Nat.le_refl _) (I1.hok.fresh (Nat.le_refl _))
theorem range_it {pins:List (Addr × Obj)}{σ:St}{H:Hp}{s:Shared}{R:It→Hp→Prop}{E:Value→Shared→Prop}{lo hi:Int}{t u v:Tok}{tk:Nat}(I:Inv X pins σ H s)(h1:-(2 ^ 62)≤lo)(h2:lo < 2 ^ 62)(h3:-(2 ^ 62)≤hi)(h4:hi < 2 ^ 62)
  (q:R (Itr lo (hi - lo).toNat) H):wpAny (model X.prog X.w) X.A (pyIter (.ref s.heap.objs.size)) (PIE X pins σ tg R) E { s with heap:=s.heap.push { cls:=.type "range",data:=.fields #[.int lo t,.int hi u,.int 1 v] },toks:=tk }:=by
 refine wpAny_pyIter_range (IsRange.new ..) (small_one h1 h2 h3 h4) ?_
 have I1:Inv X pins σ H { s with heap:=s.heap.push { cls:=.type "range",data:=.fields #[.int lo t,.int hi u,.int 1 v] },toks:=tk }:=I.kept fun b o e=>Heap.get?_push_of_some _ e
 refine ⟨(s.heap.push { cls:=.type "range",data:=.fields #[.int lo t,.int hi u,.int 1 v] }).objs.size,[(s.heap.push { cls:=.type "range",data:=.fields #[.int lo t,.int hi u,.int 1 v] }).objs.size],_,_,H,rfl,
  I1.kept (t':=tk) fun b o e=>Heap.get?_push_of_some _ e,ziu _ lo (hi - lo).toNat,?_,fun b hb=>?_,q⟩
 ·have e1:lo+((0:Nat):Int)*1=lo:=by simp
  have e2:(((hi - lo).toNat:Nat):Int) - ((0:Nat):Int)=Builtin.Range.rangeSize lo hi 1:=by rw [rangeSize_one];split <;> omega
  show IsRangeIter _ _ (lo+((0:Nat):Int)*1) ((((hi - lo).toNat:Nat):Int) - ((0:Nat):Int)) 1
  rw [e1,e2]
  exact Heap.get?_push_size _ rfl
 ·have e:b=(s.heap.push { cls:=.type "range",data:=.fields #[.int lo t,.int hi u,.int 1 v] }).objs.size:=by simpa using hb
  subst e
  exact I1.fpOk (Nat.le_refl _) (I1.hok.fresh (Nat.le_refl _))
noncomputable def iRng1 (ta:TA):TI:=fun σ H R=>ta σ H fun vs H1=>∃ j:Int,vs=[.int j]∧-(2 ^ 62)≤j∧j < 2 ^ 62∧R (Itr 0 j.toNat) H1
theorem zcd {a:Expr}{ta:TA}{p pos:Pos}(hg:Gl X "range")(hm:X.mg "range" = none)(ha:PA X [a] ta)(hs:starEach [a] X.env=[(false,eval a X.env)]:=by rfl):PI X tg (.Call (.Name "range" p) [a] [] pos) (iRng1 ta):=by
 intro pins s σ H R I h
 refine Call_ (zdm I hg hm boot_range (PyProof.Rows.callWith_type1 (thn (ha pos pins s σ H _ I h) fun us s1 zq36=>?_) hs rfl))
 obtain ⟨vs,H1,I1,r1,q1⟩:=zq36
 obtain ⟨j,e,q1,q2,q⟩:=q1
 subst e
 cases r1 with
 | cons r rr =>
  cases rr
  obtain ⟨t,rfl⟩:=r
  exact call_range_1 (range_it I1 (by omega) (by omega) q1 q2 (by simpa using q))
noncomputable def tFor (wi:TI)(g:TG)(tb:TS):TS:=fun D σ H=>wi σ H fun J H1=>∃ W:Nat→Nat→St→Hp→Prop,(∃ m,W 0 m σ H1)∧∀ i m σ H,W i m σ H →
 (J.stop i H∧D.nx σ H) ∨ (J.go i H∧∃ N:St→Hp→Prop,(∀ σ' H',N σ' H'→∃ m',m' < m∧W (i+1) m' σ' H')∧∀ x H',J.yld i H x H'→g x σ H' fun σ2 H2=>tb { D with nx:=N,ct:=N,bk:=D.nx } σ2 H2)
noncomputable def pinsAt (fp:List Addr)(h:Heap):List (Addr × Obj):=fp.filterMap fun b=>(h.get? b).map fun o=>(b,o)
theorem zbp {fp:List Addr}{h:Heap}{b:Addr}{o:Obj}(hb:b∈fp)(e:h.get? b=some o):(b,o)∈pinsAt fp h:=List.mem_filterMap.mpr ⟨b,hb,by rw [e]; rfl⟩
theorem zjl {fp:List Addr}{h:Heap}{p:Addr × Obj}(hp:p∈pinsAt fp h):p.1∈fp∧h.get? p.1=some p.2:=by
 obtain ⟨b,hb,e⟩:=List.mem_filterMap.mp hp
 cases q:h.get? b with
 | none=>rw [q] at e;cases e
 | some o =>
  rw [q] at e
  have e':(b,o)=p:=Option.some.inj e
  subst e'
  exact ⟨hb,q⟩
theorem Inv.pinned {pins:List (Addr × Obj)}{σ:St}{H:Hp}{s:Shared}{fp:List Addr}(I:Inv X pins σ H s)(hf:∀ b∈fp,FpOk X pins H b)(ho:∀ b∈fp,∃ o,s.heap.get? b=some o∧∀ v,o.data ≠ .cell v):Inv X (pins++pinsAt fp s.heap) σ H s :=
 I.pins_of fun p hp=>(List.mem_append.mp hp).elim (fun z=>I.pin p (List.mem_append_right _ z)) fun z=>by
  obtain ⟨hb,e⟩:=zjl z
  obtain ⟨f0,f1,f2,_⟩:=hf p.1 hb
  obtain ⟨o,e',d⟩:=ho p.1 hb
  rw [e] at e';cases e'
  exact ⟨e,f0,f1,f2,d⟩
theorem Inv.unpinned {pins pl:List (Addr × Obj)}{σ:St}{H:Hp}{s:Shared}(I:Inv X (pins++pl) σ H s):Inv X pins σ H s:=I.pins_of fun p hp=>I.pin p (List.mem_append_right _ (List.mem_append_left _ hp))
theorem zb0 {iter:Expr}{body:List Stmt}{wi:TI}{g:TG}{tb:TS}{pos:Pos}(hp:PassesOwn (model X.prog X.w) X.A X.env X.xe)(hc:X.calm=true)(hi:PI X tg iter wi)(hg:PG X tg g)(hb:PSs X body tb)
  (hs:∀ x,foldedSetIterable iter X.env x=pure x:=by intro _;rfl):PS X (.For tg iter body [] pos) (tFor wi g tb):=by
 intro pins s σ H D I h
 refine wpAny_For (thn (hi pins s σ H _ I h) fun v s1 h1=>thn h1 fun itv s2 h2=>?_) hs
 obtain ⟨it,fp,tn,J,H2,e,I2,T,st2,f2,W,⟨m0,w0⟩,turn⟩:=h2
 subst e
 -- what stays true of the iterator's objects through the loop
 have stat:∀ {H':Hp},(∀ b∈fp,H' b=none)→∀ b∈fp,FpOk X pins H' b:=fun hn b hb=>⟨hn b hb,(f2 b hb).2⟩
 refine codeAny_forLoop_any (fun n s'=>∃ i σ' H',Inv X pins σ' H' s'∧tn i s'.heap∧(∀ b∈fp,H' b=none)∧W i n σ' H') ?_ m0 ⟨0,σ,H2,I2,st2,fun b hb=>(f2 b hb).1,w0⟩
 rintro n s3 ⟨i,σ3,H3,I3,st3,fr3,w3⟩
 rcases turn i n σ3 H3 w3 with ⟨stop,qn⟩ | ⟨go,N,hN,step⟩
 ·refine wpAny_passesOwn hp (thn (T.done X rfl rfl rfl hc i pins s3 σ3 H3 X.xe I3 (stat fr3) st3 stop) fun r s4 zq38=>?_)
  obtain ⟨hr,I4⟩:=zq38
  subst hr
  exact wpAny_execs_nil ⟨σ3,H3,I4,qn⟩
 ·refine wpAny_passesOwn hp (thn (T.item X rfl rfl rfl hc i pins s3 σ3 H3 X.xe I3 (stat fr3) st3 go) fun r s4 zq39=>?_)
  obtain ⟨u,hr,h4⟩:=zq39
  subst hr
  refine wpAny_passesOwn hp (thn h4 fun _ s5 zq40=>?_)
  obtain ⟨x,H5,I5,r5,y5,st5,fr5⟩:=zq40
  have I5':=I5.pinned (stat fr5) (T.obj _ _ st5)
  refine wpAny_passesOwn hp (thn (hg _ s5 σ3 H5 x u _ I5' r5 (step x H5 y5)) fun _ s6 zq41=>?_)
  obtain ⟨σ6,H6,I6,q6⟩:=zq41
  refine wpAny_passesOwn hp (thn (hb _ s6 σ6 H6 _ I6 q6) fun f s7 q7=>?_)
  have again:∀ {σ7:St} {H7:Hp},Inv X (pins++pinsAt fp s5.heap) σ7 H7 s7→N σ7 H7→∃ m,m < n∧∃ i σ' H',Inv X pins σ' H' s7∧tn i s7.heap∧(∀ b∈fp,H' b=none)∧W i m σ' H':=fun {σ7 H7} I7 n7=>by
   obtain ⟨m',hm,w7⟩:=hN σ7 H7 n7
   refine ⟨m',hm,i+1,σ7,H7,I7.unpinned,T.keep _ _ _ st5 fun b hb o e=>(I7.pin (b,o) (List.mem_append_right _ (List.mem_append_right _ (zbp hb e)))).1,fun b hb=>?_,w7⟩
   obtain ⟨o,e,d⟩:=T.obj _ _ st5 b hb
   exact (I7.pin (b,o) (List.mem_append_right _ (List.mem_append_right _ (zbp hb e)))).2.1
  cases f with
  | next=>obtain ⟨σ7,H7,I7,n7⟩:=q7;exact again I7 n7
  | cont=>obtain ⟨σ7,H7,I7,n7⟩:=q7;exact again I7 n7
  | brk=>obtain ⟨σ7,H7,I7,q7⟩:=q7;exact ⟨σ7,H7,I7.unpinned,q7⟩
  | ret v=>obtain ⟨x7,σ7,H7,I7,r7,q7⟩:=q7;exact ⟨x7,σ7,H7,I7.unpinned,r7,q7⟩
end
theorem zc5 {K:PySem.W.Frag}{a:Addr}{xs:List V}{g:TG}{tb:TS}{D:Ends}{σ:St}{H:Hp}(Pv:Nat→St→Hp→Prop)(h0:Pv 0 σ H)(hl:∀ i σ H,i≤xs.length→Pv i σ H→SqL K H a xs)
  (hs:∀ i x σ H,xs[i]? = some x→Pv i σ H→g x σ H fun σ2 H2=>tb { D with nx:=Pv (i+1),ct:=Pv (i+1),bk:=D.nx } σ2 H2) (hd:∀ σ H,Pv xs.length σ H→D.nx σ H) :
  ∃ W:Nat→Nat→St→Hp→Prop,(∃ m,W 0 m σ H)∧∀ i m σ H,W i m σ H →
   ((Itl K a).stop i H∧D.nx σ H) ∨ ((Itl K a).go i H∧∃ N:St→Hp→Prop,(∀ σ' H',N σ' H'→∃ m',m' < m∧W (i+1) m' σ' H')∧∀ x H',(Itl K a).yld i H x H'→g x σ H' fun σ2 H2=>tb { D with nx:=N,ct:=N,bk:=D.nx } σ2 H2):=by
 refine ⟨fun i m σ H=>m=xs.length - i∧i≤xs.length∧Pv i σ H,⟨xs.length,by simp,Nat.zero_le _,h0⟩,?_⟩
 rintro i m σ H ⟨rfl,hi,p⟩
 have q:=hl i σ H hi p
 by_cases hlt:i < xs.length
 ·refine .inr ⟨⟨xs,xs[i],q,by simp [hlt]⟩,Pv (i+1),fun σ' H' p'=>⟨xs.length - (i+1),by omega,rfl,hlt,p'⟩,fun x H' y=>?_⟩
  obtain ⟨e,y⟩:=y
  subst e
  exact hs i x σ _ (y xs q) p
 ·have e:i=xs.length:=by omega
  subst e
  exact .inl ⟨⟨xs,q,Nat.le_refl _⟩,hd σ H p⟩
theorem zd2 {K:PySem.W.Frag}{a:Addr}{xs:List V}{g:TG}{tb:TS}{D:Ends}{σ:St}{H:Hp}(Pv:Nat→St→Hp→Prop)(h0:Pv 0 σ H)(hl:∀ i σ H,i≤xs.length→Pv i σ H→SqT K H a xs)
  (hs:∀ i x σ H,xs[i]? = some x→Pv i σ H→g x σ H fun σ2 H2=>tb { D with nx:=Pv (i+1),ct:=Pv (i+1),bk:=D.nx } σ2 H2) (hd:∀ σ H,Pv xs.length σ H→D.nx σ H) :
  ∃ W:Nat→Nat→St→Hp→Prop,(∃ m,W 0 m σ H)∧∀ i m σ H,W i m σ H →
   ((Itt K a).stop i H∧D.nx σ H) ∨ ((Itt K a).go i H∧∃ N:St→Hp→Prop,(∀ σ' H',N σ' H'→∃ m',m' < m∧W (i+1) m' σ' H')∧∀ x H',(Itt K a).yld i H x H'→g x σ H' fun σ2 H2=>tb { D with nx:=N,ct:=N,bk:=D.nx } σ2 H2):=by
 refine ⟨fun i m σ H=>m=xs.length - i∧i≤xs.length∧Pv i σ H,⟨xs.length,by simp,Nat.zero_le _,h0⟩,?_⟩
 rintro i m σ H ⟨rfl,hi,p⟩
 have q:=hl i σ H hi p
 by_cases hlt:i < xs.length
 ·refine .inr ⟨⟨xs,xs[i],q,by simp [hlt]⟩,Pv (i+1),fun σ' H' p'=>⟨xs.length - (i+1),by omega,rfl,hlt,p'⟩,fun x H' y=>?_⟩
  obtain ⟨e,y⟩:=y
  subst e
  exact hs i x σ _ (y xs q) p
 ·have e:i=xs.length:=by omega
  subst e
  exact .inl ⟨⟨xs,q,Nat.le_refl _⟩,hd σ H p⟩
theorem zd3 {lo:Int}{n:Nat}{g:TG}{tb:TS}{D:Ends}{σ:St}{H:Hp}(Pv:Nat→St→Hp→Prop)(h0:Pv 0 σ H)
  (hs:∀ i σ H,i < n→Pv i σ H→g (.int (lo+i)) σ H fun σ2 H2=>tb { D with nx:=Pv (i+1),ct:=Pv (i+1),bk:=D.nx } σ2 H2) (hd:∀ σ H,Pv n σ H→D.nx σ H) :
  ∃ W:Nat→Nat→St→Hp→Prop,(∃ m,W 0 m σ H)∧∀ i m σ H,W i m σ H →
   ((Itr lo n).stop i H∧D.nx σ H) ∨ ((Itr lo n).go i H∧∃ N:St→Hp→Prop,(∀ σ' H',N σ' H'→∃ m',m' < m∧W (i+1) m' σ' H')∧∀ x H',(Itr lo n).yld i H x H'→g x σ H' fun σ2 H2=>tb { D with nx:=N,ct:=N,bk:=D.nx } σ2 H2):=by
 refine ⟨fun i m σ H=>m=n - i∧i≤n∧Pv i σ H,⟨n,by simp,Nat.zero_le _,h0⟩,?_⟩
 rintro i m σ H ⟨rfl,hi,p⟩
 by_cases hlt:i < n
 ·refine .inr ⟨hlt,Pv (i+1),fun σ' H' p'=>⟨n - (i+1),by omega,rfl,hlt,p'⟩,fun x H' y=>?_⟩
  obtain ⟨e,y⟩:=y
  subst e y
  exact hs i σ _ hlt p
 ·have e:i=n:=by omega
  subst e
  exact .inl ⟨Nat.le_refl _,hd σ H p⟩
end L2
namespace L2
open PySem PySem.Spec PyProof.Rows
noncomputable abbrev R2:=V→V→Hp→VK→Prop
noncomputable def OpR (X:Cx)(f:Value→Value→Sem Value)(r:R2):Prop :=
 ∀ (pins:List (Addr × Obj)) (s:Shared) (σ:St) (H:Hp) (x y:V) (v u:Value) (Q:VK),Inv X pins σ H s→RelV x v→RelV y u→r x y H Q →
  wpAny (model X.prog X.w) X.A (f v u) (EP X pins σ Q) X.xe s
noncomputable def CallR (X:Cx)(f:Value)(r:List V→Hp→VK→Prop):Prop :=
 ∀ (pins:List (Addr × Obj)) (s:Shared) (σ:St) (H:Hp) (xs:List V) (us:List Value) (Q:VK),Inv X pins σ H s→Vals xs us→r xs H Q →
  wpAny (model X.prog X.w) X.A (call f us) (EP X pins σ Q) X.xe s
noncomputable def TruR (X:Cx)(r:V→Hp→(Bool→Hp→Prop)→Prop):Prop :=
 ∀ (pins:List (Addr × Obj)) (s:Shared) (σ:St) (H:Hp) (x:V) (v:Value) (Q:Bool→Hp→Prop),Inv X pins σ H s→RelV x v→r x H Q →
  wpAny (model X.prog X.w) X.A (truthy v) (TP X pins σ Q) X.xe s
noncomputable def tOp_k1 (r:R2)(Q:VK)(x:V):V→Hp→Prop:=fun y H2=>r x y H2 Q
noncomputable def tOp_k2 (r:R2)(tb:TE)(σ:St)(Q:VK):V→Hp→Prop:=fun x H1=>tb σ H1 (tOp_k1 r Q x)
noncomputable def tOp (r:R2)(ta tb:TE):TE:=fun σ H Q=>ta σ H (tOp_k2 r tb σ Q)
inductive rI (C:Int→Int→Prop)(g:Int→Int→V)(x:V)(y:V)(H:Hp)(Q:VK):Prop
 | mk:∀ i j,(x = .int i)→(y = .int j)→(C i j)→(Q (g i j) H)→rI C g x y H Q
inductive rI0 (g:Int→Int→V)(x:V)(y:V)(H:Hp)(Q:VK):Prop
 | mk:∀ i j,(x = .int i)→(y = .int j)→(Q (g i j) H)→rI0 g x y H Q
section
variable {X:Cx} {a b c:Expr} {ta tb tc:TE} {pos:Pos}
theorem binT (ha:PE X a ta)(hb:PE X b tb){pins:List (Addr × Obj)}{s:Shared}{σ:St}{H:Hp}{R:V→V→Hp→Prop}(I:Inv X pins σ H s)
  (h:ta σ H fun x H1=>tb σ H1 fun y H2=>R x y H2) {Q:Value→Shared→Prop} {f:Value→Value→Sem Value}
  (hf:∀ v u s2 x y H2,Inv X pins σ H2 s2→RelV x v→RelV y u→R x y H2→wpAny (model X.prog X.w) X.A (f v u) Q X.xe s2) :
  wpAny (model X.prog X.w) X.A (eval a X.env) (fun v s₁=>wpAny (model X.prog X.w) X.A (eval b X.env) (fun u s₂=>wpAny (model X.prog X.w) X.A (f v u) Q X.xe s₂) X.xe s₁) X.xe s:=by
 refine thn (ha pins s σ H _ I h) fun v s1 zq42=>?_
 obtain ⟨x,H1,I1,r1,q1⟩:=zq42
 refine thn (hb pins s1 σ H1 _ I1 q1) fun u s2 zq43=>?_
 obtain ⟨y,H2,I2,r2,q2⟩:=zq43
 exact hf v u s2 x y H2 I2 r1 r2 q2
theorem zao {op:Operator}{r:R2}(ho:OpR X (binaryOp op) r)(ha:PE X a ta)(hb:PE X b tb):PE X (.BinOp a op b pos) (tOp r ta tb):=by
 intro pins s σ H Q I h
 exact wpAny_BinOp (binT ha hb I h fun v u s2 x y H2 I2 rx ry q=>ho pins s2 σ H2 x y v u Q I2 rx ry q)
theorem opI {f:Value→Value→Sem Value}{C:Int→Int→Prop}{g:Int→Int→Int}
  (rule:∀ (i j:Int) (t u:Tok) (s:Shared) (Q:Value→Shared→Prop) (E:Value→Shared→Prop),C i j→Q (.int (g i j) s.toks) { s with toks:=s.toks+1 }→wpAny (model X.prog X.w) X.A (f (.int i t) (.int j u)) Q E s) :
  OpR X f (rI C fun i j=>.int (g i j)):=by
 intro pins s σ H x y v u Q I rx ry h
 obtain ⟨i,j,rfl,rfl,hc,q⟩:=h
 obtain ⟨t,rfl⟩:=rx
 obtain ⟨t',rfl⟩:=ry
 exact rule i j t t' s _ _ hc ⟨.int (g i j),H,I.tok _,⟨_,rfl⟩,q⟩
theorem opI0 {f:Value→Value→Sem Value}{g:Int→Int→Int}
  (rule:∀ (i j:Int) (t u:Tok) (s:Shared) (Q:Value→Shared→Prop) (E:Value→Shared→Prop),Q (.int (g i j) s.toks) { s with toks:=s.toks+1 }→wpAny (model X.prog X.w) X.A (f (.int i t) (.int j u)) Q E s) :
  OpR X f (rI0 fun i j=>.int (g i j)):=by
 intro pins s σ H x y v u Q I rx ry h
 obtain ⟨i,j,rfl,rfl,q⟩:=h
 obtain ⟨t,rfl⟩:=rx
 obtain ⟨t',rfl⟩:=ry
 exact rule i j t t' s _ _ ⟨.int (g i j),H,I.tok _,⟨_,rfl⟩,q⟩
theorem opB0 {f:Value→Value→Sem Value}{g:Int→Int→Bool}
  (rule:∀ (i j:Int) (t u:Tok) (s:Shared) (Q:Value→Shared→Prop) (E:Value→Shared→Prop),Q (.bool (g i j)) s→wpAny (model X.prog X.w) X.A (f (.int i t) (.int j u)) Q E s) :
  OpR X f (rI0 fun i j=>.bl (g i j)):=by
 intro pins s σ H x y v u Q I rx ry h
 obtain ⟨i,j,rfl,rfl,q⟩:=h
 obtain ⟨t,rfl⟩:=rx
 obtain ⟨t',rfl⟩:=ry
 exact rule i j t t' s _ _ ⟨.bl (g i j),H,I,rfl,q⟩
noncomputable def CDiv (i j:Int):Prop:=0 < j∧j < 1073741824
noncomputable def CPow (i j:Int):Prop:=0≤j∧j≤1000000∧i.natAbs < 2 ^ 64
noncomputable def CMul (i j:Int):Prop:=(-(2 ^ 64) < i∧i < 2 ^ 64) ∨ (-(2 ^ 64) < j∧j < 2 ^ 64)
theorem CMul.ok {i j:Int}(h:CMul i j):IntMulOk i j:=by
 rcases h with ⟨h1,h2⟩ | ⟨h1,h2⟩
 ·exact .of_left (intBits_le_64 h1 h2)
 ·exact .of_right (intBits_le_64 h1 h2)
theorem za0:OpR X (binaryOp .Add) (rI0 fun i j=>.int (i+j)):=opI0 fun _ _ _ _ _ _ _ q=>add_int q
theorem ze0:OpR X (binaryOp .Sub) (rI0 fun i j=>.int (i - j)):=opI0 fun _ _ _ _ _ _ _ q=>sub_int q
theorem zd4:OpR X (binaryOp .Mult) (rI CMul fun i j=>.int (i*j)):=opI fun _ _ _ _ _ _ _ hc q=>mul_int q hc.ok
theorem zd5:OpR X (binaryOp .FloorDiv) (rI CDiv fun i j=>.int (i / j)):=opI fun i j _ _ _ _ _ hc q=>by
 have h1:(0:Int) < j:=hc.1
 have h2:j < 1073741824:=hc.2
 exact floordiv_int (by omega) (by rw [Int.fdiv_eq_ediv_of_nonneg i (by omega)];exact q) (.inl (PyProof.noPylong_small (by omega)))
theorem ze1:OpR X (binaryOp .Mod) (rI (fun _ j=>0 < j) fun i j=>.int (i % j)):=opI fun i j _ _ _ _ _ hc q=>by
 have h1:(0:Int) < j:=hc
 exact mod_int' (by omega) (by rw [Int.fmod_eq_emod_of_nonneg i (by omega)];exact q)
theorem op_pow:OpR X (binaryOp .Pow) (rI CPow fun i j=>.int (i ^ j.toNat)):=opI fun _ _ _ _ _ _ _ hc q=>pow_int_small hc.1 hc.2.1 hc.2.2 q
end
noncomputable def scal:V→V→Bool
 | .non,.non=>true | .non,.int _=>true | .int _,.non=>true | .non,.bl _=>true | .bl _,.non=>true | .non,.str _=>true | .str _,.non=>true
 | .int _,.int _=>true | .bl _,.bl _=>true | .str _,.str _=>true | .byt _,.byt _=>true
 | .int _,.str _=>true | .str _,.int _=>true | .bl _,.str _=>true | .str _,.bl _=>true
 | _,_=>false
noncomputable def rEq:R2:=fun x y H Q=>scal x y=true∧Q (.bl (decide (x=y))) H
noncomputable def rNe:R2:=fun x y H Q=>scal x y=true∧Q (.bl (!decide (x=y))) H
theorem zjm {i j:Int}:decide (V.int i=V.int j)=(i == j):=by
 rw [Bool.eq_iff_iff]
 simp
theorem dec_bl {i j:Bool}:decide (V.bl i=V.bl j)=(i == j):=by
 rw [Bool.eq_iff_iff]
 simp
theorem zjn {i j:Str}:decide (V.str i=V.str j)=(i == j):=by
 rw [Bool.eq_iff_iff]
 simp
theorem zjo {i j:Array UInt8}:decide (V.byt i=V.byt j)=(i.toList == j.toList):=by
 rw [Bool.eq_iff_iff]
 cases i
 cases j
 simp
section
variable {X:Cx} {a b c:Expr} {ta tb tc:TE} {pos:Pos}
theorem za2 {pins:List (Addr × Obj)}{σ:St}{H:Hp}{s:Shared}{Q:VK}{k k':Bool}(I:Inv X pins σ H s)(q:Q (.bl k) H)(e:k=k'):EP X pins σ Q (.bool k') s:=by
 subst e
 exact ⟨.bl k,H,I,rfl,q⟩
theorem zcr:OpR X (compareOp .Eq) rEq:=by
 intro pins s σ H x y v u Q I rx ry h
 obtain ⟨hs,q⟩:=h
 cases x with
 | non =>
  cases rx
  cases y with
  | non=>cases ry;exact PySem.EqNone.eq_none_none (za2 I q (by simp))
  | bl j=>cases ry;exact PySem.EqNone.eq_none_bool (za2 I q (by simp))
  | int j=>obtain ⟨t',rfl⟩:=ry;exact PySem.EqNone.eq_none_int (za2 I q (by simp))
  | str j=>obtain ⟨t',rfl⟩:=ry;exact PySem.EqNone.eq_none_str (za2 I q (by simp))
  | _=>exact absurd (show false=true from hs) Bool.false_ne_true
 | bl i =>
  cases rx
  cases y with
  | non=>cases ry;exact PySem.EqNone.eq_bool_none (za2 I q (by simp))
  | bl j=>cases ry;exact eq_bool (za2 I q dec_bl)
  | str j=>obtain ⟨t',rfl⟩:=ry;exact PySem.EqMixed.eq_bool_str (za2 I q (by simp))
  | _=>exact absurd (show false=true from hs) Bool.false_ne_true
 | int i =>
  obtain ⟨t,rfl⟩:=rx
  cases y with
  | non=>cases ry;exact PySem.EqNone.eq_int_none (za2 I q (by simp))
  | int j=>obtain ⟨t',rfl⟩:=ry;exact eq_int (za2 I q zjm)
  | str j=>obtain ⟨t',rfl⟩:=ry;exact PySem.EqMixed.eq_int_str (za2 I q (by simp))
  | _=>exact absurd (show false=true from hs) Bool.false_ne_true
 | str i =>
  obtain ⟨t,rfl⟩:=rx
  cases y with
  | non=>cases ry;exact PySem.EqNone.eq_str_none (za2 I q (by simp))
  | bl j=>cases ry;exact PySem.EqMixed.eq_str_bool (za2 I q (by simp))
  | int j=>obtain ⟨t',rfl⟩:=ry;exact PySem.EqMixed.eq_str_int (za2 I q (by simp))
  | str j=>obtain ⟨t',rfl⟩:=ry;exact eq_str (za2 I q zjn)
  | _=>exact absurd (show false=true from hs) Bool.false_ne_true
 | byt i =>
  obtain ⟨t,rfl⟩:=rx
  cases y with
  | byt j=>obtain ⟨t',rfl⟩:=ry;exact PySem.W.eq_bytes (za2 I q zjo)
  | _=>exact absurd (show false=true from hs) Bool.false_ne_true
 | _=>cases y <;> exact absurd (show false=true from hs) Bool.false_ne_true
theorem zjp:OpR X (compareOp .NotEq) rNe:=by
 intro pins s σ H x y v u Q I rx ry h
 obtain ⟨hs,q⟩:=h
 cases x with
 | non =>
  cases rx
  cases y with
  | non=>cases ry;exact PySem.EqNone.ne_none_none (za2 I q (by simp))
  | bl j=>cases ry;exact PySem.EqNone.ne_none_bool (za2 I q (by simp))
  | int j=>obtain ⟨t',rfl⟩:=ry;exact PySem.EqNone.ne_none_int (za2 I q (by simp))
  | str j=>obtain ⟨t',rfl⟩:=ry;exact PySem.EqNone.ne_none_str (za2 I q (by simp))
  | _=>exact absurd (show false=true from hs) Bool.false_ne_true
 | bl i =>
  cases rx
  cases y with
  | non=>cases ry;exact PySem.EqNone.ne_bool_none (za2 I q (by simp))
  | bl j=>cases ry;exact ne_bool (za2 I q (congrArg not dec_bl))
  | str j=>obtain ⟨t',rfl⟩:=ry;exact PySem.EqMixed.ne_bool_str (za2 I q (by simp))
  | _=>exact absurd (show false=true from hs) Bool.false_ne_true
 | int i =>
  obtain ⟨t,rfl⟩:=rx
  cases y with
  | non=>cases ry;exact PySem.EqNone.ne_int_none (za2 I q (by simp))
  | int j=>obtain ⟨t',rfl⟩:=ry;exact ne_int (za2 I q (congrArg not zjm))
  | str j=>obtain ⟨t',rfl⟩:=ry;exact PySem.EqMixed.ne_int_str (za2 I q (by simp))
  | _=>exact absurd (show false=true from hs) Bool.false_ne_true
 | str i =>
  obtain ⟨t,rfl⟩:=rx
  cases y with
  | non=>cases ry;exact PySem.EqNone.ne_str_none (za2 I q (by simp))
  | bl j=>cases ry;exact PySem.EqMixed.ne_str_bool (za2 I q (by simp))
  | int j=>obtain ⟨t',rfl⟩:=ry;exact PySem.EqMixed.ne_str_int (za2 I q (by simp))
  | str j=>obtain ⟨t',rfl⟩:=ry;exact ne_str (za2 I q (congrArg not zjn))
  | _=>exact absurd (show false=true from hs) Bool.false_ne_true
 | byt i =>
  obtain ⟨t,rfl⟩:=rx
  cases y with
  | byt j=>obtain ⟨t',rfl⟩:=ry;exact PySem.W.ne_bytes (za2 I q (congrArg not zjo))
  | _=>exact absurd (show false=true from hs) Bool.false_ne_true
 | _=>cases y <;> exact absurd (show false=true from hs) Bool.false_ne_true
theorem zga:OpR X (compareOp .Lt) (rI0 fun i j=>.bl (decide (i < j))):=opB0 fun _ _ _ _ _ _ _ q=>lt_int q
theorem op_gt:OpR X (compareOp .Gt) (rI0 fun i j=>.bl (decide (j < i))):=opB0 fun _ _ _ _ _ _ _ q=>gt_int q
theorem op_ge:OpR X (compareOp .GtE) (rI0 fun i j=>.bl (decide (j≤i))):=opB0 fun _ _ _ _ _ _ _ q=>ge_int q
inductive op_in_str_r  (x:V)(y:V)(H:Hp)(Q:VK):Prop
 | mk:∀ i j,(x = .str i)→(y = .str j)→(Q (.bl (!(Builtin.Str.occurrences j i 0 j.length 1).isEmpty)) H)→op_in_str_r x y H Q
theorem zjq:OpR X (compareOp .In) op_in_str_r:=by
 intro pins s σ H x y v u Q I rx ry h
 obtain ⟨i,j,rfl,rfl,q⟩:=h
 obtain ⟨t,rfl⟩:=rx
 obtain ⟨t',rfl⟩:=ry
 exact in_str (za2 I q rfl)
theorem op_isN:OpR X (compareOp .Is) (fun x y H Q=>y = .non∧Q (.bl (decide (x = .non))) H):=by
 intro pins s σ H x y v u Q I rx ry h
 obtain ⟨rfl,q⟩:=h
 cases ry
 refine is_none_gen (za2 I q ?_)
 cases x <;> first
  | (cases rx;rfl)
  | (obtain ⟨t,rfl⟩:=rx;rfl)
theorem zhf:OpR X (compareOp .IsNot) (fun x y H Q=>y = .non∧Q (.bl (!decide (x = .non))) H):=by
 intro pins s σ H x y v u Q I rx ry h
 obtain ⟨rfl,q⟩:=h
 cases ry
 refine isnot_none_gen (za2 I q ?_)
 cases x <;> first
  | (cases rx;rfl)
  | (obtain ⟨t,rfl⟩:=rx;rfl)
theorem zay (b:Expr){op:CmpOp}(h:op ≠ .In:=by decide)(h2:op ≠ .NotIn:=by decide):behindInMarks op b=false:=by
 have e1:(op == CmpOp.In)=false:=by cases op <;> first | rfl | exact absurd rfl h
 have e2:(op == CmpOp.NotIn)=false:=by cases op <;> first | rfl | exact absurd rfl h2
 cases b <;> simp [behindInMarks,e1,e2]
theorem zd6 {op:CmpOp}{r:R2}(ho:OpR X (compareOp op) r)(ha:PE X a ta)(hb:PE X b tb)(hm:behindInMarks op b=false):PE X (.Compare a [op] [b] pos) (tOp r ta tb):=by
 intro pins s σ H Q I h
 exact wpAny_Compare1 (binT ha hb I h fun v u s2 x y H2 I2 rx ry q=>ho pins s2 σ H2 x y v u Q I2 rx ry q) hm
noncomputable def tTest_k1 (Q:(Bool→Hp→Prop)):V→Hp→Prop:=fun x H'=>IsB x H' Q
noncomputable def tTest (t:TE):TT:=fun σ H Q=>t σ H (tTest_k1 Q)
theorem zat {op:CmpOp}{r:R2}(ho:OpR X (compareOp op) r)(ha:PE X a ta)(hb:PE X b tb)(hm:behindInMarks op b=false):PT X (.Compare a [op] [b] pos) (tTest (tOp r ta tb)):=by
 intro pins s σ H Q I h
 refine wpAny_isTrue_Compare1 (thn (ha pins s σ H _ I h) fun v s1 ⟨x,H1,I1,r1,q1⟩=>thn (hb pins s1 σ H1 _ I1 q1) fun u s2 ⟨y,H2,I2,r2,q2⟩ =>
  thn (ho pins s2 σ H2 x y v u _ I2 r1 r2 q2) fun c s3 ⟨z,H3,I3,r3,k,e,q3⟩=>?_) hm
 subst e
 cases r3
 exact wpAny_truthy_bool ⟨H3,I3,q3⟩
noncomputable def TruV (K:PySem.W.Frag)(x:V)(H:Hp)(k:Bool):Prop :=
 match x with
 | .non=>k=false
 | .bl b=>k=b
 | .int i=>k=(i != 0)
 | .str y=>y.length≤sizeLine∧k=((y.length:Int) != 0)
 | .byt y=>y.size≤sizeLine∧k=((y.size:Int) != 0)
 | .ref p=>(∃ xs,SqL K H p xs∧k=!xs.isEmpty) ∨ (∃ xs,SqT K H p xs∧k=!xs.isEmpty) ∨ ∃ kvs,H p=some (.dK kvs)∧k=!kvs.isEmpty
 | _=>False
theorem ziv {κ:Type}{kvs:List (κ × V)}{vs:List (κ × Value)}(r:KV kvs vs):(!vs.isEmpty)=!kvs.isEmpty:=by
 cases r <;> rfl
theorem ze2 {xs:List V}{its:List Value}(r:Vals xs its):(!its.toArray.isEmpty)=!xs.isEmpty:=by
 cases r <;> simp
theorem zd7:(sizeLine:Nat) < 2 ^ 63:=by rw [sizeLine_eq]; decide
inductive tru_r (K:PySem.W.Frag)(x:V)(H:Hp)(Q:Bool→Hp→Prop):Prop
 | mk:∀ k,(TruV K x H k)→(Q k H)→tru_r K x H Q
theorem tru_ok:TruR X (tru_r X.K):=by
 intro pins s σ H x v Q I rx h
 obtain ⟨k,e,q⟩:=h
 have hl:=zd7
 have hs:sizeLine=16777216:=sizeLine_eq
 cases x with
 | non =>
  cases rx
  have e':k=false:=e
  subst e'
  exact truthy_none ⟨H,I,q⟩
 | bl b =>
  cases rx
  have e':k=b:=e
  subst e'
  exact wpAny_truthy_bool ⟨H,I,q⟩
 | int i =>
  obtain ⟨t,rfl⟩:=rx
  have e':k=(i != 0):=e
  subst e'
  exact PySem.P.truthy_int ⟨H,I,q⟩
 | str y =>
  obtain ⟨t,rfl⟩:=rx
  obtain ⟨hy,e'⟩:y.length≤sizeLine∧k=((y.length:Int) != 0):=e
  subst e'
  exact PySem.P.truthy_str (by omega) ⟨H,I.tok _,q⟩
 | byt y =>
  obtain ⟨t,rfl⟩:=rx
  obtain ⟨hy,e'⟩:y.size≤sizeLine∧k=((y.size:Int) != 0):=e
  subst e'
  exact PySem.W.truthy_bytes (by omega) ⟨H,I.tok _,q⟩
 | ref p =>
  cases rx
  have e':(∃ xs,SqL X.K H p xs∧k=!xs.isEmpty) ∨ (∃ xs,SqT X.K H p xs∧k=!xs.isEmpty) ∨ ∃ kvs,H p=some (.dK kvs)∧k=!kvs.isEmpty:=e
  rcases e' with ⟨xs,hx,e'⟩ | ⟨xs,hx,e'⟩ | ⟨kvs,hx,e'⟩
  ·subst e'
   obtain ⟨its,r,pl,hz⟩:=I.list hx
   have hlen:=r.length
   exact wpAny_truthy_list pl.isList (by simp only [List.size_toArray];omega) ⟨H,I.tok _,by rw [ze2 r];exact q⟩
  ·subst e'
   obtain ⟨its,r,pl,hz⟩:=I.tuple hx
   have hlen:=r.length
   exact truthy_tuple pl (by simp only [List.size_toArray];omega) ⟨H,I.tok _,by rw [ze2 r];exact q⟩
  ·subst e'
   obtain ⟨hz,hS,vs,r,m⟩:kvs.length≤sizeLine∧(p == sysModules)=false∧∃ vs,KV kvs vs∧s.heap.DictOf (mixKind X.prog X.w) p vs:=I.hok p _ hx
   have hlen:kvs.length=vs.length:=Paired.length r
   exact wpAny_truthy_dict hS m (by omega) ⟨H,I.tok _,by rw [ziv r];exact q⟩
 | _=>exact (show False from e).elim
noncomputable def tTru_k1 (K:PySem.W.Frag)(Q:(Bool→Hp→Prop)):V→Hp→Prop:=fun x H'=>tru_r K x H' Q
noncomputable def tTru (K:PySem.W.Frag)(ta:TE):TT:=fun σ H Q=>ta σ H (tTru_k1 K Q)
theorem zdv (ha:PE X a ta)(he:∀ whole,isTrue a X.env whole=(do let v ← whole; standAt a.pos; holding [v] (truthy v))) :
  PT X a (tTru X.K ta):=by
 intro pins s σ H Q I h
 exact isTrue_plain (thn (ha pins s σ H _ I h) fun v s1 zq47=>(by obtain ⟨x,H1,I1,r1,q1⟩:=zq47;exact tru_ok pins s1 σ H1 x v Q I1 r1 q1)) (he _)
inductive op_add_str_r  (x:V)(y:V)(H:Hp)(Q:VK):Prop
 | mk:∀ i j,(x = .str i)→(y = .str j)→(i.length+j.length≤sizeLine)→(Q (.str (i++j)) H)→op_add_str_r x y H Q
theorem zaz:OpR X (binaryOp .Add) op_add_str_r:=by
 intro pins s σ H x y v u Q I rx ry h
 obtain ⟨i,j,rfl,rfl,hz,q⟩:=h
 obtain ⟨t,rfl⟩:=rx
 obtain ⟨t',rfl⟩:=ry
 exact add_str (fun t' tk=>⟨.str (i++j),H,I.tok _,⟨_,rfl⟩,q⟩) hz
theorem zcc {x:V}{us:List Value}(r:Vals [x] us):∃ u,us=[u]∧RelV x u:=by
 cases r with
 | cons r1 r2=>cases r2;exact ⟨_,rfl,r1⟩
theorem zjr {x y:V}{us:List Value}(r:Vals [x,y] us):∃ u w',us=[u,w']∧RelV x u∧RelV y w':=by
 cases r with
 | cons r1 r2 =>
  cases r2 with
  | cons r3 r4=>cases r4;exact ⟨_,_,rfl,r1,r3⟩
inductive call_max2_r  (xs:List V)(H:Hp)(Q:VK):Prop
 | mk:∀ i j,(xs=[.int i,.int j])→(Q (.int (if j > i then j else i)) H)→call_max2_r xs H Q
theorem zgb (hc:X.calm=true):CallR X (.builtin "max") call_max2_r:=by
 intro pins s σ H xs us Q I r h
 obtain ⟨i,j,rfl,q⟩:=h
 obtain ⟨u,w',rfl,⟨t,rfl⟩,⟨t',rfl⟩⟩:=zjr r
 refine max_two_ints (I.ok.hd hc) fun h' tk k=>⟨_,H,I.kept k,?_,q⟩
 by_cases hj:j > i
 ·rw [if_pos hj,if_pos hj];exact ⟨_,rfl⟩
 ·rw [if_neg hj,if_neg hj];exact ⟨_,rfl⟩
inductive call_min2_r  (xs:List V)(H:Hp)(Q:VK):Prop
 | mk:∀ i j,(xs=[.int i,.int j])→(Q (.int (if j < i then j else i)) H)→call_min2_r xs H Q
theorem zjs (hc:X.calm=true):CallR X (.builtin "min") call_min2_r:=by
 intro pins s σ H xs us Q I r h
 obtain ⟨i,j,rfl,q⟩:=h
 obtain ⟨u,w',rfl,⟨t,rfl⟩,⟨t',rfl⟩⟩:=zjr r
 refine min_two_ints (I.ok.hd hc) fun h' tk k=>⟨_,H,I.kept k,?_,q⟩
 by_cases hj:j < i
 ·rw [if_pos hj,if_pos hj];exact ⟨_,rfl⟩
 ·rw [if_neg hj,if_neg hj];exact ⟨_,rfl⟩
theorem zjt:CallR X (.type "int") (fun xs H Q=>(∃ i,xs=[.int i]∧Q (.int i) H) ∨ ∃ k,xs=[.bl k]∧Q (.int (if k then 1 else 0)) H):=by
 intro pins s σ H xs us Q I r h
 rcases h with ⟨i,rfl,q⟩ | ⟨k,rfl,q⟩
 ·obtain ⟨u,rfl,t,rfl⟩:=zcc r
  exact call_int_int ⟨.int i,H,I,⟨_,rfl⟩,q⟩
 ·obtain ⟨u,rfl,r1⟩:=zcc r
  cases r1
  exact call_int_bool ⟨.int (if k then 1 else 0),H,I.tok _,⟨_,rfl⟩,q⟩
end
end L2
namespace L2
open PySem PySem.Spec PyProof.Rows
theorem zju {h:Heap}{dx:Addr}{mA:Str→Option Value}(n:h.Ns1 dx mA):∃ od,h.get? dx=some od∧∀ name,PySem.W.lookIn name od=some (mA name):=by
 obtain ⟨o,es,ep,ho,hd,hk,_,hm⟩:=n
 refine ⟨o,ho,fun name=>?_⟩
 have e:=hm name
 unfold nsFind findBy at e
 rw [← Array.find?_toList] at e
 unfold PySem.W.lookIn
 rw [hd]
 dsimp only
 split
 ·rename_i y q
  rw [q] at e
  exact congrArg some e
 ·rename_i q
  rw [q] at e
  have a:es.toList.any (·.refKey)=false:=by
   rw [List.any_eq_false]
   intro y hy
   obtain ⟨z,t,hkey⟩:=hk y (Array.mem_toList_iff.mp hy)
   simp [DictEntry.refKey,hkey]
  have a':¬ es.toList.any (·.refKey)=true:=by rw [a];exact Bool.false_ne_true
  rw [if_neg a']
  exact congrArg some e
section
variable {prog:Program} {w:World} {A:Around} {E:Value→Shared→Prop} {s:Shared} {K:PySem.W.Frag} {x dx C f:Addr} {mA:Str→Option Value} {name:Str} {v:Value}
end
noncomputable def putF (f:Str)(v:V):List (Str × V)→List (Str × V)
 | []=>[(f,v)]
 | (g,x)::r=>if g=f then (g,v)::r else (g,x)::putF f v r
theorem zd8 (f g:Str)(v:V):∀ fs:List (Str × V),(putF f v fs).lookup g=if g=f then some v else fs.lookup g
 | []=>by
  show List.lookup g [(f,v)]=_
  by_cases h:g=f
  ·have hb:(g == f)=true:=beq_iff_eq.mpr h
   simp only [List.lookup,hb,if_pos h]
  ·have hb:(g == f)=false:=beq_eq_false_iff_ne.mpr h
   simp only [List.lookup,hb,if_neg h]
 | (k,x)::r=>by
  have ih:=zd8 f g v r
  rw [show putF f v ((k,x)::r)=(if k=f then (k,v)::r else (k,x)::putF f v r) from rfl]
  by_cases hk:k=f
  ·rw [if_pos hk]
   by_cases h:g=k
   ·have hb:(g == k)=true:=beq_iff_eq.mpr h
    simp only [List.lookup,hb,if_pos (h.trans hk)]
   ·have hb:(g == k)=false:=beq_eq_false_iff_ne.mpr h
    simp only [List.lookup,hb,if_neg (fun e:g=f=>h (e.trans hk.symm))]
  ·rw [if_neg hk]
   by_cases h:g=k
   ·have hb:(g == k)=true:=beq_iff_eq.mpr h
    simp only [List.lookup,hb,if_neg (fun e:g=f=>hk (h.symm.trans e))]
   ·have hb:(g == k)=false:=beq_eq_false_iff_ne.mpr h
    simp only [List.lookup,hb]
    exact ih
theorem zd9 (f:Str)(v:V):∀ fs:List (Str × V),f∈(putF f v fs).map (·.1)∧∀ g,g∈fs.map (·.1)→g∈(putF f v fs).map (·.1)
 | []=>⟨by simp [putF],fun g h=>by simp at h⟩
 | (k,x)::r=>by
  obtain ⟨i1,i2⟩:=zd9 f v r
  rw [show putF f v ((k,x)::r)=(if k=f then (k,v)::r else (k,x)::putF f v r) from rfl]
  by_cases hk:k=f
  ·rw [if_pos hk]
   subst hk
   exact ⟨by simp,fun g h=>by simpa using h⟩
  ·rw [if_neg hk]
   refine ⟨?_,fun g h=>?_⟩
   ·rw [List.map_cons]
    exact List.mem_cons_of_mem _ i1
   ·rw [List.map_cons] at h ⊢
    rcases List.mem_cons.mp h with e | e
    ·exact List.mem_cons.mpr (.inl e)
    ·exact List.mem_cons_of_mem _ (i2 g e)
theorem RelO.some_of {v:V}{o:Option Value}(r:RelO (some v) o):∃ u,o=some u∧RelV v u:=by
 cases o with
 | none=>exact (show False from r).elim
 | some u=>exact ⟨u,rfl,r⟩
theorem zjv {v:V}{u:Value}(r:RelV v u):PySem.W.handedIn u=true:=by
 cases v with
 | non=>cases (show u=Value.none from r);rfl
 | bl b=>cases (show u=Value.bool b from r);rfl
 | int i=>obtain ⟨t,e⟩:=(show ∃ t,u=Value.int i t from r);cases e;rfl
 | str x=>obtain ⟨t,e⟩:=(show ∃ t,u=Value.str x t from r);cases e;rfl
 | byt b=>obtain ⟨t,e⟩:=(show ∃ t,u=Value.bytes b t from r);cases e;rfl
 | flt b=>obtain ⟨t,e⟩:=(show ∃ t,u=Value.float b t from r);cases e;rfl
 | ref a=>cases (show u=Value.ref a from r);rfl
 | ty n=>cases (show u=Value.type n from r);rfl
section
variable {P:Program} {w:World} {H H':Hp} {h h':Heap} {a C dx:Addr} {fs fs':List (Str × V)}
end
section
variable {X:Cx} {pins:List (Addr × Obj)} {σ:St} {H:Hp} {s:Shared} {a C dx:Addr} {fs:List (Str × V)} {f:Str} {v:V} {A:Around} {E:Value→Shared→Prop}
theorem attr_of {prog:Program}{w:World}{env:Env}{e:Expr}{f:Str}{pos:Pos}{s:Shared}{Q:Value→Shared→Prop}(hb:attributeBase e f env (eval e env)=eval e env)
  (h:wpAny (model prog w) A (eval e env) (fun o s₁=>wpAny (model prog w) A (getAttr o f true) Q E s₁) E s):wpAny (model prog w) A (eval (.Attribute e f pos) env) Q E s :=
 Attribute_any_ h (by rw [arm_eval_Attribute,hb])
end
section
variable {X:Cx} {o e value:Expr} {f:Str} {pos pos' tpos:Pos} {ta tv:TE}
end
section
variable {X:Cx} {pins:List (Addr × Obj)} {σ:St} {H:Hp} {s:Shared} {A:Around} {E:Value→Shared→Prop} {Q:Value→Shared→Prop} {c:Value} {b:Bool}
end
end L2
namespace L2
open PySem PySem.Spec PyProof.Rows
structure Room (k:Nat) (A:Around):Prop where
 hd:A.handled=none
 dp:A.depth+3*k+5 < recursionLimit
 un:A.units+16*k+200 < cLine
 gd:A.guards=some []
theorem Room.mono {j k:Nat}{A:Around}(r:Room k A)(h:j≤k):Room j A:=⟨r.hd,by have:=r.dp; omega,by have:=r.un; omega,r.gd⟩
theorem Room.deeper {k:Nat}{A:Around}(r:Room (k+1) A)(env:Env):Room k (A.deeper env) :=
 ⟨r.hd,by have:=r.dp;show A.depth+1+3*k+5 < _;omega,by have:=r.un;show A.units+3+16*k+200 < _;omega,r.gd⟩
theorem ziw {A:Around}{C:Addr}{us:List Value}{kw:List (Str × Value)}:(A.under (.builtin "type.__call__" ⟨.ref C::us,kw⟩)).depth=A.depth+1:=by
 first | rfl | simp [Around.under,Code.weight,Code.isCreation,Code.isGuard,Code.isCaller,Code.frames,Code.isFrame,guardIds]
theorem zix {A:Around}{C:Addr}{us:List Value}{kw:List (Str × Value)}:(A.under (.builtin "type.__call__" ⟨.ref C::us,kw⟩)).units=A.units+1:=by
 first | rfl | simp [Around.under,Code.cUnits,Code.frames,Code.isFrame]
theorem Room.make {k:Nat}{A:Around}(r:Room (k+1) A)(C:Addr)(us:List Value)(kw:List (Str × Value)):Room k (A.under (.builtin "type.__call__" ⟨.ref C::us,kw⟩)) :=
 ⟨r.hd,by have:=r.dp;rw [ziw];omega,by have:=r.un;rw [zix];omega,by have g:=r.gd;simpa [Around.under,Code.guards,pushGuards,Code.isGuard,guardIds] using g⟩
theorem Room.depth {k:Nat}{A:Around}(r:Room k A):A.depth < recursionLimit:=by have:=r.dp; omega
theorem Room.units {k:Nat}{A:Around}(r:Room k A):A.units+64 < cLine:=by have:=r.un; omega
noncomputable def tNil:TA:=fun _ H Q=>Q [] H
noncomputable def tCons_k1 (Q:(List V→Hp→Prop))(x:V):List V→Hp→Prop:=fun xs H2=>Q (x::xs) H2
noncomputable def tCons_k2 (tr:TA)(σ:St)(Q:(List V→Hp→Prop)):V→Hp→Prop:=fun x H1=>tr σ H1 (tCons_k1 Q x)
noncomputable def tCons (ta:TE)(tr:TA):TA:=fun σ H Q=>ta σ H (tCons_k2 tr σ Q)
section
variable {X:Cx} {e:Expr} {es:List Expr} {te:TE} {t:TA} {pos:Pos}
theorem zad:PA X [] tNil:=fun _ _ _ _ H Q I h=>Calls.spliced_nil ⟨[],H,I,.nil,h⟩
theorem zaa (ha:PE X e te)(hr:PA X es t)(hs:starEach (e::es) X.env=(false,eval e X.env)::starEach es X.env:=by rfl):PA X (e::es) (tCons te t):=by
 intro pos pins s σ H Q I h
 rw [hs]
 show wpAny _ _ (spliced ((false,eval e X.env)::backTo pos (starEach es X.env))) _ _ s
 refine Calls.spliced_cons (thn (ha pins s σ H _ I h) fun u s1 zq54=>?_)
 obtain ⟨x,H1,I1,r1,q1⟩:=zq54
 exact thn (hr pos pins s1 σ H1 _ I1 q1) fun us s2 zq55=>(by obtain ⟨xs,H2,I2,r2,q2⟩:=zq55;exact ⟨x::xs,H2,I2,.cons r1 r2,q2⟩)
noncomputable def tTup_k1 (Q:VK):List V→Hp→Prop:=fun xs H1=>xs.length≤sizeLine∧∀ p,H1 p=none→Q (.ref p) (upd H1 p (.tup xs))
noncomputable def tTup (t:TA):TE:=fun σ H Q=>t σ H (tTup_k1 Q)
noncomputable def tLst_k1 (Q:VK):List V→Hp→Prop:=fun xs H1=>xs.length≤sizeLine∧∀ p,H1 p=none→Q (.ref p) (upd H1 p (.lst xs))
noncomputable def tLst (t:TA):TE:=fun σ H Q=>t σ H (tLst_k1 Q)
theorem zbc {x1}(h:PA X es t):PE X (.Tuple es x1 pos) (tTup t):=by
 intro pins s σ H Q I hq
 refine wpAny_Tuple_spliced (thn (h pos pins s σ H _ I hq) fun us s1 ⟨xs,H1,I1,r,z,q⟩=>⟨by rw [← r.length];exact z,?_⟩)
 have hf:H1 s1.heap.objs.size=none:=I1.hok.fresh (Nat.le_refl _)
 refine ⟨.ref s1.heap.objs.size,upd H1 s1.heap.objs.size (.tup xs),I1.laid (t':=s1.toks) (fun b u e=>Heap.get?_push_of_some _ e) (Nat.le_refl _) ?_,rfl,q _ hf⟩
 exact ⟨z,us,r,⟨_,Heap.get?_push_size _ rfl,rfl,_,rfl⟩,.new _ _ rfl⟩
theorem zct (h:PA X es t):PE X (.List es pos) (tLst t):=by
 intro pins s σ H Q I hq
 refine wpAny_List_spliced (thn (h pos pins s σ H _ I hq) fun us s1 ⟨xs,H1,I1,r,z,q⟩=>⟨by rw [← r.length];exact z,?_⟩)
 have hf:H1 s1.heap.objs.size=none:=I1.hok.fresh (Nat.le_refl _)
 refine ⟨.ref s1.heap.objs.size,upd H1 s1.heap.objs.size (.lst xs),I1.laid (t':=s1.toks) (fun b u e=>Heap.get?_push_of_some _ e) (Nat.le_refl _) ?_,rfl,q _ hf⟩
 exact ⟨z,us,0,r,Heap.get?_push_size _ rfl⟩
end
noncomputable abbrev Sp:=List V→Hp→VK→XK→Prop
noncomputable abbrev CXT:=List Env→Hp→Shared→XK→Value→Shared→Prop
structure Env0 (P:Program) (w:World) (K:PySem.W.Frag) (mg:Str→Option Value) (base:Heap) (A:Around) (outer:List Env) (s:Shared) (H:Hp):Prop where
 frames:A.frames=some outer
 mod:Mod K mg base
 bs:∀ b o,base.get? b=some o→s.heap.get? b=some o∧H b=none
 bsz:base.objs.size≤s.heap.objs.size
 funs:s.heap.FunFrames base outer
 frf:∀ b∈frs outer,H b=none
 hok:HOk P w H s.heap
 bare:AllBare s.gens
noncomputable def CE (outer:List Env)(P:Program)(w:World)(H:Hp)(s:Shared)(Q:VK)(u:Value)(s':Shared):Prop :=
 ∃ v H',s'.os=s.os∧AllBare s'.gens∧Un (frs outer) [] H H' s.heap s'.heap∧HOk P w H' s'.heap∧RelV v u∧Q v H'
noncomputable def CR (CX:CXT)(outer:List Env)(P:Program)(w:World)(H:Hp)(s:Shared)(Q:VK)(E:XK)(r:Result)(s':Shared):Prop :=
 match r with
 | .ok (.ret u)=>CE outer P w H s Q u s'
 | .ok _=>False
 | .error e=>CX outer H s E e s'
structure FnOk (P:Program) (w:World) (K:PySem.W.Frag) (mg:Str→Option Value) (base:Heap) (CX:CXT) (k:Nat) (f:Addr) (fd:FuncData) (ps:List Str) (sp:Sp):Prop where
 len:∀ vs H Q E,sp vs H Q E→vs.length=ps.length
 run:∀ (A:Around) (outer:List Env) (s:Shared) (H:Hp) (args:Args) (us:List Value) (vs:List V) (Q:VK) (E:XK),Room k A→Env0 P w K mg base A outer s H→BindsTo s fd args (ps.zip us)→Vals vs us→sp vs H Q E →
  codeAny (model P w) A (.call (.ref f) args) (CR CX outer P w H s Q E) s
theorem FnOk.mono {P:Program}{w:World}{K:PySem.W.Frag}{mg:Str→Option Value}{base:Heap}{CX:CXT}{j k:Nat}{f:Addr}{fd:FuncData}{ps:List Str}{sp:Sp}(F:FnOk P w K mg base CX j f fd ps sp)(h:j≤k) :
  FnOk P w K mg base CX k f fd ps sp:=⟨F.len,fun A outer s H args us vs Q E hr=>F.run A outer s H args us vs Q E (hr.mono h)⟩
theorem Env0.make {P:Program}{w:World}{K:PySem.W.Frag}{mg:Str→Option Value}{base:Heap}{A:Around}{outer:List Env}{s:Shared}{H:Hp}(e:Env0 P w K mg base A outer s H)(C:Addr)(us:List Value)(kw:List (Str × Value)) :
  Env0 P w K mg base (A.under (.builtin "type.__call__" ⟨.ref C::us,kw⟩)) outer s H:=⟨by first | exact e.frames | (simpa [Around.under,Code.envs,Code.isFrame,pushEnvs] using e.frames),e.mod,e.bs,e.bsz,e.funs,e.frf,e.hok,e.bare⟩
section
variable {X:Cx} {pins:List (Addr × Obj)} {σ:St} {H:Hp} {s s':Shared}
theorem Inv.env0 (I:Inv X pins σ H s):Env0 X.prog X.w X.K X.mg X.base X.A X.stack s H :=
 ⟨I.ok.frames,I.ok.mod,I.bs,Nat.le_trans I.ok.bsz I.sz,I.stack,I.stkFree,I.hok,I.bare⟩
theorem Inv.after {Q:VK}{u:Value}(I:Inv X pins σ H s)(h:CE X.stack X.prog X.w H s Q u s'):EP X pins σ Q u s':=by
 obtain ⟨v,H',os,bare,un,hok,r,q⟩:=h
 obtain ⟨hh,g,d,t,os'⟩:=s'
 obtain rfl:os'=s.os:=os
 exact ⟨v,H',I.call (h':=hh) (g':=g) (d':=d) (t':=t) (ch:=[]) un hok bare (fun b z=>absurd z (by simp)),r,q⟩
end
noncomputable def tCall_k1 (sp:Sp)(dvs:List V)(E:XK)(Q:VK):List V→Hp→Prop:=fun vs H1=>sp (vs++dvs) H1 Q E
noncomputable def tCall (sp:Sp)(dvs:List V)(E:XK)(t:TA):TE:=fun σ H Q=>t σ H (tCall_k1 sp dvs E Q)
noncomputable def Binds (K:PySem.W.Frag)(fd:FuncData)(ps:List Str)(ds:List Value):Prop :=
 ∀ (s:Shared) (us:List Value),K.In s.heap→(us++ds).length=ps.length→BindsTo s fd ⟨us,[]⟩ (ps.zip (us++ds))
theorem Binds.all {K:PySem.W.Frag}{fd:FuncData}{ps:List Str}(h:∀ us:List Value,us.length=ps.length→bindArgs fd ⟨us,[]⟩=pure (ps.zip us)):Binds K fd ps []:=fun s us _ hl=>by
 rw [List.append_nil] at hl ⊢
 exact .of_eq (h us hl)
noncomputable def Passes (CX:CXT)(X:Cx)(E:XK):Prop:=∀ (pins:List (Addr × Obj)) (σ:St) (H:Hp) (s:Shared) (e:Value) (s':Shared),Inv X pins σ H s→CX X.stack H s E e s'→X.xe e s'
section
variable {X:Cx} {CX:CXT} {k:Nat} {f C:Addr} {fd:FuncData} {ps:List Str} {sp:Sp} {dvs:List V} {ds:List Value} {E:XK} {x m:Str} {p pos apos:Pos} {e o:Expr} {es:List Expr} {ta:TE} {t:TA}
theorem run_fn {pins:List (Addr × Obj)}{σ:St}{H:Hp}{s:Shared}{Q:VK}{us:List Value}{vs:List V}(F:FnOk X.prog X.w X.K X.mg X.base CX k f fd ps sp)(hr:Room k X.A)(hb:Binds X.K fd ps ds)(hd:Vals dvs ds)(hx:Passes CX X E)
  (I:Inv X pins σ H s) (r:Vals vs us) (h:sp (vs++dvs) H Q E):wpAny (model X.prog X.w) X.A (call (.ref f) us) (EP X pins σ Q) X.xe s:=by
 have r2:Vals (vs++dvs) (us++ds):=r.append hd
 have hl:(us++ds).length=ps.length:=by rw [← r2.length];exact F.len _ _ _ _ h
 refine wpAny_call (codeAny_mono (F.run X.A X.stack s H ⟨us,[]⟩ (us++ds) (vs++dvs) Q E hr I.env0 (hb s us I.kIn hl) r2 h) fun r s' hq=>?_)
 cases r with
 | error e=>exact hx pins σ H s e s' I hq
 | ok fl =>
  cases fl with
  | ret u=>exact I.after hq
  | next=>exact False.elim hq
  | brk=>exact False.elim hq
  | cont=>exact False.elim hq
theorem pe_call (F:FnOk X.prog X.w X.K X.mg X.base CX k f fd ps sp)(hr:Room k X.A)(hg:Gl X x)(hm:X.mg x=some (.ref f))(hk:PySem.W.keepIn X.K (.ref f)=true)(hb:Binds X.K fd ps ds)(hd:Vals dvs ds)(hx:Passes CX X E)
  (ha:PA X (e::es) t) (hdb:(x == ("__debug__":Str))=false:=by decide) (he:starEach (e::es) X.env=(false,eval e X.env)::starEach es X.env:=by rfl) (hpl:(backTo pos (starEach es X.env)).any (·.1)=false:=by rfl) :
  PE X (.Call (.Name x p) (e::es) [] pos) (tCall sp dvs E t):=by
 intro pins s σ H Q I h
 refine wpAny_Call_Name_kw (zcy I hg hm ?_ hdb)
 refine PySem.W.callWith_K (h₀:=X.base) I.ok.mod.kin hk (thn (ha pos pins s σ H _ I h) fun us s1 ⟨vs,H1,I1,r,q⟩=>⟨I1.kIn,?_⟩) he hpl
 exact run_fn F hr hb hd hx I1 r q
end
section
variable {X:Cx} {CX:CXT} {k:Nat} {f C:Addr} {fd:FuncData} {ps ks:List Str} {sp:Sp} {E:XK} {x m:Str} {p pos apos kpos:Pos} {e o:Expr} {es:List Expr} {kws:List Keyword} {te ta:TE} {t tk:TA} {nm:Option Str}
variable {g:List Value→List Value→List Value} {gV:List V→List V→List V}
end
structure FnScope (N P:List Str) (sc:Scope):Prop where
 kind:sc.kind = .function
 co:sc.isCoroutine=false
 gen:sc.isGenerator=false
 nd:N.Nodup
 pre:N.take P.length=P
 par:∀ x∈P,sc.names.lookup x=some .local ∨ sc.names.lookup x=some .cell
 nofree:∀ y∈sc.names,y.2 ≠ .free
theorem zgc {kindOf:Str→Option NameKind}{x:Str}:∀ {binds:List (Str × Value)} {m:Str→Option Value},(∀ v,(x,v)∉binds)→bindL kindOf binds m x=m x
 | [],_,_=>rfl
 | (n,v)::r,m,h=>by
  unfold bindL
  rw [zgc fun w hw=>h w (List.mem_cons_of_mem _ hw)]
  split
  ·have:x≠n:=by rintro rfl;exact h v List.mem_cons_self
   simp [this]
  ·rfl
theorem zgd {kindOf:Str→Option NameKind}{x:Str}:∀ {binds:List (Str × Value)} {m:Str→Option Value},(∀ v,(x,v)∉binds)→bindC kindOf binds m x=m x
 | [],_,_=>rfl
 | (n,v)::r,m,h=>by
  unfold bindC
  rw [zgd fun w hw=>h w (List.mem_cons_of_mem _ hw)]
  split
  ·rfl
  ·have:x≠n:=by rintro rfl;exact h v List.mem_cons_self
   simp [this]
theorem zge {kindOf:Str→Option NameKind}{x:Str}{v:Value}:∀ {P:List Str} {vs:List Value} {i:Nat} {m:Str→Option Value},P.Nodup→P[i]? = some x→vs[i]? = some v→kindOf x=some .local →
  bindL kindOf (P.zip vs) m x=some v
 | [],_,_,_,_,h,_,_=>by simp at h
 | _::_,[],_,_,_,_,h,_=>by simp at h
 | p::P,w::vs,0,m,nd,h1,h2,hk=>by
  simp at h1 h2;subst h1;subst h2
  show bindL kindOf ((p,w)::P.zip vs) m p=_
  unfold bindL
  rw [zgc fun v hv=>(List.nodup_cons.mp nd).1 (List.of_mem_zip hv).1,if_pos hk]
  simp
 | p::P,w::vs,i+1,m,nd,h1,h2,hk=>by
  show bindL kindOf ((p,w)::P.zip vs) m x=_
  unfold bindL
  exact zge (i:=i) (List.nodup_cons.mp nd).2 (by simpa using h1) (by simpa using h2) hk
theorem zgf {kindOf:Str→Option NameKind}{x:Str}{v:Value}:∀ {P:List Str} {vs:List Value} {i:Nat} {m:Str→Option Value},P.Nodup→P[i]? = some x→vs[i]? = some v→kindOf x≠some .local →
  bindC kindOf (P.zip vs) m x=some v
 | [],_,_,_,_,h,_,_=>by simp at h
 | _::_,[],_,_,_,_,h,_=>by simp at h
 | p::P,w::vs,0,m,nd,h1,h2,hk=>by
  simp at h1 h2;subst h1;subst h2
  show bindC kindOf ((p,w)::P.zip vs) m p=_
  unfold bindC
  rw [zgd fun v hv=>(List.nodup_cons.mp nd).1 (List.of_mem_zip hv).1,if_neg hk]
  simp
 | p::P,w::vs,i+1,m,nd,h1,h2,hk=>by
  show bindC kindOf ((p,w)::P.zip vs) m x=_
  unfold bindC
  exact zgf (i:=i) (List.nodup_cons.mp nd).2 (by simpa using h1) (by simpa using h2) hk
noncomputable def start (N:List Str)(vs:List V):St:=vs.map some++List.replicate (N.length - vs.length) none
noncomputable def cxOf (CX:CXT)(P:Program)(w:World)(K:PySem.W.Frag)(mg:Str→Option Value)(base:Heap)(N:List Str)(qual:Str)(scope:Scope)(f:Addr)(cd:Value)(A:Around)(outer:List Env)(s:Shared)(H:Hp)(E:XK):Cx where
 prog:=P
 w:=w
 K:=K
 mg:=mg
 base:=base
 A:=A.deeper (envOfC qual scope s.heap.objs.size f cd)
 N:=N
 s₀:=s
 H₀:=H
 env:=envOfC qual scope s.heap.objs.size f cd
 outer:=outer
 stack:=envOfC qual scope s.heap.objs.size f cd::outer
 ex:=[]
 calm:=true
 fn:=fun _=>true
 pn:=[]
 xe:=fun e s'=>wpAny (model P w) (A.deeper (envOfC qual scope s.heap.objs.size f cd)) (leaving (envOfC qual scope s.heap.objs.size f cd) e) (fun _ s''=>CX outer H s E e s'') (fun e' s''=>CX outer H s E e' s'') s'
theorem zhy {sc:Scope}{n:Nat}{x:Str}(h:sc.names.lookup x=some .cell):∃ c,(cellsFrom n sc.names []).lookup x=some c:=by
 have q:=PySem.W.cellsFrom_some sc.names n [] (.inl h)
 exact Option.isSome_iff_exists.mp q
theorem zjw {CX:CXT}{P:Program}{w:World}{K:PySem.W.Frag}{mg:Str→Option Value}{base:Heap}{N ps:List Str}{qual:Str}{scope:Scope}{f:Addr}{cd:Value}{A:Around}{outer:List Env}{s s1:Shared}{H:Hp}{E:XK}{us:List Value}{vs:List V}
  (S:FnScope N ps scope) (hd:A.handled=none) (e0:Env0 P w K mg base A outer s H) (hl:vs.length=ps.length) (r:Vals vs us)
  (x:InCallC s s.heap.objs.size (bindL (envOfC qual scope s.heap.objs.size f cd).kindOf (ps.zip us) fun _=>none) (cellsFrom (s.heap.objs.size+1) scope.names []) (bindC (envOfC qual scope s.heap.objs.size f cd).kindOf (ps.zip us) fun _=>none) s1) :
  Inv (cxOf CX P w K mg base N qual scope f cd A outer s H E) [] (start N vs) H s1:=by
 have hpl:ps.length≤N.length:=by have:=congrArg List.length S.pre;rw [List.length_take] at this;omega
 obtain ⟨h1,tk,rfl,hk⟩:=x.done
 have noA:∀ b:Addr,b∉(cxOf CX P w K mg base N qual scope f cd A outer s H E).ex:=fun b z=>absurd (show b∈([]:List Addr) from z) (by simp)
 refine ⟨⟨e0.mod,S.kind,rfl,rfl,Nat.le_refl _,fun y z c h1 h2=>?_,fun y hy=>?_,fun y c _ h=>?_,fun _=>hd,Around.frames_deeper e0.frames,.inr ⟨rfl,rfl⟩,fun b z=>absurd z (noA b),e0.bs,e0.bsz,fun b _ _=>noA b,fun b z=>absurd z (noA b),e0.funs,e0.frf⟩,
  rfl,e0.bare,Un.kept hk,⟨_,x.toInCall.ns,fun i y v h1 h2 h3=>?_⟩,fun y c h=>⟨_,x.cell y c h⟩,e0.hok.fresh (Nat.le_refl _),fun y c h=>?_,fun p hp=>absurd (show p∈([]:List (Addr × Obj)) from hp) (by simp),e0.hok.kept hk,?_⟩
 ·exact name_of_addr x.apart (PySem.mem_of_lookup h1) (PySem.mem_of_lookup h2)
 ·have hy:scope.names.lookup y=some .cell ∨ scope.names.lookup y=some .free:=hy
  rcases hy with hy | hy
  ·exact zhy hy
  ·exact absurd rfl (S.nofree _ (PySem.mem_of_lookup hy))
 ·exact Nat.le_of_lt (x.above y c (PySem.mem_of_lookup h))
 ·have hi:i < vs.length:=by
   unfold start at h2
   by_cases hi:i < vs.length
   ·exact hi
   ·rw [List.getElem?_append_right (by simpa using hi)] at h2
    rw [List.getElem?_replicate] at h2
    split at h2 <;> cases h2
  have ha:vs[i]? = some v:=by
   unfold start at h2
   rw [List.getElem?_append_left (by simpa using hi),List.getElem?_map] at h2
   cases e:vs[i]? with
   | none=>rw [e] at h2;cases h2
   | some a=>rw [e] at h2;cases h2;rfl
  obtain ⟨u,hu,rv⟩:=r.get ha
  have hp:ps[i]? = some y:=by
   rw [← S.pre,List.getElem?_take_of_lt (by omega)];exact h1
  have ndP:ps.Nodup:=by rw [← S.pre];exact S.nd.sublist (List.take_sublist _ _)
  refine ⟨u,rv,?_⟩
  rcases S.par y (List.mem_of_getElem? hp) with k | k
  ·exact .inl ⟨k,zge ndP hp hu k⟩
  ·obtain ⟨c,e⟩:=zhy (n:=s.heap.objs.size+1) k
   refine .inr ⟨.inl k,c,e,?_⟩
   have q:=x.cell y c e
   rw [zgf ndP hp hu (by show scope.names.lookup y≠_;rw [k];decide)] at q
   exact q
 ·exact e0.hok.fresh (Nat.le_of_lt (x.above y c (PySem.mem_of_lookup h)))
 ·unfold start
  show _=N.length
  rw [List.length_append,List.length_map,List.length_replicate]
  omega
theorem fn_of {CX:CXT}{P:Program}{w:World}{K:PySem.W.Frag}{mg:Str→Option Value}{base:Heap}{k:Nat}{f:Addr}{name qual:Str}{params:Arguments}{body:List Stmt}{scope:Scope}{dV kV doc pm cdv ct oc:Value}{an od:Option Addr}
  {osl:Array (Option Value)} {N ps:List Str} {sp:Sp} (lk:K.lookup f=some ⟨oc,od,.func (PySem.W.fnOf name qual params body scope dV kV doc pm an cdv ct),osl⟩) (hcd:PySem.W.codeIn K cdv qual=true) (S:FnScope N ps scope)
  (len:∀ vs H Q E,sp vs H Q E→vs.length=ps.length)
  (hbody:∀ (A:Around) (outer:List Env) (s:Shared) (H:Hp) (vs:List V) (Q:VK) (E:XK),Room k (A.deeper (envOfC qual scope s.heap.objs.size f cdv))→sp vs H Q E →
   ∃ t,PSs (cxOf CX P w K mg base N qual scope f cdv A outer s H E) body t∧t { nx:=fun _ H'=>Q .non H',rt:=Q } (start N vs) H) :
  FnOk P w K mg base CX (k+1) f (PySem.W.fnOf name qual params body scope dV kV doc pm an cdv ct) ps sp:=by
 refine ⟨len,fun A outer s H args us vs Q E hr e0 hb r hsp=>?_⟩
 have hl:=len _ _ _ _ hsp
 have KX:K.In s.heap:=e0.mod.kin.keeps fun b o e=>(e0.bs b o e).1
 have lim:s.heap.NoLimit:=e0.mod.nolimit.keeps fun b o e=>(e0.bs b o e).1
 have hkind:∀ y∈ps.zip us,scope.names.lookup y.1=some .local ∨ (scope.names.lookup y.1=some .cell∧((cellsFrom (s.heap.objs.size+1) scope.names []).lookup y.1).isSome=true):=fun ⟨n,v⟩ hy=>by
  rcases S.par n (List.of_mem_zip hy).1 with q | q
  ·exact .inl q
  ·exact .inr ⟨q,PySem.W.cellsFrom_some _ _ _ (.inl q)⟩
 refine codeAny_call_function hr.depth (KX _ _ lk) rfl S.co S.gen rfl (PySem.W.codeRec_of KX hcd) (hb _ _ _ _ ?_)
 refine wpAny_newFunctionEnv_cells S.kind hkind fun env he s1 x=>?_
 subst he
 refine ⟨lim.keeps x.toInCall.keep,codeAny_func ?_⟩
 obtain ⟨t,ht,hq⟩:=hbody A outer s H vs Q E (hr.deeper _) hsp
 have I:Inv (cxOf CX P w K mg base N qual scope f cdv A outer s H E) [] (start N vs) H s1:=zjw S hr.hd e0 hl r x
 refine wpAny_mono (ht [] s1 (start N vs) H _ I hq) (fun fl s' hs=>?_) fun e s' hs=>hs
 have fin:∀ {σ':St} {H':Hp} {v:V} {u:Value},Inv (cxOf CX P w K mg base N qual scope f cdv A outer s H E) [] σ' H' s'→RelV v u→Q v H'→CE outer P w H s Q u s' :=
  fun {σ' H' v u} J rv q=>⟨v,H',J.os,J.bare,J.base,J.hok,rv,q⟩
 cases fl with
 | ret u =>
  obtain ⟨v,σ',H',J,rv,q⟩:=hs
  exact fin J rv q
 | next =>
  obtain ⟨σ',H',J,q⟩:=hs
  exact fin (v:=V.non) (u:=Value.none) J rfl q
 | brk =>
  obtain ⟨_,_,_,q⟩:=hs
  exact False.elim q
 | cont =>
  obtain ⟨_,_,_,q⟩:=hs
  exact False.elim q
end L2
namespace L2
open PySem PySem.Spec PyProof.Rows
section
variable {X:Cx} {x:Str} {p pos:Pos} {e:Expr} {es:List Expr} {t:TA} {id T:String} {r:List V→Hp→VK→Prop}
noncomputable def tCB_k1 (r:List V→Hp→VK→Prop)(Q:VK):List V→Hp→Prop:=fun vs H1=>r vs H1 Q
noncomputable def tCB (r:List V→Hp→VK→Prop)(t:TA):TE:=fun σ H Q=>t σ H (tCB_k1 r Q)
theorem zan (hc:CallR X (.builtin id) r)(hg:Gl X x)(hm:X.mg x=none)(hv:bootBuiltins x=some (.builtin id))(ha:PA X (e::es) t)(hn:x ≠ "__name__":=by decide)(hdb:(x == ("__debug__":Str))=false:=by decide)
  (he:starEach (e::es) X.env=(false,eval e X.env)::starEach es X.env:=by rfl) (hpl:(backTo pos (starEach es X.env)).any (·.1)=false:=by rfl):PE X (.Call (.Name x p) (e::es) [] pos) (tCB r t):=by
 intro pins s σ H Q I h
 refine wpAny_Call_Name_kw (zdm I hg hm hv ?_ hn hdb)
 exact PyProof.Rows.callWith_builtin1 (thn (ha pos pins s σ H _ I h) fun us s1 zq60=>(by obtain ⟨vs,H1,I1,r1,q1⟩:=zq60;exact hc pins s1 σ H1 vs us Q I1 r1 q1)) he hpl
theorem zbj (hc:CallR X (.type T) r)(hg:Gl X x)(hm:X.mg x=none)(hv:bootBuiltins x=some (.type T))(ha:PA X (e::es) t)(hn:x ≠ "__name__":=by decide)(hdb:(x == ("__debug__":Str))=false:=by decide)
  (he:starEach (e::es) X.env=(false,eval e X.env)::starEach es X.env:=by rfl) (hpl:(backTo pos (starEach es X.env)).any (·.1)=false:=by rfl):PE X (.Call (.Name x p) (e::es) [] pos) (tCB r t):=by
 intro pins s σ H Q I h
 refine wpAny_Call_Name_kw (zdm I hg hm hv ?_ hn hdb)
 exact PyProof.Rows.callWith_type1 (thn (ha pos pins s σ H _ I h) fun us s1 zq61=>(by obtain ⟨vs,H1,I1,r1,q1⟩:=zq61;exact hc pins s1 σ H1 vs us Q I1 r1 q1)) he hpl
end
end L2
namespace HT
open PySem PyProof.Rows
section
open PySem.SeqAt
open PySem.AutoSeq1 (wpAny_loadPart')
open PySem.MeetsSeq PySem.MeetsSeq2 PySem.MeetsSeq3
end
section
variable {prog:Program} {w:World} {A:Around} {E:Value→Shared→Prop} {s:Shared}
theorem cat_tup {t b:Addr}{vs ws:List Value}{Q:Value→Shared→Prop}(ht:IsTup s.heap t vs.toArray)(hb:IsTup s.heap b ws.toArray)(hv:vs≠[])
  (h1:ws=[]→Q (.ref t) s) (h2:ws≠[]→Q (.ref s.heap.objs.size) { s with heap:=s.heap.push { cls:=.type "tuple",data:=.seq (vs++ws).toArray } })
  (hsz:vs.length+ws.length≤sizeLine):wpAny (model prog w) A (binaryOp .Add (.ref t) (.ref b)) Q E s:=by
 obtain ⟨⟨cls,dd,data,sl⟩,ho,hc,n,hd⟩:=id ht
 obtain ⟨⟨cls2,dd2,data2,sl2⟩,ho2,hc2,n2,hd2⟩:=id hb
 simp only at hc hd hc2 hd2
 subst hc hd hc2 hd2
 have e:vs.toArray++ws.toArray=(vs++ws).toArray:=by simp
 by_cases hw:ws=[]
 ·exact concat_meets ⟨_,ho,rfl⟩ ⟨_,ho2,rfl⟩ noFill_tuple_add seq_tuple_add PySem.F.slot_tuple_add PySem.F.entry_tuple_add (PySem.F.args_tuple_add_2 _ _)
   (tuple_addW1 t b vs.toArray ws.toArray n n2 dd dd2 sl sl2 (by simpa using hv) (by simp [hw])) ⟨ho,ho2,h1 hw⟩
 ·refine concat_meets ⟨_,ho,rfl⟩ ⟨_,ho2,rfl⟩ noFill_tuple_add seq_tuple_add PySem.F.slot_tuple_add PySem.F.entry_tuple_add (PySem.F.args_tuple_add_2 _ _)
   (tuple_addW2 t b vs.toArray ws.toArray n n2 dd dd2 sl sl2 (by simpa using hv) (by simpa using hw) (by rw [List.size_toArray,List.size_toArray];exact hsz)) ⟨ho,ho2,?_⟩
  rw [e]
  exact h2 hw
noncomputable def sIx (n d:Nat):Option Int→Nat
 | none=>d
 | some v=>if v < 0 then (v+(n:Int)).toNat else min v.toNat n
theorem sIx_none (n d:Nat):sIx n d none=d:=rfl
theorem sIx_nat (n d k:Nat):sIx n d (some (k:Int))=min k n:=by
 show (if (k:Int) < 0 then ((k:Int)+(n:Int)).toNat else min (k:Int).toNat n)=min k n
 rw [if_neg (by omega),Int.toNat_natCast]
theorem sIx_le (n d:Nat)(hd:d≤n)(o:Option Int):sIx n d o≤n:=by
 cases o with
 | none=>exact hd
 | some v =>
  show (if v < 0 then (v+(n:Int)).toNat else min v.toNat n)≤n
  by_cases hv:v < 0
  ·rw [if_pos hv];omega
  ·rw [if_neg hv];exact Nat.min_le_right _ _
theorem zjx (v:Int)(n d:Nat):(if v < 0 then max (v+(n:Int)) 0 else min v (n:Int))=((sIx n d (some v):Nat):Int):=by
 show (if v < 0 then max (v+(n:Int)) 0 else min v (n:Int))=(((if v < 0 then (v+(n:Int)).toNat else min v.toNat n):Nat):Int)
 by_cases hv:v < 0
 ·simp only [if_pos hv];omega
 ·simp only [if_neg hv];omega
theorem ziy (lo hi:Option Int)(n:Nat):Builtin.Slice.sliceAdjust lo hi 1 (n:Int)=(((sIx n 0 lo:Nat):Int),((sIx n n hi:Nat):Int)):=by
 have h1:¬ ((1:Int) < 0):=by omega
 unfold Builtin.Slice.sliceAdjust
 simp only [h1,if_false]
 refine Prod.ext ?_ ?_
 ·cases lo with
  | none=>rfl
  | some v=>exact zjx v n 0
 ·cases hi with
  | none=>rfl
  | some v=>exact zjx v n n
theorem ziz (i j:Nat):Builtin.Slice.slicePlaces (i:Int) (j:Int) 1=j - i:=by
 unfold Builtin.Slice.slicePlaces
 have h1:(1:Int) > 0:=by omega
 simp only [h1,if_true,Int.ediv_one]
 split <;> omega
theorem ze3 {v:Value}{o:Option Int}{Q:Option Int→Shared→Prop}(p:IsPart v o)(h:Q o s):wpAny (model prog w) A (Builtin.Slice.slicePartIndex v) Q E s:=by
 cases p with
 | none=>exact slicePart_none h
 | int i t=>exact slicePart_int h
theorem zca {sl:Addr}{vl vu:Value}{lo hi:Option Int}{n:Nat}{Q:Int × Int × Nat→Shared→Prop}(hs:s.heap.IsSliceOf sl vl vu .none)(pl:IsPart vl lo)(pu:IsPart vu hi)
  (h:Q (((sIx n 0 lo:Nat):Int),1,sIx n n hi - sIx n 0 lo) s):wpAny (model prog w) A (Builtin.Slice.sliceApplied (.ref sl) (pure (n:Int))) Q E s:=by
 obtain ⟨os,hos,hcs,hds⟩:=id hs
 unfold Builtin.Slice.sliceApplied Builtin.Slice.sliceFields
 refine wpAny_bind (wpAny_bind (wpAny_field hos hds (x:=vl) rfl (wpAny_bind (wpAny_field hos hds (x:=vu) rfl (wpAny_bind (wpAny_field hos hds (x:=.none) rfl (wpAny_pure ?_)))))))
 refine wpAny_bind (slicePart_none ?_)
 show wpAny _ _ (if ((1:Int) == 0)=true then _ else _) _ _ s
 rw [if_neg (by decide)]
 refine wpAny_bind (ze3 pl (wpAny_bind (ze3 pu (wpAny_bind (wpAny_pure ?_)))))
 show wpAny _ _ (match Builtin.Slice.sliceAdjust lo hi 1 (n:Int) with | (lo,hi)=>pure (lo,(1:Int),Builtin.Slice.slicePlaces lo hi 1)) _ _ s
 rw [ziy lo hi n]
 show wpAny _ _ (pure (((sIx n 0 lo:Nat):Int),(1:Int),Builtin.Slice.slicePlaces ((sIx n 0 lo:Nat):Int) ((sIx n n hi:Nat):Int) 1)) _ _ s
 rw [ziz]
 exact wpAny_pure h
theorem pick_gen (xs:Array Value)(i k:Nat):((List.range k).filterMap fun (m:Nat)=>xs[((i:Int)+(m:Int)*1).toNat]?).toArray=((xs.toList.drop i).take k).toArray:=by
 have e:(fun (m:Nat)=>xs[((i:Int)+(m:Int)*1).toNat]?)=fun m=>xs[i+m]?:=by
  funext m
  have:((i:Int)+(m:Int)*1).toNat=i+m:=by omega
  rw [this]
 rw [e]
 have:=pick_run xs i k
 rw [List.filterMap_map] at this
 have e2:((fun x=>xs[x]?) ∘ fun x=>i+x)=fun m=>xs[i+m]?:=rfl
 rw [e2] at this
 rw [this]
theorem getItem_tuple_cut {t sl:Addr}{items:Array Value}{vl vu:Value}{lo hi:Option Int}{Q:Value→Shared→Prop}(ht:IsTup s.heap t items)(hs:s.heap.IsSliceOf sl vl vu .none)(pl:IsPart vl lo)(pu:IsPart vu hi)
  (hw:¬ (sIx items.size 0 lo=0∧sIx items.size items.size hi=items.size))
  (h:Q (.ref s.heap.objs.size) { s with heap:=s.heap.push { cls:=.type "tuple",data:=.seq ((items.toList.drop (sIx items.size 0 lo)).take (sIx items.size items.size hi - sIx items.size 0 lo)).toArray } })
  (hsz:items.size≤sizeLine):wpAny (model prog w) A (getItem (.ref t) (.ref sl)) Q E s:=by
 have htake:sizeOk (.seq ((items.toList.drop (sIx items.size 0 lo)).take (sIx items.size items.size hi - sIx items.size 0 lo)).toArray):=by
  show ((items.toList.drop (sIx items.size 0 lo)).take (sIx items.size items.size hi - sIx items.size 0 lo)).toArray.size≤sizeLine
  rw [List.size_toArray,List.length_take,List.length_drop,Array.length_toList]
  omega
 have hj:sIx items.size items.size hi≤items.size:=sIx_le _ _ (Nat.le_refl _) hi
 obtain ⟨os,hos,hcs,hds⟩:=id hs
 have hTs:s.TypeIs (.ref sl) "slice":=⟨os,hos,hcs⟩
 unfold getItem
 try with_reducible refine wpAny_holding ?_
 first | refine wpAny_bind (wpAny_pure ?_) | skip
 refine wpAny_bind (wpAny_sequenceKey ht.typeIs (by decide) ?_)
 refine wpAny_bind (wpAny_callSpecial?_slot (name:=Str.ofString "__getitem__") ht.typeIs PyProof.Rows.slot_tuple_getitem
  (wpAny_call_entry PyProof.Rows.slot_tuple_getitem ht.typeIs entry_tuple_getitem ?_ (args_tuple_getitem _ _)))
 show wpAny _ _ (Builtin.Tuple.tupleItemsOf (.ref t) >>= _) _ _ s
 refine wpAny_bind (tupleItemsOf_ ht ?_)
 refine wpAny_bind (wpAny_typeOf hTs ?_)
 rw [if_pos (by decide)]
 refine wpAny_bind (zca hs pl pu ?_)
 have hno:¬ ((((sIx items.size 0 lo:Nat):Int) == 0 && (1:Int) == 1 && (sIx items.size items.size hi - sIx items.size 0 lo) == items.size)=true):=by
  intro q
  rw [Bool.and_eq_true,Bool.and_eq_true] at q
  have q1:((sIx items.size 0 lo:Nat):Int)=0:=eq_of_beq q.1.1
  have q2:sIx items.size items.size hi - sIx items.size 0 lo=items.size:=eq_of_beq q.2
  exact hw ⟨by omega,by omega⟩
 show wpAny _ _ (if (((sIx items.size 0 lo:Nat):Int) == 0 && (1:Int) == 1 && (sIx items.size items.size hi - sIx items.size 0 lo) == items.size)=true then _ else _) _ _ s
 rw [if_neg hno,pick_gen]
 first
  | exact wpAny_bind (m:=Builtin.Tuple.tupleExact _) (wpAny_newObj_type (wpAny_pure ⟨_,rfl,wpAny_pure h⟩) htake)
  | exact wpAny_bind (m:=Builtin.Tuple.tupleExact _) (wpAny_newObj_type (wpAny_bind (wpAny_pure (wpAny_pure ⟨_,rfl,wpAny_pure h⟩))) htake)
  | exact wpAny_bind (wpAny_bind (m:=Builtin.Tuple.tupleExact _) (wpAny_newObj_type (wpAny_pure (wpAny_pure ⟨_,rfl,wpAny_pure h⟩)) htake))
  | exact wpAny_bind (wpAny_bind (m:=Builtin.Tuple.tupleExact _) (wpAny_newObj_type (wpAny_pure ⟨_,rfl,wpAny_pure h⟩) htake))
end
end HT
namespace L2
open PySem PySem.Spec PyProof.Rows
noncomputable abbrev TO:=St→Hp→(Option Int→Hp→Prop)→Prop
noncomputable def PO (X:Cx)(e:Option Expr)(t:TO):Prop :=
 ∀ (pins:List (Addr × Obj)) (s:Shared) (σ:St) (H:Hp) (Q:Option Int→Hp→Prop),Inv X pins σ H s→t σ H Q →
  wpAny (model X.prog X.w) X.A (evalPart e X.env) (fun u s'=>∃ o H',Inv X pins σ H' s'∧IsPart u o∧Q o H') X.xe s
noncomputable def tNoPart:TO:=fun _ H Q=>Q none H
inductive IsI (x:V)(H:Hp)(Q:Option Int→Hp→Prop):Prop
 | mk:∀ i,(x = .int i)→(Q (some i) H)→IsI x H Q
noncomputable def tPart_k1 (Q:(Option Int→Hp→Prop)):V→Hp→Prop:=fun x H1=>IsI x H1 Q
noncomputable def tPart (t:TE):TO:=fun σ H Q=>t σ H (tPart_k1 Q)
section
variable {X:Cx} {e:Expr} {te:TE} {lo hi:Option Expr} {tl th:TO} {pos p2:Pos}
theorem zav:PO X none tNoPart:=by
 intro pins s σ H Q I h
 rw [evalPart_none]
 exact wpAny_pure ⟨none,H,I,.none,h⟩
theorem zas (h:PE X e te):PO X (some e) (tPart te):=by
 intro pins s σ H Q I hw
 rw [evalPart_some]
 refine thn (h pins s σ H _ I hw) fun u s1 zq62=>?_
 obtain ⟨x,H1,I1,r1,q1⟩:=zq62
 obtain ⟨i,rfl,q⟩:=q1
 obtain ⟨t,rfl⟩:=r1
 exact ⟨some i,H1,I1,.int i t,q⟩
noncomputable def SlR (X:Cx)(r:V→Option Int→Option Int→Hp→VK→Prop):Prop :=
 ∀ (pins:List (Addr × Obj)) (s:Shared) (σ:St) (H:Hp) (x:V) (v vl vu:Value) (lo hi:Option Int) (sl:Addr) (Q:VK),Inv X pins σ H s→RelV x v→s.heap.IsSliceOf sl vl vu .none→IsPart vl lo→IsPart vu hi→r x lo hi H Q →
  ∃ T id,typeLookup (.type T) "__getitem__" = pure (some (.builtin id))∧s.TypeIs v T∧wpAny (model X.prog X.w) X.A (getItem v (.ref sl)) (EP X pins σ Q) X.xe s
noncomputable def tSl_k1 (r:V→Option Int→Option Int→Hp→VK→Prop)(Q:VK)(x:V)(l:Option Int):Option Int→Hp→Prop:=fun u H3=>r x l u H3 Q
noncomputable def tSl_k2 (r:V→Option Int→Option Int→Hp→VK→Prop)(th:TO)(σ:St)(Q:VK)(x:V):Option Int→Hp→Prop:=fun l H2=>th σ H2 (tSl_k1 r Q x l)
noncomputable def tSl_k3 (r:V→Option Int→Option Int→Hp→VK→Prop)(tl:TO)(th:TO)(σ:St)(Q:VK):V→Hp→Prop:=fun x H1=>tl σ H1 (tSl_k2 r th σ Q x)
noncomputable def tSl (r:V→Option Int→Option Int→Hp→VK→Prop)(te:TE)(tl th:TO):TE:=fun σ H Q=>te σ H (tSl_k3 r tl th σ Q)
theorem zaq {r:V→Option Int→Option Int→Hp→VK→Prop}(hr:SlR X r)(he:PE X e te)(hl:PO X lo tl)(hu:PO X hi th):PE X (.Subscript e (.Slice lo hi none p2) pos) (tSl r te tl th):=by
 intro pins s σ H Q I h
 refine Subscript_ (thn (he pins s σ H _ I h) fun v s1 zq63=>?_)
 obtain ⟨x,H1,I1,r1,q1⟩:=zq63
 refine wpAny_Slice (thn (hl pins s1 σ H1 _ I1 q1) fun vl s2 ⟨l,H2,I2,pl,q2⟩=>thn (hu pins s2 σ H2 _ I2 q2) fun vu s3 zq64=>?_)
 obtain ⟨u,H3,I3,pu,q3⟩:=zq64
 rw [evalPart_none]
 refine wpAny_pure ?_
 have I4:Inv X pins σ H3 { s3 with heap:=s3.heap.push { cls:=.type "slice",data:=.fields #[vl,vu,.none] } }:=I3.kept (t':=s3.toks) fun b ob q=>Heap.get?_push_of_some _ q
 obtain ⟨T,id,hT,ht,hg⟩:=hr pins { s3 with heap:=s3.heap.push { cls:=.type "slice",data:=.fields #[vl,vu,.none] } } σ H3 x v vl vu l u s3.heap.objs.size Q I4 r1 (Heap.IsSliceOf.new ..) pl pu q3
 show wpAny (model X.prog X.w) X.A (subscriptTail e (.Slice lo hi none p2) v (.ref s3.heap.objs.size)) (EP X pins σ Q) X.xe { s3 with heap:=s3.heap.push { cls:=.type "slice",data:=.fields #[vl,vu,.none] } }
 exact tail_any (ops:=[.ref s3.heap.objs.size,v]) ht hT hg (by with_unfolding_all rfl)
noncomputable def cutV (xs:List V)(lo hi:Option Int):List V:=(xs.drop (HT.sIx xs.length 0 lo)).take (HT.sIx xs.length xs.length hi - HT.sIx xs.length 0 lo)
theorem zea (xs:List V)(lo hi:Option Int):(cutV xs lo hi).length≤xs.length:=by
 unfold cutV
 rw [List.length_take,List.length_drop]
 omega
inductive rSlT (K:PySem.W.Frag)(x:V)(lo:Option Int)(hi:Option Int)(H:Hp)(Q:VK):Prop
 | mk:∀ a xs,(x = .ref a)→(SqT K H a xs)→(¬ (HT.sIx xs.length 0 lo=0∧HT.sIx xs.length xs.length hi=xs.length))→(∀ p,H p=none→Q (.ref p) (upd H p (.tup (cutV xs lo hi))))→rSlT K x lo hi H Q
theorem sl_tup:SlR X (rSlT X.K):=by
 intro pins s σ H x v vl vu lo hi sl Q I rx hs pl pu h
 obtain ⟨a,xs,rfl,hx,hw,q⟩:=h
 cases rx
 obtain ⟨its,r,ht,hz⟩:=I.tuple hx
 have hlen:its.toArray.size=xs.length:=by rw [List.size_toArray];exact r.length.symm
 refine ⟨"tuple",_,PyProof.Rows.slot_tuple_getitem.lookup,ht.typeIs,?_⟩
 refine HT.getItem_tuple_cut ht hs pl pu (by rw [hlen];exact hw) ?_ (by rw [hlen];exact hz)
 rw [hlen]
 refine ⟨.ref s.heap.objs.size,_,I.laid (t':=s.toks) (o:=.tup (cutV xs lo hi)) (fun b ob q=>Heap.get?_push_of_some _ q) (Nat.le_refl _) ?_,rfl,q _ (I.hok.fresh (Nat.le_refl _))⟩
 exact ⟨Nat.le_trans (zea xs lo hi) hz,_,(r.drop (HT.sIx xs.length 0 lo)).take (HT.sIx xs.length xs.length hi - HT.sIx xs.length 0 lo),IsTup.new _ _,.new _ _ rfl⟩
inductive rCatT (K:PySem.W.Frag)(x:V)(y:V)(H:Hp)(Q:VK):Prop
 | mk:∀ a b xs ys,(x = .ref a)→(y = .ref b)→(SqT K H a xs)→(SqT K H b ys)→(xs≠[])→(xs.length+ys.length≤sizeLine)→((ys=[]→Q (.ref a) H))→((ys≠[]→∀ p,H p=none→Q (.ref p) (upd H p (.tup (xs++ys)))))→rCatT K x y H Q
theorem Vals.nil_iff {xs:List V}{us:List Value}(r:Vals xs us):us=[] ↔ xs=[]:=by
 cases r with
 | nil=>simp
 | cons _ _=>simp
theorem op_catT:OpR X (binaryOp .Add) (rCatT X.K):=by
 intro pins s σ H x y v u Q I rx ry h
 obtain ⟨a,b,xs,ys,rfl,rfl,ha,hb,hx,hz,q1,q2⟩:=h
 cases rx
 cases ry
 obtain ⟨its,r1,p1,_⟩:=I.tuple ha
 obtain ⟨its2,r2,p2,_⟩:=I.tuple hb
 refine HT.cat_tup p1 p2 (fun z=>hx (r1.nil_iff.mp z)) (fun z=>⟨.ref a,H,I,rfl,q1 (r2.nil_iff.mp z)⟩) (fun z=>?_) (by rw [← r1.length,← r2.length];exact hz)
 refine ⟨.ref s.heap.objs.size,_,I.laid (t':=s.toks) (o:=.tup (xs++ys)) (fun b ob q=>Heap.get?_push_of_some _ q) (Nat.le_refl _) ?_,rfl,q2 (fun w=>z (r2.nil_iff.mpr w)) _ (I.hok.fresh (Nat.le_refl _))⟩
 exact ⟨by rw [List.length_append];exact hz,_,r1.append r2,IsTup.new _ _,.new _ _ rfl⟩
end
end L2
namespace L2
open PySem PySem.Spec PyProof.Rows
noncomputable def ixN (n:Nat)(i:Int):Option Nat:=if 0≤i then (if i < n then some i.toNat else none) else if -(n:Int)≤i then some (i+n).toNat else none
noncomputable def atI {α:Type}(xs:List α)(i:Int):Option α:=(ixN xs.length i).bind fun j=>xs[j]?
theorem ixN_seq {n:Nat}{i:Int}{j:Nat}(h:ixN n i=some j):seqIndex? i n=some j∧j < n∧-(n:Int)≤i∧i < n:=by
 unfold ixN at h
 by_cases h0:0≤i
 ·rw [if_pos h0] at h
  by_cases h1:i < n
  ·rw [if_pos h1] at h
   have e:i.toNat=j:=Option.some.inj h
   exact ⟨by rw [seqIndex_of h0 h1,e],by omega,by omega,h1⟩
  ·rw [if_neg h1] at h;cases h
 ·rw [if_neg h0] at h
  by_cases h1:-(n:Int)≤i
  ·rw [if_pos h1] at h
   have e:(i+n).toNat=j:=Option.some.inj h
   exact ⟨by rw [seqIndex_neg (by omega) h1,e],by omega,h1,by omega⟩
  ·rw [if_neg h1] at h;cases h
theorem zhg {α:Type}{xs:List α}{i:Int}{v:α}(h:atI xs i=some v):∃ j,seqIndex? i xs.length=some j∧xs[j]? = some v∧j < xs.length∧-(xs.length:Int)≤i∧i < xs.length:=by
 unfold atI at h
 cases e:ixN xs.length i with
 | none=>rw [e] at h;cases h
 | some j =>
  rw [e] at h
  obtain ⟨h1,h2,h3,h4⟩:=ixN_seq e
  exact ⟨j,h1,h,h2,h3,h4⟩
theorem zbx {α:Type}{xs:List α}{j:Nat}{v:α}(h:xs[j]? = some v):atI xs (j:Int)=some v:=by
 have hj:j < xs.length:=(List.getElem?_eq_some_iff.mp h).1
 have e:ixN xs.length (j:Int)=some j:=by
  unfold ixN
  rw [if_pos (by omega),if_pos (by omega)];simp
 unfold atI;rw [e];exact h
noncomputable def PlainIx (b:Expr):Prop:=∀ o i,subscripted b false o i=operate [o,i] (getItem o i)
noncomputable def IxR (X:Cx)(r:R2):Prop :=
 ∀ (value slice:Expr) (pins:List (Addr × Obj)) (s:Shared) (σ:St) (H:Hp) (x y:V) (v u:Value) (Q:VK),Inv X pins σ H s→RelV x v→RelV y u→r x y H Q →
  subscripted slice false v u=operate [v,u] (getItem v u)→wpAny (model X.prog X.w) X.A (subscriptTail value slice v u) (EP X pins σ Q) X.xe s
noncomputable def MtR (X:Cx)(id:String)(r:V→List V→Hp→VK→Prop):Prop :=
 ∀ (pins:List (Addr × Obj)) (s:Shared) (σ:St) (H:Hp) (x:V) (xs:List V) (v:Value) (us:List Value) (Q:VK),Inv X pins σ H s→RelV x v→Vals xs us→r x xs H Q →
  wpAny (model X.prog X.w) X.A (call (.builtin id) (v::us)) (EP X pins σ Q) X.xe s
section
variable {X:Cx} {a b:Expr} {ta tb:TE} {pos:Pos}
theorem zbb {r:R2}(hr:IxR X r)(ha:PE X a ta)(hb:PE X b tb)(hs:PlainIx b):PE X (.Subscript a b pos) (tOp r ta tb):=by
 intro pins s σ H Q I h
 exact Subscript_ (binT ha hb I h fun v u s2 x y H2 I2 rx ry q=>hr a b pins s2 σ H2 x y v u Q I2 rx ry q (hs _ _))
inductive rIxL (K:PySem.W.Frag)(x:V)(y:V)(H:Hp)(Q:VK):Prop
 | mk:∀ p xs i v,(x = .ref p)→(y = .int i)→(SqL K H p xs)→(atI xs i=some v)→(Q v H)→rIxL K x y H Q
inductive rIxT (K:PySem.W.Frag)(x:V)(y:V)(H:Hp)(Q:VK):Prop
 | mk:∀ p xs i v,(x = .ref p)→(y = .int i)→(SqT K H p xs)→(atI xs i=some v)→(Q v H)→rIxT K x y H Q
inductive rIxS (x:V)(y:V)(H:Hp)(Q:VK):Prop
 | mk:∀ z i c,(x = .str z)→(y = .int i)→(z.length≤sizeLine)→(atI z.cps.toList i=some c)→(Q (.str ⟨#[c]⟩) H)→rIxS x y H Q
theorem zb5:IxR X (rIxL X.K):=by
 intro value slice pins s σ H x y v u Q I rx ry h hs
 obtain ⟨p,xs,i,z,rfl,rfl,hq,he,q⟩:=h
 cases rx
 obtain ⟨t,rfl⟩:=ry
 obtain ⟨its,r,pl,hz⟩:=I.list hq
 obtain ⟨j,h1,h2,h3,h4,h5⟩:=zhg he
 obtain ⟨w,ew,rw'⟩:=r.get h2
 have hl:=r.length
 have hn:=zd7
 have fin:EP X pins σ Q w s:=⟨z,H,I,rw',q⟩
 by_cases h0:0≤i
 ·have hj:i.toNat=j:=by
   rw [seqIndex_of h0 h5] at h1
   exact Option.some.inj h1
  exact item_listR pl.isList h0 (by omega) (by rw [hj];simpa using ew) fin hs
 ·have hj:(i+(its.toArray.size:Int)).toNat=j:=by
   rw [seqIndex_neg (by omega) h4] at h1
   rw [List.size_toArray,← hl]
   exact Option.some.inj h1
  exact subscriptTail_builtinR (x:=w) pl.isList.typeIs slot_list_getitem.lookup
   (wpAny_getItem_list_neg (Q:=fun r s'=>r=w∧EP X pins σ Q r s') pl.isList (by omega) (by rw [List.size_toArray] <;> omega) (by omega) (by rw [hj];simpa using ew) ⟨rfl,fin⟩) hs
theorem zbk:IxR X (rIxT X.K):=by
 intro value slice pins s σ H x y v u Q I rx ry h hs
 obtain ⟨p,xs,i,z,rfl,rfl,hq,he,q⟩:=h
 cases rx
 obtain ⟨t,rfl⟩:=ry
 obtain ⟨its,r,pl,hz⟩:=I.tuple hq
 obtain ⟨j,h1,h2,h3,h4,h5⟩:=zhg he
 obtain ⟨w,ew,rw'⟩:=r.get h2
 have hl:=r.length
 have hn:=zd7
 have fin:EP X pins σ Q w s:=⟨z,H,I,rw',q⟩
 exact subscriptTail_builtinR (x:=w) pl.typeIs slot_tuple_getitem.lookup
  (getItem_tuple (j:=j) (Q:=fun r s'=>r=w∧EP X pins σ Q r s') pl (by omega) (by omega) (by rw [List.size_toArray,← hl];exact h1) (by simpa using ew) ⟨rfl,fin⟩) hs
theorem zeb:IxR X rIxS:=by
 intro value slice pins s σ H x y v u Q I rx ry h hs
 obtain ⟨z,i,c,rfl,rfl,hz,he,q⟩:=h
 obtain ⟨t,rfl⟩:=rx
 obtain ⟨t',rfl⟩:=ry
 obtain ⟨j,h1,h2,h3,h4,h5⟩:=zhg he
 have hl:z.cps.toList.length=z.length:=by simp [Str.length]
 rw [hl] at h1 h4 h5
 have hn:=zd7
 exact tail_any (typeIs_str s z t) slot_str_getitem.lookup (getItem_str (c:=c) (by
  have e1:decide (i < -(2 ^ 63:Int))=false:=decide_eq_false (by omega)
  have e2:decide (i≥2 ^ 63)=false:=decide_eq_false (by omega)
  rw [e1,e2,Bool.or_false]) (by rw [h1];simpa using h2) ⟨.str ⟨#[c]⟩,H,I.tok _,⟨_,rfl⟩,q⟩) hs
theorem zgg (lo hi:Option Int)(n:Nat):(sliceBounds lo hi none n).1=((HT.sIx n 0 lo:Nat):Int)∧(sliceBounds lo hi none n).2.1=((HT.sIx n n hi:Nat):Int)∧(sliceBounds lo hi none n).2.2=1:=by
 refine ⟨?_,?_,rfl⟩
 ·cases lo with
  | none=>simp [sliceBounds,HT.sIx]
  | some i =>
   simp only [sliceBounds,HT.sIx,Option.getD_none,show (1:Int) > 0 by decide,if_true]
   by_cases h:i < 0
   ·simp only [h,if_true] <;> omega
   ·simp only [h,if_false] <;> omega
 ·cases hi with
  | none=>simp [sliceBounds,HT.sIx]
  | some i =>
   simp only [sliceBounds,HT.sIx,Option.getD_none,show (1:Int) > 0 by decide,if_true]
   by_cases h:i < 0
   ·simp only [h,if_true] <;> omega
   ·simp only [h,if_false] <;> omega
theorem zfj (its:List Value)(lo hi:Option Int):slicePick its.toArray lo hi none=((its.drop (HT.sIx its.length 0 lo)).take (HT.sIx its.length its.length hi - HT.sIx its.length 0 lo)).toArray:=by
 obtain ⟨h1,h2,h3⟩:=zgg lo hi its.toArray.size
 unfold slicePick
 rw [h1,h2,h3]
 simp only [sliceRange_one,pick_run,List.size_toArray] <;> rfl
inductive rSlL (K:PySem.W.Frag)(x:V)(lo:Option Int)(hi:Option Int)(H:Hp)(Q:VK):Prop
 | mk:∀ a xs,(x = .ref a)→(SqL K H a xs)→(∀ p,H p=none→Q (.ref p) (upd H p (.lst (cutV xs lo hi))))→rSlL K x lo hi H Q
theorem sl_list:SlR X (rSlL X.K):=by
 intro pins s σ H x v vl vu lo hi sl Q I rx hs pl pu h
 obtain ⟨a,xs,rfl,hx,q⟩:=h
 cases rx
 obtain ⟨its,r,ht,hz⟩:=I.list hx
 have hlen:=r.length
 refine ⟨"list",_,slot_list_getitem.lookup,ht.isList.typeIs,?_⟩
 refine wpAny_getItem_list_slice ht.isList hs pl pu .none (by simp) ?_ (by rw [List.size_toArray] <;> omega)
 rw [zfj,← hlen]
 refine ⟨.ref s.heap.objs.size,_,I.laid (t':=s.toks) (o:=.lst (cutV xs lo hi)) (fun b ob q=>Heap.get?_push_of_some _ q) (Nat.le_refl _) ?_,rfl,q _ (I.hok.fresh (Nat.le_refl _))⟩
 exact ⟨Nat.le_trans (zea xs lo hi) hz,_,0,(r.drop (HT.sIx xs.length 0 lo)).take (HT.sIx xs.length xs.length hi - HT.sIx xs.length 0 lo),Heap.get?_push_size _ rfl⟩
noncomputable def flatV:V→Bool
 | .non=>true
 | .bl _=>true
 | .int _=>true
 | .str _=>true
 | _=>false
noncomputable def eqV:V→V→Bool
 | .non,.non=>true
 | .bl a,.bl b=>a == b
 | .bl a,.int b=>(if a then 1 else 0) == b
 | .int a,.bl b=>a == (if b then 1 else 0)
 | .int a,.int b=>a == b
 | .str a,.str b=>a == b
 | _,_=>false
theorem eqAt_V {A:Around}{s:Shared}{y x:V}{u v:Value}(ry:RelV y u)(rx:RelV x v)(fy:flatV y=true)(fx:flatV x=true):SeqAt.EqAt A s u v (eqV y x):=by
 cases y with
 | non =>
  cases ry
  cases x with
  | non=>cases rx;exact SeqAt.EqAt.same _
  | bl b=>cases rx;exact SeqAt.EqAt.none_bool b
  | int b=>obtain ⟨t,rfl⟩:=rx;exact SeqAt.EqAt.none_int b t
  | str b=>obtain ⟨t,rfl⟩:=rx;exact SeqAt.EqAt.none_str b t
  | _=>exact absurd (show false=true from fx) Bool.false_ne_true
 | bl a =>
  cases ry
  cases x with
  | non=>cases rx;exact SeqAt.EqAt.bool_none a
  | bl b=>cases rx;exact SeqAt.EqAt.bool_bool a b
  | int b=>obtain ⟨t,rfl⟩:=rx;exact SeqAt.EqAt.bool_int a b t
  | str b=>obtain ⟨t,rfl⟩:=rx;exact SeqAt.EqAt.bool_str a b t
  | _=>exact absurd (show false=true from fx) Bool.false_ne_true
 | int a =>
  obtain ⟨t',rfl⟩:=ry
  cases x with
  | non=>cases rx;exact SeqAt.EqAt.int_none a t'
  | bl b=>cases rx;exact SeqAt.EqAt.int_bool a t' b
  | int b=>obtain ⟨t,rfl⟩:=rx;exact SeqAt.EqAt.int_int a t' b t
  | str b=>obtain ⟨t,rfl⟩:=rx;exact SeqAt.EqAt.int_str a t' b t
  | _=>exact absurd (show false=true from fx) Bool.false_ne_true
 | str a =>
  obtain ⟨t',rfl⟩:=ry
  cases x with
  | non=>cases rx;exact SeqAt.EqAt.str_none a t'
  | bl b=>cases rx;exact SeqAt.EqAt.str_bool a t' b
  | int b=>obtain ⟨t,rfl⟩:=rx;exact SeqAt.EqAt.str_int a t' b t
  | str b=>obtain ⟨t,rfl⟩:=rx;exact SeqAt.EqAt.str_str a t' b t
  | _=>exact absurd (show false=true from fx) Bool.false_ne_true
 | _=>exact absurd (show false=true from fy) Bool.false_ne_true
noncomputable def eqU (x:V)(u:Value):Bool:=match u with
 | .none=>eqV .non x
 | .bool b=>eqV (.bl b) x
 | .int i _=>eqV (.int i) x
 | .str z _=>eqV (.str z) x
 | _=>false
theorem eqU_of {x y:V}{u:Value}(r:RelV y u)(f:flatV y=true):eqU x u=eqV y x:=by
 cases y with
 | non=>cases r;rfl
 | bl b=>cases r;rfl
 | int i=>obtain ⟨t,rfl⟩:=r;rfl
 | str z=>obtain ⟨t,rfl⟩:=r;rfl
 | _=>exact absurd (show false=true from f) Bool.false_ne_true
theorem zhh {x:V}:∀ {xs:List V} {us:List Value},Vals xs us→xs.all flatV=true→us.any (eqU x)=xs.any fun y=>eqV y x
 | _,_,.nil,_=>rfl
 | y::xs,u::us,.cons r t,f=>by
  rw [List.all_cons,Bool.and_eq_true] at f
  rw [List.any_cons,List.any_cons,eqU_of r f.1,zhh t f.2]
theorem zfk {A:Around}{s:Shared}{x:V}{v:Value}(rx:RelV x v)(fx:flatV x=true):∀ {xs:List V} {us:List Value},Vals xs us→xs.all flatV=true→∀ u∈us,SeqAt.EqAt A s u v (eqU x u)
 | _,_,.nil,_=>fun u hu=>by cases hu
 | y::xs,u::us,.cons r t,f=>fun u' hu=>by
  rw [List.all_cons,Bool.and_eq_true] at f
  rcases List.mem_cons.mp hu with rfl | hu
  ·rw [eqU_of r f.1];exact eqAt_V r rx f.1 fx
  ·exact zfk rx fx t f.2 u' hu
noncomputable def inV (x:V)(xs:List V):Bool:=xs.any fun y=>eqV y x
inductive rIn (K:PySem.W.Frag)(neg:Bool)(x:V)(y:V)(H:Hp)(Q:VK):Prop
 | mk:∀ p xs,(y = .ref p)→((SqL K H p xs ∨ SqT K H p xs))→(flatV x=true)→(xs.all flatV=true)→(Q (.bl (if neg then !inV x xs else inV x xs)) H)→rIn K neg x y H Q
theorem zgh:OpR X (compareOp .NotIn) (rIn X.K true):=by
 intro pins s σ H x y v u Q I rx ry h
 obtain ⟨p,xs,rfl,hq,fx,fs,q⟩:=h
 cases ry
 rcases hq with hq | hq
 ·obtain ⟨its,r,pl,hz⟩:=I.list hq
  refine SeqAt.notIn_listAt (eqU x) pl.isList (fun w hw=>zfk rx fx r fs w (by simpa using hw)) ⟨.bl _,H,I,rfl,?_⟩
  rw [show its.toArray.any (eqU x)=its.any (eqU x) by simp,zhh r fs]
  exact q
 ·obtain ⟨its,r,pl,hz⟩:=I.tuple hq
  refine SeqAt.notIn_tupleAt (eqU x) pl (fun w hw=>zfk rx fx r fs w (by simpa using hw)) ⟨.bl _,H,I,rfl,?_⟩
  rw [show its.toArray.any (eqU x)=its.any (eqU x) by simp,zhh r fs]
  exact q
inductive call_len_seq_r (K:PySem.W.Frag)(xs:List V)(H:Hp)(Q:VK):Prop
 | mk:∀ p ys,(xs=[.ref p])→((SqL K H p ys ∨ SqT K H p ys))→(Q (.int ys.length) H)→call_len_seq_r K xs H Q
theorem zbt:CallR X (.builtin "len") (call_len_seq_r X.K):=by
 intro pins s σ H xs us Q I r h
 obtain ⟨p,ys,rfl,hq,q⟩:=h
 obtain ⟨u,rfl,rx⟩:=zcc r
 cases rx
 have hn:=zd7
 rcases hq with hq | hq
 ·obtain ⟨its,r',pl,hz⟩:=I.list hq
  have hlen:=r'.length
  exact Calls.call_len_list pl.isList (by simp only [List.size_toArray] <;> omega) ⟨.int ys.length,H,I.tok _,⟨s.toks+1,by rw [List.size_toArray,hlen]⟩,q⟩
 ·obtain ⟨its,r',pl,hz⟩:=I.tuple hq
  have hlen:=r'.length
  exact len_tuple pl (by simp only [List.size_toArray] <;> omega) ⟨.int ys.length,H,I.tok _,⟨s.toks+1,by rw [List.size_toArray,hlen]⟩,q⟩
inductive call_len_str_r  (xs:List V)(H:Hp)(Q:VK):Prop
 | mk:∀ z,(xs=[.str z])→(z.length≤sizeLine)→(Q (.int z.length) H)→call_len_str_r xs H Q
theorem zam:CallR X (.builtin "len") call_len_str_r:=by
 intro pins s σ H xs us Q I r h
 obtain ⟨z,rfl,hz,q⟩:=h
 obtain ⟨u,rfl,t,rfl⟩:=zcc r
 have hn:=zd7
 exact len_str (by omega) ⟨.int z.length,H,I.tok _,⟨_,rfl⟩,q⟩
inductive call_list_of_r (K:PySem.W.Frag)(xs:List V)(H:Hp)(Q:VK):Prop
 | mk:∀ p ys,(xs=[.ref p])→((SqL K H p ys ∨ SqT K H p ys))→(∀ l,H l=none→Q (.ref l) (upd H l (.lst ys)))→call_list_of_r K xs H Q
theorem zgi:CallR X (.type "list") (call_list_of_r X.K):=by
 intro pins s σ H xs us Q I r h
 obtain ⟨p,ys,rfl,hq,q⟩:=h
 obtain ⟨u,rfl,rx⟩:=zcc r
 cases rx
 have fin:∀ (its:List Value),Vals ys its→ys.length≤sizeLine→∀ (h':Heap) (c':Nat),(∀ b o',s.heap.get? b=some o'→h'.get? b=some o') →
   h'.get? s.heap.objs.size=some { cls:=.type "list",dict:=none,data:=.seq its.toArray c',slots:=#[] }→EP X pins σ Q (.ref s.heap.objs.size) { s with heap:=h' }:=fun its r' hz h' c' kp e =>
  ⟨.ref s.heap.objs.size,_,I.laid (t':=s.toks) kp (Nat.le_refl _) (show ObjOk X.prog X.w _ h' _ (.lst ys) from ⟨hz,its,c',r',e⟩),rfl,q _ (I.hok.fresh (Nat.le_refl _))⟩
 rcases hq with hq | hq
 ·obtain ⟨its,r',pl,hz⟩:=I.list hq
  have hlen:=r'.length
  obtain ⟨o,ho,hc,n,hd⟩:=pl.isList
  exact call_list_seq p (.inl rfl) ho hc hd (fun h' c' kp e=>fin its r' hz h' c' kp e) (by simp only [List.size_toArray] <;> omega)
 ·obtain ⟨its,r',pl,hz⟩:=I.tuple hq
  have hlen:=r'.length
  obtain ⟨o,ho,hc,n,hd⟩:=pl
  exact call_list_seq p (.inr rfl) ho hc hd (fun h' c' kp e=>fin its r' hz h' c' kp e) (by simp only [List.size_toArray] <;> omega)
inductive call_tuple_of_r (K:PySem.W.Frag)(xs:List V)(H:Hp)(Q:VK):Prop
 | mk:∀ p ys,(xs=[.ref p])→(((SqL K H p ys∧∀ l,H l=none→Q (.ref l) (upd H l (.tup ys))) ∨ (SqT K H p ys∧Q (.ref p) H)))→call_tuple_of_r K xs H Q
theorem zbn:CallR X (.type "tuple") (call_tuple_of_r X.K):=by
 intro pins s σ H xs us Q I r h
 obtain ⟨p,ys,rfl,h⟩:=h
 obtain ⟨u,rfl,rx⟩:=zcc r
 cases rx
 rcases h with ⟨hq,q⟩ | ⟨hq,q⟩
 ·obtain ⟨its,r',pl,hz⟩:=I.list hq
  have hlen:=r'.length
  refine call_tuple_list pl.isList (fun h' kp=>?_) (by simp only [List.size_toArray] <;> omega)
  have I1:Inv X pins σ H { s with heap:=h' }:=I.kept (t':=s.toks) kp
  have I2:Inv X pins σ (upd H h'.objs.size (.tup ys)) { s with heap:=h'.push { cls:=.type "tuple",data:=.seq its.toArray } } :=
   I1.laid (t':=s.toks) (fun b o e=>Heap.get?_push_of_some _ e) (Nat.le_refl _) (show ObjOk X.prog X.w _ _ _ (.tup ys) from ⟨hz,its,r',IsTup.new _ _,.new _ _ rfl⟩)
  exact ⟨.ref h'.objs.size,_,I2,rfl,q _ (I1.hok.fresh (Nat.le_refl _))⟩
 ·obtain ⟨its,r',pl,hz⟩:=I.tuple hq
  exact call_tuple_same pl ⟨.ref p,H,I,rfl,q⟩
noncomputable def tyV (K:PySem.W.Frag)(T:String)(x:V)(H:Hp):Prop:=match x with
 | .str _=>T = "str"
 | .int _=>T = "int"
 | .ref p=>(T = "list"∧∃ xs,SqL K H p xs) ∨ (T = "tuple"∧((∃ o,K.lookup p=some o∧o.cls = .type "tuple"∧o.dict=none) ∨ ∃ xs,H p=some (.tup xs))) ∨
   (T = "dict"∧((∃ kvs,H p=some (.dK kvs)) ∨ ∃ kvs,H p=some (.dT kvs))) ∨ (T = "set"∧∃ S n,H p=some (.set S n))
 | _=>False
theorem tyV_is {pins:List (Addr × Obj)}{σ:St}{H:Hp}{s:Shared}{T:String}{x:V}{v:Value}(I:Inv X pins σ H s)(r:RelV x v)(ty:tyV X.K T x H) :
  s.TypeIs v T∧∀ a,v = .ref a→∃ ob,s.heap.get? a=some ob∧ob.dict=none:=by
 cases x with
 | str z =>
  obtain ⟨t,rfl⟩:=r
  cases (show T = "str" from ty)
  exact ⟨typeIs_str s z t,fun _ e=>nomatch e⟩
 | int i =>
  obtain ⟨t,rfl⟩:=r
  cases (show T = "int" from ty)
  exact ⟨typeIs_int s i t,fun _ e=>nomatch e⟩
 | ref p =>
  cases r
  rcases ty with ⟨rfl,xs,hq⟩ | ⟨rfl,⟨o,hk,hc,hd⟩ | ⟨xs,hk⟩⟩ | ⟨rfl,hk⟩ | ⟨rfl,S,n,hk⟩
  ·obtain ⟨its,_,pl,_⟩:=I.list hq
   refine ⟨pl.isList.typeIs,fun a e=>?_⟩
   cases e
   obtain ⟨o,n,e,c,hd,_⟩:=pl
   exact ⟨o,e,hd⟩
  ·refine ⟨⟨o,I.kIn p o hk,hc⟩,fun a e=>?_⟩
   cases e
   exact ⟨o,I.kIn _ o hk,hd⟩
  ·obtain ⟨_,_,_,⟨o,e,hc,_⟩,hn⟩:=I.hok p _ hk
   refine ⟨⟨o,e,hc⟩,fun a e=>?_⟩
   cases e
   exact hn
  ·have z:∃ o,s.heap.get? p=some o∧o.ExactDict:=by
    rcases hk with ⟨kvs,hk⟩ | ⟨kvs,hk⟩
    ·obtain ⟨_,_,_,_,o,_,_,e,ex,_⟩:=I.hok p _ hk
     exact ⟨o,e,ex⟩
    ·obtain ⟨_,_,_,_,o,_,_,e,ex,_⟩:=I.hok p _ hk
     exact ⟨o,e,ex⟩
   obtain ⟨o,e,ex⟩:=z
   refine ⟨⟨o,e,ex.1⟩,fun a e2=>?_⟩
   cases e2
   exact ⟨o,e,ex.2.1⟩
  ·obtain ⟨o,_,_,_,e,ex,_⟩:=I.hok p _ hk
   refine ⟨⟨o,e,ex.1⟩,fun a e2=>?_⟩
   cases e2
   exact ⟨o,e,ex.2.1⟩
 | _=>exact False.elim ty
noncomputable def tBM0_k1 (K:PySem.W.Frag)(T:String)(r:V→List V→Hp→VK→Prop)(Q:VK):V→Hp→Prop:=fun x H1=>tyV K T x H1∧r x [] H1 Q
noncomputable def tBM0 (K:PySem.W.Frag)(T:String)(r:V→List V→Hp→VK→Prop)(to:TE):TE:=fun σ H Q=>to σ H (tBM0_k1 K T r Q)
noncomputable def tBM_k1 (r:V→List V→Hp→VK→Prop)(Q:VK)(x:V):List V→Hp→Prop:=fun xs H2=>r x xs H2 Q
noncomputable def tBM_k2 (K:PySem.W.Frag)(T:String)(r:V→List V→Hp→VK→Prop)(t:TA)(σ:St)(Q:VK):V→Hp→Prop:=fun x H1=>tyV K T x H1∧t σ H1 (tBM_k1 r Q x)
noncomputable def tBM (K:PySem.W.Frag)(T:String)(r:V→List V→Hp→VK→Prop)(to:TE)(t:TA):TE:=fun σ H Q=>to σ H (tBM_k2 K T r t σ Q)
variable {o e:Expr} {es:List Expr} {to:TE} {t:TA} {name:Str} {apos cpos:Pos} {T id:String} {r:V→List V→Hp→VK→Prop}
theorem pe_bm0 (pa:PlainAttrs T)(slot:Slot T name id)(hty:typeOf (.builtin id)=pure (.type "method_descriptor"))(hm:MtR X id r)(ho:PE X o to)
  (hbase:attributeBase o name X.env (eval o X.env)=eval o X.env:=by rfl) (hline:(apos.endLine == cpos.line)=true:=by rfl):PE X (.Call (.Attribute o name apos) [] [] cpos) (tBM0 X.K T r to):=by
 intro pins s σ H Q I h
 refine wpAny_Call_method0_late hbase hline (thn (ho pins s σ H _ I h) fun v s1 zq65=>?_)
 obtain ⟨x,H1,I1,r1,ty,q1⟩:=zq65
 obtain ⟨h1,h2⟩:=tyV_is I1 r1 ty
 exact ⟨T,id,pa,slot,hty,h1,h2,Calls.callWith_builtin rfl (PySem.evalArgs_none (hm pins s1 σ H1 x [] v [] Q I1 r1 .nil q1))⟩
theorem zfl (pa:PlainAttrs T)(slot:Slot T name id)(hty:typeOf (.builtin id)=pure (.type "method_descriptor"))(hm:MtR X id r)(ho:PE X o to)(ha:PA X (e::es) t)
  (hbase:attributeBase o name X.env (eval o X.env)=eval o X.env:=by rfl)
  (hfew:((backTo cpos (starEach (e::es) X.env)).all (fun x=>!x.1) && (backToKw cpos (keywordEach [] X.env)).all (fun x=>x.1.isSome)
   && decide ((e::es).length+([]:List Keyword).length+(if ([]:List Keyword).isEmpty then 0 else 1) < 30))=true:=by rfl)
  (hline:(apos.endLine == cpos.line)=true:=by rfl) (hs:starEach (e::es) X.env=(false,eval e X.env)::starEach es X.env:=by rfl) (hplain:(backTo cpos (starEach es X.env)).any (·.1)=false:=by rfl) :
  PE X (.Call (.Attribute o name apos) (e::es) [] cpos) (tBM X.K T r to t):=by
 intro pins s σ H Q I h
 refine wpAny_Call_method_late hbase hfew hline rfl (thn (ho pins s σ H _ I h) fun v s1 zq66=>?_)
 obtain ⟨x,H1,I1,r1,ty,q1⟩:=zq66
 obtain ⟨h1,h2⟩:=tyV_is I1 r1 ty
 refine ⟨T,id,pa,slot,hty,h1,h2,?_⟩
 have hA:=ha cpos pins s1 σ H1 _ I1 q1
 rw [hs] at hA ⊢
 refine Calls.callWith_builtin (by show (false || (backTo cpos (starEach es X.env)).any (·.1))=false;rw [hplain] <;> rfl) (Calls.evalArgs_plain ?_)
 exact thn hA fun us s2 zq67=>(by obtain ⟨vs,H2,I2,r2,q2⟩:=zq67;exact hm pins s2 σ H2 x vs v us Q I2 r1 r2 q2)
/- xs.append(e),list.index on a module's tuple .. are MtR facts of 06m -/
end
end L2
namespace L2
open PySem PySem.Spec PyProof.Rows
noncomputable def MtM (X:Cx)(id:String)(r:V→List V→Hp→VK→Prop):Prop :=
 ∀ (pins:List (Addr × Obj)) (s:Shared) (σ:St) (H:Hp) (x:V) (xs:List V) (v:Value) (us:List Value) (Q:VK),Inv X pins σ H s→RelV x v→Vals xs us→r x xs H Q →
  wpAny (model X.prog X.w) X.A (call (.builtin id) (v::us)) (EP X pins σ Q) X.xe s
theorem Vals.one:∀ {x:V} {us:List Value},Vals [x] us→∃ u,us=[u]∧RelV x u
 | _,_,.cons r .nil=>⟨_,rfl,r⟩
theorem Vals.rep {xs:List V}{us:List Value}(h:Vals xs us):∀ k:Nat,Vals (List.replicate k xs).flatten (List.replicate k us).flatten
 | 0=>.nil
 | k+1=>by
  rw [List.replicate_succ,List.replicate_succ,List.flatten_cons,List.flatten_cons]
  exact Vals.append h (Vals.rep h k)
theorem zgj (its:List Value):∀ (k:Nat) (acc:List Value),
  List.foldl (fun x1 x2=>x1++x2) acc.toArray (List.replicate k its.toArray)=(acc++(List.replicate k its).flatten).toArray
 | 0,acc=>by simp
 | k+1,acc=>by
  have e:acc.toArray++its.toArray=(acc++its).toArray:=by simp
  have e2:(acc++its)++(List.replicate k its).flatten=acc++(List.replicate (k+1) its).flatten:=by
   rw [List.replicate_succ,List.flatten_cons,List.append_assoc]
  rw [← e2,← zgj its k (acc++its),← e,List.replicate_succ,List.foldl_cons]
section
variable {X:Cx} {pins:List (Addr × Obj)} {σ:St} {H:Hp} {s:Shared} {l b:Addr} {xs ys zs:List V}
theorem Inv.lset {its its':List Value}{n:Nat}{f:Array Value→Array Value}{t':Nat}(I:Inv X pins σ H s)(hH:H l=some (.lst xs))
  (e:s.heap.get? l=some { cls:=.type "list",data:=.seq its.toArray n }) (hf:f its.toArray=its'.toArray) (hv:Vals ys its') (hz:ys.length≤sizeLine) :
  Inv X pins σ (upd H l (.lst ys)) { s with heap:=s.heap.update l (Obj.mapSeq f),toks:=t' }:=by
 have q:=PySem.IsL.update e f
 rw [hf] at q
 refine I.write (x:=l) (e:=l) (by rw [hH];exact trivial) (.inl rfl) (fun b' u hb hu=>(Heap.get?_update_other s.heap (Obj.mapSeq f) (Ne.symm hb)).trans hu) ⟨_,q⟩ ?_
 exact ⟨hz,its',_,hv,q⟩
theorem Inv.lnew {its:List Value}{t':Nat}(I:Inv X pins σ H s)(hv:Vals ys its)(hz:ys.length≤sizeLine) :
  Inv X pins σ (upd H s.heap.objs.size (.lst ys)) { s with heap:=s.heap.push { cls:=.type "list",data:=.seq its.toArray },toks:=t' } :=
 I.laid (fun _ _ q=>Heap.get?_push_of_some _ q) (Nat.le_refl _) ⟨hz,its,0,hv,Heap.get?_push_size _ rfl⟩
theorem Inv.fresh (I:Inv X pins σ H s):H s.heap.objs.size=none:=I.hok.fresh (Nat.le_refl _)
theorem Inv.lstM (I:Inv X pins σ H s)(hH:H l=some (.lst xs)):xs.length≤sizeLine∧∃ (its:List Value) (n:Nat),Vals xs its∧xs.length=its.length∧s.heap.get? l=some { cls:=.type "list",data:=.seq its.toArray n }:=by
 obtain ⟨z,its,n,r,e⟩:=I.hok l _ hH
 exact ⟨z,its,n,r,r.length,e⟩
theorem zhz {n:Nat}(h:n≤sizeLine):Builtin.List.listTooLong n=false:=by
 unfold Builtin.List.listTooLong
 exact decide_eq_false (by omega)
end
section
variable {X:Cx}
inductive rAppend (x:V)(vs:List V)(H:Hp)(Q:VK):Prop
 | mk:∀ l xs y,(x = .ref l)→(vs=[y])→(H l=some (.lst xs))→(xs.length < sizeLine)→(Q .non (upd H l (.lst (xs++[y]))))→rAppend x vs H Q
theorem zec:MtM X "list.append" rAppend:=by
 intro pins s σ H x vs v us Q I rx rv h
 obtain ⟨l,xs,y,rfl,rfl,hH,hz,q⟩:=h
 cases rx
 obtain ⟨u,rfl,ru⟩:=rv.one
 obtain ⟨z,its,n,r,hl,e⟩:=I.lstM hH
 refine call_meets F.slot_list_append ⟨_,e,rfl⟩ F.entry_list_append (F.args_list_append_2 _ _) (PySem.list_append l its.toArray n u (by rw [List.size_toArray];omega)) ⟨e,?_⟩
 refine ⟨.non,_,I.lset (its':=its++[u]) hH e (by simp) (r.append (.cons ru .nil)) ?_,rfl,q⟩
 rw [List.length_append,List.length_singleton]
 omega
inductive rExtend (x:V)(vs:List V)(H:Hp)(Q:VK):Prop
 | mk:∀ l b xs zs,(x = .ref l)→(vs=[.ref b])→(H l=some (.lst xs))→(H b=some (.lst zs))→(xs.length+zs.length≤sizeLine)→(Q .non (upd H l (.lst (xs++zs))))→rExtend x vs H Q
theorem zgk:MtM X "list.extend" rExtend:=by
 intro pins s σ H x vs v us Q I rx rv h
 obtain ⟨l,b,xs,zs,rfl,rfl,hH,hB,hz,q⟩:=h
 cases rx
 obtain ⟨u,rfl,ru⟩:=rv.one
 cases ru
 obtain ⟨z,its,n,r,hl,e⟩:=I.lstM hH
 obtain ⟨z2,its2,n2,r2,hl2,e2⟩:=I.lstM hB
 have hsz:its.toArray.size+its2.toArray.size≤sizeLine:=by rw [List.size_toArray,List.size_toArray];omega
 have hlong:¬ (!its.toArray.isEmpty && Builtin.List.listTooLong (its.toArray.size+its2.toArray.size))=true:=by
  rw [zhz hsz,Bool.and_false]
  exact Bool.false_ne_true
 refine call_meets F.slot_list_extend ⟨_,e,rfl⟩ F.entry_list_extend (F.args_list_extend_2 _ _)
  (AutoSeq1.list_extend_list_list_0 l its.toArray n b its2.toArray n2 hlong (by rw [List.size_toArray];omega) (by omega)) ⟨e,e2,?_⟩
 refine ⟨.non,_,I.lset (its':=its++its2) hH e (by simp) (r.append r2) ?_,rfl,q⟩
 rw [List.length_append]
 omega
inductive rCat (x:V)(y:V)(H:Hp)(Q:VK):Prop
 | mk:∀ l b xs zs,(x = .ref l)→(y = .ref b)→(H l=some (.lst xs))→(H b=some (.lst zs))→(xs.length+zs.length≤sizeLine)→(∀ p,H p=none→Q (.ref p) (upd H p (.lst (xs++zs))))→rCat x y H Q
theorem zjy:OpR X (binaryOp .Add) rCat:=by
 intro pins s σ H x y v u Q I rx ry h
 obtain ⟨l,b,xs,zs,rfl,rfl,hH,hB,hz,q⟩:=h
 cases rx
 cases ry
 obtain ⟨z,its,n,r,hl,e⟩:=I.lstM hH
 obtain ⟨z2,its2,n2,r2,hl2,e2⟩:=I.lstM hB
 refine PySem.P.add_list e e2 ?_ (by rw [List.size_toArray,List.size_toArray];omega)
 have ea:its.toArray++its2.toArray=(its++its2).toArray:=by simp
 rw [ea]
 exact ⟨.ref _,_,I.lnew (t':=s.toks) (r.append r2) (by rw [List.length_append];omega),rfl,q _ I.fresh⟩
inductive rRep (x:V)(y:V)(H:Hp)(Q:VK):Prop
 | mk:∀ l k xs,(x = .ref l)→(y = .int k)→(H l=some (.lst xs))→(-(2 ^ 63)≤k)→(k < 2 ^ 63)→(xs.length*k.toNat≤sizeLine)→(∀ p,H p=none→Q (.ref p) (upd H p (.lst (List.replicate k.toNat xs).flatten)))→rRep x y H Q
theorem len_rep {α:Type}(xs:List α)(k:Nat):(List.replicate k xs).flatten.length=k*xs.length:=by
 induction k with
 | zero=>simp
 | succ k ih=>rw [List.replicate_succ,List.flatten_cons,List.length_append,ih,Nat.succ_mul,Nat.add_comm]
theorem op_rep:OpR X (binaryOp .Mult) rRep:=by
 intro pins s σ H x y v u Q I rx ry h
 obtain ⟨l,k,xs,rfl,rfl,hH,h1,h2,hz,q⟩:=h
 cases rx
 obtain ⟨t,rfl⟩:=ry
 obtain ⟨z,its,n,r,hl,e⟩:=I.lstM hH
 have hlen:its.toArray.size*k.toNat≤sizeLine:=by rw [List.size_toArray,← hl];exact hz
 have hcap:¬ its.toArray.size*k.toNat > (2 ^ 63 - 1) / 8:=by
  have:(sizeLine:Nat)≤(2 ^ 63 - 1) / 8:=by decide
  omega
 have hfit:¬ (!Builtin.List.listFitsIndex k)=true:=by
  rw [fitsIndex_both h1 h2]
  exact Bool.false_ne_true
 have hlong:¬ Builtin.List.listTooLong (its.toArray.size*k.toNat)=true:=by
  rw [zhz hlen]
  exact Bool.false_ne_true
 have hnew:List.foldl (fun x1 x2=>x1++x2) #[] (List.replicate (if its.toArray.isEmpty=true then 0 else k.toNat) its.toArray)=(List.replicate k.toNat its).flatten.toArray:=by
  have f0:∀ m:Nat,List.foldl (fun x1 x2=>x1++x2) #[] (List.replicate m its.toArray)=(List.replicate m its).flatten.toArray:=fun m=>by
   have:=zgj its m []
   rw [List.nil_append] at this
   exact this
  rw [f0]
  cases its with
  | nil=>simp
  | cons a r'=>rw [if_neg (by simp)]
 refine wpAny_binaryOp_repeat_ref (T:="list") (U:="int") (by decide) ⟨_,e,rfl⟩ (fun s'=>typeIs_int s' k t) noFill_list_mul F.fills_int_mul F.slot_int_rmul repeat_list F.slot_int_index.lookup
  (call_meets F.slot_int_rmul (typeIs_int s k t) F.entry_int_rmul (F.args_int_rmul_2 _ _) (int___rmul___int_list k t l its.toArray n)
   ⟨e,rfl,⟨_,e,rfl⟩,call_meets F.slot_list_mul ⟨_,e,rfl⟩ F.entry_list_mul (F.args_list_mul_2 _ _) (AutoListH.list___mul___list_int_3 l its.toArray n k t hfit hcap hlong) ⟨e,?_⟩⟩)
 rw [hnew]
 exact ⟨.ref _,_,I.lnew (t':=s.toks) (r.rep k.toNat) (by rw [len_rep,Nat.mul_comm];exact hz),rfl,q _ I.fresh⟩
end
section
variable {prog:Program} {w:World} {A:Around} {E:Value→Shared→Prop} {s:Shared}
end
section
variable {X:Cx}
end
end L2
namespace L2
open PySem PySem.Spec PyProof.Rows
section
variable {κ:Type} [DecidableEq κ]
noncomputable def valV (kvs:List (κ × V))(k:κ):Option V:=(kvs.find? fun kv=>decide (kv.1=k)).map (·.2)
noncomputable def putK (kvs:List (κ × V))(k:κ)(v:V):List (κ × V) :=
 if (kvs.any fun kv=>decide (kv.1=k))=true then kvs.map (fun kv=>if kv.1=k then (kv.1,v) else kv) else kvs++[(k,v)]
theorem zfm {p:κ × V}{r:List (κ × V)}{k:κ}(e:p.1=k):valV (p::r) k=some p.2:=by simp [valV,List.find?_cons,e]
theorem zfn {p:κ × V}{r:List (κ × V)}{k:κ}(e:¬ p.1=k):valV (p::r) k=valV r k:=by simp [valV,List.find?_cons,e]
theorem zh0 (k:κ):∀ kvs:List (κ × V),(kvs.any fun kv=>decide (kv.1=k))=(valV kvs k).isSome
 | []=>rfl
 | p::r=>by
  rw [List.any_cons]
  by_cases e:p.1=k
  ·simp only [zfm e,decide_eq_true e,Bool.true_or,Option.isSome_some]
  ·rw [zfn e,decide_eq_false e,Bool.false_or];exact zh0 k r
theorem zb6 (kvs:List (κ × V))(k:κ)(v:V):(putK kvs k v).length≤kvs.length+1:=by
 unfold putK
 split
 ·rw [List.length_map];omega
 ·rw [List.length_append,List.length_cons,List.length_nil];omega
theorem RelO.isSome_eq {o:Option V}{u:Option Value}(r:RelO o u):o.isSome=u.isSome:=by
 cases o with
 | none=>cases u with
  | none=>rfl
  | some _=>exact (show False from r).elim
 | some _=>cases u with
  | none=>exact (show False from r).elim
  | some _=>rfl
theorem RelO.getD {o:Option V}{u:Option Value}{d:V}{d':Value}(r:RelO o u)(rd:RelV d d'):RelV (o.getD d) (u.getD d'):=by
 cases o with
 | none=>cases u with
  | none=>exact rd
  | some _=>exact (show False from r).elim
 | some _=>cases u with
  | none=>exact (show False from r).elim
  | some _=>exact r
theorem KV.val {kvs:List (κ × V)}{vs:List (κ × Value)}(r:KV kvs vs)(k:κ):RelO (valV kvs k) (valueAt vs k):=by
 unfold KV at r
 induction r with
 | nil=>exact True.intro
 | @cons p q ps qs h t ih =>
  obtain ⟨h1,h2⟩:=h
  by_cases e:p.1=k
  ·have e':q.1=k:=h1.symm.trans e
   have b:valueAt (q::qs) k=some q.2:=by simp [valueAt,List.find?_cons,e']
   rw [zfm e,b];exact h2
  ·have e':¬ q.1=k:=fun z=>e (h1.trans z)
   have b:valueAt (q::qs) k=valueAt qs k:=by simp [valueAt,List.find?_cons,e']
   rw [zfn e,b];exact ih
theorem KV.any {kvs:List (κ × V)}{vs:List (κ × Value)}(r:KV kvs vs)(k:κ):(kvs.any fun kv=>decide (kv.1=k))=vs.any fun kv=>decide (kv.1=k):=by
 unfold KV at r
 induction r with
 | nil=>rfl
 | cons h t ih=>rw [List.any_cons,List.any_cons,ih,h.1]
theorem KV.repl {kvs:List (κ × V)}{vs:List (κ × Value)}(r:KV kvs vs)(k:κ){y:V}{u:Value}(ry:RelV y u) :
  KV (kvs.map fun kv=>if kv.1=k then (kv.1,y) else kv) (vs.map fun kv=>if kv.1=k then (kv.1,u) else kv):=by
 unfold KV at r ⊢
 induction r with
 | nil=>exact .nil
 | @cons p q ps qs h t ih =>
  rw [List.map_cons,List.map_cons]
  refine .cons ?_ ih
  obtain ⟨h1,h2⟩:=h
  by_cases e:p.1=k
  ·rw [if_pos e,if_pos (h1.symm.trans e)];exact ⟨h1,ry⟩
  ·rw [if_neg e,if_neg (fun z=>e (h1.trans z))];exact ⟨h1,h2⟩
theorem KV.put {kvs:List (κ × V)}{vs:List (κ × Value)}(r:KV kvs vs)(k:κ){y:V}{u:Value}(ry:RelV y u):KV (putK kvs k y) (stored vs k u):=by
 unfold putK stored
 rw [r.any k]
 by_cases e:(vs.any fun kv=>decide (kv.1=k))=true
 ·rw [if_pos e,if_pos e];exact r.repl k ry
 ·rw [if_neg e,if_neg e];exact Paired.snoc r ⟨rfl,ry⟩
theorem KV.length {kvs:List (κ × V)}{vs:List (κ × Value)}(r:KV kvs vs):kvs.length=vs.length:=Paired.length r
end
theorem kV_is {P:Program}{w:World}{k:Key}{u:Value}(r:RelV (kV k) u):(mixKind P w).is k u=true:=by
 cases k with
 | inl i=>obtain ⟨t,e⟩:=(show ∃ t,u=Value.int i t from r);subst e;exact zhd P w i t
 | inr x=>obtain ⟨t,e⟩:=(show ∃ t,u=Value.str x t from r);subst e;exact zhe P w x t
theorem zgl {P:Program}{w:World}:∀ {ks:List Key} {us:List Value},Vals (ks.map kV) us→ItemsAre (mixKind P w) ks us
 | [],_,r=>by rw [List.map_nil] at r;cases r;exact .nil
 | k::ks,_,r=>by
  rw [List.map_cons] at r
  cases r with
  | cons h t=>exact .cons (kV_is h) (zgl t)
noncomputable abbrev KT (H:Hp):List (List Key × V)→List (List Key × Addr × Value)→Prop:=Paired fun p q=>p.1=q.1∧H q.2.1=some (.tup (p.1.map kV))∧RelV p.2 q.2.2
theorem KT.val {H:Hp}{kvs:List (List Key × V)}{xs:List (List Key × Addr × Value)}(r:KT H kvs xs)(k:List Key):RelO (valV kvs k) ((atKey xs k).map (·.2)):=by
 induction r with
 | nil=>exact True.intro
 | @cons p q ps qs h t ih =>
  obtain ⟨h1,_,h2⟩:=h
  by_cases e:p.1=k
  ·have e':q.1=k:=h1.symm.trans e
   have b:atKey (q::qs) k=some q.2:=by simp [atKey,List.find?_cons,e']
   rw [zfm e,b];exact h2
  ·have e':¬ q.1=k:=fun z=>e (h1.trans z)
   have b:atKey (q::qs) k=atKey qs k:=by simp [atKey,List.find?_cons,e']
   rw [zfn e,b];exact ih
theorem KT.repl {H:Hp}{kvs:List (List Key × V)}{xs:List (List Key × Addr × Value)}(r:KT H kvs xs)(k:List Key){y:V}{u:Value}(ry:RelV y u) :
  KT H (kvs.map fun kv=>if kv.1=k then (kv.1,y) else kv) (xs.map (putAt k u)):=by
 induction r with
 | nil=>exact .nil
 | @cons p q ps qs h t ih =>
  rw [List.map_cons,List.map_cons]
  refine .cons ?_ ih
  obtain ⟨h1,h2,h3⟩:=h
  unfold putAt
  by_cases e:p.1=k
  ·rw [if_pos e,if_pos (h1.symm.trans e)];exact ⟨h1,h2,ry⟩
  ·rw [if_neg e,if_neg (fun z=>e (h1.trans z))];exact ⟨h1,h2,h3⟩
theorem KT.put {H:Hp}{kvs:List (List Key × V)}{xs:List (List Key × Addr × Value)}(r:KT H kvs xs)(k:List Key){b:Addr}{y:V}{u:Value}(hb:H b=some (.tup (k.map kV)))(ry:RelV y u) :
  KT H (putK kvs k y) (storedH xs k b u):=by
 have e:(kvs.any fun kv=>decide (kv.1=k))=(atKey xs k).isSome:=by
  rw [zh0,(r.val k).isSome_eq,Option.isSome_map]
 unfold putK storedH
 rw [e]
 by_cases q:(atKey xs k).isSome=true
 ·rw [if_pos q,if_pos q];exact r.repl k ry
 ·rw [if_neg q,if_neg q];exact Paired.snoc r ⟨rfl,hb,ry⟩
theorem KT.keeps {H H':Hp}{kvs:List (List Key × V)}{xs:List (List Key × Addr × Value)}(r:KT H kvs xs)(ht:∀ b ys,H b=some (.tup ys)→H' b=some (.tup ys)):KT H' kvs xs :=
 Paired.mapP r fun _ _ z=>⟨z.1,ht _ _ z.2.1,z.2.2⟩
section
variable {P:Program} {w:World} {H:Hp} {h:Heap} {a:Addr}
theorem rd_of {u:HO}(ok:HOk P w H h)(e:Rd H a u):ObjOk P w H h a u:=e.ok ok
theorem dk_rd {kvs:List (Key × V)}(ok:HOk P w H h)(e:Rd H a (.dK kvs)):kvs.length≤sizeLine∧(a == sysModules)=false∧∃ vs,KV kvs vs∧h.DictOf (mixKind P w) a vs :=
 show ObjOk P w H h a (.dK kvs) from rd_of ok e
theorem dk_of {kvs:List (Key × V)}(ok:HOk P w H h)(e:H a=some (.dK kvs)):kvs.length≤sizeLine∧(a == sysModules)=false∧∃ vs,KV kvs vs∧h.DictOf (mixKind P w) a vs:=dk_rd ok (.inl e)
theorem zh1 {ks:List Key}(ok:HOk P w H h)(e:H a=some (.tup (ks.map kV))):(tupleKind (mixKind P w)).is h ks a:=by
 obtain ⟨_,its,r,⟨o,h1,h2,n,h3⟩,_⟩:=(show ObjOk P w H h a (.tup (ks.map kV)) from ok a _ e)
 exact ⟨o,its.toArray,n,h1,h2,h3,by simpa using zgl r⟩
theorem dt_rd {kvs:List (List Key × V)}(ok:HOk P w H h)(e:Rd H a (.dT kvs)):kvs.length≤sizeLine∧(a == sysModules)=false ∧
  ∃ xs,KT H kvs xs∧h.DictOfH (tupleKind (mixKind P w)) a xs:=by
 obtain ⟨z,y,xs,r,o,es,ep,h1,h2,h3,h4,h5⟩:=(show ObjOk P w H h a (.dT kvs) from rd_of ok e)
 refine ⟨z,y,xs,r,o,es,ep,h1,h2,h3,h4,fun x hx=>?_,h5⟩
 have all:∀ {l:List (List Key × V)} {m:List (List Key × Addr × Value)},KT H l m→∀ x∈m,(tupleKind (mixKind P w)).is h x.1 x.2.1:=by
  intro l m q
  induction q with
  | nil=>intro x hx;exact nomatch hx
  | @cons p q ps qs hq t ih =>
   intro x hx
   rcases List.mem_cons.mp hx with e | hx
   ·subst e
    exact zh1 ok (by rw [← hq.1];exact hq.2.1)
   ·exact ih x hx
 exact all r x hx
theorem dt_of {kvs:List (List Key × V)}(ok:HOk P w H h)(e:H a=some (.dT kvs)):kvs.length≤sizeLine∧(a == sysModules)=false ∧
  ∃ xs,KT H kvs xs∧h.DictOfH (tupleKind (mixKind P w)) a xs:=dt_rd ok (.inl e)
end
noncomputable def DGet (H:Hp)(a:Addr)(y:V)(r:Option V):Prop :=
 (∃ kvs k,Rd H a (.dK kvs)∧y=kV k∧r=valV kvs k) ∨ ∃ kvs k b,Rd H a (.dT kvs)∧y = .ref b∧H b=some (.tup (k.map kV))∧r=valV kvs k
noncomputable def DPut (H:Hp)(a:Addr)(y v:V)(H':Hp):Prop :=
 (∃ kvs k,H a=some (.dK kvs)∧y=kV k∧kvs.length < sizeLine∧H'=upd H a (.dK (putK kvs k v))) ∨
 ∃ kvs k b,H a=some (.dT kvs)∧y = .ref b∧H b=some (.tup (k.map kV))∧kvs.length < sizeLine∧H'=upd H a (.dT (putK kvs k v))
theorem DGet.k {H:Hp}{a:Addr}{kvs:List (Key × V)}{k:Key}(e:H a=some (.dK kvs)):DGet H a (kV k) (valV kvs k):=.inl ⟨kvs,k,.inl e,rfl,rfl⟩
theorem DPut.k {H:Hp}{a:Addr}{kvs:List (Key × V)}{k:Key}{v:V}(e:H a=some (.dK kvs))(hl:kvs.length < sizeLine):DPut H a (kV k) v (upd H a (.dK (putK kvs k v))):=.inl ⟨kvs,k,e,rfl,hl,rfl⟩
section
variable {X:Cx} {pins:List (Addr × Obj)} {σ:St} {H:Hp} {s:Shared} {a:Addr} {y v:V} {u r:Value} {o:Option V} {A:Around} {E:Value→Shared→Prop}
theorem Inv.big (I:Inv X pins σ H s):sysModules < s.heap.objs.size:=by
 have h:mainGlobals < s.heap.objs.size:=(I.mod.glob.keeps I.bk).lt
 exact Nat.lt_trans (by decide) h
theorem d_getItem {Q:Value→Shared→Prop}(hu:A.units+1 < cLine)(I:Inv X pins σ H s)(g:DGet H a y (some v))(ry:RelV y u)(h:∀ w' s',Inv X pins σ H s'→RelV v w'→Q w' s') :
  wpAny (model X.prog X.w) A (getItem (.ref a) u) Q E s:=by
 rcases g with ⟨kvs,k,e,ey,l⟩ | ⟨kvs,k,b,e,ey,eb,l⟩
 ·subst ey
  obtain ⟨z,hd,vs,rel,dd⟩:=dk_rd I.hok e
  obtain ⟨w',hw,rw'⟩:=RelO.some_of (v:=v) (o:=valueAt vs k) (by rw [l];exact rel.val k)
  exact wpAny_getItem_of (kV_is ry) dd.mapOf hw (h w' _ (I.tok _) rw')
 ·subst ey
  cases (show u=Value.ref b from ry)
  obtain ⟨z,hd,xs,rel,dd⟩:=dt_rd I.hok e
  obtain ⟨w',hw,rw'⟩:=RelO.some_of (v:=v) (o:=(atKey xs k).map (·.2)) (by rw [l];exact rel.val k)
  obtain ⟨p,hp,hp2⟩:=Option.map_eq_some_iff.mp hw
  refine wpAny_getItem_heap (tupleKind_room_in1 hu) (zh1 I.hok eb) dd hp ?_
  rw [hp2]
  exact h w' _ (I.tok _) rw'
theorem zfo {h':Heap}{t':Nat}{ob:HO}(I:Inv X pins σ H s)(mu:Mut (H a))(hs:Heap.SameBut a s.heap h')(he:∃ q,h'.get? a=some q)(new:ObjOk X.prog X.w (upd H a ob) h' a ob) :
  Inv X pins σ (upd H a ob) { s with heap:=h',toks:=t' } :=
 I.write (x:=a) (e:=a) mu (.inl rfl) (fun b q hb z=>(hs.2 b hb).trans z) he new
theorem dk_new {P:Program}{w:World}{H':Hp}{h':Heap}{kvs:List (Key × V)}{vs:List (Key × Value)}(z:kvs.length≤sizeLine)(hd:(a == sysModules)=false)(rel:KV kvs vs)(dd:h'.DictOf (mixKind P w) a vs) :
  ObjOk P w H' h' a (.dK kvs):=⟨z,hd,vs,rel,dd⟩
theorem d_setItem {H':Hp}{Q:Unit→Shared→Prop}(hu:A.units+1 < cLine)(I:Inv X pins σ H s)(g:DPut H a y v H')(ry:RelV y u)(rv:RelV v r)(h:∀ s',Inv X pins σ H' s'→Q () s') :
  wpAny (model X.prog X.w) A (setItem (.ref a) u r) Q E s:=by
 rcases g with ⟨kvs,k,e,ey,l,eH⟩ | ⟨kvs,k,b,e,ey,eb,l,eH⟩
 ·subst ey eH
  obtain ⟨z,hd,vs,rel,dd⟩:=dk_of I.hok e
  have hz:vs.length≤sizeLine:=by rw [← rel.length];exact z
  have hl:(putK kvs k v).length≤sizeLine:=by have:=zb6 kvs k v;omega
  refine wpAny_setItem_pairs (hsz:=hz) (kV_is ry) dd fun h' dd' hs=>h _ ?_
  have he:∃ q,h'.get? a=some q:=let ⟨q,_,_,hq,_⟩:=dd';⟨q,hq⟩
  exact zfo I (by rw [e];exact True.intro) hs he (dk_new hl hd (rel.put k rv) dd')
 ·subst ey eH
  cases (show u=Value.ref b from ry)
  obtain ⟨z,hd,xs,rel,dd⟩:=dt_of I.hok e
  have hz:xs.length≤sizeLine:=by rw [← Paired.length rel];exact z
  have hl:(putK kvs k v).length≤sizeLine:=by have:=zb6 kvs k v;omega
  refine wpAny_setItem_heap (hsz:=hz) (tupleKind_room_in1 hu) (zh1 I.hok eb) dd fun h' dd' hs=>h _ ?_
  obtain ⟨q,es,ep,hq,h2,h3,h4,_,h5⟩:=dd'
  refine zfo I (by rw [e];exact True.intro) hs ⟨q,hq⟩ ⟨hl,hd,_,(rel.put k eb rv).keeps fun c ys ec=>?_,q,es,ep,hq,h2,h3,h4,h5⟩
  rw [zai (zjg ec e (fun z=>nomatch z))]
  exact ec
end
section
variable {X:Cx} {pins:List (Addr × Obj)} {σ:St} {H:Hp} {s:Shared} {a:Addr} {kvs:List (Key × V)} {k:Key} {u:Value} {A:Around} {E:Value→Shared→Prop}
end
noncomputable def NoSl (i:Expr):Prop:=∀ ov iv,subscripted i false ov iv=operate [ov,iv] (getItem ov iv)
theorem subD_of {prog:Program}{w:World}{A:Around}{E:Value→Shared→Prop}{s:Shared}{env:Env}{value slice:Expr}{pos:Pos}{T id:String}{Q:Value→Shared→Prop}
  (hl:typeLookup (.type T) "__getitem__" = pure (some (.builtin id))) (hs:NoSl slice)
  (h:wpAny (model prog w) A (eval value env) (fun o s₁=>wpAny (model prog w) A (eval slice env) (fun i s₂=>s₂.TypeIs o T∧wpAny (model prog w) A (getItem o i) Q E s₂) E s₁) E s) :
  wpAny (model prog w) A (eval (.Subscript value slice pos) env) Q E s:=by
 refine Subscript_ (wpAny_mono h (fun o s₁ h₁=>wpAny_mono h₁ (fun i s₂ h₂=>?_) fun _ _ x=>x) fun _ _ x=>x)
 obtain ⟨hT,h₂⟩:=h₂
 unfold subscriptTail
 refine wpAny_bind ?_
 rw [getitemInPython_of_ne hT.not_modules]
 refine wpAny_bind (wpAny_specialOf hT hl ?_)
 have fin:wpAny (model prog w) A (subscripted slice false o i) (fun r s₃=>wpAny (model prog w) A (letTemporaryGo value o r >>= fun _=>pure r) Q E s₃) E s₂:=by
  rw [hs o i]
  exact wpAny_operating (wpAny_mono h₂ (fun r s₃ h₃=>wpAny_bind (wpAny_letTemporaryGo (wpAny_pure h₃))) fun _ _ x=>x)
 first
  | exact wpAny_pure (wpAny_bind fin)
  | exact wpAny_bind (wpAny_pure (wpAny_bind fin))
  | exact wpAny_bind fin
theorem zhi {X:Cx}{pins:List (Addr × Obj)}{σ:St}{H:Hp}{s:Shared}{a:Addr}{y:V}{o:Option V}(I:Inv X pins σ H s)(g:DGet H a y o):s.TypeIs (.ref a) "dict":=by
 rcases g with ⟨kvs,k,e,_,_⟩ | ⟨kvs,k,b,e,_,_,_⟩
 ·obtain ⟨_,_,vs,_,dd⟩:=dk_rd I.hok e
  exact dd.typeIs
 ·obtain ⟨_,_,xs,_,dd⟩:=dt_rd I.hok e
  exact dd.typeIs
noncomputable def tDGet (td ty:TE):TE:=fun σ H Q=>td σ H fun x H1=>ty σ H1 fun y H2=>∃ a v,x = .ref a∧DGet H2 a y (some v)∧Q v H2
noncomputable def sDPut (td ty tv:TE):TS:=fun D σ H=>tv σ H fun v H1=>td σ H1 fun x H2=>ty σ H2 fun y H3=>∃ a H4,x = .ref a∧DPut H3 a y v H4∧D.nx σ H4
section
variable {X:Cx} {o i e value:Expr} {pos pos' tpos:Pos} {td ty tv:TE}
theorem zby (hu:X.A.units+1 < cLine)(ho:PE X o td)(hi:PE X i ty)(hs:NoSl i):PE X (.Subscript o i pos) (tDGet td ty):=by
 intro pins s σ H Q I h
 refine subD_of PySem.F.slot_dict_getitem.lookup hs (thn (ho pins s σ H _ I h) fun u s1 ⟨x,H1,I1,rx,q1⟩=>thn (hi pins s1 σ H1 _ I1 q1) fun iv s2 zq68=>?_)
 obtain ⟨y,H2,I2,ry,a,v,ex,g,q2⟩:=zq68
 subst ex
 obtain rfl:u=Value.ref a:=rx
 exact ⟨zhi I2 g,d_getItem hu I2 g ry fun w' s3 I3 rw'=>⟨v,H2,I3,rw',q2⟩⟩
theorem zed (hu:X.A.units+1 < cLine)(ho:PE X o td)(hi:PE X i ty)(hv:PE X value tv)(hs:swapsWith value (some (.Subscript o i pos')) pos.line X.env=pure false) :
  PS X (.Assign [.Subscript o i pos'] value pos) (sDPut td ty tv):=by
 intro pins s σ H D I h
 refine wpAny_Assign_Subscript (thn (hv pins s σ H _ I h) fun r s1 ⟨v,H1,I1,rv,q1⟩=>thn (ho pins s1 σ H1 _ I1 q1) fun u s2 ⟨x,H2,I2,rx,q2⟩=>thn (hi pins s2 σ H2 _ I2 q2) fun iv s3 zq71=>?_) hs
 obtain ⟨y,H3,I3,ry,a,H4,ex,g,q3⟩:=zq71
 subst ex
 obtain rfl:u=Value.ref a:=rx
 exact d_setItem hu I3 g ry rv fun s4 I4=>⟨σ,H4,I4,q3⟩
end
theorem zh2 {P:Program}{w:World}{H:Hp}(h:Heap)(hb:sysModules < h.objs.size):ObjOk P w H (h.push { cls:=.type "dict",data:=.dict #[] }) h.objs.size (.dK []) :=
 ⟨Nat.zero_le _,beq_eq_false_iff_ne.mpr (Ne.symm (Nat.ne_of_lt hb)),[],.nil,Heap.DictOf.new h⟩
noncomputable def tDNewK:TE:=fun _ H Q=>∀ p,H p=none→Q (.ref p) (upd H p (.dK []))
section
variable {X:Cx} {pos:Pos}
theorem pe_dnewK:PE X (.Dict [] [] pos) tDNewK:=fun pins s σ H Q I h =>
 wpAny_Dict_empty ⟨.ref s.heap.objs.size,_,I.laid (a:=s.heap.objs.size) (o:=.dK []) (t':=s.toks) (fun _ _ q=>Heap.get?_push_of_some _ q) (Nat.le_refl _) (zh2 s.heap I.big),rfl,h _ (I.hok.fresh (Nat.le_refl _))⟩
end
noncomputable def tPairs:List (TE × TE)→St→Hp→(List (V × V)→Hp→Prop)→Prop
 | [],_,H,Q=>Q [] H
 | (tk,tv)::r,σ,H,Q=>tk σ H fun x H1=>tv σ H1 fun y H2=>tPairs r σ H2 fun ps H3=>Q ((x,y)::ps) H3
noncomputable abbrev VV:List (V × V)→List (Value × Value)→Prop:=Paired fun p q=>RelV p.1 q.1∧RelV p.2 q.2
noncomputable def PPs (X:Cx)(pos:Pos)(keys:List (Option Expr))(values:List Expr)(trs:List (TE × TE)):Prop :=
 ∀ (pins:List (Addr × Obj)) (s:Shared) (σ:St) (H:Hp) (Q:List (V × V)→Hp→Prop),Inv X pins σ H s→tPairs trs σ H Q →
  wpAny (model X.prog X.w) X.A (evalPairs (pairTrees keys values X.env pos)) (fun vs s'=>∃ ps H',Inv X pins σ H' s'∧VV ps vs∧Q ps H') X.xe s
theorem pps_nil {X:Cx}{pos:Pos}:PPs X pos [] [] []:=fun pins s σ H Q I h=>pairTrees_nil_walk ⟨[],H,I,.nil,h⟩
theorem zdw {X:Cx}{pos:Pos}{k v:Expr}{ks:List (Option Expr)}{vs:List Expr}{tk tv:TE}{trs:List (TE × TE)}(hk:PE X k tk)(hv:PE X v tv)(hr:PPs X pos ks vs trs) :
  PPs X pos (some k::ks) (v::vs) ((tk,tv)::trs):=fun pins s σ H Q I h =>
 pairTrees_cons_walk (thn (hk pins s σ H _ I h) fun u s1 ⟨x,H1,I1,rx,q1⟩=>thn (hv pins s1 σ H1 _ I1 q1) fun w2 s2 ⟨y,H2,I2,ry,q2⟩ =>
  thn (hr pins s2 σ H2 _ I2 q2) fun ws s3 zq75=>(by obtain ⟨ps,H3,I3,rel,q3⟩:=zq75;exact ⟨(x,y)::ps,H3,I3,.cons ⟨rx,ry⟩ rel,q3⟩))
noncomputable def mergeK (kvs more:List (Key × V)):List (Key × V):=more.foldl (fun acc kv=>putK acc kv.1 kv.2) kvs
theorem KV.merge:∀ {more:List (Key × V)} {rs:List (Key × Value)} {kvs:List (Key × V)} {vs:List (Key × Value)},KV more rs→KV kvs vs→KV (mergeK kvs more) (merged vs rs):=by
 intro more rs kvs vs r
 unfold KV at r
 induction r generalizing kvs vs with
 | nil=>intro q;exact q
 | @cons p q ps qs h t ih =>
  intro r0
  have e:KV (putK kvs p.1 p.2) (stored vs q.1 q.2):=by
   have:=r0.put p.1 h.2
   rw [← h.1];exact this
  exact ih e
theorem zc6:∀ (more kvs:List (Key × V)),(mergeK kvs more).length≤kvs.length+more.length
 | [],kvs=>by show kvs.length≤kvs.length+0;omega
 | p::r,kvs=>by
  have h1:=zc6 r (putK kvs p.1 p.2)
  have h2:=zb6 kvs p.1 p.2
  show (mergeK (putK kvs p.1 p.2) r).length≤_
  rw [List.length_cons];omega
theorem ze4 {P:Program}{w:World}:∀ {kvs:List (Key × V)} {ws:List (Value × Value)},VV (kvs.map fun kv=>(kV kv.1,kv.2)) ws→∃ rs,Carries (mixKind P w) ws rs∧KV kvs rs
 | [],_,r=>by rw [List.map_nil] at r;cases r;exact ⟨[],True.intro,.nil⟩
 | p::kvs,_,r=>by
  rw [List.map_cons] at r
  cases r with
  | @cons a b as bs h t =>
   obtain ⟨rs,c,q⟩:=ze4 (P:=P) (w:=w) t
   obtain ⟨b1,b2⟩:=b
   exact ⟨(p.1,b2)::rs,⟨kV_is h.1,rfl,c⟩,.cons ⟨rfl,h.2⟩ q⟩
noncomputable def tDisp (trs:List (TE × TE)):TE:=fun σ H Q=>∀ p,H p=none→tPairs trs σ (upd H p (.dK [])) fun ps H2=>H2 p=some (.dK [])∧∃ kvs:List (Key × V),ps=kvs.map (fun kv=>(kV kv.1,kv.2))∧kvs.length≤15∧Q (.ref p) (upd H2 p (.dK (mergeK [] kvs)))
theorem pe_disp {X:Cx}{pos:Pos}{keys:List (Option Expr)}{values:List Expr}{trs:List (TE × TE)}(h:PPs X pos keys values trs)(hall:keys.all (·.isSome)=true)(hl:keys.length=values.length)(h0:keys≠[])
  (h15:keys.length≤15):PE X (.Dict keys values pos) (tDisp trs):=by
 intro pins s σ H Q I q
 have hn:=I.hok.fresh (Nat.le_refl s.heap.objs.size)
 have I1:=I.laid (a:=s.heap.objs.size) (o:=.dK []) (h':=s.heap.push { cls:=.type "dict",data:=.dict #[] }) (t':=s.toks) (fun _ _ q=>Heap.get?_push_of_some _ q) (Nat.le_refl _) (zh2 s.heap I.big)
 refine wpAny_Dict_walk (knd:=mixKind X.prog X.w) hall hl h0 h15 (thn (h pins _ σ _ _ I1 (q _ hn)) fun ws s2 zq76=>?_)
 obtain ⟨ps,H2,I2,rel,e,kvs,ep,lk,q2⟩:=zq76
 subst ep
 obtain ⟨rs,c,rk⟩:=ze4 (P:=X.prog) (w:=X.w) rel
 obtain ⟨z,hd,vs0,r0,dd⟩:=dk_of I2.hok e
 cases r0
 refine ⟨rs,c,dd,fun h' dd' hs=>⟨.ref s.heap.objs.size,_,?_,rfl,q2⟩⟩
 have hz:(mergeK [] kvs).length≤sizeLine:=by
  have h1:=zc6 kvs []
  rw [List.length_nil] at h1
  rw [sizeLine_eq];omega
 have he:∃ q,h'.get? s.heap.objs.size=some q:=let ⟨q,_,_,hq,_⟩:=dd';⟨q,hq⟩
 exact zfo I2 (by rw [e];exact True.intro) hs he (dk_new hz hd (rk.merge .nil) dd')
structure M1 (X:Cx) (o:Expr) (m:Str) (apos:Pos) (e:Expr) (cpos:Pos):Prop where
 base:attributeBase o m X.env (eval o X.env)=eval o X.env
 few:((backTo cpos (starEach [e] X.env)).all (fun x=>!x.1) && (backToKw cpos (keywordEach [] X.env)).all (fun x=>x.1.isSome)
  && decide (([e]:List Expr).length+([]:List Keyword).length+(if ([]:List Keyword).isEmpty then 0 else 1) < 30))=true
 line:(apos.endLine == cpos.line)=true
 trees:backTo cpos (starEach [e] X.env)=[(false,eval e X.env)]
noncomputable def IsD (H:Hp)(a:Addr):Prop:=(∃ kvs,Rd H a (.dK kvs)) ∨ ∃ kvs,Rd H a (.dT kvs)
theorem isD_at {X:Cx}{pins:List (Addr × Obj)}{σ:St}{H:Hp}{s:Shared}{a:Addr}(I:Inv X pins σ H s)(d:IsD H a) :
  s.TypeIs (.ref a) "dict"∧(∀ b,Value.ref a = .ref b→∃ ob,s.heap.get? b=some ob∧ob.dict=none)∧(a == sysModules)=false:=by
 rcases d with ⟨kvs,e⟩ | ⟨kvs,e⟩
 ·obtain ⟨_,hd,vs,_,dd⟩:=dk_rd I.hok e
  refine ⟨dd.typeIs,fun b q=>?_,hd⟩
  cases q
  obtain ⟨ob,_,_,h1,h2,_⟩:=dd
  exact ⟨ob,h1,h2.2.1⟩
 ·obtain ⟨_,hd,xs,_,dd⟩:=dt_rd I.hok e
  refine ⟨dd.typeIs,fun b q=>?_,hd⟩
  cases q
  obtain ⟨ob,_,_,h1,h2,_⟩:=dd
  exact ⟨ob,h1,h2.2.1⟩
section
variable {X:Cx} {pins:List (Addr × Obj)} {σ:St} {H:Hp} {s:Shared} {a:Addr} {y d:V} {u r:Value} {o:Option V} {A:Around} {E:Value→Shared→Prop}
theorem d_get1 {Q:Value→Shared→Prop}(hu:A.units+1 < cLine)(I:Inv X pins σ H s)(g:DGet H a y o)(ry:RelV y u)(h:∀ w' s',Inv X pins σ H s'→RelV (o.getD .non) w'→Q w' s') :
  wpAny (model X.prog X.w) A (call (.builtin "dict.get") [.ref a,u]) Q E s:=by
 rcases g with ⟨kvs,k,e,ey,l⟩ | ⟨kvs,k,b,e,ey,eb,l⟩
 ·subst ey
  obtain ⟨z,hd,vs,rel,dd⟩:=dk_rd I.hok e
  refine call_meetsIn PySem.F.slot_dict_get dd.typeIs PySem.F.entry_dict_get (PySem.F.args_dict_get_2 _ _) (meets_dict_get (mixKind X.prog X.w) a (kV_is ry) hd) ⟨_,dd.mapOf,h _ _ (I.tok _) ?_⟩
  rw [l]
  exact (rel.val k).getD rfl
 ·subst ey
  cases (show u=Value.ref b from ry)
  obtain ⟨z,hd,xs,rel,dd⟩:=dt_rd I.hok e
  refine call_meetsIn PySem.F.slot_dict_get dd.typeIs PySem.F.entry_dict_get (PySem.F.args_dict_get_2 _ _) (meetsH_dict_get (tupleKind (mixKind X.prog X.w)) a b hd) ⟨tupleKind_room_in1 hu,k,xs,zh1 I.hok eb,dd,h _ _ (I.tok _) ?_⟩
  rw [l]
  exact (rel.val k).getD rfl
end
noncomputable def tDGet1 (td ty:TE):TE:=fun σ H Q=>td σ H fun x H1=>∃ a,x = .ref a∧IsD H1 a∧ty σ H1 fun y H2=>∃ o,DGet H2 a y o∧Q (o.getD .non) H2
section
variable {X:Cx} {o e f:Expr} {apos cpos:Pos} {td ty tx:TE}
theorem pe_dget1 (hu:X.A.units+1 < cLine)(ho:PE X o td)(he:PE X e ty)(m:M1 X o "get" apos e cpos):PE X (.Call (.Attribute o "get" apos) [e] [] cpos) (tDGet1 td ty):=by
 intro pins s σ H Q I h
 refine wpAny_Call_method m.base m.few m.line PySem.F.plainAttrs_dict PySem.F.slot_dict_get PySem.F.type_dict_get (thn (ho pins s σ H _ I h) fun u s1 zq77=>?_)
 obtain ⟨x,H1,I1,rx,a,ex,d,q1⟩:=zq77
 subst ex
 obtain rfl:u=Value.ref a:=rx
 obtain ⟨t1,t2,_⟩:=isD_at I1 d
 refine ⟨t1,t2,?_⟩
 rw [m.trees]
 refine Calls.callWith_builtin rfl (Calls.evalArgs_plain (Calls.spliced_cons (thn (he pins s1 σ H1 _ I1 q1) fun iv s2 ⟨y,H2,I2,ry,ov,g,q2⟩=>Calls.spliced_nil ?_)))
 exact d_get1 hu I2 g ry fun w' s3 I3 rw'=>⟨_,H2,I3,rw',q2⟩
end
section
variable {X:Cx} {pins:List (Addr × Obj)} {σ:St} {H:Hp} {s:Shared} {a:Addr} {kvs:List (Key × V)} {A:Around} {E:Value→Shared→Prop}
end
section
variable {X:Cx} {pins:List (Addr × Obj)} {σ:St} {H:Hp} {s:Shared} {a:Addr} {y:V} {u:Value} {A:Around} {E:Value→Shared→Prop}
end
end L2
namespace Att
open PySem PySem.W PySem.Calls PyProof.Rows
theorem zee {P:Params}{h:Heap}:∀ (ns:List Int) (vs:List Value),WellAll P h vs (ns.map WData.int)→IntsAre vs ns:=by
 intro ns
 induction ns with
 | nil =>
  intro vs w
  rw [List.map_nil] at w
  cases w
  exact .nil
 | cons n ns ih =>
  intro vs w
  rw [List.map_cons] at w
  cases w with
  | cons a b =>
   cases a
   exact .cons _ _ (ih _ b)
theorem script_of {l:OpenLaw}{n:Nat}(hn:l.most=some n){P:Params}{h:Heap}{args:List WData}{vals:List Value}
  (hpre:l.row.toRowW.claim.pre args=true) (hwl:WellAll P h vals args) :
  ∃ a vs ns,vals=[Value.ref a]∧args=[WData.list (ns.map WData.int)]∧h.get? a=some { cls:=.type "list",data:=.seq vs.toArray }∧IntsAre vs ns∧ns.length≤n:=by
 have hsh:WShape.hasAll [] args [.list .int]=true:=(pre_splitW hpre).1
 have hc:l.pre.holds [] { args:=args }=true:=(pre_splitW hpre).2
 obtain ⟨d,r,rfl,h1,h2⟩:=hasAllW_cons hsh
 obtain rfl:=hasAllW_nil h2
 obtain ⟨xs,rfl,h3⟩:=hasW_list h1
 obtain ⟨ns,rfl⟩:=items_int h3
 have hlen:ns.length≤n:=by
  unfold OpenLaw.pre at hc
  have h4:(WTm.not (.lt (.lit (.int (n:Int))) (.len (.arg 0)))).holds [] { args:=[.list (ns.map .int)] }=true:=by
   have h4:=(holds_andW hc).1
   rw [hn] at h4
   exact h4
  have h5:=condW_of h4 (w_not (w_lt w_lit (w_len_list (w_arg rfl))))
  rw [List.length_map] at h5
  refine Nat.le_of_not_lt fun q=>?_
  have q':(n:Int) < ((ns.length:Nat):Int):=by omega
  first
   | (rw [decide_eq_true q'] at h5;exact absurd h5 (by decide))
   | (simp at h5;omega)
 cases hwl with
 | cons w1 w2 =>
  cases w2
  cases w1 with
  | list ho hall=>exact ⟨_,_,ns,rfl,rfl,ho,zee ns _ hall,hlen⟩
theorem post_true (l:OpenLaw)(args:List WData):l.row.toRowW.claim.post args (.bool true) args=true :=
 postW_of (r:=l.row.toRowW) (X:=(true == true))
  (show WShape.has [] (.bool true) .bool=true by first | rfl | decide | simp [WShape.has,WShape.arms,WShape.armsAll])
  (show (WTm.eq .res (.lit (.bool true))).value [] { args:=args,res:=some (.bool true),after:=args }=some (.bool (true == true)) from w_eq_bool (w_res rfl) w_lit) rfl
theorem attach_call {l:OpenLaw}{n:Nat}{q:Program}{loose:List Str}{XP:(Str→Option Value)→Heap→Prop}{YP:World→Heap→Prop}{d:DefRec}
  (hn:l.most=some n) (hdf:d.params.defaults=[])
  (call:∀ (w:World) (s₀ s₁:Shared) (mg mb:Str→Option Value) (fa:Addr) (o:Obj) (pm cd doc:Value) (a:Addr) (vs:List Value) (ns:List Int),
   Ground q loose [] XP w s₀ mg mb s₁.heap→YP w s₁.heap →
   s₁.heap.get? fa=some o→o.data = .func (docDef d.name d.params d.body d.scope pm cd doc)→s₁.heap.CodeRec cd d.name→mg d.name=some (.ref fa) →
   s₁.heap.get? a=some { cls:=.type "list",data:=.seq vs.toArray }→IntsAre vs ns→ns.length≤n→s₁.gens=#[] →
   codeAny (model l.prog w) callerA (.call (.ref fa) ⟨[.ref a],[]⟩) (fun r s'=>r = .ok (.ret (.bool true))∧OldK s₁.heap s'.heap∧s'.os=s₁.os∧AllBare s'.gens) s₁) :
  WalkO q loose XP YP l.row.toRowW d [] (fun f vs=>PySem.call f vs):=by
 intro w s₀ s₁ mg mb G Y fa o pm cd doc dV kV ho hd hcd hD hmg hg args vals as hpre hlay hrd hwl hlo
 obtain rfl:dV = .none:=Dflts.none hD hdf
 obtain rfl:kV = .none:=Dflts.noKw hD
 obtain ⟨a,vs,ns,rfl,rfl,hobj,hints,hlen⟩:=script_of hn hpre hwl
 refine enter_call (codeAny_mono (call w s₀ s₁ mg mb fa o pm cd doc a vs ns G Y ho (fd_plain hd) hcd hmg hobj hints hlen hg) fun r s' hq=>?_)
 obtain ⟨rfl,h2,h3,h4⟩:=hq
 exact ⟨.inl ⟨.bool true,.bool true,[],rfl,fun _=>rfl,.bool true,post_true l _,fun _=>⟨List.Pairwise.nil,fun _ hm=>(nomatch hm)⟩⟩,h2,h3,h4⟩
section
variable {prog:Program} {w:World} {A:Around} {E:Value→Shared→Prop} {s:Shared} {K:Frag}
end
end Att
namespace L2
open PySem PySem.Spec PyProof.Rows
theorem zgm:∀ {vs:List Value} {ns:List Int},IntsAre vs ns→Vals (ns.map V.int) vs
 | _,_,.nil=>.nil
 | _,_,.cons n t h=>.cons ⟨t,rfl⟩ (zgm h)
noncomputable def Only (H:Hp):Prop:=∀ b,H b=none ∨ ∃ o xs,H b=some (.frz o (.lst xs))
theorem law_call {P:Program}{w:World}{K:PySem.W.Frag}{mg mb:Str→Option Value}{CX:CXT}{k:Nat}{fa a:Addr}{fd:FuncData}{x:Str}{sp:Sp}{s₁:Shared}{vs:List Value}{ns:List Int}
  (KX:K.In s₁.heap) (hns:s₁.heap.Ns mainGlobals mg) (hb:s₁.heap.Ns builtinsNs mb) (hbb:∀ x:Str,x ≠ "__name__"→mb x=bootBuiltins x) (hlim:s₁.heap.NoLimit) (hg:s₁.gens=#[])
  (ha:s₁.heap.get? a=some { cls:=.type "list",data:=.seq vs.toArray }) (hi:IntsAre vs ns) (hl:ns.length≤sizeLine) (hr:Room k callerA)
  (F:∀ base:Heap,K.In base→base.Ns mainGlobals mg→FnOk P w K mg base CX k fa fd [x] sp) (hbind:∀ (s:Shared) (u:Value),BindsTo s fd ⟨[u],[]⟩ [(x,u)])
  (hsp:∀ H:Hp,Only H→SqL K H a (ns.map V.int)→sp [.ref a] H (fun v _=>v = .bl true) fun _ _ _=>False)
  (hCX:∀ H e s',CX [] H s₁ (fun _ _ _=>False) e s'→False) :
  codeAny (model P w) callerA (.call (.ref fa) ⟨[.ref a],[]⟩) (fun r s'=>r = .ok (.ret (.bool true))∧OldK s₁.heap s'.heap∧s'.os=s₁.os∧AllBare s'.gens) s₁:=by
 have rv:=zgm hi
 have lenV:=hi.length
 -- from an abstract heap in which nothing but the script may be tracked
 have core:∀ H:Hp,Only H→SqL K H a (ns.map V.int)→HOk P w H s₁.heap→(∀ b,H b≠none→b=a)→(H a≠none→K.lookup a=none) →
   codeAny (model P w) callerA (.call (.ref fa) ⟨[.ref a],[]⟩) (fun r s'=>r = .ok (.ret (.bool true))∧OldK s₁.heap s'.heap∧s'.os=s₁.os∧AllBare s'.gens) s₁:=by
  intro H hO hS hok hA hK
  have base_of:∀ {b:Addr} {o:Obj},s₁.heap.get? b=some o→H b=none→(hidT s₁.heap H).get? b=some o:=fun e n=>hidT_get e n
  have noA:∀ {b:Addr} {o:Obj} {es:Array DictEntry} {ep:Nat},s₁.heap.get? b=some o→o.data = .dict es ep→H b=none:=fun {b o es ep} e d=>by
   cases q:H b with
   | none=>rfl
   | some u =>
    have e':b=a:=hA b (by rw [q];simp)
    subst e'
    rw [ha] at e;cases e
    have d':Data.seq vs.toArray _=Data.dict es ep:=d
    cases d'
  have nsK:∀ {b:Addr} {m:Str→Option Value},s₁.heap.Ns b m→(hidT s₁.heap H).Ns b m:=fun {b m} ⟨o,es,ep,e,d,r⟩=>⟨o,es,ep,base_of e (noA e d),d,r⟩
  have hKb:K.In (hidT s₁.heap H):=fun b o e=>base_of (KX b o e) (by
   cases q:H b with
   | none=>rfl
   | some u =>
    have e':b=a:=hA b (by rw [q];simp)
    subst e'
    rw [hK (by rw [q];simp)] at e;cases e)
  have hM:Mod K mg (hidT s₁.heap H):=⟨hKb,nsK hns,⟨mb,nsK hb,hbb⟩,let ⟨mc,h1,h2⟩:=hlim;⟨mc,nsK h1,h2⟩⟩
  have e0:Env0 P w K mg (hidT s₁.heap H) callerA [] s₁ H:=⟨rfl,hM,fun b o e=>of_hidT e,Nat.le_of_eq (zjh _ _),trivial,fun b hb=>absurd (show b∈([]:List Addr) from hb) (by simp),hok,.of_eq hg⟩
  refine codeAny_mono ((F _ hKb (nsK hns)).run callerA [] s₁ H ⟨[.ref a],[]⟩ [.ref a] [.ref a] _ _ hr e0 (hbind s₁ (.ref a)) (.cons rfl .nil) (hsp H hO hS)) fun r s' h=>?_
  cases r with
  | error e=>exact (hCX H e s' h).elim
  | ok fl =>
   cases fl with
   | next=>exact False.elim h
   | brk=>exact False.elim h
   | cont=>exact False.elim h
   | ret u =>
    obtain ⟨v,H',os,bare,un,hok',r',q⟩:=h
    have q':v = .bl true:=q
    subst q'
    obtain rfl:u=Value.bool true:=r'
    refine ⟨rfl,OldK.of_keep fun b o e=>?_,os,bare⟩
    cases q:H b with
    | none=>exact un.keep b o e q (by intro z;exact absurd (show b∈([]:List Addr) from z) (by simp)) (by simp)
    | some u =>
     rcases hO b with z | ⟨ob,xs,z⟩
     ·rw [q] at z;cases z
     ·have z2:=un.frzs b ob _ z
      obtain ⟨e1,_⟩:=hok b _ z
      obtain ⟨e2,_⟩:=hok' b _ z2
      rw [e] at e1;cases e1
      exact e2
 cases hk:K.lookup a with
 | some o =>
  -- the script is one of the module's own objects
  have e:=KX a o hk
  rw [ha] at e
  cases e
  refine core (fun _=>none) (fun _=>.inl rfl) (.inr ⟨_,vs.toArray,_,hk,rfl,rfl,rfl,by rw [List.size_toArray,lenV];exact hl,by simpa using rv⟩) (fun b u z=>by have z':(none:Option HO)=some u:=z;cases z') (fun b z=>absurd rfl z) fun z=>absurd rfl z
 | none =>
  refine core (fun b=>if b=a then some (.frz { cls:=.type "list",data:=.seq vs.toArray } (.lst (ns.map V.int))) else none) (fun b=>?_) (.inl (.inr ⟨{ cls:=.type "list",data:=.seq vs.toArray },if_pos rfl⟩)) (fun b u z=>?_) (fun b z=>?_) fun _=>hk
  ·by_cases hb:b=a
   ·exact .inr ⟨_,_,if_pos hb⟩
   ·exact .inl (if_neg hb)
  ·by_cases hb:b=a
   ·have z':=(if_pos hb).symm.trans z
    cases z'
    subst hb
    exact ⟨ha,by rw [List.length_map];exact hl,vs,_,rv,ha⟩
   ·have z':=(if_neg hb).symm.trans z
    cases z'
  ·by_cases hb:b=a
   ·exact hb
   ·exact absurd (if_neg hb) z
end L2
namespace L2
open PySem PySem.Spec PyProof.Rows
theorem walk_of {l:PySem.W.OpenLaw}{n k:Nat}{q:Program}{loose:List Str}{XP:(Str→Option Value)→Heap→Prop}{YP:World→Heap→Prop}{d:DefRec}{K:Params→PySem.W.Frag}{CX:World→CXT}{sp:World→Sp}{x:Str}
  (hn:l.most=some n) (hn2:n≤sizeLine) (hdf:d.params.defaults=[]) (hr:Room k callerA)
  (hY:∀ (w:World) (h:Heap),YP w h→(K w.params).In h)
  (F:∀ (w:World) (mg:Str→Option Value) (fa:Addr) (h:Heap),(K w.params).In h→h.Ns mainGlobals mg→mg d.name=some (.ref fa) →
   ∃ fd:FuncData,(∀ (s:Shared) (u:Value),BindsTo s fd ⟨[u],[]⟩ [(x,u)]) ∧
    ∀ base:Heap,(K w.params).In base→base.Ns mainGlobals mg→FnOk l.prog w (K w.params) mg base (CX w) k fa fd [x] (sp w))
  (hsp:∀ (w:World) (H:Hp) (a:Addr) (ns:List Int),ns.length≤n→Only H→SqL (K w.params) H a (ns.map V.int)→sp w [.ref a] H (fun v _=>v = .bl true) fun _ _ _=>False)
  (hCX:∀ (w:World) (H:Hp) (s:Shared) (e:Value) (s':Shared),CX w [] H s (fun _ _ _=>False) e s'→False) :
  PySem.W.WalkO q loose XP YP l.row.toRowW d [] (fun f vs=>PySem.call f vs):=by
 refine Att.attach_call hn hdf fun w s₀ s₁ mg mb fa o pm cd doc a vs ns G Y ho hd hcd hmg hobj hints hlen hg=>?_
 have KX:=hY w _ Y
 obtain ⟨fd,hb,hF⟩:=F w mg fa _ KX G.T.g hmg
 exact law_call KX G.T.g G.T.b G.T.builtins G.T.nolimit hg hobj hints (Nat.le_trans hlen hn2) hr hF hb (fun H hO hS=>hsp w H a ns hlen hO hS) fun H e s'=>hCX w H s₁ e s'
end L2
/- THE LAST THEOREM (shape;LID,My.* are yours):
  My.Adr: a structure of the addresses that your layer names (classes,functions);My.Txt K t: a structure (Prop) of the equations over K;
  My.txt_mk:{K} {implicit addresses ..} (e1:nsIn K mainGlobals "law" = some (some (.ref f))) (e2:K.lookup f=some ⟨oc,od,.func (fnOf "law" "law" params body scope dV kV doc pm an cdv ct),sl⟩) (e3:codeIn K cdv "law" = true) ..:∃ t,My.Txt K t
set_option maxRecDepth 100000 in
set_option maxHeartbeats 0 in
theorem PySem.Challenge.cw_LID_holds : PySem.Challenge.rw_LID.Holds := by
 w_on;o_law;k_head;(case hw=>w_witness2)
 k_fill
 refine L2.walk_of (l:=PySem.Challenge.rw_LID) (n:=63) (k:=40) (x:="script") (CX:=fun w=>..) (sp:=fun _=>My.sp_law) rfl (by decide) rfl ⟨rfl,by decide,by decide⟩ (fun w h Y=>PySem.W.kIn_of Y) ?F ?S ?C
 case F =>
  intro w mg fa h KX G hmg
  have T:∃ t,My.Txt (L2.KOf KX) t:=by
   dsimp only [L2.KOf]                          -- K must stand as «<heap const> w.params» for k_is
   refine' My.txt_mk ?e1 ?e2 ?e3 ..
   (case e1=>PySem.W.k_is)                    -- in the order: a name -> its address -> its object -> its parts
   (case e2=>PySem.W.k_is)
   ..
  obtain ⟨t,T⟩:=T
  have e0:=hmg.symm.trans (PySem.W.mg_of KX G T.law)
  cases e0                                       -- fa is the law's own address
  exact ⟨_,fun s u=>.of_eq rfl,fun base kb nb=>My.law_fn T kb nb⟩     -- if «.of_eq rfl» comes too early: refine' ⟨_,?b,fun base kb nb=>My.law_fn T kb nb⟩;exact fun s u=>.of_eq rfl
 case S=>exact fun w H a ns hl hO hS=>..
 case C=>exact ..
(the tactic k_is has no namespace: write k_is) -/
namespace L2
open PySem PySem.Spec PyProof.Rows
noncomputable def defArgs (s:Stmt):Arguments:=match s with
 | .FunctionDef _ a _ _ _ _ _ _ _ _=>a
 | _=>{ posonlyargs:=[],args:=[],vararg:=none,kwonlyargs:=[],kw_defaults:=[],kwarg:=none,defaults:=[] }
noncomputable def defBody (s:Stmt):List Stmt:=match s with
 | .FunctionDef _ _ b _ _ _ _ _ _ _=>b
 | _=>[]
noncomputable def defScope (s:Stmt):Scope:=match s with
 | .FunctionDef _ _ _ _ _ _ sc _ _ _=>sc
 | _=>{ kind:=.function,names:=[],isGenerator:=false,isCoroutine:=false }
noncomputable abbrev CX0:CXT:=fun _ _ _ _ _ _=>False
noncomputable abbrev E0:XK:=fun _ _ _=>False
theorem pass0 {X:Cx}:Passes CX0 X E0:=fun _ _ _ _ _ _ _ h=>h.elim
structure Fun (K:PySem.W.Frag) (x qual:Str) (st:Stmt) (f:Addr) (fd:FuncData):Prop where
 ex:∃ (oc:Value) (od:Option Addr) (kV doc pm:Value) (an:Option Addr) (cdv ct:Value) (osl:Array (Option Value)),
  fd=PySem.W.fnOf x qual (defArgs st) (defBody st) (defScope st) .none kV doc pm an cdv ct∧K.lookup f=some ⟨oc,od,.func fd,osl⟩∧PySem.W.codeIn K cdv qual=true
 kp:PySem.W.keepIn K (.ref f)=true
section
variable {P:Program} {w:World} {K:PySem.W.Frag} {mg:Str→Option Value} {base:Heap}
theorem Fun.ok {x qual:Str}{st:Stmt}{f:Addr}{fd:FuncData}{N ps:List Str}{k:Nat}{sp:Sp}(F:Fun K x qual st f fd)(S:FnScope N ps (defScope st))(len:∀ vs H Q E,sp vs H Q E→vs.length=ps.length)
  (hbody:∀ (cdv:Value) (A:Around) (outer:List Env) (s:Shared) (H:Hp) (vs:List V) (Q:VK) (E:XK),Room k (A.deeper (envOfC qual (defScope st) s.heap.objs.size f cdv))→sp vs H Q E →
   ∃ t,PSs (cxOf CX0 P w K mg base N qual (defScope st) f cdv A outer s H E).nox (defBody st) t∧t { nx:=fun _ H'=>Q .non H',rt:=Q } (start N vs) H):FnOk P w K mg base CX0 (k+1) f fd ps sp:=by
 obtain ⟨oc,od,kV,doc,pm,an,cdv,ct,osl,rfl,lk,hcd⟩:=F.ex
 refine fn_of lk hcd S len fun A outer s H vs Q E hr hsp=>?_
 obtain ⟨t,h,q⟩:=hbody cdv A outer s H vs Q E hr hsp
 exact ⟨t,h.nox,q⟩
theorem Fun.binds {x qual:Str}{st:Stmt}{f:Addr}{fd:FuncData}{ps:List Str}(F:Fun K x qual st f fd)
  (h:∀ (kV doc pm:Value) (an:Option Addr) (cdv ct:Value) (us:List Value),us.length=ps.length→bindArgs (PySem.W.fnOf x qual (defArgs st) (defBody st) (defScope st) .none kV doc pm an cdv ct) ⟨us,[]⟩=pure (ps.zip us)):Binds K fd ps []:=by
 obtain ⟨oc,od,kV,doc,pm,an,cdv,ct,osl,rfl,lk,hcd⟩:=F.ex
 exact .all (h kV doc pm an cdv ct)
theorem fun_mk {x qual:Str}{st:Stmt}{f:Addr}{oc:Value}{od an:Option Addr}{osl:Array (Option Value)}{kV doc pm cdv ct:Value}(l:K.lookup f=some ⟨oc,od,.func (PySem.W.fnOf x qual (defArgs st) (defBody st) (defScope st) .none kV doc pm an cdv ct),osl⟩)
  (c:PySem.W.codeIn K cdv qual=true) (k:PySem.W.keepIn K (.ref f)=true):Fun K x qual st f (PySem.W.fnOf x qual (defArgs st) (defBody st) (defScope st) .none kV doc pm an cdv ct):=⟨⟨oc,od,kV,doc,pm,an,cdv,ct,osl,rfl,l,c⟩,k⟩
end
theorem hu_of {A:Around}{k:Nat}(hr:Room k A):A.units+1 < cLine:=Nat.lt_of_le_of_lt (Nat.add_le_add_left (by decide:1≤64) _) hr.units
section
variable {X:Cx}
theorem pv (i:Nat){x:Str}{pos:Pos}(hN:X.N[i]? = some x:=by rfl)(hv:Vis X.env.scope x:=by first | exact Or.inl rfl | exact Or.inr (Or.inl rfl) | exact Or.inr (Or.inr rfl))(hd:(x == ("__debug__":Str))=false:=by decide)
  (hcd:(x == ("__classdict__":Str))=false:=by decide):PE X (.Name x pos) (tVar i):=pe_var hN hv hd hcd
end
theorem iteF {A B:Prop}(h:B):if false=true then A else B:=by
 rw [if_neg Bool.false_ne_true]
 exact h
theorem iteT {A B:Prop}(h:A):if true=true then A else B:=by
 rw [if_pos rfl]
 exact h
theorem ite2 {c A B:Prop}[Decidable c](h1:c→A)(h2:¬ c→B):if c then A else B:=by
 by_cases h:c
 ·rw [if_pos h]
  exact h1 h
 ·rw [if_neg h]
  exact h2 h
noncomputable def Same (H H':Hp):Prop:=∀ b o,H b=some o→H' b=some o
theorem Same.refl (H:Hp):Same H H:=fun _ _ h=>h
theorem Same.trans {H H1 H2:Hp}(a:Same H H1)(b:Same H1 H2):Same H H2:=fun c o h=>b c o (a c o h)
theorem Same.free {H H':Hp}(e:Same H H'){l:Addr}(h:H' l=Option.none):H l=Option.none:=by
 cases q:H l with
 | none=>rfl
 | some o =>
  rw [e l o q] at h
  cases h
theorem Same.seq {K:PySem.W.Frag}{H H':Hp}{a:Addr}{xs:List V}(e:Same H H')(h:SqL K H a xs):SqL K H' a xs:=by
 rcases h with (h | ⟨o,h⟩) | h
 ·exact .inl (.inl (e _ _ h))
 ·exact .inl (.inr ⟨o,e _ _ h⟩)
 ·exact .inr h
section
variable {κ:Type} [DecidableEq κ]
end
end L2
namespace L2
open PySem PySem.Spec PyProof.Rows
noncomputable def clOf (cells:List (Str × Addr)):List (Str × NameKind)→List (Str × Addr)→List (Str × Addr)
 | [],acc=>acc
 | (x,k)::r,acc=>if k == NameKind.free then clOf cells r ((x,(cells.lookup x).getD 0)::acc) else clOf cells r acc
theorem zfp {cells:List (Str × Addr)}{p:Str × Addr}:∀ {names:List (Str × NameKind)} {acc:List (Str × Addr)},p∈clOf cells names acc→p∈acc ∨ ((p.1,NameKind.free)∈names∧p.2=(cells.lookup p.1).getD 0)
 | [],_,h=>.inl h
 | (x,k)::r,acc,h=>by
  unfold clOf at h
  by_cases hk:(k == NameKind.free)=true
  ·rw [if_pos hk] at h
   have ek:k=NameKind.free:=by simpa using hk
   subst ek
   rcases zfp h with h | ⟨h,e⟩
   ·rcases List.mem_cons.mp h with h | h
    ·subst h
     exact .inr ⟨List.mem_cons_self,rfl⟩
    ·exact .inl h
   ·exact .inr ⟨List.mem_cons_of_mem _ h,e⟩
  ·rw [if_neg hk] at h
   rcases zfp h with h | ⟨h,e⟩
   ·exact .inl h
   ·exact .inr ⟨List.mem_cons_of_mem _ h,e⟩
theorem zfq {cells:List (Str × Addr)}{p:Str × Addr}:∀ {names:List (Str × NameKind)} {acc:List (Str × Addr)},p∈acc→p∈clOf cells names acc
 | [],_,h=>h
 | (x,k)::r,acc,h=>by
  unfold clOf
  split
  ·exact zfq (List.mem_cons_of_mem _ h)
  ·exact zfq h
theorem zfr {cells:List (Str × Addr)}{x:Str}:∀ {names:List (Str × NameKind)} {acc:List (Str × Addr)},(x,NameKind.free)∈names→(x,(cells.lookup x).getD 0)∈clOf cells names acc
 | [],_,h=>by simp at h
 | (y,k)::r,acc,h=>by
  unfold clOf
  rcases List.mem_cons.mp h with h | h
  ·have e1:x=y:=congrArg Prod.fst h
   have e2:NameKind.free=k:=congrArg Prod.snd h
   subst e1 e2
   rw [if_pos (by simp)]
   exact zfq List.mem_cons_self
  ·split
   ·exact zfr h
   ·exact zfr h
theorem zc7 {x:Str}{c:Addr}:∀ {l:List (Str × Addr)},(x,c)∈l→∃ d,l.lookup x=some d
 | [],h=>by simp at h
 | (y,d)::r,h=>by
  rw [List.lookup_cons]
  by_cases e:(x == y)=true
  ·rw [e];exact ⟨d,rfl⟩
  ·have e':(x == y)=false:=by simpa using e
   rw [e']
   rcases List.mem_cons.mp h with h | h
   ·have:x=y:=congrArg Prod.fst h
    exact absurd (by simpa using this) e
   ·exact zc7 h
theorem zc8 {env:Env}{scope:Scope}(h:∀ y∈scope.names,y.2=NameKind.free→∃ c,env.cells.lookup y.1=some c):closureFor scope env=pure (clOf env.cells scope.names []):=by
 have all:∀ (names:List (Str × NameKind)) (acc:List (Str × Addr)),(∀ y∈names,y.2=NameKind.free→∃ c,env.cells.lookup y.1=some c) →
   (forIn names acc (fun (p:Str × NameKind) (r:List (Str × Addr))=>(if (p.2 == NameKind.free)=true then (do let a ← cellOf env p.1;pure (ForInStep.yield ((p.1,a)::r))) else pure (ForInStep.yield r):Sem (ForInStep (List (Str × Addr))))))=(pure (clOf env.cells names acc):Sem (List (Str × Addr))):=by
  intro names
  induction names with
  | nil=>intro acc _;rfl
  | cons p r ih =>
   intro acc hh
   obtain ⟨x,k⟩:=p
   have hr:∀ y∈r,y.2=NameKind.free→∃ c,env.cells.lookup y.1=some c:=fun y hy=>hh y (List.mem_cons_of_mem _ hy)
   rw [List.forIn_cons]
   unfold clOf
   by_cases hk:(k == NameKind.free)=true
   ·obtain ⟨c,hc⟩:=hh (x,k) List.mem_cons_self (by simpa using hk)
    have hc:env.cells.lookup x=some c:=hc
    have ec:cellOf env x=pure c:=by
     unfold cellOf
     rw [hc]
    simp only [hk,if_true,ec,pure_bind,hc,Option.getD_some]
    exact ih _ hr
   ·simp only [hk,if_false,pure_bind]
    exact ih _ hr
 have e:=all scope.names [] h
 unfold closureFor
 simp only [bind_pure]
 exact e
noncomputable def blkOk (scope sc:Scope)(NB own:List Str)(cap:List Nat)(N:List Str):Bool :=
 (scope.kind == .function) && (sc.kind == .function) &&
 (scope.names.all fun y=>match y.2 with
  | .cell=>false
  | .free=>sc.names.lookup y.1 == some NameKind.cell
  | .local=>scope.names.lookup y.1 == some NameKind.local
  | _=>true) &&
 (own.all fun x=>scope.names.lookup x == some NameKind.local && scope.names.all fun y=>!(y.1 == x) || y.2 == NameKind.local) &&
 (NB == own++cap.map fun i=>N.getD i "") && (cap.all fun i=>decide (i < N.length) && scope.names.lookup (N.getD i "") == some NameKind.free)
structure Blk (X:Cx) (scope:Scope) (NB own:List Str) (cap:List Nat):Prop where
 kind:scope.kind = .function
 outk:X.env.scope.kind = .function
 nocell:∀ y∈scope.names,y.2 ≠ .cell
 free:∀ y∈scope.names,y.2 = .free→X.env.kindOf y.1=some .cell
 names:∀ y∈scope.names,y.2 = .local→scope.names.lookup y.1=some .local
 owns:∀ x∈own,∀ y∈scope.names,y.1=x→y.2 = .local
 nb:NB=own++cap.map fun i=>X.N.getD i ""
 caps:∀ i∈cap,i < X.N.length∧scope.names.lookup (X.N.getD i "")=some .free
theorem zef {X:Cx}{scope sc:Scope}{NB own:List Str}{cap:List Nat}(hs:X.env.scope=sc)(h:blkOk scope sc NB own cap X.N=true):Blk X scope NB own cap:=by
 unfold blkOk at h
 simp only [Bool.and_eq_true] at h
 obtain ⟨⟨⟨⟨⟨h1,h2⟩,h3⟩,h4⟩,h5⟩,h6⟩:=h
 rw [List.all_eq_true] at h3 h4 h6
 subst hs
 refine ⟨by simpa using h1,by simpa using h2,fun y hy e=>?_,fun y hy e=>?_,fun y hy e=>?_,fun x hx y hy e=>?_,by simpa using h5,fun i hi=>?_⟩
 ·have:=h3 y hy
  rw [e] at this
  exact absurd this (by simp)
 ·have:=h3 y hy
  rw [e] at this
  show X.env.scope.names.lookup y.1=some .cell
  simpa using this
 ·have:=h3 y hy
  rw [e] at this
  simpa using this
 ·have:=h4 x hx
  simp only [Bool.and_eq_true,List.all_eq_true] at this
  have q:=this.2 y hy
  subst e
  simpa using q
 ·have:=h6 i hi
  simp only [Bool.and_eq_true] at this
  exact ⟨of_decide_eq_true this.1,by simpa using this.2⟩
noncomputable def cxB (X:Cx)(NB own:List Str)(scope:Scope)(C:Addr)(fp:List Addr)(s₀:Shared)(H₀:Hp):Cx where
 prog:=X.prog
 w:=X.w
 K:=X.K
 mg:=X.mg
 base:=X.base
 A:=X.A
 N:=NB
 s₀:=s₀
 H₀:=H₀
 env:=compEnvC scope (clOf X.env.cells scope.names []) C X.env
 outer:=X.stack
 stack:=X.stack
 ex:=fp
 fn:=fun x=>own.contains x
 calm:=X.calm
 pn:=[]
 xe:=fun _ _=>False
theorem zce {env:Env}{x:Str}{k:NameKind}(hk:k = .cell ∨ k = .free):∀ {names:List (Str × NameKind)},(∀ y∈names,y.2 ≠ .cell) →
  (names.map fun (n,k)=>if (k == NameKind.free && env.scope.kind == .function && env.kindOf n == some .cell) then (n,NameKind.cell) else (n,k)).lookup x=some k→(x,NameKind.free)∈names
 | [],_,h=>by simp at h
 | (n,q)::r,hn,h=>by
  have ih:=@zce env x k hk r fun y hy=>hn y (List.mem_cons_of_mem _ hy)
  rw [List.map_cons,List.lookup_cons] at h
  have key:(if (q == NameKind.free && env.scope.kind == .function && env.kindOf n == some .cell)=true then (n,NameKind.cell) else (n,q)).1=n:=by split <;> rfl
  by_cases e:(x == n)=true
  ·have en:x=n:=by simpa using e
   subst en
   by_cases hq:q = .free
   ·subst hq;exact List.mem_cons_self
   ·have hqf:(q == NameKind.free)=false:=by simpa using hq
    simp only [hqf,Bool.false_and,Bool.false_eq_true,if_false,beq_self_eq_true] at h
    have h':q=k:=Option.some.inj h
    rcases hk with z | z
    ·exact absurd (h'.trans z) (hn (x,q) List.mem_cons_self)
    ·exact absurd (h'.trans z) hq
  ·have e':(x == n)=false:=by simpa using e
   refine List.mem_cons_of_mem _ (ih ?_)
   have e2:(x == (if (q == NameKind.free && env.scope.kind == .function && env.kindOf n == some .cell)=true then (n,NameKind.cell) else (n,q)).1)=false:=by rw [key];exact e'
   rw [e2] at h
   exact h
theorem zeg {env:Env}{x:Str}(hk:env.scope.kind = .function)(hc:env.kindOf x=some .cell):∀ {names:List (Str × NameKind)},names.lookup x=some .free →
  (names.map fun (n,k)=>if (k == NameKind.free && env.scope.kind == .function && env.kindOf n == some .cell) then (n,NameKind.cell) else (n,k)).lookup x=some .cell
 | [],h=>by simp at h
 | (n,q)::r,h=>by
  have ih:=@zeg env x hk hc r
  rw [List.lookup_cons] at h
  rw [List.map_cons,List.lookup_cons]
  by_cases e:(x == n)=true
  ·have en:x=n:=by simpa using e
   subst en
   rw [e] at h
   have hq:q = .free:=Option.some.inj h
   subst hq
   simp [hk,hc]
  ·have e':(x == n)=false:=by simpa using e
   rw [e'] at h
   have key:(if (q == NameKind.free && env.scope.kind == .function && env.kindOf n == some .cell)=true then (n,NameKind.cell) else (n,q)).1=n:=by split <;> rfl
   have e2:(x == (if (q == NameKind.free && env.scope.kind == .function && env.kindOf n == some .cell)=true then (n,NameKind.cell) else (n,q)).1)=false:=by rw [key];exact e'
   rw [e2]
   exact ih h
noncomputable def stB (own:List Str)(cap:List Nat)(σ:St):St:=(own.map fun _=>none)++cap.map fun i=>(σ[i]?).getD none
section
variable {X:Cx} {pins:List (Addr × Obj)} {σ:St} {H:Hp} {s:Shared} {scope:Scope} {NB own:List Str} {cap:List Nat} {fp:List Addr} {C:Addr}
theorem Blk.cells (B:Blk X scope NB own cap)(ok:X.Ok){x:Str}{c:Addr}(h:(clOf X.env.cells scope.names []).lookup x=some c):X.env.cells.lookup x=some c∧(x,NameKind.free)∈scope.names:=by
 rcases zfp (PySem.mem_of_lookup h) with q | ⟨q,e⟩
 ·simp at q
 ·obtain ⟨d,hd⟩:=ok.has x (.inl (B.free (x,.free) q rfl))
  have e:c=(X.env.cells.lookup x).getD 0:=e
  rw [hd] at e
  refine ⟨?_,q⟩
  rw [hd,e];rfl
theorem Blk.cell (B:Blk X scope NB own cap)(ok:X.Ok){x:Str}(h:(x,NameKind.free)∈scope.names):∃ c,(clOf X.env.cells scope.names []).lookup x=some c:=zc7 (zfr h)
theorem Blk.start (B:Blk X scope NB own cap)(I:Inv X pins σ H s)(hf:∀ b∈fp,FpOk X pins H b)(hfs:∀ b∈fp,∃ o,s.heap.get? b=some o){h':Heap}{tk:Nat}{m:Str→Option Value}(hC:s.heap.objs.size≤C)
  (k:∀ b o,s.heap.get? b=some o→h'.get? b=some o) (hn:h'.Ns C m) :
  Inv (cxB X NB own scope C fp s H) [] (stB own cap σ) H { s with heap:=h',toks:=tk }:=by
 have hlen:NB.length=own.length+cap.length:=by rw [B.nb];simp
 have okB:(cxB X NB own scope C fp s H).Ok:=by
  refine ⟨I.ok.mod,B.kind,I.ok.glob,I.ok.blt,hC,fun x y c h1 h2=>I.ok.inj x y c (B.cells I.ok h1).1 (B.cells I.ok h2).1,fun x hx=>?_,fun x c h1 h2=>?_,I.ok.hd,I.ok.frames,.inl rfl,fun b hb=>⟨?_,fun x c h=>?_⟩,I.bs,Nat.le_trans I.ok.bsz I.sz,fun b o e hb=>?_,fun b hb z=>?_,I.stack,I.stkFree⟩
  ·have:(x,NameKind.free)∈scope.names:=by
    rcases hx with z | z
    ·exact zce (.inl rfl) B.nocell z
    ·exact zce (.inr rfl) B.nocell z
   exact B.cell I.ok this
  ·have hx:x∈own:=by simpa [cxB] using h1
   have q:=B.owns x hx _ (B.cells I.ok h2).2 rfl
   exact absurd q (by simp)
  ·obtain ⟨o,e⟩:=hfs b hb
   exact Nat.ne_of_lt (Nat.lt_of_lt_of_le (Heap.lt_size e) hC)
  ·exact (hf b hb).2.2.2.2.1 x c (B.cells I.ok h).1
  ·have hb:b∈fp:=hb
   rcases (hf b hb).2.2.2.1 with z | z
   ·exact I.ok.noex b o e z
   ·exact absurd (Nat.lt_of_lt_of_le (Heap.lt_size e) (Nat.le_trans I.ok.bsz z)) (Nat.lt_irrefl _)
  ·rcases List.mem_cons.mp (I.stkSub b z) with z | z
   ·exact (hf b hb).2.1 z
   ·exact (hf b hb).2.2.1 z
 refine ⟨okB,rfl,I.bare,Un.kept k,⟨m,hn,fun i x v e1 e2 e3=>?_⟩,fun x c h=>?_,I.hok.fresh hC,fun x c h=>I.freeC x c (B.cells I.ok h).1,fun p hp=>absurd (show p∈([]:List (Addr × Obj)) from hp) (by simp),I.hok.kept k,?_⟩
 ·have e1:NB[i]? = some x:=e1
  have hi:¬ i < own.length:=fun hi=>by
   unfold stB at e2
   rw [List.getElem?_append_left (by simpa using hi),List.getElem?_map] at e2
   cases q:own[i]? <;> rw [q] at e2 <;> cases e2
  unfold stB at e2
  rw [List.getElem?_append_right (by simpa using hi),List.getElem?_map] at e2
  rw [B.nb,List.getElem?_append_right (by omega),List.getElem?_map] at e1
  simp only [List.length_map] at e2
  cases q:cap[i - own.length]? with
  | none=>rw [q] at e1;cases e1
  | some j =>
   rw [q] at e1 e2
   have ex:X.N.getD j "" = x:=Option.some.inj e1
   have ev:(σ[j]?).getD none=some v:=Option.some.inj e2
   obtain ⟨hj,hjf⟩:=B.caps j (List.mem_of_getElem? q)
   rw [ex] at hjf
   have hN:X.N[j]? = some x:=by rw [← ex,List.getD_eq_getElem?_getD,List.getElem?_eq_getElem hj];rfl
   have hσ:σ[j]? = some (some v):=by
    cases z:σ[j]? with
    | none=>rw [z] at ev;cases ev
    | some u=>rw [z] at ev;exact congrArg some ev
   have hmem:(x,NameKind.free)∈scope.names:=PySem.mem_of_lookup hjf
   have hkc:=B.free _ hmem rfl
   obtain ⟨m0,hn0,hl⟩:=I.loc
   obtain ⟨u,r,l⟩:=hl j x v hN hσ (.inr (.inl hkc))
   refine ⟨u,r,.inr ⟨.inl (zeg B.outk hkc hjf),?_⟩⟩
   obtain ⟨c,hc⟩:=B.cell I.ok hmem
   refine ⟨c,hc,?_⟩
   rcases l with ⟨z,_⟩ | ⟨_,c',hc',⟨oc,hoc,hd⟩⟩
   ·rw [show X.env.kindOf x=some .cell from hkc] at z;cases z
   ·have:=(B.cells I.ok hc).1
    rw [hc'] at this
    have:c'=c:=Option.some.inj this
    subst this
    exact ⟨oc,k _ _ hoc,hd⟩
 ·obtain ⟨v,oc,hoc,hd⟩:=I.cell x c (B.cells I.ok h).1
  exact ⟨v,oc,k _ _ hoc,hd⟩
 ·show (stB own cap σ).length=NB.length
  unfold stB
  rw [hlen];simp
theorem Blk.done (B:Blk X scope NB own cap)(I:Inv X pins σ H s)(hf:∀ b∈fp,FpOk X pins H b){σB:St}{H':Hp}{s':Shared}{h'':Heap}{D:Addr}{ys:List V}{its:List Value}{n:Nat}(hC:s.heap.objs.size≤C)(hD:s.heap.objs.size≤D)(hDC:D≠C)
  (J:Inv (cxB X NB own scope C fp s H) [] σB H' s') (hn:H' D=none) (e:s'.heap.get? D=some { cls:=.type "list",data:=.seq its.toArray n }) (hv:Vals ys its) (hz:ys.length≤sizeLine)
  (sb:Heap.SameBut C s'.heap h''):Inv X pins σ (upd H' D (.lst ys)) { s' with heap:=h'' }:=by
 have un:Un (frs X.stack) fp H H' s.heap s'.heap:=J.base
 have neC:∀ {b o},s.heap.get? b=some o→b≠C:=fun q=>Nat.ne_of_lt (Nat.lt_of_lt_of_le (Heap.lt_size q) hC)
 have neD:∀ {b o},s.heap.get? b=some o→b≠D:=fun q=>Nat.ne_of_lt (Nat.lt_of_lt_of_le (Heap.lt_size q) hD)
 have hCn:H' C=none:=J.free
 refine I.call' (s':={ s' with heap:=h'' }) (ch:=fp) J.os ⟨fun b o q n hb hx=>?_,fun b o q n hb hx=>?_,fun b o q n hx=>?_,fun b o q hx=>?_,fun b xs q=>?_,fun b o u q=>?_,fun b ps q=>?_⟩ (fun b u q=>?_) J.bare fun b hb=>?_
 ·exact (sb.2 b (neC q)).trans (un.keep b o q n hb hx)
 ·obtain ⟨sl,r⟩:=un.slot b o q n hb hx
  exact ⟨sl,(sb.2 b (neC q)).trans r⟩
 ·rw [zai (neD q)]
  exact un.free b o q n hx
 ·obtain ⟨o',r⟩:=un.there b o q hx
  exact ⟨o',(sb.2 b (neC q)).trans r⟩
 ·have r:=un.tups b xs q
  rw [zai (zah r hn)]
  exact r
 ·have r:=un.frzs b o u q
  rw [zai (zah r hn)]
  exact r
 ·obtain ⟨more,r⟩:=un.tbls b ps q
  exact ⟨more,by rw [zai (zah r hn)];exact r⟩
 ·by_cases hb:b=D
  ·subst hb
   rw [zac] at q
   cases q
   exact ⟨hz,its,n,hv,(sb.2 b hDC).trans e⟩
  ·rw [zai hb] at q
   refine (J.hok b u q).stay (fun c v hc r=>(sb.2 c ?_).trans r) (fun c r=>?_) fun c xs r=>?_
   ·rcases hc with z | z
    ·rw [z];exact zah q hCn
    ·exact zah z hCn
   ·rw [zai (zah r hn)];exact r
   ·rw [zai (zah r hn)];exact r
 ·obtain ⟨_,f1,_,f3,f4,f5⟩:=hf b hb
  exact ⟨f3,f1,f4,f5⟩
end
noncomputable def PIf (X:Cx)(ifs:List Expr)(t:TT):Prop :=
 ∀ (pins:List (Addr × Obj)) (s:Shared) (σ:St) (H:Hp) (Q:Bool→Hp→Prop),Inv X pins σ H s→t σ H Q →
  wpAny (model X.prog X.w) X.A (forIn ifs true fun c r=>if r=true then do let ok ← isTrue c X.env (eval c X.env);pure (ForInStep.yield ok) else pure (ForInStep.yield r)) (TP X pins σ Q) X.xe s
noncomputable def tYes:TT:=fun _ H Q=>Q true H
theorem zcm {X:Cx}:PIf X [] tYes:=fun _ _ _ H _ I h=>wpAny_tests_nil ⟨H,I,h⟩
theorem pifs_one {X:Cx}{c:Expr}{t:TT}(h:PT X c t):PIf X [c] t:=fun pins s σ H Q I q=>wpAny_tests_one (h pins s σ H Q I q)
section
variable {prog:Program} {w:World} {A:Around} {R:Result→Shared→Prop} {s:Shared}
noncomputable abbrev noE:Value→Shared→Prop:=fun _ _=>False
theorem zgn {elt tg iter:Expr}{ifs:List Expr}{scope:Scope}{pos:Pos}{it acc:Value}{env:Env}(I:Nat→Shared→Prop)
  (turn:∀ n s,I n s→wpAny (model prog w) A (pyNext it) (fun r s₁=>match r with
   | none=>R (.ok .next) s₁
   | some v=>wpAny (model prog w) A (letOwnedTupleGo tg it v) (fun _ s₀=>wpAny (model prog w) A (assign tg env v) (fun _ s₂ =>
     wpAny (model prog w) A (forIn ifs true fun c r=>if r=true then do let ok ← isTrue c env (eval c env);pure (ForInStep.yield ok) else pure (ForInStep.yield r)) (fun ok s₃ =>
      if ok=true then wpAny (model prog w) A (eval elt env) (fun x s₄=>wpAny (model prog w) A (call (.builtin "list.append") [acc,x]) (fun _ s₅=>∃ m,m < n∧I m s₅) noE s₄) noE s₃
      else ∃ m,m < n∧I m s₃) noE s₂) noE s₀) noE s₁) noE s)
  (n:Nat) (h:I n s):codeAny (model prog w) A (.compLoop (.ListComp elt [⟨tg,iter,ifs,0⟩] scope pos) 0 it acc env) R s:=by
 refine codeAny_loop rfl I (fun n s hI=>?_) n h
 show wpAny _ A ((compTurn (.ListComp elt [⟨tg,iter,ifs,0⟩] scope pos) 0 it acc env).onRaise (fun x=>do noteFrame x env;theTreesLotGoes x)) _ _ s
 refine wpAny_noted ?_
 rw [compTurn_list]
 refine wpAny_bind (wpAny_standAt (wpAny_bind (wpAny_mono (turn n s hI) (fun r s₁ h₁=>?_) fun _ _ z=>False.elim z)))
 cases r with
 | none=>exact wpAny_pure h₁
 | some v =>
  refine wpAny_bind (wpAny_mono h₁ (fun _ s₀ h₀=>wpAny_bind (wpAny_mono h₀ (fun _ s₂ h₂=>wpAny_bind (wpAny_mono h₂ (fun ok s₃ h₃=>?_) fun _ _ z=>False.elim z)) fun _ _ z=>False.elim z)) fun _ _ z=>False.elim z)
  cases ok with
  | false=>exact wpAny_pure ⟨rfl,h₃⟩
  | true=>exact wpAny_bind (wpAny_bind (wpAny_mono h₃ (fun x s₄ h₄=>wpAny_bind (wpAny_mono h₄ (fun _ s₅ h₅=>wpAny_pure (wpAny_pure ⟨rfl,h₅⟩)) fun _ _ z=>False.elim z)) fun _ _ z=>False.elim z))
end
noncomputable def CompW (own:List Str)(cap:List Nat)(g:TG)(ti:TT)(te:TE)(Q:VK)(σ:St)(J:It)(H1:Hp):Prop:=∃ W:Nat→Nat→List V→St→Hp→Prop,(∃ m,W 0 m [] (stB own cap σ) H1)∧∀ i m ys σ H,W i m ys σ H →
 (J.stop i H∧ys.length≤sizeLine∧∀ D,H D=none→Q (.ref D) (upd H D (.lst ys))) ∨
 (J.go i H∧ys.length < sizeLine∧∀ x H',J.yld i H x H'→g x σ H' fun σ2 H2=>ti σ2 H2 fun b H3=>if b=true then te σ2 H3 fun y H4=>∃ m',m' < m∧W (i+1) m' (ys++[y]) σ2 H4 else ∃ m',m' < m∧W (i+1) m' ys σ2 H3)
noncomputable def tComp (own:List Str)(cap:List Nat)(wi:TI)(g:TG)(ti:TT)(te:TE):TE:=fun σ H Q=>wi σ H fun J H1=>CompW own cap g ti te Q σ J H1
theorem zeh {X:Cx}{elt iter tg:Expr}{ifs:List Expr}{scope:Scope}{pos:Pos}{NB own:List Str}{cap:List Nat}{wi:TI}{g:TG}{ti:TT}{te:TE}(B:Blk X scope NB own cap)(hc:X.calm=true)(hi:PI X tg iter wi)
  (hg:∀ C fp s₀ H₀,PG (cxB X NB own scope C fp s₀ H₀) tg g) (ht:∀ C fp s₀ H₀,PIf (cxB X NB own scope C fp s₀ H₀) ifs ti) (he:∀ C fp s₀ H₀,PE (cxB X NB own scope C fp s₀ H₀) elt te)
  (hs:∀ x,foldedSetIterable iter X.env x=pure x:=by intro _;rfl):PE X (.ListComp elt [⟨tg,iter,ifs,0⟩] scope pos) (tComp own cap wi g ti te):=by
 intro pins s σ H Q I0 h
 rw [eval_ListComp]
 have hclos:=zc8 (env:=X.env) (scope:=scope) fun y hy e=>I0.ok.has y.1 (.inl (B.free y hy e))
 refine wpAny_comprehension_free (use:=none) rfl hs hclos B.kind B.names (thn (hi pins s σ H _ I0 h) fun v s1 h1=>thn h1 fun itv s2 h2=>?_)
 obtain ⟨it,fp,tn,J,H2,rfl,I,T,st2,f2,W,⟨m0,w0⟩,turn⟩:=h2
 refine wpAny_newList ?_
 refine wpAny_newFunctionEnv B.nocell (by intro y hy;simp at hy) (fun h₁ hns₁ hsb₁=>?_) B.kind
 dsimp only at hns₁ hsb₁ ⊢
 generalize hP:s2.heap.push { cls:=.type "list",dict:=none,data:=.seq ([]:List Value).toArray }=P at hns₁ hsb₁ ⊢
 have hC:P.objs.size=s2.heap.objs.size+1:=by rw [← hP,Heap.size_push]
 have hDC:s2.heap.objs.size≠P.objs.size:=by rw [hC];exact Nat.ne_of_lt (Nat.lt_succ_self _)
 have hCle:s2.heap.objs.size≤P.objs.size:=by rw [hC];exact Nat.le_succ _
 have old:∀ b o,s2.heap.get? b=some o→h₁.get? b=some o:=fun b o e=>by
  refine (hsb₁.2 b ?_).trans (Heap.get?_push_of_some _ (hP ▸ Heap.get?_push_of_some _ e))
  exact Nat.ne_of_lt (Nat.lt_of_lt_of_le (Heap.lt_size e) hCle)
 have hD:h₁.get? s2.heap.objs.size=some { cls:=.type "list",data:=.seq ([]:List Value).toArray 0 }:=by
  refine (hsb₁.2 _ hDC).trans (Heap.get?_push_of_some _ ?_)
  rw [← hP]
  exact Heap.get?_push_size _ rfl
 have hfs:∀ b∈fp,∃ o,s2.heap.get? b=some o:=fun b hb=>let ⟨o,e,_⟩:=T.obj _ _ st2 b hb;⟨o,e⟩
 have st4:tn 0 h₁:=T.keep _ _ _ st2 fun b _ o e=>old b o e
 generalize htk:s2.toks+([]:List (Str × Value)).length=tk4
 have I4:=B.start (C:=P.objs.size) (tk:=tk4) I f2 hfs hCle old hns₁
 have fOk:∀ {H':Hp} {b:Addr} {ob:Obj},b∈fp→H' b=none→FpOk (cxB X NB own scope P.objs.size fp s2 H2) [(s2.heap.objs.size,ob)] H' b:=fun {H' b ob} hb hn=>by
  obtain ⟨o,e⟩:=hfs b hb
  refine ⟨hn,(I4.ok.exf b hb).1,I4.ok.exfs b hb,.inl hb,(I4.ok.exf b hb).2,fun p hp=>?_⟩
  have ep:p=(s2.heap.objs.size,ob):=List.mem_singleton.mp (show p∈[(s2.heap.objs.size,ob)] from hp)
  rw [ep]
  exact fun z=>absurd (Heap.lt_size e) (by rw [← z];exact Nat.lt_irrefl _)
 have dnf:s2.heap.objs.size∉frs X.stack:=fun z=>by
  rcases List.mem_cons.mp (I.stkSub _ z) with z | z
  ·exact absurd I.lt (by rw [← z];exact Nat.lt_irrefl _)
  ·exact I.nofs (Nat.le_refl _) z
 have I3D:∀ {σ3:St} {H3:Hp} {s3:Shared} {its:List Value} {k:Nat},Inv (cxB X NB own scope P.objs.size fp s2 H2) [] σ3 H3 s3→s3.heap.get? s2.heap.objs.size=some { cls:=.type "list",data:=.seq its.toArray k }→H3 s2.heap.objs.size=none →
   Inv (cxB X NB own scope P.objs.size fp s2 H2) [(s2.heap.objs.size,{ cls:=.type "list",data:=.seq its.toArray k })] σ3 H3 s3:=fun I3 e n=>I3.pins_of fun p hp=>by
  have ep:=List.mem_singleton.mp hp
  subst ep
  exact ⟨e,n,hDC,dnf,fun v z=>by cases z⟩
 have ndf:s2.heap.objs.size∉fp:=fun z=>by
  obtain ⟨o,e⟩:=hfs _ z
  exact absurd (Heap.lt_size e) (Nat.lt_irrefl _)
 have nCD:∀ x c,(cxB X NB own scope P.objs.size fp s2 H2).env.cells.lookup x=some c→c≠s2.heap.objs.size:=fun x c e z=>by
  obtain ⟨v,o,ho,_⟩:=I.cell x c (B.cells I.ok e).1
  rw [z] at ho
  exact absurd (Heap.lt_size ho) (Nat.lt_irrefl _)
 have loop:∀ s₃:Shared,s₃ = { s2 with heap:=h₁,toks:=tk4 }→codeAny (model X.prog X.w) X.A (.compLoop (.ListComp elt [⟨tg,iter,ifs,0⟩] scope pos) 0 (.ref it) (.ref s2.heap.objs.size) (cxB X NB own scope P.objs.size fp s2 H2).env)
   (compPost (model X.prog X.w) X.A X.xe none (EP X pins σ Q) (.ref s2.heap.objs.size) P.objs.size) s₃:=by
  rintro s₃ rfl
  refine zgn (fun n s'=>∃ i σB H' ys its k,Inv (cxB X NB own scope P.objs.size fp s2 H2) [] σB H' s'∧tn i s'.heap∧(∀ b∈fp,H' b=none)∧s'.heap.get? s2.heap.objs.size=some { cls:=.type "list",data:=.seq (its:List Value).toArray k }∧Vals ys its∧H' s2.heap.objs.size=none∧W i n ys σB H') ?_ m0
   ⟨0,stB own cap σ,H2,[],[],0,I4,st4,fun b hb=>(f2 b hb).1,hD,.nil,I.hok.fresh (Nat.le_refl _),w0⟩
  rintro n s3 ⟨i,σ3,H3,ys,its,k,I3,st3,fr3,hD3,rv,hn3,w3⟩
  rcases turn i n ys σ3 H3 w3 with ⟨stop,hz,q⟩ | ⟨go,hz,step⟩
  ·refine thn (T.done (cxB X NB own scope P.objs.size fp s2 H2) rfl rfl rfl hc i _ s3 σ3 H3 noE (I3D I3 hD3 hn3) (fun b hb=>fOk hb (fr3 b hb)) st3 stop) fun r s4 zq1=>?_
   obtain ⟨hr,I4'⟩:=zq1
   subst hr
   have hD4:s4.heap.get? s2.heap.objs.size=some { cls:=.type "list",data:=.seq (its:List Value).toArray k }:=(I4'.pin (s2.heap.objs.size,_) (List.mem_append_right _ (List.mem_singleton.mpr rfl))).1
   have I5:Inv (cxB X NB own scope P.objs.size fp s2 H2) [] σ3 H3 s4:=I4'.pins_of fun p hp=>absurd (show p∈([]:List (Addr × Obj)) from hp) (by simp)
   obtain ⟨mC,hnC,_⟩:=I5.loc
   exact ⟨mC,hnC,fun h'' sb=>⟨.ref s2.heap.objs.size,_,B.done I f2 hCle (Nat.le_refl _) hDC I5 hn3 hD4 rv hz sb,rfl,q _ hn3⟩⟩
  ·refine thn (T.item (cxB X NB own scope P.objs.size fp s2 H2) rfl rfl rfl hc i _ s3 σ3 H3 noE (I3D I3 hD3 hn3) (fun b hb=>fOk hb (fr3 b hb)) st3 go) fun r s4 zq2=>?_
   obtain ⟨u,hr,h4⟩:=zq2
   subst hr
   refine thn h4 fun _ s5 zq3=>?_
   obtain ⟨x,H5,I5,r5,y5,st5,fr5⟩:=zq3
   have I5':=I5.pinned (fun b hb=>fOk hb (fr5 b hb)) (T.obj _ _ st5)
   refine thn (hg _ fp s2 H2 _ s5 σ3 H5 x u _ I5' r5 (step x H5 y5)) fun _ s6 zq4=>?_
   obtain ⟨σ6,H6,I6,q6⟩:=zq4
   refine thn (ht _ fp s2 H2 _ s6 σ6 H6 _ I6 q6) fun b s7 zq5=>?_
   obtain ⟨H7,I7,q7⟩:=zq5
   have pinned:∀ {σ8:St} {H8:Hp} {s8:Shared},Inv (cxB X NB own scope P.objs.size fp s2 H2) ([(s2.heap.objs.size,{ cls:=.type "list",data:=.seq (its:List Value).toArray k })]++pinsAt fp s5.heap) σ8 H8 s8 →
     tn (i+1) s8.heap∧(∀ b∈fp,H8 b=none)∧s8.heap.get? s2.heap.objs.size=some { cls:=.type "list",data:=.seq (its:List Value).toArray k }∧H8 s2.heap.objs.size=none:=fun {σ8 H8 s8} I8=>by
    refine ⟨T.keep _ _ _ st5 fun b hb o e=>(I8.pin (b,o) (List.mem_append_right _ (List.mem_append_right _ (zbp hb e)))).1,fun b hb=>?_,?_,?_⟩
    ·obtain ⟨o,e,d⟩:=T.obj _ _ st5 b hb
     exact (I8.pin (b,o) (List.mem_append_right _ (List.mem_append_right _ (zbp hb e)))).2.1
    ·exact (I8.pin (s2.heap.objs.size,_) (List.mem_append_right _ (List.mem_append_left _ (List.mem_singleton.mpr rfl)))).1
    ·exact (I8.pin (s2.heap.objs.size,_) (List.mem_append_right _ (List.mem_append_left _ (List.mem_singleton.mpr rfl)))).2.1
   have nopin:∀ {pp:List (Addr × Obj)} {σ8:St} {H8:Hp} {s8:Shared},Inv (cxB X NB own scope P.objs.size fp s2 H2) pp σ8 H8 s8→Inv (cxB X NB own scope P.objs.size fp s2 H2) [] σ8 H8 s8:=fun I8=>I8.pins_of fun p hp=>absurd (show p∈([]:List (Addr × Obj)) from hp) (by simp)
   cases b with
   | false =>
    rw [if_neg Bool.false_ne_true] at q7 ⊢
    obtain ⟨m',hm,w7⟩:=q7
    obtain ⟨p1,p2,p3,p4⟩:=pinned I7
    exact ⟨m',hm,i+1,σ6,H7,ys,its,k,nopin I7,p1,p2,p3,rv,p4,w7⟩
   | true =>
    rw [if_pos rfl] at q7 ⊢
    refine thn (he _ fp s2 H2 _ s7 σ6 H7 _ I7 q7) fun yv s8 zq6=>?_
    obtain ⟨y,H8,I8,r8,m',hm,w8⟩:=zq6
    obtain ⟨p1,p2,p3,p4⟩:=pinned I8
    refine call_meets F.slot_list_append ⟨_,p3,rfl⟩ F.entry_list_append (F.args_list_append_2 _ _) (PySem.list_append s2.heap.objs.size its.toArray k yv (by rw [List.size_toArray,← rv.length];omega)) ⟨p3,?_⟩
    have q:=PySem.IsL.update p3 fun a=>a.push yv
    have ea:its.toArray.push yv=(its++[yv]).toArray:=by simp
    rw [ea] at q
    have I9:Inv (cxB X NB own scope P.objs.size fp s2 H2) [] σ6 H8 { s8 with heap:=s8.heap.update s2.heap.objs.size (Obj.mapSeq fun a=>a.push yv),toks:=s8.toks } :=
     (nopin I8).turned (it:=s2.heap.objs.size) (fun b o hb e=>(Heap.get?_update_other s8.heap _ (Ne.symm hb)).trans e) p4 hDC (.inr (Nat.le_refl _)) (fun x c e=>nCD x c e) fun p hp=>absurd (show p∈([]:List (Addr × Obj)) from hp) (by simp)
    refine ⟨m',hm,i+1,σ6,H8,ys++[y],its++[yv],_,I9,?_,p2,q,rv.append (.cons r8 .nil),p4,w8⟩
    refine T.keep _ _ _ p1 fun b hb o e=>(Heap.get?_update_other s8.heap _ ?_).trans e
    intro z
    rw [z] at ndf
    exact ndf hb
 exact codeAny_compStart_list (loop _ rfl) (T.self X.A 0 _ _ _ st4 (loop _ rfl))
theorem zc0 {own:List Str}{cap:List Nat}{J:It}{g:TG}{ti:TT}{te:TE}{σ:St}{H:Hp}{Q:VK}(n:Nat)(Pv:Nat→List V→St→Hp→Prop)(h0:Pv 0 [] (stB own cap σ) H)(hz:∀ i ys σ H,i≤n→Pv i ys σ H→ys.length≤i)(hn:n≤sizeLine)
  (hgo:∀ i ys σ H,i < n→Pv i ys σ H→J.go i H) (hst:∀ ys σ H,Pv n ys σ H→J.stop n H)
  (hs:∀ i ys σ H x H' (N:List V→St→Hp→Prop),i < n→Pv i ys σ H→J.yld i H x H'→(∀ ys' σ' H'',Pv (i+1) ys' σ' H''→N ys' σ' H'')→g x σ H' fun σ2 H2=>ti σ2 H2 fun b H3=>if b=true then te σ2 H3 fun y H4=>N (ys++[y]) σ2 H4 else N ys σ2 H3)
  (hd:∀ ys σ H D,Pv n ys σ H→H D=none→Q (.ref D) (upd H D (.lst ys))) :
  CompW own cap g ti te Q σ J H:=by
 refine ⟨fun i m ys σ H=>m=n - i∧i≤n∧Pv i ys σ H,⟨n,by simp,Nat.zero_le _,h0⟩,?_⟩
 rintro i m ys σ H ⟨rfl,hi,p⟩
 have hl:=hz i ys σ H hi p
 by_cases hlt:i < n
 ·refine .inr ⟨hgo i ys σ H hlt p,by omega,fun x H' y=>?_⟩
  exact hs i ys σ H x H' (fun ys' σ' H''=>∃ m',m' < n - i∧m'=n - (i+1)∧i+1≤n∧Pv (i+1) ys' σ' H'') hlt p y fun ys' σ' H'' q=>⟨n - (i+1),by omega,rfl,hlt,q⟩
 ·have e:i=n:=by omega
  subst e
  exact .inl ⟨hst ys σ H p,by omega,fun D hD=>hd ys σ H D p hD⟩
end L2
namespace L2
open PySem PySem.Spec PyProof.Rows
noncomputable def Its (z:Str):It:=⟨fun i _=>i < z.cps.size,fun i H x H'=>H'=H∧∃ c,z.cps[i]? = some c∧x = .str ⟨#[c]⟩,fun i _=>i=z.cps.size⟩
theorem zb7 {P:Program}{w:World}{K:PySem.W.Frag}{tg:Expr}{it n:Nat}{Pv:Nat→Value→Prop}{st:Nat→Heap→Prop}{J:It}{T:String}{fl:Nat→Array Value}
  (W:∀ A:Around,A.handled=none→Walks P w A it [it] [it] n Pv st) (hst:∀ i h,st i h→∃ o,h.get? it=some o∧o.cls = .type T∧o.data = .fields (fl i))
  (hT:["enumerate","zip","dict_itemiterator","dict_reverseitemiterator","odict_iterator","itertools.zip_longest","itertools.pairwise"].contains T=false)
  (hgo:∀ i H,J.go i H→i < n) (hstop:∀ i H,J.stop i H→i=n) (hy:∀ i H u,J.go i H→Pv i u→∃ x,RelV x u∧J.yld i H x H)
  (hself:∀ (A:Around) (i:Nat) (s:Shared) (Q:Value→Shared→Prop) (E:Value→Shared→Prop),st i s.heap→Q (.ref it) s→wpAny (model P w) A (pyIter (.ref it)) Q E s):Turn P w K tg J [it] it st where
 mem:=by simp
 obj:=fun i h s b hb=>by
  have e:b=it:=by simpa using hb
  subst e
  obtain ⟨o,e,c,d⟩:=hst i h s
  exact ⟨o,e,fun v z=>by rw [d] at z;cases z⟩
 keep:=fun i h h' s k=>(W {} rfl).frame i h h' s k
 item:=by
  intro X hP hw hK hc i pins s σ H E I hf s0 hg
  subst hP hw hK
  obtain ⟨f0,f1,f2,f3,f4,f5⟩:=hf it (by simp)
  refine (W X.A (I.ok.hd hc)).item i s _ _ (hgo i H hg) s0 fun v h' tk hv st' kk=>?_
  have I1:Inv X pins σ H { s with heap:=h',toks:=tk }:=I.turned (fun b o hb e=>kk b o (by simpa using hb) e) f0 f1 f3 f4 f5
  obtain ⟨o,e,c,d⟩:=hst _ _ st'
  obtain ⟨x,rx,yx⟩:=hy i H v hg hv
  exact ⟨v,rfl,go_of (s:={ s with heap:=h',toks:=tk }) e c d hT ⟨x,H,I1,rx,yx,st',fun b hb=>(hf b hb).1⟩⟩
 done:=by
  intro X hP hw hK hc i pins s σ H E I hf s0 hg
  subst hP hw hK
  obtain ⟨f0,f1,f2,f3,f4,f5⟩:=hf it (by simp)
  have e:=hstop i H hg
  subst e
  exact (W X.A (I.ok.hd hc)).done s _ _ s0 fun h' tk kk=>⟨rfl,I.turned (fun b o hb e=>kk b o (by simpa using hb) e) f0 f1 f3 f4 f5⟩
 self:=hself
section
variable {X:Cx} {tg:Expr}
noncomputable def iStr (tl:TE):TI:=fun σ H R=>tl σ H fun x H1=>∃ z,x = .str z∧R (Its z) H1
theorem its_yld {z:Str}{i:Nat}{H:Hp}{u:Value}(h:SignAt z i u):∃ x,RelV x u∧(Its z).yld i H x H:=by
 obtain ⟨c,t,e,rfl⟩:=h
 exact ⟨.str ⟨#[c]⟩,⟨t,rfl⟩,rfl,c,e,rfl⟩
theorem pi_str {l:Expr}{tl:TE}(hl:PE X l tl):PI X tg l (iStr tl):=by
 intro pins s σ H R I h
 refine thn (hl pins s σ H _ I h) fun v s1 zq1=>?_
 obtain ⟨x,H1,I1,r1,q1⟩:=zq1
 obtain ⟨z,rfl,q⟩:=q1
 obtain ⟨t,rfl⟩:=r1
 have fp:∀ b∈[s1.heap.objs.size],FpOk X pins H1 b:=fun b hb=>by
  have e:b=s1.heap.objs.size:=by simpa using hb
  subst e
  exact I1.fpOk (Nat.le_refl _) (I1.hok.fresh (Nat.le_refl _))
 cases ha:z.cps.all (· < 128)
 ·refine wpAny_pyIter_wide ha ⟨s1.heap.objs.size,[s1.heap.objs.size],_,Its z,H1,rfl,I1.kept (t':=s1.toks) fun b o e=>Heap.get?_push_of_some _ e,
   zb7 (T:="str_iterator") (fl:=fun i=>#[.str z t,.int i 0]) (fun A hh=>Walks.strWide hh _ z t) (fun i h st=>st) (by decide) (fun i H g=>g) (fun i H g=>g) (fun i H u _ hu=>its_yld hu) (fun A i s Q E st h=>wpAny_pyIter_striter_wide st h),⟨_,Heap.get?_push_size _ rfl,rfl,rfl⟩,fp,q⟩
 ·refine wpAny_pyIter_ascii ha ⟨s1.heap.objs.size,[s1.heap.objs.size],_,Its z,H1,rfl,I1.kept (t':=s1.toks) fun b o e=>Heap.get?_push_of_some _ e,
   zb7 (T:="str_ascii_iterator") (fl:=fun i=>#[.str z t,.int i 0]) (fun A hh=>Walks.strAscii hh _ z t) (fun i h st=>st) (by decide) (fun i H g=>g) (fun i H g=>g) (fun i H u _ hu=>its_yld hu) (fun A i s Q E st h=>wpAny_pyIter_striter_ascii st h),⟨_,Heap.get?_push_size _ rfl,rfl,rfl⟩,fp,q⟩
inductive rSlS (x:V)(lo:Option Int)(hi:Option Int)(H:Hp)(Q:VK):Prop
 | mk:∀ z,(x = .str z)→(z.length≤sizeLine)→(Q (.str (Txt.slice z lo hi)) H)→rSlS x lo hi H Q
theorem za5:SlR X rSlS:=by
 intro pins s σ H x v vl vu lo hi sl Q I rx hs pl pu h
 obtain ⟨z,rfl,hz,q⟩:=h
 obtain ⟨t,rfl⟩:=rx
 have fin:∀ (lo hi:Option Int),Q (.str (Txt.slice z lo hi)) H→∀ t' k,EP X pins σ Q (.str (Txt.slice z lo hi) t') { s with toks:=k }:=fun lo hi q t' k=>⟨.str _,H,I.tok _,⟨_,rfl⟩,q⟩
 refine ⟨"str",_,F.slot_str_getitem.lookup,typeIs_str _ _ _,?_⟩
 cases pl with
 | none =>
  cases pu with
  | none=>exact wpAny_getItem_str_slice (l:=none) (u:=none) (st:=none) hs rfl (post_val_or_str ⟨Nat.le_trans (Txt.slice_le z _ _) hz,fun t' k=>fin _ _ q t' k⟩)
  | int j uj=>exact wpAny_getItem_str_slice (l:=none) (u:=some (j,uj)) (st:=none) hs rfl (post_val_or_str ⟨Nat.le_trans (Txt.slice_le z _ _) hz,fun t' k=>fin _ _ q t' k⟩)
 | int i ui =>
  cases pu with
  | none=>exact wpAny_getItem_str_slice (l:=some (i,ui)) (u:=none) (st:=none) hs rfl (post_val_or_str ⟨Nat.le_trans (Txt.slice_le z _ _) hz,fun t' k=>fin _ _ q t' k⟩)
  | int j uj=>exact wpAny_getItem_str_slice (l:=some (i,ui)) (u:=some (j,uj)) (st:=none) hs rfl (post_val_or_str ⟨Nat.le_trans (Txt.slice_le z _ _) hz,fun t' k=>fin _ _ q t' k⟩)
inductive rUpper (x:V)(vs:List V)(H:Hp)(Q:VK):Prop
 | mk:∀ z,(x = .str z)→(vs=[])→(z.length≤5592405)→(Q (.str (Txt.upper z)) H)→rUpper x vs H Q
inductive rLower (x:V)(vs:List V)(H:Hp)(Q:VK):Prop
 | mk:∀ z,(x = .str z)→(vs=[])→(z.length≤5592405)→(Q (.str (Txt.lower z)) H)→rLower x vs H Q
theorem mt_upper:MtR X "str.upper" rUpper:=by
 intro pins s σ H x vs v us Q I rx rv h
 obtain ⟨z,rfl,rfl,hz,q⟩:=h
 obtain ⟨t,rfl⟩:=rx
 cases rv
 exact SCL.upper hz fun _=>⟨.str _,H,I.tok _,⟨_,rfl⟩,q⟩
theorem mt_lower:MtR X "str.lower" rLower:=by
 intro pins s σ H x vs v us Q I rx rv h
 obtain ⟨z,rfl,rfl,hz,q⟩:=h
 obtain ⟨t,rfl⟩:=rx
 cases rv
 exact SCL.lower hz fun _=>⟨.str _,H,I.tok _,⟨_,rfl⟩,q⟩
theorem zdg:∀ {ys:List Str} {us:List Value},Vals (ys.map V.str) us→StrsAre us ys
 | [],_,r=>by
  rw [List.map_nil] at r
  cases r
  exact .nil
 | y::ys,us,r=>by
  rw [List.map_cons] at r
  cases r with
  | cons r1 r2 =>
   obtain ⟨t,e⟩:=r1
   subst e
   exact .cons y t (zdg r2)
inductive rJoin (K:PySem.W.Frag)(x:V)(vs:List V)(H:Hp)(Q:VK):Prop
 | mk:∀ z p ys,(x = .str z)→(vs=[.ref p])→(SqL K H p (ys.map V.str))→((ys.map (·.length)).sum+ys.length*z.length≤16777216)→(Q (.str (Txt.join z ys)) H)→rJoin K x vs H Q
theorem mt_join:MtR X "str.join" (rJoin X.K):=by
 intro pins s σ H x vs v us Q I rx rv h
 obtain ⟨z,p,ys,rfl,rfl,hq,hz,q⟩:=h
 obtain ⟨t,rfl⟩:=rx
 obtain ⟨u,rfl,ru⟩:=zcc rv
 cases ru
 obtain ⟨its,r,pl,_⟩:=I.list hq
 exact join_list pl.isList (by simpa using zdg r) hz fun t' k=>⟨.str _,H,I.tok _,⟨_,rfl⟩,q⟩
inductive op_mul_str_r  (x:V)(y:V)(H:Hp)(Q:VK):Prop
 | mk:∀ z n,(x = .str z)→(y = .int n)→(MulOk z n)→(Q (.str (Txt.mul z n)) H)→op_mul_str_r x y H Q
theorem zba:OpR X (binaryOp .Mult) op_mul_str_r:=by
 intro pins s σ H x y v u Q I rx ry h
 obtain ⟨z,n,rfl,rfl,hz,q⟩:=h
 obtain ⟨t,rfl⟩:=rx
 obtain ⟨t',rfl⟩:=ry
 exact SB.mul hz fun t' k=>⟨.str _,H,I.tok _,⟨_,rfl⟩,q⟩
end
theorem for_str {z:Str}{g:TG}{tb:TS}{D:Ends}{σ:St}{H:Hp}(Pv:Nat→St→Hp→Prop)(h0:Pv 0 σ H)
  (hs:∀ i c σ H,z.cps[i]? = some c→Pv i σ H→g (.str ⟨#[c]⟩) σ H fun σ2 H2=>tb { D with nx:=Pv (i+1),ct:=Pv (i+1),bk:=D.nx } σ2 H2) (hd:∀ σ H,Pv z.cps.size σ H→D.nx σ H) :
  ∃ W:Nat→Nat→St→Hp→Prop,(∃ m,W 0 m σ H)∧∀ i m σ H,W i m σ H →
   ((Its z).stop i H∧D.nx σ H) ∨ ((Its z).go i H∧∃ N:St→Hp→Prop,(∀ σ' H',N σ' H'→∃ m',m' < m∧W (i+1) m' σ' H')∧∀ x H',(Its z).yld i H x H'→g x σ H' fun σ2 H2=>tb { D with nx:=N,ct:=N,bk:=D.nx } σ2 H2):=by
 refine ⟨fun i m σ H=>m=z.cps.size - i∧i≤z.cps.size∧Pv i σ H,⟨z.cps.size,by simp,Nat.zero_le _,h0⟩,?_⟩
 rintro i m σ H ⟨rfl,hi,p⟩
 by_cases hlt:i < z.cps.size
 ·refine .inr ⟨hlt,Pv (i+1),fun σ' H' p'=>⟨z.cps.size - (i+1),by omega,rfl,hlt,p'⟩,fun x H' y=>?_⟩
  obtain ⟨e,c,hc,ex⟩:=y
  subst e ex
  exact hs i c σ _ hc p
 ·have e:i=z.cps.size:=by omega
  subst e
  exact .inl ⟨rfl,hd σ H p⟩
end L2
namespace PySem
open Sem (wp)
open Builtin Builtin.SmallTypes
namespace F
theorem lookup_str_reversed:typeLookup (.type "str") "__reversed__" = pure none:=by rw [typeLookup_type,builtinLookup_eq_fast]; kernel_rfl
theorem zfs:Slot "reversed" "__init__" "object.__init__" :=
 .of (owner:="object") (n:="__init__") (by rw [typeLookup_type,builtinLookup_eq_fast];kernel_rfl) (by decide +kernel) (by decide +kernel) (by decide +kernel)
  (by first | exact .inl (by decide +kernel) | exact .inr (by decide +kernel)) (by rw [isSubtype_type];kernel_rfl)
theorem called_rvs:TypeCalled "reversed" "reversed.__new__" "object.__init__" :=
 ⟨by decide +kernel,create_reversed,⟨_,_,mro_reversed⟩,made_reversed,plain_reversed_new,sub_reversed_self,zfs⟩
end F
set_option maxHeartbeats 1000000 in
theorem meets_rvs (x:Str)(t:Tok):Meets (Builtin.«reversed.__new__» ⟨[.type "reversed",.str x t],[]⟩) (fun _ R s=>¬ (x.length:Int)≥2 ^ 63 ∧
   ∀ tk,R (.ok (.ret (.ref s.heap.objs.size))) { s with heap:=s.heap.push { cls:=.type "reversed",data:=.fields #[.str x t,rawInt ((x.length:Int) - 1)] },toks:=tk }) :=
 .of_wp fun prog w A R s h=>by
  obtain ⟨hx,h⟩:=h
  unfold Builtin.«reversed.__new__»
  refine wpAny_bind (wpAny_of_eq (newClass_reversed _) ?_)
  try dsimp only
  refine wpAny_bind (wpAny_of_eq (a:=()) (by first | rfl | kernel_rfl) ?_)
  refine wpAny_bind (wpAny_of_eq (a:=()) (by first | rfl | kernel_rfl) ?_)
  try dsimp only
  refine wpAny_bind (wpAny_specialOf (typeIs_str s x t) F.lookup_str_reversed ?_)
  try dsimp only
  refine wpAny_bind ?_
  have hl:=F.slot_str_getitem.lookup
  have hT:=typeIs_str s x t
  have hD:isSubtype (.type "str") (.type "dict")=pure false:=by rw [isSubtype_type];kernel_rfl
  repeat (any_goals (first | assumption | refine PySem.P.len_str hx ?_ | wp_step))
  exact ⟨_,rfl,h _⟩
noncomputable def Heap.IsRvs (h:Heap)(a:Addr)(x:Str)(t:Tok)(i:Int):Prop:=∃ o,h.get? a=some o∧o.cls = .type "reversed"∧o.data = .fields #[.str x t,rawInt i]
theorem Heap.IsRvs.typeIs {s:Shared}{a:Addr}{x:Str}{t:Tok}{i:Int}(y:s.heap.IsRvs a x t i):s.TypeIs (.ref a) "reversed":=let ⟨o,ho,hc,_⟩:=y; ⟨o,ho,hc⟩
namespace F
theorem slot_rvs_next:Slot "reversed" "__next__" "reversed.__next__" :=
 .of (owner:="reversed") (n:="__next__") (by rw [typeLookup_type,builtinLookup_eq_fast];kernel_rfl) (by decide +kernel) (by decide +kernel) (by decide +kernel)
  (by first | exact .inl (by decide +kernel) | exact .inr (by decide +kernel)) (by rw [isSubtype_type];kernel_rfl)
theorem entry_rvs_next:entryFor table "reversed.__next__" = some Builtin.«reversed.__next__»:=entryFor_of_tree (by kernel_rfl)
theorem args_rvs_next (a:Value):argsOk "reversed.__next__" ⟨[a],[]⟩:=by unfold argsOk; kernel_rfl
theorem slot_rvs_iter:Slot "reversed" "__iter__" "reversed.__iter__" :=
 .of (owner:="reversed") (n:="__iter__") (by rw [typeLookup_type,builtinLookup_eq_fast];kernel_rfl) (by decide +kernel) (by decide +kernel) (by decide +kernel)
  (by first | exact .inl (by decide +kernel) | exact .inr (by decide +kernel)) (by rw [isSubtype_type];kernel_rfl)
theorem args_rvs_iter (a:Value):argsOk "reversed.__iter__" ⟨[a],[]⟩:=by unfold argsOk; kernel_rfl
theorem entry_rvs_iter:entryFor table "reversed.__iter__" = some Builtin.«dict_keyiterator.__iter__» :=
 entryFor_alias (id':="dict_keyiterator.__iter__") (by kernel_rfl) rfl (by decide +kernel) (by kernel_rfl)
end F
section
variable {prog:Program} {w:World} {A:Around} {E:Value→Shared→Prop} {s:Shared} {x:Str} {t:Tok}
theorem zgo {Q:Value→Shared→Prop}(hx:¬ (x.length:Int)≥2 ^ 63)
  (h:∀ tk,Q (.ref s.heap.objs.size) { s with heap:=s.heap.push { cls:=.type "reversed",data:=.fields #[.str x t,rawInt ((x.length:Int) - 1)] },toks:=tk }):wpAny (model prog w) A (call (.type "reversed") [.str x t]) Q E s :=
 callType_new F.called_rvs (by decide) (F.typeCall_reversed_1 _) (F.newCall_reversed_1 _) (fun obj=>F.args_object_init_2 obj _) F.entry_reversed_new (meets_rvs x t) ⟨hx,fun tk=>⟨⟨_,Heap.get?_push_size _ rfl,rfl⟩,h tk⟩⟩
theorem zft {it:Addr}{i:Int}{Q:Value→Shared→Prop}(hit:s.heap.IsRvs it x t i)(h:Q (.ref it) s):wpAny (model prog w) A (pyIter (.ref it)) Q E s:=by
 refine wpAny_pyIter_slot hit.typeIs F.slot_rvs_iter (wpAny_call_entry F.slot_rvs_iter hit.typeIs F.entry_rvs_iter ?_ (F.args_rvs_iter _))
 show wpAny _ _ (ret (.ref it)) _ _ s
 exact wpAny_pure ⟨_,rfl,"reversed",_,hit.typeIs,F.slot_rvs_next.lookup,h⟩
theorem zfu {it:Addr}{i:Nat}{c:Nat}{Q:Option Value→Shared→Prop}(hit:s.heap.IsRvs it x t (i:Int))(hx:x.cps[i]? = some c)(h63:(i:Int) < 2 ^ 63)
  (hQ:∀ h' tk u,h'.IsRvs it x t ((i:Int) - 1)→Heap.SameBut it s.heap h'→Q (some (.str ⟨#[c]⟩ u)) { s with heap:=h',toks:=tk }):wpAny (model prog w) A (pyNext (.ref it)) Q E s:=by
 obtain ⟨o,ho,hc,hd⟩:=id hit
 unfold pyNext
 refine wpAny_bind (wpAny_attempt (wpAny_callSpecial?_slot (name:=Str.ofString "__next__") hit.typeIs F.slot_rvs_next
  (wpAny_call_entry F.slot_rvs_next hit.typeIs F.entry_rvs_next ?_ (F.args_rvs_next _))))
 unfold Builtin.«reversed.__next__»
 refine wpAny_bind (wpAny_of_eq (a:=(Value.ref it,[])) rfl ?_)
 try dsimp only
 refine wpAny_bind (wpAny_field ho hd (x:=.str x t) rfl ?_)
 refine wpAny_bind (wpAny_field ho hd (x:=rawInt (i:Int)) rfl ?_)
 show wpAny _ _ (if (i:Int) < 0 then _ else _) _ _ s
 rw [if_neg (by omega)]
 refine wpAny_bind (wpAny_specialOf (typeIs_str s x t) F.slot_str_getitem.lookup ?_)
 show wpAny _ _ (if (some (Value.builtin "str.__getitem__")).isNone=true then _ else _) _ _ s
 rw [if_neg (by decide)]
 refine wpAny_bind (wpAny_mkInt ?_)
 have hlt:i < x.length:=by
  have:=Array.getElem?_eq_some_iff.mp hx
  exact this.1
 refine wpAny_bind (wpAny_attempt (PySem.P.getItem_str (c:=c) ?_ ?_ ?_))
 ·have e1:decide ((i:Int) < -(2 ^ 63:Int))=false:=decide_eq_false (by omega)
  have e2:decide ((i:Int)≥2 ^ 63)=false:=decide_eq_false (by omega)
  rw [e1,e2,Bool.or_false]
 ·rw [PySem.StrLaws.seqIndex_nonneg (by omega) (by omega)]
  simpa using hx
 try dsimp only
 refine wpAny_bind (wpAny_field ho hd (x:=rawInt (i:Int)) rfl ?_)
 show wpAny _ _ (setField (.ref it) 1 (rawInt ((i:Int) - 1)) >>= _) _ _ _
 refine wpAny_bind (wpAny_setField ho hd (by simp) ?_)
 refine wpAny_pure ⟨_,rfl,wpAny_pure (hQ _ _ _ ?_ (Heap.SameBut.update ..))⟩
 exact ⟨_,Heap.get?_update_self _ ho (Obj.isFreed_of_fields (Obj.data_mapFields hd _)),(Obj.cls_mapFields ..).trans hc,by
  rw [Obj.data_mapFields hd];simp⟩
theorem zgp {it:Addr}{Q:Option Value→Shared→Prop}(hh:A.handled=none)(hit:s.heap.IsRvs it x t (-1))
  (hQ:∀ h',(∀ b o,b≠it→s.heap.get? b=some o→h'.get? b=some o)→Q none { s with heap:=h' }):wpAny (model prog w) A (pyNext (.ref it)) Q E s:=by
 obtain ⟨o,ho,hc,hd⟩:=id hit
 unfold pyNext
 refine wpAny_bind (wpAny_attempt (wpAny_callSpecial?_slot (name:=Str.ofString "__next__") hit.typeIs F.slot_rvs_next
  (wpAny_call_entry F.slot_rvs_next hit.typeIs F.entry_rvs_next ?_ (F.args_rvs_next _))))
 unfold Builtin.«reversed.__next__»
 refine wpAny_bind (wpAny_of_eq (a:=(Value.ref it,[])) rfl ?_)
 try dsimp only
 refine wpAny_bind (wpAny_field ho hd (x:=.str x t) rfl ?_)
 refine wpAny_bind (wpAny_field ho hd (x:=rawInt (-1)) rfl ?_)
 show wpAny _ _ (if (-1:Int) < 0 then _ else _) _ _ s
 rw [if_pos (by decide)]
 refine wpAny_bind (wpAny_rule ?_)
 refine wpAny_bind ?_
 show wpAny _ _ (setField (.ref it) 1 (rawInt (-1)) >>= fun _=>setField (.ref it) 0 .none) _ _ s
 refine wpAny_bind (wpAny_setField ho hd (by simp) ?_)
 have ho2:=Heap.get?_update_self (Obj.mapFields fun a=>a.setIfInBounds 1 (rawInt (-1))) ho (Obj.isFreed_of_fields (Obj.data_mapFields hd _))
 have hd2:=Obj.data_mapFields hd fun a=>a.setIfInBounds 1 (rawInt (-1))
 refine wpAny_setField ho2 hd2 (by simp) ?_
 generalize hh2:(s.heap.update it _).update it _=h2
 have kk:∀ b o,b≠it→s.heap.get? b=some o→h2.get? b=some o:=fun b o hb e=>by
  rw [← hh2]
  exact (Heap.get?_update_other _ _ (Ne.symm hb)).trans ((Heap.get?_update_other _ _ (Ne.symm hb)).trans e)
 have hz:A.in1.handled=none:=hh
 have sub:=isSubtype_stop
 repeat (any_goals (first | assumption | wp_step))
 unfold raiseNew
 refine wpAny_bind (wpAny_handled ?_)
 rw [hz]
 refine wpAny_bind (wpAny_pure (wpAny_throw ?_))
 refine wpAny_bind (wpAny_isInstance (T:="StopIteration") (b:=true) ?_ sub (wpAny_pure (hQ _ fun b o hb e=>?_)))
 ·exact ⟨_,Heap.get?_push_size _ rfl,rfl⟩
 exact Heap.get?_push_of_some _ (Heap.get?_push_of_some _ (kk b o hb e))
theorem walks_rvs (hh:A.handled=none)(it:Addr)(x:Str)(t:Tok)(h63:(x.cps.size:Int) < 2 ^ 63) :
  Walks prog w A it [it] [it] x.cps.size (fun i v=>∃ c u,x.cps[x.cps.size - 1 - i]? = some c∧v = .str ⟨#[c]⟩ u) (fun i h=>i≤x.cps.size∧h.IsRvs it x t ((x.cps.size:Int) - 1 - (i:Int))) where
 sub:=fun _ hb=>hb
 frame:=fun _ _ _ st hk=>let ⟨l,o,ho,r⟩:=st;⟨l,o,hk it (by simp) o ho,r⟩
 item:=fun i s Q E hi y hQ=>by
  have e:(x.cps.size:Int) - 1 - (i:Int)=((x.cps.size - 1 - i:Nat):Int):=by omega
  have hit:=y.2
  rw [e] at hit
  have hx:x.cps[x.cps.size - 1 - i]? = some (x.cps[x.cps.size - 1 - i]'(by omega)):=Array.getElem?_eq_getElem (by omega)
  refine zfu hit hx (by omega) fun h' tk u hit' hs'=>?_
  have e2:((x.cps.size - 1 - i:Nat):Int) - 1=(x.cps.size:Int) - 1 - ((i+1:Nat):Int):=by omega
  rw [e2] at hit'
  exact hQ _ h' tk ⟨_,u,hx,rfl⟩ ⟨hi,hit'⟩ fun b o hb eo=>hs'.extBut b o (fun h=>hb (by simp [h])) eo
 done:=fun s Q E y hQ=>by
  have e:(x.cps.size:Int) - 1 - (x.cps.size:Int) = -1:=by omega
  have hit:=y.2
  rw [e] at hit
  exact zgp hh hit fun h' he'=>hQ h' s.toks fun b o hb eo=>he' b o (fun h=>hb (by simp [h])) eo
 self:=fun _ _ _ _ y hQ=>zft y.2 hQ
end
end PySem
namespace L2
open PySem PySem.Spec PyProof.Rows
noncomputable def Itsr (z:Str):It:=⟨fun i _=>i < z.cps.size,fun i H x H'=>H'=H∧∃ c,z.cps[z.cps.size - 1 - i]? = some c∧x = .str ⟨#[c]⟩,fun i _=>i=z.cps.size⟩
section
variable {X:Cx} {tg:Expr}
noncomputable def iStrR (ta:TA):TI:=fun σ H R=>ta σ H fun vs H1=>∃ z,vs=[.str z]∧z.length≤sizeLine∧R (Itsr z) H1
theorem pi_strR {a:Expr}{ta:TA}{p pos:Pos}(hg:Gl X "reversed")(hm:X.mg "reversed" = none)(hb:bootBuiltins "reversed" = some (.type "reversed"))(ha:PA X [a] ta)(hs:starEach [a] X.env=[(false,eval a X.env)]:=by rfl) :
  PI X tg (.Call (.Name "reversed" p) [a] [] pos) (iStrR ta):=by
 intro pins s σ H R I h
 refine Call_ (zdm I hg hm hb (PyProof.Rows.callWith_type1 (thn (ha pos pins s σ H _ I h) fun us s1 zq1=>?_) hs rfl))
 obtain ⟨vs,H1,I1,r1,q1⟩:=zq1
 obtain ⟨z,rfl,hz,q⟩:=q1
 obtain ⟨u,rfl,t,rfl⟩:=zcc r1
 have hn:=zd7
 have hsz:z.cps.size=z.length:=rfl
 refine zgo (by omega) fun tk=>?_
 have hit:Heap.IsRvs (s1.heap.push { cls:=.type "reversed",data:=.fields #[.str z t,rawInt ((z.length:Int) - 1)] }) s1.heap.objs.size z t ((z.length:Int) - 1):=⟨_,Heap.get?_push_size _ rfl,rfl,rfl⟩
 refine zft (s:={ s1 with heap:=s1.heap.push { cls:=.type "reversed",data:=.fields #[.str z t,rawInt ((z.length:Int) - 1)] },toks:=tk }) hit ?_
 refine ⟨s1.heap.objs.size,[s1.heap.objs.size],_,Itsr z,H1,rfl,I1.kept (t':=tk) fun b o e=>Heap.get?_push_of_some _ e,
  zb7 (T:="reversed") (fl:=fun i=>#[.str z t,rawInt ((z.cps.size:Int) - 1 - (i:Int))]) (fun A hh=>walks_rvs hh _ z t (by omega)) (fun i h st=>st.2) (by decide) (fun i H g=>g) (fun i H g=>g)
   (fun i H u _ ⟨c,t',e,eu⟩=>⟨.str ⟨#[c]⟩,⟨t',eu⟩,rfl,c,e,rfl⟩) (fun A i s Q E st h=>zft st.2 h),⟨Nat.zero_le _,by simpa [hsz] using hit⟩,fun b hb=>?_,q⟩
 have e:b=s1.heap.objs.size:=by simpa using hb
 subst e
 exact I1.fpOk (Nat.le_refl _) (I1.hok.fresh (Nat.le_refl _))
structure DTx (K:PySem.W.Frag) (w:World) (a:Addr):Prop where
 ob:∃ (es:Array DictEntry) (n:Nat),K.lookup a=some ⟨.type "dict",none,.dict es n,#[]⟩∧PySem.W.KeysLit w.params es.toList
theorem ix_kdict {a:Addr}(D:DTx X.K X.w a):IxR X (fun x y H Q=>∃ z z' t,x = .ref a∧y = .str z∧PySem.W.nsIn X.K a z=some (some (.str z' t))∧Q (.str z') H):=by
 intro value slice pins s σ H x y v u Q I rx ry h hs
 obtain ⟨z,z',t',rfl,rfl,e,q⟩:=h
 cases rx
 obtain ⟨t,rfl⟩:=ry
 obtain ⟨es,n,hl,hk⟩:=D.ob
 obtain ⟨m,F⟩:=I.fr
 exact PySem.W.topItem_K F I.ok.mod.kin hl hk e ⟨.str z',H,I.tok _,⟨_,rfl⟩,q⟩ hs
noncomputable def tKGet_k1 (K:PySem.W.Frag)(a:Addr)(Q:VK):V→Hp→Prop:=fun y H1=>∃ z z' t,y = .str z∧PySem.W.nsIn K a z=some (some (.str z' t))∧Q (.str z') H1
noncomputable def tKGet (K:PySem.W.Frag)(a:Addr)(ti:TE):TE:=fun σ H Q=>ti σ H (tKGet_k1 K a Q)
theorem pe_kget {K:PySem.W.Frag}{w:World}{a:Addr}{x:Str}{i:Expr}{ti:TE}{p pos:Pos}(D:DTx K w a)(hK:X.K=K)(hw:X.w=w)(hg:Gl X x)(hm:X.mg x=some (.ref a))(hi:PE X i ti)(hs:PlainIx i)
  (hd:(x == ("__debug__":Str))=false:=by decide):PE X (.Subscript (.Name x p) i pos) (tKGet K a ti):=by
 subst hK hw
 intro pins s σ H Q I h
 refine Subscript_ (zcy I hg hm (thn (hi pins s σ H _ I h) fun u s2 zq2=>?_) hd)
 obtain ⟨y,H2,I2,ry,z,z',t',e1,e2,q⟩:=zq2
 exact ix_kdict D _ _ pins s2 σ H2 (.ref a) y (.ref a) u Q I2 rfl ry ⟨z,z',t',rfl,e1,e2,q⟩ (hs _ _)
end
end L2
namespace Wd
noncomputable abbrev L:=Fin 12
noncomputable def inv (x:L):L:=if h:x.val < 6 then ⟨x.val+6,by omega⟩ else ⟨x.val - 6,by omega⟩
theorem zei:∀ x:L,inv (inv x)=x:=by decide
noncomputable def bk (w:List L):List L:=(w.map inv).reverse
theorem bk_append (u v:List L):bk (u++v)=bk v++bk u:=by simp [bk]
theorem zej (w:List L):(bk w).length=w.length:=by simp [bk]
theorem zh3 (x:L):bk [x]=[inv x]:=rfl
noncomputable def push (st:List L)(x:L):List L:=match st with
 | []=>[x]
 | y::r=>if y=inv x then r else x::y::r
noncomputable def act (w:List L)(st:List L):List L:=w.foldl push st
theorem zfv (x:L)(w st:List L):act (x::w) st=act w (push st x):=rfl
theorem zdh (u v st:List L):act (u++v) st=act v (act u st):=by simp [act,List.foldl_append]
noncomputable def Rd:List L→Prop
 | []=>True
 | [_]=>True
 | x::y::r=>y≠inv x∧Rd (y::r)
theorem Rd.tail:∀ {x:L} {r:List L},Rd (x::r)→Rd r
 | _,[],_=>trivial
 | _,_::_,h=>h.2
theorem push_rd {st:List L}(x:L)(h:Rd st):Rd (push st x):=by
 cases st with
 | nil=>trivial
 | cons y r =>
  show Rd (if y=inv x then r else x::y::r)
  split
  ·exact h.tail
  ·rename_i hn
   exact ⟨hn,h⟩
theorem act_rd:∀ (w:List L) {st:List L},Rd st→Rd (act w st)
 | [],_,h=>h
 | x::w,st,h=>act_rd w (push_rd x h)
theorem push_push {st:List L}(x:L)(h:Rd st):push (push st x) (inv x)=st:=by
 cases st with
 | nil =>
  show (if x=inv (inv x) then [] else _)=_
  rw [if_pos (zei x).symm]
 | cons y r =>
  show push (if y=inv x then r else x::y::r) (inv x)=y::r
  by_cases e:y=inv x
  ·rw [if_pos e]
   subst e
   cases r with
   | nil=>rfl
   | cons z r =>
    show (if z=inv (inv x) then r else inv x::z::r)=_
    rw [if_neg h.1]
  ·rw [if_neg e]
   show (if x=inv (inv x) then y::r else _)=_
   rw [if_pos (zei x).symm]
noncomputable def red (w:List L):List L:=(act w []).reverse
theorem nil_rd:Rd []:=trivial
theorem zhj (st:List L)(x:L):(push st x).length≤st.length+1:=by
 cases st with
 | nil=>simp [push]
 | cons y r =>
  show (if y=inv x then r else x::y::r).length≤_
  split
  ·simp only [List.length_cons];omega
  ·simp
theorem ze5:∀ (w st:List L),(act w st).length≤st.length+w.length
 | [],_=>by simp [act]
 | x::w,st=>by
  have:=ze5 w (push st x)
  have:=zhj st x
  rw [zfv,List.length_cons]
  omega
theorem zi0 (w:List L):(red w).length≤w.length:=by
 have:=ze5 w []
 simpa [red] using this
noncomputable def rep:Nat→List L→List L
 | 0,_=>[]
 | n+1,w=>rep n w++w
theorem zh4 (w:List L):∀ n,rep n w++w=w++rep n w
 | 0=>by simp [rep]
 | n+1=>by
  show (rep n w++w)++w=w++(rep n w++w)
  rw [← List.append_assoc,← zh4 w n]
theorem ze6 (w:List L):∀ n,(rep n w).length=n*w.length
 | 0=>by simp [rep]
 | n+1=>by
  show (rep n w++w).length=_
  rw [List.length_append,ze6 w n,Nat.succ_mul]
noncomputable def pw (w:List L)(n:Int):List L:=rep n.natAbs (if n < 0 then bk w else w)
noncomputable def RdTo (k:Nat)(w:List L):Prop:=∀ i x y,i+1 < k→w[i]? = some x→w[i+1]? = some y→y≠inv x
theorem rdTo_rd:∀ {w:List L} {k:Nat},w.length≤k→RdTo k w→act w []=w.reverse:=by
 have all:∀ (u st:List L),Rd st→(∀ x y,st.head? = some x→u.head? = some y→y≠inv x)→RdTo u.length u→act u st=u.reverse++st:=by
  intro u
  induction u with
  | nil=>intro st _ _ _;rfl
  | cons x u ih =>
   intro st h hd hr
   have e:push st x=x::st:=by
    cases st with
    | nil=>rfl
    | cons y r =>
     show (if y=inv x then r else _)=_
     rw [if_neg]
     intro e
     have:=hd y x rfl rfl
     rw [e,zei] at this
     exact this rfl
   rw [zfv,e,ih (x::st),List.reverse_cons,List.append_assoc]
   ·rfl
   ·rw [← e];exact push_rd x h
   ·intro a b ha hb
    have ea:a=x:=(Option.some.inj ha).symm
    subst ea
    cases u with
    | nil=>cases hb
    | cons c u =>
     have eb:b=c:=(Option.some.inj hb).symm
     subst eb
     exact hr 0 a b (by simp) rfl rfl
   ·intro i a b hi ha hb
    exact hr (i+1) a b (by simp only [List.length_cons];omega) ha hb
 intro w k hk h
 have:=all w [] nil_rd (fun x y hx=>by cases hx) (fun i x y hi=>h i x y (by omega))
 simpa using this
theorem zhk {w:List L}{k:Nat}(hk:w.length≤k)(h:RdTo k w):red w=w:=by
 unfold red
 rw [rdTo_rd hk h,List.reverse_reverse]
theorem rdTo_grow {w:List L}{k:Nat}(h:RdTo (k+1) w)(hn:∀ x y,w[k]? = some x→w[k+1]? = some y→y≠inv x):RdTo (k+2) w:=by
 intro i x y hi hx hy
 by_cases e:i=k
 ·subst e;exact hn x y hx hy
 ·exact h i x y (by omega) hx hy
theorem rdTo_cut {w:List L}{k:Nat}(h:RdTo (k+1) w):RdTo (k - 1+1) (w.take k++w.drop (k+2)):=by
 intro i x y hi hx hy
 by_cases hk:k=0
 ·omega
 ·have e1:(w.take k++w.drop (k+2))[i]? = w[i]?:=by
   by_cases hl:i < (w.take k).length
   ·rw [List.getElem?_append_left hl,List.getElem?_take_of_lt (by omega)]
   ·rw [List.length_take] at hl
    rw [List.getElem?_eq_none (l:=w) (by omega)]
    rw [List.getElem?_eq_none]
    rw [List.length_append,List.length_take,List.length_drop]
    omega
  have e2:(w.take k++w.drop (k+2))[i+1]? = w[i+1]?:=by
   by_cases hl:i+1 < (w.take k).length
   ·rw [List.getElem?_append_left hl,List.getElem?_take_of_lt (by omega)]
   ·rw [List.length_take] at hl
    rw [List.getElem?_eq_none (l:=w) (by omega)]
    rw [List.getElem?_eq_none]
    rw [List.length_append,List.length_take,List.length_drop]
    omega
  rw [e1] at hx
  rw [e2] at hy
  exact h i x y (by omega) hx hy
theorem red_cut {w:List L}{k:Nat}{x:L}(hx:w[k]? = some x)(hy:w[k+1]? = some (inv x)):red (w.take k++w.drop (k+2))=red w:=by
 obtain ⟨h1,e1⟩:=List.getElem?_eq_some_iff.mp hx
 obtain ⟨h2,e2⟩:=List.getElem?_eq_some_iff.mp hy
 have e:w=w.take k++([x,inv x]++w.drop (k+2)):=by
  have a:=(List.take_append_drop k w).symm
  have b:w.drop k=x::inv x::w.drop (k+2):=by
   rw [List.drop_eq_getElem_cons h1,List.drop_eq_getElem_cons h2,e1,e2]
  rw [b] at a
  exact a
 have q:red (w.take k++([x,inv x]++w.drop (k+2)))=red (w.take k++w.drop (k+2)):=by
  unfold red
  rw [zdh,zdh,zdh]
  show (act (w.drop (k+2)) (push (push (act (w.take k) []) x) (inv x))).reverse=_
  rw [push_push x (act_rd _ nil_rd)]
 rw [← q,← e]
end Wd
namespace L2
open PySem PySem.Spec PyProof.Rows Wd
noncomputable def cp (x:L):Nat:=if x.val < 6 then 97+x.val else 59+x.val
theorem cp_lt:∀ x:L,cp x < 128:=by decide
theorem cp_inj:∀ x y:L,cp x=cp y→x=y:=by decide
noncomputable def toS (w:List L):Str:=⟨(w.map cp).toArray⟩
noncomputable def tx (w:List L):V:=.str (toS w)
theorem zbz (w:List L):(toS w).cps.toList=w.map cp:=by simp [toS]
theorem zab (w:List L):(toS w).length=w.length:=by simp [toS,Str.length]
theorem zc9 (w:List L):(toS w).cps.size=w.length:=by simp [toS]
theorem zcn (u v:List L):toS u++toS v=toS (u++v):=by
 apply Str.ext'
 rw [Str.cps_append]
 simp [toS]
theorem ze7:∀ {u v:List L},u.map cp=v.map cp→u=v
 | [],[],_=>rfl
 | [],_::_,h=>by simp at h
 | _::_,[],h=>by simp at h
 | x::u,y::v,h=>by
  simp only [List.map_cons,List.cons.injEq] at h
  rw [cp_inj x y h.1,ze7 h.2]
theorem zbq {u v:List L}(h:toS u=toS v):u=v:=by
 have:(toS u).cps.toList=(toS v).cps.toList:=by rw [h]
 rw [zbz,zbz] at this
 exact ze7 this
theorem zgq {u v:List L}(h:tx u=tx v):u=v:=zbq (V.str.inj h)
theorem toS_nil:toS []=("":Str):=by decide +kernel
theorem tx_nil:tx []=V.str ("":Str):=congrArg V.str toS_nil
theorem dec_tx (u v:List L):decide (tx u=tx v)=decide (u=v):=by
 by_cases h:u=v
 ·subst h;simp
 ·rw [decide_eq_false h,decide_eq_false fun e=>h (zgq e)]
theorem small:toS [0,1,2,3,4,5]=("abcdef":Str):=by decide +kernel
theorem big:toS [6,7,8,9,10,11]=("ABCDEF":Str):=by decide +kernel
theorem sign_at {w:List L}{i c:Nat}(h:(toS w).cps[i]? = some c):∃ x,w[i]? = some x∧(⟨#[c]⟩:Str)=toS [x]:=by
 have h:((w.map cp).toArray)[i]? = some c:=h
 rw [List.getElem?_toArray,List.getElem?_map] at h
 cases e:w[i]? with
 | none=>rw [e] at h;cases h
 | some x =>
  rw [e] at h
  have:cp x=c:=Option.some.inj h
  exact ⟨x,rfl,by rw [← this];rfl⟩
theorem zc1 {w:List L}{k:Nat}{x:L}{i:Int}(hk:i=(k:Int))(h:w[k]? = some x):atI (toS w).cps.toList i=some (cp x):=by
 subst hk
 rw [zbz]
 obtain ⟨hl,e⟩:=List.getElem?_eq_some_iff.mp h
 unfold atI ixN
 rw [if_pos (by omega),if_pos (by rw [List.length_map];omega)]
 show (w.map cp)[((k:Nat):Int).toNat]? = _
 rw [Int.toNat_natCast,List.getElem?_map,h]
 rfl
noncomputable def cutL (w:List L)(lo hi:Option Int):List L:=(w.drop (HT.sIx w.length 0 lo)).take (HT.sIx w.length w.length hi - HT.sIx w.length 0 lo)
theorem idx_gen (lo hi:Option Int)(n:Nat):Builtin.Str.strSliceIndices lo hi 1 n=(List.range (HT.sIx n n hi - HT.sIx n 0 lo)).map (fun k=>HT.sIx n 0 lo+k):=by
 have cl:∀ v:Int,max (0:Int) (min (if v < 0 then v+(n:Int) else v) (n:Int))=(((if v < 0 then (v+(n:Int)).toNat else min v.toNat n):Nat):Int):=fun v=>by
  by_cases hv:v < 0
  ·simp only [if_pos hv];omega
  ·simp only [if_neg hv];omega
 have fin:∀ a b:Nat,sliceRange (a:Int) (b:Int) 1=(List.range (b - a)).map (fun k=>a+k):=fun a b=>by
  unfold sliceRange
  simp only [show ((1:Int) > 0)=True from by simp,if_true]
  by_cases hlt:(a:Int) < b
  ·have e3:(((b:Int) - a+1 - 1) / 1).toNat=b - a:=by first | omega | (simp;done) | (simp;omega)
   simp only [hlt,if_true,e3]
   exact List.map_congr_left fun k _=>by omega
  ·have:b - a=0:=by omega
   simp [hlt,this]
 unfold Builtin.Str.strSliceIndices
 simp only [show ((1:Int) > 0)=True from by simp,if_true]
 cases lo with
 | none =>
  cases hi with
  | none=>exact fin 0 n
  | some j=>simp only [cl];exact fin 0 _
 | some i =>
  cases hi with
  | none=>simp only [cl];exact fin _ n
  | some j=>simp only [cl];exact fin _ _
theorem zaj (w:List L)(lo hi:Option Int):Txt.slice (toS w) lo hi=toS (cutL w lo hi):=by
 have h1:=HT.sIx_le w.length 0 (Nat.zero_le _) lo
 have h2:=HT.sIx_le w.length w.length (Nat.le_refl _) hi
 unfold Txt.slice
 rw [idx_gen,zab]
 split
 ·rename_i h
  have hl:HT.sIx w.length w.length hi - HT.sIx w.length 0 lo=w.length:=by simpa using h
  have e:cutL w lo hi=w:=by
   unfold cutL
   rw [hl]
   have ha:HT.sIx w.length 0 lo=0 ∨ w.length=0:=by omega
   rcases ha with ha | ha
   ·rw [ha,List.drop_zero,List.take_length]
   ·have:w=[]:=List.eq_nil_of_length_eq_zero ha
    subst this
    simp
  rw [e]
 ·apply Str.ext'
  show (List.filterMap _ _).toArray=_
  have e:=StrLaws.picks (w.map cp) (HT.sIx w.length w.length hi - HT.sIx w.length 0 lo) (HT.sIx w.length 0 lo)
  by_cases hle:HT.sIx w.length 0 lo≤HT.sIx w.length w.length hi
  ·have e:=e (by rw [List.length_map];omega)
   have e2:(fun k:Nat=>(toS w).cps[k]?)=fun k:Nat=>(w.map cp)[k]?:=funext fun k=>by simp [toS]
   rw [e2,e]
   simp [toS,cutL,List.map_take,List.map_drop]
  ·have z:HT.sIx w.length w.length hi - HT.sIx w.length 0 lo=0:=by omega
   rw [z]
   simp [toS,cutL,z]
theorem zbe (w:List L){n:Int}(h:0≤n):cutL w none (some n)=w.take n.toNat:=by
 obtain ⟨k,rfl⟩:=Int.eq_ofNat_of_zero_le h
 unfold cutL
 rw [HT.sIx_none,HT.sIx_nat,List.drop_zero,Nat.sub_zero,Int.toNat_natCast]
 by_cases hk:k≤w.length
 ·rw [Nat.min_eq_left hk]
 ·rw [Nat.min_eq_right (by omega),List.take_length,List.take_of_length_le (by omega)]
theorem zbf (w:List L){n:Int}(h:0≤n):cutL w (some n) none=w.drop n.toNat:=by
 obtain ⟨k,rfl⟩:=Int.eq_ofNat_of_zero_le h
 unfold cutL
 rw [HT.sIx_none,HT.sIx_nat,Int.toNat_natCast]
 by_cases hk:k≤w.length
 ·rw [Nat.min_eq_left hk,List.take_of_length_le (by rw [List.length_drop];omega)]
 ·rw [Nat.min_eq_right (by omega),List.drop_length,List.drop_eq_nil_of_le (by omega)]
  simp
theorem zb1 (w:List L)(lo hi:Option Int):(cutL w lo hi).length≤w.length:=by
 unfold cutL
 rw [List.length_take,List.length_drop]
 omega
theorem upper_toS (w:List L):Txt.upper (toS w)=⟨((w.map cp).map up1).toArray⟩:=by
 rw [upper_ascii fun c hc=>by rw [zbz] at hc;obtain ⟨x,_,rfl⟩:=List.mem_map.mp hc;exact cp_lt x]
 simp [toS]
theorem lower_toS (w:List L):Txt.lower (toS w)=⟨((w.map cp).map lo1).toArray⟩:=by
 rw [lower_ascii fun c hc=>by rw [zbz] at hc;obtain ⟨x,_,rfl⟩:=List.mem_map.mp hc;exact cp_lt x]
 simp [toS]
theorem up_cp:∀ x:L,x.val < 6→up1 (cp x)=cp (inv x):=by decide
theorem lo_cp:∀ x:L,¬ x.val < 6→lo1 (cp x)=cp (inv x):=by decide
theorem zgr {x:L}(h:x.val < 6):Txt.upper (toS [x])=toS [inv x]:=by
 rw [upper_toS]
 show (⟨#[up1 (cp x)]⟩:Str)=⟨#[cp (inv x)]⟩
 rw [up_cp x h]
theorem zgs {x:L}(h:¬ x.val < 6):Txt.lower (toS [x])=toS [inv x]:=by
 rw [lower_toS]
 show (⟨#[lo1 (cp x)]⟩:Str)=⟨#[cp (inv x)]⟩
 rw [lo_cp x h]
theorem ex1:∀ x:L,cp x∈List.map cp [0,1,2,3,4,5]→x.val < 6:=by decide
theorem ex2:∀ x:L,x.val < 6→(List.map cp [0,1,2,3,4,5])[x.val]? = some (cp x):=by decide
theorem in_small (x:L):(!(Builtin.Str.occurrences ("abcdef":Str) (toS [x]) 0 ("abcdef":Str).length 1).isEmpty)=decide (x.val < 6):=by
 have h:=StrLaws.found_iff ("abcdef":Str) (toS [x])
 have e:(∃ i,i+(toS [x]).length≤("abcdef":Str).length∧Builtin.Str.subAt ("abcdef":Str) (toS [x]) i=true) ↔ x.val < 6:=by
  have e2:∀ i,(i+(toS [x]).length≤("abcdef":Str).length∧Builtin.Str.subAt ("abcdef":Str) (toS [x]) i=true) ↔ ("abcdef":Str).cps.toList[i]? = some (cp x):=fun i=>StrLaws.subAt_one _ _ _
  rw [show (("abcdef":Str))=toS [0,1,2,3,4,5] from small.symm] at e2 ⊢
  constructor
  ·rintro ⟨i,hi⟩
   have hi:=(e2 i).mp hi
   rw [zbz] at hi
   exact ex1 x (List.mem_of_getElem? hi)
  ·intro hx
   refine ⟨x.val,(e2 x.val).mpr ?_⟩
   rw [zbz]
   exact ex2 x hx
 rw [Bool.eq_iff_iff,h,e,decide_eq_true_iff]
theorem join_one:∀ w:List L,Txt.join ("":Str) (w.map fun x=>toS [x])=toS w:=by
 intro w
 have e0:("":Str)=Str.empty:=by decide +kernel
 unfold Txt.join
 rw [StrLaws.glued_eq_join,e0]
 induction w with
 | nil=>rfl
 | cons x r ih =>
  cases r with
  | nil=>rfl
  | cons y r =>
   show toS [x]++Str.empty++Str.join Str.empty ((y::r).map fun x=>toS [x])=_
   rw [ih,Str.append_empty,zcn]
   rfl
theorem sum_one (w:List L):((w.map fun x=>toS [x]).map (·.length)).sum=w.length:=by
 induction w with
 | nil=>rfl
 | cons x r ih =>
  simp only [List.map_cons,List.sum_cons,List.length_cons]
  rw [ih,zab]
  simp only [List.length_singleton]
  omega
theorem zdo (w:List L):∀ (n:Nat) (acc:Array Nat),(List.replicate n (toS w).cps).foldl (· ++ ·) acc=acc++((rep n w).map cp).toArray
 | 0,acc=>by simp [rep]
 | n+1,acc=>by
  rw [List.replicate_succ,List.foldl_cons,zdo w n]
  show _=acc++((rep n w++w).map cp).toArray
  rw [zh4]
  simp [toS]
theorem rep_nil:∀ n,rep n ([]:List L)=[]
 | 0=>rfl
 | n+1=>by show rep n []++[]=[];rw [rep_nil n];rfl
theorem rep_toS (w:List L)(n:Int):Txt.mul (toS w) n=toS (rep n.toNat w):=by
 unfold Txt.mul
 by_cases h1:n < 1
 ·rw [if_pos h1]
  have:n.toNat=0:=by omega
  rw [this]
  rfl
 ·rw [if_neg h1]
  split
  ·rename_i h
   rw [zab] at h
   simp only [Bool.or_eq_true,beq_iff_eq] at h
   rcases h with h | h
   ·subst h
    show toS w=toS (rep 1 w)
    show toS w=toS ([]++w)
    rfl
   ·have:w=[]:=List.eq_nil_of_length_eq_zero h
    subst this
    rw [rep_nil]
  ·apply Str.ext'
   show (List.replicate n.toNat (toS w).cps).foldl (· ++ ·) #[]=_
   rw [zdo]
   simp [toS]
theorem mulOk_toS (w:List L){n:Int}(h1:-1000000≤n)(h2:n≤1000)(hw:w.length≤10000):MulOk (toS w) n:=by
 refine ⟨?_,fun hn _=>?_,fun hn _=>?_⟩
 ·have e1:decide (n < -(2 ^ 63:Int))=false:=decide_eq_false (by omega)
  have e2:decide (n≥2 ^ 63)=false:=decide_eq_false (by omega)
  rw [e1,e2,Bool.or_false]
 ·rw [zab]
  have hn1:1≤n:=by omega
  have q:(9223372036854775:Int)≤(2 ^ 63 - 1) / n:=by
   rw [Int.le_ediv_iff_mul_le (by omega)]
   omega
  omega
 ·rw [zab]
  unfold Builtin.Str.tooLong
  have e:sizeLine=16777216:=sizeLine_eq
  obtain ⟨k,rfl⟩:=Int.eq_ofNat_of_zero_le (show 0≤n by omega)
  have hk:k≤1000:=by omega
  rw [Int.toNat_natCast]
  have q:w.length*k≤10000*1000:=Nat.mul_le_mul hw hk
  exact decide_eq_false (by omega)
end L2
namespace L2
open PySem PySem.Spec PyProof.Rows Wd
structure Fnc (P:Program) (w:World) (K:PySem.W.Frag) (mg:Str→Option Value) (base:Heap) (x:Str) (ps:List Str) (k:Nat) (sp:Sp):Prop where
 ex:∃ (f:Addr) (fd:FuncData),mg x=some (.ref f)∧PySem.W.keepIn K (.ref f)=true∧Binds K fd ps []∧FnOk P w K mg base CX0 k f fd ps sp
theorem zaw {X:Cx}{x:Str}{ps:List Str}{k j:Nat}{sp:Sp}{e:Expr}{es:List Expr}{t:TA}{p pos:Pos}(F:Fnc X.prog X.w X.K X.mg X.base x ps j sp)(hr:Room k X.A)(hj:j≤k)(hg:Gl X x)(ha:PA X (e::es) t)
  (hdb:(x == ("__debug__":Str))=false:=by decide) (he:starEach (e::es) X.env=(false,eval e X.env)::starEach es X.env:=by rfl) (hpl:(backTo pos (starEach es X.env)).any (·.1)=false:=by rfl) :
  PE X (.Call (.Name x p) (e::es) [] pos) (tCall sp [] E0 t):=by
 obtain ⟨f,fd,hm,hk,hb,F⟩:=F.ex
 exact pe_call F (hr.mono hj) hg hm hk hb .nil pass0 ha hdb he hpl
structure Df (K:PySem.W.Frag) (mg:Str→Option Value) (x:Str) (st:Stmt):Prop where
 ex:∃ (f:Addr) (fd:FuncData),mg x=some (.ref f)∧Fun K x x st f fd
theorem Df.ok {P:Program}{w:World}{K:PySem.W.Frag}{mg:Str→Option Value}{base:Heap}{x:Str}{st:Stmt}{N ps:List Str}{k:Nat}{sp:Sp}(D:Df K mg x st)(S:FnScope N ps (defScope st))
  (hb:∀ (kV doc pm:Value) (an:Option Addr) (cdv ct:Value) (us:List Value),us.length=ps.length→bindArgs (PySem.W.fnOf x x (defArgs st) (defBody st) (defScope st) .none kV doc pm an cdv ct) ⟨us,[]⟩=pure (ps.zip us))
  (len:∀ vs H Q E,sp vs H Q E→vs.length=ps.length)
  (hbody:∀ (f:Addr) (cdv:Value) (A:Around) (outer:List Env) (s:Shared) (H:Hp) (vs:List V) (Q:VK) (E:XK),Room k (A.deeper (envOfC x (defScope st) s.heap.objs.size f cdv))→sp vs H Q E →
   ∃ t,PSs (cxOf CX0 P w K mg base N x (defScope st) f cdv A outer s H E).nox (defBody st) t∧t { nx:=fun _ H'=>Q .non H',rt:=Q } (start N vs) H):Fnc P w K mg base x ps (k+1) sp:=by
 obtain ⟨f,fd,hm,F⟩:=D.ex
 exact ⟨f,fd,hm,F.kp,F.binds hb,F.ok S len fun cdv A outer s H vs Q E hr h=>hbody f cdv A outer s H vs Q E hr h⟩
noncomputable def SameB (d:Addr)(H H':Hp):Prop:=∀ b o,b≠d→H b=some o→H' b=some o
theorem SameB.trans {d:Addr}{H H1 H2:Hp}(a:SameB d H H1)(b:SameB d H1 H2):SameB d H H2:=fun c o n h=>b c o n (a c o n h)
theorem Same.b {d:Addr}{H H':Hp}(a:Same H H'):SameB d H H':=fun b o _ h=>a b o h
theorem Same.new {H:Hp}{a:Addr}{o:HO}(h:H a=none):Same H (upd H a o):=fun b u e=>by rw [zai (zah e h)]; exact e
theorem SameB.upd {d:Addr}{H:Hp}{o:HO}:SameB d H (upd H d o):=fun b u n e=>by rw [zai n]; exact e
theorem Same.then {H H1:Hp}{a:Addr}{o:HO}(s:Same H H1)(h:H1 a=none):Same H (L2.upd H1 a o):=s.trans (Same.new h)
noncomputable def kS (x:Str):Key:=.inr x
noncomputable def fkv (c:Addr)(i l t:Int):List (Key × V):=[(kS "cells",.ref c),(kS "at",.int i),(kS "left",.int l),(kS "turn",.int t)]
theorem n_ca:¬ (kS "cells" = kS "at"):=by decide +kernel
theorem n_cl:¬ (kS "cells" = kS "left"):=by decide +kernel
theorem n_ct:¬ (kS "cells" = kS "turn"):=by decide +kernel
theorem n_al:¬ (kS "at" = kS "left"):=by decide +kernel
theorem n_at:¬ (kS "at" = kS "turn"):=by decide +kernel
theorem n_lt:¬ (kS "left" = kS "turn"):=by decide +kernel
theorem zdx {κ:Type}[DecidableEq κ]{k:κ}{v:V}{r:List (κ × V)}:valV ((k,v)::r) k=some v:=by unfold valV; simp
theorem zb2 {κ:Type}[DecidableEq κ]{k k':κ}{v:V}{r:List (κ × V)}(h:¬ k'=k):valV ((k',v)::r) k=valV r k:=by unfold valV; simp [h]
theorem g_cells (c:Addr)(i l t:Int):valV (fkv c i l t) (kS "cells")=some (.ref c):=zdx
theorem g_at (c:Addr)(i l t:Int):valV (fkv c i l t) (kS "at")=some (.int i):=(zb2 n_ca).trans zdx
theorem zgt (c:Addr)(i l t:Int):valV (fkv c i l t) (kS "left")=some (.int l):=(zb2 n_cl).trans ((zb2 n_al).trans zdx)
theorem g_turn (c:Addr)(i l t:Int):valV (fkv c i l t) (kS "turn")=some (.int t):=(zb2 n_ct).trans ((zb2 n_at).trans ((zb2 n_lt).trans zdx))
theorem n_ta:¬ (kS "turn" = kS "at"):=fun e=>n_at e.symm
theorem n_la:¬ (kS "left" = kS "at"):=fun e=>n_al e.symm
theorem n_tl:¬ (kS "turn" = kS "left"):=fun e=>n_lt e.symm
theorem p_at (c:Addr)(i l t z:Int):putK (fkv c i l t) (kS "at") (.int z)=fkv c z l t:=by simp [putK,fkv,n_ca,n_la,n_ta]
theorem p_left (c:Addr)(i l t z:Int):putK (fkv c i l t) (kS "left") (.int z)=fkv c i z t:=by simp [putK,fkv,n_cl,n_al,n_tl]
theorem p_turn (c:Addr)(i l t z:Int):putK (fkv c i l t) (kS "turn") (.int z)=fkv c i l z:=by simp [putK,fkv,n_ct,n_at,n_lt]
theorem zek (c:Addr)(i l t:Int):(fkv c i l t).length < sizeLine:=by show 4 < sizeLine; decide
theorem m_fkv (c:Addr)(i l t:Int):mergeK [] (fkv c i l t)=fkv c i l t:=by simp [mergeK,putK,fkv,n_ca,n_cl,n_ct,n_al,n_at,n_lt]
structure Fd (H:Hp) (d:Addr):Prop where
 ex:∃ (c:Addr) (i l t:Int) (ns:List Int),H d=some (.dK (fkv c i l t))∧H c=some (.lst (ns.map V.int))∧ns≠[]∧ns.length≤64
theorem Fd.same {H H':Hp}{d:Addr}(F:Fd H d)(s:Same H H'):Fd H' d:=by
 obtain ⟨c,i,l,t,ns,h1,h2,h3,h4⟩:=F.ex
 exact ⟨c,i,l,t,ns,s _ _ h1,s _ _ h2,h3,h4⟩
theorem Fd.new {H:Hp}{d a:Addr}{o:HO}(F:Fd H d)(h:H a=none):Fd (upd H a o) d:=F.same (Same.new h)
theorem Fd.nl {H:Hp}{d a:Addr}{xs:List V}(F:Fd H d)(h:H a=some (.lst xs)):a≠d:=by
 obtain ⟨c,i,l,t,ns,h1,h2,h3,h4⟩:=F.ex
 exact zjg h h1 (by intro z;cases z)
inductive spDraw (vs:List V)(H:Hp)(Q:VK)(u3_:XK):Prop
 | mk:∀ (d:Addr) (m:Int),(vs=[.ref d,.int m])→(Fd H d)→(0 < m)→(m < 1000000)→(∀ (r:Int) (H':Hp),0≤r→r < m→Fd H' d→SameB d H H'→Q (.int r) H')→spDraw vs H Q u3_
inductive spFeed (K:PySem.W.Frag)(vs:List V)(H:Hp)(Q:VK)(u3_:XK):Prop
 | mk:∀ (a:Addr) (ns:List Int),(vs=[.ref a])→(SqL K H a (ns.map V.int))→(ns.length≤63)→(∀ (d:Addr) (H':Hp),H d=none→Fd H' d→Same H H'→Q (.ref d) H')→spFeed K vs H Q u3_
theorem cell_at {ns:List Int}(h:ns≠[])(i:Int):∃ n:Int,atI (ns.map V.int) (i % ((ns.map V.int).length:Int))=some (.int n):=by
 have hl:0 < ns.length:=List.length_pos_iff.mpr h
 rw [List.length_map]
 have h0:=Int.emod_nonneg i (show (ns.length:Int)≠0 by omega)
 have h1:=Int.emod_lt_of_pos i (show (0:Int) < ns.length by omega)
 obtain ⟨k,hk⟩:=Int.eq_ofNat_of_zero_le h0
 rw [hk] at h1 ⊢
 have hk':k < ns.length:=by omega
 refine ⟨ns[k],?_⟩
 unfold atI ixN
 rw [if_pos (by omega),if_pos (by rw [List.length_map];omega)]
 show (ns.map V.int)[((k:Nat):Int).toNat]? = _
 rw [Int.toNat_natCast,List.getElem?_map,List.getElem?_eq_getElem hk']
 rfl
end L2
namespace L2
open PySem PySem.Spec PyProof.Rows Wd
mutual
inductive Dt (H:Hp):V→PyData→Prop where
 | non:Dt H .non .none
 | bl (b:Bool):Dt H (.bl b) (.bool b)
 | int (i:Int):Dt H (.int i) (.int i)
 | str (x:Str):Dt H (.str x) (.str x)
 | lst {a:Addr} {xs:List V} {ds:List PyData}:H a=some (.lst xs)→Dts H xs ds→Dt H (.ref a) (.list ds)
 | tup {a:Addr} {xs:List V} {ds:List PyData}:H a=some (.tup xs)→Dts H xs ds→Dt H (.ref a) (.tuple ds)
inductive Dts (H:Hp):List V→List PyData→Prop where
 | nil:Dts H [] []
 | cons {v:V} {d:PyData} {vs:List V} {ds:List PyData}:Dt H v d→Dts H vs ds→Dts H (v::vs) (d::ds)
end
section
variable {P:Program} {w:World} {H:Hp} {h:Heap}
mutual
theorem Dt.reads (ok:HOk P w H h):∀ {v:V} {d:PyData},Dt H v d→∀ {u:Value},RelV v u→∃ as,Reads h u d as
 | _,_,.non,u,r=>by cases r;exact ⟨_,.none⟩
 | _,_,.bl b,u,r=>by cases r;exact ⟨_,.bool b⟩
 | _,_,.int i,u,r=>by obtain ⟨t,rfl⟩:=r;exact ⟨_,.int i t⟩
 | _,_,.str x,u,r=>by obtain ⟨t,rfl⟩:=r;exact ⟨_,.str x t⟩
 | _,_,.lst e q,u,r=>by
  cases r
  obtain ⟨_,its,n,rv,g⟩:=ok _ _ e
  obtain ⟨as,ra⟩:=Dts.reads ok q rv
  exact ⟨_,.list g rfl rfl (by simpa using ra)⟩
 | _,_,.tup e q,u,r=>by
  cases r
  obtain ⟨_,its,rv,⟨ob,g,c,n,d⟩,_⟩:=ok _ _ e
  obtain ⟨as,ra⟩:=Dts.reads ok q rv
  exact ⟨_,.tuple g c d (by simpa using ra)⟩
theorem Dts.reads (ok:HOk P w H h):∀ {vs:List V} {ds:List PyData},Dts H vs ds→∀ {us:List Value},Vals vs us→∃ as,ReadsAll h us ds as
 | _,_,.nil,_,r=>by cases r;exact ⟨_,.nil⟩
 | _,_,.cons q qs,_,r=>by
  cases r with
  | cons r rs =>
   obtain ⟨as,a1⟩:=Dt.reads ok q r
   obtain ⟨bs,a2⟩:=Dts.reads ok qs rs
   exact ⟨_,.cons a1 a2⟩
end
end
structure Sh (d:PyData):Prop where
 sh:d.showable=true
 nd:d.hasDict=false
 dp:d.depth≤10
 sz:d.shown.length≤sizeLine
section
variable {X:Cx}
inductive call_repr_dat_r  (xs:List V)(H:Hp)(Q:VK):Prop
 | mk:∀ a d,(xs=[.ref a])→(Dt H (.ref a) d)→(Sh d)→(Q (.str d.shown) H)→call_repr_dat_r xs H Q
theorem zda (hg:X.A.guards=some [])(hu:X.A.units+64 < cLine):CallR X (.builtin "repr") call_repr_dat_r:=by
 intro pins s σ H xs us Q I r h
 obtain ⟨a,d,rfl,q,S,hQ⟩:=h
 obtain ⟨u,rfl,ru⟩:=zcc r
 cases ru
 obtain ⟨as,rd⟩:=q.reads I.hok (u:=.ref a) rfl
 refine repr_of_reads' rd S.sh (PyData.noDict_hsm S.nd) hg (by have:=S.dp;omega) (fun _ _ e=>e) (fun h' u tk hk=>?_) S.sz
 exact ⟨.str _,H,I.kept hk,⟨_,rfl⟩,hQ⟩
end
noncomputable def Least (m:Str)(ys:List Str):Prop:=m∈ys∧∀ y∈ys,m.cps.toList≤y.cps.toList
theorem zdp:∀ (r:List Str) (x:Str),risingS x r=true→Least x (x::r)
 | [],x,_=>⟨by simp,fun y hy=>by rw [List.mem_singleton.mp hy];exact List.le_refl _⟩
 | z::r,x,h=>by
  unfold risingS at h
  rw [Bool.and_eq_true] at h
  have h1:x.cps.toList≤z.cps.toList:=by
   have:=h.1
   rw [ltCps_eq] at this
   exact List.not_lt.mp (by simpa using this)
  have ih:=zdp r z h.2
  refine ⟨by simp,fun y hy=>?_⟩
  rcases List.mem_cons.mp hy with e | hy
  ·rw [e];exact List.le_refl _
  ·exact List.le_trans h1 (ih.2 y hy)
theorem zbu:∀ {us:List Value} {ys:List Str},StrsAre us ys→Vals (ys.map V.str) us
 | _,_,.nil=>.nil
 | _,_,.cons y t r=>.cons ⟨t,rfl⟩ (zbu r)
section
variable {X:Cx}
end
end L2
set_option maxHeartbeats 0
namespace Kx
open PySem PySem.Spec PyProof.Rows L2 Wd
theorem b_list:bootBuiltins "list" = some (.type "list"):=by kernel_rfl
theorem b_int:bootBuiltins "int" = some (.type "int"):=by kernel_rfl
theorem b_max:bootBuiltins "max" = some (.builtin "max"):=by kernel_rfl
theorem b_repr:bootBuiltins "repr" = some (.builtin "repr"):=by kernel_rfl
theorem b_min:bootBuiltins "min" = some (.builtin "min"):=by kernel_rfl
theorem zfw:bootBuiltins "sorted" = some (.builtin "sorted"):=by kernel_rfl
theorem zfx:bootBuiltins "tuple" = some (.type "tuple"):=by kernel_rfl
theorem zcf:bootBuiltins "isinstance" = some (.builtin "isinstance"):=by kernel_rfl
theorem b_zip:bootBuiltins "zip" = some (.type "zip"):=by kernel_rfl
theorem zi1:bootBuiltins "reversed" = some (.type "reversed"):=by kernel_rfl
structure Bt (K:PySem.W.Frag) (w:World) (mg:Str→Option Value) (aB:Addr):Prop where
 len:mg "len" = none
 repr:mg "repr" = none
 abs:mg "abs" = none
 max:mg "max" = none
 int:mg "int" = none
 list:mg "list" = none
 range:mg "range" = none
 reversed:mg "reversed" = none
 min:mg "min" = none
 sorted:mg "sorted" = none
 tuple:mg "tuple" = none
 isinstance:mg "isinstance" = none
 all:mg "all" = none
 str:mg "str" = none
 zip:mg "zip" = none
 mgB:mg "BACKS" = some (.ref aB)
 dB:DTx K w aB
 gB:∀ x:L,∃ t,PySem.W.nsIn K aB (toS [x])=some (some (.str (toS [inv x]) t))
theorem dg {H:Hp}{d:Addr}{kvs:List (Key × V)}{k:Str}{v:V}(h:H d=some (.dK kvs))(e:valV kvs (kS k)=some v):DGet H d (.str k) (some v):=by
 have q:=DGet.k (k:=kS k) h
 rw [e] at q
 exact q
theorem dp {H:Hp}{d:Addr}{kvs kvs':List (Key × V)}{k:Str}{v:V}(h:H d=some (.dK kvs))(hl:kvs.length < sizeLine)(e:putK kvs (kS k) v=kvs'):DPut H d (.str k) v (upd H d (.dK kvs')):=by
 have q:=DPut.k (k:=kS k) (v:=v) h hl
 rw [e] at q
 exact q
theorem cut63 {ns:List Int}(h:ns.length≤63):cutV (ns.map V.int) none (some 63)=ns.map V.int:=by
 unfold cutV
 have e:HT.sIx (ns.map V.int).length (ns.map V.int).length (some 63)=(ns.map V.int).length:=by
  have:=HT.sIx_nat (ns.map V.int).length (ns.map V.int).length 63
  rw [show ((63:Nat):Int)=63 from rfl] at this
  rw [this,List.length_map]
  omega
 rw [e,HT.sIx_none,List.drop_zero,Nat.sub_zero,List.take_length]
noncomputable def ones (w:List L):List V:=w.map fun x=>tx [x]
theorem zh5 (w:List L):ones w=(w.map fun x=>toS [x]).map V.str:=by unfold ones; rw [List.map_map]; rfl
theorem zgu (w:List L)(x:L):ones w++[tx [x]]=ones (w++[x]):=by unfold ones; rw [List.map_append]; rfl
theorem zel (w:List L):(ones w).length=w.length:=by unfold ones; rw [List.length_map]
theorem zgv (w:List L):V.str (Txt.join ("":Str) (w.map fun x=>toS [x]))=tx w:=congrArg V.str (join_one w)
theorem zgw (w:List L)(h:w.length≤1000000):((w.map fun x=>toS [x]).map (·.length)).sum+(w.map fun x=>toS [x]).length*("":Str).length≤16777216:=by
 have e:("":Str).length=0:=by decide +kernel
 rw [e,sum_one]
 omega
theorem za9:sizeLine=16777216:=sizeLine_eq
inductive spBk (vs:List V)(H:Hp)(Q:VK)(u3_:XK):Prop
 | mk:∀ w,(vs=[tx w])→(w.length≤5000)→(∀ H',Same H H'→Q (tx (bk w)) H')→spBk vs H Q u3_
inductive spRed (vs:List V)(H:Hp)(Q:VK)(u3_:XK):Prop
 | mk:∀ w,(vs=[tx w])→(w.length≤5000)→(∀ H',Same H H'→Q (tx (red w)) H')→spRed vs H Q u3_
theorem zbv (u v:List L):V.str (toS u++toS v)=tx (u++v):=congrArg V.str (zcn u v)
noncomputable def sg (m:Int):List L:=([0,1,2,3,4,5]:List L).take m.toNat++([6,7,8,9,10,11]:List L).take m.toNat
theorem zgx {m:Int}(h1:1≤m)(h2:m≤6):(sg m).length=2*m.toNat:=by
 unfold sg
 rw [List.length_append,List.length_take,List.length_take]
 simp only [List.length_cons,List.length_nil]
 omega
theorem slice_sg {m:Int}(h1:1≤m):V.str (Txt.slice ("abcdef":Str) none (some m)++Txt.slice ("ABCDEF":Str) none (some m))=tx (sg m):=by
 rw [← small,← big,zaj,zaj,zbe _ (by omega),zbe _ (by omega),zbv]
 rfl
theorem len_sm:("abcdef":Str).length=6:=by decide +kernel
theorem len_bg:("ABCDEF":Str).length=6:=by decide +kernel
theorem bk_get (u:List L){i:Nat}{y:L}(hi:i < u.length)(h:u[u.length - 1 - i]? = some y):(bk u)[i]? = some (inv y):=by
 unfold bk
 rw [List.getElem?_reverse (by rw [List.length_map];exact hi),List.length_map,List.getElem?_map,h]
 rfl
theorem zgy {u:List L}{i:Nat}{x:L}(h:u[i]? = some x):u.take (i+1)=u.take i++[x]:=by
 obtain ⟨hl,e⟩:=List.getElem?_eq_some_iff.mp h
 rw [List.take_add_one,h]
 rfl
theorem iteC {c:Bool}{A B:Prop}(hc:c=true)(h:A):if c=true then A else B:=by rw [if_pos hc]; exact h
theorem iteD {c:Bool}{A B:Prop}(hc:c=false)(h:B):if c=true then A else B:=by rw [hc]; exact iteF h
noncomputable def dws (ws:List (List L)):List PyData:=ws.map fun w=>.str (toS w)
theorem zh6:∀ (ws:List (List L)),PyData.showableAll (dws ws)=true∧PyData.hasDictAll (dws ws)=false∧PyData.depthAll (dws ws)=0∧PyData.leavesShortAll 13 (dws ws)=true
 | []=>⟨rfl,rfl,rfl,rfl⟩
 | w::r=>by
  obtain ⟨h1,h2,h3,h4⟩:=zh6 r
  refine ⟨?_,?_,?_,?_⟩
  ·show (PyData.showable (.str (toS w)) && PyData.showableAll (dws r))=true
   rw [h1];rfl
  ·show (PyData.hasDict (.str (toS w)) || PyData.hasDictAll (dws r))=false
   rw [h2];rfl
  ·show max (PyData.depth (.str (toS w))) (PyData.depthAll (dws r))=0
   rw [h3];rfl
  ·show (PyData.leavesShort 13 (.str (toS w)) && PyData.leavesShortAll 13 (dws r))=true
   rw [h4,Bool.and_true]
   show ((toS w).cps.toList.all fun c=>decide (c < 16 ^ 8))=true
   rw [List.all_eq_true]
   intro c hc
   rw [zbz] at hc
   obtain ⟨x,_,rfl⟩:=List.mem_map.mp hc
   exact decide_eq_true (Nat.lt_of_lt_of_le (cp_lt x) (by decide))
theorem ze8 {n:Nat}:∀ (ws:List (List L)),(∀ w∈ws,w.length≤n)→PyData.weightAll (dws ws)≤ws.length*(n+1)
 | [],_=>Nat.zero_le _
 | w::r,h=>by
  have ih:=ze8 r fun v hv=>h v (List.mem_cons_of_mem _ hv)
  have h1:=h w List.mem_cons_self
  show (toS w).cps.size+1+PyData.weightAll (dws r)≤(r.length+1)*(n+1)
  rw [zc9,Nat.succ_mul]
  omega
theorem sh_tup {n:Nat}{ws:List (List L)}(h:∀ w∈ws,w.length≤n)(hn:ws.length*(n+1)≤2 ^ 20):Sh (.tuple (dws ws)):=by
 obtain ⟨h1,h2,h3,h4⟩:=zh6 ws
 refine ⟨h1,h2,by show PyData.depthAll (dws ws)+1≤10;rw [h3];decide,PyData.shown_fits (B:=13) (by decide) (by decide) h4 (Nat.le_trans (ze8 ws h) hn)⟩
end Kx
namespace Wd
end Wd
namespace Wd
noncomputable def J (u v:List L):Prop:=∀ x y,u.getLast? = some x→v.head? = some y→y≠inv x
end Wd
namespace L2
open PySem PySem.Spec PyProof.Rows Wd
noncomputable def rots (w:List L):List (List L):=(List.range (max 1 w.length)).map fun i=>w.drop i++w.take i
end L2
namespace Wd
end Wd
namespace L2
open PySem PySem.Spec PyProof.Rows Wd
end L2
namespace L2
open PySem PySem.Spec PyProof.Rows Wd
section
variable {X:Cx} {tg:Expr}
end
section
variable {X:Cx} {o e:Expr} {es:List Expr} {to:TE} {t:TA} {name:Str} {apos cpos:Pos} {T id:String} {r:V→List V→Hp→VK→Prop} {K:PySem.W.Frag}
end
end L2
namespace L2
open PySem PySem.Spec PyProof.Rows Wd
section
variable {X:Cx}
noncomputable def signs (z:Str):List V:=z.cps.toList.map fun c=>.str ⟨#[c]⟩
theorem ze9 {K:PySem.W.Frag}(hK:X.K=K):OpR X (compareOp .NotIn) (rIn K true):=by
 subst hK
 exact zgh
end
end L2
namespace PySem
open Sem (wp)
structure Ap5 (z TI TO i1 i2:Addr):Prop where
 TIz:TI≠z
 TOz:TO≠z
 i1z:i1≠z
 i2z:i2≠z
 TITO:TI≠TO
 TIi1:TI≠i1
 TIi2:TI≠i2
 TOi1:TO≠i1
 TOi2:TO≠i2
 i12:i1≠i2
noncomputable abbrev AsIt (h:Heap)(i:Addr)(x:Str)(t:Tok)(k:Nat):Prop:=h.IsStrIter i "str_ascii_iterator" x t k
section
variable {prog:Program} {w:World} {A:Around} {E:Value→Shared→Prop} {s:Shared} {z TI TO i1 i2:Addr} {x y:Str} {t u:Tok} {k c d:Nat} {a b:Value}
end
noncomputable abbrev zs1 (h:Heap)(x:Str)(t:Tok):Heap:=h.push { cls:=.type "str_ascii_iterator",data:=.fields #[.str x t,.int 0 0] }
noncomputable abbrev zs2 (h:Heap)(x y:Str)(t u:Tok):Heap:=(zs1 h x t).push { cls:=.type "str_ascii_iterator",data:=.fields #[.str y u,.int 0 0] }
noncomputable abbrev zs3 (h:Heap)(x y:Str)(t u:Tok):Heap:=(zs2 h x y t u).push { cls:=.type "tuple",data:=.seq #[.ref h.objs.size,.ref (zs1 h x t).objs.size] }
noncomputable abbrev zs4 (h:Heap)(x y:Str)(t u:Tok):Heap:=(zs3 h x y t u).push { cls:=.type "tuple",data:=.seq #[.none,.none] }
noncomputable abbrev zs5 (h:Heap)(x y:Str)(t u:Tok):Heap:=(zs4 h x y t u).push { cls:=.type "zip",data:=.fields #[.none,.bool false,.bool false,.ref (zs2 h x y t u).objs.size,.ref (zs3 h x y t u).objs.size] }
set_option maxHeartbeats 2000000 in
theorem zi2 (x y:Str)(t u:Tok)(hx:x.cps.all (· < 128)=true)(hy:y.cps.all (· < 128)=true) :
  Meets (Builtin.«zip.__new__» ⟨[.type "zip",.str x t,.str y u],[]⟩) (fun _ R s=>R (.ok (.ret (.ref (zs4 s.heap x y t u).objs.size))) { s with heap:=zs5 s.heap x y t u }) :=
 .of_wp fun prog w A R s h=>by
  obtain ⟨hp,g,d,tk,os⟩:=s
  have hsub:=sub_zip
  wp_walk using wpAny_pyIter_ascii hx,wpAny_pyIter_ascii hy
  exact ⟨_,rfl,h⟩
end PySem
namespace PySem
theorem call_zipS {prog:Program}{w:World}{A:Around}{E:Value→Shared→Prop}{s:Shared}{x y:Str}{t u:Tok}{Q:Value→Shared→Prop}(hx:x.cps.all (· < 128)=true)(hy:y.cps.all (· < 128)=true)
  (h:∀ h',IsZip h' (s.heap.objs.size+4) (s.heap.objs.size+2) (s.heap.objs.size+3) .none→IsPair h' (s.heap.objs.size+2) (.ref s.heap.objs.size) (.ref (s.heap.objs.size+1))→IsPair h' (s.heap.objs.size+3) .none .none →
   AsIt h' s.heap.objs.size x t 0→AsIt h' (s.heap.objs.size+1) y u 0→(∀ c o,s.heap.get? c=some o→h'.get? c=some o)→Q (.ref (s.heap.objs.size+4)) { s with heap:=h' }) :
  wpAny (model prog w) A (call (.type "zip") [.str x t,.str y u]) Q E s:=by
 refine callType_new F.called_zip (by decide) (F.typeCall_zip_2 _ _) (F.newCall_zip_2 _ _) (fun obj=>F.args_object_init_3 obj _ _) F.entry_zip_new (zi2 x y t u hx hy) ?_
 have n1:(zs1 s.heap x t).objs.size=s.heap.objs.size+1:=Heap.size_push ..
 have n2:(zs2 s.heap x y t u).objs.size=s.heap.objs.size+2:=by rw [Heap.size_push,n1]
 have n3:(zs3 s.heap x y t u).objs.size=s.heap.objs.size+3:=by rw [Heap.size_push,n2]
 have n4:(zs4 s.heap x y t u).objs.size=s.heap.objs.size+4:=by rw [Heap.size_push,n3]
 have g5:(zs5 s.heap x y t u).get? (zs4 s.heap x y t u).objs.size=some _:=Heap.get?_push_size _ rfl
 have g4:(zs5 s.heap x y t u).get? (zs3 s.heap x y t u).objs.size=some _:=Heap.get?_push_of_some _ (Heap.get?_push_size _ rfl)
 have g3:(zs5 s.heap x y t u).get? (zs2 s.heap x y t u).objs.size=some _:=Heap.get?_push_of_some _ (Heap.get?_push_of_some _ (Heap.get?_push_size _ rfl))
 have g2:(zs5 s.heap x y t u).get? (zs1 s.heap x t).objs.size=some _:=Heap.get?_push_of_some _ (Heap.get?_push_of_some _ (Heap.get?_push_of_some _ (Heap.get?_push_size _ rfl)))
 have g1:(zs5 s.heap x y t u).get? s.heap.objs.size=some _:=Heap.get?_push_of_some _ (Heap.get?_push_of_some _ (Heap.get?_push_of_some _ (Heap.get?_push_of_some _ (Heap.get?_push_size _ rfl))))
 show _∧_
 rw [n2,n3,n4] at g5
 rw [n1,n2] at g3
 rw [n3] at g4
 rw [n1] at g2
 rw [n4]
 exact ⟨⟨_,g5,rfl⟩,h _ g5 g3 g4 ⟨_,g1,rfl,rfl⟩ ⟨_,g2,rfl,rfl⟩ fun c o q=>Heap.get?_push_of_some _ (Heap.get?_push_of_some _ (Heap.get?_push_of_some _ (Heap.get?_push_of_some _ (Heap.get?_push_of_some _ q))))⟩
end PySem
namespace L2
open PySem PySem.Spec PyProof.Rows
theorem Inv.stepT {X:Cx}{pins:List (Addr × Obj)}{σ:St}{H:Hp}{s:Shared}{h':Heap}{t':Nat}{ch:List Addr}{T:Addr}{xs:List V}{its:List Value}(I:Inv X pins σ H s)(hf:∀ b∈ch,FpOk X pins H b)
  (k:∀ b o,b∉ch→s.heap.get? b=some o→h'.get? b=some o) (hT:s.heap.objs.size≤T) (hz:xs.length≤sizeLine) (rv:Vals xs its) (ht:IsTup h' T its.toArray) (hnd:NoD h' T) (there:∀ b∈ch,∃ o,s.heap.get? b=some o):Inv X pins σ (upd H T (.tup xs)) { s with heap:=h',toks:=t' }:=by
 have hn:H T=none:=I.hok.fresh hT
 have ne:∀ {b o},s.heap.get? b=some o→b≠T:=fun e=>Nat.ne_of_lt (Nat.lt_of_lt_of_le (Heap.lt_size e) hT)
 have nch:∀ {b u},H b=some u→b∉ch:=fun e z=>by rw [(hf _ z).1] at e;cases e
 refine I.step (g':=s.gens) (d':=s.drawn) (ch:=ch) (fun b hb=>?_) (fun b o _ _ hc e _=>k b o hc e) (fun b o _ _ hc e _=>⟨o.slots,k b o hc e⟩) (fun b o _ e n=>by rw [zai (ne e)];exact n) (fun b o hc e=>⟨o,k b o hc e⟩)
  (fun b ys e=>by rw [zai (zah e hn)];exact e) (fun b o u e=>by rw [zai (zah e hn)];exact e) (fun b ps e=>⟨#[],by rw [zai (zah e hn),e];simp⟩) (fun m hm=>?_) (fun b u e=>?_) I.bare
 ·obtain ⟨_,f1,_,f3,f4,f5⟩:=hf b hb
  exact ⟨f3,f1,f4,f5⟩
 ·obtain ⟨o,es,ep,ho,r⟩:=hm
  exact ⟨o,es,ep,k _ o (fun z=>(hf _ z).2.1 rfl) ho,r⟩
 ·by_cases hb:b=T
  ·subst hb
   rw [zac] at e
   cases e
   exact ⟨hz,its,rv,ht,hnd⟩
  ·rw [zai hb] at e
   refine (I.hok b u e).stay (fun c v hc q=>k c v ?_ q) (fun c q=>by rw [zai (zah q hn)];exact q) fun c ys q=>by rw [zai (zah q hn)];exact q
   rcases hc with z | z
   ·rw [z];exact nch e
   ·exact nch z
section
variable {X:Cx}
theorem ap5_mk (n:Nat):Ap5 (n+4) (n+2) (n+3) n (n+1):=by
 constructor <;> (intro h;have h:(_:Nat)=_:=h;omega)
end
end L2
namespace L2
open PySem PySem.Spec PyProof.Rows Wd
noncomputable def notStar:Expr→Bool
 | .Starred _ _=>false
 | _=>true
theorem star_of {e:Expr}(h:notStar e=true)(es:List Expr)(env:Env):starEach (e::es) env=(false,eval e env)::starEach es env:=by
 cases e <;> first | rfl | cases h
theorem pa_c {X:Cx}{e:Expr}{es:List Expr}{te:TE}{t:TA}(ha:PE X e te)(hr:PA X es t)(h:notStar e=true:=by rfl):PA X (e::es) (tCons te t):=zaa ha hr (star_of h _ _)
noncomputable def letters:List Str:=([0,1,2,3,4,5,6,7,8,9,10,11]:List L).map fun x=>toS [x]
end L2
namespace Kx
open PySem PySem.Spec PyProof.Rows L2 Wd
theorem asc (u:List L):(toS u).cps.all (· < 128)=true:=by
 rw [← Array.all_toList,zbz,List.all_eq_true]
 intro c hc
 obtain ⟨x,_,rfl⟩:=List.mem_map.mp hc
 exact decide_eq_true (cp_lt x)
theorem tx_one {x y:L}:tx [x]=tx [y] ↔ x=y:=⟨fun e=>by have:=zgq e; simpa using this,fun e=>by rw [e]⟩
end Kx
namespace L2
open PySem PySem.Spec PyProof.Rows Wd
section
variable {X:Cx}
end
theorem at_mem {xs:List V}{q:Int}(h0:0≤q)(h1:q < xs.length):∃ y,atI xs q=some y∧y∈xs:=by
 obtain ⟨k,rfl⟩:=Int.eq_ofNat_of_zero_le h0
 have hk:k < xs.length:=by omega
 refine ⟨xs[k],?_,List.getElem_mem hk⟩
 unfold atI ixN
 rw [if_pos (by omega),if_pos (by omega)]
 show xs[((k:Nat):Int).toNat]? = _
 rw [Int.toNat_natCast,List.getElem?_eq_getElem hk]
end L2
namespace Kx
open PySem PySem.Spec PyProof.Rows L2 Wd
theorem s12:toS [0,1,2,3,4,5,6,7,8,9,10,11]=("abcdefABCDEF":Str):=by decide +kernel
end Kx
namespace L2
open PySem PySem.Spec PyProof.Rows Wd
end L2
namespace L2
open PySem PySem.Spec PyProof.Rows Wd
theorem pt_bl {X:Cx}{a:Expr}{ta:TE}(ha:PE X a ta)(he:∀ whole,isTrue a X.env whole=(do let v ← whole; standAt a.pos; holding [v] (truthy v))):PT X a (tTest ta):=by
 intro pins s σ H Q I h
 refine isTrue_plain (thn (ha pins s σ H _ I h) fun v s1 ⟨x,H1,I1,r1,q1⟩=>tru_ok pins s1 σ H1 x v Q I1 r1 ?_) (he _)
 obtain ⟨k,e,q⟩:=q1
 subst e
 exact ⟨k,rfl,q⟩
end L2
namespace L2
open PySem PySem.Spec PyProof.Rows Wd
theorem while_to {c:TT}{tb:TS}{D:Ends}{σ:St}{H:Hp}(W:Nat→St→Hp→Prop)(E:St→Hp→Prop)(h0:∃ m,W m σ H)
  (turn:∀ nx:St→Hp→Prop,(∀ σ H,E σ H→nx σ H)→∀ m σ H,W m σ H→c σ H fun b H1=>if b=true then ∃ N:St→Hp→Prop,(∀ σ' H',N σ' H'→∃ m',m' < m∧W m' σ' H')∧tb { D with nx:=N,ct:=N,bk:=nx } σ H1 else nx σ H1)
  (he:∀ σ H,E σ H→D.nx σ H):tWhile c tb D σ H:=⟨W,h0,turn D.nx he⟩
theorem two_ends {u:List L}(h:1 < u.length):∃ x mid z,u=x::(mid++[z]):=by
 match u,h with
 | x::y::r,_ =>
  refine ⟨x,(y::r).dropLast,(y::r).getLast (by simp),?_⟩
  rw [List.dropLast_concat_getLast]
end L2
namespace L2
open PySem PySem.Spec PyProof.Rows Wd
theorem Fd.neT {H:Hp}{d a:Addr}{xs:List V}(F:Fd H d)(h:H a=some (.tup xs)):a≠d:=by
 obtain ⟨c,i,l,t,ns,h1,h2,h3,h4⟩:=F.ex
 exact zjg h h1 (by intro z;cases z)
end L2
namespace L2
open PySem PySem.Spec PyProof.Rows Wd
end L2
namespace L2
open PySem PySem.Spec PyProof.Rows
theorem ps_setC {X:Cx}{i:Nat}{y:Str}{py spos:Pos}{elt iter tg:Expr}{ifs:List Expr}{scope:Scope}{pos:Pos}{NB own:List Str}{cap:List Nat}{wi:TI}{g:TG}{ti:TT}{te:TE}(hN:X.N.Nodup)(hi0:X.N[i]? = some y)(hx:Loc X.env.scope y)(B:Blk X scope NB own cap)(hc:X.calm=true)(hi:PI X tg iter wi)
  (hg:∀ C fp s₀ H₀,PG (cxB X NB own scope C fp s₀ H₀) tg g) (ht:∀ C fp s₀ H₀,PIf (cxB X NB own scope C fp s₀ H₀) ifs ti) (he:∀ C fp s₀ H₀,PE (cxB X NB own scope C fp s₀ H₀) elt te)
  (hs:∀ x,foldedSetIterable iter X.env x=pure x:=by intro _;rfl) (hsw:swapsWith (.ListComp elt [⟨tg,iter,ifs,0⟩] scope pos) (some (.Name y py)) spos.line X.env=pure true:=by rfl) (hf:X.fn y=true ∨ X.env.scope.names.lookup y=some .local:=by first | exact .inl rfl | exact .inr rfl | assumption):PS X (.Assign [.Name y py] (.ListComp elt [⟨tg,iter,ifs,0⟩] scope pos) spos) (tAsg (tComp own cap wi g ti te) (gName i)):=by
 intro pins s σ H DD I0 h
 rw [exec_Assign_Name_used _ _ _ _ hsw]
 refine wpAny_bind (wpAny_standAt (wpAny_bind ?_))
 show wpAny _ X.A (do let _ ← comprehension (.ListComp elt [⟨tg,iter,ifs,0⟩] scope pos) scope X.env _ (newList []) false (eval iter X.env) (some (assign (.Name y py) X.env))) _ _ s
 have hclos:=zc8 (env:=X.env) (scope:=scope) fun y hy e=>I0.ok.has y.1 (.inl (B.free y hy e))
 refine wpAny_bind (wpAny_mono (wpAny_comprehension_free (use:=some (assign (.Name y py) X.env)) (Q:=fun _ s'=>SP X pins DD .next s') rfl hs hclos B.kind B.names (thn (hi pins s σ H _ I0 h) fun v s1 h1=>thn h1 fun itv s2 h2=>?_)) (fun _ s' hq=>wpAny_pure (wpAny_pure hq)) fun _ _ e=>e)
 obtain ⟨it,fp,tn,J,H2,rfl,I,T,st2,f2,W,⟨m0,w0⟩,turn⟩:=h2
 refine wpAny_newList ?_
 refine wpAny_newFunctionEnv B.nocell (by intro y hy;simp at hy) (fun h₁ hns₁ hsb₁=>?_) B.kind
 dsimp only at hns₁ hsb₁ ⊢
 generalize hP:s2.heap.push { cls:=.type "list",dict:=none,data:=.seq ([]:List Value).toArray }=P at hns₁ hsb₁ ⊢
 have hC:P.objs.size=s2.heap.objs.size+1:=by rw [← hP,Heap.size_push]
 have hDC:s2.heap.objs.size≠P.objs.size:=by rw [hC];exact Nat.ne_of_lt (Nat.lt_succ_self _)
 have hCle:s2.heap.objs.size≤P.objs.size:=by rw [hC];exact Nat.le_succ _
 have old:∀ b o,s2.heap.get? b=some o→h₁.get? b=some o:=fun b o e=>by
  refine (hsb₁.2 b ?_).trans (Heap.get?_push_of_some _ (hP ▸ Heap.get?_push_of_some _ e))
  exact Nat.ne_of_lt (Nat.lt_of_lt_of_le (Heap.lt_size e) hCle)
 have hD:h₁.get? s2.heap.objs.size=some { cls:=.type "list",data:=.seq ([]:List Value).toArray 0 }:=by
  refine (hsb₁.2 _ hDC).trans (Heap.get?_push_of_some _ ?_)
  rw [← hP]
  exact Heap.get?_push_size _ rfl
 have hfs:∀ b∈fp,∃ o,s2.heap.get? b=some o:=fun b hb=>let ⟨o,e,_⟩:=T.obj _ _ st2 b hb;⟨o,e⟩
 have st4:tn 0 h₁:=T.keep _ _ _ st2 fun b _ o e=>old b o e
 generalize htk:s2.toks+([]:List (Str × Value)).length=tk4
 have I4:=B.start (C:=P.objs.size) (tk:=tk4) I f2 hfs hCle old hns₁
 have fOk:∀ {H':Hp} {b:Addr} {ob:Obj},b∈fp→H' b=none→FpOk (cxB X NB own scope P.objs.size fp s2 H2) [(s2.heap.objs.size,ob)] H' b:=fun {H' b ob} hb hn=>by
  obtain ⟨o,e⟩:=hfs b hb
  refine ⟨hn,(I4.ok.exf b hb).1,I4.ok.exfs b hb,.inl hb,(I4.ok.exf b hb).2,fun p hp=>?_⟩
  have ep:p=(s2.heap.objs.size,ob):=List.mem_singleton.mp (show p∈[(s2.heap.objs.size,ob)] from hp)
  rw [ep]
  exact fun z=>absurd (Heap.lt_size e) (by rw [← z];exact Nat.lt_irrefl _)
 have dnf:s2.heap.objs.size∉frs X.stack:=fun z=>by
  rcases List.mem_cons.mp (I.stkSub _ z) with z | z
  ·exact absurd I.lt (by rw [← z];exact Nat.lt_irrefl _)
  ·exact I.nofs (Nat.le_refl _) z
 have I3D:∀ {σ3:St} {H3:Hp} {s3:Shared} {its:List Value} {k:Nat},Inv (cxB X NB own scope P.objs.size fp s2 H2) [] σ3 H3 s3→s3.heap.get? s2.heap.objs.size=some { cls:=.type "list",data:=.seq its.toArray k }→H3 s2.heap.objs.size=none →
   Inv (cxB X NB own scope P.objs.size fp s2 H2) [(s2.heap.objs.size,{ cls:=.type "list",data:=.seq its.toArray k })] σ3 H3 s3:=fun I3 e n=>I3.pins_of fun p hp=>by
  have ep:=List.mem_singleton.mp hp
  subst ep
  exact ⟨e,n,hDC,dnf,fun v z=>by cases z⟩
 have ndf:s2.heap.objs.size∉fp:=fun z=>by
  obtain ⟨o,e⟩:=hfs _ z
  exact absurd (Heap.lt_size e) (Nat.lt_irrefl _)
 have nCD:∀ x c,(cxB X NB own scope P.objs.size fp s2 H2).env.cells.lookup x=some c→c≠s2.heap.objs.size:=fun x c e z=>by
  obtain ⟨v,o,ho,_⟩:=I.cell x c (B.cells I.ok e).1
  rw [z] at ho
  exact absurd (Heap.lt_size ho) (Nat.lt_irrefl _)
 have loop:∀ s₃:Shared,s₃ = { s2 with heap:=h₁,toks:=tk4 }→codeAny (model X.prog X.w) X.A (.compLoop (.ListComp elt [⟨tg,iter,ifs,0⟩] scope pos) 0 (.ref it) (.ref s2.heap.objs.size) (cxB X NB own scope P.objs.size fp s2 H2).env)
   (compPost (model X.prog X.w) X.A X.xe (some (assign (.Name y py) X.env)) (fun _ s'=>SP X pins DD .next s') (.ref s2.heap.objs.size) P.objs.size) s₃:=by
  rintro s₃ rfl
  refine zgn (fun n s'=>∃ i σB H' ys its k,Inv (cxB X NB own scope P.objs.size fp s2 H2) [] σB H' s'∧tn i s'.heap∧(∀ b∈fp,H' b=none)∧s'.heap.get? s2.heap.objs.size=some { cls:=.type "list",data:=.seq (its:List Value).toArray k }∧Vals ys its∧H' s2.heap.objs.size=none∧W i n ys σB H') ?_ m0
   ⟨0,stB own cap σ,H2,[],[],0,I4,st4,fun b hb=>(f2 b hb).1,hD,.nil,I.hok.fresh (Nat.le_refl _),w0⟩
  rintro n s3 ⟨i,σ3,H3,ys,its,k,I3,st3,fr3,hD3,rv,hn3,w3⟩
  rcases turn i n ys σ3 H3 w3 with ⟨stop,hz,q⟩ | ⟨go,hz,step⟩
  ·refine thn (T.done (cxB X NB own scope P.objs.size fp s2 H2) rfl rfl rfl hc i _ s3 σ3 H3 noE (I3D I3 hD3 hn3) (fun b hb=>fOk hb (fr3 b hb)) st3 stop) fun r s4 zq1=>?_
   obtain ⟨hr,I4'⟩:=zq1
   subst hr
   have hD4:s4.heap.get? s2.heap.objs.size=some { cls:=.type "list",data:=.seq (its:List Value).toArray k }:=(I4'.pin (s2.heap.objs.size,_) (List.mem_append_right _ (List.mem_singleton.mpr rfl))).1
   have I5:Inv (cxB X NB own scope P.objs.size fp s2 H2) [] σ3 H3 s4:=I4'.pins_of fun p hp=>absurd (show p∈([]:List (Addr × Obj)) from hp) (by simp)
   obtain ⟨mC,hnC,_⟩:=I5.loc
   have I6:Inv X pins σ (upd H3 s2.heap.objs.size (.lst ys)) s4:=B.done (h'':=s4.heap) I f2 hCle (Nat.le_refl _) hDC I5 hn3 hD4 rv hz ⟨rfl,fun _ _=>rfl⟩
   obtain ⟨oC,es,ep,hoC,hdC,rC⟩:=hnC
   have hCn:(upd H3 s2.heap.objs.size (.lst ys)) P.objs.size=none:=by rw [zai hDC.symm];exact I5.free
   have nL:P.objs.size≠X.env.locals:=fun z=>absurd I.lt (by rw [← z];exact Nat.not_lt.mpr hCle)
   have I7:Inv X (pins++[(P.objs.size,oC)]) σ (upd H3 s2.heap.objs.size (.lst ys)) s4:=I6.pins_of fun p hp=>by
    rcases List.mem_append.mp hp with z | z
    ·exact I6.pin p (List.mem_append_right _ z)
    ·have ep:=List.mem_singleton.mp z
     subst ep
     exact ⟨hoC,hCn,nL,I.nofs hCle,fun v z=>by rw [hdC] at z;cases z⟩
   refine thn (za4 (pos:=py) hN hi0 hx hf (pins++[(P.objs.size,oC)]) s4 σ _ (.ref s2.heap.objs.size) (.ref s2.heap.objs.size) (fun σ' H'=>DD.nx σ' H'∧H'=upd H3 s2.heap.objs.size (.lst ys)) I7 rfl ⟨q _ hn3,rfl⟩) fun _ s5 zq2=>?_
   obtain ⟨σ5,H5,I8,q5,e5⟩:=zq2
   subst e5
   have pC:=(I8.pin (P.objs.size,oC) (List.mem_append_right _ (List.mem_append_right _ (List.mem_singleton.mpr rfl)))).1
   refine ⟨mC,⟨oC,es,ep,pC,hdC,rC⟩,fun h'' sb=>⟨σ5,_,?_,q5⟩⟩
   have I9:Inv X pins σ5 (upd H3 s2.heap.objs.size (.lst ys)) s5:=I8.pins_of fun p hp=>I8.pin p (List.mem_append_right _ (List.mem_append_left _ hp))
   refine I9.turned (t':=s5.toks) (it:=P.objs.size) (fun b o hb e=>(sb.2 b hb).trans e) hCn nL (.inr (Nat.le_trans I.sz hCle)) (fun x c e z=>?_) fun p hp z=>?_
   ·obtain ⟨v,o,ho,_⟩:=I.cell x c e
    exact absurd (Heap.lt_size ho) (by rw [z];exact Nat.not_lt.mpr hCle)
   ·exact absurd (Heap.lt_size (I.pin p hp).1) (by rw [z];exact Nat.not_lt.mpr hCle)
  ·refine thn (T.item (cxB X NB own scope P.objs.size fp s2 H2) rfl rfl rfl hc i _ s3 σ3 H3 noE (I3D I3 hD3 hn3) (fun b hb=>fOk hb (fr3 b hb)) st3 go) fun r s4 zq3=>?_
   obtain ⟨u,hr,h4⟩:=zq3
   subst hr
   refine thn h4 fun _ s5 zq4=>?_
   obtain ⟨x,H5,I5,r5,y5,st5,fr5⟩:=zq4
   have I5':=I5.pinned (fun b hb=>fOk hb (fr5 b hb)) (T.obj _ _ st5)
   refine thn (hg _ fp s2 H2 _ s5 σ3 H5 x u _ I5' r5 (step x H5 y5)) fun _ s6 zq5=>?_
   obtain ⟨σ6,H6,I6,q6⟩:=zq5
   refine thn (ht _ fp s2 H2 _ s6 σ6 H6 _ I6 q6) fun b s7 zq6=>?_
   obtain ⟨H7,I7,q7⟩:=zq6
   have pinned:∀ {σ8:St} {H8:Hp} {s8:Shared},Inv (cxB X NB own scope P.objs.size fp s2 H2) ([(s2.heap.objs.size,{ cls:=.type "list",data:=.seq (its:List Value).toArray k })]++pinsAt fp s5.heap) σ8 H8 s8 →
     tn (i+1) s8.heap∧(∀ b∈fp,H8 b=none)∧s8.heap.get? s2.heap.objs.size=some { cls:=.type "list",data:=.seq (its:List Value).toArray k }∧H8 s2.heap.objs.size=none:=fun {σ8 H8 s8} I8=>by
    refine ⟨T.keep _ _ _ st5 fun b hb o e=>(I8.pin (b,o) (List.mem_append_right _ (List.mem_append_right _ (zbp hb e)))).1,fun b hb=>?_,?_,?_⟩
    ·obtain ⟨o,e,d⟩:=T.obj _ _ st5 b hb
     exact (I8.pin (b,o) (List.mem_append_right _ (List.mem_append_right _ (zbp hb e)))).2.1
    ·exact (I8.pin (s2.heap.objs.size,_) (List.mem_append_right _ (List.mem_append_left _ (List.mem_singleton.mpr rfl)))).1
    ·exact (I8.pin (s2.heap.objs.size,_) (List.mem_append_right _ (List.mem_append_left _ (List.mem_singleton.mpr rfl)))).2.1
   have nopin:∀ {pp:List (Addr × Obj)} {σ8:St} {H8:Hp} {s8:Shared},Inv (cxB X NB own scope P.objs.size fp s2 H2) pp σ8 H8 s8→Inv (cxB X NB own scope P.objs.size fp s2 H2) [] σ8 H8 s8:=fun I8=>I8.pins_of fun p hp=>absurd (show p∈([]:List (Addr × Obj)) from hp) (by simp)
   cases b with
   | false =>
    rw [if_neg Bool.false_ne_true] at q7 ⊢
    obtain ⟨m',hm,w7⟩:=q7
    obtain ⟨p1,p2,p3,p4⟩:=pinned I7
    exact ⟨m',hm,i+1,σ6,H7,ys,its,k,nopin I7,p1,p2,p3,rv,p4,w7⟩
   | true =>
    rw [if_pos rfl] at q7 ⊢
    refine thn (he _ fp s2 H2 _ s7 σ6 H7 _ I7 q7) fun yv s8 zq7=>?_
    obtain ⟨y,H8,I8,r8,m',hm,w8⟩:=zq7
    obtain ⟨p1,p2,p3,p4⟩:=pinned I8
    refine call_meets F.slot_list_append ⟨_,p3,rfl⟩ F.entry_list_append (F.args_list_append_2 _ _) (PySem.list_append s2.heap.objs.size its.toArray k yv (by rw [List.size_toArray,← rv.length];omega)) ⟨p3,?_⟩
    have q:=PySem.IsL.update p3 fun a=>a.push yv
    have ea:its.toArray.push yv=(its++[yv]).toArray:=by simp
    rw [ea] at q
    have I9:Inv (cxB X NB own scope P.objs.size fp s2 H2) [] σ6 H8 { s8 with heap:=s8.heap.update s2.heap.objs.size (Obj.mapSeq fun a=>a.push yv),toks:=s8.toks } :=
     (nopin I8).turned (it:=s2.heap.objs.size) (fun b o hb e=>(Heap.get?_update_other s8.heap _ (Ne.symm hb)).trans e) p4 hDC (.inr (Nat.le_refl _)) (fun x c e=>nCD x c e) fun p hp=>absurd (show p∈([]:List (Addr × Obj)) from hp) (by simp)
    refine ⟨m',hm,i+1,σ6,H8,ys++[y],its++[yv],_,I9,?_,p2,q,rv.append (.cons r8 .nil),p4,w8⟩
    refine T.keep _ _ _ p1 fun b hb o e=>(Heap.get?_update_other s8.heap _ ?_).trans e
    intro z
    rw [z] at ndf
    exact ndf hb
 exact codeAny_compStart_list (loop _ rfl) (T.self X.A 0 _ _ _ st4 (loop _ rfl))
end L2
namespace L2
open PySem PySem.Spec PyProof.Rows Wd
end L2
namespace L2
open PySem PySem.Spec PyProof.Rows Wd
section
variable {X:Cx}
end
end L2
namespace L2
open PySem PySem.Spec PyProof.Rows
section
variable {X:Cx}
end
end L2
namespace L2
open PySem PySem.Spec PyProof.Rows
section
variable {prog:Program} {w:World} {A:Around} {E:Value→Shared→Prop} {s:Shared}
end
section
variable {X:Cx}
end
end L2
namespace L2
open PySem PySem.Spec PyProof.Rows
section
variable {X:Cx}
end
end L2
namespace L2
open PySem PySem.Spec PyProof.Rows
section
variable {X:Cx}
end
end L2
namespace PySem
open Sem (wp)
open AutoSeq1 (wpAny_loadPart')
section
variable {prog:Program} {w:World} {A:Around} {E:Value→Shared→Prop} {s:Shared}
end
end PySem
namespace L2
open PySem PySem.Spec PyProof.Rows Wd
noncomputable def Itel (K:PySem.W.Frag)(a:Addr):It:=⟨fun i H=>∃ xs x,SqL K H a xs∧xs[i]? = some x,
 fun i H v H'=>∃ (T:Addr) (x:V),H T=none∧v = .ref T∧(∀ xs,SqL K H a xs→xs[i]? = some x)∧H'=upd H T (.tup [.int i,x]),fun i H=>∃ xs,SqL K H a xs∧xs.length≤i⟩
theorem enum_item {X:Cx}{pins:List (Addr × Obj)}{σ:St}{H:Hp}{s:Shared}{E:Value→Shared→Prop}{elts:List Expr}{k:Nat}{pos:Pos}{e it:Addr}{fp:List Addr}{n i:Nat}{Pv:Nat→Value→Prop}{St':Nat→Heap→Prop}{old:Value}{tn:Nat→Heap→Prop}{Y:V→Hp→Prop}{x:V}
  (D:Draws X.prog X.w X.A.in1 it fp n Pv St') (I:Inv X pins σ H s) (hf:∀ b∈[e,it],FpOk X pins H b) (he:IsEnum s.heap e it i old) (hst:St' i s.heap) (hi:i < n) (hne:e≠it) (hef:e∉fp) (hrel:∀ u,Pv i u→RelV x u) (hit:∃ o,s.heap.get? it=some o)
  (hY:∀ T,H T=none→Y (.ref T) (upd H T (.tup [.int i,x]))) (htn:∀ h',St' (i+1) h'→(∃ old,IsEnum h' e it ((i:Int)+1) old)→tn (i+1) h') :
  wpAny (model X.prog X.w) X.A (pyNext (.ref e)) (fun r s1=>∃ u,r=some u ∧
   wpAny (model X.prog X.w) X.A (letOwnedTupleGo (.Tuple elts k pos) (.ref e) u) (fun _ s2=>∃ y H',Inv X pins σ H' s2∧RelV y u∧Y y H'∧tn (i+1) s2.heap∧∀ b∈[e,it],H' b=none) E s1) E s:=by
 refine wpAny_pyNext_enum_itemD D he hst hi hne hef fun u h' tk hu b1 b2 b3 b4 b5=>⟨_,rfl,wpAny_letOwnedTupleGo_enum b1 fun h2 c1 e2=>?_⟩
 have hTe:s.heap.objs.size≠e:=Nat.ne_of_gt (Heap.lt_size he)
 have kk:∀ b o,b∉[e,it]→s.heap.get? b=some o→h2.get? b=some o:=fun b o hb q=>by
  simp only [List.mem_cons,List.not_mem_nil,or_false,not_or] at hb
  exact e2.extBut _ _ hb.1 (b5 b o hb.1 hb.2 q)
 have there:∀ b∈[e,it],∃ o,s.heap.get? b=some o:=fun b hb=>by
  simp only [List.mem_cons,List.not_mem_nil,or_false] at hb
  rcases hb with rfl | rfl
  ·exact ⟨_,he⟩
  ·exact hit
 have I2:Inv X pins σ (upd H s.heap.objs.size (.tup [.int i,x])) { s with heap:=h2,toks:=tk+1 } :=
  I.stepT (ch:=[e,it]) (its:=[.int i tk,u]) hf kk (Nat.le_refl _) (by show 2≤sizeLine;decide) (.cons ⟨_,rfl⟩ (.cons (hrel u hu) .nil)) ⟨_,e2.extBut _ _ hTe b3,rfl,_,rfl⟩ ⟨_,e2.extBut _ _ hTe b3,rfl⟩ there
 have hn:H s.heap.objs.size=none:=I.hok.fresh (Nat.le_refl _)
 refine ⟨.ref s.heap.objs.size,_,I2,rfl,hY _ hn,htn h2 (D.frame _ _ _ b2 fun b hb o q=>e2.extBut _ _ (fun z=>hef (z ▸ hb)) q) ⟨_,c1⟩,fun b hb=>?_⟩
 obtain ⟨o,q⟩:=there b hb
 rw [zai (Nat.ne_of_lt (Heap.lt_size q))]
 exact (hf b hb).1
theorem turn_enl {P:Program}{w:World}{K:PySem.W.Frag}{elts:List Expr}{k:Nat}{pos:Pos}{e it a:Addr}(hne:e≠it) :
  Turn P w K (.Tuple elts k pos) (Itel K a) [e,it] e (fun i h=>(∃ old,IsEnum h e it i old)∧h.IsListIter it a i) where
 mem:=by simp
 obj:=fun i h st b hb=>by
  obtain ⟨⟨old,s1⟩,⟨o,s2,_,d2⟩⟩:=st
  simp only [List.mem_cons,List.not_mem_nil,or_false] at hb
  rcases hb with rfl | rfl
  ·exact ⟨_,s1,fun v q=>by cases q⟩
  ·exact ⟨_,s2,fun v q=>by rw [d2] at q;cases q⟩
 keep:=fun i h h' st kk=>by
  obtain ⟨⟨old,s1⟩,s2⟩:=st
  exact ⟨⟨old,kk e (by simp) _ s1⟩,s2.at fun o q=>kk it (by simp) o q⟩
 item:=by
  intro X hP hw hK hc i pins s σ H E I hf st hg
  subst hP hw hK
  obtain ⟨xs,x,hq,hx⟩:=hg
  obtain ⟨its,rv,p,hz⟩:=I.list hq
  obtain ⟨u,hu,ru⟩:=rv.get hx
  obtain ⟨⟨old,s1⟩,s2⟩:=st
  have hu':its.toArray[i]? = some u:=by simpa using hu
  have ha:a≠e:=fun z=>by obtain ⟨o,q,c,_⟩:=p.isList;rw [z,s1] at q;cases q;simp at c
  have hb:a≠it:=fun z=>by obtain ⟨o,q,c,_⟩:=p.isList;obtain ⟨o2,q2,c2,_⟩:=s2;rw [z,q2] at q;cases q;rw [c2] at c;simp at c
  refine enum_item (tn:=fun i h=>(∃ old,IsEnum h e it i old)∧h.IsListIter it a i) (Draws.list (by exact I.ok.hd hc) it a hb its.toArray) I hf s1 ⟨s2,p.isList⟩ (Array.getElem?_eq_some_iff.mp hu').1 hne (by simp only [List.mem_cons,List.not_mem_nil,or_false,not_or];exact ⟨hne,fun z=>ha z.symm⟩)
   (fun u2 h2=>by rw [show its.toArray[i]? = some u2 from h2] at hu';cases hu';exact ru) (let ⟨o,q,_⟩:=s2;⟨o,q⟩) (fun T hT=>⟨T,x,hT,rfl,fun ys hy=>by rw [I.list_inj hy hq];exact hx,rfl⟩) fun h' st' ho=>⟨by simpa using ho,st'.1⟩
 done:=by
  intro X hP hw hK hc i pins s σ H E I hf st hg
  subst hP hw hK
  obtain ⟨xs,hq,hx⟩:=hg
  obtain ⟨its,rv,p,hz⟩:=I.list hq
  obtain ⟨⟨old,s1⟩,s2⟩:=st
  obtain ⟨f0,f1,f2,f3,f4,f5⟩:=hf it (by simp)
  have hl:=rv.length
  exact wpAny_pyNext_enum_end (I.ok.hd hc) s1 s2 p.isList (by simp;omega) fun h' eb=>⟨rfl,I.turned (t':=s.toks) (fun b o hb q=>eb b o hb q) f0 f1 f3 f4 f5⟩
 self:=fun _ _ _ _ _ st h=>let ⟨⟨_,s1⟩,_⟩:=st;wpAny_pyIter_enum s1 h
section
variable {X:Cx}
noncomputable def iEnl (K:PySem.W.Frag)(ta:TA):TI:=fun σ H R=>ta σ H fun vs H1=>∃ a,vs=[.ref a]∧(∃ xs,SqL K H1 a xs)∧R (Itel K a) H1
theorem fp2 {pins:List (Addr × Obj)}{σ:St}{H:Hp}{s:Shared}(I:Inv X pins σ H s):∀ b∈[s.heap.objs.size+1,s.heap.objs.size],FpOk X pins H b:=fun b hb=>by
 have hge:s.heap.objs.size≤b:=by
  simp only [List.mem_cons,List.not_mem_nil,or_false] at hb
  rcases hb with rfl | rfl <;> omega
 exact I.fpOk hge (I.hok.fresh hge)
theorem pi_enl {K:PySem.W.Frag}(hK:X.K=K){a:Expr}{ta:TA}{p pos tp:Pos}{elts:List Expr}{k:Nat}(hg:Gl X "enumerate")(hm:X.mg "enumerate" = none)(hb:bootBuiltins "enumerate" = some (.type "enumerate"))(ha:PA X [a] ta)(hs:starEach [a] X.env=[(false,eval a X.env)]:=by rfl) :
  PI X (.Tuple elts k tp) (.Call (.Name "enumerate" p) [a] [] pos) (iEnl K ta):=by
 subst hK
 intro pins s σ H R I h
 refine Call_ (zdm I hg hm hb (PyProof.Rows.callWith_type1 (thn (ha pos pins s σ H _ I h) fun us s1 zq1=>?_) hs rfl))
 obtain ⟨vs,H1,I1,r1,q1⟩:=zq1
 obtain ⟨l,rfl,⟨xs,hq⟩,q⟩:=q1
 obtain ⟨u1,rfl,ru⟩:=zcc r1
 cases ru
 obtain ⟨its,rv,pl,hz⟩:=I1.list hq
 refine call_enumerate_list pl.isList fun h' b1 b2 b3 b4=>?_
 have I2:Inv X pins σ H1 { s1 with heap:=h',toks:=s1.toks }:=I1.kept b4
 exact wpAny_pyIter_enum (s:={ s1 with heap:=h',toks:=s1.toks }) b1 ⟨s1.heap.objs.size+1,[s1.heap.objs.size+1,s1.heap.objs.size],_,Itel X.K l,H1,rfl,I2,turn_enl (Nat.succ_ne_self _),⟨⟨_,b1⟩,b2⟩,fp2 I1,q⟩
end
theorem for_enl {K:PySem.W.Frag}{a:Addr}{xs:List V}{g:TG}{tb:TS}{D:Ends}{σ:St}{H:Hp}(Pv:Nat→St→Hp→Prop)(h0:Pv 0 σ H)(hl:∀ i σ H,i≤xs.length→Pv i σ H→SqL K H a xs)
  (hs:∀ i x σ H T,xs[i]? = some x→Pv i σ H→H T=none→g (.ref T) σ (upd H T (.tup [.int i,x])) fun σ2 H2=>tb { D with nx:=Pv (i+1),ct:=Pv (i+1),bk:=D.nx } σ2 H2) (hd:∀ σ H,Pv xs.length σ H→D.nx σ H) :
  ∃ W:Nat→Nat→St→Hp→Prop,(∃ m,W 0 m σ H)∧∀ i m σ H,W i m σ H →
   ((Itel K a).stop i H∧D.nx σ H) ∨ ((Itel K a).go i H∧∃ N:St→Hp→Prop,(∀ σ' H',N σ' H'→∃ m',m' < m∧W (i+1) m' σ' H')∧∀ x H',(Itel K a).yld i H x H'→g x σ H' fun σ2 H2=>tb { D with nx:=N,ct:=N,bk:=D.nx } σ2 H2):=by
 refine ⟨fun i m σ H=>m=xs.length - i∧i≤xs.length∧Pv i σ H,⟨xs.length,by simp,Nat.zero_le _,h0⟩,?_⟩
 rintro i m σ H ⟨rfl,hi,p⟩
 have q:=hl i σ H hi p
 by_cases hlt:i < xs.length
 ·refine .inr ⟨⟨xs,xs[i],q,by simp [hlt]⟩,Pv (i+1),fun σ' H' p'=>⟨xs.length - (i+1),by omega,rfl,hlt,p'⟩,?_⟩
  rintro v H' ⟨T,x,hT,rfl,hx,rfl⟩
  exact hs i x σ _ T (hx xs q) p hT
 ·obtain rfl:i=xs.length:=by omega
  exact .inl ⟨⟨xs,q,Nat.le_refl _⟩,hd σ H p⟩
end L2
namespace PySem
open Sem (wp)
section
variable {prog:Program} {w:World} {A:Around} {E:Value→Shared→Prop} {s:Shared} {z TI TO i1 i2:Addr} {k n1 n2:Nat} {a b:Value} {fp1 fp2:List Addr} {P1 P2:Nat→Value→Prop} {S1 S2:Nat→Heap→Prop}
end
end PySem
namespace PySem
end PySem
namespace L2
open PySem PySem.Spec PyProof.Rows Wd
section
variable {X:Cx}
end
end L2
namespace L2
open PySem PySem.Spec PyProof.Rows Wd
section
variable {X:Cx}
end
end L2
namespace Kx
open PySem PySem.Spec PyProof.Rows L2 Wd
inductive Stp where
 | out (n:Nat)
 | inn (n:Nat) (x:L)
 | rng (n:Nat) (u:List L) (m:Nat)
noncomputable def Stp.hd:Stp→Str
 | .out _=>"out"
 | .inn _ _=>"in"
 | .rng _ _ _=>"ring"
noncomputable def Stp.args:Stp→List V
 | .out n=>[.int n]
 | .inn n x=>[.int n,tx [x]]
 | .rng n u m=>[.int n,tx u,.int m]
noncomputable def Stp.vs (s:Stp):List V:=.str s.hd::s.args
noncomputable def Gd (c:Nat):Prop:=(48≤c∧c≤57) ∨ 65≤c
end Kx
namespace L2
open PySem PySem.Spec PyProof.Rows Wd
section
variable {X:Cx} {tg:Expr}
noncomputable def iSq (K:PySem.W.Frag)(tl:TE):TI:=fun σ H R=>tl σ H fun x H1=>∃ a xs,x = .ref a∧((SqL K H1 a xs∧R (Itl K a) H1) ∨ (SqT K H1 a xs∧R (Itt K a) H1))
theorem pi_sq {l:Expr}{tl:TE}(hl:PE X l tl):PI X tg l (iSq X.K tl):=by
 intro pins s σ H R I h
 refine thn (hl pins s σ H _ I h) fun v s1 zq1=>?_
 obtain ⟨x,H1,I1,r1,q1⟩:=zq1
 obtain ⟨a,xs,e,hq⟩:=q1
 subst e
 cases r1
 have fp:∀ b∈[s1.heap.objs.size],FpOk X pins H1 b:=fun b hb=>by
  obtain rfl:b=s1.heap.objs.size:=by simpa using hb
  exact I1.fpOk (Nat.le_refl _) (I1.hok.fresh (Nat.le_refl _))
 rcases hq with ⟨hq,q⟩ | ⟨hq,q⟩
 ·obtain ⟨its,rv,p,hz⟩:=I1.list hq
  exact wpAny_pyIter_list p.isList ⟨s1.heap.objs.size,[s1.heap.objs.size],_,_,H1,rfl,I1.kept (t':=s1.toks) fun b o e=>Heap.get?_push_of_some _ e,zf9 a _,⟨_,Heap.get?_push_size _ rfl,rfl,rfl⟩,fp,q⟩
 ·obtain ⟨its,rv,p,hz⟩:=I1.tuple hq
  exact wpAny_pyIter_tuple (show s1.heap.IsTuple a its.toArray from p) ⟨s1.heap.objs.size,[s1.heap.objs.size],_,_,H1,rfl,I1.kept (t':=s1.toks) fun b o e=>Heap.get?_push_of_some _ e,zez a _,⟨_,Heap.get?_push_size _ rfl,rfl,rfl⟩,fp,q⟩
inductive rNeTn (K:PySem.W.Frag)(x:V)(y:V)(H:Hp)(Q:VK):Prop
 | mk:∀ a b xs,(x = .ref a)→(y = .ref b)→(SqT K H a xs)→(H b=some (.tup []))→(Q (.bl (!xs.isEmpty)) H)→rNeTn K x y H Q
theorem zi3 (hu:X.A.units+64 < cLine):OpR X (compareOp .NotEq) (rNeTn X.K):=by
 intro pins s σ H x y v u Q I rx ry h
 obtain ⟨a,b,xs,rfl,rfl,ha,hb,q⟩:=h
 cases rx
 cases ry
 obtain ⟨its,rv,pa,_⟩:=I.tuple ha
 obtain ⟨its2,rv2,pb,_⟩:=I.tuple (SqT.of hb)
 cases rv2
 refine EqBoolInt.of_rcne (SeqAt.RcNeAt.tuples (e:=fun _=>true) (show s.heap.IsTuple a its.toArray from pa) (show s.heap.IsTuple b ([]:List Value).toArray from pb) (by omega) (fun j _ h2=>by simp at h2)) ?_
 have e:(!((List.range (min its.toArray.size ([]:List Value).toArray.size)).all (fun _=>true) && its.toArray.size == ([]:List Value).toArray.size))=!xs.isEmpty:=by
  have hl:=rv.length
  cases xs with
  | nil=>cases rv;rfl
  | cons z r=>cases rv with | cons r1 r2=>simp
 rw [e]
 exact ⟨.bl _,H,I,rfl,q⟩
end
end L2
namespace Kx
open PySem PySem.Spec PyProof.Rows L2 Wd
noncomputable def dV:V→PyData
 | .int i=>.int i
 | .str z=>.str z
 | _=>.none
end Kx
namespace Wd
end Wd
namespace Kx
open PySem PySem.Spec PyProof.Rows L2 Wd
noncomputable def gs (S:List Nat):List V:=S.map fun g:Nat=>V.int (g:Int)
end Kx
namespace Wd
noncomputable def rfI (u:List L)(a b:L):Int:=((u.idxOf b:Int) - (u.idxOf a:Int)) % (u.length:Int)
noncomputable def ic (u:List L)(x z:L):Int:=if rfI u x z < rfI u x (inv x) then 1 else 0
noncomputable def sd (u:List L)(x y:L):Int:=ic u x y - ic u x (inv y)
noncomputable def lt6 (j:Nat):L:=if h:j < 12 then ⟨j,h⟩ else 0
end Wd
namespace L2
open PySem PySem.Spec PyProof.Rows
section
variable {X:Cx}
end
end L2
namespace Kx
open PySem PySem.Spec PyProof.Rows L2 Wd
theorem zgz:∀ (r:List Str) (x:Str),risingS x r=true→(x::r).Pairwise fun a b=>a.cps.toList≤b.cps.toList
 | [],x,_=>by simp
 | z::r,x,h=>by
  have l:=zdp (z::r) x h
  unfold risingS at h
  rw [Bool.and_eq_true] at h
  exact List.Pairwise.cons (fun y hy=>l.2 y (List.mem_cons_of_mem _ hy)) (zgz r z h.2)
theorem sorted_pw {l:List Str}(h:sortedS l=true):l.Pairwise fun a b=>a.cps.toList≤b.cps.toList:=by
 cases l with
 | nil=>exact .nil
 | cons x r=>exact zgz r x h
noncomputable def ends (k:Nat):List L:=(List.range k).map lt6++bk ((List.range k).map lt6)
end Kx
namespace Wd
open PySem L2
noncomputable def lcp:List L→List L→List L
 | x::u,y::v=>if x=y then x::lcp u v else []
 | _,_=>[]
theorem zcg:∀ u v:List L,lcp u v <+: u∧lcp u v <+: v
 | [],_=>by unfold lcp;exact ⟨List.nil_prefix,List.nil_prefix⟩
 | _::_,[]=>by unfold lcp;exact ⟨List.nil_prefix,List.nil_prefix⟩
 | x::u,y::v=>by
  unfold lcp
  split
  ·rename_i h
   subst h
   obtain ⟨h1,h2⟩:=zcg u v
   exact ⟨List.cons_prefix_cons.mpr ⟨rfl,h1⟩,List.cons_prefix_cons.mpr ⟨rfl,h2⟩⟩
  ·exact ⟨List.nil_prefix,List.nil_prefix⟩
theorem zem:∀ {p u v:List L},p <+: u→p <+: v→p <+: lcp u v
 | [],_,_,_,_=>List.nil_prefix
 | a::p,[],_,h,_=>by simp at h
 | a::p,_::_,[],_,h=>by simp at h
 | a::p,x::u,y::v,h,g=>by
  obtain ⟨e1,h3⟩:=List.cons_prefix_cons.mp h
  obtain ⟨e2,h4⟩:=List.cons_prefix_cons.mp g
  subst e1 e2
  unfold lcp
  rw [if_pos rfl]
  exact List.cons_prefix_cons.mpr ⟨rfl,zem h3 h4⟩
theorem zh7 {u v:List L}{i:Nat}{x y:L}(e:u.take i=v.take i)(hx:u[i]? = some x)(hy:v[i]? = some y)(ne:x≠y):lcp u v=u.take i:=by
 obtain ⟨p1,p2⟩:=zcg u v
 have li:=(List.getElem?_eq_some_iff.mp hx).1
 have h:u.take i <+: lcp u v:=zem (List.take_prefix _ _) (e ▸ List.take_prefix _ _)
 refine (h.eq_of_length_le ?_).symm
 rw [List.length_take]
 rcases Nat.lt_or_ge i (lcp u v).length with q | q
 ·have q1:=List.prefix_iff_getElem?.mp p1 i q
  have q2:=List.prefix_iff_getElem?.mp p2 i q
  rw [hx] at q1
  rw [hy] at q2
  exact absurd ((Option.some.inj q1).trans (Option.some.inj q2).symm) ne
 ·omega
theorem lcp_end {u v:List L}(e:u.take (min u.length v.length)=v.take (min u.length v.length)):lcp u v=u.take v.length:=by
 obtain ⟨p1,p2⟩:=zcg u v
 have e2:u.take v.length=u.take (min u.length v.length):=by
  rcases Nat.le_total u.length v.length with q | q
  ·rw [Nat.min_eq_left q,List.take_of_length_le q,List.take_of_length_le (Nat.le_refl _)]
  ·rw [Nat.min_eq_right q]
 rw [e2]
 have h:u.take (min u.length v.length) <+: lcp u v:=zem (List.take_prefix _ _) (e ▸ List.take_prefix _ _)
 refine (h.eq_of_length_le ?_).symm
 have l1:=p1.length_le
 have l2:=p2.length_le
 rw [List.length_take]
 omega
noncomputable def meets (t o:List L):Bool:=decide (o≠t) && decide (t.length≤6*(lcp t o).length)
noncomputable def fnd (V:List (List L))(t:List L):Option (List L):=V.find? (meets t)
noncomputable def thickW (V:List (List L)):Option (List L × List L × List L):=V.findSome? fun t=>(fnd V t).map fun o=>(t,o,lcp t o)
noncomputable def sta (t:List L):List L:=t.take ((t.length+5) / 6)
theorem zen (t:List L):sta t <+: t:=List.take_prefix _ _
theorem six_iff {t o:List L}:t.length≤6*(lcp t o).length ↔ sta t <+: o:=by
 have hl:(sta t).length=min ((t.length+5) / 6) t.length:=List.length_take
 obtain ⟨p1,p2⟩:=zcg t o
 constructor
 ·intro h
  have:sta t <+: lcp t o:=by
   refine List.prefix_of_prefix_length_le (zen t) p1 ?_
   rw [hl]
   omega
  exact this.trans p2
 ·intro h
  have:=(zem (zen t) h).length_le
  rw [hl] at this
  omega
theorem meets_iff {t o:List L}:meets t o=true ↔ o≠t∧sta t <+: o:=by
 unfold meets
 rw [Bool.and_eq_true,decide_eq_true_iff,decide_eq_true_iff,six_iff]
theorem btw:∀ {p x y z:List Nat},p <+: x→p <+: z→x≤y→y≤z→p <+: y
 | [],_,_,_,_,_,_,_=>List.nil_prefix
 | a::p,[],_,_,h,_,_,_=>by simp at h
 | a::p,_::_,_,[],_,h,_,_=>by simp at h
 | a::p,x::xs,[],z::zs,_,_,h,_=>by simp at h
 | a::p,x::xs,y::ys,z::zs,h,g,h1,h2=>by
  obtain ⟨e1,h3⟩:=List.cons_prefix_cons.mp h
  obtain ⟨e2,h4⟩:=List.cons_prefix_cons.mp g
  subst e1 e2
  rw [List.cons_le_cons_iff] at h1 h2
  have e:a=y:=by
   rcases h1 with h1 | h1
   ·rcases h2 with h2 | h2
    ·omega
    ·exact h2.1.symm
   ·exact h1.1
  subst e
  have h1:=(h1.resolve_left (Nat.lt_irrefl _)).2
  have h2:=(h2.resolve_left (Nat.lt_irrefl _)).2
  exact List.cons_prefix_cons.mpr ⟨rfl,btw h3 h4 h1 h2⟩
theorem pre_cp {p u:List L}:p.map cp <+: u.map cp ↔ p <+: u:=by
 constructor
 ·intro h
  have e:=List.prefix_iff_eq_take.mp h
  rw [List.length_map,← List.map_take] at e
  have:p=u.take p.length:=zbq (by unfold toS;rw [e])
  rw [this]
  exact List.take_prefix _ _
 ·intro h
  exact h.map cp
structure Ord (V:List (List L)):Prop where
 nd:V.Nodup
 so:V.Pairwise fun a b=>a.map cp≤b.map cp
theorem Ord.btw {V:List (List L)}(h:Ord V){p:List L}{i j k:Nat}{x y z:List L}(ij:i≤j)(jk:j≤k)(hx:V[i]? = some x)(hy:V[j]? = some y)(hz:V[k]? = some z)(px:p <+: x)(pz:p <+: z):p <+: y:=by
 have le:∀ {a b:Nat} {u v:List L},a≤b→V[a]? = some u→V[b]? = some v→u.map cp≤v.map cp:=fun {a b u v} hab hu hv=>by
  by_cases e:a=b
  ·subst e
   rw [hu] at hv
   cases hv
   exact List.le_refl _
  ·obtain ⟨l1,e1⟩:=List.getElem?_eq_some_iff.mp hu
   obtain ⟨l2,e2⟩:=List.getElem?_eq_some_iff.mp hv
   have:=List.pairwise_iff_getElem.mp h.so a b l1 l2 (by omega)
   rwa [e1,e2] at this
 exact pre_cp.mp (Wd.btw (pre_cp.mpr px) (pre_cp.mpr pz) (le ij hx hy) (le jk hy hz))
theorem Ord.ne {V:List (List L)}(h:Ord V){i j:Nat}{x y:List L}(hx:V[i]? = some x)(hy:V[j]? = some y)(e:i≠j):x≠y:=fun z=>by
 obtain ⟨l1,e1⟩:=List.getElem?_eq_some_iff.mp hx
 obtain ⟨l2,e2⟩:=List.getElem?_eq_some_iff.mp hy
 subst z
 exact e ((List.getElem_inj h.nd).mp (e1.trans e2.symm))
theorem Ord.near {V:List (List L)}(h:Ord V){i a:Nat}{t:List L}(ht:V[i]? = some t)(ha:a≤i)(hin:∀ j x,a≤j→j≤i→V[j]? = some x→sta t <+: x)(hout:a=0 ∨ ∀ x,V[a - 1]? = some x→¬ sta t <+: x) :
  fnd V t=if a < i then V[a]? else match V[i+1]? with | some x=>if sta t <+: x then some x else none | none=>none:=by
 have li:=(List.getElem?_eq_some_iff.mp ht).1
 have low:∀ j x,j < a→V[j]? = some x→¬ sta t <+: x:=fun j x hj hx p=>by
  rcases hout with z | z
  ·omega
  ·have e:=List.getElem?_eq_getElem (l:=V) (i:=a - 1) (by omega)
   exact z _ e (h.btw (i:=j) (j:=a - 1) (k:=i) (by omega) (by omega) hx e ht p (zen t))
 unfold fnd
 by_cases hai:a < i
 ·rw [if_pos hai]
  have e:=List.getElem?_eq_getElem (l:=V) (i:=a) (by omega)
  rw [e]
  refine List.find?_eq_some_iff_getElem.mpr ⟨meets_iff.mpr ⟨h.ne e ht (by omega),hin a _ (Nat.le_refl _) ha e⟩,a,by omega,rfl,fun j hj=>?_⟩
  have ej:=List.getElem?_eq_getElem (l:=V) (i:=j) (by omega)
  rw [Bool.not_eq_true',Bool.eq_false_iff]
  exact fun z=>low j _ hj ej (meets_iff.mp z).2
 ·rw [if_neg hai]
  have hai:a=i:=by omega
  subst hai
  cases en:V[a+1]? with
  | none =>
   refine List.find?_eq_none.mpr fun x hx z=>?_
   obtain ⟨j,ej⟩:=List.getElem?_of_mem hx
   have lj:=(List.getElem?_eq_some_iff.mp ej).1
   have:=List.getElem?_eq_none_iff.mp en
   obtain ⟨z1,z2⟩:=meets_iff.mp z
   rcases Nat.lt_trichotomy j a with q | q | q
   ·exact low j x q ej z2
   ·subst q;rw [ej] at ht;cases ht;exact z1 rfl
   ·omega
  | some y =>
   dsimp only
   by_cases hp:sta t <+: y
   ·rw [if_pos hp]
    have ly:=(List.getElem?_eq_some_iff.mp en)
    refine List.find?_eq_some_iff_getElem.mpr ⟨meets_iff.mpr ⟨h.ne en ht (by omega),hp⟩,a+1,ly.1,ly.2,fun j hj=>?_⟩
    have ej:=List.getElem?_eq_getElem (l:=V) (i:=j) (by omega)
    rw [Bool.not_eq_true',Bool.eq_false_iff]
    intro z
    obtain ⟨z1,z2⟩:=meets_iff.mp z
    by_cases q:j=a
    ·subst q;rw [ej] at ht;cases ht;exact z1 rfl
    ·exact low j _ (by omega) ej z2
   ·rw [if_neg hp]
    refine List.find?_eq_none.mpr fun x hx z=>?_
    obtain ⟨j,ej⟩:=List.getElem?_of_mem hx
    have lj:=(List.getElem?_eq_some_iff.mp ej).1
    obtain ⟨z1,z2⟩:=meets_iff.mp z
    rcases Nat.lt_trichotomy j a with q | q | q
    ·exact low j x q ej z2
    ·subst q;rw [ej] at ht;cases ht;exact z1 rfl
    ·exact hp (h.btw (i:=a) (j:=a+1) (k:=j) (by omega) (by omega) ht en ej (zen t) z2)
noncomputable def trn (R:List (List L)):List (List L):=R.flatMap fun r=>rots r++rots (bk r)
theorem ord_one {V W:List (List L)}(hV:Ord V)(hW:Ord W)(m:∀ x,x∈V ↔ x∈W):V=W:=by
 have p:V.Perm W:=(List.perm_ext_iff_of_nodup hV.nd hW.nd).mpr m
 refine List.Perm.eq_of_pairwise (fun x y _ _ h1 h2=>?_) hV.so hW.so p
 exact zbq (by unfold toS;rw [List.le_antisymm h1 h2])
end Wd
namespace HT
open PySem PySem.Spec PyProof.Rows
section
variable {prog:Program} {w:World} {A:Around} {E:Value→Shared→Prop} {s:Shared}
theorem cut_whole {t sl:Addr}{its:Array Value}{vl vu:Value}{lo hi:Option Int}{Q:Value→Shared→Prop}(ht:IsTup s.heap t its)(hs:s.heap.IsSliceOf sl vl vu .none)(pl:IsPart vl lo)(pu:IsPart vu hi)
  (hw:sIx its.size 0 lo=0∧sIx its.size its.size hi=its.size) (h:Q (.ref t) s):wpAny (model prog w) A (getItem (.ref t) (.ref sl)) Q E s:=by
 obtain ⟨os,hos,hcs,hds⟩:=id hs
 have hTs:s.TypeIs (.ref sl) "slice":=⟨os,hos,hcs⟩
 unfold getItem
 try with_reducible refine wpAny_holding ?_
 first | refine wpAny_bind (wpAny_pure ?_) | skip
 refine wpAny_bind (wpAny_sequenceKey ht.typeIs (by decide) ?_)
 refine wpAny_bind (wpAny_callSpecial?_slot (name:=Str.ofString "__getitem__") ht.typeIs PyProof.Rows.slot_tuple_getitem (wpAny_call_entry PyProof.Rows.slot_tuple_getitem ht.typeIs entry_tuple_getitem ?_ (args_tuple_getitem _ _)))
 show wpAny _ _ (Builtin.Tuple.tupleItemsOf (.ref t) >>= _) _ _ s
 refine wpAny_bind (tupleItemsOf_ ht (wpAny_bind (wpAny_typeOf hTs ?_)))
 rw [if_pos (by decide)]
 refine wpAny_bind (zca hs pl pu ?_)
 show wpAny _ _ (if (((sIx its.size 0 lo:Nat):Int) == 0 && (1:Int) == 1 && (sIx its.size its.size hi - sIx its.size 0 lo) == its.size)=true then _ else _) _ _ s
 rw [if_pos (by rw [hw.1,hw.2];simp)]
 refine wpAny_bind ?_
 unfold Builtin.Tuple.tupleIsExact
 refine wpAny_bind (wpAny_typeOf ht.typeIs (wpAny_pure ?_))
 rw [if_pos (by decide)]
 refine wpAny_bind (wpAny_rule ?_)
 first
  | exact wpAny_pure ⟨_,rfl,wpAny_pure h⟩
  | exact wpAny_bind (wpAny_pure (wpAny_pure ⟨_,rfl,wpAny_pure h⟩))
end
end HT
namespace L2
open PySem PySem.Spec PyProof.Rows Wd
inductive rSlTE (K:PySem.W.Frag)(x:V)(lo:Option Int)(hi:Option Int)(H:Hp)(Q:VK):Prop
 | mk:∀ a xs,(x = .ref a)→(SqT K H a xs)→((cutV xs lo hi=xs→Q (.ref a) H))→(∀ p,H p=none→Q (.ref p) (upd H p (.tup (cutV xs lo hi))))→rSlTE K x lo hi H Q
theorem sl_tupE {X:Cx}:SlR X (rSlTE X.K):=by
 intro pins s σ H x v vl vu lo hi sl Q I rx hs pl pu h
 obtain ⟨a,xs,rfl,hx,hw,q⟩:=h
 by_cases hh:HT.sIx xs.length 0 lo=0∧HT.sIx xs.length xs.length hi=xs.length
 ·cases rx
  obtain ⟨its,r,ht,hz⟩:=I.tuple hx
  have hlen:its.toArray.size=xs.length:=by rw [List.size_toArray];exact r.length.symm
  have e:cutV xs lo hi=xs:=by unfold cutV;rw [hh.1,hh.2,List.drop_zero,Nat.sub_zero,List.take_length]
  exact ⟨"tuple",_,PyProof.Rows.slot_tuple_getitem.lookup,ht.typeIs,HT.cut_whole ht hs pl pu (by rw [hlen];exact hh) ⟨.ref a,H,I,rfl,hw e⟩⟩
 ·exact sl_tup pins s σ H (.ref a) v vl vu lo hi sl Q I rx hs pl pu ⟨a,xs,rfl,hx,hh,q⟩
end L2
namespace Kx
open PySem PySem.Spec PyProof.Rows L2 Wd
theorem at0 {α:Type}(c:α)(t:List α):atI (c::t) (0:Int)=some c:=by unfold atI ixN; simp
theorem nl:¬ ("letter":Str) = "number":=by decide +kernel
theorem tl:¬ ("turn":Str) = "letter":=by decide +kernel
end Kx
namespace Kx
open PySem PySem.Spec PyProof.Rows L2 Wd
end Kx
namespace Wd
open PySem L2
end Wd
namespace Kx
open PySem L2 Wd
noncomputable def outB (w:List L)(n:Nat):Bool:=decide (n+1 < w.length) && decide (w[n+1]? = (w[n]?).map inv)
noncomputable def chg (w:List L):Stp→List L
 | .out n=>w.take n++w.drop (n+2)
 | .inn n x=>w.take n++[x]++[inv x]++w.drop n
 | .rng n u m=>w.take n++bk (u.drop m)++w.drop (n+m)
noncomputable def Sk:Stp→Prop
 | .out n=>n≤5000
 | .inn n _=>n≤5000
 | .rng n u m=>n≤5000∧u.length≤400∧m≤5000
end Kx
namespace PySem
open Sem (wp)
theorem zi4 {t:SetTable}{es:Array (Int × Value)}{h:Int}{x:Value}(hp:t.plain=false):(layNew t es h x).2.1.plain=false:=by
 unfold layNew
 split
 ·dsimp only
  unfold SetTable.orStandIn
  split
  ·exact hp
  ·rfl
 ·rfl
theorem zg0 {t t':SetTable}{hs:Array Int}{w:Nat}{order:Array Nat}(h:t.relaid hs w=some (t',order)):t'.plain=t.plain:=by
 unfold SetTable.relaid SetTable.laid at h
 cases hq:SetTable.layClean (SetTable.sizeAbove w - 1) hs with
 | none=>rw [hq] at h;cases h
 | some o=>rw [hq] at h;cases h;rfl
theorem zg1 {t:SetTable}{es:Array (Int × Value)}{w:Nat}(hp:t.plain=false):(relayAll t es w).2.1.plain=false:=by
 unfold relayAll
 split
 ·rename_i t' order he
  dsimp only
  split
  ·exact (zg0 he).trans hp
  ·rfl
 ·rfl
section
variable {prog:Program} {w:World} {A:Around} {E:Value→Shared→Prop} {s:Shared}
noncomputable def ddp (val:Nat→Str):Nat→List Str
 | 0=>[]
 | i+1=>if val i∈ddp val i then ddp val i else ddp val i++[val i]
theorem ddp_len (val:Nat→Str):∀ i,(ddp val i).length≤i
 | 0=>Nat.le_refl _
 | i+1=>by
  have ih:=ddp_len val i
  unfold ddp
  split
  ·omega
  ·rw [List.length_append,List.length_singleton];omega
section
variable {R:Result→Shared→Prop} {I:Addr} {fp wr:List Addr} {G:Array GenState→Array GenState→Prop} {n:Nat} {P:Nat→Value→Prop} {St:Nat→Shared→Prop}
end
end
end PySem
namespace PySem
open Sem (wp)
section
variable {prog:Program} {w:World} {A:Around} {E:Value→Shared→Prop} {s:Shared}
noncomputable abbrev sob (led:Bool):Obj:={ cls:=.type "set",dict:=none,data:=.set #[] 0 (.fresh 0 0 led) }
end
end PySem
namespace PySem
open Sem (wp)
noncomputable abbrev ldr (w:World):Bool:=!w.params.followText "set-order"
theorem layNew_led {t:SetTable}{es:Array (Int × Value)}{h:Int}{x:Value}:(layNew t es h x).2.1.led=t.led:=by
 unfold layNew
 split
 ·dsimp only
  unfold SetTable.orStandIn
  split
  ·rfl
  ·rfl
 ·rfl
theorem zi5 {t t':SetTable}{hs:Array Int}{w:Nat}{order:Array Nat}(h:t.relaid hs w=some (t',order)):t'.led=t.led:=by
 unfold SetTable.relaid SetTable.laid at h
 cases hq:SetTable.layClean (SetTable.sizeAbove w - 1) hs with
 | none=>rw [hq] at h;cases h
 | some o=>rw [hq] at h;cases h;rfl
theorem zdq {t:SetTable}{es:Array (Int × Value)}{w:Nat}:(relayAll t es w).2.1.led=t.led:=by
 unfold relayAll
 split
 ·rename_i t' order he
  dsimp only
  split
  ·exact zi5 he
  ·rfl
 ·rfl
section
variable {prog:Program} {w:World} {A:Around} {E:Value→Shared→Prop} {s:Shared}
noncomputable def SetL (prog:Program)(w:World)(h:Heap)(a:Addr)(dl:List Str):Prop :=
 ∃ o es ep t,h.get? a=some o∧o.ExactSet∧o.data = .set es ep t∧ElemsOf (strKind prog w) es.toList∧(∀ k,k∈dl ↔ ∃ e∈es.toList,(strKind prog w).is k e.2=true)∧es.size < scanBound∧t.fits es.size=true∧es.size=dl.length∧(dl≠[]→t.plain=false)∧t.led=ldr w
theorem putL {a:Addr}{o:Obj}{es es1:Array (Int × Value)}{ep:Nat}{t t2:SetTable}{dl:List Str}(ho:s.heap.get? a=some o)(hex:o.ExactSet)(hd:o.data = .set es ep t)(hel:ElemsOf (strKind prog w) es1.toList)
  (hm:∀ k,k∈dl ↔ ∃ e∈es1.toList,(strKind prog w).is k e.2=true) (hb:es1.size < scanBound) (hf:t2.fits es1.size=true) (hn:es1.size=dl.length) (hp:t2.plain=false) (hld:t2.led=ldr w) :
  (s.heap.update a (Obj.putSet es1 t2)).get? a=some { o with data:=.set es1 (ep+1) t2 }∧SetL prog w (s.heap.update a (Obj.putSet es1 t2)) a dl:=by
 have hg:(s.heap.update a (Obj.putSet es1 t2)).get? a=some { o with data:=.set es1 (ep+1) t2 }:=by
  have q:=Heap.get?_update_self (Obj.putSet es1 t2) ho (by rw [putSet_of es1 t2 hd];rfl)
  rwa [putSet_of es1 t2 hd] at q
 exact ⟨hg,_,es1,ep+1,t2,hg,hex,rfl,hel,hm,hb,hf,hn,fun _=>hp,hld⟩
theorem addL {a:Addr}{dl:List Str}{z:Str}{u:Tok}{Q:Bool→Shared→Prop}(hS:SetL prog w s.heap a dl)(hroom:dl.length+1 < scanBound)
  (h:∀ h' b,Heap.SameBut a s.heap h'→SetL prog w h' a (if z∈dl then dl else dl++[z])→Q b { s with heap:=h' }) :
  wpAny (model prog w) A (setAddHashed a (.str z u) ((strKind prog w).hash z)) Q E s:=by
 obtain ⟨o,es,ep,t,ho,hex,hd,hel,hm,hb,hf,hn,hpl,hld⟩:=hS
 have hkey:(strKind prog w).is z (.str z u)=true:=strKind_is prog w z u
 have hsc:(Value.str z u).scannable=true:=rfl
 unfold setAddHashed setAddHashedIn
 refine wpAny_holding (wpAny_bind (wpAny_setState_of ho hd hf ?_))
 dsimp only
 rw [byScan_of (knd:=strKind prog w) hsc hb hel]
 simp only [↓reduceIte]
 unfold setAddByScan
 refine wpAny_bind (wpAny_bind (wpAny_rule (wpAny_bind (wpAny_setScan_of (knd:=strKind prog w) hkey ho hd hf hel ?_))))
 cases hr:List.findIdx? (fun e=>(strKind prog w).is z e.2) es.toList with
 | some j =>
  dsimp only
  obtain ⟨hj,hpj,_⟩:=List.findIdx?_eq_some_iff_getElem.mp hr
  have hz:z∈dl:=(hm z).mpr ⟨es.toList[j],List.getElem_mem hj,hpj⟩
  refine wpAny_pure (wpAny_pure ?_)
  have q:=h s.heap false (Heap.SameBut.refl a s.heap) (by rw [if_pos hz];exact ⟨o,es,ep,t,ho,hex,hd,hel,hm,hb,hf,hn,hpl,hld⟩)
  have e:s={ s with heap:=s.heap }:=by cases s;rfl
  rw [e];exact q
 | none =>
  dsimp only
  have hz:z∉dl:=fun hz=>by
   obtain ⟨e,he,hp⟩:=(hm z).mp hz
   have q:=List.findIdx?_eq_none_iff.mp hr e he
   rw [hp] at q
   cases q
  have hq:∀ h',Heap.SameBut a s.heap h'→SetL prog w h' a (dl++[z])→Q true { s with heap:=h' }:=fun h' sb hs=>h h' true sb (by rw [if_neg hz];exact hs)
  have hperm:=layNew_perm t es ((strKind prog w).hash z) (.str z u)
  have hfits:=layNew_fits t es ((strKind prog w).hash z) (.str z u)
  have hoff:=fun hp:t.plain=false=>zi4 (es:=es) (h:=(strKind prog w).hash z) (x:=.str z u) hp
  have hl1:(layNew t es ((strKind prog w).hash z) (.str z u)).2.1.led=ldr w:=layNew_led.trans hld
  generalize hL:layNew t es ((strKind prog w).hash z) (.str z u)=L at hperm hfits hoff hl1 ⊢
  obtain ⟨es1,t1,wasDummy,gave⟩:=L
  dsimp only at hperm hfits hoff hl1 ⊢
  rw [Array.toList_push] at hperm
  have hel1:ElemsOf (strKind prog w) es1.toList:=(hel.push hkey hsc).perm hperm
  have hm1:∀ k,k∈dl++[z] ↔ ∃ e∈es1.toList,(strKind prog w).is k e.2=true:=fun k=>by
   rw [← mem_push_iff (knd:=strKind prog w) (S:=fun k=>decide (k∈dl)) hkey (fun k=>by rw [decide_eq_true_iff];exact hm k) hperm k]
   simp
  have hsz1:es1.size=(dl++[z]).length:=by rw [← Array.length_toList,hperm.length_eq,List.length_append,Array.length_toList,hn,List.length_append];rfl
  have hb1:es1.size < scanBound:=by rw [hsz1,List.length_append];exact hroom
  have tail:∀ t2:SetTable,t2.plain=false→t2.led=ldr w→t2.fits es1.size=true→wpAny (model prog w) A (do
    storeSet a es1 t2
    if (!wasDummy && t2.tooFull)=true then do
      (match (relayAll t2 es1 (SetTable.grown es1.size)).2.2 with | true=>rule "set.scan.the-table-gave-way" | false=>pure ())
      storeSet a (relayAll t2 es1 (SetTable.grown es1.size)).1 (relayAll t2 es1 (SetTable.grown es1.size)).2.1
      pure (some true)
     else pure (some true)) (fun r s'=>wpAny (model prog w) A (match r with | some added=>pure added | none=>setAddHashedIn a (.str z u) ((strKind prog w).hash z) 99999) Q E s') E s:=fun t2 hp2 hd2 hf2=>by
   refine wpAny_bind (wpAny_storeSet_of ho hd ?_ (fits_of_scanBound hb1))
   obtain ⟨ho1,hS1⟩:=putL ho hex hd hel1 hm1 hb1 hf2 hsz1 hp2 hd2
   have hsb1:=Heap.SameBut.update s.heap a (Obj.putSet es1 t2)
   split
   ·have hp:=relayAll_perm t2 es1 (SetTable.grown es1.size)
    have hfr:=relayAll_fits t2 es1 (SetTable.grown es1.size)
    have hof:=zg1 (es:=es1) (w:=SetTable.grown es1.size) hp2
    have hof2:=(zdq (t:=t2) (es:=es1) (w:=SetTable.grown es1.size)).trans hd2
    generalize relayAll t2 es1 (SetTable.grown es1.size)=Rl at hp hfr hof hof2 ⊢
    obtain ⟨es2,t3,gave2⟩:=Rl
    dsimp only at hp hfr hof hof2 ⊢
    have hsz:es2.size=es1.size:=by rw [← Array.length_toList,hp.length_eq,Array.length_toList]
    have go:wpAny (model prog w) A (storeSet a es2 t3 >>= fun _=>pure (some true)) (fun r s'=>wpAny (model prog w) A (match r with | some added=>pure added | none=>setAddHashedIn a (.str z u) ((strKind prog w).hash z) 99999) Q E s') E { s with heap:=s.heap.update a (Obj.putSet es1 t2) }:=by
     refine wpAny_bind (wpAny_storeSet_of ho1 rfl ?_ (fits_of_scanBound (by rw [hsz];exact hb1)))
     obtain ⟨_,hS2⟩:=putL (s:={ s with heap:=s.heap.update a (Obj.putSet es1 t2) }) ho1 hex rfl (hel1.perm hp) (fun k=>(hm1 k).trans ⟨fun zq2=>(by obtain ⟨e,he,q⟩:=zq2;exact ⟨e,hp.mem_iff.mpr he,q⟩),fun zq1=>(by obtain ⟨e,he,q⟩:=zq1;exact ⟨e,hp.mem_iff.mp he,q⟩)⟩) (by rw [hsz];exact hb1) hfr (hsz.trans hsz1) hof hof2
     exact wpAny_pure (wpAny_pure (hq _ (hsb1.trans (Heap.SameBut.update _ a _)) hS2))
    cases gave2
    ·exact wpAny_bind (wpAny_pure go)
    ·exact wpAny_bind (wpAny_rule go)
   ·exact wpAny_pure (wpAny_pure (hq _ hsb1 hS1))
  have rest:wpAny (model prog w) A (do
    let byValue ← if t1.plain=true then hashByValue 8 (.str z u) else pure true
    storeSet a es1 (if byValue=true then t1 else { t1 with plain:=false })
    if (!wasDummy && (if byValue=true then t1 else { t1 with plain:=false }:SetTable).tooFull)=true then do
      (match (relayAll (if byValue=true then t1 else { t1 with plain:=false }) es1 (SetTable.grown es1.size)).2.2 with | true=>rule "set.scan.the-table-gave-way" | false=>pure ())
      storeSet a (relayAll (if byValue=true then t1 else { t1 with plain:=false }) es1 (SetTable.grown es1.size)).1 (relayAll (if byValue=true then t1 else { t1 with plain:=false }) es1 (SetTable.grown es1.size)).2.1
      pure (some true)
     else pure (some true)) (fun r s'=>wpAny (model prog w) A (match r with | some added=>pure added | none=>setAddHashedIn a (.str z u) ((strKind prog w).hash z) 99999) Q E s') E s:=by
   by_cases hp1:t1.plain=true
   ·rw [if_pos hp1]
    refine wpAny_bind ?_
    rw [hashByValue_scannable 8 hsc]
    refine wpAny_pure ?_
    exact tail { t1 with plain:=false } rfl hl1 (SetTable.fits_plain_off hfits)
   ·rw [if_neg hp1]
    refine wpAny_bind (wpAny_pure ?_)
    exact tail t1 (by simpa using hp1) hl1 hfits
  cases gave
  ·exact wpAny_bind (wpAny_pure rest)
  ·exact wpAny_bind (wpAny_rule rest)
theorem SetL.at {h h':Heap}{a:Addr}{dl:List Str}(hS:SetL prog w h a dl)(k:∀ o,h.get? a=some o→h'.get? a=some o):SetL prog w h' a dl:=by
 obtain ⟨o,es,ep,t,ho,r⟩:=hS
 exact ⟨o,es,ep,t,k o ho,r⟩
section
variable {R:Result→Shared→Prop} {I:Addr} {fp wr:List Addr} {G:Array GenState→Array GenState→Prop} {n:Nat} {P:Nat→Value→Prop} {St:Nat→Shared→Prop}
theorem updL (W:WalksS prog w A.in1 I fp wr G n P St)(S:Addr)(hSf:S∉fp)(val:Nat→Str)(hval:∀ i v,P i v→∃ t,v = .str (val i) t)(hb:n+1 < scanBound) :
  ∀ (k i:Nat) (s:Shared),n - i=k→i≤n→St i s→SetL prog w s.heap S (ddp val i)→(∀ s',Moved (S::wr) G s s'→SetL prog w s'.heap S (ddp val n)→R (.ok (.ret .none)) s') →
   codeAny (model prog w) A (.builtin "set.update.loop" ⟨[.ref S,.ref I],[]⟩) R s:=by
 have nw:S∉wr:=fun q=>hSf (W.sub _ q)
 have sub:∀ b∈wr,b∈S::wr:=fun b q=>List.mem_cons_of_mem _ q
 intro k
 induction k with
 | zero =>
  intro i s hk hi st hS hR
  obtain rfl:i=n:=by omega
  refine codeAny_builtin PyProof.Rows.F.entry_set_update_loop ?_
  rw [Around.under_plainId PyProof.Rows.F.plain_set_update_loop _]
  show wpAny _ A.in1 (pyNext (.ref I) >>= _) _ _ s
  refine wpAny_bind (W.done s _ _ st fun s' mv=>?_)
  show wpAny _ A.in1 (ret Value.none) _ _ s'
  exact wpAny_pure (hR s' (mv.mono sub) (hS.at fun o q=>mv.heap S o nw q))
 | succ k ih =>
  intro i s hk hi st hS hR
  have hlt:i < n:=by omega
  refine codeAny_builtin PyProof.Rows.F.entry_set_update_loop ?_
  rw [Around.under_plainId PyProof.Rows.F.plain_set_update_loop _]
  show wpAny _ A.in1 (pyNext (.ref I) >>= _) _ _ s
  refine wpAny_bind (W.item i s _ _ hlt st fun v s' hP st' mv=>?_)
  obtain ⟨u,rfl⟩:=hval i v hP
  have hS':SetL prog w s'.heap S (ddp val i):=hS.at fun o q=>mv.heap S o nw q
  show wpAny _ A.in1 (holding [Value.str (val i) u] (setAdd S (.str (val i) u)) >>= _) _ _ s'
  refine wpAny_bind (wpAny_holding ?_)
  unfold setAdd
  refine wpAny_holding (wpAny_bind ((strKind prog w).pyHash (k:=val i) (strKind_is _ _ _ _) ?_))
  have hl:=ddp_len val i
  refine addL (s:={ s' with toks:=s'.toks+1 }) hS' (by omega) fun h' b sb hS2=>?_
  refine wpAny_pure ⟨plainId_quiet PyProof.Rows.F.plain_set_update_loop _,ih (i+1) _ (by omega) hlt (W.frame _ s' _ _ st' (Nat.le_succ _) fun c hc o q=>?_) (by unfold ddp;exact hS2) fun s'' mv2 hS3=>?_⟩
  ·rw [sb.2 c (fun e:c=S=>hSf (e ▸ hc))];exact q
  ·refine hR s'' (Moved.trans W.gtrans ((mv.mono sub).then_heap (Nat.le_succ _) fun c o hc q=>?_) mv2) hS3
   rw [sb.2 c (fun e:c=S=>hc (e ▸ List.mem_cons_self))];exact q
end
theorem zdb (a:Value){Q₁:Value→Shared→Prop}(q:Q₁ (.ref s.heap.objs.size) { s with heap:=s.heap.push (sob (ldr w)) }) :
  codeAny (model prog w) A (.call (.builtin "set.__new__") ⟨[.type "set",a],[]⟩) (wants Q₁ E) s:=by
 refine codeAny_of_tree ?_
 show wpAny _ A.in1 (do checkBuiltinCall "set.__new__" ⟨[.type "set",a],[]⟩;again (.builtin "set.__new__" ⟨[.type "set",a],[]⟩)) _ _ s
 refine wpAny_bind (wpAny_of_eq (F.newCall_set_1 a) (wpAny_pure ⟨plainId_quiet F.plain_set_new _,codeAny_builtin F.entry_set_new ?_⟩))
 rw [Around.under_plainId F.plain_set_new _]
 unfold Builtin.«set.__new__» Builtin.Frozenset.newClass
 have hsub:=sub_set_self
 obtain ⟨hp,gn,dr,tk,os⟩:=s
 dsimp only
 wp_walk
 refine wpAny_askSetting (wpAny_pure ?_)
 dsimp only
 simp only [newObj]
 exact wpAny_bind (wpAny_alloc (wpAny_pure (wpAny_pure q)))
set_option maxHeartbeats 3200000 in
theorem call_setL {l:Addr}{its:Array Value}{val:Nat→Str}{Q:Value→Shared→Prop}(hh:A.handled=none)(hl:s.heap.IsList l its)(hval:∀ (i:Nat) (v:Value),its[i]? = some v→∃ t,v = .str (val i) t)(hb:its.size+1 < scanBound)
  (h:∀ (h':Heap) (tk:Nat),SetL prog w h' s.heap.objs.size (ddp val its.size)→(∀ b o,b < s.heap.objs.size→s.heap.get? b=some o→h'.get? b=some o)→Q (.ref s.heap.objs.size) { s with heap:=h',toks:=tk }) :
  wpAny (model prog w) A (call (.type "set") [.ref l]) Q E s:=by
 obtain ⟨c,tl,hmro⟩:=F.called_set.mro
 have hmade:=F.called_set.made
 have hsub:=F.called_set.sub
 refine wpAny_call (codeAny_of_tree ?_)
 show wpAny _ _ (callAny (.type "set") _) _ _ _
 refine wpAny_pure ⟨Code.quiet_builtin _ (by decide +kernel),codeAny_builtin F.entry_type_call ?_⟩
 rw [Around.under_plain (weight_type_call_type "set" [.ref l] []) rfl]
 have x1:=F.called_set.notType
 have x2:=F.called_set.canCreate
 have x3:=F.typeCall_set_1 (.ref l)
 repeat (any_goals (first | assumption | wp_step))
 refine codeAny_mono (zdb (.ref l) (E:=E) (Q₁:=fun ob s1=>ob = .ref s.heap.objs.size∧s1={ s with heap:=s.heap.push (sob (ldr w)) }) ⟨rfl,rfl⟩) fun r s1 hr=>?_
 cases r with
 | error e=>exact hr
 | ok fl =>
  cases fl with
  | ret ob =>
   obtain ⟨rfl,rfl⟩:=hr
   have gS:(s.heap.push (sob (ldr w))).get? s.heap.objs.size=some (sob (ldr w)):=Heap.get?_push_size _ rfl
   have hT:Shared.TypeIs { s with heap:=s.heap.push (sob (ldr w)) } (.ref s.heap.objs.size) "set":=⟨_,gS,rfl⟩
   have x4:=F.called_set.init.lookup
   have x5:=F.called_set.init.bind (.ref s.heap.objs.size)
   repeat (any_goals (first | assumption | wp_step))
   refine codeAny_mono (codeAny_call_builtin (R:=wants (fun r s2=>r = .none∧∃ h' tk,s2={ s with heap:=h',toks:=tk }∧SetL prog w h' s.heap.objs.size (ddp val its.size)∧(∀ b o,b < s.heap.objs.size→s.heap.get? b=some o→h'.get? b=some o)) E) F.called_set.init.plain F.entry_set_init (check_set_init_1 hT ?_)) fun r2 s2 hr2=>?_
   ·obtain ⟨⟨oc,od,odt,osl⟩,gl,hc,nl,hd⟩:=hl
    simp only at hc hd
    subst hc;subst hd
    have gl':(s.heap.push (sob (ldr w))).get? l=some { cls:=.type "list",dict:=od,data:=.seq its nl,slots:=osl }:=Heap.get?_push_of_some _ gl
    have y1:=F.sub_list_set
    have y2:=F.sub_list_frozenset
    have y3:(Value.type "list" == Value.type "dict")=false:=by decide
    have L1:(s.heap.push (sob (ldr w))).IsList l its:=⟨_,gl',rfl,nl,rfl⟩
    unfold Builtin.«set.__init__» noKeywords Builtin.Frozenset.updateFrom
    generalize hPI:pyIter=PI
    wp_walk
    subst hPI
    refine wpAny_pyIter_list L1 (wpAny_bind (wpAny_runValue ?_))
    have llt:l < s.heap.objs.size:=Heap.lt_size gl
    have z1:(s.heap.push (sob (ldr w))).objs.size=s.heap.objs.size+1:=Heap.size_push ..
    have nI:l≠(s.heap.push (sob (ldr w))).objs.size:=by rw [z1];exact Nat.ne_of_lt (Nat.lt_succ_of_lt llt)
    have nf:s.heap.objs.size∉[(s.heap.push (sob (ldr w))).objs.size,l]:=by
     rw [z1];simp only [List.mem_cons,List.mem_singleton,List.not_mem_nil,or_false,not_or]
     exact ⟨Nat.ne_of_lt (Nat.lt_succ_self _),Nat.ne_of_gt llt⟩
    refine updL ((Walks.list (by simp [hh]) _ l nI its).toS) s.heap.objs.size nf val hval hb (its.size - 0) 0 _ (by omega) (Nat.zero_le _) ⟨⟨_,Heap.get?_push_size _ rfl,rfl,rfl⟩,L1.push _⟩ ?s0 ?rr
    case s0=>exact ⟨_,#[],0,_,Heap.get?_push_of_some _ gS,⟨rfl,rfl,rfl⟩,rfl,fun e he=>by simp at he,fun k=>by simp [ddp],by decide,by rfl,rfl,fun q=>absurd rfl q,rfl⟩
    case rr =>
     intro s' mv hS'
     obtain ⟨h',g',d',tk',os'⟩:=s'
     obtain rfl:g'=s.gens:=mv.gens
     obtain rfl:d'=s.drawn:=mv.drawn
     obtain rfl:os'=s.os:=mv.os
     show wpAny _ _ _ _ _ _
     refine wpAny_pure ?_
     show wpAny _ _ (ret Value.none) _ _ _
     refine wpAny_pure ⟨rfl,h',tk',rfl,hS',fun b o hlt e=>mv.heap b o ?_ (Heap.get?_push_of_some _ (Heap.get?_push_of_some _ e))⟩
     simp only [List.mem_cons,List.mem_singleton,List.not_mem_nil,or_false,not_or]
     exact ⟨Nat.ne_of_lt hlt,by rw [z1];exact Nat.ne_of_lt (Nat.lt_succ_of_lt hlt)⟩
   ·cases r2 with
    | error e=>exact hr2
    | ok fl2 =>
     cases fl2 with
     | ret r =>
      obtain ⟨rfl,h',tk,rfl,hS',hk'⟩:=hr2
      repeat (any_goals (first | assumption | wp_step))
      exact h _ _ hS' hk'
     | _=>exact hr2.elim
  | _=>exact hr.elim
end
end PySem
namespace PySem
open Sem (wp)
theorem slot_sit_next:Slot "set_iterator" "__next__" "set_iterator.__next__" :=
 .of (owner:="set_iterator") (n:="__next__") (by rw [typeLookup_type,builtinLookup_eq_fast];kernel_rfl) (by decide +kernel) (by decide +kernel) (by decide +kernel)
  (by first | exact .inl (by decide +kernel) | exact .inr (by decide +kernel)) (by rw [isSubtype_type];kernel_rfl)
theorem zcu:entryFor table "set_iterator.__next__" = some Builtin.«set_iterator.__next__»:=entryFor_of_fast (by kernel_rfl)
theorem zdc (a:Value):argsOk "set_iterator.__next__" ⟨[a],[]⟩:=by unfold argsOk; kernel_rfl
theorem zch:entryFor table "set.__iter__" = some Builtin.«frozenset.__iter__» :=
 entryFor_alias (id':="frozenset.__iter__") (by kernel_rfl) rfl (by decide +kernel) (by kernel_rfl)
theorem za6:Slot "set_iterator" "__iter__" "set_iterator.__iter__" :=
 .of (owner:="set_iterator") (n:="__iter__") (by rw [typeLookup_type,builtinLookup_eq_fast];kernel_rfl) (by decide +kernel) (by decide +kernel) (by decide +kernel)
  (by first | exact .inl (by decide +kernel) | exact .inr (by decide +kernel)) (by rw [isSubtype_type];kernel_rfl)
noncomputable def Sit (h:Heap)(I:Addr)(first:Value)(i:Nat)(S:Addr)(n ep:Nat):Prop:=∃ o,h.get? I=some o∧o.cls = .type "set_iterator"∧o.data = .fields #[first,rawInt i,.ref S,rawInt n,rawInt ep]
theorem Sit.at {h h':Heap}{I:Addr}{first:Value}{i:Nat}{S:Addr}{n ep:Nat}(x:Sit h I first i S n ep)(k:∀ o,h.get? I=some o→h'.get? I=some o):Sit h' I first i S n ep:=let ⟨o,e,r⟩:=x; ⟨o,k o e,r⟩
section
variable {prog:Program} {w:World} {A:Around} {E:Value→Shared→Prop} {s:Shared}
theorem Sit.ty {I:Addr}{first:Value}{i:Nat}{S:Addr}{n ep:Nat}(x:Sit s.heap I first i S n ep):s.TypeIs (.ref I) "set_iterator":=let ⟨o,e,c,_⟩:=x; ⟨o,e,c⟩
structure Sob (h:Heap) (S:Addr) (es:Array (Int × Value)) (ep:Nat) (t:SetTable):Prop where
 ex:∃ o,h.get? S=some o∧o.ExactSet∧o.data = .set es ep t
 ft:t.fits es.size=true
theorem Sob.at {h h':Heap}{S:Addr}{es:Array (Int × Value)}{ep:Nat}{t:SetTable}(b:Sob h S es ep t)(k:∀ o,h.get? S=some o→h'.get? S=some o):Sob h' S es ep t :=
 ⟨let ⟨o,e,r⟩:=b.ex;⟨o,k o e,r⟩,b.ft⟩
theorem zau {S:Addr}{es:Array (Int × Value)}{ep:Nat}{t:SetTable}{Q:Array (Int × Value) × Nat × SetTable→Shared→Prop}(b:Sob s.heap S es ep t)(q:Q (es,ep,t) s):wpAny (model prog w) A (setState S) Q E s:=by
 obtain ⟨o,e,x,d⟩:=b.ex
 exact wpAny_setState_of e d b.ft q
theorem zbg {S:Addr}{es:Array (Int × Value)}{ep:Nat}{t:SetTable}{Q:Array (Int × Value)→Shared→Prop}(b:Sob s.heap S es ep t)(q:Q es s):wpAny (model prog w) A (setEntries S) Q E s:=by
 unfold setEntries
 exact wpAny_bind (zau b (wpAny_pure q))
theorem zbd {Q:Bool→Shared→Prop}(q:Q (w.params.followText "set-order") s):wpAny (model prog w) A setsByText Q E s:=by
 unfold setsByText
 exact wpAny_bind (wpAny_askSetting (wpAny_pure q))
theorem zco {I S:Addr}{sl i ep:Nat}{es:Array (Int × Value)}{t:SetTable}{Q:Option Value→Shared→Prop}(hI:Sit s.heap I (rawInt sl) i S es.size ep)(b:Sob s.heap S es ep t)
  (h:wpAny (model prog w) A.in1 (do
    match ← setNext S sl i ep with
    | some (x,next) =>
     setField (.ref I) 0 (rawInt next)
     setField (.ref I) 1 (rawInt ((i:Int)+1))
     ret x
    | none=>setField (.ref I) 2 .none;raiseNew (← newExc (.type "StopIteration") []))
   (fun f s'=>∃ v,f = .done (.ret v)∧Q (some v) s') (fun e s'=>wpAny (model prog w) A (do if ← isInstance e (.type "StopIteration") then return none else throw e) Q E s') s) :
  wpAny (model prog w) A (pyNext (.ref I)) Q E s:=by
 have hT:=hI.ty
 obtain ⟨o,e,c,d⟩:=hI
 unfold pyNext
 refine wpAny_bind (wpAny_attempt (wpAny_callSpecial?_slot (name:=Str.ofString "__next__") hT slot_sit_next (wpAny_call_entry slot_sit_next hT zcu ?_ (zdc _))))
 unfold Builtin.«set_iterator.__next__»
 refine wpAny_bind (wpAny_pure ?_)
 refine wpAny_bind (wpAny_fieldsOf e d ?_)
 dsimp only [rawInt]
 refine wpAny_bind (zbg b ?_)
 rw [if_neg (by simp)]
 exact wpAny_mono h (fun f s' q=>by obtain ⟨v,e,q⟩:=q;exact ⟨v,e,wpAny_pure q⟩) fun _ _ q=>q
theorem zh8 {I S pl:Addr}{i ep:Nat}{es:Array (Int × Value)}{t:SetTable}{Q:Option Value→Shared→Prop}(hI:Sit s.heap I (.ref pl) i S es.size ep)(b:Sob s.heap S es ep t)
  (h:wpAny (model prog w) A.in1 (do
    let some places ← seqItems? (.ref pl) | unsupported "internal:set_iterator"
    match places[i]? with
    | some (.int place _) =>
     let x ← setNextDrawn S place.toNat ep
     setField (.ref I) 1 (rawInt ((i:Int)+1))
     ret x
    | some _=>unsupported "internal:set_iterator"
    | none=>setField (.ref I) 0 (rawInt 0);setField (.ref I) 2 .none;raiseNew (← newExc (.type "StopIteration") []))
   (fun f s'=>∃ v,f = .done (.ret v)∧Q (some v) s') (fun e s'=>wpAny (model prog w) A (do if ← isInstance e (.type "StopIteration") then return none else throw e) Q E s') s) :
  wpAny (model prog w) A (pyNext (.ref I)) Q E s:=by
 have hT:=hI.ty
 obtain ⟨o,e,c,d⟩:=hI
 unfold pyNext
 refine wpAny_bind (wpAny_attempt (wpAny_callSpecial?_slot (name:=Str.ofString "__next__") hT slot_sit_next (wpAny_call_entry slot_sit_next hT zcu ?_ (zdc _))))
 unfold Builtin.«set_iterator.__next__»
 refine wpAny_bind (wpAny_pure ?_)
 refine wpAny_bind (wpAny_fieldsOf e d ?_)
 dsimp only [rawInt]
 refine wpAny_bind (zbg b ?_)
 rw [if_neg (by simp)]
 exact wpAny_mono h (fun f s' q=>by obtain ⟨v,e,q⟩:=q;exact ⟨v,e,wpAny_pure q⟩) fun _ _ q=>q
theorem zg2 {src:Source}{n:Nat}{Q:Nat→Shared→Prop}(hn:n≠0)(q:∀ d,d < n→∀ dr,Q d { s with drawn:=dr }):wpAny (model prog w) A (choose src n) Q E s:=fun _ _ _=>by
 show Sem.wp _ _ (Sem.choose src n Sem.pure) _ _ _ _
 rw [Sem.wp_choose]
 exact ⟨hn,by rw [Sem.wp_pure];exact q _ (Nat.mod_lt _ (by omega)) _⟩
theorem zfa {α:Type}{xs:List α}{i:Nat}{x:α}(h:xs[i]? = some x):(x::xs.eraseIdx i).Perm xs:=by
 obtain ⟨hi,e⟩:=List.getElem?_eq_some_iff.mp h
 rw [List.eraseIdx_eq_take_drop_succ]
 have:xs=xs.take i++x::xs.drop (i+1):=by
  conv=>lhs;rw [← List.take_append_drop i xs]
  rw [List.drop_eq_getElem_cons hi,e]
 conv=>rhs;rw [this]
 exact List.perm_middle.symm
theorem zbr {α:Type}:∀ (n:Nat) (xs:List α) (s:Shared) (Q:List α→Shared→Prop),xs.length=n→(∀ ys dr,ys.Perm xs→Q ys { s with drawn:=dr })→wpAny (model prog w) A (drawOrder n xs) Q E s
 | 0,xs,s,Q,h,q=>by
  unfold drawOrder
  have:=q [] s.drawn (by rw [List.length_eq_zero_iff.mp h])
  exact wpAny_pure this
 | n+1,[],s,Q,h,q=>by simp at h
 | n+1,x::xs,s,Q,h,q=>by
  unfold drawOrder
  refine wpAny_bind (zg2 (by simp) fun d hd dr=>?_)
  have e:=List.getElem?_eq_getElem hd
  rw [e]
  dsimp only
  refine wpAny_bind (zbr n _ _ _ (by rw [List.length_eraseIdx,if_pos hd];simp at h ⊢;omega) fun ys dr2 hp=>wpAny_pure ?_)
  exact q _ dr2 ((List.Perm.cons _ hp).trans (zfa e))
theorem pick_go {α:Type}(nx:Nat→Nat):∀ (n k:Nat) (l:List α) (o:Array α),l.length=n→(pickOrder.go nx n k l o).toList.Perm (o.toList++l)
 | 0,k,l,o,h=>by
  rw [List.length_eq_zero_iff.mp h,List.append_nil]
  exact List.Perm.refl _
 | n+1,k,l,o,h=>by
  unfold pickOrder.go
  have hlt:nx k % l.length < l.length:=Nat.mod_lt _ (by omega)
  have e:=List.getElem?_eq_getElem hlt
  rw [e]
  dsimp only
  refine (pick_go nx n (k+1) _ _ (by rw [List.length_eraseIdx,if_pos hlt];omega)).trans ?_
  rw [Array.toList_push,List.append_assoc]
  exact List.Perm.append_left _ (zfa e)
theorem zb3 {α:Type}(nx:Nat→Nat)(xs:Array α):(pickOrder nx xs).toList.Perm xs.toList:=by
 have:=pick_go nx xs.size 0 xs.toList #[] (by simp)
 rw [List.nil_append] at this
 exact this
end
end PySem
namespace PySem
open Sem (wp)
section
variable {prog:Program} {w:World} {A:Around} {E:Value→Shared→Prop} {s:Shared}
theorem Sit.step {h:Heap}{I:Addr}{first first':Value}{i:Nat}{S:Addr}{n ep:Nat}(x:Sit h I first i S n ep) :
  Sit ((h.update I (Obj.mapFields (·.setIfInBounds 0 first'))).update I (Obj.mapFields (·.setIfInBounds 1 (rawInt ((i:Int)+1))))) I first' (i+1) S n ep:=by
 obtain ⟨o,e,c,d⟩:=x
 have e1:=Heap.get?_update_self (Obj.mapFields (·.setIfInBounds 0 first')) e (Obj.isFreed_of_fields (Obj.data_mapFields d _))
 have d1:=Obj.data_mapFields d (·.setIfInBounds 0 first')
 have e2:=Heap.get?_update_self (Obj.mapFields (·.setIfInBounds 1 (rawInt ((i:Int)+1)))) e1 (Obj.isFreed_of_fields (Obj.data_mapFields d1 _))
 exact ⟨_,e2,(Obj.cls_mapFields ..).trans ((Obj.cls_mapFields ..).trans c),by rw [Obj.data_mapFields d1];simp [rawInt]⟩
theorem Sit.step1 {h:Heap}{I:Addr}{first:Value}{i:Nat}{S:Addr}{n ep:Nat}(x:Sit h I first i S n ep) :
  Sit (h.update I (Obj.mapFields (·.setIfInBounds 1 (rawInt ((i:Int)+1))))) I first (i+1) S n ep:=by
 obtain ⟨o,e,c,d⟩:=x
 have e2:=Heap.get?_update_self (Obj.mapFields (·.setIfInBounds 1 (rawInt ((i:Int)+1)))) e (Obj.isFreed_of_fields (Obj.data_mapFields d _))
 exact ⟨_,e2,(Obj.cls_mapFields ..).trans c,by rw [Obj.data_mapFields d];simp [rawInt]⟩
theorem zhl {I:Addr}{first first':Value}{i:Nat}{S:Addr}{n ep:Nat}{x:Value}{Q:Fin→Shared→Prop}(g:Sit s.heap I first i S n ep)
  (q:∀ h',Sit h' I first' (i+1) S n ep→(∀ b o,b∉[I]→s.heap.get? b=some o→h'.get? b=some o)→Q (.done (.ret x)) { s with heap:=h' }) :
  wpAny (model prog w) A (do setField (.ref I) 0 first';setField (.ref I) 1 (rawInt ((i:Int)+1));ret x) Q E s:=by
 have g2:=g.step (first':=first')
 obtain ⟨o,e,c,d⟩:=g
 refine wpAny_bind (wpAny_setField e d (by simp) ?_)
 have e1:=Heap.get?_update_self (Obj.mapFields (·.setIfInBounds 0 first')) e (Obj.isFreed_of_fields (Obj.data_mapFields d _))
 have d1:=Obj.data_mapFields d (·.setIfInBounds 0 first')
 refine wpAny_bind (wpAny_setField e1 d1 (by simp) (wpAny_pure (q _ g2 fun b o hb eb=>?_)))
 have:I≠b:=fun z=>hb (by simp [z])
 exact (Heap.get?_update_other _ _ this).trans ((Heap.get?_update_other _ _ this).trans eb)
theorem put_one {I:Addr}{first:Value}{i:Nat}{S:Addr}{n ep:Nat}{x:Value}{Q:Fin→Shared→Prop}(g:Sit s.heap I first i S n ep)
  (q:∀ h',Sit h' I first (i+1) S n ep→(∀ b o,b∉[I]→s.heap.get? b=some o→h'.get? b=some o)→Q (.done (.ret x)) { s with heap:=h' }) :
  wpAny (model prog w) A (do setField (.ref I) 1 (rawInt ((i:Int)+1));ret x) Q E s:=by
 have g2:=g.step1
 obtain ⟨o,e,c,d⟩:=g
 refine wpAny_bind (wpAny_setField e d (by simp) (wpAny_pure (q _ g2 fun b o hb eb=>?_)))
 have:I≠b:=fun z=>hb (by simp [z])
 exact (Heap.get?_update_other _ _ this).trans eb
theorem zh9 {I:Addr}{h1:Heap}{Q:Option Value→Shared→Prop}{R:Fin→Shared→Prop}(hh:A.handled=none)(k:∀ b o,b∉[I]→s.heap.get? b=some o→h1.get? b=some o)
  (q:∀ h',(∀ b o,b∉[I]→s.heap.get? b=some o→h'.get? b=some o)→Q none { s with heap:=h' }) :
  wpAny (model prog w) A.in1 (do raiseNew (← newExc (.type "StopIteration") [])) R (fun e s'=>wpAny (model prog w) A (do if ← isInstance e (.type "StopIteration") then return none else throw e) Q E s') { s with heap:=h1 }:=by
 refine wpAny_bind ?_
 simp only [newExc,newTuple]
 refine wpAny_bind (wpAny_newObj_type ?_ (by size_fits))
 refine wpAny_bind (m:=firstArgMember _ _) (wpAny_of_eq (a:=Value.none) (by first | rfl | (simp only [firstArgMember];rfl)) ?_)
 refine wpAny_newObj_type ?_ (by size_fits)
 simp only [raiseNew]
 refine wpAny_bind (wpAny_handled ?_)
 rw [show A.in1.handled=none from hh]
 refine wpAny_bind (wpAny_pure (wpAny_throw ?_))
 refine wpAny_bind (wpAny_isInstance (T:="StopIteration") (b:=true) ⟨_,Heap.get?_push_size _ rfl,rfl⟩ isSubtype_stop ?_)
 exact wpAny_pure (q _ fun b o hb e=>Heap.get?_push_of_some _ (Heap.get?_push_of_some _ (k b o hb e)))
theorem zhm {I:Addr}{first:Value}{i:Nat}{S:Addr}{n ep:Nat}{Q:Option Value→Shared→Prop}{R:Fin→Shared→Prop}(hh:A.handled=none)(g:Sit s.heap I first i S n ep)
  (q:∀ h',(∀ b o,b∉[I]→s.heap.get? b=some o→h'.get? b=some o)→Q none { s with heap:=h' }) :
  wpAny (model prog w) A.in1 (do setField (.ref I) 2 .none;raiseNew (← newExc (.type "StopIteration") [])) R (fun e s'=>wpAny (model prog w) A (do if ← isInstance e (.type "StopIteration") then return none else throw e) Q E s') s:=by
 obtain ⟨o,e,c,d⟩:=g
 refine wpAny_bind (wpAny_setField e d (by simp) ?_)
 refine zh9 (s:=s) (I:=I) hh (fun b o hb eb=>?_) q
 have:I≠b:=fun z=>hb (by simp [z])
 exact (Heap.get?_update_other _ _ this).trans eb
theorem end_row {I:Addr}{first:Value}{i:Nat}{S:Addr}{n ep:Nat}{Q:Option Value→Shared→Prop}{R:Fin→Shared→Prop}(hh:A.handled=none)(g:Sit s.heap I first i S n ep)
  (q:∀ h',(∀ b o,b∉[I]→s.heap.get? b=some o→h'.get? b=some o)→Q none { s with heap:=h' }) :
  wpAny (model prog w) A.in1 (do setField (.ref I) 0 (rawInt 0);setField (.ref I) 2 .none;raiseNew (← newExc (.type "StopIteration") [])) R (fun e s'=>wpAny (model prog w) A (do if ← isInstance e (.type "StopIteration") then return none else throw e) Q E s') s:=by
 obtain ⟨o,e,c,d⟩:=g
 refine wpAny_bind (wpAny_setField e d (by simp) ?_)
 have e1:=Heap.get?_update_self (Obj.mapFields (·.setIfInBounds 0 (rawInt 0))) e (Obj.isFreed_of_fields (Obj.data_mapFields d _))
 have d1:=Obj.data_mapFields d (·.setIfInBounds 0 (rawInt 0))
 refine wpAny_bind (wpAny_setField e1 d1 (by simp) ?_)
 refine zh9 (s:=s) (I:=I) hh (fun b o hb eb=>?_) q
 have:I≠b:=fun z=>hb (by simp [z])
 exact (Heap.get?_update_other _ _ this).trans ((Heap.get?_update_other _ _ this).trans eb)
theorem zci {S:Addr}{sl i ep:Nat}{es:Array (Int × Value)}{t:SetTable}{Q:Option (Value × Nat)→Shared→Prop}(bt:w.params.followText "set-order" = true)(b:Sob s.heap S es ep t)
  (q:Q (((pickOrder (w.params.setOrder S ep) es)[i]?).map fun e=>(e.2,sl)) s):wpAny (model prog w) A (setNext S sl i ep) Q E s:=by
 unfold setNext
 refine wpAny_bind (zau b ?_)
 refine wpAny_bind (zbd ?_)
 rw [bt]
 simp only [if_true,bne_self_eq_false,Bool.false_eq_true,if_false]
 unfold setWalk
 refine wpAny_bind (wpAny_bind (zau b ?_))
 refine wpAny_bind (zbd ?_)
 rw [bt]
 simp only [if_true]
 exact wpAny_bind (wpAny_askSetting (wpAny_pure (wpAny_pure q)))
theorem zbh:entryFor table "set_iterator.__iter__" = some Builtin.«dict_keyiterator.__iter__» :=
 entryFor_alias (id':="dict_keyiterator.__iter__") (by kernel_rfl) rfl (by decide +kernel) (by kernel_rfl)
theorem zbo (a:Value):argsOk "set_iterator.__iter__" ⟨[a],[]⟩:=by unfold argsOk; kernel_rfl
theorem zg3 (hh:A.handled=none)(bt:w.params.followText "set-order" = true){I S:Addr}(hne:S≠I){es:Array (Int × Value)}{ep:Nat}{t:SetTable} :
  Walks prog w A I [I,S] [I] es.size (fun i v=>((pickOrder (w.params.setOrder S ep) es).toList.map (·.2))[i]? = some v) (fun i h=>Sit h I (rawInt (0:Nat)) i S es.size ep∧Sob h S es ep t) where
 sub:=fun b hb=>by rw [List.mem_singleton.mp hb];exact List.mem_cons_self
 frame:=fun i h h' st k=>⟨st.1.at (k I List.mem_cons_self),st.2.at (k S (by simp))⟩
 item:=fun i s Q E hi st q=>by
  have lz:(pickOrder (w.params.setOrder S ep) es).size=es.size:=by
   have:=(zb3 (w.params.setOrder S ep) es).length_eq
   rwa [Array.length_toList,Array.length_toList] at this
  have e:=getElem?_pos (pickOrder (w.params.setOrder S ep) es) i (by omega)
  refine zco st.1 st.2 (wpAny_bind (zci bt st.2 ?_))
  rw [e]
  refine zhl (first':=rawInt (0:Nat)) st.1 fun h' g k=>⟨_,rfl,q _ h' s.toks ?_ ⟨g,st.2.at fun o eo=>k S o (by simp [hne]) eo⟩ k⟩
  rw [List.getElem?_map,Array.getElem?_toList,e]
  rfl
 done:=fun s Q E st q=>by
  have lz:(pickOrder (w.params.setOrder S ep) es).size=es.size:=by
   have:=(zb3 (w.params.setOrder S ep) es).length_eq
   rwa [Array.length_toList,Array.length_toList] at this
  have e:=getElem?_neg (pickOrder (w.params.setOrder S ep) es) es.size (by omega)
  refine zco st.1 st.2 (wpAny_bind (zci bt st.2 ?_))
  rw [e]
  exact zhm hh st.1 fun h' k=>q h' s.toks k
 self:=fun i s Q E st q=>by
  refine wpAny_pyIter_slot st.1.ty za6 (wpAny_call_entry za6 st.1.ty zbh ?_ (zbo _))
  exact wpAny_pure ⟨_,rfl,"set_iterator",_,st.1.ty,slot_sit_next.lookup,q⟩
noncomputable def Plc (h:Heap)(pl:Addr)(ps:List Nat):Prop:=∃ o,h.get? pl=some o∧o.cls = .type "tuple"∧o.data = .seq (ps.map fun (i:Nat)=>rawInt i).toArray 0
theorem Plc.at {h h':Heap}{pl:Addr}{ps:List Nat}(x:Plc h pl ps)(k:∀ o,h.get? pl=some o→h'.get? pl=some o):Plc h' pl ps:=let ⟨o,e,r⟩:=x; ⟨o,k o e,r⟩
theorem zds {S:Addr}{pl ep:Nat}{es:Array (Int × Value)}{t:SetTable}{x:Int × Value}{Q:Value→Shared→Prop}(b:Sob s.heap S es ep t)(e:es[pl]? = some x)
  (q:Q x.2 s):wpAny (model prog w) A (setNextDrawn S pl ep) Q E s:=by
 unfold setNextDrawn
 refine wpAny_bind (zau b ?_)
 dsimp only
 rw [if_neg (by simp),e]
 exact wpAny_pure q
theorem zdr {pl:Addr}{ps:List Nat}{Q:Option (Array Value)→Shared→Prop}(p:Plc s.heap pl ps)(q:Q (some (ps.map fun (i:Nat)=>rawInt i).toArray) s):wpAny (model prog w) A (seqItems? (.ref pl)) Q E s:=by
 obtain ⟨o,e,c,d⟩:=p
 unfold seqItems?
 refine wpAny_bind (wpAny_load e ?_)
 rw [d]
 exact wpAny_pure q
noncomputable def vat (es:Array (Int × Value))(p:Nat):Value:=((es[p]?).map (·.2)).getD .none
theorem zfb (hh:A.handled=none){I S pl:Addr}(hne:S≠I)(hnp:pl≠I){es:Array (Int × Value)}{ep:Nat}{t:SetTable}{ps:List Nat}(hp:ps.Perm (List.range es.size)) :
  Walks prog w A I [I,S,pl] [I] es.size (fun i v=>(ps.map (vat es))[i]? = some v) (fun i h=>Sit h I (.ref pl) i S es.size ep∧Sob h S es ep t∧Plc h pl ps) where
 sub:=fun b hb=>by rw [List.mem_singleton.mp hb];exact List.mem_cons_self
 frame:=fun i h h' st k=>⟨st.1.at (k I List.mem_cons_self),st.2.1.at (k S (by simp)),st.2.2.at (k pl (by simp))⟩
 item:=fun i s Q E hi st q=>by
  have lz:ps.length=es.size:=by rw [hp.length_eq,List.length_range]
  have e:=List.getElem?_eq_getElem (l:=ps) (i:=i) (by omega)
  have hm:ps[i] < es.size:=List.mem_range.mp (hp.mem_iff.mp (List.getElem_mem _))
  have e2:=getElem?_pos es ps[i] hm
  refine zh8 st.1 st.2.1 (wpAny_bind (zdr st.2.2 ?_))
  dsimp only
  rw [List.getElem?_toArray,List.getElem?_map,e]
  dsimp only [rawInt,Option.map]
  refine wpAny_bind (zds (x:=es[ps[i]]) st.2.1 (by simpa using e2) ?_)
  refine put_one st.1 fun h' g k=>⟨_,rfl,q _ h' s.toks ?_ ⟨g,st.2.1.at fun o eo=>k S o (by simp [hne]) eo,st.2.2.at fun o eo=>k pl o (by simp [hnp]) eo⟩ k⟩
  rw [List.getElem?_map,e]
  unfold vat
  dsimp only [Option.map]
  rw [e2]
  rfl
 done:=fun s Q E st q=>by
  have lz:ps.length=es.size:=by rw [hp.length_eq,List.length_range]
  have e:=List.getElem?_eq_none (l:=ps) (i:=es.size) (by omega)
  refine zh8 st.1 st.2.1 (wpAny_bind (zdr st.2.2 ?_))
  dsimp only
  rw [List.getElem?_toArray,List.getElem?_map,e]
  exact end_row hh st.1 fun h' k=>q h' s.toks k
 self:=fun i s Q E st q=>by
  refine wpAny_pyIter_slot st.1.ty za6 (wpAny_call_entry za6 st.1.ty zbh ?_ (zbo _))
  exact wpAny_pure ⟨_,rfl,"set_iterator",_,st.1.ty,slot_sit_next.lookup,q⟩
noncomputable def sitAt (t:SetTable)(i:Nat):Nat:=if i=0 then 0 else t.place.getD 0 0+1
theorem zcv {S:Addr}{sl i ep:Nat}{es:Array (Int × Value)}{t:SetTable}{Q:Option (Value × Nat)→Shared→Prop}(bt:w.params.followText "set-order" = false)(b:Sob s.heap S es ep t)(h1:es.size≤1)(hl:t.led=true)
  (q:Q (match es[SetTable.below t.place sl]?,t.place[SetTable.below t.place sl]? with | some (_,x),some j=>some (x,j+1) | _,_=>none) s):wpAny (model prog w) A (setNext S sl i ep) Q E s:=by
 unfold setNext
 refine wpAny_bind (zau b ?_)
 refine wpAny_bind (zbd ?_)
 rw [bt]
 simp only [Bool.false_eq_true,if_false]
 refine wpAny_ite_split (fun hab=>absurd hab ?_) fun _=>?_
 ·show ¬ ((!t.plain && decide (es.size > 1))=true)
  rw [decide_eq_false (by omega),Bool.and_false]
  exact Bool.false_ne_true
 refine wpAny_bind ?_
 show wpAny _ _ (if (!t.led && !es.isEmpty)=true then unsupported "set:maker-not-led" else pure ()) _ _ _
 rw [hl,if_neg (by simp)]
 exact wpAny_pure (wpAny_pure q)
theorem walk_one (hh:A.handled=none)(bt:w.params.followText "set-order" = false){I S:Addr}(hne:S≠I){es:Array (Int × Value)}{ep:Nat}{t:SetTable}(h1:es.size≤1)(hl:t.led=true) :
  Walks prog w A I [I,S] [I] es.size (fun i v=>(es.toList.map (·.2))[i]? = some v) (fun i h=>Sit h I (rawInt (sitAt t i:Nat)) i S es.size ep∧Sob h S es ep t) where
 sub:=fun b hb=>by rw [List.mem_singleton.mp hb];exact List.mem_cons_self
 frame:=fun i h h' st k=>⟨st.1.at (k I List.mem_cons_self),st.2.at (k S (by simp))⟩
 item:=fun i s Q E hi st q=>by
  have i0:i=0:=by omega
  subst i0
  have pz:t.place.size=1:=by
   have:=st.2.ft
   unfold SetTable.fits at this
   simp at this
   omega
  obtain ⟨p,ep'⟩:∃ p,t.place=#[p]:=⟨t.place[0],by apply Array.ext;simp [pz];intro i h1 h2;simp at h2;subst h2;rfl⟩
  have e:=getElem?_pos es 0 hi
  refine zco st.1 st.2 (wpAny_bind (zcv bt st.2 h1 hl ?_))
  have bl:SetTable.below t.place (sitAt t 0)=0:=by
   rw [ep']
   simp [sitAt,SetTable.below,SetTable.below.go]
  generalize es[0]=y at e ⊢
  obtain ⟨c,x⟩:=y
  rw [bl,e,ep']
  refine zhl (first':=rawInt ((p+1:Nat):Int)) st.1 fun h' g k=>⟨_,rfl,q _ h' s.toks ?_ ⟨?_,st.2.at fun o eo=>k S o (by simp [hne]) eo⟩ k⟩
  ·rw [List.getElem?_map,Array.getElem?_toList,e]
   rfl
  ·have:sitAt t (0+1)=p+1:=by rw [sitAt,ep'];rfl
   rw [this]
   exact g
 done:=fun s Q E st q=>by
  refine zco st.1 st.2 (wpAny_bind (zcv bt st.2 h1 hl ?_))
  have pz:t.place.size=es.size:=by
   have:=st.2.ft
   unfold SetTable.fits at this
   simp at this
   omega
  have bl:SetTable.below t.place (sitAt t es.size)=es.size:=by
   by_cases z:es.size=0
   ·rw [z] at pz ⊢
    have:t.place=#[]:=Array.size_eq_zero_iff.mp pz
    rw [this]
    rfl
   ·have z1:es.size=1:=by omega
    rw [z1] at pz ⊢
    obtain ⟨p,ep'⟩:∃ p,t.place=#[p]:=⟨t.place[0],by apply Array.ext;simp [pz];intro i h1 h2;simp at h2;subst h2;rfl⟩
    rw [ep']
    simp [sitAt,SetTable.below,SetTable.below.go,ep']
  rw [bl,getElem?_neg es es.size (by omega)]
  exact zhm hh st.1 fun h' k=>q h' s.toks k
 self:=fun i s Q E st q=>by
  refine wpAny_pyIter_slot st.1.ty za6 (wpAny_call_entry za6 st.1.ty zbh ?_ (zbo _))
  exact wpAny_pure ⟨_,rfl,"set_iterator",_,st.1.ty,slot_sit_next.lookup,q⟩
end
end PySem
namespace PySem
open Sem (wp)
section
variable {prog:Program} {w:World} {A:Around} {E:Value→Shared→Prop} {s:Shared}
theorem zg4 (es:Array (Int × Value)):(List.range es.size).map (vat es)=es.toList.map (·.2):=by
 apply List.ext_getElem
 ·simp
 ·intro i h1 h2
  rw [List.length_map,List.length_range] at h1
  rw [List.getElem_map,List.getElem_map,List.getElem_range]
  unfold vat
  rw [getElem?_pos es i h1]
  rfl
theorem iter_set {S:Addr}{es:Array (Int × Value)}{ep:Nat}{t:SetTable}{Q:Value→Shared→Prop}(b:Sob s.heap S es ep t)(hl:t.led=ldr w)(hpl:1 < es.size→t.plain=false)(hz:es.size≤sizeLine)
  (q:∀ (I:Addr) (fp:List Addr) (h':Heap) dr (vs:List Value) (St:Nat→Heap→Prop),
   (∀ A':Around,A'.handled=none→Walks prog w A' I fp [I] es.size (fun i v=>vs[i]? = some v) St)→St 0 h'→vs.Perm (es.toList.map (·.2))→(∀ b∈fp,b=S ∨ s.heap.objs.size≤b)→s.heap.objs.size≤I→I < h'.objs.size →
   (∀ b o,s.heap.get? b=some o→h'.get? b=some o)→Q (.ref I) { s with heap:=h',drawn:=dr }):wpAny (model prog w) A (pyIter (.ref S)) Q E s:=by
 obtain ⟨o,e,x,d⟩:=b.ex
 have hT:s.TypeIs (.ref S) "set":=⟨o,e,x.1⟩
 have lt:=Heap.lt_size e
 refine wpAny_pyIter_slot hT F.slot_set_iter (wpAny_call_entry F.slot_set_iter hT zch ?_ (F.args_set_iter_1 _))
 unfold Builtin.«frozenset.__iter__»
 refine wpAny_bind (m:=Builtin.Frozenset.slot0 _ _) (wpAny_of_eq (a:=S) rfl ?_)
 refine wpAny_bind (m:=Builtin.Frozenset.sizeOf S) ?_
 unfold Builtin.Frozenset.sizeOf
 refine wpAny_bind (zbg b (wpAny_pure ?_))
 refine wpAny_bind (m:=setDrawn S) ?_
 unfold setDrawn
 refine wpAny_bind (zau b (wpAny_bind (zbd (wpAny_pure ?_))))
 cases bt:w.params.followText "set-order" with
 | true =>
  simp only [Bool.not_true,Bool.false_and,Bool.false_eq_true,if_false]
  refine wpAny_bind (wpAny_pure ?_)
  refine wpAny_bind (m:=setEpoch S) ?_
  unfold setEpoch
  refine wpAny_bind (zau b (wpAny_pure ?_))
  refine wpAny_bind (wpAny_newObj_type ?_)
  refine wpAny_pure ⟨_,rfl,"set_iterator",_,⟨_,Heap.get?_push_size _ rfl,rfl⟩,slot_sit_next.lookup,?_⟩
  have lz:(pickOrder (w.params.setOrder S ep) es).toList.length=es.toList.length:=(zb3 _ es).length_eq
  refine q s.heap.objs.size [s.heap.objs.size,S] _ s.drawn _ _ (fun A' hh=>zg3 (t:=t) hh bt (Nat.ne_of_lt lt)) ⟨⟨_,Heap.get?_push_size _ rfl,rfl,rfl⟩,b.at fun o eo=>Heap.get?_push_of_some _ eo⟩ ((zb3 _ es).map _) (fun c hc=>?_) (Nat.le_refl _) (by rw [Heap.size_push];exact Nat.lt_succ_self _) fun c o eo=>Heap.get?_push_of_some _ eo
  rcases List.mem_cons.mp hc with h | h
  ·exact .inr (by rw [h];exact Nat.le_refl _)
  ·exact .inl (List.mem_singleton.mp h)
 | false =>
  have ld:t.led=true:=by rw [hl];unfold ldr;rw [bt];rfl
  by_cases dr:(!t.plain && decide (es.size > 1))=true
  ·refine wpAny_ite_split (fun _=>?_) fun no=>absurd (show (!false && (!t.plain && decide (es.size > 1)))=true by rw [dr];rfl) no
   refine wpAny_bind (zbr _ _ _ _ (List.length_range) fun ps dr2 hp=>?_)
   have lp:ps.length=es.size:=by rw [hp.length_eq,List.length_range]
   refine wpAny_bind (wpAny_newObj_type ?_ (by show (ps.map fun (i:Nat)=>rawInt i).toArray.size≤_;simp [lp];exact hz))
   refine wpAny_bind (m:=setEpoch S) ?_
   unfold setEpoch
   refine wpAny_bind (zau (b.at fun o eo=>Heap.get?_push_of_some _ eo) (wpAny_pure ?_))
   refine wpAny_bind (wpAny_newObj_type ?_)
   refine wpAny_pure ⟨_,rfl,"set_iterator",_,⟨_,Heap.get?_push_size _ rfl,rfl⟩,slot_sit_next.lookup,?_⟩
   have z1:(s.heap.push { cls:=.type "tuple",data:=.seq (ps.map fun (i:Nat)=>rawInt i).toArray }:Heap).objs.size=s.heap.objs.size+1:=Heap.size_push ..
   rw [z1]
   refine q (s.heap.objs.size+1) [s.heap.objs.size+1,S,s.heap.objs.size] _ dr2 _ _ (fun A' hh=>zfb (t:=t) (ep:=ep) hh (Nat.ne_of_lt (Nat.lt_succ_of_lt lt)) (Nat.ne_of_lt (Nat.lt_succ_self _)) hp) ⟨?_,?_,?_⟩ ?_ (fun c hc=>?_) (Nat.le_succ _) ?_ fun c o eo=>Heap.get?_push_of_some _ (Heap.get?_push_of_some _ eo)
   ·have g0:=Heap.get?_push_size (s.heap.push { cls:=.type "tuple",data:=.seq (ps.map fun (i:Nat)=>rawInt i).toArray }) (o:={ cls:=.type "set_iterator",data:=.fields #[.ref s.heap.objs.size,rawInt (0:Nat),.ref S,rawInt es.size,rawInt ep] }) rfl
    rw [z1] at g0
    exact ⟨_,g0,rfl,rfl⟩
   ·exact b.at fun o eo=>Heap.get?_push_of_some _ (Heap.get?_push_of_some _ eo)
   ·exact ⟨_,Heap.get?_push_of_some _ (Heap.get?_push_size _ rfl),rfl,rfl⟩
   ·rw [← zg4]
    exact hp.map _
   ·simp only [List.mem_cons,List.not_mem_nil,or_false] at hc
    rcases hc with h | h | h
    ·exact .inr (by rw [h];exact Nat.le_succ _)
    ·exact .inl h
    ·exact .inr (by rw [h];exact Nat.le_refl _)
   ·rw [Heap.size_push,z1]
    exact Nat.lt_succ_self _
  ·refine wpAny_ite_split (fun yes=>absurd (show (!t.plain && decide (es.size > 1))=true from yes) dr) fun _=>?_
   have h1:es.size≤1:=by
    rcases Nat.lt_or_ge 1 es.size with h | h
    ·exact absurd (by rw [hpl h,decide_eq_true h];rfl) dr
    ·exact h
   refine wpAny_bind (wpAny_pure ?_)
   refine wpAny_bind (m:=setEpoch S) ?_
   unfold setEpoch
   refine wpAny_bind (zau b (wpAny_pure ?_))
   refine wpAny_bind (wpAny_newObj_type ?_)
   refine wpAny_pure ⟨_,rfl,"set_iterator",_,⟨_,Heap.get?_push_size _ rfl,rfl⟩,slot_sit_next.lookup,?_⟩
   refine q s.heap.objs.size [s.heap.objs.size,S] _ s.drawn _ _ (fun A' hh=>walk_one (t:=t) (ep:=ep) hh bt (Nat.ne_of_lt lt) h1 ld) ⟨⟨_,Heap.get?_push_size _ rfl,rfl,rfl⟩,b.at fun o eo=>Heap.get?_push_of_some _ eo⟩ (List.Perm.refl _) (fun c hc=>?_) (Nat.le_refl _) (by rw [Heap.size_push];exact Nat.lt_succ_self _) fun c o eo=>Heap.get?_push_of_some _ eo
   rcases List.mem_cons.mp hc with h | h
   ·exact .inr (by rw [h];exact Nat.le_refl _)
   ·exact .inl (List.mem_singleton.mp h)
theorem zia {S:Addr}{Q:Bool→Shared→Prop}(hT:s.TypeIs (.ref S) "set")(q:Q false s):wpAny (model prog w) A (Builtin.List.listLengthHint (.ref S)) Q E s:=by
 unfold Builtin.List.listLengthHint
 refine wpAny_bind (wpAny_specialOf hT F.slot_set_len.lookup ?_)
 generalize hid:("set.__len__":String)=id0
 wp_delta
 rw [show splitId id0=some ("set","__len__") from by subst hid;decide +kernel]
 subst hid
 refine wpAny_bind (wpAny_isInstance (T:="set") (b:=true) hT (by rw [isSubtype_type];kernel_rfl) ?_)
 refine wpAny_ite_split (fun no=>absurd no (by decide)) fun _=>?_
 refine wpAny_ite_split (fun _=>?_) fun no=>absurd (by decide +kernel) no
 refine wpAny_bind (wpAny_typeOf hT ?_)
 exact wpAny_pure q
theorem zi6 {R:Result→Shared→Prop}{S L:Addr}{es:Array (Int × Value)}{ep c0:Nat}{t:SetTable}(hh:A.handled=none)(b:Sob s.heap S es ep t)(hl:t.led=ldr w)(hpl:1 < es.size→t.plain=false)(hz:es.size≤sizeLine)(res:Value)
  (hL:s.heap.get? L=some { cls:=.type "list",data:=.seq #[] c0 })
  (hR:∀ h' dr tk (vs:List Value) acc c',(∀ b o,b≠L→s.heap.get? b=some o→h'.get? b=some o)→h'.get? L=some { cls:=.type "list",dict:=none,data:=.seq acc c',slots:=#[] }→vs.Perm (es.toList.map (·.2)) →
   ItemsOf (fun i v=>vs[i]? = some v) acc es.size→R (.ok (.ret res)) { s with heap:=h',drawn:=dr,toks:=tk }) :
  wpAny (model prog w) A.in1 (Builtin.List.listExtendWith (.ref L) (.ref S) res)
   (fun fin s'=>match fin with | .done f=>R (.ok f) s' | .again c'=>c'.quiet=true∧codeAny (model prog w) A c' R s') (fun e s'=>R (.error e) s') s:=by
 obtain ⟨o,e,x,d⟩:=b.ex
 have hT:s.TypeIs (.ref S) "set":=⟨o,e,x.1⟩
 have nLS:L≠S:=fun z=>by
  rw [z,e] at hL
  have:=Option.some.inj hL
  rw [this] at d
  cases d
 have lL:=Heap.lt_size hL
 unfold Builtin.List.listExtendWith
 refine wpAny_bind (wpAny_typeOf hT ?_)
 have n1:Builtin.List.listSameRef (.ref L) (.ref S)=false:=by simp [Builtin.List.listSameRef,nLS]
 have n2:(Value.type "set" == Value.type "list")=false:=by decide
 have n3:(Value.type "set" == Value.type "tuple")=false:=by decide
 simp only [n1,n2,n3,Bool.or_false,Bool.false_eq_true,if_false]
 refine wpAny_bind (iter_set b hl hpl hz fun I fp h' dr vs St W st0 pm hfp gI lI k=>?_)
 have nf:L∉fp:=fun hm=>by
  rcases hfp L hm with z | z
  ·exact nLS z
  ·exact absurd lL (Nat.not_lt.mpr z)
 have nI:L≠I:=Nat.ne_of_lt (Nat.lt_of_lt_of_le lL gI)
 have WS:=(W A.in1 hh).toS
 have go:∀ (h2:Heap) (c1 tk:Nat),St 0 h2→(∀ b o,b≠L→h'.get? b=some o→h2.get? b=some o)→h2.get? L=some { cls:=.type "list",data:=.seq #[] c1 } →
   codeAny (model prog w) A (.builtin "list.extend.loop" ⟨[.ref L,.ref I,res],[]⟩) R { s with heap:=h2,drawn:=dr,toks:=tk }:=fun h2 c1 tk st2 k2 hL2=>by
  refine codeAny_extend_loopS WS hz L nf res es.size 0 _ #[] c1 (by omega) (Nat.zero_le _) st2 hL2 (ItemsOf.nil _) fun s2 acc c2 mv hL3 hI=>?_
  rw [Moved.eq_with mv]
  refine hR s2.heap dr s2.toks vs acc c2 (fun b o hb eb=>mv.heap b o (fun hm=>?_) (k2 b o hb (k b o eb))) hL3 pm hI
  rcases List.mem_cons.mp hm with z | z
  ·exact hb z
  ·rw [List.mem_singleton.mp z] at eb
   exact absurd (Heap.lt_size eb) (Nat.not_lt.mpr gI)
 have hL1:=k L _ hL
 have hT1:Shared.TypeIs { s with heap:=h',drawn:=dr } (.ref S) "set":=⟨o,k S o e,x.1⟩
 refine wpAny_bind (wpAny_holding (zia hT1 ?_))
 refine wpAny_ite_split (fun _=>?_) fun _=>wpAny_pure ⟨plainId_quiet F.plain_extend_loop _,go h' c0 _ st0 (fun _ _ _ eb=>eb) hL1⟩
 refine wpAny_bind (wpAny_rule ?_)
 refine wpAny_bind ?_
 show wpAny _ _ (updateSeq L (·.push .none) >>= fun _=>updateSeq L (·.pop)) _ _ _
 refine wpAny_bind (wpAny_updateSeq hL1 rfl ?_)
 have hL2:=Heap.get?_update_self (Obj.mapSeq (·.push Value.none)) hL1 rfl
 refine wpAny_updateSeq (hz:=by seq_fits) hL2 rfl ?_
 have hL3:=Heap.get?_update_self (Obj.mapSeq (·.pop)) hL2 rfl
 have up:∀ b o,b≠L→h'.get? b=some o→((h'.update L (Obj.mapSeq (·.push Value.none))).update L (Obj.mapSeq (·.pop))).get? b=some o:=fun b o hb eb =>
  (Heap.get?_update_other _ _ (Ne.symm hb)).trans ((Heap.get?_update_other _ _ (Ne.symm hb)).trans eb)
 exact wpAny_pure ⟨plainId_quiet F.plain_extend_loop _,go _ _ _ ((W A.in1 hh).frame 0 h' _ st0 fun b hb o eb=>up b o (fun z=>nf (z ▸ hb)) eb) up hL3⟩
end
end PySem
namespace Ts
open PySem PyProof.Rows
theorem zak {σ:Type}{M:Model}{A:Around}{E:Value→Shared→Prop}{s:Shared}{α:Type}{c:Prop}[Decidable c]{x y:StateT σ Sem α}{Q:α→σ→Prop}{st:σ}(h:c)(p:wpS M A E s x Q st):wpS M A E s (if c then x else y) Q st:=by
 rw [if_pos h];exact p
theorem zal {σ:Type}{M:Model}{A:Around}{E:Value→Shared→Prop}{s:Shared}{α:Type}{c:Prop}[Decidable c]{x y:StateT σ Sem α}{Q:α→σ→Prop}{st:σ}(h:¬ c)(p:wpS M A E s y Q st):wpS M A E s (if c then x else y) Q st:=by
 rw [if_neg h];exact p
noncomputable def kof (κ:KeyKind)(p:Keyed):κ.α:=(κ.keyOf p.1).getD κ.dflt
noncomputable def Gd (κ:KeyKind)(p:Keyed):Prop:=∃ a,κ.keyOf p.1=some a
theorem Gd.eq {κ:KeyKind}{p:Keyed}(h:Gd κ p):κ.keyOf p.1=some (kof κ p):=by
 obtain ⟨a,e⟩:=h
 unfold kof
 rw [e]
 rfl
structure TB (st:SortSt):Prop where
 kind:kindOf st=oneType'
 failed:failedOf st=none
noncomputable def gal:Bool→Keyed→Array Keyed→Nat→Nat→Nat→StateT SortSt Sem (Option Nat):=sortPriv% PySem.Builtin.gallop
noncomputable def gbd (lf:Bool)(key:Keyed)(arr:Array Keyed)(b i:Nat):StateT SortSt Sem (Option Bool):=do
 let it ← elem' arr (b+i)
 if lf then lt' it key else return (← lt' key it).map (!·)
noncomputable def galB (lf:Bool)(key:Keyed)(arr:Array Keyed)(b n d0 u0:Nat):StateT SortSt Sem (Option Nat):=do
 let mut dn:=d0
 let mut up:=u0
 for _ in [0:n] do
  if dn≥up then break
  let md:=dn+(up - dn) / 2
  let some mr ← gbd lf key arr b md | return none
  if mr then dn:=md+1 else up:=md
 return some up
theorem gal_eq (lf:Bool)(key:Keyed)(arr:Array Keyed)(b n h:Nat):gal lf key arr b n h=(do
 let mut la:=0
 let mut of:=1
 let some rt ← gbd lf key arr b h | return none
 if rt then
  for _ in [0:n] do
   if of≥n - h then break
   let some mr ← gbd lf key arr b (h+of) | return none
   if !mr then break
   la:=of
   of:=2*of+1
  galB lf key arr b n (h+la+1) (h+min of (n - h))
 else
  for _ in [0:n] do
   if of≥h+1 then break
   let some fd ← gbd lf key arr b (h - of) | return none
   if fd then break
   la:=of
   of:=2*of+1
  galB lf key arr b n (h+1 - min of (h+1)) (h - la)):=rfl
section
variable {prog:Program} {w:World} {A:Around} {E:Value→Shared→Prop} {s:Shared} {κ:KeyKind}
theorem zib {st:SortSt}{x y:Keyed}{Q:Option Bool→SortSt→Prop}(hO:κ.OneLt)(hB:TB st)(hx:Gd κ x)(hy:Gd κ y)(h:Q (some (κ.blt (kof κ x) (kof κ y))) st):wpS (model prog w) A E s (lt' x y) Q st:=by
 rw [lt'_eq]
 refine wpS_bind (wpS_get ?_)
 rw [hB.kind,keyLt'_oneType]
 refine wpS_bind (wpS_lift (wpAny_attempt (hO prog w A _ s x.1 y.1 _ _ hx.eq hy.eq ⟨rfl,?_⟩)))
 exact wpS_pure h
noncomputable def bdB (κ:KeyKind)(lf:Bool)(key:κ.α)(x:κ.α):Bool:=if lf then κ.blt x key else !κ.blt key x
theorem wpS_gbd {st:SortSt}{lf:Bool}{key p:Keyed}{arr:Array Keyed}{b i:Nat}{Q:Option Bool→SortSt→Prop}(hO:κ.OneLt)(hB:TB st)(hk:Gd κ key)(e:arr[b+i]? = some p)(hp:Gd κ p)
  (h:Q (some (bdB κ lf (kof κ key) (kof κ p))) st):wpS (model prog w) A E s (gbd lf key arr b i) Q st:=by
 unfold gbd
 rw [elem'_eq,e]
 refine wpS_bind (wpS_pure ?_)
 unfold bdB at h
 cases lf with
 | true=>exact zib hO hB hp hk h
 | false=>exact wpS_bind (zib hO hB hk hp (wpS_pure h))
theorem zhn {st:SortSt}{lf:Bool}{key:Keyed}{arr:Array Keyed}{b n h:Nat}{Q:Option Nat→SortSt→Prop}(hO:κ.OneLt)(hB:TB st)(hk:Gd κ key)(B:Nat→Bool)(hh:h < n)
  (at_:∀ i,i < n→∃ p,arr[b+i]? = some p∧Gd κ p∧bdB κ lf (kof κ key) (kof κ p)=B i) (mono:∀ i j,i≤j→j < n→B j=true→B i=true)
  (hq:∀ k,k≤n→(∀ i,i < k→B i=true)→(∀ i,k≤i→i < n→B i=false)→Q (some k) st):wpS (model prog w) A E s (gal lf key arr b n h) Q st:=by
 have ask:∀ {i:Nat} {R:Option Bool→SortSt→Prop},i < n→R (some (B i)) st→wpS (model prog w) A E s (gbd lf key arr b i) R st:=fun {i R} hi r=>by
  obtain ⟨p,e,g,eb⟩:=at_ i hi
  exact wpS_gbd hO hB hk e g (by rw [eb];exact r)
 have no:∀ i j,i≤j→j < n→B i=false→B j=false:=fun i j hij hj e=>by
  cases ej:B j with
  | false=>rfl
  | true=>rw [mono i j hij hj ej] at e;cases e
 -- the last part
 have fin:∀ dn up,dn≤up→up≤n→(∀ i,i < dn→B i=true)→(∀ i,up≤i→i < n→B i=false)→wpS (model prog w) A E s (galB lf key arr b n dn up) Q st:=by
  intro dn up h1 h2 h3 h4
  unfold galB
  refine wpS_bind (wpS_mono (wpS_forRange (I:=fun x c st'=>st'=st∧∃ dn up,c=(none,dn,up)∧dn≤up∧up≤n∧up - dn≤n - x∧(∀ i,i < dn→B i=true)∧(∀ i,up≤i→i < n→B i=false))
   (Q:=fun c st'=>st'=st∧∃ k,c=(none,k,k)∧k≤n∧(∀ i,i < k→B i=true)∧(∀ i,k≤i→i < n→B i=false)) ?step ?fin ⟨rfl,dn,up,rfl,h1,h2,by omega,h3,h4⟩) ?post)
  case post =>
   rintro c st' ⟨rfl,k,rfl,a1,a2,a3⟩
   exact wpS_pure (hq k a1 a2 a3)
  case fin =>
   rintro c st' ⟨rfl,dn,up,rfl,a1,a2,a3,a4,a5⟩
   have:dn=up:=by omega
   subst this
   exact ⟨rfl,dn,rfl,a2,a4,a5⟩
  case step =>
   rintro x c st' _ hx ⟨rfl,dn,up,rfl,a1,a2,a3,a4,a5⟩
   dsimp only
   by_cases hd:dn≥up
   ·refine zak hd ?_
    have:dn=up:=by omega
    subst this
    exact wpS_pure ⟨rfl,dn,rfl,a2,a4,a5⟩
   ·refine zal hd ?_
    refine wpS_bind (ask (by omega) ?_)
    cases eb:B (dn+(up - dn) / 2) with
    | true =>
     simp only [if_true]
     exact wpS_pure ⟨rfl,dn+(up - dn) / 2+1,up,rfl,by omega,a2,by omega,fun i hi=>mono i _ (by omega) (by omega) eb,a5⟩
    | false =>
     simp only [Bool.false_eq_true,if_false]
     exact wpS_pure ⟨rfl,dn,dn+(up - dn) / 2,rfl,by omega,by omega,by omega,a4,fun i hi1 hi2=>no _ i (by omega) hi2 eb⟩
 rw [gal_eq]
 refine wpS_bind (ask hh ?_)
 cases eh:B h with
 | true =>
  dsimp only
  refine zak rfl ?_
  refine wpS_bind (wpS_mono (wpS_forRange (I:=fun x c st'=>st'=st∧∃ la of,c=(none,la,of)∧la < of∧x+1≤of∧h+la < n∧B (h+la)=true)
   (Q:=fun c st'=>st'=st∧∃ la of,c=(none,la,of)∧la < of∧h+la < n∧B (h+la)=true∧(of≥n - h ∨ (h+of < n∧B (h+of)=false))) ?step ?fin ⟨rfl,0,1,rfl,by omega,by omega,by omega,eh⟩) ?post)
  case post =>
   rintro c st' ⟨rfl,la,of,rfl,a1,a2,a3,a4⟩
   dsimp only
   refine fin (h+la+1) (h+min of (n - h)) (by omega) (by omega) (fun i hi=>mono i _ (by omega) a2 a3) fun i hi1 hi2=>?_
   rcases a4 with a4 | ⟨a4,a5⟩
   ·omega
   ·exact no _ i (by omega) hi2 a5
  case fin =>
   rintro c st' ⟨rfl,la,of,rfl,a1,a2,a3,a4⟩
   exact ⟨rfl,la,of,rfl,a1,a3,a4,.inl (by omega)⟩
  case step =>
   rintro x c st' _ hx ⟨rfl,la,of,rfl,a1,a2,a3,a4⟩
   dsimp only
   by_cases ho:of≥n - h
   ·refine zak ho ?_
    exact wpS_pure ⟨rfl,la,of,rfl,a1,a3,a4,.inl ho⟩
   ·refine zal ho ?_
    refine wpS_bind (ask (by omega) ?_)
    cases eb:B (h+of) with
    | true =>
     simp only [Bool.not_true,Bool.false_eq_true,if_false]
     exact wpS_pure ⟨rfl,of,2*of+1,rfl,by omega,by omega,by omega,eb⟩
    | false =>
     simp only [Bool.not_false,if_true]
     exact wpS_pure ⟨rfl,la,of,rfl,a1,a3,a4,.inr ⟨by omega,eb⟩⟩
 | false =>
  dsimp only
  refine zal Bool.false_ne_true ?_
  refine wpS_bind (wpS_mono (wpS_forRange (I:=fun x c st'=>st'=st∧∃ la of,c=(none,la,of)∧la < of∧x+1≤of∧la≤h∧B (h - la)=false)
   (Q:=fun c st'=>st'=st∧∃ la of,c=(none,la,of)∧la < of∧la≤h∧B (h - la)=false∧(of≥h+1 ∨ (of≤h∧B (h - of)=true))) ?step ?fin ⟨rfl,0,1,rfl,by omega,by omega,by omega,eh⟩) ?post)
  case post =>
   rintro c st' ⟨rfl,la,of,rfl,a1,a2,a3,a4⟩
   dsimp only
   refine fin (h+1 - min of (h+1)) (h - la) (by omega) (by omega) (fun i hi=>?_) fun i hi1 hi2=>no _ i hi1 hi2 a3
   rcases a4 with a4 | ⟨a4,a5⟩
   ·omega
   ·exact mono i _ (by omega) (by omega) a5
  case fin =>
   rintro c st' ⟨rfl,la,of,rfl,a1,a2,a3,a4⟩
   exact ⟨rfl,la,of,rfl,a1,a3,a4,.inl (by omega)⟩
  case step =>
   rintro x c st' _ hx ⟨rfl,la,of,rfl,a1,a2,a3,a4⟩
   dsimp only
   by_cases ho:of≥h+1
   ·refine zak ho ?_
    exact wpS_pure ⟨rfl,la,of,rfl,a1,a3,a4,.inl ho⟩
   ·refine zal ho ?_
    refine wpS_bind (ask (by omega) ?_)
    cases eb:B (h - of) with
    | false =>
     simp only [Bool.false_eq_true,if_false]
     exact wpS_pure ⟨rfl,of,2*of+1,rfl,by omega,by omega,by omega,eb⟩
    | true =>
     simp only [if_true]
     exact wpS_pure ⟨rfl,la,of,rfl,a1,a3,a4,.inr ⟨by omega,eb⟩⟩
end
end Ts
namespace Ts
open PySem PyProof.Rows
noncomputable def mlo:Array Keyed→Array Keyed→StateT SortSt Sem (Array Keyed):=sortPriv% PySem.Builtin.mergeLo
noncomputable def smg:Nat→StateT SortSt Sem Unit:=sortPriv% PySem.Builtin.setMinGallop
noncomputable abbrev mDn (a b o:Array Keyed)(i j:Nat):Array Keyed:=o++a.extract i a.size++b.extract j b.size
noncomputable abbrev mLa (a b o:Array Keyed)(i j:Nat):Array Keyed:=o++b.extract j b.size++a.extract i a.size
theorem mlo_eq (a b:Array Keyed):mlo a b=(do
 rule "list.sort.merge-lo"
 let mut o:Array Keyed:=#[← elem' b 0]
 let mut i:=0
 let mut j:=1
 if j == b.size then return mDn a b o i j
 if i+1 == a.size then return mLa a b o i j
 let mut g:=gallopOf (← get)
 for _ in [0:a.size+b.size] do
  let mut p:=0
  let mut q:=0
  for _ in [0:a.size+b.size] do
   let some w ← lt' (← elem' b j) (← elem' a i) | return mDn a b o i j
   if w then
    o:=o.push (← elem' b j)
    j:=j+1
    q:=q+1
    p:=0
    if j == b.size then return mDn a b o i j
    if q≥g then break
   else
    o:=o.push (← elem' a i)
    i:=i+1
    p:=p+1
    q:=0
    if i+1 == a.size then return mLa a b o i j
    if p≥g then break
  rule "list.sort.gallop"
  g:=g+1
  for _ in [0:a.size+b.size] do
   if g > 1 then g:=g - 1
   smg g
   let some k ← gal false (← elem' b j) a i (a.size - i) 0 | return mDn a b o i j
   p:=k
   if k > 0 then
    o:=o++a.extract i (i+k)
    i:=i+k
    if i+1 == a.size then return mLa a b o i j
    if i == a.size then return mDn a b o i j
   o:=o.push (← elem' b j)
   j:=j+1
   if j == b.size then return mDn a b o i j
   let some k ← gal true (← elem' a i) b j (b.size - j) 0 | return mDn a b o i j
   q:=k
   if k > 0 then
    o:=o++b.extract j (j+k)
    j:=j+k
    if j == b.size then return mDn a b o i j
   o:=o.push (← elem' a i)
   i:=i+1
   if i+1 == a.size then return mLa a b o i j
   if p < 7 && q < 7 then break
  g:=g+1
  smg g
 unsupported "internal:list.sort.merge-bound"):=rfl
end Ts
namespace Ts
open PySem PyProof.Rows
variable {κ:KeyKind}
noncomputable def lek (κ:KeyKind)(x y:Keyed):Prop:=κ.kle (kof κ x) (kof κ y)
theorem zdd {x y z:Keyed}(h:lek κ x y)(g:lek κ y z):lek κ x z:=KeyOrd.kle_trans h g
theorem lek_refl (x:Keyed):lek κ x x:=KeyOrd.kle_refl _
noncomputable def Srt (κ:KeyKind)(l:List Keyed):Prop:=l.Pairwise (lek κ)
theorem Srt.drop {l:List Keyed}(h:Srt κ l)(i:Nat):Srt κ (l.drop i):=List.Pairwise.sublist (List.drop_sublist i l) h
theorem Srt.take {l:List Keyed}(h:Srt κ l)(i:Nat):Srt κ (l.take i):=List.Pairwise.sublist (List.take_sublist i l) h
noncomputable def Lel (κ:KeyKind)(l m:List Keyed):Prop:=∀ x∈l,∀ y∈m,lek κ x y
theorem srt_app {l m:List Keyed}:Srt κ (l++m) ↔ Srt κ l∧Srt κ m∧Lel κ l m:=List.pairwise_append
theorem Srt.at {l:List Keyed}(h:Srt κ l){i j:Nat}{x y:Keyed}(hij:i≤j)(hx:l[i]? = some x)(hy:l[j]? = some y):lek κ x y:=by
 by_cases e:i=j
 ·subst e
  rw [hx] at hy
  cases hy
  exact lek_refl _
 ·obtain ⟨h1,e1⟩:=List.getElem?_eq_some_iff.mp hx
  obtain ⟨h2,e2⟩:=List.getElem?_eq_some_iff.mp hy
  have:=List.pairwise_iff_getElem.mp h i j h1 h2 (by omega)
  rw [e1,e2] at this
  exact this
theorem zbs {l:List Keyed}{i:Nat}{x:Keyed}(h:l[i]? = some x):l.drop i=x::l.drop (i+1):=by
 obtain ⟨h1,e1⟩:=List.getElem?_eq_some_iff.mp h
 rw [List.drop_eq_getElem_cons h1,e1]
theorem za8 {l:List Keyed}{i:Nat}{x:Keyed}(h:l[i]? = some x):l.take (i+1)=l.take i++[x]:=by
 rw [List.take_add_one,h]
 rfl
structure Mc (κ:KeyKind) (A B O:List Keyed) (i j:Nat):Prop where
 pm:O.Perm (A.take i++B.take j)
 so:Srt κ O
 la:Lel κ O (A.drop i)
 lb:Lel κ O (B.drop j)
 hi:i≤A.length
 hj:j≤B.length
theorem Mc.pushA {A B O:List Keyed}{i j:Nat}(M:Mc κ A B O i j)(sA:Srt κ A){x:Keyed}(h:A[i]? = some x)(hx:Lel κ [x] (B.drop j)):Mc κ A B (O++[x]) (i+1) j:=by
 have ed:=zbs h
 have sd:=sA.drop i
 rw [ed] at sd
 have sd':=List.pairwise_cons.mp sd
 refine ⟨?_,srt_app.mpr ⟨M.so,List.pairwise_singleton _ _,fun o ho y hy=>?_⟩,fun o ho y hy=>?_,fun o ho y hy=>?_,(List.getElem?_eq_some_iff.mp h).1,M.hj⟩
 ·rw [za8 h]
  refine (M.pm.append_right [x]).trans ?_
  rw [List.append_assoc,List.append_assoc]
  exact List.Perm.append_left _ List.perm_append_comm
 ·rw [List.mem_singleton] at hy
  subst hy
  exact M.la o ho _ (by rw [ed];exact List.mem_cons_self)
 ·rcases List.mem_append.mp ho with ho | ho
  ·exact M.la o ho y (by rw [ed];exact List.mem_cons_of_mem _ hy)
  ·rw [List.mem_singleton] at ho
   subst ho
   exact sd'.1 y hy
 ·rcases List.mem_append.mp ho with ho | ho
  ·exact M.lb o ho y hy
  ·exact hx o ho y hy
theorem Mc.pushB {A B O:List Keyed}{i j:Nat}(M:Mc κ A B O i j)(sB:Srt κ B){x:Keyed}(h:B[j]? = some x)(hx:Lel κ [x] (A.drop i)):Mc κ A B (O++[x]) i (j+1):=by
 have ed:=zbs h
 have sd:=sB.drop j
 rw [ed] at sd
 have sd':=List.pairwise_cons.mp sd
 refine ⟨?_,srt_app.mpr ⟨M.so,List.pairwise_singleton _ _,fun o ho y hy=>?_⟩,fun o ho y hy=>?_,fun o ho y hy=>?_,M.hi,(List.getElem?_eq_some_iff.mp h).1⟩
 ·rw [za8 h]
  refine (M.pm.append_right [x]).trans ?_
  rw [List.append_assoc]
 ·rw [List.mem_singleton] at hy
  subst hy
  exact M.lb o ho _ (by rw [ed];exact List.mem_cons_self)
 ·rcases List.mem_append.mp ho with ho | ho
  ·exact M.la o ho y hy
  ·exact hx o ho y hy
 ·rcases List.mem_append.mp ho with ho | ho
  ·exact M.lb o ho y (by rw [ed];exact List.mem_cons_of_mem _ hy)
  ·rw [List.mem_singleton] at ho
   subst ho
   exact sd'.1 y hy
theorem Mc.pushAs {A B O:List Keyed}{i j:Nat}(M:Mc κ A B O i j)(sA:Srt κ A):∀ k,i+k≤A.length→Lel κ ((A.drop i).take k) (B.drop j)→Mc κ A B (O++(A.drop i).take k) (i+k) j
 | 0,_,_=>by simpa using M
 | k+1,hk,hl=>by
  have hlt:i+k < A.length:=by omega
  have e:(A.drop i)[k]? = some A[i+k]:=by rw [List.getElem?_drop,List.getElem?_eq_getElem hlt]
  have et:(A.drop i).take (k+1)=(A.drop i).take k++[A[i+k]]:=za8 e
  rw [et] at hl ⊢
  have ih:=Mc.pushAs M sA k (by omega) fun x hx=>hl x (List.mem_append_left _ hx)
  have:=ih.pushA sA (List.getElem?_eq_getElem hlt) fun x hx=>hl x (List.mem_append_right _ hx)
  rw [List.append_assoc] at this
  exact this
theorem Mc.pushBs {A B O:List Keyed}{i j:Nat}(M:Mc κ A B O i j)(sB:Srt κ B):∀ k,j+k≤B.length→Lel κ ((B.drop j).take k) (A.drop i)→Mc κ A B (O++(B.drop j).take k) i (j+k)
 | 0,_,_=>by simpa using M
 | k+1,hk,hl=>by
  have hlt:j+k < B.length:=by omega
  have e:(B.drop j)[k]? = some B[j+k]:=by rw [List.getElem?_drop,List.getElem?_eq_getElem hlt]
  have et:(B.drop j).take (k+1)=(B.drop j).take k++[B[j+k]]:=za8 e
  rw [et] at hl ⊢
  have ih:=Mc.pushBs M sB k (by omega) fun x hx=>hl x (List.mem_append_left _ hx)
  have:=ih.pushB sB (List.getElem?_eq_getElem hlt) fun x hx=>hl x (List.mem_append_right _ hx)
  rw [List.append_assoc] at this
  exact this
noncomputable def Mg (κ:KeyKind)(A B R:List Keyed):Prop:=R.Perm (A++B)∧Srt κ R
theorem Mc.perm {A B O:List Keyed}{i j:Nat}(M:Mc κ A B O i j):(O++(A.drop i++B.drop j)).Perm (A++B):=by
 have h1:(O++(A.drop i++B.drop j)).Perm ((A.take i++B.take j)++(A.drop i++B.drop j)):=M.pm.append_right _
 refine h1.trans ?_
 have h2:((A.take i++B.take j)++(A.drop i++B.drop j)).Perm ((A.take i++A.drop i)++(B.take j++B.drop j)):=by
  rw [List.append_assoc,List.append_assoc]
  refine List.Perm.append_left _ ?_
  rw [← List.append_assoc,← List.append_assoc]
  exact List.Perm.append_right _ List.perm_append_comm
 rw [List.take_append_drop,List.take_append_drop] at h2
 exact h2
theorem Mc.done {A B O:List Keyed}{i j:Nat}(M:Mc κ A B O i j)(sA:Srt κ A)(sB:Srt κ B)(h:i=A.length ∨ j=B.length):Mg κ A B (O++A.drop i++B.drop j):=by
 refine ⟨by rw [List.append_assoc];exact M.perm,?_⟩
 rw [List.append_assoc]
 refine srt_app.mpr ⟨M.so,srt_app.mpr ⟨sA.drop i,sB.drop j,fun x hx y hy=>?_⟩,fun o ho y hy=>?_⟩
 ·rcases h with h | h
  ·subst h;rw [List.drop_length] at hx;cases hx
  ·subst h;rw [List.drop_length] at hy;cases hy
 ·rcases List.mem_append.mp hy with hy | hy
  ·exact M.la o ho y hy
  ·exact M.lb o ho y hy
theorem Mc.last {A B O:List Keyed}{i j:Nat}(M:Mc κ A B O i j)(sA:Srt κ A)(sB:Srt κ B)(h:i+1=A.length)(hl:∀ z,A[A.length - 1]? = some z→Lel κ B [z]):Mg κ A B (O++B.drop j++A.drop i):=by
 have hlt:i < A.length:=by omega
 have ed:A.drop i=[A[i]]:=by rw [zbs (List.getElem?_eq_getElem hlt),List.drop_of_length_le (by omega)]
 refine ⟨?_,?_⟩
 ·refine List.Perm.trans ?_ M.perm
  rw [List.append_assoc]
  exact List.Perm.append_left _ List.perm_append_comm
 ·rw [List.append_assoc]
  refine srt_app.mpr ⟨M.so,srt_app.mpr ⟨sB.drop j,sA.drop i,fun x hx y hy=>?_⟩,fun o ho y hy=>?_⟩
  ·rw [ed] at hy
   exact hl A[i] (by rw [show A.length - 1=i by omega];exact List.getElem?_eq_getElem hlt) x (List.mem_of_mem_drop hx) y hy
  ·rcases List.mem_append.mp hy with hy | hy
   ·exact M.lb o ho y hy
   ·exact M.la o ho y hy
theorem zic (a b o:Array Keyed)(i j:Nat):(mDn a b o i j).toList=o.toList++a.toList.drop i++b.toList.drop j:=by
 simp [mDn,Array.toList_extract,List.take_of_length_le]
theorem zid (a b o:Array Keyed)(i j:Nat):(mLa a b o i j).toList=o.toList++b.toList.drop j++a.toList.drop i:=by
 simp [mLa,Array.toList_extract,List.take_of_length_le]
theorem zie (a:Array Keyed)(i k:Nat):(a.extract i (i+k)).toList=(a.toList.drop i).take k:=by
 simp [Array.toList_extract,List.take_drop]
theorem zif {lf:Bool}{key x y:κ.α}(h:κ.kle x y)(hb:bdB κ lf key y=true):bdB κ lf key x=true:=by
 unfold bdB at hb ⊢
 cases lf with
 | true=>exact KeyOrd.klt_of_kle_of_klt h hb
 | false =>
  have hb:(!κ.blt key y)=true:=hb
  have hy:κ.kle y key:=by show κ.blt key y=false;simpa using hb
  have:=KeyOrd.kle_trans h hy
  show (!κ.blt key x)=true
  have this:κ.blt key x=false:=this
  rw [this]
  rfl
end Ts
namespace Ts
open PySem PyProof.Rows
section
variable {prog:Program} {w:World} {A:Around} {E:Value→Shared→Prop} {s:Shared} {κ:KeyKind}
structure Ok (st st':SortSt):Prop where
 tb:TB st'
 ar:arrOf st'=arrOf st
 pd:pendingOf st'=pendingOf st
theorem Ok.refl {st:SortSt}(h:TB st):Ok st st:=⟨h,rfl,rfl⟩
theorem zfy {st st':SortSt}{g:Nat}{Q:Unit→SortSt→Prop}(h:Ok st st')(q:∀ st'',Ok st st''→Q () st''):wpS (model prog w) A E s (smg g) Q st':=by
 refine wpS_modify (q _ ⟨⟨h.tb.kind,h.tb.failed⟩,h.ar,h.pd⟩)
theorem za1 {st:SortSt}{arr:Array Keyed}{i:Nat}{x:Keyed}{Q:Keyed→SortSt→Prop}(e:arr.toList[i]? = some x)(h:Q x st):wpS (model prog w) A E s (elem' arr i) Q st:=by
 have e':arr[i]? = some x:=by simpa using e
 rw [elem'_eq,e']
 exact wpS_pure h
theorem zig {st:SortSt}{lf:Bool}{key:Keyed}{arr:Array Keyed}{i:Nat}{Q:Option Nat→SortSt→Prop}(hO:κ.OneLt)(hB:TB st)(hk:Gd κ key)(hg:∀ x∈arr.toList,Gd κ x)(sa:Srt κ arr.toList)(hi:i < arr.size)
  (hq:∀ k,i+k≤arr.size→(∀ x∈(arr.toList.drop i).take k,bdB κ lf (kof κ key) (kof κ x)=true)→(∀ x∈arr.toList.drop (i+k),bdB κ lf (kof κ key) (kof κ x)=false)→Q (some k) st) :
  wpS (model prog w) A E s (gal lf key arr i (arr.size - i) 0) Q st:=by
 have hl:arr.toList.length=arr.size:=Array.length_toList
 refine zhn hO hB hk (fun t=>match arr.toList[i+t]? with | some p=>bdB κ lf (kof κ key) (kof κ p) | none=>false) (by omega) (fun t ht=>?_) (fun t u htu hu hb=>?_) (fun k hk' h1 h2=>hq k (by omega) (fun x hx=>?_) fun x hx=>?_)
 ·have hlt:i+t < arr.toList.length:=by omega
  have e:=List.getElem?_eq_getElem hlt
  refine ⟨arr.toList[i+t],by simpa using e,hg _ (List.getElem_mem hlt),?_⟩
  rw [e]
 ·have h1:i+t < arr.toList.length:=by omega
  have h2:i+u < arr.toList.length:=by omega
  have e1:=List.getElem?_eq_getElem h1
  have e2:=List.getElem?_eq_getElem h2
  rw [e2] at hb
  rw [e1]
  exact zif (sa.at (by omega) e1 e2) hb
 ·obtain ⟨t,e⟩:=List.getElem?_of_mem hx
  have ht:t < k:=by
   have:=(List.getElem?_eq_some_iff.mp e).1
   rw [List.length_take] at this
   omega
  rw [List.getElem?_take,if_pos ht,List.getElem?_drop] at e
  have:=h1 t ht
  rw [e] at this
  exact this
 ·obtain ⟨t,e⟩:=List.getElem?_of_mem hx
  rw [List.getElem?_drop] at e
  have hlt:=(List.getElem?_eq_some_iff.mp e).1
  have:=h2 (k+t) (by omega) (by omega)
  rw [show i+(k+t)=i+k+t by omega,e] at this
  exact this
theorem not_lt {x y:Keyed}(h:κ.blt (kof κ x) (kof κ y)=false):lek κ y x:=h
theorem is_lt {x y:Keyed}(h:κ.blt (kof κ x) (kof κ y)=true):lek κ x y:=KeyOrd.kle_of_klt h
theorem zeo {l:List Keyed}(sl:Srt κ l){i:Nat}{x y:Keyed}(e:l[i]? = some y)(h:lek κ x y):Lel κ [x] (l.drop i):=fun z hz t ht=>by
 rw [List.mem_singleton] at hz
 subst hz
 rw [zbs e] at ht
 rcases List.mem_cons.mp ht with rfl | ht
 ·exact h
 ·have sd:=sl.drop i
  rw [zbs e] at sd
  exact zdd h ((List.pairwise_cons.mp sd).1 t ht)
noncomputable abbrev MSt:=Option (Array Keyed) × Array Keyed × Nat × Nat × Nat × Nat × Nat
noncomputable def jp3 (a b:Array Keyed)(i g p q:Nat)(o:Array Keyed)(j:Nat):StateT SortSt Sem (ForInStep MSt):=do
 let e ← elem' a i
 if (i+1+1 == a.size)=true then pure (.done (some (mLa a b (o.push e) (i+1) j),o.push e,i+1,j,g,p,q))
 else if (decide (p < 7) && decide (q < 7))=true then pure (.done (none,o.push e,i+1,j,g,p,q)) else pure (.yield (none,o.push e,i+1,j,g,p,q))
noncomputable def jp2 (a b:Array Keyed)(j g p q:Nat)(o:Array Keyed)(i:Nat):StateT SortSt Sem (ForInStep MSt):=do
 let e ← elem' b j
 if (j+1 == b.size)=true then pure (.done (some (mDn a b (o.push e) i (j+1)),o.push e,i,j+1,g,p,q))
 else do
  let f ← elem' a i
  let y ← gal true f b (j+1) (b.size - (j+1)) 0
  match y with
  | some k=>if k > 0 then (if (j+1+k == b.size)=true then pure (.done (some (mDn a b (o.push e++b.extract (j+1) (j+1+k)) i (j+1+k)),o.push e++b.extract (j+1) (j+1+k),i,j+1+k,g,p,k)) else jp3 a b i g p k (o.push e++b.extract (j+1) (j+1+k)) (j+1+k)) else jp3 a b i g p k (o.push e) (j+1)
  | _=>pure (.done (some (mDn a b (o.push e) i (j+1)),o.push e,i,j+1,g,p,q))
noncomputable def jp1 (a b:Array Keyed)(o:Array Keyed)(i j p q g:Nat):StateT SortSt Sem (ForInStep MSt):=do
 smg g
 let e ← elem' b j
 let y ← gal false e a i (a.size - i) 0
 match y with
 | some k=>if k > 0 then (if (i+k+1 == a.size)=true then pure (.done (some (mLa a b (o++a.extract i (i+k)) (i+k) j),o++a.extract i (i+k),i+k,j,g,k,q)) else if (i+k == a.size)=true then pure (.done (some (mDn a b (o++a.extract i (i+k)) (i+k) j),o++a.extract i (i+k),i+k,j,g,k,q)) else jp2 a b j g k q (o++a.extract i (i+k)) (i+k)) else jp2 a b j g k q o i
 | _=>pure (.done (some (mDn a b o i j),o,i,j,g,p,q))
noncomputable def Pst (κ:KeyKind)(a b:Array Keyed)(x:Nat)(st:SortSt)(r:ForInStep MSt)(st':SortSt):Prop:=match r with
 | .done c=>((∃ r z,c=(some r,z)∧Mg κ a.toList b.toList r.toList) ∨ ∃ o i j g p q,c=(none,o,i,j,g,p,q)∧Mc κ a.toList b.toList o.toList i j∧i+1 < a.size∧j < b.size∧x+2≤i+j)∧Ok st st'
 | .yield c=>∃ o i j g p q,c=(none,o,i,j,g,p,q)∧Mc κ a.toList b.toList o.toList i j∧i+1 < a.size∧j < b.size∧x+2≤i+j∧Ok st st'
structure Two (κ:KeyKind) (a b:Array Keyed):Prop where
 ga:∀ x∈a.toList,Gd κ x
 gb:∀ x∈b.toList,Gd κ x
 sa:Srt κ a.toList
 sb:Srt κ b.toList
 hl:∀ z,a.toList[a.size - 1]? = some z→Lel κ b.toList [z]
theorem Two.atA {a b:Array Keyed}(T:Two κ a b){i:Nat}(hi:i < a.size):∃ x,a.toList[i]? = some x∧Gd κ x:=⟨a.toList[i]'(by rw [Array.length_toList]; exact hi),List.getElem?_eq_getElem (by rw [Array.length_toList]; exact hi),T.ga _ (List.getElem_mem _)⟩
theorem Two.atB {a b:Array Keyed}(T:Two κ a b){i:Nat}(hi:i < b.size):∃ x,b.toList[i]? = some x∧Gd κ x:=⟨b.toList[i]'(by rw [Array.length_toList]; exact hi),List.getElem?_eq_getElem (by rw [Array.length_toList]; exact hi),T.gb _ (List.getElem_mem _)⟩
theorem Two.dn {a b:Array Keyed}(T:Two κ a b){o:Array Keyed}{i j:Nat}(M:Mc κ a.toList b.toList o.toList i j)(h:i=a.size ∨ j=b.size):Mg κ a.toList b.toList (mDn a b o i j).toList:=by
 rw [zic]
 exact M.done T.sa T.sb (by rw [Array.length_toList,Array.length_toList];exact h)
theorem Two.ls {a b:Array Keyed}(T:Two κ a b){o:Array Keyed}{i j:Nat}(M:Mc κ a.toList b.toList o.toList i j)(h:i+1=a.size):Mg κ a.toList b.toList (mLa a b o i j).toList:=by
 rw [zid]
 exact M.last T.sa T.sb (by rw [Array.length_toList];exact h) (by rw [Array.length_toList];exact T.hl)
theorem wpS_jp3 {st st':SortSt}{a b o:Array Keyed}{i j g p q x:Nat}{xa:Keyed}(T:Two κ a b)(M:Mc κ a.toList b.toList o.toList i j)(hi:i+1 < a.size)(hj:j < b.size)(hx:x+2≤i+j)(ok:Ok st st')(exa:a.toList[i]? = some xa)(hle:Lel κ [xa] (b.toList.drop j)) :
  wpS (model prog w) A E s (jp3 a b i g p q o j) (Pst κ a b x st) st':=by
 unfold jp3
 refine wpS_bind (za1 exa ?_)
 have M':Mc κ a.toList b.toList (o.push xa).toList (i+1) j:=by rw [Array.toList_push];exact M.pushA T.sa exa hle
 by_cases hia:i+1+1=a.size
 ·refine zak (by simpa using hia) ?_
  exact wpS_pure ⟨.inl ⟨_,_,rfl,T.ls M' hia⟩,ok⟩
 ·refine zal (by simpa using hia) ?_
  by_cases hpq:(decide (p < 7) && decide (q < 7))=true
  ·refine zak hpq ?_
   exact wpS_pure ⟨.inr ⟨_,_,_,_,_,_,rfl,M',by omega,hj,by omega⟩,ok⟩
  ·refine zal hpq ?_
   exact wpS_pure ⟨_,_,_,_,_,_,rfl,M',by omega,hj,by omega,ok⟩
theorem zdy {x y:Keyed}:bdB κ false (kof κ x) (kof κ y)=true→lek κ y x:=fun h=>by
 unfold bdB at h
 have h:(!κ.blt (kof κ x) (kof κ y))=true:=h
 show κ.blt (kof κ x) (kof κ y)=false
 simpa using h
theorem zep {x y:Keyed}:bdB κ false (kof κ x) (kof κ y)=false→lek κ x y:=fun h=>by
 unfold bdB at h
 have h:(!κ.blt (kof κ x) (kof κ y))=false:=h
 exact is_lt (by simpa using h)
theorem zho {x y:Keyed}:bdB κ true (kof κ x) (kof κ y)=true→lek κ y x:=fun h=>is_lt h
theorem zfz {x y:Keyed}:bdB κ true (kof κ x) (kof κ y)=false→lek κ x y:=fun h=>h
theorem wpS_jp2 {st st':SortSt}{a b o:Array Keyed}{i j g p q x:Nat}{xb:Keyed}(hO:κ.OneLt)(T:Two κ a b)(M:Mc κ a.toList b.toList o.toList i j)(hi:i+1 < a.size)(hj:j < b.size)(hx:x+2≤i+j)(ok:Ok st st')(exb:b.toList[j]? = some xb)(hle:Lel κ [xb] (a.toList.drop i)) :
  wpS (model prog w) A E s (jp2 a b j g p q o i) (Pst κ a b x st) st':=by
 have la:a.toList.length=a.size:=Array.length_toList
 have lb:b.toList.length=b.size:=Array.length_toList
 unfold jp2
 refine wpS_bind (za1 exb ?_)
 have M':Mc κ a.toList b.toList (o.push xb).toList i (j+1):=by rw [Array.toList_push];exact M.pushB T.sb exb hle
 by_cases hjb:j+1=b.size
 ·refine zak (by simpa using hjb) ?_
  exact wpS_pure ⟨.inl ⟨_,_,rfl,T.dn M' (.inr hjb)⟩,ok⟩
 refine zal (by simpa using hjb) ?_
 obtain ⟨xa,exa,gxa⟩:=T.atA (i:=i) (by omega)
 refine wpS_bind (za1 exa (wpS_bind (zig hO ok.tb gxa T.gb T.sb (by omega) fun k hk t1 t2=>?_)))
 dsimp only
 have MB:Mc κ a.toList b.toList ((o.push xb).toList++(b.toList.drop (j+1)).take k) i (j+1+k):=M'.pushBs T.sb k (by omega) fun z hz=>zeo T.sa exa (zho (t1 z hz)) z (List.mem_singleton.mpr rfl)
 have rest:Lel κ [xa] (b.toList.drop (j+1+k)):=fun z hz y hy=>by
  rw [List.mem_singleton] at hz
  subst hz
  exact zfz (t2 y hy)
 by_cases hk0:k > 0
 ·refine zak hk0 ?_
  have MB':Mc κ a.toList b.toList (o.push xb++b.extract (j+1) (j+1+k)).toList i (j+1+k):=by rw [Array.toList_append,zie];exact MB
  by_cases hje:j+1+k=b.size
  ·refine zak (by simpa using hje) ?_
   exact wpS_pure ⟨.inl ⟨_,_,rfl,T.dn MB' (.inr hje)⟩,ok⟩
  ·refine zal (by simpa using hje) ?_
   exact wpS_jp3 T MB' hi (by omega) (by omega) ok exa rest
 ·refine zal hk0 ?_
  have:k=0:=by omega
  subst this
  exact wpS_jp3 T M' hi (by omega) (by omega) ok exa rest
theorem wpS_jp1 {st st':SortSt}{a b o:Array Keyed}{i j g p q x:Nat}(hO:κ.OneLt)(T:Two κ a b)(M:Mc κ a.toList b.toList o.toList i j)(hi:i+1 < a.size)(hj:j < b.size)(hx:x+2≤i+j)(ok:Ok st st') :
  wpS (model prog w) A E s (jp1 a b o i j p q g) (Pst κ a b x st) st':=by
 have la:a.toList.length=a.size:=Array.length_toList
 have lb:b.toList.length=b.size:=Array.length_toList
 unfold jp1
 refine wpS_bind (zfy ok fun st3 ok3=>?_)
 obtain ⟨xb,exb,gxb⟩:=T.atB hj
 refine wpS_bind (za1 exb (wpS_bind (zig hO ok3.tb gxb T.ga T.sa (by omega) fun k hk t1 t2=>?_)))
 dsimp only
 have MA:Mc κ a.toList b.toList (o.toList++(a.toList.drop i).take k) (i+k) j:=M.pushAs T.sa k (by omega) fun z hz=>zeo T.sb exb (zdy (t1 z hz)) z (List.mem_singleton.mpr rfl)
 have rest:Lel κ [xb] (a.toList.drop (i+k)):=fun z hz y hy=>by
  rw [List.mem_singleton] at hz
  subst hz
  exact zep (t2 y hy)
 by_cases hk0:k > 0
 ·refine zak hk0 ?_
  have MA':Mc κ a.toList b.toList (o++a.extract i (i+k)).toList (i+k) j:=by rw [Array.toList_append,zie];exact MA
  by_cases h1:i+k+1=a.size
  ·refine zak (by simpa using h1) ?_
   exact wpS_pure ⟨.inl ⟨_,_,rfl,T.ls MA' h1⟩,ok3⟩
  ·refine zal (by simpa using h1) ?_
   by_cases h2:i+k=a.size
   ·refine zak (by simpa using h2) ?_
    exact wpS_pure ⟨.inl ⟨_,_,rfl,T.dn MA' (.inl h2)⟩,ok3⟩
   ·refine zal (by simpa using h2) ?_
    exact wpS_jp2 hO T MA' (by omega) hj (by omega) ok3 exb rest
 ·refine zal hk0 ?_
  have:k=0:=by omega
  subst this
  exact wpS_jp2 hO T M hi hj hx ok3 exb rest
theorem wpS_mlo {st:SortSt}{a b:Array Keyed}{Q:Array Keyed→SortSt→Prop}(hO:κ.OneLt)(hB:TB st)(ga:∀ x∈a.toList,Gd κ x)(gb:∀ x∈b.toList,Gd κ x)(sa:Srt κ a.toList)(sb:Srt κ b.toList)(h0:0 < a.size)(h1:0 < b.size)
  (hf:∀ x y,a.toList[0]? = some x→b.toList[0]? = some y→lek κ y x) (hl:∀ z,a.toList[a.size - 1]? = some z→Lel κ b.toList [z])
  (hq:∀ r st',Ok st st'→Mg κ a.toList b.toList r.toList→Q r st'):wpS (model prog w) A E s (mlo a b) Q st:=by
 have la:a.toList.length=a.size:=Array.length_toList
 have lb:b.toList.length=b.size:=Array.length_toList
 have hl:∀ z,a.toList[a.toList.length - 1]? = some z→Lel κ b.toList [z]:=by rw [la];exact hl
 have atA:∀ {i:Nat},i < a.size→∃ x,a.toList[i]? = some x∧Gd κ x:=fun {i} hi=>⟨a.toList[i]'(by omega),List.getElem?_eq_getElem (by omega),ga _ (List.getElem_mem _)⟩
 have atB:∀ {i:Nat},i < b.size→∃ x,b.toList[i]? = some x∧Gd κ x:=fun {i} hi=>⟨b.toList[i]'(by omega),List.getElem?_eq_getElem (by omega),gb _ (List.getElem_mem _)⟩
 rw [mlo_eq]
 refine wpS_bind (wpS_lift (wpAny_rule ⟨rfl,?_⟩))
 obtain ⟨y0,ey0,gy0⟩:=atB h1
 obtain ⟨x0,ex0,gx0⟩:=atA h0
 refine wpS_bind (za1 ey0 ?_)
 have M0:Mc κ a.toList b.toList [y0] 0 1:=by
  have:Mc κ a.toList b.toList ([]++[y0]) 0 (0+1):=Mc.pushB (O:=[]) (i:=0) (j:=0) ⟨List.Perm.refl _,.nil,(fun x hx=>by cases hx),(fun x hx=>by cases hx),Nat.zero_le _,Nat.zero_le _⟩ sb ey0 (zeo sa ex0 (hf _ _ ex0 ey0))
  exact this
 have dn:∀ {o:Array Keyed} {i j:Nat},Mc κ a.toList b.toList o.toList i j→(i=a.size ∨ j=b.size)→Mg κ a.toList b.toList (mDn a b o i j).toList:=fun M h=>by rw [zic];exact M.done sa sb (by rw [la,lb];exact h)
 have ls:∀ {o:Array Keyed} {i j:Nat},Mc κ a.toList b.toList o.toList i j→i+1=a.size→Mg κ a.toList b.toList (mLa a b o i j).toList:=fun M h=>by rw [zid];exact M.last sa sb (by rw [la];exact h) hl
 dsimp only
 by_cases hb1:1=b.size
 ·refine zak (by simpa using hb1) ?_
  exact wpS_pure (hq _ _ (.refl hB) (dn (o:=#[y0]) M0 (.inr hb1)))
 refine zal (by simpa using hb1) ?_
 by_cases ha1:0+1=a.size
 ·refine zak (by simpa using ha1) ?_
  exact wpS_pure (hq _ _ (.refl hB) (ls (o:=#[y0]) M0 ha1))
 refine zal (by simpa using ha1) ?_
 refine wpS_bind (wpS_get ?_)
 refine wpS_bind (wpS_mono (wpS_forRange (I:=fun x c st'=>∃ o i j g,c=(none,o,i,j,g)∧Mc κ a.toList b.toList o.toList i j∧i+1 < a.size∧j < b.size∧x+1≤i+j∧Ok st st')
  (Q:=fun c st'=>∃ r z,c=(some r,z)∧Mg κ a.toList b.toList r.toList∧Ok st st') ?step ?fin ⟨#[y0],0,1,_,rfl,M0,by omega,by omega,by omega,.refl hB⟩) ?post)
 case post =>
  rintro c st' ⟨r,z,rfl,m,ok⟩
  exact wpS_pure (hq _ _ ok m)
 case fin =>
  rintro c st' ⟨o,i,j,g,rfl,M,hi,hj,hx,ok⟩
  omega
 case step =>
  rintro x c st1 _ hx ⟨o,i,j,g,rfl,M,hi,hj,hij,ok1⟩
  dsimp only
  refine wpS_bind (wpS_mono (wpS_forRange (I:=fun y c st'=>st'=st1∧∃ o i j p q,c=(none,o,i,j,p,q)∧Mc κ a.toList b.toList o.toList i j∧i+1 < a.size∧j < b.size∧x+1+y≤i+j)
   (Q:=fun c st'=>st'=st1∧((∃ r z,c=(some r,z)∧Mg κ a.toList b.toList r.toList) ∨ ∃ o i j p q,c=(none,o,i,j,p,q)∧Mc κ a.toList b.toList o.toList i j∧i+1 < a.size∧j < b.size∧x+2≤i+j)) ?step1 ?fin1 ⟨rfl,o,i,j,0,0,rfl,M,hi,hj,by omega⟩) ?post1)
  case fin1 =>
   rintro c st' ⟨rfl,o,i,j,p,q,rfl,M,hi,hj,hy⟩
   exact ⟨rfl,.inr ⟨o,i,j,p,q,rfl,M,hi,hj,by omega⟩⟩
  case step1 =>
   rintro y c st' _ hy ⟨rfl,o,i,j,p,q,rfl,M,hi,hj,hij⟩
   dsimp only
   obtain ⟨xb,exb,gxb⟩:=atB hj
   obtain ⟨xa,exa,gxa⟩:=atA (i:=i) (by omega)
   refine wpS_bind (za1 exb (wpS_bind (za1 exa (wpS_bind (zib hO ok1.tb gxb gxa ?_)))))
   cases eb:κ.blt (kof κ xb) (kof κ xa) with
   | true =>
    simp only [if_true]
    refine wpS_bind (za1 exb ?_)
    have M':Mc κ a.toList b.toList (o.push xb).toList i (j+1):=by rw [Array.toList_push];exact M.pushB sb exb (zeo sa exa (is_lt eb))
    by_cases hjb:j+1=b.size
    ·refine zak (by simpa using hjb) ?_
     exact wpS_pure ⟨rfl,.inl ⟨_,_,rfl,dn M' (.inr hjb)⟩⟩
    ·refine zal (by simpa using hjb) ?_
     by_cases hqg:q+1≥g
     ·refine zak hqg ?_
      exact wpS_pure ⟨rfl,.inr ⟨_,_,_,_,_,rfl,M',hi,by omega,by omega⟩⟩
     ·refine zal hqg ?_
      exact wpS_pure ⟨rfl,_,_,_,_,_,rfl,M',hi,by omega,by omega⟩
   | false =>
    simp only [Bool.false_eq_true,if_false]
    refine wpS_bind (za1 exa ?_)
    have M':Mc κ a.toList b.toList (o.push xa).toList (i+1) j:=by rw [Array.toList_push];exact M.pushA sa exa (zeo sb exb (not_lt eb))
    by_cases hia:i+1+1=a.size
    ·refine zak (by simpa using hia) ?_
     exact wpS_pure ⟨rfl,.inl ⟨_,_,rfl,ls M' hia⟩⟩
    ·refine zal (by simpa using hia) ?_
     by_cases hpg:p+1≥g
     ·refine zak hpg ?_
      exact wpS_pure ⟨rfl,.inr ⟨_,_,_,_,_,rfl,M',by omega,hj,by omega⟩⟩
     ·refine zal hpg ?_
      exact wpS_pure ⟨rfl,_,_,_,_,_,rfl,M',by omega,hj,by omega⟩
  case post1 =>
   rintro c st' ⟨rfl,⟨r,z,rfl,m⟩ | ⟨o,i,j,p,q,rfl,M,hi,hj,hij⟩⟩
   ·exact wpS_pure ⟨r,_,rfl,m,ok1⟩
   dsimp only
   refine wpS_bind (wpS_lift (wpAny_rule ⟨rfl,?_⟩))
   refine wpS_bind (wpS_mono (wpS_forRange (I:=fun y c st'=>∃ o i j g p q,c=(none,o,i,j,g,p,q)∧Mc κ a.toList b.toList o.toList i j∧i+1 < a.size∧j < b.size∧x+2≤i+j∧Ok st st')
    (Q:=fun c st'=>((∃ r z,c=(some r,z)∧Mg κ a.toList b.toList r.toList) ∨ ∃ o i j g p q,c=(none,o,i,j,g,p,q)∧Mc κ a.toList b.toList o.toList i j∧i+1 < a.size∧j < b.size∧x+2≤i+j)∧Ok st st') ?step2 ?fin2 ⟨o,i,j,_,p,q,rfl,M,hi,hj,hij,ok1⟩) ?post2)
   case fin2 =>
    rintro c st' ⟨o,i,j,g,p,q,rfl,M,hi,hj,hij,ok⟩
    exact ⟨.inr ⟨o,i,j,g,p,q,rfl,M,hi,hj,hij⟩,ok⟩
   case post2 =>
    rintro c st' ⟨⟨r,z,rfl,m⟩ | ⟨o,i,j,g,p,q,rfl,M,hi,hj,hij⟩,ok⟩
    ·exact wpS_pure ⟨r,_,rfl,m,ok⟩
    ·dsimp only
     exact wpS_bind (zfy ok fun st'' ok'=>wpS_pure ⟨o,i,j,_,rfl,M,hi,hj,by omega,ok'⟩)
   case step2 =>
    rintro y c st2 _ hy ⟨o,i,j,g,p,q,rfl,M,hi,hj,hij,ok2⟩
    dsimp only
    change wpS _ _ _ _ (if g > 1 then jp1 a b o i j p q (g - 1) else jp1 a b o i j p q g) _ _
    refine wpS_mono (Q:=Pst κ a b x st) ?_ fun r st' h=>?_
    rotate_left
    ·cases r with
     | done c=>exact h
     | yield c=>exact h
    by_cases hg:g > 1
    ·refine zak hg ?_
     exact wpS_jp1 hO ⟨ga,gb,sa,sb,by rw [← la];exact hl⟩ M hi hj hij ok2
    ·refine zal hg ?_
     exact wpS_jp1 hO ⟨ga,gb,sa,sb,by rw [← la];exact hl⟩ M hi hj hij ok2
end
end Ts
namespace Ts
open PySem PyProof.Rows
noncomputable def mhi:Array Keyed→Array Keyed→StateT SortSt Sem (Array Keyed):=sortPriv% PySem.Builtin.mergeHi
noncomputable abbrev hDn (a b o:Array Keyed)(i j:Nat):Array Keyed:=a.extract 0 i++b.extract 0 j++o.reverse
noncomputable abbrev hFb (a b o:Array Keyed)(i j:Nat):Array Keyed:=b.extract 0 j++a.extract 0 i++o.reverse
theorem mhi_eq (a b:Array Keyed):mhi a b=(do
 rule "list.sort.merge-hi"
 let mut i:=a.size - 1
 let mut j:=b.size
 let mut o:Array Keyed:=#[← elem' a i]
 if i == 0 then return hDn a b o i j
 if j == 1 then return hFb a b o i j
 let mut g:=gallopOf (← get)
 for _ in [0:a.size+b.size] do
  let mut p:=0
  let mut q:=0
  for _ in [0:a.size+b.size] do
   let some w ← lt' (← elem' b (j - 1)) (← elem' a (i - 1)) | return hDn a b o i j
   if w then
    i:=i - 1
    o:=o.push (← elem' a i)
    p:=p+1
    q:=0
    if i == 0 then return hDn a b o i j
    if p≥g then break
   else
    j:=j - 1
    o:=o.push (← elem' b j)
    q:=q+1
    p:=0
    if j == 1 then return hFb a b o i j
    if q≥g then break
  rule "list.sort.gallop"
  g:=g+1
  for _ in [0:a.size+b.size] do
   if g > 1 then g:=g - 1
   smg g
   let some t ← gal false (← elem' b (j - 1)) a 0 i (i - 1) | return hDn a b o i j
   let k:=i - t
   p:=k
   if k > 0 then
    o:=o++(a.extract t i).reverse
    i:=t
    if i == 0 then return hDn a b o i j
   j:=j - 1
   o:=o.push (← elem' b j)
   if j == 1 then return hFb a b o i j
   let some t ← gal true (← elem' a (i - 1)) b 0 j (j - 1) | return hDn a b o i j
   let k:=j - t
   q:=k
   if k > 0 then
    o:=o++(b.extract t j).reverse
    j:=t
    if j == 1 then return hFb a b o i j
    if j == 0 then return hDn a b o i j
   i:=i - 1
   o:=o.push (← elem' a i)
   if i == 0 then return hDn a b o i j
   if p < 7 && q < 7 then break
  g:=g+1
  smg g
 unsupported "internal:list.sort.merge-bound"):=rfl
variable {κ:KeyKind}
structure Mh (κ:KeyKind) (A B R:List Keyed) (i j:Nat):Prop where
 pm:R.Perm (A.drop i++B.drop j)
 so:Srt κ R
 la:Lel κ (A.take i) R
 lb:Lel κ (B.take j) R
 hi:i≤A.length
 hj:j≤B.length
theorem Mh.pushA {A B R:List Keyed}{i j:Nat}(M:Mh κ A B R (i+1) j)(sA:Srt κ A){x:Keyed}(h:A[i]? = some x)(hx:Lel κ (B.take j) [x]):Mh κ A B (x::R) i j:=by
 have et:=za8 h
 have st:=sA.take (i+1)
 rw [et] at st
 have st':=srt_app.mp st
 refine ⟨?_,List.pairwise_cons.mpr ⟨fun y hy=>M.la x (by rw [et];simp) y hy,M.so⟩,fun y hy z hz=>?_,fun y hy z hz=>?_,by have:=M.hi;omega,M.hj⟩
 ·rw [zbs h,List.cons_append]
  exact M.pm.cons x
 ·rcases List.mem_cons.mp hz with rfl | hz
  ·exact st'.2.2 y hy _ (by simp)
  ·exact M.la y (by rw [et];exact List.mem_append_left _ hy) z hz
 ·rcases List.mem_cons.mp hz with rfl | hz
  ·exact hx y hy _ (by simp)
  ·exact M.lb y hy z hz
theorem Mh.pushB {A B R:List Keyed}{i j:Nat}(M:Mh κ A B R i (j+1))(sB:Srt κ B){x:Keyed}(h:B[j]? = some x)(hx:Lel κ (A.take i) [x]):Mh κ A B (x::R) i j:=by
 have et:=za8 h
 have st:=sB.take (j+1)
 rw [et] at st
 have st':=srt_app.mp st
 refine ⟨?_,List.pairwise_cons.mpr ⟨fun y hy=>M.lb x (by rw [et];simp) y hy,M.so⟩,fun y hy z hz=>?_,fun y hy z hz=>?_,M.hi,by have:=M.hj;omega⟩
 ·rw [zbs h]
  exact (M.pm.cons x).trans List.perm_middle.symm
 ·rcases List.mem_cons.mp hz with rfl | hz
  ·exact hx y hy _ (by simp)
  ·exact M.la y hy z hz
 ·rcases List.mem_cons.mp hz with rfl | hz
  ·exact st'.2.2 y hy _ (by simp)
  ·exact M.lb y (by rw [et];exact List.mem_append_left _ hy) z hz
theorem Mh.pushAs {A B R:List Keyed}{t j:Nat}(sA:Srt κ A):∀ k,Mh κ A B R (t+k) j→Lel κ (B.take j) ((A.drop t).take k)→Mh κ A B ((A.drop t).take k++R) t j
 | 0,M,_=>by simpa using M
 | k+1,M,hl=>by
  have hlt:t+k < A.length:=by have:=M.hi;omega
  have e:(A.drop t)[k]? = some A[t+k]:=by rw [List.getElem?_drop,List.getElem?_eq_getElem hlt]
  have et:(A.drop t).take (k+1)=(A.drop t).take k++[A[t+k]]:=za8 e
  rw [et] at hl ⊢
  have M1:Mh κ A B (A[t+k]::R) (t+k) j:=Mh.pushA M sA (List.getElem?_eq_getElem hlt) fun y hy z hz=>hl y hy z (List.mem_append_right _ hz)
  have:=Mh.pushAs sA k M1 fun y hy z hz=>hl y hy z (List.mem_append_left _ hz)
  rw [List.append_assoc]
  exact this
theorem Mh.pushBs {A B R:List Keyed}{t i:Nat}(sB:Srt κ B):∀ k,Mh κ A B R i (t+k)→Lel κ (A.take i) ((B.drop t).take k)→Mh κ A B ((B.drop t).take k++R) i t
 | 0,M,_=>by simpa using M
 | k+1,M,hl=>by
  have hlt:t+k < B.length:=by have:=M.hj;omega
  have e:(B.drop t)[k]? = some B[t+k]:=by rw [List.getElem?_drop,List.getElem?_eq_getElem hlt]
  have et:(B.drop t).take (k+1)=(B.drop t).take k++[B[t+k]]:=za8 e
  rw [et] at hl ⊢
  have M1:Mh κ A B (B[t+k]::R) i (t+k):=Mh.pushB M sB (List.getElem?_eq_getElem hlt) fun y hy z hz=>hl y hy z (List.mem_append_right _ hz)
  have:=Mh.pushBs sB k M1 fun y hy z hz=>hl y hy z (List.mem_append_left _ hz)
  rw [List.append_assoc]
  exact this
theorem Mh.perm {A B R:List Keyed}{i j:Nat}(M:Mh κ A B R i j):(A.take i++B.take j++R).Perm (A++B):=by
 have h1:(A.take i++B.take j++R).Perm (A.take i++B.take j++(A.drop i++B.drop j)):=M.pm.append_left _
 refine h1.trans ?_
 have h2:((A.take i++B.take j)++(A.drop i++B.drop j)).Perm ((A.take i++A.drop i)++(B.take j++B.drop j)):=by
  rw [List.append_assoc,List.append_assoc]
  refine List.Perm.append_left _ ?_
  rw [← List.append_assoc,← List.append_assoc]
  exact List.Perm.append_right _ List.perm_append_comm
 rw [List.take_append_drop,List.take_append_drop] at h2
 exact h2
theorem Mh.done {A B R:List Keyed}{i j:Nat}(M:Mh κ A B R i j)(sA:Srt κ A)(sB:Srt κ B)(h:i=0 ∨ j=0):Mg κ A B (A.take i++B.take j++R):=by
 refine ⟨M.perm,srt_app.mpr ⟨srt_app.mpr ⟨sA.take i,sB.take j,fun x hx y hy=>?_⟩,M.so,fun o ho y hy=>?_⟩⟩
 ·rcases h with h | h
  ·subst h;simp at hx
  ·subst h;simp at hy
 ·rcases List.mem_append.mp ho with ho | ho
  ·exact M.la o ho y hy
  ·exact M.lb o ho y hy
theorem Mh.first {A B R:List Keyed}{i j:Nat}(M:Mh κ A B R i j)(sA:Srt κ A)(sB:Srt κ B)(h:j=1)(hf:∀ z,B[0]? = some z→Lel κ [z] A):Mg κ A B (B.take j++A.take i++R):=by
 refine ⟨List.Perm.trans (List.Perm.append_right _ List.perm_append_comm) M.perm,srt_app.mpr ⟨srt_app.mpr ⟨sB.take j,sA.take i,fun x hx y hy=>?_⟩,M.so,fun o ho y hy=>?_⟩⟩
 ·subst h
  cases B with
  | nil=>simp at hx
  | cons z B =>
   have hx:x=z:=by simpa using hx
   subst hx
   exact hf x rfl x (by simp) y (List.mem_of_mem_take hy)
 ·rcases List.mem_append.mp ho with ho | ho
  ·exact M.lb o ho y hy
  ·exact M.la o ho y hy
theorem hDn_list (a b o:Array Keyed)(i j:Nat):(hDn a b o i j).toList=a.toList.take i++b.toList.take j++o.toList.reverse:=by
 simp [hDn,Array.toList_extract]
theorem hFb_list (a b o:Array Keyed)(i j:Nat):(hFb a b o i j).toList=b.toList.take j++a.toList.take i++o.toList.reverse:=by
 simp [hFb,Array.toList_extract]
theorem extR_list (a:Array Keyed)(t i:Nat):((a.extract t i).reverse).toList.reverse=(a.toList.drop t).take (i - t):=by
 simp [Array.toList_extract]
section
variable {prog:Program} {w:World} {A:Around} {E:Value→Shared→Prop} {s:Shared}
theorem zih {st:SortSt}{lf:Bool}{key:Keyed}{arr:Array Keyed}{n:Nat}{Q:Option Nat→SortSt→Prop}(hO:κ.OneLt)(hB:TB st)(hk:Gd κ key)(hg:∀ x∈arr.toList,Gd κ x)(sa:Srt κ arr.toList)(hn:0 < n)(hna:n≤arr.size)
  (hq:∀ k,k≤n→(∀ x∈arr.toList.take k,bdB κ lf (kof κ key) (kof κ x)=true)→(∀ x∈(arr.toList.drop k).take (n - k),bdB κ lf (kof κ key) (kof κ x)=false)→Q (some k) st) :
  wpS (model prog w) A E s (gal lf key arr 0 n (n - 1)) Q st:=by
 have hl:arr.toList.length=arr.size:=Array.length_toList
 refine zhn hO hB hk (fun t=>match arr.toList[t]? with | some p=>bdB κ lf (kof κ key) (kof κ p) | none=>false) (by omega) (fun t ht=>?_) (fun t u htu hu hb=>?_) (fun k hk' h1 h2=>hq k (by omega) (fun x hx=>?_) fun x hx=>?_)
 ·have hlt:t < arr.toList.length:=by omega
  have e:=List.getElem?_eq_getElem hlt
  refine ⟨arr.toList[t],by rw [Nat.zero_add];simpa using e,hg _ (List.getElem_mem hlt),?_⟩
  rw [e]
 ·have h1:t < arr.toList.length:=by omega
  have h2:u < arr.toList.length:=by omega
  have e1:=List.getElem?_eq_getElem h1
  have e2:=List.getElem?_eq_getElem h2
  rw [e2] at hb
  rw [e1]
  exact zif (sa.at (by omega) e1 e2) hb
 ·obtain ⟨t,e⟩:=List.getElem?_of_mem hx
  have ht:t < k:=by
   have:=(List.getElem?_eq_some_iff.mp e).1
   rw [List.length_take] at this
   omega
  rw [List.getElem?_take,if_pos ht] at e
  have:=h1 t ht
  rw [e] at this
  exact this
 ·obtain ⟨t,e⟩:=List.getElem?_of_mem hx
  have ht:t < n - k:=by
   have:=(List.getElem?_eq_some_iff.mp e).1
   rw [List.length_take] at this
   omega
  rw [List.getElem?_take,if_pos ht,List.getElem?_drop] at e
  have:=h2 (k+t) (by omega) (by omega)
  rw [e] at this
  exact this
theorem zf0 {l:List Keyed}(sl:Srt κ l){i:Nat}{x y:Keyed}(e:l[i]? = some y)(h:lek κ y x):Lel κ (l.take (i+1)) [x]:=fun z hz t ht=>by
 rw [List.mem_singleton] at ht
 subst ht
 rw [za8 e] at hz
 rcases List.mem_append.mp hz with hz | hz
 ·have st:=sl.take (i+1)
  rw [za8 e] at st
  exact zdd ((srt_app.mp st).2.2 z hz y (by simp)) h
 ·rw [List.mem_singleton] at hz
  subst hz
  exact h
structure TwoH (κ:KeyKind) (a b:Array Keyed):Prop where
 ga:∀ x∈a.toList,Gd κ x
 gb:∀ x∈b.toList,Gd κ x
 sa:Srt κ a.toList
 sb:Srt κ b.toList
 hf:∀ z,b.toList[0]? = some z→Lel κ [z] a.toList
theorem TwoH.atA {a b:Array Keyed}(T:TwoH κ a b){i:Nat}(hi:i < a.size):∃ x,a.toList[i]? = some x∧Gd κ x:=⟨a.toList[i]'(by rw [Array.length_toList]; exact hi),List.getElem?_eq_getElem (by rw [Array.length_toList]; exact hi),T.ga _ (List.getElem_mem _)⟩
theorem TwoH.atB {a b:Array Keyed}(T:TwoH κ a b){i:Nat}(hi:i < b.size):∃ x,b.toList[i]? = some x∧Gd κ x:=⟨b.toList[i]'(by rw [Array.length_toList]; exact hi),List.getElem?_eq_getElem (by rw [Array.length_toList]; exact hi),T.gb _ (List.getElem_mem _)⟩
theorem TwoH.dn {a b:Array Keyed}(T:TwoH κ a b){o:Array Keyed}{i j:Nat}(M:Mh κ a.toList b.toList o.toList.reverse i j)(h:i=0 ∨ j=0):Mg κ a.toList b.toList (hDn a b o i j).toList:=by
 rw [hDn_list]
 exact M.done T.sa T.sb h
theorem TwoH.fb {a b:Array Keyed}(T:TwoH κ a b){o:Array Keyed}{i j:Nat}(M:Mh κ a.toList b.toList o.toList.reverse i j)(h:j=1):Mg κ a.toList b.toList (hFb a b o i j).toList:=by
 rw [hFb_list]
 exact M.first T.sa T.sb h T.hf
theorem zdz (o:Array Keyed)(x:Keyed):(o.push x).toList.reverse=x::o.toList.reverse:=by simp
theorem app_rev (o:Array Keyed)(a:Array Keyed)(t i:Nat):(o++(a.extract t i).reverse).toList.reverse=(a.toList.drop t).take (i - t)++o.toList.reverse:=by
 rw [Array.toList_append,List.reverse_append,extR_list]
noncomputable abbrev HSt:=Option (Array Keyed) × Nat × Nat × Array Keyed × Nat × Nat × Nat
noncomputable def hq3 (a b:Array Keyed)(i g p q j:Nat)(o:Array Keyed):StateT SortSt Sem (ForInStep HSt):=do
 let e ← elem' a (i - 1)
 if (i - 1 == 0)=true then pure (.done (some (hDn a b (o.push e) (i - 1) j),i - 1,j,o.push e,g,p,q))
 else if (decide (p < 7) && decide (q < 7))=true then pure (.done (none,i - 1,j,o.push e,g,p,q)) else pure (.yield (none,i - 1,j,o.push e,g,p,q))
noncomputable def hq2 (a b:Array Keyed)(j g p q i:Nat)(o:Array Keyed):StateT SortSt Sem (ForInStep HSt):=do
 let e ← elem' b (j - 1)
 if (j - 1 == 1)=true then pure (.done (some (hFb a b (o.push e) i (j - 1)),i,j - 1,o.push e,g,p,q))
 else do
  let f ← elem' a (i - 1)
  let y ← gal true f b 0 (j - 1) (j - 1 - 1)
  match y with
  | some t=>if j - 1 - t > 0 then (if (t == 1)=true then pure (.done (some (hFb a b (o.push e++(b.extract t (j - 1)).reverse) i t),i,t,o.push e++(b.extract t (j - 1)).reverse,g,p,j - 1 - t)) else if (t == 0)=true then pure (.done (some (hDn a b (o.push e++(b.extract t (j - 1)).reverse) i t),i,t,o.push e++(b.extract t (j - 1)).reverse,g,p,j - 1 - t)) else hq3 a b i g p (j - 1 - t) t (o.push e++(b.extract t (j - 1)).reverse)) else hq3 a b i g p (j - 1 - t) (j - 1) (o.push e)
  | _=>pure (.done (some (hDn a b (o.push e) i (j - 1)),i,j - 1,o.push e,g,p,q))
noncomputable def hq1 (a b:Array Keyed)(i j:Nat)(o:Array Keyed)(p q g:Nat):StateT SortSt Sem (ForInStep HSt):=do
 smg g
 let e ← elem' b (j - 1)
 let y ← gal false e a 0 i (i - 1)
 match y with
 | some t=>if i - t > 0 then (if (t == 0)=true then pure (.done (some (hDn a b (o++(a.extract t i).reverse) t j),t,j,o++(a.extract t i).reverse,g,i - t,q)) else hq2 a b j g (i - t) q t (o++(a.extract t i).reverse)) else hq2 a b j g (i - t) q i o
 | _=>pure (.done (some (hDn a b o i j),i,j,o,g,p,q))
noncomputable def Hst (κ:KeyKind)(a b:Array Keyed)(x:Nat)(st:SortSt)(r:ForInStep HSt)(st':SortSt):Prop:=match r with
 | .done c=>((∃ r z,c=(some r,z)∧Mg κ a.toList b.toList r.toList) ∨ ∃ i j o g p q,c=(none,i,j,o,g,p,q)∧Mh κ a.toList b.toList o.toList.reverse i j∧0 < i∧1 < j∧x+2+i+j≤a.size+b.size)∧Ok st st'
 | .yield c=>∃ i j o g p q,c=(none,i,j,o,g,p,q)∧Mh κ a.toList b.toList o.toList.reverse i j∧0 < i∧1 < j∧x+2+i+j≤a.size+b.size∧Ok st st'
theorem wpS_hq3 {st st':SortSt}{a b o:Array Keyed}{i j g p q x:Nat}{xa:Keyed}(T:TwoH κ a b)(M:Mh κ a.toList b.toList o.toList.reverse i j)(hi:0 < i)(hj:1 < j)(hx:x+2+i+j≤a.size+b.size)(ok:Ok st st')(exa:a.toList[i - 1]? = some xa)(hle:Lel κ (b.toList.take j) [xa]) :
  wpS (model prog w) A E s (hq3 a b i g p q j o) (Hst κ a b x st) st':=by
 unfold hq3
 refine wpS_bind (za1 exa ?_)
 have M':Mh κ a.toList b.toList (o.push xa).toList.reverse (i - 1) j:=by
  rw [zdz]
  exact Mh.pushA (by rw [show i - 1+1=i by omega];exact M) T.sa exa hle
 by_cases h0:i - 1=0
 ·refine zak (by simpa using h0) ?_
  exact wpS_pure ⟨.inl ⟨_,_,rfl,T.dn M' (.inl h0)⟩,ok⟩
 ·refine zal (by simpa using h0) ?_
  by_cases hpq:(decide (p < 7) && decide (q < 7))=true
  ·refine zak hpq ?_
   exact wpS_pure ⟨.inr ⟨_,_,_,_,_,_,rfl,M',by omega,hj,by omega⟩,ok⟩
  ·refine zal hpq ?_
   exact wpS_pure ⟨_,_,_,_,_,_,rfl,M',by omega,hj,by omega,ok⟩
theorem wpS_hq2 {st st':SortSt}{a b o:Array Keyed}{i j g p q x:Nat}{xb:Keyed}(hO:κ.OneLt)(T:TwoH κ a b)(M:Mh κ a.toList b.toList o.toList.reverse i j)(hi:0 < i)(hj:1 < j)(hx:x+2+i+j≤a.size+b.size)(ok:Ok st st')(exb:b.toList[j - 1]? = some xb)(hle:Lel κ (a.toList.take i) [xb]) :
  wpS (model prog w) A E s (hq2 a b j g p q i o) (Hst κ a b x st) st':=by
 have la:a.toList.length=a.size:=Array.length_toList
 have lb:b.toList.length=b.size:=Array.length_toList
 have hia:=M.hi
 have hjb:=M.hj
 unfold hq2
 refine wpS_bind (za1 exb ?_)
 have M':Mh κ a.toList b.toList (o.push xb).toList.reverse i (j - 1):=by
  rw [zdz]
  exact Mh.pushB (by rw [show j - 1+1=j by omega];exact M) T.sb exb hle
 by_cases h1:j - 1=1
 ·refine zak (by simpa using h1) ?_
  exact wpS_pure ⟨.inl ⟨_,_,rfl,T.fb M' h1⟩,ok⟩
 refine zal (by simpa using h1) ?_
 obtain ⟨xa,exa,gxa⟩:=T.atA (i:=i - 1) (by omega)
 refine wpS_bind (za1 exa (wpS_bind (zih hO ok.tb gxa T.gb T.sb (by omega) (by omega) fun t ht t1 t2=>?_)))
 dsimp only
 have up:Lel κ (b.toList.take t) [xa]:=fun z hz y hy=>by
  rw [List.mem_singleton] at hy
  subst hy
  exact zho (t1 z hz)
 have MB:Mh κ a.toList b.toList ((b.toList.drop t).take (j - 1 - t)++(o.push xb).toList.reverse) i t:=Mh.pushBs T.sb (j - 1 - t) (by rw [show t+(j - 1 - t)=j - 1 by omega];exact M') fun y hy z hz=>by
  have:=zf0 T.sa exa (zfz (t2 z hz))
  rw [show i - 1+1=i by omega] at this
  exact this y hy z (by simp)
 by_cases hk0:j - 1 - t > 0
 ·refine zak hk0 ?_
  have MB':Mh κ a.toList b.toList (o.push xb++(b.extract t (j - 1)).reverse).toList.reverse i t:=by rw [app_rev];exact MB
  by_cases ht1:t=1
  ·refine zak (by simpa using ht1) ?_
   exact wpS_pure ⟨.inl ⟨_,_,rfl,T.fb MB' ht1⟩,ok⟩
  ·refine zal (by simpa using ht1) ?_
   by_cases ht0:t=0
   ·refine zak (by simpa using ht0) ?_
    exact wpS_pure ⟨.inl ⟨_,_,rfl,T.dn MB' (.inr ht0)⟩,ok⟩
   ·refine zal (by simpa using ht0) ?_
    exact wpS_hq3 T MB' hi (by omega) (by omega) ok exa up
 ·refine zal hk0 ?_
  have:t=j - 1:=by omega
  subst this
  exact wpS_hq3 T M' hi (by omega) (by omega) ok exa up
theorem wpS_hq1 {st st':SortSt}{a b o:Array Keyed}{i j g p q x:Nat}(hO:κ.OneLt)(T:TwoH κ a b)(M:Mh κ a.toList b.toList o.toList.reverse i j)(hi:0 < i)(hj:1 < j)(hx:x+2+i+j≤a.size+b.size)(ok:Ok st st') :
  wpS (model prog w) A E s (hq1 a b i j o p q g) (Hst κ a b x st) st':=by
 have la:a.toList.length=a.size:=Array.length_toList
 have lb:b.toList.length=b.size:=Array.length_toList
 have hia:=M.hi
 have hjb:=M.hj
 unfold hq1
 refine wpS_bind (zfy ok fun st3 ok3=>?_)
 obtain ⟨xb,exb,gxb⟩:=T.atB (i:=j - 1) (by omega)
 refine wpS_bind (za1 exb (wpS_bind (zih hO ok3.tb gxb T.ga T.sa hi (by omega) fun t ht t1 t2=>?_)))
 dsimp only
 have up:Lel κ (a.toList.take t) [xb]:=fun z hz y hy=>by
  rw [List.mem_singleton] at hy
  subst hy
  exact zdy (t1 z hz)
 have MA:Mh κ a.toList b.toList ((a.toList.drop t).take (i - t)++o.toList.reverse) t j:=Mh.pushAs T.sa (i - t) (by rw [show t+(i - t)=i by omega];exact M) fun y hy z hz=>by
  have:=zf0 T.sb exb (zep (t2 z hz))
  rw [show j - 1+1=j by omega] at this
  exact this y hy z (by simp)
 by_cases hk0:i - t > 0
 ·refine zak hk0 ?_
  have MA':Mh κ a.toList b.toList (o++(a.extract t i).reverse).toList.reverse t j:=by rw [app_rev];exact MA
  by_cases ht0:t=0
  ·refine zak (by simpa using ht0) ?_
   exact wpS_pure ⟨.inl ⟨_,_,rfl,T.dn MA' (.inl ht0)⟩,ok3⟩
  ·refine zal (by simpa using ht0) ?_
   exact wpS_hq2 hO T MA' (by omega) hj (by omega) ok3 exb up
 ·refine zal hk0 ?_
  have:t=i:=by omega
  subst this
  exact wpS_hq2 hO T M hi hj hx ok3 exb up
theorem wpS_mhi {st:SortSt}{a b:Array Keyed}{Q:Array Keyed→SortSt→Prop}(hO:κ.OneLt)(hB:TB st)(T:TwoH κ a b)(h0:0 < a.size)(h1:0 < b.size)
  (hl:∀ z,a.toList[a.size - 1]? = some z→Lel κ b.toList [z])
  (hq:∀ r st',Ok st st'→Mg κ a.toList b.toList r.toList→Q r st'):wpS (model prog w) A E s (mhi a b) Q st:=by
 have la:a.toList.length=a.size:=Array.length_toList
 have lb:b.toList.length=b.size:=Array.length_toList
 rw [mhi_eq]
 refine wpS_bind (wpS_lift (wpAny_rule ⟨rfl,?_⟩))
 dsimp only
 obtain ⟨z0,ez0,gz0⟩:=T.atA (i:=a.size - 1) (by omega)
 refine wpS_bind (za1 ez0 ?_)
 have M0:Mh κ a.toList b.toList (#[z0]:Array Keyed).toList.reverse (a.size - 1) b.size:=by
  have:Mh κ a.toList b.toList [z0] (a.size - 1) b.size:=Mh.pushA (R:=[]) (by
   rw [show a.size - 1+1=a.size by omega]
   refine ⟨?_,.nil,(fun x hx y hy=>by cases hy),(fun x hx y hy=>by cases hy),by omega,by omega⟩
   rw [List.drop_of_length_le (by omega),List.drop_of_length_le (by omega)]
   exact List.Perm.refl _) T.sa ez0 (by rw [List.take_of_length_le (by omega)];exact hl _ ez0)
  exact this
 by_cases ha1:a.size - 1=0
 ·refine zak (by simpa using ha1) ?_
  exact wpS_pure (hq _ _ (.refl hB) (T.dn M0 (.inl ha1)))
 refine zal (by simpa using ha1) ?_
 by_cases hb1:b.size=1
 ·refine zak (by simpa using hb1) ?_
  exact wpS_pure (hq _ _ (.refl hB) (T.fb M0 hb1))
 refine zal (by simpa using hb1) ?_
 refine wpS_bind (wpS_get ?_)
 refine wpS_bind (wpS_mono (wpS_forRange (I:=fun x c st'=>∃ i j o g,c=(none,i,j,o,g)∧Mh κ a.toList b.toList o.toList.reverse i j∧0 < i∧1 < j∧x+1+i+j≤a.size+b.size∧Ok st st')
  (Q:=fun c st'=>∃ r z,c=(some r,z)∧Mg κ a.toList b.toList r.toList∧Ok st st') ?step ?fin ⟨_,_,_,_,rfl,M0,by omega,by omega,by omega,.refl hB⟩) ?post)
 case post =>
  rintro c st' ⟨r,z,rfl,m,ok⟩
  exact wpS_pure (hq _ _ ok m)
 case fin =>
  rintro c st' ⟨i,j,o,g,rfl,M,hi,hj,hx,ok⟩
  omega
 case step =>
  rintro x c st1 _ hx ⟨i,j,o,g,rfl,M,hi,hj,hij,ok1⟩
  dsimp only
  refine wpS_bind (wpS_mono (wpS_forRange (I:=fun y c st'=>st'=st1∧∃ i j o p q,c=(none,i,j,o,p,q)∧Mh κ a.toList b.toList o.toList.reverse i j∧0 < i∧1 < j∧x+1+y+i+j≤a.size+b.size)
   (Q:=fun c st'=>st'=st1∧((∃ r z,c=(some r,z)∧Mg κ a.toList b.toList r.toList) ∨ ∃ i j o p q,c=(none,i,j,o,p,q)∧Mh κ a.toList b.toList o.toList.reverse i j∧0 < i∧1 < j∧x+2+i+j≤a.size+b.size)) ?step1 ?fin1 ⟨rfl,i,j,o,0,0,rfl,M,hi,hj,by omega⟩) ?post1)
  case fin1 =>
   rintro c st' ⟨rfl,i,j,o,p,q,rfl,M,hi,hj,hy⟩
   exact ⟨rfl,.inr ⟨i,j,o,p,q,rfl,M,hi,hj,by omega⟩⟩
  case step1 =>
   rintro y c st' _ hy ⟨rfl,i,j,o,p,q,rfl,M,hi,hj,hij⟩
   dsimp only
   have hia:=M.hi
   have hjb:=M.hj
   obtain ⟨xb,exb,gxb⟩:=T.atB (i:=j - 1) (by omega)
   obtain ⟨xa,exa,gxa⟩:=T.atA (i:=i - 1) (by omega)
   refine wpS_bind (za1 exb (wpS_bind (za1 exa (wpS_bind (zib hO ok1.tb gxb gxa ?_)))))
   cases eb:κ.blt (kof κ xb) (kof κ xa) with
   | true =>
    simp only [if_true]
    refine wpS_bind (za1 exa ?_)
    have M':Mh κ a.toList b.toList (o.push xa).toList.reverse (i - 1) j:=by
     rw [zdz]
     refine Mh.pushA (by rw [show i - 1+1=i by omega];exact M) T.sa exa ?_
     have:=zf0 T.sb exb (is_lt eb)
     rwa [show j - 1+1=j by omega] at this
    by_cases hi0:i - 1=0
    ·refine zak (by simpa using hi0) ?_
     exact wpS_pure ⟨rfl,.inl ⟨_,_,rfl,T.dn M' (.inl hi0)⟩⟩
    ·refine zal (by simpa using hi0) ?_
     by_cases hpg:p+1≥g
     ·refine zak hpg ?_
      exact wpS_pure ⟨rfl,.inr ⟨_,_,_,_,_,rfl,M',by omega,hj,by omega⟩⟩
     ·refine zal hpg ?_
      exact wpS_pure ⟨rfl,_,_,_,_,_,rfl,M',by omega,hj,by omega⟩
   | false =>
    simp only [Bool.false_eq_true,if_false]
    refine wpS_bind (za1 exb ?_)
    have M':Mh κ a.toList b.toList (o.push xb).toList.reverse i (j - 1):=by
     rw [zdz]
     refine Mh.pushB (by rw [show j - 1+1=j by omega];exact M) T.sb exb ?_
     have:=zf0 T.sa exa (not_lt eb)
     rwa [show i - 1+1=i by omega] at this
    by_cases hj1:j - 1=1
    ·refine zak (by simpa using hj1) ?_
     exact wpS_pure ⟨rfl,.inl ⟨_,_,rfl,T.fb M' hj1⟩⟩
    ·refine zal (by simpa using hj1) ?_
     by_cases hqg:q+1≥g
     ·refine zak hqg ?_
      exact wpS_pure ⟨rfl,.inr ⟨_,_,_,_,_,rfl,M',hi,by omega,by omega⟩⟩
     ·refine zal hqg ?_
      exact wpS_pure ⟨rfl,_,_,_,_,_,rfl,M',hi,by omega,by omega⟩
  case post1 =>
   rintro c st' ⟨rfl,⟨r,z,rfl,m⟩ | ⟨i,j,o,p,q,rfl,M,hi,hj,hij⟩⟩
   ·exact wpS_pure ⟨r,_,rfl,m,ok1⟩
   dsimp only
   refine wpS_bind (wpS_lift (wpAny_rule ⟨rfl,?_⟩))
   refine wpS_bind (wpS_mono (wpS_forRange (I:=fun y c st'=>∃ i j o g p q,c=(none,i,j,o,g,p,q)∧Mh κ a.toList b.toList o.toList.reverse i j∧0 < i∧1 < j∧x+2+i+j≤a.size+b.size∧Ok st st')
    (Q:=fun c st'=>((∃ r z,c=(some r,z)∧Mg κ a.toList b.toList r.toList) ∨ ∃ i j o g p q,c=(none,i,j,o,g,p,q)∧Mh κ a.toList b.toList o.toList.reverse i j∧0 < i∧1 < j∧x+2+i+j≤a.size+b.size)∧Ok st st') ?step2 ?fin2 ⟨i,j,o,_,p,q,rfl,M,hi,hj,hij,ok1⟩) ?post2)
   case fin2 =>
    rintro c st' ⟨i,j,o,g,p,q,rfl,M,hi,hj,hij,ok⟩
    exact ⟨.inr ⟨i,j,o,g,p,q,rfl,M,hi,hj,hij⟩,ok⟩
   case post2 =>
    rintro c st' ⟨⟨r,z,rfl,m⟩ | ⟨i,j,o,g,p,q,rfl,M,hi,hj,hij⟩,ok⟩
    ·exact wpS_pure ⟨r,_,rfl,m,ok⟩
    ·dsimp only
     exact wpS_bind (zfy ok fun st'' ok'=>wpS_pure ⟨i,j,o,_,rfl,M,hi,hj,by omega,ok'⟩)
   case step2 =>
    rintro y c st2 _ hy ⟨i,j,o,g,p,q,rfl,M,hi,hj,hij,ok2⟩
    dsimp only
    change wpS _ _ _ _ (if g > 1 then hq1 a b i j o p q (g - 1) else hq1 a b i j o p q g) _ _
    refine wpS_mono (Q:=Hst κ a b x st) ?_ fun r st' h=>?_
    rotate_left
    ·cases r with
     | done c=>exact h
     | yield c=>exact h
    by_cases hg:g > 1
    ·refine zak hg ?_
     exact wpS_hq1 hO T M hi hj hij ok2
    ·refine zal hg ?_
     exact wpS_hq1 hO T M hi hj hij ok2
end
end Ts
namespace Ts
open PySem PyProof.Rows
variable {κ:KeyKind}
noncomputable def SrI (κ:KeyKind)(xs:Array Keyed)(lo hi:Nat):Prop:=∀ i j,lo≤i→i≤j→j < hi→κ.kle (KK κ xs i) (KK κ xs j)
noncomputable def NiI (κ:KeyKind)(xs:Array Keyed)(lo hi:Nat):Prop:=∀ i j,lo≤i→i≤j→j < hi→κ.kle (KK κ xs j) (KK κ xs i)
structure Rp (lo hi:Nat) (xs ys:Array Keyed):Prop where
 pm:ys.Perm xs
 out:∀ k,(k < lo ∨ hi≤k)→ys[k]? = xs[k]?
theorem Rp.refl (lo hi:Nat)(xs:Array Keyed):Rp lo hi xs xs:=⟨Array.Perm.refl _,fun _ _=>rfl⟩
theorem Rp.trans {lo hi:Nat}{xs ys zs:Array Keyed}(h:Rp lo hi xs ys)(g:Rp lo hi ys zs):Rp lo hi xs zs:=⟨g.pm.trans h.pm,fun k hk=>(g.out k hk).trans (h.out k hk)⟩
theorem Rp.size {lo hi:Nat}{xs ys:Array Keyed}(h:Rp lo hi xs ys):ys.size=xs.size:=h.pm.size_eq
theorem Rp.mirror {lo hi i j:Nat}{xs:Array Keyed}(h1:lo≤i)(h2:j≤hi)(hj:j≤xs.size):Rp lo hi xs (mirror xs i j ((j - i) / 2)):=by
 refine ⟨mirror_perm _ _ _ _,fun k hk=>?_⟩
 rw [getElem?_mirror_all hj,if_neg (by omega)]
theorem Rp.bubble {lo hi src d:Nat}{xs:Array Keyed}(h1:lo+d≤src)(h2:src < hi)(hs:src < xs.size):Rp lo hi xs (bubble xs src d):=by
 refine ⟨bubble_perm _ _ _,fun k hk=>?_⟩
 rw [getElem?_bubble hs d (by omega),if_neg (by omega),if_neg (by omega)]
structure Rs (κ:KeyKind) (lo hi:Nat) (st st':SortSt):Prop where
 tb:TB st'
 pd:pendingOf st'=pendingOf st
 gd:∀ x∈(arrOf st').toList,Gd κ x
 rp:Rp lo hi (arrOf st) (arrOf st')
theorem Rs.refl {lo hi:Nat}{st:SortSt}(h:TB st)(g:∀ x∈(arrOf st).toList,Gd κ x):Rs κ lo hi st st:=⟨h,rfl,g,.refl _ _ _⟩
theorem Rs.arr {lo hi:Nat}{st st':SortSt}(h:Rs κ lo hi st st'){ys:Array Keyed}(r:Rp lo hi (arrOf st') ys):Rs κ lo hi st (setArr st' ys) :=
 ⟨⟨h.tb.kind,h.tb.failed⟩,h.pd,fun x hx=>h.gd x ((Array.perm_iff_toList_perm.mp r.pm).mem_iff.mp hx),h.rp.trans r⟩
theorem kk_at {xs:Array Keyed}(g:∀ x∈xs.toList,Gd κ x){i:Nat}(hi:i < xs.size):∃ x p,xs[i]? = some (x,p)∧κ.keyOf x=some (KK κ xs i):=by
 have e:xs[i]? = some xs[i]:=getElem?_pos xs i hi
 refine ⟨xs[i].1,xs[i].2,e,?_⟩
 have:=(g xs[i] (by simp)).eq
 rw [this]
 unfold KK kof
 rw [e]
section
variable {prog:Program} {w:World} {A:Around} {E:Value→Shared→Prop} {s:Shared}
theorem zdi {st:SortSt}{i j:Nat}{Q:Option Bool→SortSt→Prop}(hO:κ.OneLt)(hB:TB st)(g:∀ x∈(arrOf st).toList,Gd κ x)(hi:i < (arrOf st).size)(hj:j < (arrOf st).size)
  (h:Q (some (κ.blt (KK κ (arrOf st) i) (KK κ (arrOf st) j))) st):wpS (model prog w) A E s (ltAt' i j) Q st:=by
 obtain ⟨x,p,e1,k1⟩:=kk_at g hi
 obtain ⟨y,q,e2,k2⟩:=kk_at g hj
 exact wpS_ltAtK hO hB.kind e1 e2 k1 k2 h
noncomputable def ascL (lo a nr:Nat):StateT SortSt Sem (Option Nat):=do
 let mut n:=a
 for _ in [a:nr] do
  let some sm ← ltAt' (lo+n) (lo+n - 1) | return none
  if sm then break
  n:=n+1
 return some n
noncomputable def tailL (lo a nr:Nat):StateT SortSt Sem (Option Nat):=do
 reverseSlice' lo (lo+a)
 ascL lo a nr
noncomputable def dscL (lo a nr:Nat):StateT SortSt Sem (Option Nat):=do
 rule "list.sort.descending-run"
 let mut n:=a+1
 let mut e:=0
 for _ in [a+1:nr] do
  let some sm ← ltAt' (lo+n) (lo+n - 1) | return none
  if sm then
   if e > 0 then reverseSlice' (lo+n - (e+1)) (lo+n)
   e:=0
  else
   let some lg ← ltAt' (lo+n - 1) (lo+n) | return none
   if lg then break
   e:=e+1
  n:=n+1
 if e > 0 then reverseSlice' (lo+n - (e+1)) (lo+n)
 tailL lo n nr
theorem sr_step {xs:Array Keyed}{lo x:Nat}(a1:SrI κ xs lo (lo+x))(h1:1≤x)(e:κ.blt (KK κ xs (lo+x)) (KK κ xs (lo+x - 1))=false):SrI κ xs lo (lo+(x+1)):=fun i j hi hij hj=>by
 by_cases q:j < lo+x
 ·exact a1 i j hi hij q
 ·have:j=lo+x:=by omega
  subst this
  by_cases q2:i=lo+x
  ·subst q2;exact KeyOrd.kle_refl _
  ·exact KeyOrd.kle_trans (a1 i (lo+x - 1) hi (by omega) (by omega)) e
theorem wpS_ascL {st:SortSt}{lo a nr:Nat}{Q:Option Nat→SortSt→Prop}(hO:κ.OneLt)(hB:TB st)(g:∀ x∈(arrOf st).toList,Gd κ x)(h1:1≤a)(h2:a≤nr)(h3:lo+nr≤(arrOf st).size)(hs:SrI κ (arrOf st) lo (lo+a))
  (h:∀ n,a≤n→n≤nr→SrI κ (arrOf st) lo (lo+n)→Q (some n) st):wpS (model prog w) A E s (ascL lo a nr) Q st:=by
 unfold ascL
 refine wpS_bind (wpS_mono (wpS_forRange (I:=fun x c st'=>st'=st∧c=(none,x)∧SrI κ (arrOf st) lo (lo+x))
  (Q:=fun c st'=>st'=st∧∃ n,c=(none,n)∧a≤n∧n≤nr∧SrI κ (arrOf st) lo (lo+n)∧(n=nr ∨ κ.klt (KK κ (arrOf st) (lo+n)) (KK κ (arrOf st) (lo+n - 1)))) ?step ?fin ⟨rfl,rfl,hs⟩) ?post)
 case fin =>
  rintro c st' ⟨rfl,rfl,a1⟩
  have e:max a nr=nr:=by omega
  rw [e] at a1 ⊢
  exact ⟨rfl,nr,rfl,by omega,Nat.le_refl _,a1,.inl rfl⟩
 case step =>
  rintro x c st' hx1 hx2 ⟨rfl,rfl,a1⟩
  dsimp only
  refine wpS_bind (zdi hO hB g (by omega) (by omega) ?_)
  cases e:κ.blt (KK κ (arrOf st') (lo+x)) (KK κ (arrOf st') (lo+x - 1)) with
  | true =>
   simp only [if_true]
   exact wpS_pure ⟨rfl,x,rfl,hx1,by omega,a1,.inr e⟩
  | false =>
   simp only [Bool.false_eq_true,if_false]
   exact wpS_pure ⟨rfl,rfl,sr_step a1 (by omega) e⟩
 case post =>
  rintro c st' ⟨rfl,n,rfl,a1,a2,a3,a4⟩
  exact wpS_pure (h n a1 a2 a3)
theorem zg5 {st st':SortSt}{lo a nr:Nat}{Q:Option Nat→SortSt→Prop}(hO:κ.OneLt)(R:Rs κ lo (lo+nr) st st')(h1:1≤a)(h2:a≤nr)(h3:lo+nr≤(arrOf st).size)(hs:NiI κ (arrOf st') lo (lo+a))
  (h:∀ n st'',1≤n→n≤nr→Rs κ lo (lo+nr) st st''→SrI κ (arrOf st'') lo (lo+n)→Q (some n) st''):wpS (model prog w) A E s (tailL lo a nr) Q st':=by
 have hz:=R.rp.size
 unfold tailL
 refine wpS_bind (wpS_reverse ?_)
 have R':Rs κ lo (lo+nr) st (setArr st' (mirror (arrOf st') lo (lo+a) ((lo+a - lo) / 2))):=R.arr (Rp.mirror (Nat.le_refl _) (by omega) (by omega))
 refine wpS_ascL hO R'.tb R'.gd h1 h2 (by rw [R'.rp.size];exact h3) (fun i j hi hij hj=>?_) fun n a1 a2 a3=>h n _ (by omega) a2 R' a3
 show κ.kle (KK κ (mirror (arrOf st') lo (lo+a) ((lo+a - lo) / 2)) i) (KK κ (mirror (arrOf st') lo (lo+a) ((lo+a - lo) / 2)) j)
 rw [KK_mirror (by omega),KK_mirror (by omega),if_pos (by omega),if_pos (by omega)]
 exact hs _ _ (by omega) (by omega) (by omega)
theorem zii {st st':SortSt}{lo a nr:Nat}{Q:Option Nat→SortSt→Prop}(hO:κ.OneLt)(R:Rs κ lo (lo+nr) st st')(h2:a+1≤nr)(h3:lo+nr≤(arrOf st).size)(hs:NiI κ (arrOf st') lo (lo+(a+1)))
  (h:∀ n st'',1≤n→n≤nr→Rs κ lo (lo+nr) st st''→SrI κ (arrOf st'') lo (lo+n)→Q (some n) st''):wpS (model prog w) A E s (dscL lo a nr) Q st':=by
 unfold dscL
 refine wpS_bind (wpS_lift (wpAny_rule ⟨rfl,?_⟩))
 dsimp only
 refine wpS_bind (wpS_mono (wpS_forRange (I:=fun x c st''=>∃ e,c=(none,x,e)∧Rs κ lo (lo+nr) st st''∧NiI κ (arrOf st'') lo (lo+x)∧e+1≤x∧∀ i,lo+x - (e+1)≤i→i < lo+x→KK κ (arrOf st'') i=KK κ (arrOf st'') (lo+x - 1))
  (Q:=fun c st''=>∃ x e,c=(none,x,e)∧a+1≤x∧x≤nr∧Rs κ lo (lo+nr) st st''∧NiI κ (arrOf st'') lo (lo+x)∧e+1≤x∧∀ i,lo+x - (e+1)≤i→i < lo+x→KK κ (arrOf st'') i=KK κ (arrOf st'') (lo+x - 1)) ?step ?fin ⟨0,rfl,R,hs,by omega,fun i h1 h2=>by congr 1;omega⟩) ?post)
 case fin =>
  rintro c st'' ⟨e,rfl,R,hs,he,hk⟩
  have ex:max (a+1) nr=nr:=by omega
  rw [ex] at hs he hk ⊢
  exact ⟨nr,e,rfl,h2,Nat.le_refl _,R,hs,he,hk⟩
 case post =>
  rintro c st'' ⟨x,e,rfl,hx1,hx2,R,hs,he,hk⟩
  have hz:=R.rp.size
  dsimp only
  by_cases h0:e > 0
  ·refine zak h0 ?_
   refine wpS_bind (wpS_reverse ?_)
   refine zg5 hO (R.arr (Rp.mirror (by omega) (by omega) (by omega))) (by omega) hx2 h3 (fun i j hi hij hj=>?_) h
   show κ.kle (KK κ (mirror (arrOf st'') _ _ _) j) (KK κ (mirror (arrOf st'') _ _ _) i)
   rw [KK_mirror_equal (by omega) hk,KK_mirror_equal (by omega) hk]
   exact hs i j hi hij hj
  ·refine zal h0 ?_
   exact zg5 hO R (by omega) hx2 h3 hs h
 case step =>
  rintro x c st'' hx1 hx2 ⟨e,rfl,R,hs,he,hk⟩
  have hz:=R.rp.size
  dsimp only
  refine wpS_bind (zdi hO R.tb R.gd (by omega) (by omega) ?_)
  cases e1:κ.blt (KK κ (arrOf st'') (lo+x)) (KK κ (arrOf st'') (lo+x - 1)) with
  | true =>
   simp only [if_true]
   have nx:∀ xs:Array Keyed,(∀ k,KK κ xs k=KK κ (arrOf st'') k)→NiI κ xs lo (lo+(x+1)):=fun xs ek i j hi hij hj=>by
    rw [ek,ek]
    by_cases q:j < lo+x
    ·exact hs i j hi hij q
    ·have:j=lo+x:=by omega
     subst this
     by_cases q2:i=lo+x
     ·subst q2;exact KeyOrd.kle_refl _
     ·exact KeyOrd.kle_trans (KeyOrd.kle_of_klt e1) (hs i (lo+x - 1) hi (by omega) (by omega))
   by_cases h0:e > 0
   ·refine zak h0 ?_
    exact wpS_bind (wpS_reverse (wpS_pure ⟨0,rfl,R.arr (Rp.mirror (by omega) (by omega) (by omega)),nx _ (KK_mirror_equal (by omega) hk),by omega,fun i h1 h2=>by congr 1;omega⟩))
   ·refine zal h0 ?_
    exact wpS_pure ⟨0,rfl,R,nx _ fun _=>rfl,by omega,fun i h1 h2=>by congr 1;omega⟩
  | false =>
   simp only [Bool.false_eq_true,if_false]
   refine wpS_bind (zdi hO R.tb R.gd (by omega) (by omega) ?_)
   cases e2:κ.blt (KK κ (arrOf st'') (lo+x - 1)) (KK κ (arrOf st'') (lo+x)) with
   | true =>
    simp only [if_true]
    exact wpS_pure ⟨x,e,rfl,hx1,by omega,R,hs,he,hk⟩
   | false =>
    simp only [Bool.false_eq_true,if_false]
    have ee:KK κ (arrOf st'') (lo+x)=KK κ (arrOf st'') (lo+x - 1):=KeyOrd.kle_antisymm e2 e1
    refine wpS_pure ⟨e+1,rfl,R,fun i j hi hij hj=>?_,by omega,fun i h1 h2=>?_⟩
    ·by_cases q:j < lo+x
     ·exact hs i j hi hij q
     ·have:j=lo+x:=by omega
      subst this
      by_cases q2:i=lo+x
      ·subst q2;exact KeyOrd.kle_refl _
      ·rw [ee];exact hs i (lo+x - 1) hi (by omega) (by omega)
    ·rw [show lo+(x+1) - 1=lo+x by omega]
     by_cases q:i=lo+x
     ·subst q;rfl
     ·rw [ee];exact hk i (by omega) (by omega)
theorem wpS_crun {st:SortSt}{lo nr:Nat}{Q:Option Nat→SortSt→Prop}(hO:κ.OneLt)(hB:TB st)(g:∀ x∈(arrOf st).toList,Gd κ x)(h1:1≤nr)(h3:lo+nr≤(arrOf st).size)
  (h:∀ n st',1≤n→n≤nr→Rs κ lo (lo+nr) st st'→SrI κ (arrOf st') lo (lo+n)→Q (some n) st'):wpS (model prog w) A E s (countRun' lo nr) Q st:=by
 have R:Rs κ lo (lo+nr) st st:=.refl hB g
 rw [countRun'_eq]
 change wpS _ _ _ _ (do
  let mut n:=1
  for _ in [1:nr] do
   let some sm ← ltAt' (lo+n) (lo+n - 1) | return none
   if sm then break
   n:=n+1
  if n == nr then return some n
  if n > 1 then
   let some rs ← ltAt' lo (lo+n - 1) | return none
   if rs then return some n
   reverseSlice' lo (lo+n)
  dscL lo n nr) _ _
 refine wpS_bind (wpS_mono (wpS_forRange (I:=fun x c st'=>st'=st∧c=(none,x)∧SrI κ (arrOf st) lo (lo+x))
  (Q:=fun c st'=>st'=st∧∃ n,c=(none,n)∧1≤n∧n≤nr∧SrI κ (arrOf st) lo (lo+n)∧(n=nr ∨ κ.klt (KK κ (arrOf st) (lo+n)) (KK κ (arrOf st) (lo+n - 1)))) ?step ?fin ⟨rfl,rfl,fun i j hi hij hj=>by have:i=j:=(by omega);subst this;exact KeyOrd.kle_refl _⟩) ?post)
 case fin =>
  rintro c st' ⟨rfl,rfl,a1⟩
  have e:max 1 nr=nr:=by omega
  rw [e] at a1 ⊢
  exact ⟨rfl,nr,rfl,by omega,Nat.le_refl _,a1,.inl rfl⟩
 case step =>
  rintro x c st' hx1 hx2 ⟨rfl,rfl,a1⟩
  dsimp only
  refine wpS_bind (zdi hO hB g (by omega) (by omega) ?_)
  cases e:κ.blt (KK κ (arrOf st') (lo+x)) (KK κ (arrOf st') (lo+x - 1)) with
  | true =>
   simp only [if_true]
   exact wpS_pure ⟨rfl,x,rfl,hx1,by omega,a1,.inr e⟩
  | false =>
   simp only [Bool.false_eq_true,if_false]
   exact wpS_pure ⟨rfl,rfl,sr_step a1 (by omega) e⟩
 rintro c st' ⟨rfl,n,rfl,a1,a2,a3,a4⟩
 dsimp only
 by_cases hn:n=nr
 ·refine zak (by simpa using hn) ?_
  exact wpS_pure (h n st' a1 a2 R a3)
 ·refine zal (by simpa using hn) ?_
  have lt:κ.klt (KK κ (arrOf st') (lo+n)) (KK κ (arrOf st') (lo+n - 1)):=a4.resolve_left hn
  by_cases hg:n > 1
  ·refine zak hg ?_
   refine wpS_bind (zdi hO hB g (by omega) (by omega) ?_)
   cases e:κ.blt (KK κ (arrOf st') lo) (KK κ (arrOf st') (lo+n - 1)) with
   | true =>
    simp only [if_true]
    exact wpS_pure (h n st' a1 a2 R a3)
   | false =>
    simp only [Bool.false_eq_true,if_false]
    refine wpS_bind (wpS_reverse ?_)
    have same:∀ i,lo≤i→i < lo+n→KK κ (arrOf st') i=KK κ (arrOf st') (lo+n - 1):=fun i hi1 hi2=>by
     have b1:=a3 i (lo+n - 1) hi1 (by omega) (by omega)
     have b2:=a3 lo i (Nat.le_refl _) hi1 hi2
     exact KeyOrd.kle_antisymm b1 (KeyOrd.kle_trans e b2)
    refine zii hO (R.arr (Rp.mirror (Nat.le_refl _) (by omega) (by omega))) (by omega) h3 (fun i j hi hij hj=>?_) h
    show κ.kle (KK κ (mirror (arrOf st') _ _ _) j) (KK κ (mirror (arrOf st') _ _ _) i)
    rw [KK_mirror_equal (by omega) same,KK_mirror_equal (by omega) same]
    by_cases q:j < lo+n
    ·rw [same i hi (by omega),same j (by omega) q]
     exact KeyOrd.kle_refl _
    ·have:j=lo+n:=by omega
     subst this
     by_cases q2:i=lo+n
     ·subst q2;exact KeyOrd.kle_refl _
     ·rw [same i hi (by omega)]
      exact KeyOrd.kle_of_klt lt
  ·refine zal hg ?_
   have:n=1:=by omega
   subst this
   refine zii hO R (by omega) h3 (fun i j hi hij hj=>?_) h
   by_cases q2:i=j
   ·subst q2;exact KeyOrd.kle_refl _
   ·have e1:i=lo:=by omega
    have e2:j=lo+1:=by omega
    subst e1 e2
    exact KeyOrd.kle_of_klt lt
end
end Ts
namespace Ts
open PySem PyProof.Rows
variable {κ:KeyKind}
section
variable {prog:Program} {w:World} {A:Around} {E:Value→Shared→Prop} {s:Shared}
theorem wpS_bins {st:SortSt}{lo n ok:Nat}{Q:Bool→SortSt→Prop}(hO:κ.OneLt)(hB:TB st)(g:∀ x∈(arrOf st).toList,Gd κ x)(hn:lo+n≤(arrOf st).size)(hok:ok≤n)(hs:SrI κ (arrOf st) lo (lo+ok))
  (h:∀ st',Rs κ lo (lo+n) st st'→SrI κ (arrOf st') lo (lo+n)→Q true st'):wpS (model prog w) A E s (binarySort' lo n ok) Q st:=by
 rw [binarySort'_eq]
 refine wpS_bind (wpS_mono (wpS_forRange (I:=fun y c st'=>c=(none,())∧Rs κ lo (lo+n) st st'∧SrI κ (arrOf st') lo (lo+min y n))
  (Q:=fun c st'=>c=(none,())∧Rs κ lo (lo+n) st st'∧SrI κ (arrOf st') lo (lo+n)) ?step ?fin ?init) ?post)
 case post =>
  rintro c st' ⟨rfl,R,hs'⟩
  exact wpS_pure (h st' R hs')
 case init =>
  refine ⟨rfl,.refl hB g,fun i j hi hij hj=>?_⟩
  by_cases e:i=j
  ·subst e;exact KeyOrd.kle_refl _
  ·exact hs i j hi hij (by omega)
 case fin =>
  rintro c st' ⟨hc,R,hs'⟩
  rw [show min (max (max ok 1) n) n=n by omega] at hs'
  exact ⟨hc,R,hs'⟩
 case step =>
  rintro y c st' hy1 hy2 ⟨rfl,R,hs'⟩
  have hz:=R.rp.size
  rw [show min y n=y by omega] at hs'
  refine wpS_bind (wpS_mono (wpS_forRange (I:=fun x c st''=>st''=st'∧∃ l r,c=(none,l,r)∧l≤r∧r≤y∧r - l≤y - x ∧
    (∀ i,lo≤i→i < lo+l→κ.kle (KK κ (arrOf st') i) (KK κ (arrOf st') (lo+y)))∧(∀ i,lo+r≤i→i < lo+y→κ.klt (KK κ (arrOf st') (lo+y)) (KK κ (arrOf st') i)))
   (Q:=fun c st''=>st''=st'∧∃ l r,c=(none,l,r)∧l≤y ∧
    (∀ i,lo≤i→i < lo+l→κ.kle (KK κ (arrOf st') i) (KK κ (arrOf st') (lo+y)))∧(∀ i,lo+l≤i→i < lo+y→κ.klt (KK κ (arrOf st') (lo+y)) (KK κ (arrOf st') i))) ?istep ?ifin ?iinit) ?ipost)
  case iinit=>exact ⟨rfl,0,y,rfl,by omega,by omega,by omega,fun i h1 h2=>by omega,fun i h1 h2=>by omega⟩
  case ifin =>
   rintro c st'' ⟨rfl,l,r,rfl,q1,q2,q3,q4,q5⟩
   have:l=r:=by omega
   subst this
   exact ⟨rfl,l,l,rfl,q2,q4,q5⟩
  case istep =>
   rintro x c st'' _ hx ⟨rfl,l,r,rfl,q1,q2,q3,q4,q5⟩
   dsimp only
   by_cases hge:l≥r
   ·refine zak hge ?_
    have:l=r:=by omega
    subst this
    exact wpS_pure ⟨rfl,l,l,rfl,q2,q4,q5⟩
   ·refine zal hge ?_
    refine wpS_bind (zdi hO R.tb R.gd (by omega) (by omega) ?_)
    cases e:κ.blt (KK κ (arrOf st'') (lo+y)) (KK κ (arrOf st'') (lo+(l+r) / 2)) with
    | true =>
     simp only [if_true]
     refine wpS_pure ⟨rfl,l,(l+r) / 2,rfl,by omega,by omega,by omega,q4,fun i h1 h2=>?_⟩
     exact KeyOrd.klt_of_klt_of_kle e (hs' _ _ (by omega) h1 h2)
    | false =>
     simp only [Bool.false_eq_true,if_false]
     refine wpS_pure ⟨rfl,(l+r) / 2+1,r,rfl,by omega,by omega,by omega,fun i h1 h2=>?_,q5⟩
     exact KeyOrd.kle_trans (hs' i (lo+(l+r) / 2) h1 (by omega) (by omega)) (show κ.kle _ _ from e)
  case ipost =>
   rintro c st'' ⟨rfl,l,r,rfl,hl,q4,q5⟩
   show wpS _ _ _ _ (do moveDown' (lo+y) (lo+l);pure (ForInStep.yield (none,()))) _ _
   rw [moveDown'_eq]
   have hk:lo+y < (arrOf st'').size:=by omega
   refine wpS_bind (wpS_modify (wpS_pure ⟨rfl,R.arr (Rp.bubble (by omega) (by omega) hk),?_⟩))
   rw [show min (y+1) n=y+1 by omega]
   intro i j hi hij hj
   show κ.kle (KK κ (bubble (arrOf st'') (lo+y) (lo+y - (lo+l))) i) (KK κ (bubble (arrOf st'') (lo+y) (lo+y - (lo+l))) j)
   rw [KK_bubble hk (by omega),KK_bubble hk (by omega),show lo+y - (lo+y - (lo+l))=lo+l by omega]
   repeat' split
   all_goals first
    | (exfalso;omega)
    | exact KeyOrd.kle_refl _
    | exact q4 _ (by omega) (by omega)
    | exact KeyOrd.kle_of_klt (q5 _ (by omega) (by omega))
    | exact hs' _ _ (by omega) (by omega) (by omega)
end
theorem put_all:∀ (r:List Keyed) (z b:Nat) (arr:Array Keyed) (X Y Z:List Keyed),arr.toList=X++(Y++Z)→X.length=z+b→Y.length=r.length →
  ((r.zipIdx b).foldl (fun a (p,j)=>a.setIfInBounds (z+j) p) arr).toList=X++(r++Z)
 | [],z,b,arr,X,Y,Z,e,h1,h2=>by
  rw [List.length_eq_zero_iff.mp h2] at e
  exact e
 | p::r,z,b,arr,X,Y,Z,e,h1,h2=>by
  cases Y with
  | nil=>simp at h2
  | cons y Y =>
   rw [List.zipIdx_cons,List.foldl_cons]
   have:=put_all r z (b+1) (arr.setIfInBounds (z+b) p) (X++[p]) Y Z (by
    rw [Array.toList_setIfInBounds,e,← h1,List.set_append_right _ _ (Nat.le_refl _),Nat.sub_self]
    simp) (by simp [h1];omega) (by simpa using h2)
   rw [this]
   simp
noncomputable def mAt (i:Nat):StateT SortSt Sem Bool:=do
 let u ← get
 let (some (za,la,pw),some (zb,lb,_)):=((pendingOf u)[i]?,(pendingOf u)[i+1]?) | unsupported "internal:list.sort.pending"
 set (setPending u (((pendingOf u).setIfInBounds i (za,la+lb,pw)).eraseIdxIfInBounds (i+1)))
 let some c ← gal false (← elem' (arrOf u) zb) (arrOf u) za la 0 | return false
 let (za,la):=(za+c,la - c)
 if la == 0 then return true
 let some lb ← gal true (← elem' (arrOf u) (za+la - 1)) (arrOf u) zb lb (lb - 1) | return false
 if lb == 0 then return true
 let x:=(arrOf u).extract za zb
 let y:=(arrOf u).extract zb (zb+lb)
 let out ← if la≤lb then mlo x y else mhi x y
 modify fun v=>setArr v (out.toList.zipIdx.foldl (fun a (p,j)=>a.setIfInBounds (za+j) p) (arrOf v))
 return (failedOf (← get)).isNone
theorem mAt_eq (i:Nat):mergeAt' i=mAt i:=rfl
end Ts
namespace Ts
open PySem PyProof.Rows
variable {κ:KeyKind}
theorem Lel.sym_take {l:List Keyed}(h:Srt κ l)(i:Nat):Lel κ (l.take i) (l.drop i):=by
 have:Srt κ (l.take i++l.drop i):=by rw [List.take_append_drop];exact h
 exact (srt_app.mp this).2.2
theorem Lel.memL {l l' m:List Keyed}(h:Lel κ l m)(hs:∀ x∈l',x∈l):Lel κ l' m:=fun x hx y hy=>h x (hs x hx) y hy
theorem Lel.memR {l m m':List Keyed}(h:Lel κ l m)(hs:∀ x∈m',x∈m):Lel κ l m':=fun x hx y hy=>h x hx y (hs y hy)
theorem Lel.mid {l m:List Keyed}{x:Keyed}(h:Lel κ l [x])(g:Lel κ [x] m):Lel κ l m:=fun a ha b hb=>zdd (h a ha x (List.mem_singleton.mpr rfl)) (g x (List.mem_singleton.mpr rfl) b hb)
theorem zf1 {l:List Keyed}{x:Keyed}(h:Srt κ l)(e:l[0]? = some x):Lel κ [x] l:=fun a ha y hy=>by
 rw [List.mem_singleton] at ha
 subst ha
 obtain ⟨i,hi⟩:=List.getElem?_of_mem hy
 exact h.at (Nat.zero_le _) e hi
theorem last_le {l:List Keyed}{x:Keyed}(h:Srt κ l)(e:l[l.length - 1]? = some x):Lel κ l [x]:=fun a ha y hy=>by
 rw [List.mem_singleton] at hy
 subst hy
 obtain ⟨i,hi⟩:=List.getElem?_of_mem ha
 have:=(List.getElem?_eq_some_iff.mp hi).1
 exact h.at (by omega) hi e
theorem lel_app {l m n:List Keyed}:Lel κ (l++m) n ↔ Lel κ l n∧Lel κ m n :=
 ⟨fun h=>⟨h.memL fun x hx=>List.mem_append_left _ hx,h.memL fun x hx=>List.mem_append_right _ hx⟩,fun h x hx=>(List.mem_append.mp hx).elim (h.1 x) (h.2 x)⟩
theorem lel_app' {l m n:List Keyed}:Lel κ l (m++n) ↔ Lel κ l m∧Lel κ l n :=
 ⟨fun h=>⟨h.memR fun x hx=>List.mem_append_left _ hx,h.memR fun x hx=>List.mem_append_right _ hx⟩,fun h x hx y hy=>(List.mem_append.mp hy).elim (h.1 x hx y) (h.2 x hx y)⟩
theorem mg_mid {A B r:List Keyed}{c m:Nat}{b0 al:Keyed}(sA:Srt κ A)(sB:Srt κ B)(e0:B[0]? = some b0)(el:A[A.length - 1]? = some al)
  (h1:Lel κ (A.take c) [b0]) (h2:Lel κ [al] (B.drop m)) (M:Mg κ (A.drop c) (B.take m) r):Mg κ A B (A.take c++(r++B.drop m)):=by
 have mm:∀ x,x∈r ↔ x∈A.drop c++B.take m:=fun x=>M.1.mem_iff
 refine ⟨?_,srt_app.mpr ⟨sA.take c,srt_app.mpr ⟨M.2,sB.drop m,?_⟩,lel_app'.mpr ⟨?_,?_⟩⟩⟩
 ·have:(A.take c++(r++B.drop m)).Perm (A.take c++((A.drop c++B.take m)++B.drop m)):=List.Perm.append_left _ (M.1.append_right _)
  refine this.trans (List.Perm.of_eq ?_)
  rw [List.append_assoc,← List.append_assoc,List.take_append_drop,List.take_append_drop]
 ·refine Lel.memL (l:=A.drop c++B.take m) (lel_app.mpr ⟨?_,Lel.sym_take sB m⟩) fun x hx=>(mm x).mp hx
  exact Lel.mid ((last_le sA el).memL fun x hx=>List.mem_of_mem_drop hx) h2
 ·refine Lel.memR (m:=A.drop c++B.take m) (lel_app'.mpr ⟨Lel.sym_take sA c,?_⟩) fun x hx=>(mm x).mp hx
  exact Lel.mid h1 ((zf1 sB e0).memR fun x hx=>List.mem_of_mem_take hx)
 ·exact Lel.mid h1 ((zf1 sB e0).memR fun x hx=>List.mem_of_mem_drop hx)
section
variable {prog:Program} {w:World} {A:Around} {E:Value→Shared→Prop} {s:Shared}
theorem wpS_put {st u:SortSt}{Q:PUnit→SortSt→Prop}(h:Q ⟨⟩ u):wpS (model prog w) A E s (set u:StateT SortSt Sem PUnit) Q st:=by
 unfold wpS
 rw [StateT.run_set]
 exact wpAny_pure ⟨rfl,h⟩
theorem zij {st:SortSt}{lf:Bool}{key:Keyed}{arr:Array Keyed}{P M S:List Keyed}{z n h:Nat}{Q:Option Nat→SortSt→Prop}(hO:κ.OneLt)(hB:TB st)(hk:Gd κ key)(hg:∀ x∈arr.toList,Gd κ x)(ea:arr.toList=P++(M++S))(lp:P.length=z)(ln:M.length=n)(sa:Srt κ M)(hh:h < n)
  (hq:∀ k,k≤n→(∀ x∈M.take k,bdB κ lf (kof κ key) (kof κ x)=true)→(∀ x∈M.drop k,bdB κ lf (kof κ key) (kof κ x)=false)→Q (some k) st) :
  wpS (model prog w) A E s (gal lf key arr z n h) Q st:=by
 have ga:∀ i,i < n→arr[z+i]? = M[i]?:=fun i hi=>by
  rw [← Array.getElem?_toList,ea,List.getElem?_append_right (by omega),List.getElem?_append_left (by omega)]
  congr 1
  omega
 have gm:∀ x∈M,Gd κ x:=fun x hx=>hg x (by rw [ea];exact List.mem_append_right _ (List.mem_append_left _ hx))
 refine zhn hO hB hk (fun t=>match M[t]? with | some p=>bdB κ lf (kof κ key) (kof κ p) | none=>false) hh (fun t ht=>?_) (fun t u htu hu hb=>?_) (fun k hk' h1 h2=>hq k hk' (fun x hx=>?_) fun x hx=>?_)
 ·have hlt:t < M.length:=by omega
  have e:=List.getElem?_eq_getElem hlt
  exact ⟨M[t],by rw [ga t ht,e],gm _ (List.getElem_mem _),by rw [e]⟩
 ·have e1:=List.getElem?_eq_getElem (l:=M) (i:=t) (by omega)
  have e2:=List.getElem?_eq_getElem (l:=M) (i:=u) (by omega)
  rw [e1]
  rw [e2] at hb
  have le:=sa.at htu e1 e2
  dsimp only at hb ⊢
  cases lf with
  | true=>exact KeyOrd.klt_of_kle_of_klt le hb
  | false =>
   have le2:=zdd le (zdy hb)
   show (!κ.blt _ _)=true
   rw [show κ.blt (kof κ key) (kof κ M[t])=false from le2]
   rfl
 ·obtain ⟨i,hi⟩:=List.getElem?_of_mem hx
  have l1:=(List.getElem?_eq_some_iff.mp hi).1
  rw [List.length_take] at l1
  rw [List.getElem?_take_of_lt (by omega)] at hi
  have:=h1 i (by omega)
  rw [hi] at this
  exact this
 ·obtain ⟨i,hi⟩:=List.getElem?_of_mem hx
  rw [List.getElem?_drop] at hi
  have l1:=(List.getElem?_eq_some_iff.mp hi).1
  have:=h2 (k+i) (by omega) (by omega)
  rw [hi] at this
  exact this
theorem ext_mid {arr:Array Keyed}{P M S:List Keyed}{i j:Nat}(e:arr.toList=P++(M++S))(h1:P.length=i)(h2:j=i+M.length):(arr.extract i j).toList=M:=by
 rw [Array.toList_extract,e,List.extract_eq_drop_take,← h1,List.drop_left,h2,← h1,Nat.add_sub_cancel_left,List.take_left]
theorem wpS_mat {st:SortSt}{i z na nb pw pw2:Nat}{P Aa B S:List Keyed}{Q:Bool→SortSt→Prop}(hO:κ.OneLt)(hB:TB st)(g:∀ x∈(arrOf st).toList,Gd κ x)(e1:(pendingOf st)[i]? = some (z,na,pw))(e2:(pendingOf st)[i+1]? = some (z+na,nb,pw2))
  (ea:(arrOf st).toList=P++(Aa++(B++S))) (lp:P.length=z) (la:Aa.length=na) (lb:B.length=nb) (h0:0 < na) (h1:0 < nb) (sA:Srt κ Aa) (sB:Srt κ B)
  (h:∀ st' R,TB st'→pendingOf st'=((pendingOf st).setIfInBounds i (z,na+nb,pw)).eraseIdxIfInBounds (i+1)→(arrOf st').toList=P++(R++S)→Mg κ Aa B R→Q true st'):wpS (model prog w) A E s (mergeAt' i) Q st:=by
 have eb:(arrOf st).toList=(P++Aa)++(B++S):=by rw [ea,List.append_assoc]
 rw [mAt_eq]
 unfold mAt
 refine wpS_bind (wpS_get ?_)
 rw [e1,e2]
 dsimp only
 refine wpS_bind (wpS_put ?_)
 have hB':TB (setPending st (((pendingOf st).setIfInBounds i (z,na+nb,pw)).eraseIdxIfInBounds (i+1))):=⟨hB.kind,hB.failed⟩
 generalize hst':setPending st (((pendingOf st).setIfInBounds i (z,na+nb,pw)).eraseIdxIfInBounds (i+1))=st' at hB' ⊢
 have hp':pendingOf st'=((pendingOf st).setIfInBounds i (z,na+nb,pw)).eraseIdxIfInBounds (i+1):=by rw [← hst']
 have har:arrOf st'=arrOf st:=by rw [← hst']
 obtain ⟨b0,eb0⟩:∃ b0,B[0]? = some b0:=⟨_,List.getElem?_eq_getElem (by omega)⟩
 obtain ⟨al,eal⟩:∃ al,Aa[Aa.length - 1]? = some al:=⟨_,List.getElem?_eq_getElem (by omega)⟩
 have gA:∀ x∈Aa,Gd κ x:=fun x hx=>g x (by rw [ea];simp [hx])
 have gB:∀ x∈B,Gd κ x:=fun x hx=>g x (by rw [ea];simp [hx])
 have x0:(arrOf st).toList[z+na]? = some b0:=by
  rw [eb,List.getElem?_append_right (by simp;omega),List.getElem?_append_left (by simp;omega)]
  rw [show z+na - (P++Aa).length=0 by simp;omega]
  exact eb0
 have xl:(arrOf st).toList[z+na - 1]? = some al:=by
  rw [ea,List.getElem?_append_right (by omega),List.getElem?_append_left (by omega)]
  rw [show z+na - 1 - P.length=Aa.length - 1 by omega]
  exact eal
 refine wpS_bind (za1 x0 ?_)
 refine wpS_bind (zij hO hB' (gB b0 (List.mem_of_getElem? eb0)) g ea lp la sA h0 fun c hc t1 t2=>?_)
 dsimp only
 have k1:Lel κ (Aa.take c) [b0]:=fun x hx y hy=>by
  rw [List.mem_singleton] at hy
  subst hy
  exact zdy (t1 x hx)
 have k2:Lel κ [b0] (Aa.drop c):=fun x hx y hy=>by
  rw [List.mem_singleton] at hx
  subst hx
  exact zep (t2 y hy)
 by_cases hc0:na - c=0
 ·refine zak (by simpa using hc0) ?_
  have:Aa.take c=Aa:=List.take_of_length_le (by omega)
  rw [this] at k1
  exact wpS_pure (h st' (Aa++B) hB' hp' (by rw [har,ea,List.append_assoc]) ⟨List.Perm.refl _,srt_app.mpr ⟨sA,sB,k1.mid (zf1 sB eb0)⟩⟩)
 ·refine zal (by simpa using hc0) ?_
  rw [show z+c+(na - c) - 1=z+na - 1 by omega]
  refine wpS_bind (za1 xl ?_)
  refine wpS_bind (zij hO hB' (gA al (List.mem_of_getElem? eal)) g eb (by simp;omega) lb sB (by omega) fun m hm u1 u2=>?_)
  dsimp only
  have k3:Lel κ (B.take m) [al]:=fun x hx y hy=>by
   rw [List.mem_singleton] at hy
   subst hy
   exact zho (u1 x hx)
  have k4:Lel κ [al] (B.drop m):=fun x hx y hy=>by
   rw [List.mem_singleton] at hx
   subst hx
   exact zfz (u2 y hy)
  by_cases hm0:m=0
  ·refine zak (by simpa using hm0) ?_
   subst hm0
   exact wpS_pure (h st' (Aa++B) hB' hp' (by rw [har,ea,List.append_assoc]) ⟨List.Perm.refl _,srt_app.mpr ⟨sA,sB,(last_le sA eal).mid k4⟩⟩)
  ·refine zal (by simpa using hm0) ?_
   have ec:(arrOf st).toList=(P++Aa.take c)++(Aa.drop c++(B++S)):=by
    rw [ea]
    conv=>lhs;rw [← List.take_append_drop c Aa]
    simp only [List.append_assoc]
   have ed:(arrOf st).toList=(P++Aa)++(B.take m++(B.drop m++S)):=by
    rw [eb]
    conv=>lhs;rw [← List.take_append_drop m B]
    simp only [List.append_assoc]
   have ex:((arrOf st).extract (z+c) (z+na)).toList=Aa.drop c:=ext_mid ec (by simp;omega) (by simp;omega)
   have ey:((arrOf st).extract (z+na) (z+na+m)).toList=B.take m:=ext_mid ed (by simp;omega) (by simp;omega)
   have sx:((arrOf st).extract (z+c) (z+na)).size=na - c:=by rw [← Array.length_toList,ex];simp;omega
   have sy:((arrOf st).extract (z+na) (z+na+m)).size=m:=by rw [← Array.length_toList,ey];simp;omega
   generalize (arrOf st).extract (z+c) (z+na)=x at ex sx ⊢
   generalize (arrOf st).extract (z+na) (z+na+m)=y at ey sy ⊢
   have ga:∀ t∈x.toList,Gd κ t:=fun t ht=>gA t (by rw [ex] at ht;exact List.mem_of_mem_drop ht)
   have gb:∀ t∈y.toList,Gd κ t:=fun t ht=>gB t (by rw [ey] at ht;exact List.mem_of_mem_take ht)
   have sx':Srt κ x.toList:=by rw [ex];exact sA.drop c
   have sy':Srt κ y.toList:=by rw [ey];exact sB.take m
   have y0:y.toList[0]? = some b0:=by rw [ey,List.getElem?_take_of_lt (by omega)];exact eb0
   have xn:x.toList[x.size - 1]? = some al:=by
    rw [ex,List.getElem?_drop,sx,show c+(na - c - 1)=Aa.length - 1 by omega]
    exact eal
   have fin:∀ (r:Array Keyed) (st2:SortSt),Ok st' st2→Mg κ x.toList y.toList r.toList→wpS (model prog w) A E s (do
     modify fun v=>setArr v (r.toList.zipIdx.foldl (fun a (p,j)=>a.setIfInBounds (z+c+j) p) (arrOf v))
     return (failedOf (← get)).isNone:StateT SortSt Sem Bool) Q st2:=fun r st2 ok M=>by
    rw [ex,ey] at M
    have lr:r.toList.length=(Aa.drop c++B.take m).length:=M.1.length_eq
    refine wpS_bind (wpS_modify ?_)
    refine wpS_bind (wpS_get ?_)
    refine wpS_pure ?_
    have hf:failedOf (setArr st2 (r.toList.zipIdx.foldl (fun a (p,j)=>a.setIfInBounds (z+c+j) p) (arrOf st2)))=none:=ok.tb.failed
    rw [hf]
    refine h _ (Aa.take c++(r.toList++B.drop m)) ⟨ok.tb.kind,ok.tb.failed⟩ (ok.pd.trans hp') ?_ (mg_mid sA sB eb0 eal k1 k4 M)
    show (r.toList.zipIdx.foldl (fun a (p,j)=>a.setIfInBounds (z+c+j) p) (arrOf st2)).toList=_
    rw [put_all r.toList (z+c) 0 (arrOf st2) (P++Aa.take c) (Aa.drop c++B.take m) (B.drop m++S) (by
     rw [ok.ar,har,ea]
     conv=>lhs;rw [← List.take_append_drop c Aa,← List.take_append_drop m B]
     simp only [List.append_assoc]) (by simp;omega) lr.symm]
    simp only [List.append_assoc]
   by_cases hle:na - c≤m
   ·refine zak hle ?_
    refine wpS_bind (wpS_mlo hO hB' ga gb sx' sy' (by omega) (by omega) (fun p q hp hq=>?_) (fun t ht=>?_) fun r st2 ok M=>fin r st2 ok M)
    ·rw [y0] at hq
     cases hq
     rw [ex] at hp
     exact k2 _ (List.mem_singleton.mpr rfl) _ (List.mem_of_getElem? hp)
    ·rw [xn] at ht
     cases ht
     rw [ey]
     exact k3
   ·refine zal hle ?_
    refine wpS_bind (wpS_mhi hO hB' ⟨ga,gb,sx',sy',fun t ht=>?_⟩ (by omega) (by omega) (fun t ht=>?_) fun r st2 ok M=>fin r st2 ok M)
    ·rw [y0] at ht
     cases ht
     rw [ex]
     exact k2
    ·rw [xn] at ht
     cases ht
     rw [ey]
     exact k3
end
end Ts
namespace Ts
open PySem PyProof.Rows
variable {κ:KeyKind}
noncomputable def PdL (κ:KeyKind):Nat→List (Nat × Nat × Nat)→List (List Keyed)→Prop
 | _,[],[]=>True
 | z,p::ps,r::rs=>p.1=z∧p.2.1=r.length∧0 < r.length∧Srt κ r∧PdL κ (z+r.length) ps rs
 | _,_,_=>False
theorem PdL.app:∀ {p q:List (Nat × Nat × Nat)} {z:Nat} {rs:List (List Keyed)},PdL κ z (p++q) rs→∃ r1 r2,rs=r1++r2∧r1.length=p.length∧PdL κ z p r1∧PdL κ (z+r1.flatten.length) q r2
 | [],q,z,rs,h=>⟨[],rs,rfl,rfl,trivial,h⟩
 | _::_,q,z,[],h=>h.elim
 | _::p,q,z,r::rs,h=>by
  obtain ⟨a1,a2,a3,a4,a5⟩:=h
  obtain ⟨r1,r2,e,l,b1,b2⟩:=PdL.app a5
  refine ⟨r::r1,r2,by rw [e];rfl,by simp [l],⟨a1,a2,a3,a4,b1⟩,?_⟩
  rw [List.flatten_cons,List.length_append,← Nat.add_assoc]
  exact b2
theorem PdL.join:∀ {p q:List (Nat × Nat × Nat)} {z:Nat} {r1 r2:List (List Keyed)},PdL κ z p r1→PdL κ (z+r1.flatten.length) q r2→PdL κ z (p++q) (r1++r2)
 | [],q,z,[],r2,_,h=>h
 | [],q,z,_::_,r2,h,_=>h.elim
 | _::_,q,z,[],r2,h,_=>h.elim
 | _::p,q,z,r::r1,r2,h,g=>by
  obtain ⟨a1,a2,a3,a4,a5⟩:=h
  rw [List.flatten_cons,List.length_append,← Nat.add_assoc] at g
  exact ⟨a1,a2,a3,a4,PdL.join a5 g⟩
theorem PdL.len:∀ {p:List (Nat × Nat × Nat)} {z:Nat} {rs:List (List Keyed)},PdL κ z p rs→p.length≤rs.flatten.length
 | [],z,[],_=>Nat.zero_le _
 | [],z,_::_,h=>h.elim
 | _::_,z,[],h=>h.elim
 | _::p,z,r::rs,h=>by
  obtain ⟨a1,a2,a3,a4,a5⟩:=h
  have:=PdL.len a5
  rw [List.flatten_cons,List.length_append,List.length_cons]
  omega
theorem PdL.same:∀ {p q:List (Nat × Nat × Nat)} {z:Nat} {rs:List (List Keyed)},PdL κ z p rs→q.map (fun t=>(t.1,t.2.1))=p.map (fun t=>(t.1,t.2.1))→PdL κ z q rs
 | [],[],z,rs,h,_=>h
 | [],_::_,z,rs,_,e=>by simp at e
 | _::_,[],z,rs,_,e=>by simp at e
 | _::_,_::_,z,[],h,_=>h.elim
 | x::p,y::q,z,r::rs,h,e=>by
  obtain ⟨a1,a2,a3,a4,a5⟩:=h
  simp only [List.map_cons,List.cons.injEq,Prod.mk.injEq] at e
  exact ⟨e.1.1.trans a1,e.1.2.trans a2,a3,a4,PdL.same a5 e.2⟩
theorem map_mod {f:Nat × Nat × Nat→Nat × Nat × Nat}(hf:∀ t,(f t).1=t.1∧(f t).2.1=t.2.1):∀ (l:List (Nat × Nat × Nat)) (i:Nat),(l.modify i f).map (fun t=>(t.1,t.2.1))=l.map (fun t=>(t.1,t.2.1))
 | [],i=>by cases i <;> rfl
 | x::l,0=>by
  show ((f x).1,(f x).2.1)::_=_
  rw [(hf x).1,(hf x).2]
  rfl
 | x::l,i+1=>by
  show (x.1,x.2.1)::(l.modify i f).map _=_
  rw [map_mod hf l i]
  rfl
theorem kk_kof {xs:Array Keyed}{i:Nat}{x:Keyed}(h:xs.toList[i]? = some x):KK κ xs i=kof κ x:=by
 rw [Array.getElem?_toList] at h
 unfold KK kof
 rw [h]
structure Iv (κ:KeyKind) (a0:Array Keyed) (st:SortSt) (lo:Nat):Prop where
 tb:TB st
 pm:(arrOf st).Perm a0
 ex:∃ rs T,(arrOf st).toList=rs.flatten++T∧rs.flatten.length=lo∧PdL κ 0 (pendingOf st).toList rs
theorem Iv.gd {a0:Array Keyed}{st:SortSt}{lo:Nat}(I:Iv κ a0 st lo)(h0:KeysOf κ a0):∀ x∈(arrOf st).toList,Gd κ x:=fun x hx=>h0 x ((Array.perm_iff_toList_perm.mp I.pm).mem_iff.mp hx)
theorem Iv.part {a0:Array Keyed}{st st':SortSt}{lo hi:Nat}(I:Iv κ a0 st lo)(R:Rs κ lo hi st st'):Iv κ a0 st' lo:=by
 obtain ⟨rs,T,e,l,p⟩:=I.ex
 refine ⟨R.tb,R.rp.pm.trans I.pm,rs,(arrOf st').toList.drop lo,?_,l,by rw [R.pd];exact p⟩
 have:(arrOf st').toList.take lo=rs.flatten:=by
  have e2:(arrOf st).toList.take lo=rs.flatten:=by rw [e,← l,List.take_left]
  rw [← e2]
  apply List.ext_getElem?
  intro k
  by_cases hk:k < lo
  ·rw [List.getElem?_take_of_lt hk,List.getElem?_take_of_lt hk,Array.getElem?_toList,Array.getElem?_toList,R.rp.out k (.inl hk)]
  ·rw [List.getElem?_eq_none (by rw [List.length_take];omega),List.getElem?_eq_none (by rw [List.length_take];omega)]
 rw [← this,List.take_append_drop]
theorem Iv.mod {a0:Array Keyed}{st:SortSt}{lo i:Nat}(I:Iv κ a0 st lo){f:Nat × Nat × Nat→Nat × Nat × Nat}(hf:∀ t,(f t).1=t.1∧(f t).2.1=t.2.1):Iv κ a0 (setPending st ((pendingOf st).modify i f)) lo:=by
 obtain ⟨rs,T,e,l,p⟩:=I.ex
 refine ⟨⟨I.tb.kind,I.tb.failed⟩,I.pm,rs,T,e,l,?_⟩
 show PdL κ 0 ((pendingOf st).modify i f).toList rs
 rw [Array.toList_modify]
 exact p.same (map_mod hf _ _)
theorem Iv.push {a0:Array Keyed}{st:SortSt}{lo n w:Nat}(I:Iv κ a0 st lo)(hn:0 < n)(hz:lo+n≤(arrOf st).size)(hs:SrI κ (arrOf st) lo (lo+n)):Iv κ a0 (setPending st ((pendingOf st).push (lo,n,w))) (lo+n):=by
 obtain ⟨rs,T,e,l,p⟩:=I.ex
 have lT:lo+T.length=(arrOf st).size:=by rw [← Array.length_toList,e,List.length_append,l]
 have ln:(T.take n).length=n:=by rw [List.length_take];omega
 have at_:∀ i x,T[i]? = some x→KK κ (arrOf st) (lo+i)=kof κ x:=fun i x hx=>kk_kof (by rw [e,List.getElem?_append_right (by omega),← l,Nat.add_sub_cancel_left];exact hx)
 refine ⟨⟨I.tb.kind,I.tb.failed⟩,I.pm,rs++[T.take n],T.drop n,?_,?_,?_⟩
 ·show (arrOf st).toList=_
  rw [e,List.flatten_append,List.flatten_singleton,List.append_assoc,List.take_append_drop]
 ·rw [List.flatten_append,List.flatten_singleton,List.length_append,l,ln]
 ·show PdL κ 0 ((pendingOf st).push (lo,n,w)).toList _
  rw [Array.toList_push]
  refine PdL.join p ⟨by rw [l];omega,ln.symm,by omega,?_,trivial⟩
  refine List.pairwise_iff_getElem.mpr fun i j hi hj hij=>?_
  rw [List.length_take] at hi hj
  rw [List.getElem_take,List.getElem_take]
  have:=hs (lo+i) (lo+j) (by omega) (by omega) (by omega)
  rw [at_ i _ (List.getElem?_eq_getElem (by omega)),at_ j _ (List.getElem?_eq_getElem (by omega))] at this
  exact this
theorem two_at {l:List (Nat × Nat × Nat)}{i:Nat}(h:i+1 < l.length):∃ p x y q,l=p++x::y::q∧p.length=i:=by
 refine ⟨l.take i,l[i],l[i+1],l.drop (i+2),?_,by rw [List.length_take];omega⟩
 conv=>lhs;rw [← List.take_append_drop i l]
 rw [List.drop_eq_getElem_cons (by omega),List.drop_eq_getElem_cons h]
section
variable {prog:Program} {w:World} {A:Around} {E:Value→Shared→Prop} {s:Shared}
theorem zeq {a0:Array Keyed}{st:SortSt}{lo i:Nat}{Q:Bool→SortSt→Prop}(hO:κ.OneLt)(h0:KeysOf κ a0)(I:Iv κ a0 st lo)(hi:i+1 < (pendingOf st).size)
  (h:∀ st',Iv κ a0 st' lo→(pendingOf st').size+1=(pendingOf st).size→(∀ k,lo≤k→(arrOf st')[k]? = (arrOf st)[k]?)→Q true st'):wpS (model prog w) A E s (mergeAt' i) Q st:=by
 obtain ⟨rs,T,e,l,p⟩:=I.ex
 obtain ⟨p1,x,y,p2,ep,lp⟩:=two_at (l:=(pendingOf st).toList) (i:=i) (by rw [Array.length_toList];exact hi)
 rw [ep] at p
 obtain ⟨r1,r2,er,_,P1,P2⟩:=p.app
 match r2,P2,er with
 | A1::B1::r2,P2,er =>
  obtain ⟨x1,x2,x3,x4,y1,y2,y3,y4,P3⟩:=P2
  obtain ⟨xa,xb,xc⟩:=x
  obtain ⟨ya,yb,yc⟩:=y
  dsimp only at x1 x2 y1 y2
  subst er
  have ea:(arrOf st).toList=r1.flatten++(A1++(B1++(r2.flatten++T))):=by
   rw [e]
   simp only [List.flatten_append,List.flatten_cons,List.append_assoc]
  have e1:(pendingOf st)[i]? = some (r1.flatten.length,A1.length,xc):=by
   rw [← Array.getElem?_toList,ep,List.getElem?_append_right (by omega),lp,Nat.sub_self,x1,x2,Nat.zero_add]
   rfl
  have e2:(pendingOf st)[i+1]? = some (r1.flatten.length+A1.length,B1.length,yc):=by
   rw [← Array.getElem?_toList,ep,List.getElem?_append_right (by omega),lp,Nat.add_sub_cancel_left,y1,y2,Nat.zero_add]
   rfl
  refine wpS_mat hO I.tb (I.gd h0) e1 e2 ea rfl rfl rfl x3 y3 x4 y4 fun st' R t1 t2 t3 M=>?_
  have lR:R.length=A1.length+B1.length:=by rw [M.1.length_eq,List.length_append]
  have ep':(pendingOf st').toList=p1++(r1.flatten.length,A1.length+B1.length,xc)::p2:=by
   rw [t2,Array.toList_eraseIdxIfInBounds,Array.toList_setIfInBounds,ep,List.set_append_right _ _ (by omega),List.eraseIdx_append_of_length_le (by omega),lp,Nat.sub_self,Nat.add_sub_cancel_left]
   rfl
  have eT:(arrOf st').toList=(r1++R::r2).flatten++T:=by
   rw [t3]
   simp only [List.flatten_append,List.flatten_cons,List.append_assoc]
  have lT:(r1++R::r2).flatten.length=lo:=by
   rw [← l]
   simp only [List.flatten_append,List.flatten_cons,List.length_append,lR]
   omega
  refine h st' ⟨t1,?_,r1++R::r2,T,eT,lT,?_⟩ ?_ fun k hk=>?_
  ·refine Array.Perm.trans (Array.perm_iff_toList_perm.mpr ?_) I.pm
   rw [t3,ea,← List.append_assoc A1]
   exact List.Perm.append_left _ (M.1.append_right _)
  ·rw [ep']
   refine PdL.join P1 ⟨by omega,lR.symm,by omega,M.2,?_⟩
   rw [lR,← Nat.add_assoc]
   exact P3
  ·rw [← Array.length_toList,← Array.length_toList,ep',ep]
   simp only [List.length_append,List.length_cons]
   omega
  ·rw [← Array.getElem?_toList,← Array.getElem?_toList,eT,e,List.getElem?_append_right (by omega),List.getElem?_append_right (by omega),lT,l]
theorem Iv.done {a0:Array Keyed}{st:SortSt}(I:Iv κ a0 st a0.size)(h:(pendingOf st).size≤1):SortedToK κ (arrOf st) a0.size:=by
 obtain ⟨rs,T,e,l,p⟩:=I.ex
 have hz:(arrOf st).toList.length=a0.size:=by rw [Array.length_toList];exact I.pm.size_eq
 have hT:T=[]:=List.length_eq_zero_iff.mp (by rw [e,List.length_append,l] at hz;omega)
 subst hT
 rw [List.append_nil] at e
 rw [← Array.length_toList] at h
 have sr:Srt κ (arrOf st).toList:=by
  rw [e]
  match (pendingOf st).toList,rs,p,h with
  | [],[],_,_=>exact List.Pairwise.nil
  | [_],[r],p,_=>rw [List.flatten_singleton];exact p.2.2.2.1
  | _::_::_,_,_,h=>simp at h
 intro i j hij hj
 have e1:=List.getElem?_eq_getElem (l:=(arrOf st).toList) (i:=i) (by omega)
 have e2:=List.getElem?_eq_getElem (l:=(arrOf st).toList) (i:=j) (by omega)
 rw [kk_kof e1,kk_kof e2]
 exact sr.at hij e1 e2
theorem wpS_runs {a0:Array Keyed}{st:SortSt}{Q:Unit→SortSt→Prop}(hO:κ.OneLt)(h0:KeysOf κ a0)(hB:SBase a0 st)
  (h:∀ st',(arrOf st').Perm a0→failedOf st'=none→SortedToK κ (arrOf st') a0.size→Q () st'):wpS (model prog w) A E s sortRuns' Q st:=by
 rw [sortRuns'_eq]
 refine wpS_bind (wpS_get ?_)
 dsimp only
 simp only [hB.size]
 refine wpS_bind (wpS_mono (wpS_forRange
  (I:=fun x c st'=>∃ lo,c=(none,lo)∧x≤lo∧lo≤a0.size∧Iv κ a0 st' lo)
  (Q:=fun c st'=>c=(none,a0.size)∧Iv κ a0 st' a0.size) ?step ?fin ⟨0,rfl,Nat.le_refl _,Nat.zero_le _,⟨hB.kind,hB.failed⟩,hB.perm,[],(arrOf st).toList,rfl,rfl,by rw [hB.pend];exact trivial⟩) ?post)
 case fin =>
  rintro c st' ⟨lo,rfl,h1,h2,I⟩
  have:lo=a0.size:=by omega
  subst this
  exact ⟨rfl,I⟩
 case step =>
  rintro x c st' hx1 hx2 ⟨lo,rfl,h1,h2,I⟩
  have hz:(arrOf st').size=a0.size:=I.pm.size_eq
  dsimp only
  by_cases hge:lo≥a0.size
  ·refine zak hge ?_
   have:lo=a0.size:=by omega
   subst this
   exact wpS_pure ⟨rfl,I⟩
  ·refine zal hge ?_
   refine wpS_bind (wpS_crun hO I.tb (I.gd h0) (by omega) (by omega) fun n st2 n1 n2 R s2=>?_)
   have I2:=I.part R
   have hz2:(arrOf st2).size=a0.size:=I2.pm.size_eq
   dsimp only
   by_cases hm:n < minRun' a0.size a0.size 0
   ·refine zak hm ?_
    refine wpS_bind (wpS_lift (wpAny_rule ⟨rfl,?_⟩))
    refine wpS_bind (wpS_bins hO I2.tb (I2.gd h0) (by omega) (by omega) s2 fun st3 R3 s3=>?_)
    simp only [Bool.not_true,Bool.false_eq_true,if_false]
    have M1:1≤(min (a0.size - lo) (minRun' a0.size a0.size 0)):=by omega
    have M2:lo+(min (a0.size - lo) (minRun' a0.size a0.size 0))≤a0.size:=by omega
    have IX:=I2.part R3
    have S3:=s3
    refine wpS_bind (wpS_get ?_)
    cases (pendingOf st3).back? with
    | none=>exact wpS_bind (wpS_modify (wpS_pure ⟨lo+(min (a0.size - lo) (minRun' a0.size a0.size 0)),rfl,by omega,M2,IX.push M1 (by rw [IX.pm.size_eq];exact M2) S3⟩))
    | some t =>
     obtain ⟨a,b,c⟩:=t
     dsimp only
     refine wpS_bind (wpS_mono (wpS_forRange (I:=fun _ c st3'=>c=(none,())∧Iv κ a0 st3' lo∧∀ k,lo≤k→(arrOf st3')[k]? = (arrOf st3)[k]?)
      (Q:=fun c st3'=>c=(none,())∧Iv κ a0 st3' lo∧∀ k,lo≤k→(arrOf st3')[k]? = (arrOf st3)[k]?) ?step1 (fun _ _ h=>h) ⟨rfl,IX,fun _ _=>rfl⟩) ?post1)
     case step1 =>
      rintro y c st3' _ _ ⟨rfl,Iw,kw⟩
      refine wpS_bind (wpS_get ?_)
      by_cases hz:(pendingOf st3').size > 1
      ·rw [if_pos hz]
       cases e:(pendingOf st3')[(pendingOf st3').size - 2]? with
       | none=>exact wpS_pure ⟨rfl,Iw,kw⟩
       | some t =>
        obtain ⟨a',b',c'⟩:=t
        dsimp only
        by_cases hp:c'≤power' a0.size (2*a+b) (2*a+b+b+(min (a0.size - lo) (minRun' a0.size a0.size 0))) a0.size
        ·refine zak hp ?_
         exact wpS_pure ⟨rfl,Iw,kw⟩
        ·refine zal hp ?_
         refine wpS_bind (zeq hO h0 Iw (by omega) fun stq Iq _ k2=>?_)
         simp only [Bool.not_true,Bool.false_eq_true,if_false]
         exact wpS_pure ⟨rfl,Iq,fun k hk=>(k2 k hk).trans (kw k hk)⟩
      ·rw [if_neg hz]
       exact wpS_pure ⟨rfl,Iw,kw⟩
     case post1 =>
      rintro c st3' ⟨rfl,Iw,kw⟩
      dsimp only
      refine wpS_bind (wpS_modify ?_)
      have J2:=Iw.mod (i:=(pendingOf st3').size - 1) (f:=fun t=>(t.1,t.2.1,power' a0.size (2*a+b) (2*a+b+b+(min (a0.size - lo) (minRun' a0.size a0.size 0))) a0.size)) fun t=>⟨rfl,rfl⟩
      refine wpS_bind (wpS_modify (wpS_pure ⟨lo+(min (a0.size - lo) (minRun' a0.size a0.size 0)),rfl,by omega,M2,J2.push M1 (by rw [J2.pm.size_eq];exact M2) fun i j hi hij hj=>?_⟩))
      show κ.kle (KK κ (arrOf st3') i) (KK κ (arrOf st3') j)
      rw [KK_congr (kw i (by omega)),KK_congr (kw j (by omega))]
      exact S3 i j hi hij hj
   ·refine zal hm ?_
    have M1:1≤n:=by omega
    have M2:lo+n≤a0.size:=by omega
    have IX:=I2
    have S3:=s2
    refine wpS_bind (wpS_get ?_)
    cases (pendingOf st2).back? with
    | none=>exact wpS_bind (wpS_modify (wpS_pure ⟨lo+n,rfl,by omega,M2,IX.push M1 (by rw [IX.pm.size_eq];exact M2) S3⟩))
    | some t =>
     obtain ⟨a,b,c⟩:=t
     dsimp only
     refine wpS_bind (wpS_mono (wpS_forRange (I:=fun _ c st2'=>c=(none,())∧Iv κ a0 st2' lo∧∀ k,lo≤k→(arrOf st2')[k]? = (arrOf st2)[k]?)
      (Q:=fun c st2'=>c=(none,())∧Iv κ a0 st2' lo∧∀ k,lo≤k→(arrOf st2')[k]? = (arrOf st2)[k]?) ?step2 (fun _ _ h=>h) ⟨rfl,IX,fun _ _=>rfl⟩) ?post2)
     case step2 =>
      rintro y c st2' _ _ ⟨rfl,Iw,kw⟩
      refine wpS_bind (wpS_get ?_)
      by_cases hz:(pendingOf st2').size > 1
      ·rw [if_pos hz]
       cases e:(pendingOf st2')[(pendingOf st2').size - 2]? with
       | none=>exact wpS_pure ⟨rfl,Iw,kw⟩
       | some t =>
        obtain ⟨a',b',c'⟩:=t
        dsimp only
        by_cases hp:c'≤power' a0.size (2*a+b) (2*a+b+b+n) a0.size
        ·refine zak hp ?_
         exact wpS_pure ⟨rfl,Iw,kw⟩
        ·refine zal hp ?_
         refine wpS_bind (zeq hO h0 Iw (by omega) fun stq Iq _ k2=>?_)
         simp only [Bool.not_true,Bool.false_eq_true,if_false]
         exact wpS_pure ⟨rfl,Iq,fun k hk=>(k2 k hk).trans (kw k hk)⟩
      ·rw [if_neg hz]
       exact wpS_pure ⟨rfl,Iw,kw⟩
     case post2 =>
      rintro c st2' ⟨rfl,Iw,kw⟩
      dsimp only
      refine wpS_bind (wpS_modify ?_)
      have J2:=Iw.mod (i:=(pendingOf st2').size - 1) (f:=fun t=>(t.1,t.2.1,power' a0.size (2*a+b) (2*a+b+b+n) a0.size)) fun t=>⟨rfl,rfl⟩
      refine wpS_bind (wpS_modify (wpS_pure ⟨lo+n,rfl,by omega,M2,J2.push M1 (by rw [J2.pm.size_eq];exact M2) fun i j hi hij hj=>?_⟩))
      show κ.kle (KK κ (arrOf st2') i) (KK κ (arrOf st2') j)
      rw [KK_congr (kw i (by omega)),KK_congr (kw j (by omega))]
      exact S3 i j hi hij hj
 case post =>
  rintro c st' ⟨rfl,I⟩
  dsimp only
  refine wpS_bind (wpS_mono (wpS_forRange (I:=fun x c st''=>c=(none,())∧Iv κ a0 st'' a0.size∧((pendingOf st'').size+x≤a0.size ∨ (pendingOf st'').size≤1))
   (Q:=fun c st''=>c=(none,())∧Iv κ a0 st'' a0.size∧(pendingOf st'').size≤1) ?_ ?_ ⟨rfl,I,?_⟩) ?_)
  ·rintro x c st'' _ hx ⟨rfl,I',hp⟩
   refine wpS_bind (wpS_get ?_)
   by_cases h1:(pendingOf st'').size≤1
   ·refine zak h1 ?_
    exact wpS_pure ⟨rfl,I',h1⟩
   ·refine zal h1 ?_
    refine wpS_bind (zeq hO h0 I' (have pick:∀ (b:Bool) (n:Nat),1 < n→(if b=true then n - 2 - 1 else n - 2)+1 < n:=(fun b n hn=>by cases b <;> simp <;> omega);pick _ _ (by omega)) fun st2 I2 z2 _=>?_)
    simp only [Bool.not_true,Bool.false_eq_true,if_false]
    exact wpS_pure ⟨rfl,I2,.inl (by omega)⟩
  ·rintro c st'' ⟨rfl,I',hp⟩
   exact ⟨rfl,I',by omega⟩
  ·obtain ⟨rs,T,e,l,p⟩:=I.ex
   have:=p.len
   rw [Array.length_toList,l] at this
   exact .inl (by omega)
  ·rintro c st'' ⟨rfl,I',hp⟩
   exact wpS_pure (h st'' I'.pm I'.tb.failed (I'.done hp))
end
end Ts
namespace Ts
open PySem PyProof.Rows
variable {κ:KeyKind}
section
variable {prog:Program} {w:World} {A:Around} {E:Value→Shared→Prop} {s:Shared}
theorem sort_any (hO:κ.OneLt){a:Addr}{its:List Value}{m:Nat}{P:Fin→Shared→Prop}(at_:s.heap.get? a=some (seqObj "list" its.toArray m))(g:KeysOf κ (pairsOf its))
  (one:∀ x y r,its=x::y::r→keyKind' (x::y::r).toArray=pure oneType') (lim:its.length≤sizeLine)
  (q:∀ st:SortSt,(arrOf st).Perm (pairsOf its)→SortedToK κ (arrOf st) (pairsOf its).size→P (.done (.ret .none)) { s with heap:=sortedHeap s.heap a its ((arrOf st).map (·.2)) }) :
  wpAny (model prog w) A (Builtin.«list.sort» ⟨[.ref a],[]⟩) P E s:=by
 have la:=Heap.lt_size at_
 have lz:its.toArray.size=its.length:=by simp
 rw [list_sort_plain]
 refine wpAny_bind (listItems_at at_ rfl (wpAny_bind (listUpdate_at at_ rfl ?_ (by rw [lz];exact lim))))
 obtain ⟨n1,at1⟩:∃ n1,(s.heap.update a (Obj.mapSeq fun _=>#[])).get? a=some (seqObj "list" #[] n1):=⟨_,get?_update_seq at_ fun _=>#[]⟩
 refine wpAny_bind (seqEpoch_at at1 rfl (wpAny_bind (wpAny_newTuple (wpAny_bind (wpAny_newList (wpAny_holding ?_))))))
 have at2:(((s.heap.update a (Obj.mapSeq fun _=>#[])).push (seqObj "tuple" its.toArray 0)).push (seqObj "list" #[] 0)).get? a=some (seqObj "list" #[] n1) :=
  Heap.get?_push_of_some _ (Heap.get?_push_of_some _ at1)
 show wpAny (model prog w) A _ P E { s with heap:=((s.heap.update a (Obj.mapSeq fun _=>#[])).push (seqObj "tuple" its.toArray 0)).push (seqObj "list" #[] 0) }
 dsimp only
 by_cases two:its.toArray.size < 2
 ·rw [if_pos two,if_pos two]
  refine wpAny_bind (wpAny_pure ?_)
  rw [StateT.run_pure]
  refine wpAny_bind (wpAny_pure ?_)
  dsimp only
  have zz:((its.toArray.zip its.toArray).map (·.2)).size≤sizeLine+1:=by
   rw [Array.size_map]
   show (pairsOf its).size≤_
   rw [pairsOf_size]
   omega
  refine wpAny_bind (seqEpoch_at at2 rfl (wpAny_bind (listUpdate_at at2 rfl ?_ (hsz2:=zz))))
  simp only [bne_self_eq_false,Bool.false_eq_true,if_false]
  refine wpAny_pure (q (SortSt.mk' general' (its.toArray.zip its.toArray) #[] 7 none) (Array.Perm.refl _) fun i j hij hj=>?_)
  rw [pairsOf_size] at hj
  have:i=j:=by omega
  subst this
  exact KeyOrd.kle_refl _
 ·rw [if_neg two,if_neg two]
  obtain ⟨x,y,r,rfl⟩:∃ x y r,its=x::y::r:=by
   match its,lz,two with
   | [],_,t=>exact absurd (by simp) t
   | [_],_,t=>exact absurd (by simp) t
   | x::y::r,_,_=>exact ⟨x,y,r,rfl⟩
  rw [one _ _ _ rfl]
  refine wpAny_bind (wpAny_pure (wpAny_bind (wpAny_mono (wpS_runs (κ:=κ) hO (a0:=pairsOf (x::y::r)) (st:=SortSt.mk' oneType' ((x::y::r).toArray.zip (x::y::r).toArray) #[] 7 none)
   (Q:=fun _ st=>(arrOf st).Perm (pairsOf (x::y::r))∧failedOf st=none∧SortedToK κ (arrOf st) (pairsOf (x::y::r)).size) g ⟨Array.Perm.refl _,rfl,rfl,rfl⟩ fun st c1 c2 c3=>⟨c1,c2,c3⟩) ?_ fun _ _ e=>e)))
  rintro ⟨⟨⟩,st⟩ s2 ⟨rfl,c1,c2,c3⟩
  dsimp only
  have zz:((arrOf st).map (·.2)).size≤sizeLine+1:=by
   rw [Array.size_map,c1.size_eq,pairsOf_size]
   omega
  refine wpAny_bind (seqEpoch_at at2 rfl (wpAny_bind (listUpdate_at at2 rfl ?_ (hsz2:=zz))))
  rw [c2]
  simp only [bne_self_eq_false,Bool.false_eq_true,if_false]
  exact wpAny_pure (q st c1 c3)
end
end Ts
namespace Wd
section
variable {α:Type}
end
end Wd
namespace Wd
section
variable {α:Type}
end
end Wd
namespace Wd
end Wd
namespace Wd
section
variable {α:Type}
end
end Wd
namespace Wd
section
variable {α:Type}
end
end Wd
namespace Wd
end Wd
namespace Wd
end Wd
namespace PySem
end PySem
namespace L2
open PySem PySem.Spec PyProof.Rows Wd
section
variable {X:Cx}
end
end L2
namespace L2
open PySem PySem.Spec PyProof.Rows Wd
section
variable {X:Cx}
end
end L2
namespace Wd
noncomputable def img (ws:List (List L))(x:L):List L:=if x.val < 6 then ws.getD x.val [] else bk (ws.getD (x.val - 6) [])
noncomputable def sub (ws:List (List L))(u:List L):List L:=u.flatMap (img ws)
noncomputable def InM (n:Nat)(u:List L):Prop:=∀ x∈u,x.val % 6 < n
theorem act_mem:∀ (u st:List L) (x:L),x∈act u st→x∈u ∨ x∈st
 | [],st,x,h=>.inr h
 | y::u,st,x,h=>by
  rw [zfv] at h
  rcases act_mem u _ x h with h | h
  ·exact .inl (List.mem_cons_of_mem _ h)
  ·cases st with
   | nil =>
    have h:x∈[y]:=h
    rw [List.mem_singleton] at h
    exact .inl (h ▸ List.mem_cons_self)
   | cons z r =>
    have h:x∈(if z=inv y then r else y::z::r):=h
    split at h
    ·exact .inr (List.mem_cons_of_mem _ h)
    ·rcases List.mem_cons.mp h with h | h
     ·exact .inl (h ▸ List.mem_cons_self)
     ·exact .inr h
theorem red_mem {u:List L}{x:L}(h:x∈red u):x∈u:=by
 unfold red at h
 rw [List.mem_reverse] at h
 rcases act_mem u [] x h with h | h
 ·exact h
 ·cases h
end Wd
namespace PySem
section
variable {prog:Program} {w:World} {A:Around} {E:Value→Shared→Prop}
end
end PySem
namespace L2
open PySem PySem.Spec PyProof.Rows Wd
section
variable {X:Cx} {pos:Pos}
end
end L2
namespace L2
open PySem PySem.Spec PyProof.Rows Wd
section
variable {X:Cx}
end
end L2
namespace L2
open PySem PySem.Spec PyProof.Rows Wd
end L2
namespace Kx
open PySem PySem.Spec PyProof.Rows L2 Wd
inductive spSomeM (vs:List V)(H:Hp)(Q:VK)(u3_:XK):Prop
 | mk:∀ (d:Addr) (m n:Int),(vs=[.ref d,.int m,.int n])→(Fd H d)→(1≤m)→(m≤6)→(0≤n)→(n≤60)→(∀ (u:List L) (H':Hp),u.length≤n.toNat→InM m.toNat u→Fd H' d→SameB d H H'→Q (tx u) H')→spSomeM vs H Q u3_
theorem sg_in {m:Int}(h1:1≤m)(h2:m≤6):InM m.toNat (sg m):=by
 have:m=1 ∨ m=2 ∨ m=3 ∨ m=4 ∨ m=5 ∨ m=6:=by omega
 rcases this with rfl | rfl | rfl | rfl | rfl | rfl <;> (unfold InM;decide)
theorem InM.snoc {n:Nat}{u:List L}{x:L}(h:InM n u)(hx:x.val % 6 < n):InM n (u++[x]):=fun y hy=>by
 rcases List.mem_append.mp hy with hy | hy
 ·exact h y hy
 ·rw [List.mem_singleton] at hy;exact hy ▸ hx
theorem InM.nil {n:Nat}:InM n []:=fun y hy=>by cases hy
end Kx
namespace Wd
end Wd
namespace L2
open PySem PySem.Spec PyProof.Rows Wd
section
variable {X:Cx}
end
end L2
namespace Kx
open PySem PySem.Spec PyProof.Rows L2 Wd
end Kx
namespace L2
open PySem PySem.Spec PyProof.Rows Wd
section
variable {X:Cx}
end
end L2
namespace L2
open PySem PySem.Spec PyProof.Rows
section
variable {prog:Program} {w:World} {A:Around} {E:Value→Shared→Prop} {s:Shared}
theorem cat_void {t b:Addr}{ws:List Value}{Q:Value→Shared→Prop}(ht:IsTup s.heap t ([]:List Value).toArray)(hb:IsTup s.heap b ws.toArray)(h1:Q (.ref b) s):wpAny (model prog w) A (binaryOp .Add (.ref t) (.ref b)) Q E s:=by
 obtain ⟨⟨c1,d1,o1,l1⟩,e1,g1,n,k1⟩:=id ht
 obtain ⟨⟨c2,d2,o2,l2⟩,e2,g2,n2,k2⟩:=id hb
 simp only at g1 k1 g2 k2
 subst g1 k1 g2 k2
 exact concat_meets ⟨_,e1,rfl⟩ ⟨_,e2,rfl⟩ noFill_tuple_add seq_tuple_add PySem.F.slot_tuple_add PySem.F.entry_tuple_add (PySem.F.args_tuple_add_2 _ _) (tuple_addW0 t b _ ws.toArray n n2 d1 d2 l1 l2 rfl) ⟨e1,e2,h1⟩
end
section
variable {X:Cx}
end
end L2
namespace L2
open PySem PySem.Spec PyProof.Rows Wd
section
variable {X:Cx}
inductive rCatU (x:V)(y:V)(H:Hp)(Q:VK):Prop
 | mk:∀ a b xs ys,(x = .ref a)→(y = .ref b)→(H a=some (.tup xs))→(H b=some (.tup ys))→(xs.length+ys.length≤sizeLine)→(∀ p H',Same H H'→H' p=some (.tup (xs++ys))→Q (.ref p) H')→rCatU x y H Q
theorem op_catU:OpR X (binaryOp .Add) rCatU:=by
 intro pins s σ H x y v u Q I rx ry h
 obtain ⟨a,b,xs,ys,ex,ey,ha,hb,hz,q⟩:=h
 by_cases hx:xs=[]
 ·subst ex ey hx
  cases rx
  cases ry
  obtain ⟨its,r1,p1,_⟩:=I.tuple (SqT.of ha)
  obtain ⟨its2,r2,p2,_⟩:=I.tuple (SqT.of hb)
  cases r1
  exact cat_void p1 p2 ⟨.ref b,H,I,rfl,q b H (Same.refl _) hb⟩
 ·exact op_catT pins s σ H x y v u Q I rx ry ⟨a,b,xs,ys,ex,ey,SqT.of ha,SqT.of hb,hx,hz,fun e=>q a H (Same.refl _) (by rw [e,List.append_nil];exact ha),fun _ p hp=>q p _ (Same.new hp) zac⟩
inductive call_repr_V_r  (xs:List V)(H:Hp)(Q:VK):Prop
 | mk:∀ v d,(xs=[v])→(Dt H v d)→(Sh d)→((∀ i,d = .int i→i.natAbs.log2 < 1920))→(Q (.str d.shown) H)→call_repr_V_r xs H Q
theorem zer (hg:X.A.guards=some [])(hu:X.A.units+64 < cLine):CallR X (.builtin "repr") call_repr_V_r:=by
 intro pins s σ H xs us Q I r h
 obtain ⟨v,d,rfl,q,S,hi,hQ⟩:=h
 obtain ⟨u,rfl,ru⟩:=zcc r
 cases q with
 | non=>cases ru;exact P.repr_of_none ⟨.str _,H,I.tok _,⟨_,rfl⟩,hQ⟩
 | bl b=>cases ru;exact P.repr_of_bool ⟨.str _,H,I.tok _,⟨_,rfl⟩,hQ⟩
 | int i=>obtain ⟨t,rfl⟩:=ru;exact P.repr_of_int (hi i rfl) ⟨.str _,H,I.tok _,⟨_,rfl⟩,hQ⟩
 | str x=>obtain ⟨t,rfl⟩:=ru;exact P.repr_of_str ⟨.str _,H,I.tok _,⟨_,rfl⟩,hQ⟩ S.sz
 | lst e qs=>exact zda hg hu pins s σ H _ _ Q I (.cons ru .nil) ⟨_,_,rfl,.lst e qs,S,hQ⟩
 | tup e qs=>exact zda hg hu pins s σ H _ _ Q I (.cons ru .nil) ⟨_,_,rfl,.tup e qs,S,hQ⟩
end
end L2
namespace L2
open PySem PySem.Spec PyProof.Rows Wd
inductive rSlU (x:V)(lo:Option Int)(hi:Option Int)(H:Hp)(Q:VK):Prop
 | mk:∀ a xs,(x = .ref a)→(H a=some (.tup xs))→(∀ p H',Same H H'→H' p=some (.tup (cutV xs lo hi))→Q (.ref p) H')→rSlU x lo hi H Q
theorem zf2 {X:Cx}:SlR X rSlU:=by
 intro pins s σ H x v vl vu lo hi sl Q I rx hs pl pu h
 obtain ⟨a,xs,rfl,hx,q⟩:=h
 exact sl_tupE pins s σ H _ v vl vu lo hi sl Q I rx hs pl pu ⟨a,xs,rfl,SqT.of hx,fun e=>q a H (Same.refl _) (by rw [e];exact hx),fun p hp=>q p _ (Same.new hp) zac⟩
end L2
namespace Kx
open PySem PySem.Spec PyProof.Rows L2 Wd
end Kx
namespace Kx
open PySem PySem.Spec PyProof.Rows L2 Wd
end Kx
namespace L2
open PySem PySem.Spec PyProof.Rows Wd
section
variable {X:Cx}
end
end L2
namespace Wd
noncomputable def nm (N:List L)(x:L):L:=if x.val < 6 then N.getD x.val 0 else inv (N.getD (x.val - 6) 0)
end Wd
namespace L2
open PySem PySem.Spec PyProof.Rows Wd
section
variable {X:Cx}
end
end L2
namespace Kx
open PySem PySem.Spec PyProof.Rows L2 Wd
end Kx
namespace L2
open PySem PySem.Spec PyProof.Rows
theorem zes (val:Nat→Str):∀ i,(ddp val i).Nodup
 | 0=>by unfold ddp;exact List.nodup_nil
 | i+1=>by
  unfold ddp
  split
  ·exact zes val i
  ·rename_i h
   exact List.nodup_append.mpr ⟨zes val i,List.nodup_cons.mpr ⟨List.not_mem_nil,List.nodup_nil⟩,fun a ha b hb e=>h (by rw [List.mem_singleton] at hb;subst hb;subst e;exact ha)⟩
theorem ddp_mem (val:Nat→Str)(z:Str):∀ i,z∈ddp val i ↔ ∃ j,j < i∧val j=z
 | 0=>by unfold ddp;simp
 | i+1=>by
  have ih:=ddp_mem val z i
  unfold ddp
  split
  ·rename_i h
   rw [ih]
   constructor
   ·rintro ⟨j,hj,e⟩;exact ⟨j,by omega,e⟩
   ·rintro ⟨j,hj,e⟩
    by_cases q:j=i
    ·subst q
     rw [← e]
     rw [e] at h ⊢
     exact ih.mp h
    ·exact ⟨j,by omega,e⟩
  ·rw [List.mem_append,ih,List.mem_singleton]
   constructor
   ·rintro (⟨j,hj,e⟩ | e)
    ·exact ⟨j,by omega,e⟩
    ·exact ⟨i,by omega,e.symm⟩
   ·rintro ⟨j,hj,e⟩
    by_cases q:j=i
    ·subst q;exact .inr e.symm
    ·exact .inl ⟨j,by omega,e⟩
theorem zcj:∀ {dl zs:List Str},dl.Nodup→(∀ k∈dl,k∈zs)→zs.length≤dl.length→zs.Perm dl
 | [],zs,_,_,h=>by rw [List.length_eq_zero_iff.mp (Nat.le_zero.mp h)]
 | d::dl,zs,nd,m,h=>by
  have hd:=m d List.mem_cons_self
  have p:=List.perm_cons_erase hd
  refine p.trans (List.Perm.cons _ ?_)
  obtain ⟨n1,n2⟩:=List.nodup_cons.mp nd
  refine zcj n2 (fun k hk=>?_) ?_
  ·have:=m k (List.mem_cons_of_mem _ hk)
   exact (List.mem_erase_of_ne (fun e=>n1 (by rw [← e];exact hk))).mpr this
  ·rw [List.length_erase_of_mem hd]
   simp at h
   omega
section
variable {prog:Program} {w:World} {A:Around} {E:Value→Shared→Prop} {s:Shared}
theorem zg6 {l:Addr}{vs:List Value}{ss:List Str}{Q:Value→Shared→Prop}(hl:s.heap.IsList l vs.toArray)(hS:StrsAre vs ss)(lim:vs.length≤sizeLine)
  (q:∀ (out:Array Value) (zs:List Str),StrsAre out.toList zs→zs.Perm ss→sortedS zs=true→Q (.ref (s.heap.objs.size+1)) { s with heap:=sortedAll s.heap vs out }) :
  wpAny (model prog w) A (call (.builtin "sorted") [.ref l]) Q E s:=by
 refine Calls.call_function_entry kind_sorted plain_sorted entry_sorted (args_sorted1 _) ?_
 unfold Builtin.«sorted»
 refine wpAny_bind (m:=checkCount "sorted" 1 1 _) (wpAny_pure (wpAny_bind (collect_list hl (wpAny_bind (wpAny_newList ?_)) (hsz:=lim))))
 have z1:((s.heap.push (seqObj "list" #[] 0)).update s.heap.objs.size (Obj.mapSeq (· ++ vs.toArray))).objs.size=s.heap.objs.size+1:=(Heap.size_update ..).trans (size_push' ..)
 have g:(((s.heap.push (seqObj "list" #[] 0)).update s.heap.objs.size (Obj.mapSeq (· ++ vs.toArray))).push (seqObj "list" vs.toArray 0)).get? (s.heap.objs.size+1)=some (seqObj "list" vs.toArray 0):=z1 ▸ Heap.get?_push_size _ rfl
 show wpAny _ _ _ _ _ { s with heap:=((s.heap.push (seqObj "list" #[] 0)).update s.heap.objs.size (Obj.mapSeq (· ++ vs.toArray))).push (seqObj "list" vs.toArray 0) }
 rw [z1]
 refine wpAny_bind (wpAny_holding (wpAny_call_entry slot_list_sort ⟨_,g,rfl⟩ entry_list_sort (Ts.sort_any strKind_oneLt g hS.keysOf (fun x y r e=>keyKind_strs (by rw [← e];exact hS)) lim fun st a1 a2=>⟨_,rfl,?_⟩) (args_list_sort _)))
 obtain ⟨zs,h1,h2,h3⟩:=sorted_out_str hS a1 a2
 exact wpAny_pure ⟨_,rfl,q _ zs h1 h2 h3⟩
end
section
variable {X:Cx}
inductive call_sorted_strsB_r (K:PySem.W.Frag)(xs:List V)(H:Hp)(Q:VK):Prop
 | mk:∀ l ys,(xs=[.ref l])→(SqL K H l (ys.map V.str))→(∀ p zs,H p=none→zs.Perm ys→sortedS zs=true→Q (.ref p) (upd H p (.lst (zs.map V.str))))→call_sorted_strsB_r K xs H Q
theorem zdj:CallR X (.builtin "sorted") (call_sorted_strsB_r X.K):=by
 intro pins s σ H xs us Q I r h
 obtain ⟨l,ys,rfl,hq,q⟩:=h
 obtain ⟨u,rfl,ru⟩:=zcc r
 cases ru
 obtain ⟨its,rv,pl,hz⟩:=I.list hq
 have hS:=zdg rv
 have hlen:its.length=ys.length:=by rw [← rv.length,List.length_map]
 rw [List.length_map] at hz
 refine zg6 pl.isList hS (by omega) fun out zs hO hp hs=>?_
 obtain ⟨e,he⟩:=sortedAll_at s.heap its out
 have I2:Inv X pins σ (upd H (s.heap.objs.size+1) (.lst (zs.map V.str))) { s with heap:=sortedAll s.heap its out,toks:=s.toks } :=
  I.laid (fun b o e=>sortedAll_old e) (Nat.le_succ _) ⟨by rw [List.length_map,hp.length_eq];exact hz,out.toList,e,zbu hO,by simpa [seqObj] using he⟩
 exact ⟨.ref (s.heap.objs.size+1),_,I2,rfl,q _ zs (I.hok.fresh (Nat.le_succ _)) hp hs⟩
noncomputable def StO (P:Program)(w:World)(a:Addr)(dl:List Str):HO:=.ext fun h=>SetL P w h a dl
theorem SetL.lay {P:Program}{w:World}{H:Hp}{h:Heap}{a:Addr}{dl:List Str}(x:SetL P w h a dl):ObjOk P w H h a (StO P w a dl):=by
 refine ⟨x,?_,fun h1 h2 y k=>y.at k⟩
 obtain ⟨o,_,_,_,e,_⟩:=x
 exact ⟨o,e⟩
inductive call_set_texts_r (K:PySem.W.Frag)(P:PySem.Program)(w:PySem.World)(xs:List V)(H:Hp)(Q:VK):Prop
 | mk:∀ (l:Addr) (ys:List Str),(xs=[.ref l])→(SqL K H l (ys.map V.str))→(ys.length≤4000)→(∀ (p:Addr) (dl:List Str),H p=none→dl.Nodup→(∀ z,z∈dl ↔ z∈ys)→Q (.ref p) (upd H p (StO P w p dl)))→call_set_texts_r K P w xs H Q
theorem zex (hc:X.calm=true):CallR X (.type "set") (call_set_texts_r X.K X.prog X.w):=by
 intro pins s σ H xs us Q I r h
 obtain ⟨l,ys,rfl,hq,hz,q⟩:=h
 obtain ⟨u,rfl,ru⟩:=zcc r
 cases ru
 obtain ⟨its,rv,pl,_⟩:=I.list hq
 have hlen:its.length=ys.length:=by rw [← rv.length,List.length_map]
 have hat:∀ (i:Nat) (v:Value),its.toArray[i]? = some v→∃ t,v = .str (ys.getD i ⟨#[]⟩) t:=fun i v e=>by
  rw [List.getElem?_toArray] at e
  have hi:i < ys.length:=by
   have:=(List.getElem?_eq_some_iff.mp e).1
   omega
  obtain ⟨u,eu,t,rfl⟩:=rv.get (i:=i) (x:=.str ys[i]) (by rw [List.getElem?_map,List.getElem?_eq_getElem hi];rfl)
  rw [e] at eu
  cases eu
  exact ⟨t,by rw [List.getD_eq_getElem?_getD,List.getElem?_eq_getElem hi];rfl⟩
 refine call_setL (I.ok.hd hc) pl.isList hat (by rw [List.size_toArray,hlen];show _ < 4096;omega) fun h' tk hS k=>?_
 refine ⟨.ref s.heap.objs.size,_,I.laid (fun b o e=>k b o (Heap.lt_size e) e) (Nat.le_refl _) (SetL.lay hS),rfl,q _ _ (I.hok.fresh (Nat.le_refl _)) (zes _ _) fun z=>?_⟩
 rw [ddp_mem,List.size_toArray,hlen]
 constructor
 ·rintro ⟨j,hj,rfl⟩
  rw [List.getD_eq_getElem?_getD,List.getElem?_eq_getElem hj]
  exact List.getElem_mem _
 ·intro hm
  obtain ⟨j,hj,e⟩:=List.mem_iff_getElem.mp hm
  exact ⟨j,hj,by rw [List.getD_eq_getElem?_getD,List.getElem?_eq_getElem hj];exact e⟩
end
section
variable {prog:Program} {w:World} {A:Around} {E:Value→Shared→Prop} {s:Shared}
theorem strs_ex:∀ (vs:List Value),(∀ v∈vs,∃ k t,v = .str k t)→∃ zs,StrsAre vs zs∧zs.length=vs.length∧∀ k t,.str k t∈vs→k∈zs
 | [],_=>⟨[],.nil,rfl,fun k t h=>by cases h⟩
 | v::vs,h=>by
  obtain ⟨k,t,rfl⟩:=h v List.mem_cons_self
  obtain ⟨zs,h1,h2,h3⟩:=strs_ex vs fun v hv=>h v (List.mem_cons_of_mem _ hv)
  refine ⟨k::zs,.cons k t h1,by simp [h2],fun k' t' hk=>?_⟩
  rcases List.mem_cons.mp hk with e | e
  ·cases e;exact List.mem_cons_self
  ·exact List.mem_cons_of_mem _ (h3 k' t' e)
theorem zhp {S:Addr}{dl:List Str}{Q:List Value→Shared→Prop}(hh:A.handled=none)(hS:SetL prog w s.heap S dl)(nd:dl.Nodup)
  (k:∀ (h':Heap) (tk:Nat) dr (vs:List Value) (zs:List Str),(∀ b o,s.heap.get? b=some o→h'.get? b=some o)→s.heap.objs.size < h'.objs.size→StrsAre vs zs→zs.Perm dl→Q vs { s with heap:=h',drawn:=dr,toks:=tk }) :
  wpAny (model prog w) A (collect (.ref S)) Q E s:=by
 obtain ⟨o,es,ep,t,ho,hex,hd,hel,hm,hb,hf,hn,hpl,hld⟩:=hS
 have l16:sizeLine=16777216:=sizeLine_eq
 have b4:es.size < 4096:=hb
 unfold collect
 refine (wpAny_bind (wpAny_runValue (codeAny_builtin F.entry_proto_collect ?_)))
 rw [Around.under_plainId F.plain_proto_collect _]
 show wpAny _ A.in1 (newList [] >>= fun q=>again (.builtin "list.__iadd__" ⟨[q,.ref S],[]⟩)) _ _ s
 refine (wpAny_bind (wpAny_newObj_type (wpAny_pure ⟨plainId_quiet F.plain_list_iadd _,codeAny_builtin F.entry_list_iadd ?_⟩)))
 rw [Around.under_plainId F.plain_list_iadd _]
 have hL:(s.heap.push { cls:=.type "list",data:=.seq ([]:List Value).toArray }).get? s.heap.objs.size=some { cls:=.type "list",data:=.seq #[] }:=Heap.get?_push_size _ rfl
 show wpAny _ A.in1 (Builtin.List.listExtendWith (.ref s.heap.objs.size) (.ref S) (.ref s.heap.objs.size)) _ _ { s with heap:=s.heap.push { cls:=.type "list",data:=.seq ([]:List Value).toArray } }
 refine zi6 (R:=fun r s'=>match r with
  | .ok (.ret v)=>wpAny (model prog w) A (match v with
   | .ref a=>do
    match (← load a).data with
    | .seq xs _=>pure xs.toList
    | _=>unsupported "internal:collect"
   | _=>unsupported "internal:collect") Q E s'
  | .ok _=>False
  | .error e=>E e s') (s:={ s with heap:=s.heap.push { cls:=.type "list",data:=.seq ([]:List Value).toArray } }) hh ⟨⟨o,Heap.get?_push_of_some _ ho,hex,hd⟩,hf⟩ hld (fun h1=>hpl (fun e=>by rw [e,List.length_nil] at hn;omega)) (by omega) _ hL fun h' dr tk vs acc c' hk hL' pm hI=>?_
 show wpAny _ A (load s.heap.objs.size >>= _) _ _ { s with heap:=h',drawn:=dr,toks:=tk }
 have lv:vs.length=es.size:=by rw [pm.length_eq,List.length_map,Array.length_toList]
 have ea:acc.toList=vs:=by
  apply List.ext_getElem?
  intro i
  rw [Array.getElem?_toList]
  by_cases hi:i < es.size
  ·have e1:=getElem?_pos acc i (by rw [hI.1];exact hi)
   rw [e1,hI.2 i _ e1]
  ·rw [getElem?_neg acc i (by rw [hI.1];exact hi),List.getElem?_eq_none (by omega)]
 have sh:∀ v∈vs,∃ z u,v = .str z u:=fun v hv=>by
  obtain ⟨x,hx,rfl⟩:=List.mem_map.mp (pm.mem_iff.mp hv)
  obtain ⟨z,hz⟩:=hel.keys x hx
  obtain ⟨u,e⟩:=Value.isStrOf_shape hz
  exact ⟨z,u,e⟩
 obtain ⟨zs,z1,z2,z3⟩:=strs_ex vs sh
 have q:=k h' tk dr vs zs (fun b o e=>hk b o (Nat.ne_of_lt (Heap.lt_size e)) (Heap.get?_push_of_some _ e)) (Heap.lt_size hL') z1 (zcj nd (fun z hz=>?_) (by omega))
 ·refine wpAny_bind (wpAny_load hL' ?_)
  rw [← ea] at q
  exact wpAny_pure q
 ·obtain ⟨x,hx,hi⟩:=(hm z).mp hz
  obtain ⟨u,e⟩:=Value.isStrOf_shape hi
  exact z3 z u (pm.mem_iff.mpr (List.mem_map.mpr ⟨x,hx,e⟩))
end
section
variable {X:Cx}
theorem Inv.dr {pins:List (Addr × Obj)}{σ:List (Option V)}{H:Hp}{s:Shared}{d}(I:Inv X pins σ H s):Inv X pins σ H { s with drawn:=d }:=⟨I.ok,I.os,I.bare,I.base,I.loc,I.cell,I.free,I.freeC,I.pin,I.hok,I.len⟩
inductive call_sorted_set_r (P:PySem.Program)(w:PySem.World)(xs:List V)(H:Hp)(Q:VK):Prop
 | mk:∀ (a:Addr) (dl:List Str),(xs=[.ref a])→(H a=some (StO P w a dl))→(dl.Nodup)→(∀ (p:Addr) (zs:List Str),H p=none→zs.Perm dl→sortedS zs=true→Q (.ref p) (upd H p (.lst (zs.map V.str))))→call_sorted_set_r P w xs H Q
theorem zet (hc:X.calm=true):CallR X (.builtin "sorted") (call_sorted_set_r X.prog X.w):=by
 intro pins s σ H xs us Q I r h
 obtain ⟨S,dl,rfl,hp,nd,q⟩:=h
 obtain ⟨u,rfl,ru⟩:=zcc r
 cases ru
 have hS:SetL X.prog X.w s.heap S dl:=(I.hok S _ hp).1
 have l16:sizeLine=16777216:=sizeLine_eq
 have lz:dl.length < 4096:=by
  obtain ⟨o,es,ep,t,ho,hex,hd,hel,hm,hb,hf,hn,hpl,hld⟩:=hS
  rw [← hn]
  exact hb
 refine (Calls.call_function_entry kind_sorted plain_sorted entry_sorted (args_sorted1 _) ?_)
 unfold Builtin.«sorted»
 refine (wpAny_bind (m:=checkCount "sorted" 1 1 _) (wpAny_pure ?_))
 refine wpAny_bind (zhp (A:=X.A.in1) (I.ok.hd hc) hS nd fun h' tk dr vs zs0 hk hlt hS0 p0=>?_)
 have hlen:vs.length=dl.length:=by rw [← p0.length_eq];exact (zbu hS0).length.symm.trans (List.length_map ..)
 refine (wpAny_bind (wpAny_newList ?_))
 have hoL:(h'.push (seqObj "list" vs.toArray 0)).get? h'.objs.size=some (seqObj "list" vs.toArray 0):=Heap.get?_push_size _ rfl
 refine (wpAny_bind (wpAny_holding (wpAny_call_entry slot_list_sort ⟨_,hoL,rfl⟩ entry_list_sort (Ts.sort_any strKind_oneLt hoL hS0.keysOf (fun x y r e=>keyKind_strs (by rw [← e];exact hS0)) (by omega) fun st' a1 a2=>⟨_,rfl,?_⟩) (args_list_sort _))))
 obtain ⟨zs,h1,h2,h3⟩:=sorted_out_str hS0 a1 a2
 refine wpAny_pure ⟨_,rfl,?_⟩
 obtain ⟨e,he⟩:=sortedHeap_at (out:=(arrOf st').map (·.2)) hoL
 have hp2:=h2.trans p0
 have hzl:(zs.map V.str).length≤sizeLine:=by
  rw [List.length_map,hp2.length_eq]
  omega
 have old:∀ b o,s.heap.get? b=some o→(sortedHeap (h'.push (seqObj "list" vs.toArray 0)) h'.objs.size vs ((arrOf st').map (·.2))).get? b=some o:=fun b o eb=>by
  have e1:=hk b o eb
  have e2:=Heap.lt_size e1
  rw [sortedHeap_old (Nat.ne_of_lt e2) (by rw [Heap.size_push];exact Nat.lt_succ_of_lt e2)]
  exact Heap.get?_push_of_some _ e1
 have I2:Inv X pins σ (upd H h'.objs.size (.lst (zs.map V.str))) { s with heap:=sortedHeap (h'.push (seqObj "list" vs.toArray 0)) h'.objs.size vs ((arrOf st').map (·.2)),toks:=tk } :=
  I.laid old (Nat.le_of_lt hlt) ⟨hzl,((arrOf st').map (·.2)).toList,e,zbu h1,by rw [Array.toArray_toList];exact he⟩
 exact ⟨.ref h'.objs.size,_,I2.dr (d:=dr),rfl,q _ zs (I.hok.fresh (Nat.le_of_lt hlt)) hp2 h3⟩
end
end L2
namespace PySem
open Sem (wp)
noncomputable abbrev IsZq (h:Heap)(z TI TO:Addr)(f0:Value)(fb:Bool):Prop :=
 h.get? z=some { cls:=.type "zip",dict:=none,data:=.fields #[f0,.bool fb,.bool false,.ref TI,.ref TO],slots:=#[] }
section
variable {prog:Program} {w:World} {A:Around} {E:Value→Shared→Prop} {s:Shared} {z TI TO i1 i2:Addr} {x y:Str} {t u:Tok} {k c d:Nat} {a b:Value}
theorem zeu {a:Nat}{Q:Option Obj→Shared→Prop}(h:Q (s.heap.get? a) s):wpAny (model prog w) A (loadIfAlive a) Q E s:=fun _ _ _=>by
 show Sem.wp _ _ (Sem.loadIfAlive a Sem.pure) _ _ _ _
 rw [Sem.wp_loadIfAlive,Sem.wp_pure]
 exact h
theorem zipQ_item {f0:Value}{fb:Bool}{Q:Value→Shared→Prop}(D:Ap5 z TI TO i1 i2)(hf:f0 = .none ∨ ∃ n:Nat,f0=rawInt n)
  (hz:IsZq s.heap z TI TO f0 fb) (hTI:IsPair s.heap TI (.ref i1) (.ref i2)) (hTO:IsPair s.heap TO a b) (h1:AsIt s.heap i1 x t k) (h2:AsIt s.heap i2 y u k) (hx:x.cps[k]? = some c) (hy:y.cps[k]? = some d)
  (hQ:∀ h' tk t1 t2 f0' fb',(f0'=Value.none ∨ ∃ n:Nat,f0'=rawInt n)→IsZq h' z TI TO f0' fb'→(∃ a b,IsPair h' TO a b)→AsIt h' i1 x t (k+1)→AsIt h' i2 y u (k+1)→IsPair h' s.heap.objs.size (.str ⟨#[c]⟩ t1) (.str ⟨#[d]⟩ t2) →
   (∀ e o,e≠z→e≠TO→e≠i1→e≠i2→s.heap.get? e=some o→h'.get? e=some o)→h'.objs.size=s.heap.objs.size+1→Q (.ref s.heap.objs.size) { s with heap:=h',toks:=tk }) :
  wpAny (model prog w) A (Builtin.«zip.__next__» ⟨[.ref z],[]⟩) (fun fin s'=>∃ v,fin = .done (.ret v)∧Q v s') E s:=by
 show wpAny _ _ (field (.ref z) 2 >>= _) _ _ _
 refine wpAny_bind (wpAny_field hz rfl (x:=.bool false) rfl ?_)
 show wpAny _ _ (field (.ref z) 3 >>= _) _ _ _
 refine wpAny_bind (wpAny_field hz rfl (x:=.ref TI) rfl (wpAny_bind (wpAny_seqItems hTI rfl ?_)))
 show wpAny _ _ (Builtin.SmallTypes.ownedTupleIsFree (.ref z) >>= _) _ _ _
 refine wpAny_bind ?_
 unfold Builtin.SmallTypes.ownedTupleIsFree
 rcases hf with rfl | ⟨n,rfl⟩
 ·refine wpAny_bind (wpAny_field hz rfl (x:=.none) rfl (wpAny_pure ?_))
  simp only [if_true]
  refine wpAny_bind (wpAny_rule (wpAny_bind (wpAny_field hz rfl (x:=.ref TO) rfl (wpAny_bind (wpAny_setField_rec hz (by simp) fun g1 hz1 e1=>?_)))))
  have hz1:IsZq g1 z TI TO .ellipsis fb:=hz1
  refine wpAny_bind ?_
  simp only [List.zipIdx_cons,List.zipIdx_nil,List.forIn_cons,List.forIn_nil]
  refine wpAny_bind (wpAny_bind (wpAny_onRaise ?_))
  show wpAny _ _ (Builtin.SmallTypes.nextOf (.ref i1) >>= _) _ _ _
  refine wpAny_bind (wpAny_nextOf_ascii_item (h1.extBut e1.extBut D.i1z) hx fun g2 j1 e2=>wpAny_pure ?_)
  have o2:IsPair g2 TO a b:=e2.extBut _ _ D.TOi1 (e1.extBut _ _ D.TOz hTO)
  refine wpAny_bind (wpAny_seqItems o2 rfl (wpAny_bind (wpAny_updateSeq_pair o2 fun g3 o3 e3=>wpAny_bind (wpAny_letGo (wpAny_pure ?_)))))
  have o3:IsPair g3 TO (.str ⟨#[c]⟩ s.toks) b:=o3
  refine wpAny_bind (wpAny_bind (wpAny_onRaise ?_))
  show wpAny _ _ (Builtin.SmallTypes.nextOf (.ref i2) >>= _) _ _ _
  refine wpAny_bind (wpAny_nextOf_ascii_item (((h2.extBut e1.extBut D.i2z).extBut e2.extBut D.i12.symm).extBut e3.extBut D.TOi2.symm) hy fun g4 j2 e4=>wpAny_pure ?_)
  have o4:IsPair g4 TO (.str ⟨#[c]⟩ s.toks) b:=e4.extBut _ _ D.TOi2 o3
  refine wpAny_bind (wpAny_seqItems o4 rfl (wpAny_bind (wpAny_updateSeq_pair o4 fun g5 o5 e5=>wpAny_bind (wpAny_letGo (wpAny_pure (wpAny_pure ?_))))))
  have o5:IsPair g5 TO (.str ⟨#[c]⟩ s.toks) (.str ⟨#[d]⟩ (s.toks+1)):=o5
  refine wpAny_bind (wpAny_seqItems o5 rfl (wpAny_bind (wpAny_newTuple ?_)))
  have hsz:g5.objs.size=s.heap.objs.size:=by rw [e5.1,e4.1,e3.1,e2.1,e1.1]
  have z5:IsZq g5 z TI TO .ellipsis fb:=e5.extBut _ _ D.TOz.symm (e4.extBut _ _ D.i2z.symm (e3.extBut _ _ D.TOz.symm (e2.extBut _ _ D.i1z.symm hz1)))
  have kk:∀ e o,e≠z→e≠TO→e≠i1→e≠i2→s.heap.get? e=some o→g5.get? e=some o:=fun e o n1 n2 n3 n4 q=>e5.extBut _ _ n2 (e4.extBut _ _ n4 (e3.extBut _ _ n2 (e2.extBut _ _ n3 (e1.extBut _ _ n1 q))))
  have j1':AsIt g5 i1 x t (k+1):=((j1.extBut e3.extBut D.TOi1.symm).extBut e4.extBut D.i12).extBut e5.extBut D.TOi1.symm
  have j2':AsIt g5 i2 y u (k+1):=j2.extBut e5.extBut D.TOi2.symm
  have zlt:z < g5.objs.size:=Heap.lt_size z5
  show wpAny _ _ (Builtin.SmallTypes.ownedTupleHandOut (.ref z) (.ref g5.objs.size) >>= _) _ _ _
  refine wpAny_bind ?_
  unfold Builtin.SmallTypes.ownedTupleHandOut
  have z6:IsZq (g5.push { cls:=.type "tuple",data:=.seq #[.str ⟨#[c]⟩ s.toks,.str ⟨#[d]⟩ (s.toks+1)] }) z TI TO .ellipsis fb:=Heap.get?_push_of_some _ z5
  refine wpAny_bind (wpAny_setField_rec z6 (by simp) fun g7 z7 e7=>?_)
  have z7:IsZq g7 z TI TO (rawInt g5.objs.size) fb:=z7
  refine wpAny_setField_rec z7 (by simp) fun g8 z8 e8=>?_
  have z8:IsZq g8 z TI TO (rawInt g5.objs.size) false:=z8
  have up:∀ e o,e≠z→g5.get? e=some o→g8.get? e=some o:=fun e o n1 q=>e8.extBut _ _ n1 (e7.extBut _ _ n1 (Heap.get?_push_of_some _ q))
  have T8:IsPair g8 g5.objs.size (.str ⟨#[c]⟩ s.toks) (.str ⟨#[d]⟩ (s.toks+1)):=e8.extBut _ _ (Nat.ne_of_gt zlt) (e7.extBut _ _ (Nat.ne_of_gt zlt) (Heap.get?_push_size _ rfl))
  rw [hsz] at z8 T8
  refine wpAny_pure ⟨_,rfl,?_⟩
  show Q (.ref g5.objs.size) _
  rw [hsz]
  exact hQ g8 _ _ _ _ _ (.inr ⟨_,rfl⟩) z8 ⟨_,_,up _ _ D.TOz o5⟩ (let ⟨o,ho,r⟩:=j1';⟨o,up _ o D.i1z ho,r⟩) (let ⟨o,ho,r⟩:=j2';⟨o,up _ o D.i2z ho,r⟩) T8 (fun e o n1 n2 n3 n4 q=>up e o n1 (kk e o n1 n2 n3 n4 q)) (by rw [e8.1,e7.1,Heap.size_push,hsz])
 ·refine wpAny_bind (wpAny_field hz rfl (x:=rawInt n) rfl ?_)
  dsimp only [rawInt]
  refine wpAny_bind (zeu ?_)
  cases al:s.heap.get? (n:Int).toNat with
  | none =>
   simp only [Option.isNone_none,if_true]
   refine wpAny_pure ?_
   simp only [if_true]
   refine wpAny_bind (wpAny_rule (wpAny_bind (wpAny_field hz rfl (x:=.ref TO) rfl (wpAny_bind (wpAny_setField_rec hz (by simp) fun g1 hz1 e1=>?_)))))
   have hz1:IsZq g1 z TI TO .ellipsis fb:=hz1
   refine wpAny_bind ?_
   simp only [List.zipIdx_cons,List.zipIdx_nil,List.forIn_cons,List.forIn_nil]
   refine wpAny_bind (wpAny_bind (wpAny_onRaise ?_))
   show wpAny _ _ (Builtin.SmallTypes.nextOf (.ref i1) >>= _) _ _ _
   refine wpAny_bind (wpAny_nextOf_ascii_item (h1.extBut e1.extBut D.i1z) hx fun g2 j1 e2=>wpAny_pure ?_)
   have o2:IsPair g2 TO a b:=e2.extBut _ _ D.TOi1 (e1.extBut _ _ D.TOz hTO)
   refine wpAny_bind (wpAny_seqItems o2 rfl (wpAny_bind (wpAny_updateSeq_pair o2 fun g3 o3 e3=>wpAny_bind (wpAny_letGo (wpAny_pure ?_)))))
   have o3:IsPair g3 TO (.str ⟨#[c]⟩ s.toks) b:=o3
   refine wpAny_bind (wpAny_bind (wpAny_onRaise ?_))
   show wpAny _ _ (Builtin.SmallTypes.nextOf (.ref i2) >>= _) _ _ _
   refine wpAny_bind (wpAny_nextOf_ascii_item (((h2.extBut e1.extBut D.i2z).extBut e2.extBut D.i12.symm).extBut e3.extBut D.TOi2.symm) hy fun g4 j2 e4=>wpAny_pure ?_)
   have o4:IsPair g4 TO (.str ⟨#[c]⟩ s.toks) b:=e4.extBut _ _ D.TOi2 o3
   refine wpAny_bind (wpAny_seqItems o4 rfl (wpAny_bind (wpAny_updateSeq_pair o4 fun g5 o5 e5=>wpAny_bind (wpAny_letGo (wpAny_pure (wpAny_pure ?_))))))
   have o5:IsPair g5 TO (.str ⟨#[c]⟩ s.toks) (.str ⟨#[d]⟩ (s.toks+1)):=o5
   refine wpAny_bind (wpAny_seqItems o5 rfl (wpAny_bind (wpAny_newTuple ?_)))
   have hsz:g5.objs.size=s.heap.objs.size:=by rw [e5.1,e4.1,e3.1,e2.1,e1.1]
   have z5:IsZq g5 z TI TO .ellipsis fb:=e5.extBut _ _ D.TOz.symm (e4.extBut _ _ D.i2z.symm (e3.extBut _ _ D.TOz.symm (e2.extBut _ _ D.i1z.symm hz1)))
   have kk:∀ e o,e≠z→e≠TO→e≠i1→e≠i2→s.heap.get? e=some o→g5.get? e=some o:=fun e o n1 n2 n3 n4 q=>e5.extBut _ _ n2 (e4.extBut _ _ n4 (e3.extBut _ _ n2 (e2.extBut _ _ n3 (e1.extBut _ _ n1 q))))
   have j1':AsIt g5 i1 x t (k+1):=((j1.extBut e3.extBut D.TOi1.symm).extBut e4.extBut D.i12).extBut e5.extBut D.TOi1.symm
   have j2':AsIt g5 i2 y u (k+1):=j2.extBut e5.extBut D.TOi2.symm
   have zlt:z < g5.objs.size:=Heap.lt_size z5
   show wpAny _ _ (Builtin.SmallTypes.ownedTupleHandOut (.ref z) (.ref g5.objs.size) >>= _) _ _ _
   refine wpAny_bind ?_
   unfold Builtin.SmallTypes.ownedTupleHandOut
   have z6:IsZq (g5.push { cls:=.type "tuple",data:=.seq #[.str ⟨#[c]⟩ s.toks,.str ⟨#[d]⟩ (s.toks+1)] }) z TI TO .ellipsis fb:=Heap.get?_push_of_some _ z5
   refine wpAny_bind (wpAny_setField_rec z6 (by simp) fun g7 z7 e7=>?_)
   have z7:IsZq g7 z TI TO (rawInt g5.objs.size) fb:=z7
   refine wpAny_setField_rec z7 (by simp) fun g8 z8 e8=>?_
   have z8:IsZq g8 z TI TO (rawInt g5.objs.size) false:=z8
   have up:∀ e o,e≠z→g5.get? e=some o→g8.get? e=some o:=fun e o n1 q=>e8.extBut _ _ n1 (e7.extBut _ _ n1 (Heap.get?_push_of_some _ q))
   have T8:IsPair g8 g5.objs.size (.str ⟨#[c]⟩ s.toks) (.str ⟨#[d]⟩ (s.toks+1)):=e8.extBut _ _ (Nat.ne_of_gt zlt) (e7.extBut _ _ (Nat.ne_of_gt zlt) (Heap.get?_push_size _ rfl))
   rw [hsz] at z8 T8
   refine wpAny_pure ⟨_,rfl,?_⟩
   show Q (.ref g5.objs.size) _
   rw [hsz]
   exact hQ g8 _ _ _ _ _ (.inr ⟨_,rfl⟩) z8 ⟨_,_,up _ _ D.TOz o5⟩ (let ⟨o,ho,r⟩:=j1';⟨o,up _ o D.i1z ho,r⟩) (let ⟨o,ho,r⟩:=j2';⟨o,up _ o D.i2z ho,r⟩) T8 (fun e o n1 n2 n3 n4 q=>up e o n1 (kk e o n1 n2 n3 n4 q)) (by rw [e8.1,e7.1,Heap.size_push,hsz])
  | some ob =>
   simp only [Option.isNone_some,Bool.false_eq_true,if_false]
   refine wpAny_bind (wpAny_field hz rfl (x:=.bool fb) rfl ?_)
   cases fb with
   | true =>
    rw [if_neg (by simp)]
    refine wpAny_pure ?_
    simp only [Bool.false_eq_true,if_false]
    refine wpAny_bind ?_
    simp only [List.forIn_toArray,List.forIn_cons,List.forIn_nil]
    refine wpAny_bind (wpAny_bind (wpAny_holding ?_))
    show wpAny _ _ (Builtin.SmallTypes.nextOf (.ref i1) >>= _) _ _ _
    refine wpAny_bind (wpAny_nextOf_ascii_item h1 hx fun g2 j1 e2=>wpAny_pure (wpAny_pure ?_))
    refine wpAny_bind (wpAny_bind (wpAny_holding ?_))
    show wpAny _ _ (Builtin.SmallTypes.nextOf (.ref i2) >>= _) _ _ _
    refine wpAny_bind (wpAny_nextOf_ascii_item ((h2).extBut e2.extBut D.i12.symm) hy fun g3 j2 e3=>wpAny_pure (wpAny_pure (wpAny_pure ?_)))
    refine wpAny_bind (wpAny_newTuple (wpAny_pure ⟨_,rfl,?_⟩) (by show 2≤sizeLine;decide))
    have hsz:g3.objs.size=s.heap.objs.size:=by rw [e3.1,e2.1]
    show Q (.ref g3.objs.size) _
    have T4:IsPair (g3.push { cls:=.type "tuple",data:=.seq #[.str ⟨#[c]⟩ s.toks,.str ⟨#[d]⟩ (s.toks+1)] }) g3.objs.size (.str ⟨#[c]⟩ s.toks) (.str ⟨#[d]⟩ (s.toks+1)):=Heap.get?_push_size _ rfl
    rw [hsz] at T4 ⊢
    have kk:∀ e o,e≠z→e≠i1→e≠i2→s.heap.get? e=some o→(g3.push { cls:=.type "tuple",data:=.seq #[.str ⟨#[c]⟩ s.toks,.str ⟨#[d]⟩ (s.toks+1)] }).get? e=some o:=fun e o n1 n3 n4 q=>Heap.get?_push_of_some _ (e3.extBut _ _ n4 (e2.extBut _ _ n3 (q)))
    refine hQ _ _ _ _ (rawInt n) true (.inr ⟨n,rfl⟩) (Heap.get?_push_of_some _ (e3.extBut _ _ D.i2z.symm (e2.extBut _ _ D.i1z.symm hz))) ⟨_,_,kk _ _ D.TOz D.TOi1 D.TOi2 hTO⟩ ?_ ?_ T4 (fun e o n1 _ n3 n4 q=>kk e o n1 n3 n4 q) (by rw [Heap.size_push,hsz])
    ·obtain ⟨o,ho,r⟩:=j1.extBut e3.extBut D.i12
     exact ⟨o,Heap.get?_push_of_some _ ho,r⟩
    ·obtain ⟨o,ho,r⟩:=j2
     exact ⟨o,Heap.get?_push_of_some _ ho,r⟩
   | false =>
    rw [if_pos (by decide)]
    refine wpAny_bind (wpAny_setField_rec hz (by simp) fun g0 z0 e0=>wpAny_pure ?_)
    have z0:IsZq g0 z TI TO (rawInt n) true:=z0
    simp only [Bool.false_eq_true,if_false]
    refine wpAny_bind ?_
    simp only [List.forIn_toArray,List.forIn_cons,List.forIn_nil]
    refine wpAny_bind (wpAny_bind (wpAny_holding ?_))
    show wpAny _ _ (Builtin.SmallTypes.nextOf (.ref i1) >>= _) _ _ _
    refine wpAny_bind (wpAny_nextOf_ascii_item (h1.extBut e0.extBut D.i1z) hx fun g2 j1 e2=>wpAny_pure (wpAny_pure ?_))
    refine wpAny_bind (wpAny_bind (wpAny_holding ?_))
    show wpAny _ _ (Builtin.SmallTypes.nextOf (.ref i2) >>= _) _ _ _
    refine wpAny_bind (wpAny_nextOf_ascii_item ((h2.extBut e0.extBut D.i2z).extBut e2.extBut D.i12.symm) hy fun g3 j2 e3=>wpAny_pure (wpAny_pure (wpAny_pure ?_)))
    refine wpAny_bind (wpAny_newTuple (wpAny_pure ⟨_,rfl,?_⟩) (by show 2≤sizeLine;decide))
    have hsz:g3.objs.size=s.heap.objs.size:=by rw [e3.1,e2.1,e0.1]
    show Q (.ref g3.objs.size) _
    have T4:IsPair (g3.push { cls:=.type "tuple",data:=.seq #[.str ⟨#[c]⟩ s.toks,.str ⟨#[d]⟩ (s.toks+1)] }) g3.objs.size (.str ⟨#[c]⟩ s.toks) (.str ⟨#[d]⟩ (s.toks+1)):=Heap.get?_push_size _ rfl
    rw [hsz] at T4 ⊢
    have kk:∀ e o,e≠z→e≠i1→e≠i2→s.heap.get? e=some o→(g3.push { cls:=.type "tuple",data:=.seq #[.str ⟨#[c]⟩ s.toks,.str ⟨#[d]⟩ (s.toks+1)] }).get? e=some o:=fun e o n1 n3 n4 q=>Heap.get?_push_of_some _ (e3.extBut _ _ n4 (e2.extBut _ _ n3 (e0.extBut _ _ n1 q)))
    refine hQ _ _ _ _ (rawInt n) true (.inr ⟨n,rfl⟩) (Heap.get?_push_of_some _ (e3.extBut _ _ D.i2z.symm (e2.extBut _ _ D.i1z.symm z0))) ⟨_,_,kk _ _ D.TOz D.TOi1 D.TOi2 hTO⟩ ?_ ?_ T4 (fun e o n1 _ n3 n4 q=>kk e o n1 n3 n4 q) (by rw [Heap.size_push,hsz])
    ·obtain ⟨o,ho,r⟩:=j1.extBut e3.extBut D.i12
     exact ⟨o,Heap.get?_push_of_some _ ho,r⟩
    ·obtain ⟨o,ho,r⟩:=j2
     exact ⟨o,Heap.get?_push_of_some _ ho,r⟩
theorem zipQ_end {f0:Value}{fb:Bool}{Q:Fin→Shared→Prop}(hh:A.handled=none)(D:Ap5 z TI TO i1 i2)(hf:f0 = .none ∨ ∃ n:Nat,f0=rawInt n)
  (hz:IsZq s.heap z TI TO f0 fb) (hTI:IsPair s.heap TI (.ref i1) (.ref i2)) (hTO:IsPair s.heap TO a b) (h1:AsIt s.heap i1 x t k) (h2:AsIt s.heap i2 y u k) (hend:x.cps[k]? = none ∨ y.cps[k]? = none)
  (hE:∀ h' tk e,(∀ c o,c≠z→c≠TO→c≠i1→c≠i2→s.heap.get? c=some o→h'.get? c=some o)→(∃ o,h'.get? e=some o∧o.cls = .type "StopIteration")→E (.ref e) { s with heap:=h',toks:=tk }) :
  wpAny (model prog w) A (Builtin.«zip.__next__» ⟨[.ref z],[]⟩) Q E s:=by
 show wpAny _ _ (field (.ref z) 2 >>= _) _ _ _
 refine wpAny_bind (wpAny_field hz rfl (x:=.bool false) rfl ?_)
 show wpAny _ _ (field (.ref z) 3 >>= _) _ _ _
 refine wpAny_bind (wpAny_field hz rfl (x:=.ref TI) rfl (wpAny_bind (wpAny_seqItems hTI rfl ?_)))
 show wpAny _ _ (Builtin.SmallTypes.ownedTupleIsFree (.ref z) >>= _) _ _ _
 refine wpAny_bind ?_
 unfold Builtin.SmallTypes.ownedTupleIsFree
 rcases hf with rfl | ⟨n,rfl⟩
 ·refine wpAny_bind (wpAny_field hz rfl (x:=.none) rfl (wpAny_pure ?_))
  simp only [if_true]
  refine wpAny_bind (wpAny_rule (wpAny_bind (wpAny_field hz rfl (x:=.ref TO) rfl (wpAny_bind (wpAny_setField_rec hz (by simp) fun g1 hz1 e1=>?_)))))
  have hz1:IsZq g1 z TI TO .ellipsis fb:=hz1
  refine wpAny_bind ?_
  simp only [List.zipIdx_cons,List.zipIdx_nil,List.forIn_cons,List.forIn_nil]
  refine wpAny_bind (wpAny_bind (wpAny_onRaise ?_))
  show wpAny _ _ (Builtin.SmallTypes.nextOf (.ref i1) >>= _) _ _ _
  cases hx:x.cps[k]? with
  | none =>
   refine wpAny_bind (wpAny_nextOf_ascii_end hh (h1.extBut e1.extBut D.i1z) hx fun g2 e e2 he=>?_)
   obtain ⟨oe,hoe,hce⟩:=he
   have z2:IsZq g2 z TI TO .ellipsis fb:=e2 _ _ D.i1z.symm hz1
   have hez:e≠z:=fun q=>by subst q;rw [z2] at hoe;cases hoe;simp at hce
   exact wpAny_setField_rec z2 (by simp) fun g3 _ e3=>hE g3 _ e (fun c o n1 _ n3 _ q=>e3.extBut _ _ n1 (e2 _ _ n3 (e1.extBut _ _ n1 q))) ⟨oe,e3.extBut _ _ hez hoe,hce⟩
  | some c =>
   have hy:y.cps[k]? = none:=by
    rcases hend with h | h
    ·rw [hx] at h;cases h
    ·exact h
   refine wpAny_bind (wpAny_nextOf_ascii_item (h1.extBut e1.extBut D.i1z) hx fun g2 j1 e2=>wpAny_pure ?_)
   have o2:IsPair g2 TO a b:=e2.extBut _ _ D.TOi1 (e1.extBut _ _ D.TOz hTO)
   refine wpAny_bind (wpAny_seqItems o2 rfl (wpAny_bind (wpAny_updateSeq_pair o2 fun g3 o3 e3=>wpAny_bind (wpAny_letGo (wpAny_pure ?_)))))
   refine wpAny_bind (wpAny_bind (wpAny_onRaise ?_))
   show wpAny _ _ (Builtin.SmallTypes.nextOf (.ref i2) >>= _) _ _ _
   refine wpAny_bind (wpAny_nextOf_ascii_end hh (((h2.extBut e1.extBut D.i2z).extBut e2.extBut D.i12.symm).extBut e3.extBut D.TOi2.symm) hy fun g4 e e4 he=>?_)
   obtain ⟨oe,hoe,hce⟩:=he
   have z4:IsZq g4 z TI TO .ellipsis fb:=e4 _ _ D.i2z.symm (e3.extBut _ _ D.TOz.symm (e2.extBut _ _ D.i1z.symm hz1))
   have hez:e≠z:=fun q=>by subst q;rw [z4] at hoe;cases hoe;simp at hce
   exact wpAny_setField_rec z4 (by simp) fun g5 _ e5=>hE g5 _ e (fun c o n1 n2 n3 n4 q=>e5.extBut _ _ n1 (e4 _ _ n4 (e3.extBut _ _ n2 (e2.extBut _ _ n3 (e1.extBut _ _ n1 q))))) ⟨oe,e5.extBut _ _ hez hoe,hce⟩
 ·refine wpAny_bind (wpAny_field hz rfl (x:=rawInt n) rfl ?_)
  dsimp only [rawInt]
  refine wpAny_bind (zeu ?_)
  cases al:s.heap.get? (n:Int).toNat with
  | none =>
   simp only [Option.isNone_none,if_true]
   refine wpAny_pure ?_
   simp only [if_true]
   refine wpAny_bind (wpAny_rule (wpAny_bind (wpAny_field hz rfl (x:=.ref TO) rfl (wpAny_bind (wpAny_setField_rec hz (by simp) fun g1 hz1 e1=>?_)))))
   have hz1:IsZq g1 z TI TO .ellipsis fb:=hz1
   refine wpAny_bind ?_
   simp only [List.zipIdx_cons,List.zipIdx_nil,List.forIn_cons,List.forIn_nil]
   refine wpAny_bind (wpAny_bind (wpAny_onRaise ?_))
   show wpAny _ _ (Builtin.SmallTypes.nextOf (.ref i1) >>= _) _ _ _
   cases hx:x.cps[k]? with
   | none =>
    refine wpAny_bind (wpAny_nextOf_ascii_end hh (h1.extBut e1.extBut D.i1z) hx fun g2 e e2 he=>?_)
    obtain ⟨oe,hoe,hce⟩:=he
    have z2:IsZq g2 z TI TO .ellipsis fb:=e2 _ _ D.i1z.symm hz1
    have hez:e≠z:=fun q=>by subst q;rw [z2] at hoe;cases hoe;simp at hce
    exact wpAny_setField_rec z2 (by simp) fun g3 _ e3=>hE g3 _ e (fun c o n1 _ n3 _ q=>e3.extBut _ _ n1 (e2 _ _ n3 (e1.extBut _ _ n1 q))) ⟨oe,e3.extBut _ _ hez hoe,hce⟩
   | some c =>
    have hy:y.cps[k]? = none:=by
     rcases hend with h | h
     ·rw [hx] at h;cases h
     ·exact h
    refine wpAny_bind (wpAny_nextOf_ascii_item (h1.extBut e1.extBut D.i1z) hx fun g2 j1 e2=>wpAny_pure ?_)
    have o2:IsPair g2 TO a b:=e2.extBut _ _ D.TOi1 (e1.extBut _ _ D.TOz hTO)
    refine wpAny_bind (wpAny_seqItems o2 rfl (wpAny_bind (wpAny_updateSeq_pair o2 fun g3 o3 e3=>wpAny_bind (wpAny_letGo (wpAny_pure ?_)))))
    refine wpAny_bind (wpAny_bind (wpAny_onRaise ?_))
    show wpAny _ _ (Builtin.SmallTypes.nextOf (.ref i2) >>= _) _ _ _
    refine wpAny_bind (wpAny_nextOf_ascii_end hh (((h2.extBut e1.extBut D.i2z).extBut e2.extBut D.i12.symm).extBut e3.extBut D.TOi2.symm) hy fun g4 e e4 he=>?_)
    obtain ⟨oe,hoe,hce⟩:=he
    have z4:IsZq g4 z TI TO .ellipsis fb:=e4 _ _ D.i2z.symm (e3.extBut _ _ D.TOz.symm (e2.extBut _ _ D.i1z.symm hz1))
    have hez:e≠z:=fun q=>by subst q;rw [z4] at hoe;cases hoe;simp at hce
    exact wpAny_setField_rec z4 (by simp) fun g5 _ e5=>hE g5 _ e (fun c o n1 n2 n3 n4 q=>e5.extBut _ _ n1 (e4 _ _ n4 (e3.extBut _ _ n2 (e2.extBut _ _ n3 (e1.extBut _ _ n1 q))))) ⟨oe,e5.extBut _ _ hez hoe,hce⟩
  | some ob =>
   simp only [Option.isNone_some,Bool.false_eq_true,if_false]
   refine wpAny_bind (wpAny_field hz rfl (x:=.bool fb) rfl ?_)
   cases fb with
   | true =>
    rw [if_neg (by simp)]
    refine wpAny_pure ?_
    simp only [Bool.false_eq_true,if_false]
    refine wpAny_bind ?_
    simp only [List.forIn_toArray,List.forIn_cons,List.forIn_nil]
    refine wpAny_bind (wpAny_bind (wpAny_holding ?_))
    show wpAny _ _ (Builtin.SmallTypes.nextOf (.ref i1) >>= _) _ _ _
    cases hx:x.cps[k]? with
    | none =>
     refine wpAny_bind (wpAny_nextOf_ascii_end hh h1 hx fun g2 e e2 he=>?_)
     exact hE g2 _ e (fun c o n1 _ n3 _ q=>e2 _ _ n3 (q)) he
    | some c =>
     have hy:y.cps[k]? = none:=by
      rcases hend with h | h
      ·rw [hx] at h;cases h
      ·exact h
     refine wpAny_bind (wpAny_nextOf_ascii_item h1 hx fun g2 j1 e2=>wpAny_pure (wpAny_pure ?_))
     refine wpAny_bind (wpAny_bind (wpAny_holding ?_))
     show wpAny _ _ (Builtin.SmallTypes.nextOf (.ref i2) >>= _) _ _ _
     refine wpAny_bind (wpAny_nextOf_ascii_end hh ((h2).extBut e2.extBut D.i12.symm) hy fun g3 e e3 he=>?_)
     exact hE g3 _ e (fun c o n1 _ n3 n4 q=>e3 _ _ n4 (e2.extBut _ _ n3 (q))) he
   | false =>
    rw [if_pos (by decide)]
    refine wpAny_bind (wpAny_setField_rec hz (by simp) fun g0 z0 e0=>wpAny_pure ?_)
    simp only [Bool.false_eq_true,if_false]
    refine wpAny_bind ?_
    simp only [List.forIn_toArray,List.forIn_cons,List.forIn_nil]
    refine wpAny_bind (wpAny_bind (wpAny_holding ?_))
    show wpAny _ _ (Builtin.SmallTypes.nextOf (.ref i1) >>= _) _ _ _
    cases hx:x.cps[k]? with
    | none =>
     refine wpAny_bind (wpAny_nextOf_ascii_end hh (h1.extBut e0.extBut D.i1z) hx fun g2 e e2 he=>?_)
     exact hE g2 _ e (fun c o n1 _ n3 _ q=>e2 _ _ n3 (e0.extBut _ _ n1 q)) he
    | some c =>
     have hy:y.cps[k]? = none:=by
      rcases hend with h | h
      ·rw [hx] at h;cases h
      ·exact h
     refine wpAny_bind (wpAny_nextOf_ascii_item (h1.extBut e0.extBut D.i1z) hx fun g2 j1 e2=>wpAny_pure (wpAny_pure ?_))
     refine wpAny_bind (wpAny_bind (wpAny_holding ?_))
     show wpAny _ _ (Builtin.SmallTypes.nextOf (.ref i2) >>= _) _ _ _
     refine wpAny_bind (wpAny_nextOf_ascii_end hh ((h2.extBut e0.extBut D.i2z).extBut e2.extBut D.i12.symm) hy fun g3 e e3 he=>?_)
     exact hE g3 _ e (fun c o n1 _ n3 n4 q=>e3 _ _ n4 (e2.extBut _ _ n3 (e0.extBut _ _ n1 q))) he
theorem zfc {v:Value→Shared→Prop}{e:Value→Shared→Prop}(hT:s.TypeIs (.ref z) "zip")(h:wpAny (model prog w) A.in1 (Builtin.«zip.__next__» ⟨[.ref z],[]⟩) (fun fin s'=>∃ r,fin = .done (.ret r)∧v r s') e s) :
  wpAny (model prog w) A (Builtin.SmallTypes.nextOf (.ref z)) v e s:=by
 unfold Builtin.SmallTypes.nextOf
 exact wpAny_bind (wpAny_callSpecial?_slot (name:=Str.ofString "__next__") hT F.slot_zip_next (wpAny_call_entry F.slot_zip_next hT F.entry_zip_next (wpAny_mono h (fun f s' q=>by obtain ⟨r,e,q⟩:=q;exact ⟨r,e,wpAny_pure q⟩) fun _ _ q=>q) (F.args_zip_next_1 _)))
theorem zi7 {e:Addr}{i:Nat}{old f0:Value}{fb:Bool}{Q:Option Value→Shared→Prop}(D:Ap5 z TI TO i1 i2)(ne:e≠z∧e≠TI∧e≠TO∧e≠i1∧e≠i2)(he:IsEnum s.heap e z i old)(hf:f0 = .none ∨ ∃ n:Nat,f0=rawInt n)
  (hz:IsZq s.heap z TI TO f0 fb) (hTI:IsPair s.heap TI (.ref i1) (.ref i2)) (hTO:IsPair s.heap TO a b) (h1:AsIt s.heap i1 x t k) (h2:AsIt s.heap i2 y u k) (hx:x.cps[k]? = some c) (hy:y.cps[k]? = some d)
  (hQ:∀ h' tk t1 t2 t3 f0' fb',(f0'=Value.none ∨ ∃ n:Nat,f0'=rawInt n)→IsZq h' z TI TO f0' fb'→IsPair h' TI (.ref i1) (.ref i2)→(∃ a b,IsPair h' TO a b)→AsIt h' i1 x t (k+1)→AsIt h' i2 y u (k+1) →
   IsPair h' s.heap.objs.size (.str ⟨#[c]⟩ t1) (.str ⟨#[d]⟩ t2)→IsPair h' (s.heap.objs.size+1) (.int i t3) (.ref s.heap.objs.size)→IsEnumOut h' e z ((i:Int)+1) (.ref s.heap.objs.size) (s.heap.objs.size+1) →
   (∀ g o,g≠e→g≠z→g≠TO→g≠i1→g≠i2→s.heap.get? g=some o→h'.get? g=some o)→Q (some (.ref (s.heap.objs.size+1))) { s with heap:=h',toks:=tk }) :
  wpAny (model prog w) A (pyNext (.ref e)) Q E s:=by
 have hT:s.TypeIs (.ref e) "enumerate":=⟨_,he,rfl⟩
 have hel:e < s.heap.objs.size:=Heap.lt_size he
 unfold pyNext
 refine wpAny_bind (wpAny_attempt (wpAny_callSpecial?_slot (name:=Str.ofString "__next__") hT F.slot_enumerate_next (wpAny_call_entry F.slot_enumerate_next hT F.entry_enumerate_next ?_ (F.args_enumerate_next_1 _))))
 show wpAny _ _ (field (.ref e) 2 >>= _) _ _ _
 refine wpAny_bind (wpAny_field he rfl (x:=.ref z) rfl ?_)
 refine wpAny_bind (zfc ⟨_,hz,rfl⟩ (zipQ_item D hf hz hTI hTO h1 h2 hx hy fun g1 tk t1 t2 f0' fb' hf' z1 o1 j1 j2 p1 k1 z0=>?_))
 have x1:IsEnum g1 e z i old:=k1 e _ ne.1 ne.2.2.1 ne.2.2.2.1 ne.2.2.2.2 he
 have nT:s.heap.objs.size≠e:=Nat.ne_of_gt hel
 show wpAny _ _ (field (.ref e) 3 >>= _) _ _ _
 refine wpAny_bind (wpAny_field x1 rfl (x:=rawInt i) rfl ?_)
 show wpAny _ _ (field (.ref e) 4 >>= _) _ _ _
 refine wpAny_bind (wpAny_field x1 rfl (x:=.none) rfl ?_)
 show wpAny _ _ (mkInt i >>= _) _ _ _
 refine wpAny_bind (wpAny_mkInt ?_)
 show wpAny _ _ (setField (.ref e) 3 (rawInt ((i:Int)+1)) >>= _) _ _ _
 refine wpAny_bind (wpAny_setField_rec x1 (by simp) fun g2 x2 e2=>?_)
 have x2:IsEnum g2 e z ((i:Int)+1) old:=x2
 show wpAny _ _ (setField (.ref e) 4 .none >>= _) _ _ _
 refine wpAny_bind (wpAny_setField_rec x2 (by simp) fun g3 x3 e3=>?_)
 have x3:IsEnum g3 e z ((i:Int)+1) old:=x3
 have sz3:g3.objs.size=s.heap.objs.size+1:=by
  rw [e3.1,e2.1]
  exact z0
 refine wpAny_bind (wpAny_newTuple ?_)
 have x4:IsEnum (g3.push { cls:=.type "tuple",data:=.seq #[.int i tk,.ref s.heap.objs.size] }) e z ((i:Int)+1) old:=Heap.get?_push_of_some _ x3
 have T4:IsPair (g3.push { cls:=.type "tuple",data:=.seq #[.int i tk,.ref s.heap.objs.size] }) g3.objs.size (.int i tk) (.ref s.heap.objs.size):=Heap.get?_push_size _ rfl
 show wpAny _ _ (Builtin.SmallTypes.ownedTupleIsFree (.ref e) >>= _) _ _ _
 rw [sz3] at T4 ⊢
 have nT2:s.heap.objs.size+1≠e:=Nat.ne_of_gt (Nat.lt_succ_of_lt hel)
 have kp4:∀ g o,g≠e→g1.get? g=some o→(g3.push { cls:=.type "tuple",data:=.seq #[.int i tk,.ref s.heap.objs.size] }).get? g=some o:=fun g o n q=>Heap.get?_push_of_some _ (e3.extBut _ _ n (e2.extBut _ _ n q))
 generalize g3.push { cls:=.type "tuple",data:=.seq #[.int i tk,.ref s.heap.objs.size] }=g4 at x4 T4 kp4 ⊢
 refine wpAny_bind ?_
 unfold Builtin.SmallTypes.ownedTupleIsFree
 refine wpAny_bind (wpAny_field x4 rfl (x:=.none) rfl (wpAny_pure ?_))
 simp only [if_true]
 refine wpAny_bind (wpAny_rule (wpAny_bind (wpAny_field x4 rfl (x:=old) rfl (wpAny_bind (wpAny_setField_rec x4 (by simp) fun g5 x5 e5=>?_)))))
 have x5:IsEnum g5 e z ((i:Int)+1) (.ref s.heap.objs.size):=x5
 refine wpAny_bind ?_
 unfold Builtin.SmallTypes.ownedTupleHandOut
 refine wpAny_bind (wpAny_setField_rec x5 (by simp) fun g6 x6 e6=>?_)
 have x6:IsEnumOut g6 e z ((i:Int)+1) (.ref s.heap.objs.size) (s.heap.objs.size+1):=x6
 refine wpAny_setField_rec x6 (by simp) fun g7 x7 e7=>?_
 have x7:IsEnumOut g7 e z ((i:Int)+1) (.ref s.heap.objs.size) (s.heap.objs.size+1):=x7
 have up:∀ g o,g≠e→g4.get? g=some o→g7.get? g=some o:=fun g o n q=>e7.extBut _ _ n (e6.extBut _ _ n (e5.extBut _ _ n q))
 have al:∀ g o,g≠e→g1.get? g=some o→g7.get? g=some o:=fun g o n q=>up g o n (kp4 g o n q)
 obtain ⟨oa,ob,o1⟩:=o1
 refine wpAny_bind (wpAny_letGo (wpAny_pure ⟨_,rfl,wpAny_pure (hQ g7 (tk+1) t1 t2 tk f0' fb' hf' (al _ _ ne.1.symm z1) (al _ _ ne.2.1.symm (k1 _ _ D.TIz D.TITO D.TIi1 D.TIi2 hTI)) ⟨oa,ob,al _ _ ne.2.2.1.symm o1⟩ ?_ ?_ (al _ _ nT p1) (up _ _ nT2 T4) x7 fun g o n1 n2 n3 n4 n5 q=>al g o n1 (k1 g o n2 n3 n4 n5 q))⟩))
 ·obtain ⟨o,ho,r⟩:=j1
  exact ⟨o,al _ _ ne.2.2.2.1.symm ho,r⟩
 ·obtain ⟨o,ho,r⟩:=j2
  exact ⟨o,al _ _ ne.2.2.2.2.symm ho,r⟩
theorem enumZ_end {e:Addr}{i:Int}{old f0:Value}{fb:Bool}{Q:Option Value→Shared→Prop}(hh:A.handled=none)(D:Ap5 z TI TO i1 i2)(he:IsEnum s.heap e z i old)(hf:f0 = .none ∨ ∃ n:Nat,f0=rawInt n)
  (hz:IsZq s.heap z TI TO f0 fb) (hTI:IsPair s.heap TI (.ref i1) (.ref i2)) (hTO:IsPair s.heap TO a b) (h1:AsIt s.heap i1 x t k) (h2:AsIt s.heap i2 y u k) (hend:x.cps[k]? = none ∨ y.cps[k]? = none)
  (hQ:∀ h' tk,(∀ c o,c≠z→c≠TO→c≠i1→c≠i2→s.heap.get? c=some o→h'.get? c=some o)→Q none { s with heap:=h',toks:=tk }):wpAny (model prog w) A (pyNext (.ref e)) Q E s:=by
 have hT:s.TypeIs (.ref e) "enumerate":=⟨_,he,rfl⟩
 unfold pyNext
 refine wpAny_bind (wpAny_attempt (wpAny_callSpecial?_slot (name:=Str.ofString "__next__") hT F.slot_enumerate_next (wpAny_call_entry F.slot_enumerate_next hT F.entry_enumerate_next ?_ (F.args_enumerate_next_1 _))))
 show wpAny _ _ (field (.ref e) 2 >>= _) _ _ _
 refine wpAny_bind (wpAny_field he rfl (x:=.ref z) rfl ?_)
 refine wpAny_bind (zfc ⟨_,hz,rfl⟩ (zipQ_end (by simpa using hh) D hf hz hTI hTO h1 h2 hend fun g tk ev kk hs=>?_))
 obtain ⟨o,ho,hc⟩:=hs
 refine wpAny_bind (wpAny_isInstance (T:="StopIteration") (b:=true) ⟨o,ho,hc⟩ isSubtype_stop ?_)
 exact wpAny_pure (hQ _ _ kk)
set_option maxHeartbeats 1000000 in
theorem meets_enZ (z TI TO:Addr) :
  Meets (Builtin.«enumerate.__new__» ⟨[.type "enumerate",.ref z],[]⟩) (fun _ R s=>IsZip s.heap z TI TO .none ∧
   R (.ok (.ret (.ref s.heap.objs.size))) { s with heap:=s.heap.push { cls:=.type "enumerate",data:=.fields #[.none,.bool false,.ref z,rawInt 0,.none,.none] } }) :=
 .of_wp fun prog w A R s h=>by
  obtain ⟨hp,gg,dd,tk,os⟩:=s;obtain ⟨ht,h⟩:=h
  have hsub:=sub_enumerate
  wp_walk using AutoSeq1.wpAny_loadPart' ht
  refine wpAny_stack_any fun stk=>wpAny_pure ?_
  split
  ·rename_i cc _ _ _ _ _
   cases (cc == Value.type "enumerate")
   ·(wp_walk using AutoSeq1.wpAny_loadPart' ht,wpAny_pyIter_zip ht);exact ⟨_,rfl,h⟩
   ·(wp_walk using AutoSeq1.wpAny_loadPart' ht,wpAny_pyIter_zip ht);exact ⟨_,rfl,h⟩
  ·(wp_walk using AutoSeq1.wpAny_loadPart' ht,wpAny_pyIter_zip ht);exact ⟨_,rfl,h⟩
theorem call_enZ {Q:Value→Shared→Prop}(hz:IsZip s.heap z TI TO .none)
  (h:∀ h',IsEnum h' s.heap.objs.size z 0 .none→(∀ b o,s.heap.get? b=some o→h'.get? b=some o)→Q (.ref s.heap.objs.size) { s with heap:=h' }) :
  wpAny (model prog w) A (call (.type "enumerate") [.ref z]) Q E s:=by
 refine callType_new F.called_enumerate (by decide) (F.typeCall_enumerate_1 _) (F.newCall_enumerate_1 _) (fun ob=>F.args_object_init_2 ob _) F.entry_enumerate_new (meets_enZ z TI TO) ⟨hz,?_⟩
 show _∧_
 have he:=Heap.get?_push_size s.heap (o:={ cls:=.type "enumerate",data:=.fields #[.none,.bool false,.ref z,rawInt 0,.none,.none] }) rfl
 exact ⟨⟨_,he,rfl⟩,h _ he fun b o q=>Heap.get?_push_of_some _ q⟩
end
end PySem
namespace L2
open PySem PySem.Spec PyProof.Rows
noncomputable def Itzz (x y:Str):It:=⟨fun i _=>i < min x.cps.size y.cps.size,
 fun i H v H'=>∃ (T U:Addr) (c d:Nat),H T=none∧H U=none∧U≠T∧v = .ref T∧x.cps[i]? = some c∧y.cps[i]? = some d∧H'=upd (upd H U (.tup [.str ⟨#[c]⟩,.str ⟨#[d]⟩])) T (.tup [.int i,.ref U]),
 fun i _=>i=min x.cps.size y.cps.size⟩
theorem Inv.stepT2 {X:Cx}{pins:List (Addr × Obj)}{σ:St}{H:Hp}{s:Shared}{h':Heap}{t':Nat}{ch:List Addr}{T U:Addr}{xs ys:List V}{its jts:List Value}(I:Inv X pins σ H s)(hf:∀ b∈ch,FpOk X pins H b)
  (k:∀ b o,b∉ch→s.heap.get? b=some o→h'.get? b=some o) (hT:s.heap.objs.size≤T) (hU:s.heap.objs.size≤U) (hUT:U≠T) (hz:xs.length≤sizeLine) (hy:ys.length≤sizeLine) (rv:Vals xs its) (rw_:Vals ys jts) (ht:IsTup h' T its.toArray) (hu:IsTup h' U jts.toArray) (hnd:NoD h' T) (hne:NoD h' U)
  (there:∀ b∈ch,∃ o,s.heap.get? b=some o):Inv X pins σ (upd (upd H U (.tup ys)) T (.tup xs)) { s with heap:=h',toks:=t' }:=by
 have hn:H T=none:=I.hok.fresh hT
 have hm:H U=none:=I.hok.fresh hU
 have ne:∀ {b o},s.heap.get? b=some o→b≠T:=fun e=>Nat.ne_of_lt (Nat.lt_of_lt_of_le (Heap.lt_size e) hT)
 have ne2:∀ {b o},s.heap.get? b=some o→b≠U:=fun e=>Nat.ne_of_lt (Nat.lt_of_lt_of_le (Heap.lt_size e) hU)
 have nch:∀ {b u},H b=some u→b∉ch:=fun e z=>by rw [(hf _ z).1] at e;cases e
 have up:∀ {b u},H b=some u→upd (upd H U (.tup ys)) T (.tup xs) b=some u:=fun e=>by rw [zai (zah e hn),zai (zah e hm)];exact e
 refine I.step (g':=s.gens) (d':=s.drawn) (ch:=ch) (fun b hb=>?_) (fun b o _ _ hc e _=>k b o hc e) (fun b o _ _ hc e _=>⟨o.slots,k b o hc e⟩) (fun b o _ e n=>by rw [zai (ne e),zai (ne2 e)];exact n) (fun b o hc e=>⟨o,k b o hc e⟩)
  (fun b zs e=>up e) (fun b o u e=>up e) (fun b ps e=>⟨#[],by rw [up e];simp⟩) (fun m hm=>?_) (fun b u e=>?_) I.bare
 ·obtain ⟨_,f1,_,f3,f4,f5⟩:=hf b hb
  exact ⟨f3,f1,f4,f5⟩
 ·obtain ⟨o,es,ep,ho,r⟩:=hm
  exact ⟨o,es,ep,k _ o (fun z=>(hf _ z).2.1 rfl) ho,r⟩
 ·by_cases hb:b=T
  ·subst hb
   rw [zac] at e
   cases e
   exact ⟨hz,its,rv,ht,hnd⟩
  ·rw [zai hb] at e
   by_cases hb2:b=U
   ·subst hb2
    rw [zac] at e
    cases e
    exact ⟨hy,jts,rw_,hu,hne⟩
   ·rw [zai hb2] at e
    refine (I.hok b u e).stay (fun c v hc q=>k c v ?_ q) (fun c q=>up q) fun c zs q=>up q
    rcases hc with z | z
    ·rw [z];exact nch e
    ·exact nch z
theorem turn_enZ {P:Program}{w:World}{K:PySem.W.Frag}{elts:List Expr}{k:Nat}{pos:Pos}{e z TI TO i1 i2:Addr}(x y:Str)(t u:Tok)(D:Ap5 z TI TO i1 i2)(ne:e≠z∧e≠TI∧e≠TO∧e≠i1∧e≠i2) :
  Turn P w K (.Tuple elts k pos) (Itzz x y) [e,z,TI,TO,i1,i2] e (fun i h=>(∃ old,IsEnum h e z (i:Int) old)∧(∃ f0 fb,(f0=Value.none ∨ ∃ n:Nat,f0=rawInt n)∧IsZq h z TI TO f0 fb)∧IsPair h TI (.ref i1) (.ref i2)∧(∃ a b,IsPair h TO a b)∧AsIt h i1 x t i∧AsIt h i2 y u i) where
 mem:=by simp
 obj:=fun i h st b hb=>by
  obtain ⟨⟨old,s0⟩,⟨f0,fb,hf,s1⟩,s2,⟨a,c,s3⟩,⟨o1,s4,_,d4⟩,⟨o2,s5,_,d5⟩⟩:=st
  simp only [List.mem_cons,List.not_mem_nil,or_false] at hb
  rcases hb with rfl | rfl | rfl | rfl | rfl | rfl
  ·exact ⟨_,s0,fun v q=>by cases q⟩
  ·exact ⟨_,s1,fun v q=>by cases q⟩
  ·exact ⟨_,s2,fun v q=>by cases q⟩
  ·exact ⟨_,s3,fun v q=>by cases q⟩
  ·exact ⟨_,s4,fun v q=>by rw [d4] at q;cases q⟩
  ·exact ⟨_,s5,fun v q=>by rw [d5] at q;cases q⟩
 keep:=fun i h h' st kk=>by
  obtain ⟨⟨old,s0⟩,⟨f0,fb,hf,s1⟩,s2,⟨a,c,s3⟩,⟨o1,s4,r4⟩,⟨o2,s5,r5⟩⟩:=st
  exact ⟨⟨old,kk e (by simp) _ s0⟩,⟨f0,fb,hf,kk z (by simp) _ s1⟩,kk TI (by simp) _ s2,⟨a,c,kk TO (by simp) _ s3⟩,⟨o1,kk i1 (by simp) _ s4,r4⟩,⟨o2,kk i2 (by simp) _ s5,r5⟩⟩
 item:=by
  intro X hP hw hK hc i pins s σ H E I hf st hg
  subst hP hw hK
  have hg:i < min x.cps.size y.cps.size:=hg
  obtain ⟨⟨old,s0⟩,⟨f0,fb,hf0,s1⟩,s2,⟨a,c,s3⟩,s4,s5⟩:=st
  have hx:x.cps[i]? = some (x.cps[i]'(by omega)):=Array.getElem?_eq_getElem (by omega)
  have hy:y.cps[i]? = some (y.cps[i]'(by omega)):=Array.getElem?_eq_getElem (by omega)
  generalize x.cps[i]'(by omega)=c1 at hx
  generalize y.cps[i]'(by omega)=c2 at hy
  refine zi7 D ne s0 hf0 s1 s2 s3 s4 s5 hx hy fun h' tk t1 t2 t3 f0' fb' hf' b1 b2 b3 b4 b5 b6 b7 b8 b9=>⟨_,rfl,?_⟩
  refine wpAny_letOwnedTupleGo_enum b8 fun h2 c1' e2=>?_
  have there:∀ b∈[e,z,TI,TO,i1,i2],∃ o,s.heap.get? b=some o:=fun b hb=>by
   obtain ⟨o1,q4,_⟩:=s4
   obtain ⟨o2,q5,_⟩:=s5
   simp only [List.mem_cons,List.not_mem_nil,or_false] at hb
   rcases hb with rfl | rfl | rfl | rfl | rfl | rfl
   ·exact ⟨_,s0⟩
   ·exact ⟨_,s1⟩
   ·exact ⟨_,s2⟩
   ·exact ⟨_,s3⟩
   ·exact ⟨_,q4⟩
   ·exact ⟨_,q5⟩
  have kk:∀ b o,b∉[e,z,TI,TO,i1,i2]→s.heap.get? b=some o→h2.get? b=some o:=fun b o hb q=>by
   simp only [List.mem_cons,List.not_mem_nil,or_false,not_or] at hb
   exact e2.extBut _ _ hb.1 (b9 b o hb.1 hb.2.1 hb.2.2.2.1 hb.2.2.2.2.1 hb.2.2.2.2.2 q)
  have hel:=Heap.lt_size s0
  have n1:s.heap.objs.size≠e:=Nat.ne_of_gt hel
  have n2:s.heap.objs.size+1≠e:=Nat.ne_of_gt (Nat.lt_succ_of_lt hel)
  have I2:Inv X pins σ (upd (upd H s.heap.objs.size (.tup [.str ⟨#[c1]⟩,.str ⟨#[c2]⟩])) (s.heap.objs.size+1) (.tup [.int i,.ref s.heap.objs.size])) { s with heap:=h2,toks:=tk } :=
   I.stepT2 (ch:=[e,z,TI,TO,i1,i2]) (its:=[.int i t3,.ref s.heap.objs.size]) (jts:=[.str ⟨#[c1]⟩ t1,.str ⟨#[c2]⟩ t2]) hf kk (Nat.le_succ _) (Nat.le_refl _) (Nat.ne_of_lt (Nat.lt_succ_self _)) (by show 2≤sizeLine;decide) (by show 2≤sizeLine;decide) (.cons ⟨_,rfl⟩ (.cons rfl .nil)) (.cons ⟨_,rfl⟩ (.cons ⟨_,rfl⟩ .nil))
    ⟨_,e2.extBut _ _ n2 b7,rfl,_,rfl⟩ ⟨_,e2.extBut _ _ n1 b6,rfl,_,rfl⟩ ⟨_,e2.extBut _ _ n2 b7,rfl⟩ ⟨_,e2.extBut _ _ n1 b6,rfl⟩ there
  have hU:H s.heap.objs.size=none:=I.hok.fresh (Nat.le_refl _)
  have hT:H (s.heap.objs.size+1)=none:=I.hok.fresh (Nat.le_succ _)
  obtain ⟨oa,ob,b3⟩:=b3
  refine ⟨.ref (s.heap.objs.size+1),_,I2,rfl,⟨s.heap.objs.size+1,s.heap.objs.size,c1,c2,hT,hU,Nat.ne_of_lt (Nat.lt_succ_self _),rfl,hx,hy,rfl⟩,⟨⟨_,by simpa using c1'⟩,⟨f0',fb',hf',e2.extBut _ _ ne.1.symm b1⟩,e2.extBut _ _ ne.2.1.symm b2,⟨oa,ob,e2.extBut _ _ ne.2.2.1.symm b3⟩,b4.extBut e2.extBut ne.2.2.2.1.symm,b5.extBut e2.extBut ne.2.2.2.2.symm⟩,fun b hb=>?_⟩
  obtain ⟨o,q⟩:=there b hb
  rw [zai (Nat.ne_of_lt (Nat.lt_succ_of_lt (Heap.lt_size q))),zai (Nat.ne_of_lt (Heap.lt_size q))]
  exact (hf b hb).1
 done:=by
  intro X hP hw hK hc i pins s σ H E I hf st hg
  subst hP hw hK
  have hg:i=min x.cps.size y.cps.size:=hg
  obtain ⟨⟨old,s0⟩,⟨f0,fb,hf0,s1⟩,s2,⟨a,c,s3⟩,s4,s5⟩:=st
  refine enumZ_end (I.ok.hd hc) D s0 hf0 s1 s2 s3 s4 s5 ?_ fun h' tk kk=>⟨rfl,?_⟩
  ·by_cases hle:x.cps.size≤y.cps.size
   ·exact .inl (Array.getElem?_eq_none (by omega))
   ·exact .inr (Array.getElem?_eq_none (by omega))
  ·have nch:∀ {b u},H b=some u→b∉[e,z,TI,TO,i1,i2]:=fun e q=>by rw [(hf _ q).1] at e;cases e
   have k2:∀ b o,b∉[e,z,TI,TO,i1,i2]→s.heap.get? b=some o→h'.get? b=some o:=fun b o hb e=>by
    simp only [List.mem_cons,List.not_mem_nil,or_false,not_or] at hb
    exact kk b o hb.2.1 hb.2.2.2.1 hb.2.2.2.2.1 hb.2.2.2.2.2 e
   refine I.step (g':=s.gens) (d':=s.drawn) (ch:=[e,z,TI,TO,i1,i2]) (fun b hb=>?_) (fun b o _ _ hc e _=>k2 b o hc e) (fun b o _ _ hc e _=>⟨o.slots,k2 b o hc e⟩) (fun _ _ _ _ n=>n) (fun b o hc e=>⟨o,k2 b o hc e⟩)
    (fun _ _ e=>e) (fun _ _ _ e=>e) (fun b ps e=>⟨#[],by rw [e];simp⟩) (fun m hm=>?_) (fun b u e=>?_) I.bare
   ·obtain ⟨_,f1,_,f3,f4,f5⟩:=hf b hb
    exact ⟨f3,f1,f4,f5⟩
   ·obtain ⟨o,es,ep,ho,r⟩:=hm
    exact ⟨o,es,ep,k2 _ o (fun q=>(hf _ q).2.1 rfl) ho,r⟩
   ·refine (I.hok b u e).stay (fun c v hc q=>k2 c v ?_ q) (fun _ q=>q) fun _ _ q=>q
    rcases hc with q | q
    ·rw [q];exact nch e
    ·exact nch q
 self:=fun _ _ _ _ _ st h=>let ⟨⟨_,s1⟩,_⟩:=st;wpAny_pyIter_enum s1 h
section
variable {X:Cx}
inductive rStarts (x:V)(vs:List V)(H:Hp)(Q:VK):Prop
 | mk:∀ z y,(x = .str z)→(vs=[.str y])→(Q (.bl (Txt.startswith z y)) H)→rStarts x vs H Q
theorem mt_starts:MtR X "str.startswith" rStarts:=by
 intro pins s σ H x vs v us Q I rx rv h
 obtain ⟨z,y,rfl,rfl,q⟩:=h
 obtain ⟨t,rfl⟩:=rx
 obtain ⟨u1,rfl,⟨t1,rfl⟩⟩:=zcc rv
 exact SC.startswith ⟨.bl _,H,I,rfl,q⟩
noncomputable def iEnz (ta:TA):TI:=fun σ H R=>ta σ H fun vs H1=>∃ x y,vs=[.str x,.str y]∧x.cps.all (· < 128)=true∧y.cps.all (· < 128)=true∧R (Itzz x y) H1
theorem pi_enZ {a b:Expr}{ta:TA}{p p2 pos pos2 tp:Pos}{elts:List Expr}{k:Nat}(hg:Gl X "enumerate")(hm:X.mg "enumerate" = none)(hb:bootBuiltins "enumerate" = some (.type "enumerate"))(hg2:Gl X "zip")(hm2:X.mg "zip" = none)(hb2:bootBuiltins "zip" = some (.type "zip"))(ha:PA X [a,b] ta)
  (hs:starEach [a,b] X.env=(false,eval a X.env)::starEach [b] X.env:=by rfl) (hs2:(backTo pos2 (starEach [b] X.env)).any (·.1)=false:=by rfl)
  (hs3:starEach [.Call (.Name "zip" p2) [a,b] [] pos2] X.env=[(false,eval (.Call (.Name "zip" p2) [a,b] [] pos2) X.env)]:=by rfl) :
  PI X (.Tuple elts k tp) (.Call (.Name "enumerate" p) [.Call (.Name "zip" p2) [a,b] [] pos2] [] pos) (iEnz ta):=by
 intro pins s σ H R I h
 refine Call_ (zdm I hg hm hb (PyProof.Rows.callWith_type1 ?_ hs3 rfl))
 rw [hs3]
 show wpAny _ _ (spliced ((false,eval (.Call (.Name "zip" p2) [a,b] [] pos2) X.env)::[])) _ _ s
 refine Calls.spliced_cons ?_
 refine Call_ (zdm I hg2 hm2 hb2 (PyProof.Rows.callWith_type1 (thn (ha pos2 pins s σ H _ I h) fun us s1 zq1=>?_) hs hs2))
 obtain ⟨vs,H1,I1,r1,q1⟩:=zq1
 obtain ⟨x,y,rfl,hx,hy,q⟩:=q1
 obtain ⟨u1,u2,rfl,⟨t,rfl⟩,⟨u,rfl⟩⟩:=zjr r1
 refine call_zipS hx hy fun h' b1 b2 b3 b4 b5 b6=>?_
 have I2:Inv X pins σ H1 { s1 with heap:=h',toks:=s1.toks }:=I1.kept b6
 refine wpAny_pure ?_
 refine call_enZ (s:={ s1 with heap:=h',toks:=s1.toks }) b1 fun h2 c1 k2=>?_
 have I3:Inv X pins σ H1 { s1 with heap:=h2,toks:=s1.toks }:=I2.kept k2
 have zlt:s1.heap.objs.size+4 < h'.objs.size:=Heap.lt_size b1
 refine wpAny_pyIter_enum (s:={ s1 with heap:=h2,toks:=s1.toks }) c1 ?_
 have a5:=ap5_mk s1.heap.objs.size
 refine ⟨h'.objs.size,[h'.objs.size,s1.heap.objs.size+4,s1.heap.objs.size+2,s1.heap.objs.size+3,s1.heap.objs.size,s1.heap.objs.size+1],_,Itzz x y,H1,rfl,I3,
  turn_enZ x y t u a5 ⟨?_,?_,?_,?_,?_⟩,⟨⟨_,c1⟩,⟨.none,false,.inl rfl,k2 _ _ b1⟩,k2 _ _ b2,⟨_,_,k2 _ _ b3⟩,?_,?_⟩,fun b hb=>?_,q⟩
 ·exact Nat.ne_of_gt zlt
 ·exact Nat.ne_of_gt (Nat.lt_trans (by omega) zlt)
 ·exact Nat.ne_of_gt (Nat.lt_trans (by omega) zlt)
 ·exact Nat.ne_of_gt (Nat.lt_trans (by omega) zlt)
 ·exact Nat.ne_of_gt (Nat.lt_trans (by omega) zlt)
 ·obtain ⟨o,ho,r⟩:=b4
  exact ⟨o,k2 _ _ ho,r⟩
 ·obtain ⟨o,ho,r⟩:=b5
  exact ⟨o,k2 _ _ ho,r⟩
 ·have hge:s1.heap.objs.size≤b:=by
   simp only [List.mem_cons,List.not_mem_nil,or_false] at hb
   rcases hb with rfl | rfl | rfl | rfl | rfl | rfl <;> omega
  exact I1.fpOk hge (I1.hok.fresh hge)
end
theorem for_enZ {x y:Str}{g:TG}{tb:TS}{D:Ends}{σ:St}{H:Hp}(Pv:Nat→St→Hp→Prop)(h0:Pv 0 σ H)
  (hs:∀ i c d σ H T U,x.cps[i]? = some c→y.cps[i]? = some d→Pv i σ H→H T=none→H U=none→U≠T→g (.ref T) σ (upd (upd H U (.tup [.str ⟨#[c]⟩,.str ⟨#[d]⟩])) T (.tup [.int i,.ref U])) fun σ2 H2=>tb { D with nx:=Pv (i+1),ct:=Pv (i+1),bk:=D.nx } σ2 H2) (hd:∀ σ H,Pv (min x.cps.size y.cps.size) σ H→D.nx σ H) :
  ∃ W:Nat→Nat→St→Hp→Prop,(∃ m,W 0 m σ H)∧∀ i m σ H,W i m σ H →
   ((Itzz x y).stop i H∧D.nx σ H) ∨ ((Itzz x y).go i H∧∃ N:St→Hp→Prop,(∀ σ' H',N σ' H'→∃ m',m' < m∧W (i+1) m' σ' H')∧∀ v H',(Itzz x y).yld i H v H'→g v σ H' fun σ2 H2=>tb { D with nx:=N,ct:=N,bk:=D.nx } σ2 H2):=by
 refine ⟨fun i m σ H=>m=min x.cps.size y.cps.size - i∧i≤min x.cps.size y.cps.size∧Pv i σ H,⟨min x.cps.size y.cps.size,by simp,Nat.zero_le _,h0⟩,?_⟩
 rintro i m σ H ⟨rfl,hi,p⟩
 by_cases hlt:i < min x.cps.size y.cps.size
 ·refine .inr ⟨hlt,Pv (i+1),fun σ' H' p'=>⟨min x.cps.size y.cps.size - (i+1),by omega,rfl,hlt,p'⟩,?_⟩
  rintro v H' ⟨T,U,c,d,hT,hU,ne,rfl,hx,hy,rfl⟩
  exact hs i c d σ H T U hx hy p hT hU ne
 ·obtain rfl:i=min x.cps.size y.cps.size:=by omega
  exact .inl ⟨rfl,hd σ H p⟩
end L2
namespace PySem
end PySem
namespace L2
open PySem PySem.Spec PyProof.Rows Wd
section
variable {X:Cx}
end
end L2
namespace HT
open PySem PySem.Spec PyProof.Rows
section
variable {prog:Program} {w:World} {A:Around} {E:Value→Shared→Prop} {s:Shared}
end
end HT
namespace L2
open PySem PySem.Spec PyProof.Rows Wd
section
variable {X:Cx}
end
end L2
namespace L2
open PySem PySem.Spec PyProof.Rows Wd
end L2
namespace L2
open PySem PySem.Spec PyProof.Rows Wd
end L2
namespace L2
open PySem PySem.Spec PyProof.Rows Wd
section
variable {X:Cx}
end
end L2
namespace HT
open PySem PySem.Spec PyProof.Rows PySem.SeqAt
end HT
namespace L2
open PySem PySem.Spec PyProof.Rows Wd
section
variable {X:Cx}
end
end L2
namespace L2
open PySem PySem.Spec PyProof.Rows Wd
theorem b_enum:bootBuiltins "enumerate" = some (.type "enumerate"):=by kernel_rfl
end L2
namespace L2
open PySem PySem.Spec PyProof.Rows Wd
end L2
namespace Wd
end Wd
namespace Kx
open PySem PySem.Spec PyProof.Rows L2 Wd
noncomputable def fst (c:Option (Int × Int)):Int:=match c with | some (i,_)=>i | none=>0
end Kx
namespace Kx
open PySem PySem.Spec PyProof.Rows L2 Wd
end Kx
namespace Kx
open PySem PySem.Spec PyProof.Rows L2 Wd
end Kx
namespace Kx
open PySem PySem.Spec PyProof.Rows L2 Wd
end Kx
namespace Kx
open PySem PySem.Spec PyProof.Rows L2 Wd
noncomputable def iv (r:List Nat):List V:=r.map fun i:Nat=>V.int (i:Int)
end Kx
namespace Kx
open PySem PySem.Spec PyProof.Rows L2 Wd
end Kx
namespace Kx
open PySem PySem.Spec PyProof.Rows L2 Wd
end Kx
namespace Kx
open PySem PySem.Spec PyProof.Rows L2 Wd
end Kx
namespace Kx
open PySem PySem.Spec PyProof.Rows L2 Wd
end Kx
namespace Kx
open PySem PySem.Spec PyProof.Rows L2 Wd
end Kx
namespace Kx
open PySem PySem.Spec PyProof.Rows L2 Wd
theorem b_set:bootBuiltins "set" = some (.type "set"):=by kernel_rfl
theorem zdk (u p:List L):Txt.startswith (toS u) (toS p)=decide (p <+: u):=by
 unfold Txt.startswith
 rw [Nat.zero_add,zab,zab]
 unfold Builtin.Str.subAt
 have e:(toS u).cps.extract 0 (0+(toS p).length)=(((u.take p.length).map cp).toArray):=by
  rw [zab,Nat.zero_add]
  apply Array.ext'
  rw [Array.toList_extract,zbz,List.extract_eq_drop_take,List.drop_zero,Nat.sub_zero,List.map_take]
 rw [e]
 by_cases h:p <+: u
 ·have e2:=List.prefix_iff_eq_take.mp h
  have l:=h.length_le
  rw [decide_eq_true h,decide_eq_true l,← e2,Bool.true_and]
  show ((p.map cp).toArray == (p.map cp).toArray)=true
  exact beq_self_eq_true _
 ·rw [decide_eq_false h]
  rw [Bool.and_eq_false_iff]
  right
  rw [beq_eq_false_iff_ne]
  intro z
  apply h
  have:toS (u.take p.length)=toS p:=by unfold toS;rw [z];rfl
  rw [← zbq this]
  exact List.take_prefix _ _
structure Rgs (R:List (List L)):Prop where
 many:R.length≤7
 word:∀ r∈R,r≠[]∧r.length≤90
theorem zbi (w:List L):(rots w).length=max 1 w.length:=by unfold rots; rw [List.length_map,List.length_range]
theorem zcw (w:List L):(bk w).length=w.length:=by unfold bk; rw [List.length_reverse,List.length_map]
theorem zev {R:List (List L)}(h:∀ r∈R,r≠[]∧r.length≤90):(trn R).length≤180*R.length:=by
 induction R with
 | nil=>exact Nat.le_refl _
 | cons r R ih =>
  have:=ih fun q hq=>h q (List.mem_cons_of_mem _ hq)
  have hr:=(h r List.mem_cons_self).2
  unfold trn at this ⊢
  rw [List.flatMap_cons,List.length_append,List.length_append,zbi,zbi,zcw,List.length_cons]
  omega
theorem zf3 (R:List (List L))(r:List L):trn (R++[r])=trn R++(rots r++rots (bk r)):=by
 unfold trn
 rw [List.flatMap_append,List.flatMap_singleton]
theorem pre_of {W:List (List L)}:∀ (zs:List Str),(∀ z∈zs,z∈W.map toS)→∃ V:List (List L),zs=V.map toS
 | [],_=>⟨[],rfl⟩
 | z::zs,h=>by
  obtain ⟨v,_,rfl⟩:=List.mem_map.mp (h z List.mem_cons_self)
  obtain ⟨V,rfl⟩:=pre_of zs fun q hq=>h q (List.mem_cons_of_mem _ hq)
  exact ⟨v::V,rfl⟩
theorem ord_of {zs:List Str}{W:List (List L)}(nd:zs.Nodup)(so:sortedS zs=true)(m:∀ z,z∈zs ↔ z∈W.map toS):∃ V,zs=V.map toS∧Ord V∧∀ x,x∈V ↔ x∈W:=by
 obtain ⟨V,rfl⟩:=pre_of zs fun z hz=>(m z).mp hz
 refine ⟨V,rfl,⟨?_,?_⟩,fun x=>?_⟩
 ·exact (List.Pairwise.of_map toS (fun a b h e=>h (congrArg toS e)) nd)
 ·have:=sorted_pw so
  exact List.Pairwise.of_map toS (fun a b h=>h) this
 ·have:=m (toS x)
  constructor
  ·intro hx
   obtain ⟨v,hv,e⟩:=List.mem_map.mp (this.mp (List.mem_map.mpr ⟨x,hx,rfl⟩))
   rw [← zbq e]
   exact hv
  ·intro hx
   obtain ⟨v,hv,e⟩:=List.mem_map.mp (this.mpr (List.mem_map.mpr ⟨x,hx,rfl⟩))
   rw [← zbq e]
   exact hv
inductive spTurnsOf (vs:List V)(H:Hp)(Q:VK)(u3_:XK):Prop
 | mk:∀ (a:Addr) (R:List (List L)),(vs=[.ref a])→(H a=some (.tup (R.map tx)))→(Rgs R)→(∀ (l:Addr) (V:List (List L)) (H':Hp),H l=none→Ord V→(∀ x,x∈V ↔ x∈trn R)→H' l=some (.lst (V.map tx))→Same H H'→Q (.ref l) H')→spTurnsOf vs H Q u3_
inductive spTurnsOf2 (vs:List V)(H:Hp)(Q:VK)(u3_:XK):Prop
 | mk:∀ (a:Addr) (R:List (List L)),(vs=[.ref a])→((H a=some (.tup (R.map tx)) ∨ H a=some (.lst (R.map tx))))→(Rgs R)→(∀ (l:Addr) (V:List (List L)) (H':Hp),H l=none→Ord V→(∀ x,x∈V ↔ x∈trn R)→H' l=some (.lst (V.map tx))→Same H H'→Q (.ref l) H')→spTurnsOf2 vs H Q u3_
inductive spBegin (vs:List V)(H:Hp)(Q:VK)(u3_:XK):Prop
 | mk:∀ (u v:List L),(vs=[tx u,tx v])→(u.length≤2000)→(v.length≤2000)→(∀ H',Same H H'→Q (tx (lcp u v)) H')→spBegin vs H Q u3_
noncomputable def oTx:Option (List L)→V
 | some w=>tx w
 | none=>.non
inductive spAlike (vs:List V)(H:Hp)(Q:VK)(u3_:XK):Prop
 | mk:∀ (l:Addr) (V:List (List L)) (i:Nat) (t:List L),(vs=[.ref l,.int (i:Int)])→(H l=some (.lst (V.map tx)))→(Ord V)→(V.length≤4000)→((∀ v∈V,v.length≤2000))→(V[i]? = some t)→(∀ H',Same H H'→Q (oTx (fnd V t)) H')→spAlike vs H Q u3_
theorem zg7 {w x:List L}(h:x∈rots w):x.length=w.length:=by
 unfold rots at h
 obtain ⟨i,hi,rfl⟩:=List.mem_map.mp h
 rw [List.length_append,List.length_drop,List.length_take]
 have:=List.mem_range.mp hi
 omega
theorem trn_word {R:List (List L)}(h:∀ r∈R,r≠[]∧r.length≤90){x:List L}(hx:x∈trn R):x≠[]∧x.length≤90:=by
 unfold trn at hx
 obtain ⟨r,hr,hx⟩:=List.mem_flatMap.mp hx
 obtain ⟨h1,h2⟩:=h r hr
 have hl:x.length=r.length:=by
  rcases List.mem_append.mp hx with q | q
  ·exact zg7 q
  ·rw [zg7 q,zcw]
 have:=List.length_pos_iff.mpr h1
 exact ⟨List.length_pos_iff.mp (by omega),by omega⟩
theorem len_le:∀ {V W:List (List L)},V.Nodup→(∀ x∈V,x∈W)→V.length≤W.length
 | [],_,_,_=>Nat.zero_le _
 | v::V,W,nd,h=>by
  obtain ⟨n1,n2⟩:=List.nodup_cons.mp nd
  have hv:=h v List.mem_cons_self
  have:=len_le (V:=V) (W:=W.erase v) n2 fun x hx=>(List.mem_erase_of_ne (fun e=>n1 (by rw [← e];exact hx))).mpr (h x (List.mem_cons_of_mem _ hx))
  rw [List.length_erase_of_mem hv] at this
  have:=List.length_pos_of_mem hv
  rw [List.length_cons]
  omega
structure Tn (R V:List (List L)):Prop where
 ord:Ord V
 mem:∀ x,x∈V ↔ x∈trn R
theorem Tn.word {R V:List (List L)}(h:Tn R V)(hR:Rgs R){x:List L}(hx:x∈V):x≠[]∧x.length≤90:=trn_word hR.word ((h.mem x).mp hx)
theorem Tn.len {R V:List (List L)}(h:Tn R V)(hR:Rgs R):V.length≤1260:=by
 have h1:=len_le h.ord.nd fun x hx=>(h.mem x).mp hx
 have h2:=zev hR.word
 have h3:=hR.many
 omega
theorem Tn.one {R V W:List (List L)}(h:Tn R V)(g:Tn R W):V=W:=ord_one h.ord g.ord fun x=>(h.mem x).trans (g.mem x).symm
inductive spThick (vs:List V)(H:Hp)(Q:VK)(u3_:XK):Prop
 | mk:∀ (a:Addr) (R:List (List L)),(vs=[.ref a])→(H a=some (.tup (R.map tx)))→(Rgs R)→((∀ (V:List (List L)) (H':Hp),Tn R V→Same H H'→thickW V=none→Q .non H'))→(∀ (V:List (List L)) (H':Hp) (p:Addr) (t o c:List L),Tn R V→Same H H'→thickW V=some (t,o,c)→H' p=some (.tup [tx t,tx o,tx c])→Q (.ref p) H')→spThick vs H Q u3_
inductive spLThick (vs:List V)(H:Hp)(Q:VK)(u3_:XK):Prop
 | mk:∀ (l:Addr) (V:List (List L)),(vs=[.ref l])→(H l=some (.lst (V.map tx)))→(V.length≤4000)→((∀ v∈V,v.length≤2000))→((∀ H':Hp,Same H H'→thickW V=none→Q .non H'))→(∀ (H':Hp) (p:Addr) (t o c:List L),Same H H'→thickW V=some (t,o,c)→H' p=some (.tup [tx t,tx o,tx c])→Q (.ref p) H')→spLThick vs H Q u3_
theorem zfd {V:List (List L)}(h:∀ t∈V,fnd V t=none):thickW V=none:=by
 unfold thickW
 rw [List.findSome?_eq_none_iff]
 intro t ht
 rw [h t ht]
 rfl
theorem zfe {V:List (List L)}{i:Nat}{t o:List L}(h:∀ x∈V.take i,fnd V x=none)(ht:V[i]? = some t)(ho:fnd V t=some o):thickW V=some (t,o,lcp t o):=by
 unfold thickW
 rw [List.findSome?_eq_some_iff]
 obtain ⟨l1,e1⟩:=List.getElem?_eq_some_iff.mp ht
 refine ⟨V.take i,t,V.drop (i+1),?_,by rw [ho];rfl,fun x hx=>by rw [h x hx];rfl⟩
 conv=>lhs;rw [← List.take_append_drop i V]
 rw [List.drop_eq_getElem_cons l1,e1]
theorem zhq (F:List (List L)):(F.map tx).all flatV=true:=by
 rw [List.all_eq_true]
 intro x hx
 obtain ⟨v,_,rfl⟩:=List.mem_map.mp hx
 rfl
theorem in_tx (v:List L)(F:List (List L)):inV (tx v) (F.map tx)=decide (v∈F):=by
 unfold inV
 by_cases h:v∈F
 ·rw [decide_eq_true h,List.any_eq_true]
  exact ⟨tx v,List.mem_map.mpr ⟨v,h,rfl⟩,by simp [tx,eqV]⟩
 ·rw [decide_eq_false h,List.any_eq_false]
  intro x hx
  obtain ⟨u,hu,rfl⟩:=List.mem_map.mp hx
  have:toS u≠toS v:=fun e=>h (by rw [← zbq e];exact hu)
  simp [tx,eqV,this]
structure Once (S F:List (List L)):Prop where
 nd:F.Nodup
 mem:∀ x,x∈F ↔ x∈S
theorem Once.nil:Once [] []:=⟨List.nodup_nil,fun x=>Iff.rfl⟩
theorem Once.to {S S' F:List (List L)}(h:Once S F)(e:∀ x,x∈S ↔ x∈S'):Once S' F:=⟨h.nd,fun x=>(h.mem x).trans (e x)⟩
theorem Once.put {S F:List (List L)}(h:Once S F)(v:List L):Once (S++[v]) (if v∈F then F else F++[v]):=by
 by_cases q:v∈F
 ·rw [if_pos q]
  refine ⟨h.nd,fun x=>?_⟩
  rw [List.mem_append,List.mem_singleton,h.mem]
  exact ⟨.inl,fun z=>z.elim id fun e=>e ▸ (h.mem v).mp q⟩
 ·rw [if_neg q]
  refine ⟨List.nodup_append.mpr ⟨h.nd,List.nodup_cons.mpr ⟨List.not_mem_nil,List.nodup_nil⟩,fun a ha b hb e=>q (by rw [List.mem_singleton] at hb;rw [← hb,← e];exact ha)⟩,fun x=>?_⟩
  rw [List.mem_append,List.mem_append,h.mem]
theorem Once.len {S F:List (List L)}(h:Once S F):F.length≤S.length:=len_le h.nd fun x hx=>(h.mem x).mp hx
inductive spLRings (vs:List V)(H:Hp)(Q:VK)(u3_:XK):Prop
 | mk:∀ (d:Addr) (n:Nat),(vs=[.ref d,.int (n:Int)])→(Fd H d)→(n≤10)→(∀ (a:Addr) (R:List (List L)) (H':Hp),Rgs R→(∀ r∈R,r.length≤40)→R.length≤6→H' a=some (.tup (R.map tx))→Fd H' d→SameB d H H'→Q (.ref a) H')→spLRings vs H Q u3_
inductive spLThin (vs:List V)(H:Hp)(Q:VK)(u3_:XK):Prop
 | mk:∀ (d:Addr),(vs=[.ref d])→(Fd H d)→(∀ (a:Addr) (R:List (List L)) (H':Hp),Rgs R→(∀ r∈R,r.length≤40)→R.length≤6→H' a=some (.tup (R.map tx))→Fd H' d→SameB d H H'→Q (.ref a) H')→spLThin vs H Q u3_
noncomputable def Wl (n b:Nat)(W:List (List L)):Prop:=W.length≤n∧∀ v∈W,v.length≤b
theorem Wl.snoc {n b:Nat}{W:List (List L)}{v:List L}(h:Wl n b W)(hv:v.length≤b):Wl (n+1) b (W++[v]):=⟨by rw [List.length_append]; have:=h.1; simp; omega,fun x hx=>by
 rcases List.mem_append.mp hx with q | q
 ·exact h.2 x q
 ·rw [List.mem_singleton] at q;subst q;exact hv⟩
theorem zd0 (W:List (List L))(lo hi:Option Int):∃ W':List (List L),cutV (W.map tx) lo hi=W'.map tx∧W'.length≤W.length∧∀ v∈W',v∈W:=by
 unfold cutV
 rw [← List.map_drop,← List.map_take]
 exact ⟨_,rfl,by rw [List.length_take,List.length_drop];omega,fun v hv=>List.mem_of_mem_drop (List.mem_of_mem_take hv)⟩
theorem Wl.cut {n b:Nat}{W:List (List L)}(h:Wl n b W){W':List (List L)}(l:W'.length≤W.length)(m:∀ v∈W',v∈W):Wl n b W':=⟨Nat.le_trans l h.1,fun v hv=>h.2 v (m v hv)⟩
theorem lit_a:Str.ofString "a" = toS [0]:=by decide +kernel
theorem lit_b:Str.ofString "b" = toS [1]:=by decide +kernel
theorem lit_B:Str.ofString "B" = toS [7]:=by decide +kernel
theorem lit_e:Str.ofString "e" = toS [4]:=by decide +kernel
theorem lit_ab:Str.ofString "ab" = toS [0,1]:=by decide +kernel
theorem lit_abAB:Str.ofString "abAB" = toS [0,1,6,7]:=by decide +kernel
theorem lit_1:Str.ofString "abABcdCD" = toS [0,1,6,7,2,3,8,9]:=by decide +kernel
theorem lit_2:Str.ofString "abcdABCD" = toS [0,1,2,3,6,7,8,9]:=by decide +kernel
theorem lit_3:Str.ofString "aabbccdd" = toS [0,0,1,1,2,2,3,3]:=by decide +kernel
theorem lit_4:Str.ofString "abcABdCD" = toS [0,1,2,6,7,3,8,9]:=by decide +kernel
theorem zb8 {z:Str}{w:List L}(e:z=toS w){n:Int}(h0:0≤n)(h1:n≤20)(hw:w.length≤20)(hb:n*(w.length:Int)≤40):MulOk z n∧∃ u:List L,V.str (Txt.mul z n)=tx u∧u.length≤40:=by
 subst e
 refine ⟨mulOk_toS _ (by omega) (by omega) (by omega),rep n.toNat w,by rw [rep_toS];rfl,?_⟩
 rw [ze6]
 obtain ⟨k,rfl⟩:=Int.eq_ofNat_of_zero_le h0
 rw [Int.toNat_natCast]
 exact_mod_cast hb
theorem fd_updT {H:Hp}{d l:Addr}{o:HO}{W:List (List L)}(F:Fd H d)(h:H l=some (.lst (W.map tx)))(n:l≠d):Fd (L2.upd H l o) d:=by
 obtain ⟨c,i,ll,t,ns,h1,h2,h3,h4⟩:=F.ex
 have hc:c≠l:=fun e=>by
  subst e
  rw [h2] at h
  have h:=HO.lst.inj (Option.some.inj h)
  cases ns with
  | nil=>exact h3 rfl
  | cons a ns =>
   cases W with
   | nil=>cases h
   | cons w W=>cases (List.cons.inj h).1
 exact ⟨c,i,ll,t,ns,by rw [zai n.symm];exact h1,by rw [zai hc];exact h2,h3,h4⟩
end Kx
namespace L2
open PySem PySem.Spec PyProof.Rows
theorem zik {h:Heap}{T:Addr}{o:Obj}{f:Obj→Obj}(ho:h.get? T=some o)(hf:f o=o)(b:Addr):(h.update T f).get? b=h.get? b:=by
 by_cases e:T=b
 ·subst e
  have:=Heap.get?_update_self f ho (by rw [hf];exact (Heap.get?_some_iff.mp ho).2)
  rw [this,hf,ho]
 ·exact Heap.get?_update_other _ _ e
theorem zil {oT:Obj}{ts:Array Value}{i:Nat}{v:Value}(hd:oT.data = .fields ts)(h3:ts[i]? = some v):Obj.mapFields (·.setIfInBounds i v) oT=oT:=by
 obtain ⟨c,d,dt,sl⟩:=oT
 simp only at hd
 subst hd
 obtain ⟨hi,hv⟩:=Array.getElem?_eq_some_iff.mp h3
 have:ts.setIfInBounds i v=ts:=by
  apply Array.ext
  ·simp
  ·intro j h1 h2
   by_cases hj:i=j
   ·subst hj;simp [hv]
   ·rw [Array.getElem_setIfInBounds_ne _ hj]
 simp only [Obj.mapFields,this]
noncomputable def FltT (T:Addr)(h:Heap)(a:Addr)(fl:Value):Prop :=
 ∃ oe vs oT ts,h.get? a=some oe∧oe.data = .fields vs∧vs[1]? = some (.ref T)∧T≠a∧h.get? T=some oT∧oT.data = .fields ts∧ts[3]? = some fl
noncomputable def Flt (h:Heap)(a:Addr)(fl:Value):Prop:=∃ T,FltT T h a fl
structure Nts (fs:List Addr) (a:Addr) (fl:Value) (h h':Heap):Prop where
 keep:∀ b o,b∉fs→b≠a→h.get? b=some o→h'.get? b=some o
 slot:∀ b o,b∈fs→h.get? b=some o→∃ sl,h'.get? b=some { o with slots:=sl }
 exc:∀ oe vs,h.get? a=some oe→oe.data = .fields vs→∃ oe' vs',h'.get? a=some oe'∧oe'.cls=oe.cls∧oe'.dict=oe.dict∧oe'.data = .fields vs'∧vs'.size=vs.size
 fly:∃ T,h.objs.size≤T∧FltT T h' a fl
section
variable {M:Model} {A:Around} {E:Value→Shared→Prop} {s:Shared}
set_option maxHeartbeats 1600000 in
theorem entryX {base:Heap}{env:Env}{outer:List Env}{L e:Addr}{oe:Obj}{vs:Array Value}{head:Value}{hadNext:Bool}{Q:Unit→Shared→Prop}
  (hfr:A.frames=some (env::outer)) (hl:s.heap.FunFrames base (env::outer)) (hf:env.frame=some L)
  (he:s.heap.get? e=some oe) (hd:oe.data = .fields vs) (hsz:1 < vs.size)
  (h:∀ h',Nts (frs (env::outer)) e (rawInt L) s.heap h'→Q () { s with heap:=h' }) :
  wpAny M A (do let a ← frameOf env;let pl ← entryPlaceOf L hadNext;let b ← EntryCells.newEntry head a .none (rawInt L) .none pl;setField (.ref e) 1 b) Q E s:=by
 have hene:e∉frs (env::outer):=fun hm=>by
  obtain ⟨_,o,ho,hnf⟩:=hl.mem hm
  rw [he] at ho;injection ho with ho;subst ho;exact hnf vs hd
 refine wpAny_bind (wpAny_frameOf_fun hfr hl hf fun h₁ hs₁=>?_)
 refine wpAny_bind (wpAny_entryPlaceOf fun pl hpl=>?_)
 unfold EntryCells.newEntry newFields
 refine wpAny_bind (wpAny_newObj_type ?_ (hpl.sizeOk5 _ _ _ _ _))
 generalize hN:({ cls:=.type "traceback",dict:=none,data:=.fields ([head,.ref L,.none,rawInt L,.none]++(if pl.isEmpty then List.replicate 6 Value.none else pl)).toArray }:Obj)=oN
 have hNd:oN.data = .fields ([head,.ref L,.none,rawInt L,.none]++(if pl.isEmpty then List.replicate 6 Value.none else pl)).toArray:=by rw [← hN]
 have hNf:oN.isFreed=false:=by rw [← hN];rfl
 have he₁:h₁.get? e=some oe:=(hs₁.2.1 e hene).trans he
 have he₂:=Heap.get?_push_of_some (h:=h₁) oN he₁
 refine wpAny_setField he₂ hd hsz (h _ ?_)
 have hTe:h₁.objs.size≠e:=Nat.ne_of_gt (Heap.lt_size he₁)
 have hd₃:=Obj.data_mapFields hd (·.setIfInBounds 1 (Value.ref h₁.objs.size))
 have he₃:=Heap.get?_update_self (Obj.mapFields (·.setIfInBounds 1 (Value.ref h₁.objs.size))) he₂ (Obj.isFreed_of_fields hd₃)
 have hT₃:=(Heap.get?_update_other (h₁.push oN) (Obj.mapFields (·.setIfInBounds 1 (Value.ref h₁.objs.size))) (Ne.symm hTe)).trans (Heap.get?_push_size h₁ hNf)
 have keep:∀ b o,b≠e→h₁.get? b=some o→((h₁.push oN).update e (Obj.mapFields (·.setIfInBounds 1 (Value.ref h₁.objs.size)))).get? b=some o:=fun b o hbe hb=>by
  rw [Heap.get?_update_other _ _ (Ne.symm hbe)]
  exact Heap.get?_push_of_some _ hb
 refine ⟨fun b o hb hbe q=>keep b o hbe ((hs₁.2.1 b hb).trans q),fun b o hb q=>?_,fun oe' vs' q qd=>?_,?_⟩
 ·obtain ⟨sl,q'⟩:=hs₁.2.2 b o q
  exact ⟨sl,keep b _ (fun z=>hene (z ▸ hb)) q'⟩
 ·rw [he] at q;cases q
  rw [hd] at qd;cases qd
  refine ⟨_,_,he₃,Obj.cls_mapFields _ _,?_,hd₃,by simp⟩
  obtain ⟨c,d,dt,sl⟩:=oe
  cases dt <;> rfl
 ·refine ⟨h₁.objs.size,Nat.le_of_eq hs₁.1.symm,_,_,oN,_,he₃,hd₃,by simp [hsz],hTe,hT₃,hNd,?_⟩
  first | (simp;done) | (rcases hpl with rfl | ⟨_,_,_,_,_,_,_,rfl⟩ <;> simp)
theorem noteX {base:Heap}{env:Env}{outer:List Env}{L e:Addr}{oe:Obj}{vs:Array Value}{Q:Unit→Shared→Prop}
  (hfr:A.frames=some (env::outer)) (hl:s.heap.FunFrames base (env::outer)) (hf:env.frame=some L)
  (he:s.heap.get? e=some oe) (hd:oe.data = .fields vs) (h1:vs[1]? = some .none ∨ Flt s.heap e .none)
  (h:∀ h',Nts (frs (env::outer)) e (rawInt L) s.heap h'→Q () { s with heap:=h' }):wpAny M A (noteFrame (.ref e) env) Q E s:=by
 unfold noteFrame
 simp only [hf]
 rcases h1 with h1 | ⟨T,oe',vs',oT,ts,he',hd',h1,hTe,hT,hdT,h3⟩
 ·refine wpAny_bind (wpAny_field he hd h1 ?_)
  rw [if_neg (by decide)]
  exact entryX hfr hl hf he hd (Array.getElem?_eq_some_iff.mp h1).1 h
 ·rw [he] at he';cases he'
  rw [hd] at hd';cases hd'
  refine wpAny_bind (wpAny_field he hd h1 ?_)
  rw [if_pos (show (Value.ref T != Value.none)=true from by simp)]
  refine wpAny_bind (wpAny_field hT hdT h3 ?_)
  rw [if_neg (show ¬ ((Value.none == rawInt L)=true) from by simp [rawInt])]
  refine wpAny_bind (wpAny_setField hT hdT (Array.getElem?_eq_some_iff.mp h3).1 ?_)
  have idle:=zik (f:=Obj.mapFields (·.setIfInBounds 3 Value.none)) hT (zil hdT h3)
  refine entryX hfr (hl.of_keeps fun b o hb _=>⟨o,(idle b).trans hb,rfl⟩) hf ((idle e).trans he) hd (Array.getElem?_eq_some_iff.mp h1).1 fun h' N=>h h' ?_
  obtain ⟨k1,k2,k3,k4⟩:=N
  refine ⟨fun b o hb hbe q=>k1 b o hb hbe ((idle b).trans q),fun b o hb q=>k2 b o hb ((idle b).trans q),fun o v q d=>k3 o v ((idle e).trans q) d,?_⟩
  obtain ⟨T',b1,b2⟩:=k4
  exact ⟨T',Nat.le_trans (Nat.le_of_eq (Heap.size_after_update ..).symm) b1,b2⟩
theorem zhr {T e:Addr}{fl:Value}{Q:Unit→Shared→Prop}(hF:FltT T s.heap e fl)
  (h:∀ h',FltT T h' e .none→(∀ b o,b≠T→s.heap.get? b=some o→h'.get? b=some o)→(∀ b,(∃ o,s.heap.get? b=some o)→∃ o,h'.get? b=some o)→(fl = .none→∀ b,h'.get? b=s.heap.get? b)→Q () { s with heap:=h' }) :
  wpAny M A (setFlight (.ref e) none) Q E s:=by
 obtain ⟨oe,vs,oT,ts,he,hd,h1,hTe,hT,hdT,h3⟩:=hF
 have hsz3:3 < ts.size:=(Array.getElem?_eq_some_iff.mp h3).1
 have other:∀ b,b≠T→(s.heap.update T (Obj.mapFields (·.setIfInBounds 3 ((none:Option Addr).elim Value.none fun f=>rawInt f)))).get? b=s.heap.get? b :=
  fun b hb=>Heap.get?_update_other _ _ (Ne.symm hb)
 have hT':=Heap.get?_update_self (Obj.mapFields (·.setIfInBounds 3 ((none:Option Addr).elim Value.none fun f=>rawInt f))) hT (Obj.isFreed_of_fields (Obj.data_mapFields hdT _))
 unfold setFlight
 refine wpAny_bind (wpAny_field he hd h1 ?_)
 rw [if_pos (show (Value.ref T != Value.none)=true from by simp)]
 refine wpAny_setField hT hdT hsz3 (h _ ⟨oe,vs,_,_,(other e (Ne.symm hTe)).trans he,hd,h1,hTe,hT',Obj.data_mapFields hdT _,by simp [hsz3]⟩ (fun b o hb q=>(other b hb).trans q) (fun b ⟨o,q⟩=>?_) fun z b=>?_)
 ·by_cases z:b=T
  ·subst z;exact ⟨_,hT'⟩
  ·exact ⟨o,(other b z).trans q⟩
 ·subst z
  exact zik hT (zil hdT h3) b
theorem leaveX {base:Heap}{env:Env}{outer:List Env}{L e:Addr}{oe:Obj}{vs:Array Value}{Q:Unit→Shared→Prop}
  (hfr:A.frames=some (env::outer)) (hl:s.heap.FunFrames base (env::outer)) (hf:env.frame=some L)
  (he:s.heap.get? e=some oe) (hd:oe.data = .fields vs) (h1:vs[1]? = some .none ∨ Flt s.heap e .none)
  (h:∀ h',Nts (frs (env::outer)) e .none s.heap h'→Q () { s with heap:=h' }):wpAny M A (leaving env (.ref e)) Q E s:=by
 unfold leaving
 refine wpAny_bind (noteX hfr hl hf he hd h1 fun h₁ N=>?_)
 obtain ⟨k1,k2,k3,T,hT,k4⟩:=N
 refine zhr (s:={ s with heap:=h₁ }) k4 fun h₂ f1 f2 f3 _=>h h₂ ⟨fun b o hb hbe q=>f2 b o (fun z=>?_) (k1 b o hb hbe q),fun b o hb q=>?_,fun oe vs q qd=>?_,T,hT,f1⟩
 ·exact absurd (Nat.lt_of_lt_of_le (Heap.lt_size q) (z ▸ hT)) (Nat.lt_irrefl _)
 ·obtain ⟨sl,q'⟩:=k2 b o hb q
  exact ⟨sl,f2 b _ (fun z=>absurd (Nat.lt_of_lt_of_le (Heap.lt_size q) (z ▸ hT)) (Nat.lt_irrefl _)) q'⟩
 ·obtain ⟨oe',vs',q1,q2⟩:=k3 oe vs q qd
  exact ⟨oe',vs',f2 e _ (fun z=>absurd (Nat.lt_of_lt_of_le (Heap.lt_size q) (z ▸ hT)) (Nat.lt_irrefl _)) q1,q2⟩
end
end L2
namespace L2
open PySem PySem.Spec PyProof.Rows
noncomputable def exo (a C:Addr)(d:Option Addr)(b:Bool):Heap→Prop:=fun h =>
 ∃ oe vs,h.get? a=some oe∧oe.cls = .ref C∧oe.dict=d∧oe.data = .fields vs∧vs.size=6∧(b=true→vs[1]? = some .none)
noncomputable abbrev Exo (a C:Addr)(d:Option Addr)(b:Bool):HO:=.ext (exo a C d b)
theorem exo_stay {a C:Addr}{d:Option Addr}{b:Bool}{h1 h2:Heap}(x:exo a C d b h1)(k:∀ o,h1.get? a=some o→h2.get? a=some o):exo a C d b h2 :=
 let ⟨oe,vs,q,r⟩:=x;⟨oe,vs,k _ q,r⟩
theorem zim {P:Program}{w:World}{H:Hp}{h:Heap}{a C:Addr}{d:Option Addr}{b:Bool}(x:exo a C d b h):ObjOk P w H h a (Exo a C d b) :=
 ⟨x,let ⟨oe,_,q,_⟩:=x;⟨oe,q⟩,fun _ _ y k=>exo_stay y k⟩
theorem zin {H:Hp}{a:Addr}{o:HO}(h:H a=some o):upd H a o=H:=by
 funext b
 by_cases e:b=a
 ·subst e;rw [zac,h]
 ·rw [zai e]
noncomputable def CXe (P:Program)(w:World):CXT:=fun outer H s E e s' =>
 ∃ a C d H',e = .ref a∧s'.os=s.os∧AllBare s'.gens∧Un (frs outer) [] H H' s.heap s'.heap∧HOk P w H' s'.heap∧H' a=some (Exo a C d false)∧Flt s'.heap a .none∧E (.ref a) none H'
section
variable {P:Program} {w:World} {H:Hp} {h h':Heap} {fs:List Addr} {e C:Addr} {d:Option Addr} {b:Bool} {fl:Value}
theorem nts_un (ok:HOk P w H h)(he:H e=some (Exo e C d b))(hfs:∀ c∈fs,H c=none)(N:Nts fs e fl h h') :
  Un fs [] H (upd H e (Exo e C d false)) h h'∧HOk P w (upd H e (Exo e C d false)) h':=by
 obtain ⟨⟨oe,vs,g1,g2,g3,g4,g5,g6⟩,_,_⟩:=ok e _ he
 obtain ⟨oe',vs',n1,n2,n3,n4,n5⟩:=N.exc oe vs g1 g4
 have hx:exo e C d false h':=⟨oe',vs',n1,n2.trans g2,n3.trans g3,n4,n5.trans g5,fun z=>by cases z⟩
 have ne:∀ c,H c=none→c≠e:=fun c n z=>by rw [z,he] at n;cases n
 have ne':∀ c u,H c=some u→u≠Exo e C d b→c≠e:=fun c u q n z=>by rw [z,he] at q;cases q;exact n rfl
 refine ⟨⟨fun c o q n hc _=>N.keep c o hc (ne c n) q,fun c o q n hc _=>N.slot c o hc q,fun c o q n _=>by rw [zai (ne c n)];exact n,fun c o q _=>?_,
  fun c xs q=>by rw [zai (ne' c _ q (by intro z;cases z))];exact q,fun c o u q=>by rw [zai (ne' c _ q (by intro z;cases z))];exact q,fun c ps q=>⟨#[],by rw [zai (ne' c _ q (by intro z;cases z)),q];simp⟩⟩,fun c u q=>?_⟩
 ·by_cases z:c=e
  ·subst z;exact ⟨_,n1⟩
  ·by_cases y:c∈fs
   ·obtain ⟨sl,r⟩:=N.slot c o y q
    exact ⟨_,r⟩
   ·exact ⟨o,N.keep c o y z q⟩
 ·by_cases z:c=e
  ·subst z;rw [zac] at q;cases q;exact zim hx
  ·rw [zai z] at q
   refine (ok c u q).stay (fun x v hx q'=>?_) (fun x hx=>by rw [zai (ne' x _ hx (by intro z;cases z))];exact hx) fun x xs hx=>by rw [zai (ne' x _ hx (by intro z;cases z))];exact hx
   have nx:x≠e:=by
    rcases hx with rfl | hx
    ·exact z
    ·exact ne' x _ hx (by intro z;cases z)
   refine N.keep x v (fun y=>?_) nx q'
   have:=hfs x y
   rcases hx with rfl | hx
   ·rw [this] at q;cases q
   ·rw [this] at hx;cases hx
end
noncomputable def Raises (X:Cx)(E:XK):Prop:=∀ (pins:List (Addr × Obj)) (σ:St) (H:Hp) (s:Shared) (a C:Addr) (d:Option Addr),Inv X pins σ H s→H a=some (Exo a C d true)→E (.ref a) none (upd H a (Exo a C d false))→X.xe (.ref a) s
section
variable {P:Program} {w:World} {K:PySem.W.Frag} {mg:Str→Option Value} {base:Heap} {N:List Str} {qual:Str} {scope:Scope} {f:Addr} {cd:Value} {A:Around} {outer:List Env} {s:Shared} {H:Hp} {E:XK}
theorem leave_def {pins:List (Addr × Obj)}{σ:St}{H1:Hp}{s1:Shared}{a C:Addr}{d:Option Addr}{b:Bool}(I:Inv (cxOf (CXe P w) P w K mg base N qual scope f cd A outer s H E) pins σ H1 s1)
  (ha:H1 a=some (Exo a C d b)) (hf:b=true ∨ Flt s1.heap a .none) (hE:E (.ref a) none (upd H1 a (Exo a C d false))):(cxOf (CXe P w) P w K mg base N qual scope f cd A outer s H E).xe (.ref a) s1:=by
 obtain ⟨⟨oe,vs,g1,g2,g3,g4,g5,g6⟩,_,_⟩:=I.hok a _ ha
 refine leaveX (base:=base) (outer:=outer) I.ok.frames I.stack rfl g1 g4 (hf.imp (fun z=>g6 z) id) fun h' Nt=>?_
 obtain ⟨un,hok⟩:=nts_un I.hok ha I.stkFree Nt
 have J:=I.call' (s':={ s1 with heap:=h' }) rfl un hok I.bare (fun b z=>absurd z (by simp))
 obtain ⟨T,_,hT⟩:=Nt.fly
 exact ⟨a,C,d,_,rfl,J.os,J.bare,J.base,J.hok,zac ..,⟨T,hT⟩,hE⟩
theorem zi8:Raises (cxOf (CXe P w) P w K mg base N qual scope f cd A outer s H E) E:=fun pins σ H1 s1 a C d I ha hE=>leave_def I ha (.inl rfl) hE
end
end L2
namespace L2
open PySem PySem.Spec PyProof.Rows
noncomputable abbrev bmV:List Value:=[.type "ValueError",.type "Exception",.type "BaseException",.type "object"]
structure XCl (K:PySem.W.Frag) (C:Addr) (bm:List Value):Prop where
 obj:∃ dd cd k0 k1 k2 k3 k5,K.lookup C=some ⟨.type "type",dd,.cls cd,#[k0,k1,k2,k3,some (.builtin "ValueError.__new__"),k5]⟩∧cd.mro = .ref C::bm∧cd.hasDel=false∧cd.hasDict=true
 tl:PySem.W.tailIn K bmV bm=true
 kp:PySem.W.keepIn K (.ref C)=true
noncomputable abbrev xtup (us:List Value):Obj:={ cls:=.type "tuple",data:=.seq us.toArray }
noncomputable abbrev xnew (C t:Addr):Obj:={ cls:=.ref C,data:=.fields #[.ref t,.none,.none,.none,.bool false,.none] }
theorem XCl.at {K:PySem.W.Frag}{C:Addr}{bm:List Value}{h:Heap}(x:XCl K C bm)(X:K.In h):OwnTail h bmV bm∧∃ nm q N bs sn sub ab col dd k0 k1 k2 k3 k5,h.get? C=some (excClassObj nm q C N bs bm true sn sub ab col dd k0 k1 k2 k3 k5 "ValueError.__new__"):=by
 refine ⟨PySem.W.tail_of_in X x.tl,?_⟩
 obtain ⟨dd,cd,k0,k1,k2,k3,k5,hl,hm,hd,hh⟩:=x.obj
 obtain ⟨nm,bs,mro,ns,qn,hdc,sn,sub,ab,col,del⟩:=cd
 dsimp only at hm hd hh
 subst hm hd hh
 exact ⟨nm,qn,ns,bs,sn,sub,ab,col,dd,k0,k1,k2,k3,k5,X _ _ hl⟩
section
variable {prog:Program} {w:World} {A:Around} {E:Value→Shared→Prop} {h:Heap} {g:Array GenState} {d:Drawn} {t:Nat} {os:OsState} {K:PySem.W.Frag} {C fI:Addr} {bm:List Value}
set_option maxHeartbeats 1600000 in
theorem zhs {rest:List Value}{Q:Fin→Shared→Prop}(X:K.In h)(x:XCl K C bm)(hi:PySem.W.findIn K (.ref C) "__init__" = some (some (.ref fI)))(hf:PySem.W.isFn K (.ref fI)=true)
  (hq:wpAny (model prog w) A (call (.ref fI) (.ref (h.objs.size+1)::rest)) (fun r s'=>r = .none∧Q (.done (.ret (.ref (h.objs.size+1)))) s') E ⟨(h.push (xtup rest)).push (xnew C h.objs.size),g,d,t,os⟩) (hrest:rest.length≤sizeLine) :
  wpAny (model prog w) A (Builtin.«type.__call__» ⟨.ref C::rest,[]⟩) Q E ⟨h,g,d,t,os⟩:=by
 obtain ⟨T,nm,q,N,bs,sn,sub,ab,col,dd,k0,k1,k2,k3,k5,hC⟩:=x.at X
 have F:=PySem.F.excBase_ValueError
 repeat (first | with_reducible refine wpAny_loadPart_at hC ?_ | with_reducible refine wpAny_madeBy_exc hC ?_ | wp_step)
 refine codeAny_call_builtin_code (Code.quiet_builtin _ F.quiet) (wpAny_check_new_subT F T hC ?_)
 refine codeAny_exc_new_subT F T hC ?_ hrest
 show wpAny _ _ _ _ _ _
 have k1:∀ b o,h.get? b=some o→((h.push (xtup rest)).push (xnew C h.objs.size)).get? b=some o:=fun b o e=>Heap.get?_push_of_some _ (Heap.get?_push_of_some _ e)
 have hC₁:=k1 _ _ hC
 have X₁:K.In ((h.push (xtup rest)).push (xnew C h.objs.size)):=fun b o e=>k1 b o (X b o e)
 have hget:((h.push (xtup rest)).push (xnew C h.objs.size)).get? (h.objs.size+1)=some (xnew C h.objs.size):=by heap_get
 have hcC:(Value.ref C::bm).contains (.ref C)=true:=by simp
 unfold isInstance
 repeat (first | with_reducible refine wpAny_loadPart_at hget ?_ | (with_reducible refine wpAny_isSubtype_exc hC₁ ?_;rw [hcC]) | wp_step)
 show wpAny _ _ (typeLookup (.ref C) _) _ _ _
 refine (PySem.W.looks_findIn (M:=model prog w) X₁ hi).at ?_
 refine wpAny_holding (wpAny_bind ?_)
 unfold bindSpecial
 have L:=PySem.W.looks_typeIn (M:=model prog w) X₁ (beq_iff_eq.mp hf)
 refine wpAny_bind (L.at ?_)
 rw [if_pos (by decide)]
 refine wpAny_pure (wpAny_bind (wpAny_mono hq (fun r s' hr=>?_) fun _ _ x=>x))
 obtain ⟨rfl,hQ⟩:=hr
 wp_walk
 exact hQ
theorem call_X {rest:List Value}{Q:Value→Shared→Prop}(X:K.In h)(x:XCl K C bm)(hi:PySem.W.findIn K (.ref C) "__init__" = some (some (.ref fI)))(hf:PySem.W.isFn K (.ref fI)=true)
  (hq:wpAny (model prog w) (A.under (.builtin "type.__call__" ⟨.ref C::rest,[]⟩)) (call (.ref fI) (.ref (h.objs.size+1)::rest)) (fun r s'=>r = .none∧Q (.ref (h.objs.size+1)) s') E ⟨(h.push (xtup rest)).push (xnew C h.objs.size),g,d,t,os⟩) (hrest:rest.length≤sizeLine) :
  wpAny (model prog w) A (call (.ref C) rest) Q E ⟨h,g,d,t,os⟩:=by
 obtain ⟨T,nm,q,N,bs,sn,sub,ab,col,dd,k0,k1,k2,k3,k5,hC⟩:=x.at X
 have f1:=tc_lookup
 have f2:=tc_bind (.ref C)
 have hT:(⟨h,g,d,t,os⟩:Shared).TypeIs (.ref C) "type":=⟨_,hC,rfl⟩
 refine wpAny_call (codeAny_of_tree ?_)
 show wpAny _ _ (callAny (.ref C) _) _ _ _
 repeat (any_goals (first | assumption | with_reducible refine wpAny_loadPart_at hC ?_ | wp_step))
 refine ⟨rfl,?_⟩
 exact codeAny_call_builtin_at (Code.quiet_builtin _ (by decide +kernel)) entry_typeCall (wpAny_check_type_call_sub hC (zhs X x hi hf hq hrest))
end
section
variable {X:Cx} {k:Nat} {f C:Addr} {fd:FuncData} {ps:List Str} {sp:Sp} {x:Str} {p pos:Pos} {e:Expr} {es:List Expr} {t:TA} {bm:List Value}
theorem Inv.madeX {pins:List (Addr × Obj)}{σ:St}{H:Hp}{s:Shared}(I:Inv X pins σ H s)(us:List Value):Inv X pins σ (upd H (s.heap.objs.size+1) (Exo (s.heap.objs.size+1) C none true)) { s with heap:=(s.heap.push (xtup us)).push (xnew C s.heap.objs.size) }:=by
 have I1:=I.kept (h':=s.heap.push (xtup us)) (t':=s.toks) (fun b u q=>Heap.get?_push_of_some _ q)
 refine I1.laid (a:=s.heap.objs.size+1) (t':=s.toks) (fun b u q=>Heap.get?_push_of_some _ q) (Nat.le_of_eq (Heap.size_push _ _)) (zim ⟨xnew C s.heap.objs.size,_,?_,rfl,rfl,rfl,rfl,fun _=>rfl⟩)
 have:=Heap.get?_push_size (s.heap.push (xtup us)) (o:=xnew C s.heap.objs.size) rfl
 rwa [Heap.size_push] at this
theorem run_makeX {pins:List (Addr × Obj)}{σ:St}{H:Hp}{s:Shared}{Q:VK}{us:List Value}{vs:List V}(M:XCl X.K C bm)(hi:PySem.W.findIn X.K (.ref C) "__init__" = some (some (.ref f)))(hf:PySem.W.isFn X.K (.ref f)=true)
  (F:FnOk X.prog X.w X.K X.mg X.base CX0 k f fd ps sp) (hr:Room (k+1) X.A) (hb:Binds X.K fd ps []) (I:Inv X pins σ H s) (r:Vals vs us)
  (h:vs.length≤1000∧∀ x,H x=none→sp (.ref x::vs) (upd H x (Exo x C none true)) (fun v H2=>v = .non∧Q (.ref x) H2) E0):wpAny (model X.prog X.w) X.A (call (.ref C) us) (EP X pins σ Q) X.xe s:=by
 obtain ⟨hl0,h⟩:=h
 have hq:=h (s.heap.objs.size+1) (I.hok.fresh (Nat.le_succ _))
 have I2:=Inv.madeX (C:=C) I us
 have r2:Vals (V.ref (s.heap.objs.size+1)::vs) (Value.ref (s.heap.objs.size+1)::us):=.cons rfl r
 have hl:(Value.ref (s.heap.objs.size+1)::us++[]).length=ps.length:=by
  have e:=r2.length
  rw [F.len _ _ _ _ hq] at e
  rw [List.append_nil]
  exact e.symm
 obtain ⟨hh,g,d,tk,os⟩:=s
 refine call_X I.kIn M hi hf (wpAny_call ?_) (by rw [← r.length,sizeLine_eq];omega)
 have hb':=hb ⟨(hh.push (xtup us)).push (xnew C hh.objs.size),g,d,tk,os⟩ (Value.ref (hh.objs.size+1)::us) I2.kIn hl
 rw [List.append_nil] at hb'
 refine codeAny_mono (F.run _ X.stack _ _ ⟨Value.ref (hh.objs.size+1)::us,[]⟩ (Value.ref (hh.objs.size+1)::us) _ _ E0 (hr.make C us []) (I2.env0.make C us []) hb' r2 hq) fun r s' hq'=>?_
 cases r with
 | error e=>exact hq'.elim
 | ok fl =>
  cases fl with
  | ret u =>
   obtain ⟨v,H',I3,rv,ev,q3⟩:=I2.after hq'
   subst ev
   exact ⟨rv,⟨V.ref (hh.objs.size+1),H',I3,rfl,q3⟩⟩
  | next=>exact False.elim hq'
  | brk=>exact False.elim hq'
  | cont=>exact False.elim hq'
end
end L2
namespace L2
open PySem PySem.Spec PyProof.Rows Builtin Builtin.ObjectAttr
section
variable {prog:Program} {w:World} {A:Around} {E:Value→Shared→Prop} {h:Heap} {g:Array GenState} {d:Drawn} {t:Nat} {os:OsState} {K:PySem.W.Frag} {C e:Addr} {bm:List Value} {oe:Obj} {vs:Array Value}
theorem init_X {rest:List Value}{R:Result→Shared→Prop}(X:K.In h)(x:XCl K C bm)(he:h.get? e=some oe)(hcls:oe.cls = .ref C)(hd:oe.data = .fields vs)(hsz:vs.size=6)(hrest:rest.length≤sizeLine)
  (hq:R (.ok (.ret .none)) ⟨(h.push (xtup rest)).update e (Obj.mapFields (·.setIfInBounds 0 (.ref h.objs.size))),g,d,t,os⟩) :
  codeAny (model prog w) A (.call (.builtin "ValueError.__init__") ⟨.ref e::rest,[]⟩) R ⟨h,g,d,t,os⟩:=by
 obtain ⟨T,nm,q,N,bs,sn,sub,ab,col,dd,k0,k1,k2,k3,k5,hC⟩:=x.at X
 have F:=PySem.F.excBase_ValueError
 refine codeAny_call_builtin F.init.plain F.initEntry (wpAny_check_init_subT F T hC he hcls ?_)
 unfold Builtin.«BaseException.__init__»
 refine wpAny_bind (m:=newTuple rest) ?_
 unfold newTuple
 refine wpAny_newObj_type ?_ (by show rest.toArray.size≤sizeLine;rw [List.size_toArray];exact hrest)
 have he₁:=Heap.get?_push_of_some (h:=h) (xtup rest) he
 have h0:∃ a0,vs[0]? = some a0:=⟨vs[0],Array.getElem?_eq_getElem (by omega)⟩
 obtain ⟨a0,h0⟩:=h0
 unfold BaseException.bexcPut
 refine wpAny_bind (wpAny_bind (wpAny_field he₁ hd h0 (wpAny_bind (wpAny_setField he₁ hd (by omega) ?_))))
 cases a0 <;> first | exact wpAny_letGo (wpAny_pure hq) | exact wpAny_pure (wpAny_pure hq)
theorem zht {bm:List Value}{self:Value}(T:OwnTail h bmV bm):refuseLoop self "__setattr__" bm=pure ():=by
 induction T with
 | base=>exact PySem.F.store_ValueError.passes self
 | own _ _ _ _ ih=>rw [refuseLoop_ref];exact ih
structure SetX (h h':Heap) (e:Addr) (oe:Obj) (name:Str) (v:Value) (mA:Str→Option Value) (dx:Addr):Prop where
 ns:h'.Ns1 dx fun y=>if y=name then some v else mA y
 exc:h'.get? e=some { oe with dict:=some dx }
 keep:∀ b o,b≠e→b≠dx→h.get? b=some o→h'.get? b=some o
section
variable {name:Str} {v:Value} {mA:Str→Option Value}
set_option maxHeartbeats 1600000 in
theorem zi9 {tk:Tok}{Q:Fin→Shared→Prop}{ns:List Str}(X:K.In h)(x:XCl K C bm)(hna:PySem.W.findIn K (.ref C) name=some none)
  (hx:h.get? e=some oe) (hc:oe.cls = .ref C) (hnc:oe.data = .fields vs) (hd:(oe.dict=none∧∀ n,mA n=none) ∨ ∃ dx,oe.dict=some dx∧dx≠e∧h.Ns1 dx mA)
  (hq:∀ h' tk' dx,SetX h h' e oe name v mA dx→(oe.dict=none→dx=h.objs.size)→(∀ dy,oe.dict=some dy→dx=dy)→Q (.done (.ret .none)) ⟨h',g,d,tk',os⟩) (hw:Within mA ns) (hsz:ns.length≤1000) :
  wpAny (model prog w) A (Builtin.«object.__setattr__» ⟨[.ref e,.str name tk,v],[]⟩) Q E ⟨h,g,d,t,os⟩:=by
 obtain ⟨T,nm,q,N,bs,sn,sub,ab,col,dd,k0,k1,k2,k3,k5,hC⟩:=x.at X
 have hpass:=zht (self:=.ref e) T
 have L:=PySem.W.looks_findIn (M:=model prog w) X hna
 unfold Builtin.«object.__setattr__»
 repeat (first | rw [refuse_eq] | (rw [refuseLoop_ref,hpass]) | (with_reducible refine wpAny_loadPart_at hx ?_;rw [hc]) | with_reducible refine wpAny_mroOf_exc hC ?_ | with_reducible refine L.at ?_ | wp_step)
 rcases hd with ⟨hdn,hmA⟩ | ⟨dx,hdx,hne,hns⟩
 ·rw [hdn,if_neg (by simp [typeHasDict])]
  split
  ·rename_i hcd
   cases hcd
  split
  ·rename_i c hcd
   rw [hnc] at hcd;cases hcd
  ·have hx₁:(h.push { cls:=.type "dict",data:=.dict #[] }).get? e=some oe:=Heap.get?_push_of_some _ hx
   have hxs:e≠h.objs.size:=Nat.ne_of_lt (Heap.lt_size hx)
   refine wpAny_bind (wpAny_alloc' ?_)
   refine wpAny_bind (wpAny_update' hx₁ ?_)
   refine wpAny_pure ?_
   have hgd:((h.push { cls:=.type "dict",data:=.dict #[] }).update e fun o=>{ cls:=o.cls,dict:=some h.objs.size,data:=o.data,slots:=o.slots }).get? h.objs.size
     = some { cls:=.type "dict",data:=.dict #[] } :=
    (Heap.get?_update_ne _ _ _ _ hxs.symm).trans (Heap.get?_push_at rfl rfl)
   have hnd:((h.push { cls:=.type "dict",data:=.dict #[] }).update e fun o=>{ cls:=o.cls,dict:=some h.objs.size,data:=o.data,slots:=o.slots }).Ns h.objs.size (fun _=>none) :=
    ⟨_,#[],_,hgd,rfl,fun e he=>absurd he (by simp),fun _=>rfl⟩
   show wpAny _ _ (storeInDict h.objs.size (.str name tk) name v) _ _ _
   unfold storeInDict newKeyGuard
   refine wpAny_bind (wpAny_pure (wpAny_bind (wpAny_nsSet1 (Heap.Ns1.of_empty hnd) fun h' hn' hs=>?_)))
   obtain ⟨oD,esD,epD,hoD,hdD,hcD⟩:=hn'.count (Within.cons name v Within.nil)
   refine wpAny_bind (wpAny_lookBehind hoD (by rw [hdD];exact pastItsLine_dict (Nat.le_trans hcD (by rw [List.length_cons,List.length_nil,sizeLine_eq];omega))) ?_)
   wp_walk
   refine hq h' _ h.objs.size ⟨?_,?_,fun b o hbx _ hb=>?_⟩ (fun _=>rfl) fun dy q=>by rw [hdn] at q;cases q
   ·obtain ⟨o',es,ep,e1,e2,e3,eu,e4⟩:=hn'
    exact ⟨o',es,ep,e1,e2,e3,eu,fun y=>by rw [e4 y];by_cases hy:y=name <;> simp [hy,hmA]⟩
   ·exact (hs.2 e hxs).trans (Heap.get?_update_self _ hx₁ (Obj.isFreed_of_fields hnc))
   ·exact (hs.2 b (Nat.ne_of_lt (Heap.lt_size hb))).trans ((Heap.get?_update_ne _ _ _ _ hbx).trans (Heap.get?_push_of_some _ hb))
 ·rw [hdx]
  refine wpAny_pure ?_
  show wpAny _ _ (storeInDict dx (.str name tk) name v) _ _ _
  unfold storeInDict newKeyGuard
  refine wpAny_bind (wpAny_pure (wpAny_bind (wpAny_nsSet1 hns fun h' hn' hs=>?_)))
  obtain ⟨oD,esD,epD,hoD,hdD,hcD⟩:=hn'.count (Within.cons name v hw)
  refine wpAny_bind (wpAny_lookBehind hoD (by rw [hdD];exact pastItsLine_dict (Nat.le_trans hcD (by rw [List.length_cons,sizeLine_eq];omega))) ?_)
  wp_walk
  refine hq h' _ dx ⟨hn',?_,fun b ob _ hbd hb=>(hs.2 b hbd).trans hb⟩ (fun q=>by rw [hdx] at q;cases q) fun dy q=>by rw [hdx] at q;cases q;rfl
  rw [(hs.2 e hne.symm).trans hx]
  obtain ⟨c,dd,dt,sl⟩:=oe
  simp only at hdx
  subst hdx
  rfl
theorem check_saX {M:Model}{nameV:Value}{Q:Unit→Shared→Prop}(X:K.In h)(x:XCl K C bm)(hx:h.get? e=some oe)(hc:oe.cls = .ref C)(hq:Q () ⟨h,g,d,t,os⟩) :
  wpAny M A (checkBuiltinCall "object.__setattr__" ⟨[.ref e,nameV,v],[]⟩) Q E ⟨h,g,d,t,os⟩:=by
 obtain ⟨T,nm,q,N,bs,sn,sub,ab,col,dd,k0,k1,k2,k3,k5,hC⟩:=x.at X
 have SF:=PySem.F.store_ValueError
 have hcB:(Value.ref C::bm).contains (.type "object")=true:=by rw [List.contains_cons,T.hasType SF.hasOwner,Bool.or_true]
 have ha:=SF.args (.ref e) nameV v
 simp only [checkBuiltinCall,SF.kind,SF.split]
 refine wpAny_bind ?_
 unfold isInstance
 repeat (first | (with_reducible refine wpAny_loadPart_at hx ?_;rw [hc]) | (with_reducible refine wpAny_isSubtype_exc hC ?_;rw [hcB]) | wp_step)
 exact hq
theorem set_X {Q:Unit→Shared→Prop}{ns:List Str}(X:K.In h)(x:XCl K C bm)(hsa:PySem.W.findIn K (.ref C) "__setattr__" = some (some (.builtin "object.__setattr__")))(hna:PySem.W.findIn K (.ref C) name=some none)
  (hx:h.get? e=some oe) (hc:oe.cls = .ref C) (hnc:oe.data = .fields vs) (hd:(oe.dict=none∧∀ n,mA n=none) ∨ ∃ dx,oe.dict=some dx∧dx≠e∧h.Ns1 dx mA)
  (hq:∀ h' tk' dx,SetX h h' e oe name v mA dx→(oe.dict=none→dx=h.objs.size)→(∀ dy,oe.dict=some dy→dx=dy)→Q () ⟨h',g,d,tk',os⟩) (hw:Within mA ns) (hsz:ns.length≤1000) :
  wpAny (model prog w) A (setAttr (.ref e) name v) Q E ⟨h,g,d,t,os⟩:=by
 obtain ⟨T,nm,q,N,bs,sn,sub,ab,col,dd,k0,k1,k2,k3,k5,hC⟩:=id (x.at X)
 have SF:=PySem.F.store_ValueError
 have f3:=SF.slot.bind (.ref e)
 have L:=PySem.W.looks_findIn (M:=model prog w) X hsa
 unfold setAttr callSpecial? specialOf
 repeat (any_goals (first | assumption | (with_reducible refine wpAny_loadPart_at hx ?_;rw [hc]) | with_reducible refine L.at ?_ | wp_step))
 refine codeAny_call_builtin SF.slot.plain SF.entry (check_saX X x hx hc (zi9 X x hna hx hc hnc hd (fun h' tk' dx a b c=>?_) hw hsz))
 repeat (any_goals (first | assumption | wp_step))
 exact hq h' tk' dx a b c
end
end
end L2
namespace L2
open PySem PySem.Spec PyProof.Rows
noncomputable def xdt (d:Addr)(fs:List (Str × V)):Heap→Prop:=fun h=>∃ mA,h.Ns1 d mA∧(∀ f,RelO (fs.lookup f) (mA f))∧PySem.Within mA (fs.map (·.1))
noncomputable abbrev Xdt (d:Addr)(fs:List (Str × V)):HO:=.ext (xdt d fs)
theorem xdt_ok {P:Program}{w:World}{H:Hp}{h:Heap}{d:Addr}{fs:List (Str × V)}(x:xdt d fs h):ObjOk P w H h d (Xdt d fs) :=
 ⟨x,let ⟨_,⟨o,_,_,q,_⟩,_⟩:=x;⟨o,q⟩,fun _ _ y k=>let ⟨mA,n,r⟩:=y;⟨mA,n.at k,r⟩⟩
structure XAt (K:PySem.W.Frag) (C:Addr):Prop where
 cl:∃ bm,XCl K C bm
 sa:PySem.W.findIn K (.ref C) "__setattr__" = some (some (.builtin "object.__setattr__"))
 ga:PySem.W.findIn K (.ref C) "__getattribute__" = some (some (.builtin "BaseException.__getattribute__"))
 gn:PySem.W.findIn K (.ref C) "__getattr__" = some none
section
variable {X:Cx} {pins:List (Addr × Obj)} {σ:St} {H:Hp} {s:Shared} {A:Around} {E:Value→Shared→Prop} {a C:Addr} {b:Bool} {f:Str} {y:V} {u:Value} {Q:Unit→Shared→Prop}
theorem zb9 {P:Program}{w:World}{h:Heap}{d:Option Addr}(ok:HOk P w H h)(e:H a=some (Exo a C d b)):exo a C d b h:=(ok a _ e).1
theorem xdt_get {P:Program}{w:World}{h:Heap}{d:Addr}{fs:List (Str × V)}(ok:HOk P w H h)(e:H d=some (Xdt d fs)):xdt d fs h:=(ok d _ e).1
theorem setx0_ok (I:Inv X pins σ H s)(ea:H a=some (Exo a C none b))(x:XAt X.K C)(hna:PySem.W.findIn X.K (.ref C) f=some none)(ry:RelV y u)
  (h:∀ s' dx,H dx=none→dx≠a→Inv X pins σ (upd (upd H a (Exo a C (some dx) b)) dx (Xdt dx [(f,y)])) s'→Q () s'):wpAny (model X.prog X.w) A (setAttr (.ref a) f u) Q E s:=by
 obtain ⟨oe,vs,g1,g2,g3,g4,g5,g6⟩:=zb9 I.hok ea
 obtain ⟨bm,xc⟩:=x.cl
 obtain ⟨hh,g,dr,tk,os⟩:=s
 refine set_X (mA:=fun _=>none) (ns:=[]) I.kIn xc x.sa hna g1 g2 g4 (.inl ⟨g3,fun _=>rfl⟩) (fun h' tk' dx S d1 _=>?_) (fun n hn=>absurd rfl hn) (by simp)
 have hdx:dx=hh.objs.size:=d1 g3
 have hfr:H dx=none:=I.hok.fresh (Nat.le_of_eq hdx.symm)
 have nea:dx≠a:=fun z=>by rw [z,ea] at hfr;cases hfr
 have nin:∀ c o,hh.get? c=some o→c≠dx:=fun c o q z=>absurd (Heap.lt_size q) (by rw [z,hdx];exact Nat.lt_irrefl _)
 have neA:∀ c,H c=none→c≠a:=fun c n z=>by rw [z,ea] at n;cases n
 have neA':∀ c v,H c=some v→v≠Exo a C none b→c≠a:=fun c v q n z=>by rw [z,ea] at q;cases q;exact n rfl
 have neD:∀ c v,H c=some v→c≠dx:=fun c v q z=>by rw [z,hfr] at q;cases q
 have same:∀ c v,H c=some v→v≠Exo a C none b→upd (upd H a (Exo a C (some dx) b)) dx (Xdt dx [(f,y)]) c=some v:=fun c v q n=>by rw [zai (neD c v q),zai (neA' c v q n)];exact q
 refine h _ dx hfr nea (I.un (t':=tk') ⟨fun c o q n _ _=>S.keep c o (neA c n) (nin c o q) q,fun c o q n _ _=>⟨o.slots,S.keep c o (neA c n) (nin c o q) q⟩,
  fun c o q n _=>by rw [zai (nin c o q),zai (neA c n)];exact n,fun c o q _=>?_,fun c xs q=>same c _ q (by intro z;cases z),fun c o v q=>same c _ q (by intro z;cases z),fun c ps q=>⟨#[],by rw [same c _ q (by intro z;cases z)];simp⟩⟩ fun c v q=>?_)
 ·by_cases z:c=a
  ·subst z;exact ⟨_,S.exc⟩
  ·exact ⟨o,S.keep c o z (nin c o q) q⟩
 ·by_cases z:c=dx
  ·subst z
   rw [zac] at q;cases q
   refine xdt_ok ⟨_,S.ns,fun n=>?_,fun n hn=>?_⟩
   ·show RelO (List.lookup n [(f,y)]) (if n=f then some u else none)
    by_cases z:n=f
    ·subst z;rw [if_pos rfl,List.lookup_cons,beq_self_eq_true];exact ry
    ·rw [if_neg z,List.lookup_cons,beq_eq_false_iff_ne.mpr z];exact True.intro
   ·by_cases z:n=f
    ·subst z;exact List.mem_cons_self
    ·exact absurd (show (if n=f then some u else none)=none by rw [if_neg z]) hn
  ·rw [zai z] at q
   by_cases y':c=a
   ·subst y'
    rw [zac] at q;cases q
    exact zim ⟨_,vs,S.exc,g2,rfl,g4,g5,g6⟩
   ·rw [zai y'] at q
    have hc:=I.hok c v q
    refine hc.stay (fun p o hp r=>S.keep p o ?_ (nin p o r) r) (fun p hp=>same p _ hp (by intro z;cases z)) fun p xs hp=>same p _ hp (by intro z;cases z)
    rcases hp with rfl | hp
    ·exact y'
    ·exact neA' p _ hp (by intro z;cases z)
theorem setx1_ok {dx:Addr}{fs:List (Str × V)}(I:Inv X pins σ H s)(ea:H a=some (Exo a C (some dx) b))(ed:H dx=some (Xdt dx fs))(hl:fs.length≤900)(x:XAt X.K C)(hna:PySem.W.findIn X.K (.ref C) f=some none)(ry:RelV y u)(hda:dx≠a)
  (h:∀ s',Inv X pins σ (upd H dx (Xdt dx (putF f y fs))) s'→Q () s'):wpAny (model X.prog X.w) A (setAttr (.ref a) f u) Q E s:=by
 obtain ⟨oe,vs,g1,g2,g3,g4,g5,g6⟩:=zb9 I.hok ea
 obtain ⟨mA,n1,n2,n3⟩:=xdt_get I.hok ed
 obtain ⟨bm,xc⟩:=x.cl
 obtain ⟨hh,g,dr,tk,os⟩:=s
 refine set_X (mA:=mA) (ns:=fs.map (·.1)) I.kIn xc x.sa hna g1 g2 g4 (.inr ⟨dx,g3,hda,n1⟩) (fun h' tk' dy S _ d2=>?_) n3 (by rw [List.length_map];omega)
 obtain rfl:dy=dx:=d2 dx g3
 refine h _ (I.write (t':=tk') (x:=dy) (e:=dy) (by rw [ed];exact True.intro) (.inl rfl) (fun c o hc q=>?_) ?_ (xdt_ok ⟨_,S.ns,fun n=>?_,fun n hn=>?_⟩))
 ·by_cases z:c=a
  ·subst z
   rw [g1] at q;cases q
   rw [S.exc]
   obtain ⟨c1,c2,c3,c4⟩:=oe
   simp only at g3
   subst g3
   rfl
  ·exact S.keep c o z hc q
 ·obtain ⟨o,_,_,e,_⟩:=S.ns;exact ⟨o,e⟩
 ·show RelO ((putF f y fs).lookup n) (if n=f then some u else mA n)
  rw [zd8]
  by_cases z:n=f
  ·rw [if_pos z,if_pos z];exact ry
  ·rw [if_neg z,if_neg z];exact n2 n
 ·by_cases z:n=f
  ·rw [z];exact (zd9 f y fs).1
  ·refine (zd9 f y fs).2 n (n3 n fun w=>hn ?_)
   show (if n=f then some u else mA n)=none
   rw [if_neg z];exact w
end
noncomputable def sFx0 (K:PySem.W.Frag)(ta tv:TE)(f:Str):TS:=fun D σ H=>tv σ H fun y H1=>ta σ H1 fun x H2=>∃ a C b,x = .ref a∧H2 a=some (Exo a C none b)∧XAt K C∧PySem.W.findIn K (.ref C) f=some none ∧
 ∀ dx,H2 dx=none→dx≠a→D.nx σ (upd (upd H2 a (Exo a C (some dx) b)) dx (Xdt dx [(f,y)]))
noncomputable def sFx1 (K:PySem.W.Frag)(ta tv:TE)(f:Str):TS:=fun D σ H=>tv σ H fun y H1=>ta σ H1 fun x H2=>∃ a C b dx fs,x = .ref a∧H2 a=some (Exo a C (some dx) b)∧H2 dx=some (Xdt dx fs)∧fs.length≤900∧XAt K C∧PySem.W.findIn K (.ref C) f=some none∧dx≠a ∧
 D.nx σ (upd H2 dx (Xdt dx (putF f y fs)))
section
variable {X:Cx} {o e value:Expr} {es:List Expr} {f x:Str} {p pos pos' apos:Pos} {ta tv te:TE} {t:TA} {R:Addr} {E:XK}
theorem ps_fx0 (ha:PE X o ta)(hv:PE X value tv)(hs:swapsWith value (some (.Attribute o f pos')) pos.line X.env=pure false):PS X (.Assign [.Attribute o f pos'] value pos) (sFx0 X.K ta tv f):=by
 intro pins s σ H D I h
 refine plainObj_wpAny_Assign_Attribute (thn (hv pins s σ H _ I h) fun u s1 ⟨y,H1,I1,ry,q⟩=>thn (ha pins s1 σ H1 _ I1 q) fun ov s2 zq1=>?_) hs
 obtain ⟨z,H2,I2,rx,a,C,b,ex,ea,c,n,q2⟩:=zq1
 subst ex
 obtain rfl:ov=Value.ref a:=rx
 exact setx0_ok I2 ea c n ry fun s3 dx h1 h2 I3=>⟨σ,_,I3,q2 dx h1 h2⟩
theorem ps_fx1 (ha:PE X o ta)(hv:PE X value tv)(hs:swapsWith value (some (.Attribute o f pos')) pos.line X.env=pure false):PS X (.Assign [.Attribute o f pos'] value pos) (sFx1 X.K ta tv f):=by
 intro pins s σ H D I h
 refine plainObj_wpAny_Assign_Attribute (thn (hv pins s σ H _ I h) fun u s1 ⟨y,H1,I1,ry,q⟩=>thn (ha pins s1 σ H1 _ I1 q) fun ov s2 zq2=>?_) hs
 obtain ⟨z,H2,I2,rx,a,C,b,dx,fs,ex,ea,ed,l,c,n,da,q2⟩:=zq2
 subst ex
 obtain rfl:ov=Value.ref a:=rx
 exact setx1_ok I2 ea ed l c n ry da fun s3 I3=>⟨σ,_,I3,q2⟩
noncomputable def tInitX (K:PySem.W.Frag)(t:TA):TE:=fun σ H Q=>t σ H fun vs H1=>∃ a C d b rest,vs = .ref a::rest∧rest.length≤1000∧H1 a=some (Exo a C d b)∧XAt K C∧Q .non H1
structure XBase (K:PySem.W.Frag) (R:Addr):Prop where
 rd:PySem.W.readsIn K R (.type "type")=true
 at_:PySem.W.findCls K (.ref R) (.type "type") "__init__" = some (.val (.builtin "ValueError.__init__"))
 ga:PySem.W.specialIn K (.ref R) "__getattribute__" = some (some (.builtin "type.__getattribute__"))
 hd:PySem.W.handedIn (.builtin "ValueError.__init__")=true
theorem initx_ok {pins:List (Addr × Obj)}{σ:St}{H:Hp}{s:Shared}{A:Around}{F:Value→Shared→Prop}{Q:Value→Shared→Prop}{a C:Addr}{d:Option Addr}{b:Bool}{rest:List Value}(I:Inv X pins σ H s)(ea:H a=some (Exo a C d b))(x:XAt X.K C)(hl:rest.length≤1000)
  (h:∀ s',Inv X pins σ H s'→Q .none s'):wpAny (model X.prog X.w) A (call (.builtin "ValueError.__init__") (.ref a::rest)) Q F s:=by
 obtain ⟨oe,vs,g1,g2,g3,g4,g5,g6⟩:=zb9 I.hok ea
 obtain ⟨bm,xc⟩:=x.cl
 obtain ⟨hh,g,dr,tk,os⟩:=s
 refine wpAny_call (init_X I.kIn xc g1 g2 g4 g5 (by rw [sizeLine_eq];omega) (h _ ?_))
 have I1:=I.kept (h':=hh.push (xtup rest)) (t':=tk) (fun b u q=>Heap.get?_push_of_some _ q)
 have g1':=Heap.get?_push_of_some (h:=hh) (xtup rest) g1
 have hd':=Obj.data_mapFields g4 (·.setIfInBounds 0 (Value.ref hh.objs.size))
 have e':=Heap.get?_update_self (Obj.mapFields (·.setIfInBounds 0 (Value.ref hh.objs.size))) g1' (Obj.isFreed_of_fields hd')
 have I2:=I1.write (t':=tk) (x:=a) (e:=a) (h':=(hh.push (xtup rest)).update a (Obj.mapFields (·.setIfInBounds 0 (Value.ref hh.objs.size)))) (o:=Exo a C d b) (by rw [ea];exact True.intro) (.inl rfl) (fun c o hc q=>(Heap.get?_update_other _ _ (Ne.symm hc)).trans q) ⟨_,e'⟩
  (zim ⟨_,_,e',(Obj.cls_mapFields _ _).trans g2,by
   rw [← g3]
   obtain ⟨c1,c2,c3,c4⟩:=oe
   cases c3 <;> rfl,hd',by rw [Array.size_setIfInBounds];exact g5,fun z=>by rw [Array.getElem?_setIfInBounds_ne (by decide)];exact g6 z⟩)
 rwa [zin ea] at I2
theorem pe_initX {pl:Sem Bool}(B:XBase X.K R)(hg:Gl X x)(hm:X.mg x=some (.ref R))(ha:PA X (e::es) t)(hdb:(x == ("__debug__":Str))=false:=by decide)
  (hst:starEach (e::es) X.env=(false,eval e X.env)::starEach es X.env:=by rfl) (hpl:(backTo pos (starEach es X.env)).any (·.1)=false:=by rfl)
  (ht:eval (.Call (.Attribute (.Name x p) "__init__" apos) (e::es) [] pos) X.env=(do
   let ov ← eval (.Name x p) X.env
   standAt apos.atName
   let (f,first) ← holding [ov] (getMethod ov "__init__" pl)
   callWith pos f first (backTo pos (starEach (e::es) X.env)) (backToKw pos (keywordEach [] X.env))):=by rfl) :
  PE X (.Call (.Attribute (.Name x p) "__init__" apos) (e::es) [] pos) (tInitX X.K t):=by
 intro pins s σ H Q I h
 refine PySem.W.methodCall_KW (pl:=pl) (zcy I hg hm ?_ hdb) ht
 refine PySem.W.method_cls I.kIn B.ga (PySem.W.cls_value I.kIn B.rd B.at_ B.hd ?_)
 refine PyProof.Rows.callWith_builtin1 (thn (ha pos pins _ σ H _ (I.tok _) h) fun us s2 zq3=>?_) hst hpl
 obtain ⟨vs,H2,I2,r,a,C,d,b,rest,ev,hl,ea,xa,q2⟩:=zq3
 subst ev
 cases r with
 | cons r1 r2 =>
  obtain rfl:_=Value.ref a:=r1
  exact initx_ok I2 ea xa (by rw [← r2.length];exact hl) fun s3 I3=>⟨.non,H2,I3,rfl,q2⟩
noncomputable def sRaise (K:PySem.W.Frag)(te:TE)(E:XK):TS:=fun D σ H=>te σ H fun v H1=>∃ a C d,v = .ref a∧H1 a=some (Exo a C d true)∧XAt K C∧E (.ref a) none (upd H1 a (Exo a C d false))
theorem ps_raiseX (hx:Raises X E)(hc:X.calm=true)(he:PE X e te):PS X (.Raise (some e) none pos) (sRaise X.K te E):=by
 intro pins s σ H D I h
 rw [arm_exec_Raise]
 refine wpAny_bind (wpAny_standAt ?_)
 unfold raiseStmt
 refine wpAny_bind (wpAny_bind (thn (he pins s σ H _ I h) fun v s1 ⟨y,H1,I1,ry,a,C,d,ey,ea,xa,q⟩=>wpAny_bind (wpAny_standAt (wpAny_pure ?_))))
 subst ey
 obtain rfl:v=Value.ref a:=ry
 have fin:=hx pins σ H1 s1 a C d I1 ea q
 obtain ⟨⟨oc,od,odt,osl⟩,vs,g1,g2,g3,g4,g5,g6⟩:=zb9 I1.hok ea
 simp only at g2 g3 g4
 subst g2 g3 g4
 obtain ⟨bm,xc⟩:=xa.cl
 obtain ⟨T,nm,q,N,bs,sn,sub,ab,col,dd,k0,k1,k2,k3,k5,hC⟩:=xc.at I1.kIn
 have hcB:(Value.ref C::bm).contains (.type "BaseException")=true:=by rw [List.contains_cons,T.hasType PySem.F.excBase_ValueError.hasBase,Bool.or_true]
 have hh:=I1.ok.hd hc
 obtain ⟨hp,g,dr,tk,os⟩:=s1
 repeat (first | with_reducible refine wpAny_loadPart_at g1 ?_ | with_reducible refine wpAny_loadPart_at hC ?_ | (with_reducible refine wpAny_isSubtype_exc hC ?_;rw [hcB]) | wp_step)
 rw [g6 rfl]
 refine wpAny_pure ?_
 rw [if_neg (by decide)]
 exact wpAny_pure (wpAny_raiseNew_none hh fin)
end
end L2
namespace L2
open PySem PySem.Spec PyProof.Rows
theorem XCl.mro {K:PySem.W.Frag}{C:Addr}{bm:List Value}{h:Heap}(x:XCl K C bm)(X:K.In h){T:String}{b:Bool}(hb:bmV.contains (.type T)=b):PySem.W.mroIn K C (.type T)=some b:=by
 have T':=PySem.W.tail_of_in X x.tl
 obtain ⟨dd,cd,k0,k1,k2,k3,k5,hl,hm,hd,hh⟩:=x.obj
 unfold PySem.W.mroIn PySem.W.clsIn
 rw [hl,Option.bind_some,hm,if_neg (by simp),List.contains_cons,T'.hasType hb]
 rfl
theorem XCl.cls {K:PySem.W.Frag}{C:Addr}{bm:List Value}(x:XCl K C bm):∃ cd,PySem.W.clsIn K C=some cd∧cd.hasDict=true:=by
 obtain ⟨dd,cd,k0,k1,k2,k3,k5,hl,hm,hd,hh⟩:=x.obj
 exact ⟨cd,by unfold PySem.W.clsIn;rw [hl],hh⟩
section
variable {prog:Program} {w:World} {A:Around} {E:Value→Shared→Prop} {s:Shared} {K:PySem.W.Frag} {C a:Addr} {bm:List Value} {oe:Obj} {od:Option Obj} {name:Str} {fill expr:Bool} {tk:Tok}
theorem zio {Q:Value→Shared→Prop}(X:K.In s.heap)(I:PySem.W.InstAt s.heap a oe C od)(x:XAt K C)
  (h:wpAny (model prog w) A.in1 (Builtin.«object.__getattribute__» ⟨[.ref a,.str name tk],[]⟩) (fun fin s'=>match fin with | .done (.ret v)=>wpAny (model prog w) A (handedOut v) Q E s' | _=>False) (fun _ _=>False) s) :
  wpAny (model prog w) A (getAttrBy (.ref a) (.str name tk) fill expr) Q E s:=by
 obtain ⟨bm,xc⟩:=x.cl
 have hmB:=xc.mro X (T:="BaseException") (b:=true) PySem.F.excBase_ValueError.hasBase
 have L0:=I.type (M:=model prog w)
 unfold getAttrBy
 refine wpAny_holding (wpAny_bind (L0.here (wpAny_bind ((PySem.W.looks_findIn X x.ga).here ?_))))
 dsimp only
 rw [show (onTheHeap (Value.ref C) && Value.builtin "BaseException.__getattribute__" == Value.builtin "object.__getattribute__")=false from by rw [show (Value.builtin "BaseException.__getattribute__" == Value.builtin "object.__getattribute__")=false from by decide +kernel,Bool.and_false],if_neg (by decide)]
 unfold getAttrByItsOwn
 refine wpAny_bind ((PySem.W.looks_hook (mc:=.ref C) (r:=none) X (by rw [if_pos (show onTheHeap (Value.ref C)=true from rfl)];exact x.gn)).here (wpAny_bind (wpAny_attempt (wpAny_holding ?_))))
 unfold callGetattribute
 rw [show (expr && onTheHeap (Value.builtin "BaseException.__getattribute__"))=false from Bool.and_false _,if_neg (by decide)]
 unfold boundAndCalled
 rw [PySem.F.attr_ValueError.ga.bind]
 refine wpAny_bind (wpAny_pure ?_)
 show wpAny _ _ (call (.builtin "BaseException.__getattribute__") [.ref a,.str name tk]) _ _ _
 refine wpAny_call (codeAny_call_builtin PySem.F.attr_ValueError.ga.plain PySem.F.entry_bexc_ga ?_)
 have hk:builtinKind "BaseException.__getattribute__" = some .slot:=by decide +kernel
 have hsp:splitId "BaseException.__getattribute__" = some ("BaseException","__getattribute__"):=by decide +kernel
 have LI:PySem.W.Looks (model prog w) s.heap (isInstance (.ref a) (.type "BaseException")) true:=L0.andThen (PySem.W.looks_mroIn X hmB)
 refine @PySem.W.check_slot (model prog w) _ _ s "BaseException.__getattribute__" "BaseException" "__getattribute__" (.ref a) [.str name tk] [] _ hk hsp LI (PySem.F.args_bexc_ga (.ref a) (.str name tk)) ?_
 refine wpAny_mono h (fun fin s' z=>?_) fun _ _ z=>z.elim
 rcases fin with (_ | _ | _ | _) | _ <;> first | exact z | exact z.elim
theorem ga_value {v:Value}{Q:Fin→Shared→Prop}(X:K.In s.heap)(I:PySem.W.InstAt s.heap a oe C od)(hf:PySem.W.findObj K C od name=some (.value v))(h:Q (.done (.ret v)) s) :
  wpAny (model prog w) A (Builtin.«object.__getattribute__» ⟨[.ref a,.str name tk],[]⟩) Q E s:=by
 have L0:=I.type (M:=model prog w)
 have L1:=PySem.W.looks_find (M:=model prog w) X I hf
 refine wpAny_bind (wpAny_pure (wpAny_bind (wpAny_pure (wpAny_bind (L0.here (wpAny_bind (L1.here ?_)))))))
 exact wpAny_pure h
theorem ga_bind {g b:Value}{Q:Fin→Shared→Prop}(X:K.In s.heap)(I:PySem.W.InstAt s.heap a oe C od)(hf:PySem.W.findObj K C od name=some (.bind g b))
  (h:wpAny (model prog w) A (call g [b,.ref a,.ref C]) (fun v s'=>Q (.done (.ret v)) s') E s) :
  wpAny (model prog w) A (Builtin.«object.__getattribute__» ⟨[.ref a,.str name tk],[]⟩) Q E s:=by
 have L0:=I.type (M:=model prog w)
 have L1:=PySem.W.looks_find (M:=model prog w) X I hf
 refine wpAny_bind (wpAny_pure (wpAny_bind (wpAny_pure (wpAny_bind (L0.here (wpAny_bind (L1.here ?_)))))))
 show wpAny _ _ (holding [b] (call g [b,.ref a,.ref C]) >>= ret) _ _ _
 exact wpAny_bind (wpAny_holding (wpAny_mono h (fun v s' z=>wpAny_pure z) fun _ _ z=>z))
end
theorem XCl.hasDict {K:PySem.W.Frag}{C:Addr}{bm:List Value}(x:XCl K C bm):PySem.W.hasDictIn K C=true:=by
 obtain ⟨cd,h1,h2⟩:=x.cls
 unfold PySem.W.hasDictIn
 rw [h1]
 exact h2
structure XCa (K:PySem.W.Frag) (C:Addr):Prop where
 at_:XAt K C
 ca:PySem.W.findIn K (.ref C) "__class__" = some (some (.builtin "object.__class__"))
 gt:PySem.W.specialIn K (.builtin "object.__class__") "__get__" = some (some (.builtin "getset_descriptor.__get__"))
 tk:PySem.W.takesIn K (.builtin "object.__class__")=some true
theorem ziq {K:PySem.W.Frag}{C a:Addr}(x:XCa K C):PySem.W.KitX K (.ref a) (.ref C) (fun h=>∃ oe od,PySem.W.InstAt h a oe C (some od)) where
 ty:=fun _ _ _ zq1=>(by obtain ⟨_,_,I⟩:=zq1;exact I.type)
 it:=fun _ _ X _=>by
  obtain ⟨bm,xc⟩:=x.at_.cl
  obtain ⟨dd,cd,k0,k1,k2,k3,k5,ho,_⟩:=xc.obj
  intro A' Q' E' s' k q
  unfold isType loadHead
  exact wpAny_bind (wpAny_loadPart (k _ _ (X _ _ ho)) (wpAny_pure q))
 ne:=fun h tp dd its n sl X htp=>by
  obtain ⟨bm,xc⟩:=x.at_.cl
  obtain ⟨dd,cd,k0,k1,k2,k3,k5,ho,_⟩:=xc.obj
  refine Bool.eq_false_iff.mpr fun q=>?_
  have e:C=tp:=Value.ref.inj (beq_iff_eq.mp q)
  subst e
  have z:=congrArg Obj.data (Option.some.inj ((X _ _ ho).symm.trans htp))
  cases z
 ca:=fun {prog w A E Q s} X ⟨oe,od,I⟩ k=>by
  obtain ⟨bm,xc⟩:=x.at_.cl
  obtain ⟨cd,hc,_⟩:=xc.cls
  have hf:PySem.W.findObj K C (some od) "__class__" = some (.bind (.builtin "getset_descriptor.__get__") (.builtin "object.__class__")):=PySem.W.findObj_data (by rw [hc];rfl) x.ca x.gt x.tk
  refine wpAny_bind (wpAny_mkText ?_)
  unfold getAttrBy?
  refine wpAny_bind (wpAny_attempt ?_)
  refine zio (s:={ s with toks:=s.toks+1 }) X I x.at_ (ga_bind (s:={ s with toks:=s.toks+1 }) X I hf (wpAny_call ?_))
  exact PySem.W.class_get (s:={ s with toks:=s.toks+1 }) (ox:=oe) (od:=some od) X I (xc.mro X PySem.F.store_ValueError.hasOwner) (PySem.W.handed_on rfl (wpAny_pure k))
section
variable {X:Cx} {pins:List (Addr × Obj)} {σ:St} {H:Hp} {s:Shared} {A:Around} {E:Value→Shared→Prop} {a C dx:Addr} {b:Bool} {fs:List (Str × V)} {f:Str} {v:V}
theorem zf4 (I:Inv X pins σ H s)(ea:H a=some (Exo a C (some dx) b))(ed:H dx=some (Xdt dx fs)):∃ oe od,PySem.W.InstAt s.heap a oe C (some od)∧∃ mA:Str→Option Value,(∀ n,PySem.W.lookIn n od=some (mA n))∧∀ n,RelO (fs.lookup n) (mA n):=by
 obtain ⟨oe,vs,g1,g2,g3,g4,g5,g6⟩:=zb9 I.hok ea
 obtain ⟨mA,n1,n2,n3⟩:=xdt_get I.hok ed
 obtain ⟨od,ho,hl⟩:=zju n1
 exact ⟨oe,od,⟨g1,g2,by unfold PySem.W.notCls;rw [g4],by rw [g3];exact ho⟩,mA,hl,n2⟩
theorem getx_ok {ex:Bool}{Q:Value→Shared→Prop}(I:Inv X pins σ H s)(ea:H a=some (Exo a C (some dx) b))(ed:H dx=some (Xdt dx fs))(x:XAt X.K C)(hna:PySem.W.findIn X.K (.ref C) f=some none)(l:fs.lookup f=some v)
  (h:∀ u s',Inv X pins σ H s'→RelV v u→Q u s'):wpAny (model X.prog X.w) A (getAttr (.ref a) f ex) Q E s:=by
 obtain ⟨oe,od,J,mA,hl,r⟩:=zf4 I ea ed
 obtain ⟨bm,xc⟩:=x.cl
 obtain ⟨u,hu,ru⟩:=RelO.some_of (v:=v) (o:=mA f) (by rw [← l];exact r f)
 have hf:PySem.W.findObj X.K C (some od) f=some (.value u):=PySem.W.findObj_own xc.hasDict hna rfl (by rw [hl,hu])
 refine wpAny_bind (wpAny_mkText ?_)
 refine zio (s:={ s with toks:=s.toks+1 }) I.kIn J x (ga_value (s:={ s with toks:=s.toks+1 }) I.kIn J hf ?_)
 exact PySem.W.handed_on (zjv ru) (h u _ (I.tok _) ru)
end
noncomputable def tFx (K:PySem.W.Frag)(ta:TE)(f:Str):TE:=fun σ H Q=>ta σ H fun x H1=>∃ a C b dx fs v,x = .ref a∧H1 a=some (Exo a C (some dx) b)∧H1 dx=some (Xdt dx fs)∧XAt K C∧PySem.W.findIn K (.ref C) f=some none∧fs.lookup f=some v∧Q v H1
inductive rIsx (K:PySem.W.Frag)(xs:List V)(H:Hp)(Q:VK):Prop
 | mk:∀ a C b dx fs c t r,(xs=[.ref a,c])→(H a=some (Exo a C (some dx) b))→(H dx=some (Xdt dx fs))→(XCa K C)→((∀ u,RelV c u→u=t))→(PySem.W.kitOne K (.ref C) t=some r)→(Q (.bl r) H)→rIsx K xs H Q
section
variable {X:Cx} {e:Expr} {f:Str} {pos:Pos} {ta:TE}
theorem pe_fx (he:PE X e ta)(hb:attributeBase e f X.env (eval e X.env)=eval e X.env):PE X (.Attribute e f pos) (tFx X.K ta f):=by
 intro pins s σ H Q I h
 refine attr_of hb (thn (he pins s σ H _ I h) fun u s1 zq2=>?_)
 obtain ⟨x,H1,I1,rx,a,C,b,dx,fs,v,ex,ea,ed,c,n,l,q⟩:=zq2
 subst ex
 obtain rfl:u=Value.ref a:=rx
 exact getx_ok I1 ea ed c n l fun u' s2 I2 ru=>⟨v,H1,I2,ru,q⟩
theorem call_isx:CallR X (.builtin "isinstance") (rIsx X.K):=by
 intro pins s σ H xs us Q I r h
 obtain ⟨a,C,b,dx,fs,c,t,rr,rfl,ea,ed,x,hc,e,q⟩:=h
 obtain ⟨u,u2,rfl,rx,r2⟩:=zjr r
 obtain rfl:=hc _ r2
 obtain rfl:u=Value.ref a:=rx
 obtain ⟨oe,od,J,_⟩:=zf4 I ea ed
 exact PySem.W.kia_one (ziq x) I.kIn ⟨oe,_,J⟩ e (fun z=>nomatch z) fun tk=>⟨.bl rr,H,I.tok _,rfl,q⟩
inductive rIst (K:PySem.W.Frag)(xs:List V)(H:Hp)(Q:VK):Prop
 | mk:∀ a C b dx fs tp cs ts r,(xs=[.ref a,.ref tp])→(H a=some (Exo a C (some dx) b))→(H dx=some (Xdt dx fs))→(XCa K C)→(H tp=some (.tup cs))→((∀ us,Vals cs us→us=ts))→(PySem.W.kitAny K (.ref C) ts=some r)→(Q (.bl r) H)→rIst K xs H Q
theorem call_ist:CallR X (.builtin "isinstance") (rIst X.K):=by
 intro pins s σ H xs us Q I r h
 obtain ⟨a,C,b,dx,fs,tp,cs,ts,rr,rfl,ea,ed,x,et,hc,e,q⟩:=h
 obtain ⟨u,u2,rfl,rx,r2⟩:=zjr r
 obtain rfl:u2=Value.ref tp:=r2
 obtain rfl:u=Value.ref a:=rx
 obtain ⟨oe,od,J,_⟩:=zf4 I ea ed
 obtain ⟨_,its,rv,⟨⟨oc,dd,odt,sl⟩,h1,h2,n,h3⟩,_⟩:=(show ObjOk X.prog X.w H s.heap tp (.tup cs) from I.hok tp _ et)
 obtain rfl:=hc _ rv
 simp only at h2 h3
 subst h2 h3
 exact PySem.W.kia_tup (ziq x) I.kIn ⟨oe,_,J⟩ h1 e (fun z=>nomatch z) fun tk=>⟨.bl rr,H,I.tok _,rfl,q⟩
end
end L2
namespace L2
open PySem PySem.Spec PyProof.Rows
noncomputable abbrev Hd (X:Cx)(v:Value):Cx:={ X with A:=X.A.mark (some v),calm:=false,xe:=fun _ _=>False }
theorem Inv.hold {X:Cx}{pins:List (Addr × Obj)}{σ:St}{H:Hp}{s:Shared}(I:Inv X pins σ H s)(v:Value):Inv (Hd X v) pins σ H s :=
 ⟨⟨I.ok.mod,I.ok.kind,I.ok.glob,I.ok.blt,I.ok.above,I.ok.inj,I.ok.has,I.ok.cab,(fun z=>by cases z),I.ok.frames,I.ok.stk,I.ok.exf,I.ok.bs,I.ok.bsz,I.ok.noex,I.ok.exfs,I.ok.funs,I.ok.frf⟩,I.os,I.bare,I.base,I.loc,I.cell,I.free,I.freeC,I.pin,I.hok,I.len⟩
theorem Inv.offHold {X:Cx}{pins:List (Addr × Obj)}{σ:St}{H:Hp}{s:Shared}{v:Value}(ok:X.Ok)(I:Inv (Hd X v) pins σ H s):Inv X pins σ H s :=
 ⟨ok,I.os,I.bare,I.base,I.loc,I.cell,I.free,I.freeC,I.pin,I.hok,I.len⟩
noncomputable def XE (X:Cx)(pins:List (Addr × Obj))(σ:St)(E:XK)(e:Value)(s':Shared):Prop :=
 ∃ a C d H',e = .ref a∧Inv X pins σ H' s'∧H' a=some (Exo a C d false)∧Flt s'.heap a .none∧E (.ref a) none H'
noncomputable def PEE (X:Cx)(E:XK)(e:Expr)(t:TE):Prop :=
 ∀ (pins:List (Addr × Obj)) (s:Shared) (σ:St) (H:Hp) (Q:VK),Inv X pins σ H s→t σ H Q→wpAny (model X.prog X.w) X.A (eval e X.env) (EP X pins σ Q) (XE X pins σ E) s
section
variable {X:Cx} {pins:List (Addr × Obj)} {σ:St} {H:Hp} {s:Shared}
theorem XE.of {E:XK}{e:Value}{s':Shared}(I:Inv X pins σ H s)(h:CXe X.prog X.w X.stack H s E e s'):XE X pins σ E e s':=by
 obtain ⟨a,C,d,H',he,os,bare,un,hok,ha,hf,hE⟩:=h
 exact ⟨a,C,d,H',he,I.call' os un hok bare (fun b z=>absurd z (by simp)),ha,hf,hE⟩
theorem zf5 {M:Model}{A:Around}{E:Value→Shared→Prop}{i:Nat}{x:Str}{pos:Pos}{Q:Unit→Shared→Prop}(I:Inv X pins σ H s)(hN:X.N.Nodup)(hi:X.N[i]? = some x)(hx:X.env.scope.names.lookup x=some .local)
  (h:∀ s',Inv X pins (σ.set i none) H s'→Q () s'):wpAny M A (do bindName X.env x .none;unbindBehindTheSuite X.env x pos) Q E s:=by
 have hcls:(X.env.scope.kind == .class || (X.env.scope.kind == .module && X.env.locals != X.env.globals))=false:=by rw [I.ok.kind];rfl
 have hiσ:i < σ.length:=by rw [I.len];exact (List.getElem?_eq_some_iff.mp hi).1
 have hk:X.env.kindOf x=some .local:=hx
 refine wpAny_bind (wpAny_bindName (zc2 (v:=.non) (u:=.none) I hN hi (.inl hx) rfl (fun s₁ J=>?_) (.inr hx)))
 obtain ⟨m,hn,hl⟩:=id J.loc
 have hm:(m x).isSome=true:=by
  obtain ⟨u,_,q⟩:=hl i x .non hi (by rw [List.getElem?_set_self hiσ]) (.inl hx)
  rcases q with ⟨_,e⟩ | ⟨e,_⟩
  ·rw [e];rfl
  ·rcases e with e | e <;> (rw [hk] at e;cases e)
 unfold unbindBehindTheSuite
 refine wpAny_onRaise ?_
 unfold unbindName
 refine wpAny_bind (wpAny_point (wpAny_bind ?_))
 unfold deleteName
 simp only [hk,hcls]
 rw [if_neg (by decide)]
 refine wpAny_bind (wpAny_nsDel_keeps hn fun h₂ v hn₂ hs₂=>?_)
 simp only [hm,if_true,Option.isSome_some,Bool.not_true,Bool.false_eq_true,if_false]
 refine wpAny_pure (wpAny_point (h _ ?_))
 have I:=J
 have cne:=I.cne
 obtain ⟨oL,_,_,hoL,_⟩:=id hn
 have ne:∀ b o,X.s₀.heap.get? b=some o→b≠X.env.locals:=fun b o e=>Nat.ne_of_lt (Nat.lt_of_lt_of_le (Heap.lt_size e) I.ok.above)
 refine ⟨I.ok,I.os,I.bare,⟨fun b o e n hb hx=>(hs₂.2 b (ne b o e)).trans (I.base.keep b o e n hb hx),fun b o e n hb hx=>?_,I.base.free,fun b o e hx=>?_,I.base.tups,I.base.frzs,I.base.tbls⟩,⟨_,hn₂,fun j y v' e1 e2 e3=>?_⟩,fun y c e=>?_,I.free,I.freeC,fun p hp=>?_,fun b ob e=>?_,by simpa using I.len⟩
 ·obtain ⟨sl,e1⟩:=I.base.slot b o e n hb hx
  exact ⟨sl,(hs₂.2 b (ne b o e)).trans e1⟩
 ·obtain ⟨o',e1⟩:=I.base.there b o e hx
  exact ⟨o',(hs₂.2 b (ne b o e)).trans e1⟩
 ·by_cases hj:j=i
  ·subst hj
   rw [List.getElem?_set_self (by exact hiσ)] at e2
   cases e2
  ·rw [List.getElem?_set_ne (Ne.symm hj)] at e2
   obtain ⟨u',r',q⟩:=hl j y v' e1 (by rw [List.getElem?_set_ne (Ne.symm hj)];exact e2) e3
   refine ⟨u',r',?_⟩
   rcases q with ⟨k,e⟩ | ⟨k,c,e,z⟩
   ·refine .inl ⟨k,?_⟩
    have:y≠x:=fun e=>hj (zfi hN e1 (e ▸ hi))
    simp [this,e]
   ·exact .inr ⟨k,c,e,z.sameBut hs₂ (cne y c e)⟩
 ·obtain ⟨w',z⟩:=I.cell y c e
  exact ⟨w',z.sameBut hs₂ (cne y c e)⟩
 ·obtain ⟨e,n,ne,nf,d⟩:=I.pin p hp
  exact ⟨(hs₂.2 p.1 ne).trans e,n,ne,nf,d⟩
 ·refine (I.hok b ob e).stay (fun c w' hc q=>(hs₂.2 c ?_).trans q) (fun _ q=>q) fun _ _ q=>q
  rintro rfl
  rcases hc with rfl | hc
  ·rw [I.free] at e;cases e
  ·rw [I.free] at hc;cases hc
end
section
variable {M:Model} {A:Around} {E:Value→Shared→Prop} {s:Shared}
theorem leaveX' {base:Heap}{env:Env}{outer:List Env}{L e:Addr}{oe:Obj}{vs:Array Value}{Q:Unit→Shared→Prop}
  (hfr:A.frames=some (env::outer)) (hl:s.heap.FunFrames base (env::outer)) (hf:env.frame=some L)
  (he:s.heap.get? e=some oe) (hd:oe.data = .fields vs) (h1:vs[1]? = some .none ∨ Flt s.heap e .none)
  (h:∀ h',Nts (frs (env::outer)) e .none s.heap h'→Q () { s with heap:=h' }):wpAny M A (noteFrame (.ref e) env) (fun _ s₂=>wpAny M A (setFlight (.ref e) none) Q E s₂) E s:=by
 refine noteX hfr hl hf he hd h1 fun h₁ N=>?_
 obtain ⟨k1,k2,k3,T,hT,k4⟩:=N
 refine zhr (s:={ s with heap:=h₁ }) k4 fun h₂ f1 f2 f3 _=>h h₂ ⟨fun b o hb hbe q=>f2 b o (fun z=>?_) (k1 b o hb hbe q),fun b o hb q=>?_,fun oe vs q qd=>?_,T,hT,f1⟩
 ·exact absurd (Nat.lt_of_lt_of_le (Heap.lt_size q) (z ▸ hT)) (Nat.lt_irrefl _)
 ·obtain ⟨sl,q'⟩:=k2 b o hb q
  exact ⟨sl,f2 b _ (fun z=>absurd (Nat.lt_of_lt_of_le (Heap.lt_size q) (z ▸ hT)) (Nat.lt_irrefl _)) q'⟩
 ·obtain ⟨oe',vs',q1,q2⟩:=k3 oe vs q qd
  exact ⟨oe',vs',f2 e _ (fun z=>absurd (Nat.lt_of_lt_of_le (Heap.lt_size q) (z ▸ hT)) (Nat.lt_irrefl _)) q1,q2⟩
theorem matchX {K:PySem.W.Frag}{C R e:Addr}{bm bm':List Value}{oe:Obj}{h:Heap}{g:Array GenState}{d:Drawn}{t:Nat}{os:OsState}{Q:Bool→Shared→Prop}(X:K.In h)(xC:XCl K C bm)(xR:XCl K R bm')(he:h.get? e=some oe)(hcls:oe.cls = .ref C)
  (hq:Q ((Value.ref C::bm).contains (.ref R)) ⟨h,g,d,t,os⟩):wpAny M A (excMatches (.ref e) (.ref R)) Q E ⟨h,g,d,t,os⟩:=by
 obtain ⟨T,nm,q,N,bs,sn,sub,ab,col,dd,k0,k1,k2,k3,k5,hC⟩:=xC.at X
 obtain ⟨T',nm',q',N',bs',sn',sub',ab',col',dd',k0',k1',k2',k3',k5',hR⟩:=xR.at X
 have hcB:(Value.ref R::bm').contains (.type "BaseException")=true:=by rw [List.contains_cons,T'.hasType PySem.F.excBase_ValueError.hasBase,Bool.or_true]
 have f:=tc_notTuple
 generalize hb:(Value.ref C::bm).contains (.ref R)=b at hq
 unfold excMatches
 repeat (first | (with_reducible refine wpAny_loadPart_at he ?_;rw [hcls]) | with_reducible refine wpAny_loadPart_at hR ?_ | (with_reducible refine wpAny_isSubtype_exc hR ?_;rw [hcB]) | (with_reducible refine wpAny_isSubtype_exc hC ?_;rw [hb]) | wp_step)
 cases b <;> (wp_walk;exact hq)
end
end L2
namespace L2
open PySem PySem.Spec PyProof.Rows
structure FncX (P:Program) (w:World) (K:PySem.W.Frag) (mg:Str→Option Value) (base:Heap) (x:Str) (ps:List Str) (k:Nat) (sp:Sp):Prop where
 ex:∃ (f:Addr) (fd:FuncData),mg x=some (.ref f)∧PySem.W.keepIn K (.ref f)=true∧Binds K fd ps []∧FnOk P w K mg base (CXe P w) k f fd ps sp
theorem Df.okX {P:Program}{w:World}{K:PySem.W.Frag}{mg:Str→Option Value}{base:Heap}{x:Str}{st:Stmt}{N ps:List Str}{k:Nat}{sp:Sp}(D:Df K mg x st)(S:FnScope N ps (defScope st))
  (hb:∀ (kV doc pm:Value) (an:Option Addr) (cdv ct:Value) (us:List Value),us.length=ps.length→bindArgs (PySem.W.fnOf x x (defArgs st) (defBody st) (defScope st) .none kV doc pm an cdv ct) ⟨us,[]⟩=pure (ps.zip us))
  (len:∀ vs H Q E,sp vs H Q E→vs.length=ps.length)
  (hbody:∀ (f:Addr) (cdv:Value) (A:Around) (outer:List Env) (s:Shared) (H:Hp) (vs:List V) (Q:VK) (E:XK),Room k (A.deeper (envOfC x (defScope st) s.heap.objs.size f cdv))→sp vs H Q E →
   ∃ t,PSs (cxOf (CXe P w) P w K mg base N x (defScope st) f cdv A outer s H E) (defBody st) t∧t { nx:=fun _ H'=>Q .non H',rt:=Q } (start N vs) H):FncX P w K mg base x ps (k+1) sp:=by
 obtain ⟨f,fd,hm,F⟩:=D.ex
 refine ⟨f,fd,hm,F.kp,F.binds hb,?_⟩
 obtain ⟨oc,od,kV,doc,pm,an,cdv,ct,osl,rfl,lk,hcd⟩:=F.ex
 exact fn_of lk hcd S len fun A outer s H vs Q E hr hsp=>hbody f cdv A outer s H vs Q E hr hsp
section
variable {X:Cx} {E:XK} {x:Str} {ps:List Str} {k j:Nat} {sp:Sp} {e a b:Expr} {es:List Expr} {t:TA} {te tb:TE} {tt:TT} {p pos pos':Pos}
theorem pee_fn (F:FncX X.prog X.w X.K X.mg X.base x ps j sp)(hr:Room k X.A)(hj:j≤k)(hg:Gl X x)(ha:PA X.nox (e::es) t)
  (hdb:(x == ("__debug__":Str))=false:=by decide) (he:starEach (e::es) X.env=(false,eval e X.env)::starEach es X.env:=by rfl) (hpl:(backTo pos (starEach es X.env)).any (·.1)=false:=by rfl) :
  PEE X E (.Call (.Name x p) (e::es) [] pos) (tCall sp [] E t):=by
 obtain ⟨f,fd,hm,hk,hb,F⟩:=F.ex
 intro pins s σ H Q I h
 refine wpAny_Call_Name_kw (zcy I hg hm ?_ hdb)
 refine PySem.W.callWith_K (h₀:=X.base) I.ok.mod.kin hk (wpAny_mono (ha pos pins s σ H _ (I.wish _) h) (fun us s1 ⟨vs,H1,I0,r,q⟩=>⟨I0.kIn,?_⟩) fun _ _ z=>False.elim z) he hpl
 have I1:Inv X pins σ H1 s1:=I0.unwish
 have r2:Vals (vs++[]) (us++[]):=r.append .nil
 have hl:(us++[]).length=ps.length:=by rw [← r2.length];exact F.len _ _ _ _ q
 refine wpAny_call (codeAny_mono ((F.mono hj).run X.A X.stack s1 H1 ⟨us,[]⟩ (us++[]) (vs++[]) Q E hr I1.env0 (hb s1 us I1.kIn hl) r2 q) fun r s' hq=>?_)
 cases r with
 | error e=>exact XE.of I1 hq
 | ok fl =>
  cases fl with
  | ret u=>exact I1.after hq
  | next=>exact False.elim hq
  | brk=>exact False.elim hq
  | cont=>exact False.elim hq
noncomputable def PSE (X:Cx)(E:XK)(st:List Stmt)(t:TS):Prop :=
 ∀ (pins:List (Addr × Obj)) (s:Shared) (σ:St) (H:Hp) (D:Ends),Inv X pins σ H s→t D σ H→wpAny (model X.prog X.w) X.A (execs st X.env) (SP X pins D) (XE X pins σ E) s
theorem pse_expr (he:PEE X E e te)(hs:swapsWith e none pos.line X.env=pure false:=by rfl):PSE X E [.Expr e pos] (tDrop te):=by
 intro pins s σ H D I h
 exact wpAny_execs_cons (wpAny_Expr_any (thn (he pins s σ H _ I h) fun v s1 zq3=>(by obtain ⟨x,H1,I1,r1,q1⟩:=zq3;exact wpAny_execs_nil ⟨σ,H1,I1,q1⟩)) I.quiet hs)
noncomputable def Ends.gone (D:Ends)(i:Nat):Ends:={ nx:=fun σ H=>D.nx (σ.set i none) H,rt:=D.rt,bk:=fun σ H=>D.bk (σ.set i none) H,ct:=fun σ H=>D.ct (σ.set i none) H }
noncomputable def sTry (K:PySem.W.Frag)(R:Addr)(i:Nat)(tb:XK→TS)(ts:TS):TS:=fun D σ H =>
 tb (fun v _ H'=>∃ a C d bm,v = .ref a∧H' a=some (Exo a C d false)∧XCl K C bm∧(Value.ref C::bm).contains (.ref R)=true∧ts (D.gone i) (σ.set i (some (.ref a))) H') D σ H
set_option maxHeartbeats 800000 in
theorem ps_try {n r:Str}{i:Nat}{R:Addr}{bmR:List Value}{body suite:List Stmt}{b₀:Stmt}{np hpos:Pos}{tb:XK→TS}{ts:TS}(hst:X.stack=X.env::X.outer)(hfr:X.env.frame=some X.env.locals)(hN:X.N.Nodup)(hi:X.N[i]? = some n)(hloc:X.env.scope.names.lookup n=some .local)
  (hg:Gl X r) (hm:X.mg r=some (.ref R)) (xR:XCl X.K R bmR) (hb:∀ E,PSE X E body (tb E)) (hs:∀ v,PSs (Hd X v) (b₀ :: suite) ts) (hdb:(r == ("__debug__":Str))=false:=by decide) :
  PS X (.Try body [.ExceptHandler (some (.Name r np)) (some n) (b₀ :: suite) hpos] [] [] pos) (sTry X.K R i tb ts):=by
 intro pins s σ H D I h
 refine wpAny_Try_except (wpAny_mono (hb _ pins s σ H D I h) (fun f s₁ hf=>?_) fun e s₁ he=>?_)
 ·cases f with
  | next=>exact wpAny_execs_nil hf
  | brk=>exact hf
  | cont=>exact hf
  | ret u=>exact hf
 ·obtain ⟨a,C,d,H',rfl,I1,ha,hF,a',C',d',bm,ea',ha',xC,hc,ht⟩:=he
  cases ea'
  have hCC:C=C':=by
   obtain ⟨oe,vs,g1,g2,_⟩:=zb9 I1.hok ha
   obtain ⟨oe',vs',g1',g2',_⟩:=zb9 I1.hok ha'
   rw [g1] at g1';cases g1'
   rw [g2] at g2';cases g2';rfl
  subst hCC
  obtain ⟨oe,vs,g1,g2,g3,g4,g5,g6⟩:=zb9 I1.hok ha
  refine leaveX' (base:=X.base) (env:=X.env) (outer:=X.outer) (L:=X.env.locals) (by rw [I.ok.frames,hst]) (by rw [← hst];exact I1.stack) hfr g1 g4 (.inr hF) fun h' Nt=>?_
  obtain ⟨un,hok⟩:=nts_un I1.hok ha (by rw [← hst];exact I1.stkFree) Nt
  have J:=I1.call' (s':={ s₁ with heap:=h' }) rfl (by rw [hst];exact un) hok I1.bare (fun b z=>absurd z (by simp))
  rw [zin ha] at J
  obtain ⟨T,_,hT⟩:=Nt.fly
  have JH:=J.hold (.ref a)
  refine wpAny_handleBy_cons (codeAny_handlers_test ?_) (by intro q;cases q)
  refine zcy (X:=Hd X (.ref a)) JH hg hm ?_ hdb
  obtain ⟨oe2,vs2,k1,k2,_⟩:=zb9 J.hok ha
  refine matchX J.kIn xC xR k1 k2 ?_
  rw [hc]
  refine codeAny_handlers_suite_as ?_
  refine zhr (s:={ s₁ with heap:=h' }) hT fun h2 _ _ _ same=>?_
  have J2:Inv (Hd X (.ref a)) pins σ H' { s₁ with heap:=h2 }:=JH.kept (t':=s₁.toks) (fun b u q=>(same rfl b).trans q)
  refine zc2 (X:=Hd X (.ref a)) J2 hN hi (.inl hloc) (v:=.ref a) rfl (fun s₃ J3=>?_) (.inr hloc)
  refine wpAny_mono (hs (.ref a) pins s₃ _ H' (D.gone i) J3 ht) (fun f s₄ hf=>?_) fun _ _ z=>False.elim z
  cases f with
  | next=>obtain ⟨σ',H2,J4,q⟩:=hf;exact zf5 (J4.offHold I.ok) hN hi hloc fun s' K'=>⟨_,H2,K',q⟩
  | brk=>obtain ⟨σ',H2,J4,q⟩:=hf;exact zf5 (J4.offHold I.ok) hN hi hloc fun s' K'=>⟨_,H2,K',q⟩
  | cont=>obtain ⟨σ',H2,J4,q⟩:=hf;exact zf5 (J4.offHold I.ok) hN hi hloc fun s' K'=>⟨_,H2,K',q⟩
  | ret u=>obtain ⟨v,σ',H2,J4,rv,q⟩:=hf;exact zf5 (J4.offHold I.ok) hN hi hloc fun s' K'=>⟨v,_,H2,K',rv,q⟩
end
end L2
namespace L2
open PySem PySem.Spec PyProof.Rows
section
variable {K:PySem.W.Frag} {C R N:Addr} {dd d0:Option Addr} {c0 oc:Value} {cd cdR:ClassData} {k0 k1 k2 k3 k5:Option Value} {sl sl':Array (Option Value)} {es:Array DictEntry} {n:Nat} {bm bm':List Value}
theorem zg8:PySem.W.tailIn K bmV bmV=true:=by
 unfold PySem.W.tailIn
 rw [beq_self_eq_true];rfl
theorem nsok_of (l:K.lookup N=some ⟨oc,d0,.dict es n,sl'⟩)(h:(es.toList.all fun e=>match e.key with | .str _ _=>true | _=>false)=true):PySem.W.nsOkIn K N=true:=by
 unfold PySem.W.nsOkIn;rw [l];dsimp only;rw [← Array.all_toList];exact h
theorem tail_own (l:K.lookup R=some ⟨c0,d0,.cls cdR,sl⟩)(ok:PySem.W.nsOkIn K cdR.ns=true)(ni:PySem.W.nsIn K cdR.ns "__init__" = some none)(t:PySem.W.tailIn K bmV bm=true):PySem.W.tailIn K bmV (.ref R::bm)=true:=by
 unfold PySem.W.tailIn
 simp only [l,ok,ni,t,beq_self_eq_true,Bool.and_self,Bool.or_true]
theorem xcl_of (l:K.lookup C=some ⟨.type "type",dd,.cls cd,#[k0,k1,k2,k3,some (.builtin "ValueError.__new__"),k5]⟩)(m:cd.mro = .ref C::bm)(h1:cd.hasDel=false)(h2:cd.hasDict=true)(t:PySem.W.tailIn K bmV bm=true)(kp:PySem.W.keepIn K (.ref C)=true):XCl K C bm :=
 ⟨⟨dd,cd,k0,k1,k2,k3,k5,l,m,h1,h2⟩,t,kp⟩
theorem kit_ty {h:Heap}{T:String}{b:Bool}(X:K.In h)(xC:XCl K C bm)(hk:PySem.W.kitMeta T=true)(hb:bmV.contains (.type T)=b):PySem.W.kitOne K (.ref C) (.type T)=some b:=by
 unfold PySem.W.kitOne
 rw [if_neg (show ¬ (Value.ref C == Value.type T)=true from by simp)]
 unfold PySem.W.kitCls
 simp only [hk,if_true]
 exact xC.mro X hb
end
noncomputable def fillF:List (Str × V)→List (Str × V)→List (Str × V)
 | acc,[]=>acc
 | acc,(f,y)::r=>fillF (putF f y acc) r
inductive spInit (names:List Str)(C:Addr)(vs:List V)(H:Hp)(Q:VK)(E:XK):Prop
 | mk:∀ a ys b,(vs = .ref a::ys)→(ys.length=names.length)→(H a=some (Exo a C none b))→(∀ dx,H dx=none→dx≠a→Q .non (upd (upd H a (Exo a C (some dx) b)) dx (Xdt dx (fillF [] (names.zip ys)))))→spInit names C vs H Q E
end L2
namespace L2
open PySem PySem.Spec PyProof.Rows
structure XMk (P:Program) (w:World) (K:PySem.W.Frag) (mg:Str→Option Value) (base:Heap) (x:Str) (C:Addr) (names:List Str) (k:Nat):Prop where
 at_:mg x=some (.ref C)
 ca:XCa K C
 no:∀ f∈names,PySem.W.findIn K (.ref C) f=some none
 ex:∃ (f:Addr) (fd:FuncData) (bm:List Value),XCl K C bm∧PySem.W.findIn K (.ref C) "__init__" = some (some (.ref f))∧PySem.W.isFn K (.ref f)=true∧Binds K fd ("self" :: names) []∧FnOk P w K mg base CX0 k f fd ("self" :: names) (spInit names C)
noncomputable def tNewX (C:Addr)(names:List Str)(t:TA):TE:=fun σ H Q=>t σ H fun ys H1=>ys.length=names.length∧names.length≤900∧∀ a dx,H1 a=none→H1 dx=none→dx≠a →
 Q (.ref a) (upd (upd H1 a (Exo a C (some dx) true)) dx (Xdt dx (fillF [] (names.zip ys))))
section
variable {X:Cx} {x:Str} {C:Addr} {names:List Str} {k j:Nat} {e:Expr} {es:List Expr} {t:TA} {p pos:Pos}
theorem pe_mk (M:XMk X.prog X.w X.K X.mg X.base x C names j)(hr:Room k X.A)(hj:j+1≤k)(hg:Gl X x)(ha:PA X (e::es) t)
  (hdb:(x == ("__debug__":Str))=false:=by decide) (he:starEach (e::es) X.env=(false,eval e X.env)::starEach es X.env:=by rfl) (hpl:(backTo pos (starEach es X.env)).any (·.1)=false:=by rfl) :
  PE X (.Call (.Name x p) (e::es) [] pos) (tNewX C names t):=by
 obtain ⟨f,fd,bm,xc,hi,hf,hb,F⟩:=M.ex
 intro pins s σ H Q I h
 refine wpAny_Call_Name_kw (zcy I hg M.at_ ?_ hdb)
 refine PySem.W.callWith_K (h₀:=X.base) I.ok.mod.kin xc.kp (thn (ha pos pins s σ H _ I h) fun us s1 ⟨vs,H1,I1,r,hl,hn,q⟩=>⟨I1.kIn,?_⟩) he hpl
 refine run_makeX (k:=j) xc hi hf F (hr.mono hj) hb I1 r ⟨by omega,fun a h0=>⟨a,vs,true,rfl,hl,zac ..,fun dx hdx ne=>⟨rfl,?_⟩⟩⟩
 rw [zcx]
 exact q a dx h0 (by rw [zai ne] at hdx;exact hdx) ne
end
section
variable {K:PySem.W.Frag} {C dx a:Addr} {b:Bool} {H:Hp}
end
section
variable {X:Cx} {K:PySem.W.Frag} {e:Expr} {f:Str} {pos:Pos} {ta:TE}
theorem zg9 (hK:X.K=K):CallR X (.builtin "isinstance") (rIsx K):=by subst hK; exact call_isx
theorem call_istK (hK:X.K=K):CallR X (.builtin "isinstance") (rIst K):=by subst hK; exact call_ist
theorem pe_fxK (hK:X.K=K)(he:PE X e ta)(hb:attributeBase e f X.env (eval e X.env)=eval e X.env):PE X (.Attribute e f pos) (tFx K ta f):=by subst hK; exact pe_fx he hb
end
end L2
namespace L2
open PySem PySem.Spec PyProof.Rows
section
variable {X:Cx} {E:XK} {e a b c:Expr} {te ta tb:TE} {tA:TT} {pos:Pos}
end
end L2
namespace Kx
open PySem PySem.Spec PyProof.Rows L2 Wd
theorem kit_self {K:PySem.W.Frag}{C:Addr}:PySem.W.kitOne K (.ref C) (.ref C)=some true:=by unfold PySem.W.kitOne; rw [if_pos (by simp)]
theorem kit_ref2 {K:PySem.W.Frag}{C R:Addr}{bm:List Value}{dd':Option Addr}{cd':ClassData}{sl':Array (Option Value)}(xC:XCl K C bm)(hl':K.lookup R=some ⟨.type "type",dd',.cls cd',sl'⟩):PySem.W.kitOne K (.ref C) (.ref R)=some ((Value.ref C::bm).contains (.ref R)):=by
 obtain ⟨dd,cd,k0,k1,k2,k3,k5,hl,hm,hd,hh⟩:=xC.obj
 unfold PySem.W.kitOne
 by_cases q:(Value.ref C == Value.ref R)=true
 ·rw [if_pos q,beq_iff_eq.mp q];simp
 ·rw [if_neg q]
  unfold PySem.W.kitCls
  have h1:(PySem.W.clsIn K R).isSome=true:=by unfold PySem.W.clsIn;rw [hl'];rfl
  have h2:PySem.W.typeIn K (.ref R)=some (.type "type"):=by
   show (K.lookup R).map (·.cls)=_
   rw [hl'];rfl
  simp only [h1,h2,beq_self_eq_true,Bool.and_self,if_true]
  unfold PySem.W.subIn PySem.W.mroIn PySem.W.clsIn
  simp only [hl,Option.bind_some,hm,List.isEmpty_cons,Bool.false_eq_true,if_false]
noncomputable def Aside (K:PySem.W.Frag)(C:Addr)(bm:List Value)(R:Addr):Prop:=(∃ dd cd sl,K.lookup R=some ⟨.type "type",dd,.cls cd,sl⟩)∧(Value.ref C::bm).contains (.ref R)=false
theorem zha {K:PySem.W.Frag}{C:Addr}{bm:List Value}(xC:XCl K C bm):∀ {Rs:List Addr},(∀ R∈Rs,Aside K C bm R)→PySem.W.kitAny K (.ref C) (Rs.map .ref)=some false
 | [],_=>rfl
 | R::Rs,h=>by
  obtain ⟨⟨dd,cd,sl,hl⟩,hc⟩:=h R List.mem_cons_self
  have ih:=zha xC (Rs:=Rs) fun R' h'=>h R' (List.mem_cons_of_mem _ h')
  rw [List.map_cons]
  unfold PySem.W.kitAny
  rw [kit_ref2 xC hl,hc]
  simpa using ih
end Kx
namespace L2
open PySem PySem.Spec PyProof.Rows Wd
section
variable {X:Cx}
end
end L2
namespace Kx
open PySem PySem.Spec PyProof.Rows L2 Wd
inductive spOut (vs:List V)(H:Hp)(Q:VK)(u3_:XK):Prop
 | mk:∀ (w:List L) (n:Nat),(vs=[tx w,.int (n:Int)])→(w.length≤3000)→(∀ H',Same H H'→Q (.bl (outB w n)) H')→spOut vs H Q u3_
inductive spChg (vs:List V)(H:Hp)(Q:VK)(u3_:XK):Prop
 | mk:∀ (p:Addr) (w:List L) (s:Stp),(vs=[tx w,.ref p])→(w.length≤3000)→(H p=some (.tup s.vs))→(Sk s)→(∀ H',Same H H'→Q (tx (chg w s)) H')→spChg vs H Q u3_
noncomputable def oL (o:Option (List L)):List V:=o.toList.map tx
theorem at1 {α:Type}(a b:α)(t:List α):atI (a::b::t) (1:Int)=some b:=zbx (j:=1) rfl
theorem at2 {α:Type}(a b c:α)(t:List α):atI (a::b::c::t) (2:Int)=some c:=zbx (j:=2) rfl
theorem at3 {α:Type}(a b c d:α)(t:List α):atI (a::b::c::d::t) (3:Int)=some d:=zbx (j:=3) rfl
end Kx
namespace L2
open PySem PySem.Spec PyProof.Rows Wd
end L2
namespace Kx
open PySem PySem.Spec PyProof.Rows L2 Wd
theorem zhb:bootBuiltins "ValueError" = some (.type "ValueError"):=by first | rfl | decide +kernel | kernel_rfl
theorem ifsT {t u:TS}{D:Ends}{σ:L2.St}{H:Hp}(h:t D σ H):tIfS_k1 t u D σ true H:=iteT h
theorem ifsF {t u:TS}{D:Ends}{σ:L2.St}{H:Hp}(h:u D σ H):tIfS_k1 t u D σ false H:=iteF h
theorem andkT {u:TT}{σ:L2.St}{Q:Bool→Hp→Prop}{H:Hp}(h:u σ H Q):tAnd_k1 u σ Q true H:=iteT h
theorem andkF {u:TT}{σ:L2.St}{Q:Bool→Hp→Prop}{H:Hp}(h:Q false H):tAnd_k1 u σ Q false H:=iteF h
theorem ifkT {ta tb:TE}{σ:L2.St}{Q:VK}{H:Hp}(h:ta σ H Q):tIf_k1 ta tb σ Q true H:=iteT h
theorem ifkF {ta tb:TE}{σ:L2.St}{Q:VK}{H:Hp}(h:tb σ H Q):tIf_k1 ta tb σ Q false H:=iteF h
noncomputable def XP (C:Addr)(H:Hp)(a:Addr)(z:Str)(k:Nat):Prop:=∃ dx,H a=some (Exo a C (some dx) false)∧H dx=some (Xdt dx [("word",.str z),("at",.int (k:Nat))])
theorem new_sameP {H:Hp}{a dx:Addr}{o o' o2:HO}(ha:H a=none)(hd:H dx=none):Same H (upd (upd (upd H a o) dx o') a o2):=fun b u e=>by
 rw [zai (zah e ha),zai (zah e hd),zai (zah e ha)]
 exact e
end Kx
namespace PySem
open Sem (wp)
noncomputable def Rise (xs:Array Nat):Prop:=∀ (i j a b:Nat),i < j→xs[i]? = some a→xs[j]? = some b→a < b
theorem zf6 {xs:Array Nat}{j:Nat}(hr:Rise xs):∀ (f lo hi:Nat),hi - lo≤f→lo≤hi→hi≤xs.size→(∀ i a,i < lo→xs[i]? = some a→a < j)→(∀ i a,hi≤i→xs[i]? = some a→j≤a) →
  SetTable.below.go xs j f lo hi≤xs.size∧(∀ i a,i < SetTable.below.go xs j f lo hi→xs[i]? = some a→a < j)∧∀ i a,SetTable.below.go xs j f lo hi≤i→xs[i]? = some a→j≤a
 | 0,lo,hi,h,h1,h2,l,u=>by
  have e:lo=hi:=by omega
  unfold SetTable.below.go
  exact ⟨by omega,l,by rw [e];exact u⟩
 | f+1,lo,hi,h,h1,h2,l,u=>by
  unfold SetTable.below.go
  by_cases hlt:lo < hi
  ·rw [if_pos hlt]
   have hm:(lo+hi) / 2 < xs.size:=by omega
   have em:xs[(lo+hi) / 2]? = some xs[(lo+hi) / 2]:=getElem?_pos xs _ hm
   have eg:xs.getD ((lo+hi) / 2) j=xs[(lo+hi) / 2]:=by simp [Array.getD,hm]
   dsimp only
   rw [eg]
   split
   ·rename_i hx
    refine zf6 hr f _ _ (by omega) (by omega) h2 (fun i a hi' e=>?_) u
    by_cases q:i=(lo+hi) / 2
    ·subst q;rw [em] at e;cases e;exact hx
    ·exact Nat.lt_trans (hr i _ _ _ (by omega) e em) hx
   ·rename_i hx
    refine zf6 hr f _ _ (by omega) (by omega) (by omega) l (fun i a hi' e=>?_)
    by_cases q:i=(lo+hi) / 2
    ·subst q;rw [em] at e;cases e;omega
    ·have:=hr _ i _ _ (show (lo+hi) / 2 < i by omega) em e
     omega
  ·rw [if_neg hlt]
   have e:lo=hi:=by omega
   exact ⟨by omega,l,by rw [e];exact u⟩
theorem zf7 {xs:Array Nat}(hr:Rise xs)(j:Nat):SetTable.below xs j≤xs.size∧(∀ i a,i < SetTable.below xs j→xs[i]? = some a→a < j)∧∀ i a,SetTable.below xs j≤i→xs[i]? = some a→j≤a :=
 zf6 hr xs.size 0 xs.size (by omega) (Nat.zero_le _) (Nat.le_refl _) (fun i a h=>absurd h (Nat.not_lt_zero _)) fun i a h e=>by
  have:=(Array.getElem?_eq_some_iff.mp e).1
  omega
theorem zja {xs:Array Nat}(hr:Rise xs){i a:Nat}(e:xs[i]? = some a):SetTable.below xs (a+1)=i+1:=by
 obtain ⟨h1,h2,h3⟩:=zf7 hr (a+1)
 have hi:=(Array.getElem?_eq_some_iff.mp e).1
 have q1:¬ SetTable.below xs (a+1)≤i:=fun q=>by
  have:=h3 i a q e
  omega
 by_cases q2:i+1 < SetTable.below xs (a+1)
 ·have hi2:i+1 < xs.size:=by omega
  have e2:xs[i+1]? = some xs[i+1]:=getElem?_pos xs _ hi2
  have:=h2 (i+1) _ q2 e2
  have:=hr i (i+1) _ _ (by omega) e e2
  omega
 ·omega
theorem zjb {xs:Array Nat}(hr:Rise xs):SetTable.below xs 0=0:=by
 obtain ⟨h1,h2,h3⟩:=zf7 hr 0
 by_cases q:0 < SetTable.below xs 0
 ·have e:xs[0]? = some xs[0]:=getElem?_pos xs 0 (by omega)
  have:=h2 0 _ q e
  omega
 ·omega
theorem Rise.put {xs:Array Nat}(hr:Rise xs){j:Nat}(hn:xs[SetTable.below xs j]? ≠ some j):Rise (SetTable.insertAt xs (SetTable.below xs j) j):=by
 obtain ⟨h1,h2,h3⟩:=zf7 hr j
 have hl:(SetTable.insertAt xs (SetTable.below xs j) j).toList=xs.toList.take (SetTable.below xs j)++j::xs.toList.drop (SetTable.below xs j):=by
  unfold SetTable.insertAt
  simp [Array.toList_extract,List.take_of_length_le]
 have at_:∀ k,(SetTable.insertAt xs (SetTable.below xs j) j)[k]? = if k < SetTable.below xs j then xs[k]? else if k=SetTable.below xs j then some j else xs[k - 1]?:=fun k=>by
  rw [← Array.getElem?_toList,hl]
  have z:(xs.toList.take (SetTable.below xs j)).length=SetTable.below xs j:=by rw [List.length_take,Array.length_toList];omega
  by_cases q1:k < SetTable.below xs j
  ·rw [if_pos q1,List.getElem?_append_left (by omega),List.getElem?_take,if_pos q1,Array.getElem?_toList]
  ·rw [if_neg q1,List.getElem?_append_right (by omega),z]
   by_cases q2:k=SetTable.below xs j
   ·rw [if_pos q2,q2,Nat.sub_self]
    rfl
   ·rw [if_neg q2]
    obtain ⟨m,hm⟩:∃ m,k - SetTable.below xs j=m+1:=⟨k - SetTable.below xs j - 1,by omega⟩
    rw [hm,List.getElem?_cons_succ,List.getElem?_drop,Array.getElem?_toList]
    congr 1
    omega
 intro i k a b hik ea eb
 rw [at_] at ea eb
 have ne:∀ m c,SetTable.below xs j≤m→xs[m]? = some c→j < c:=fun m c hm e=>by
  have l:=h3 m c hm e
  by_cases q:m=SetTable.below xs j
  ·subst q
   have:c≠j:=fun z=>hn (by rw [e,z])
   omega
  ·have hb:SetTable.below xs j < xs.size:=by have:=(Array.getElem?_eq_some_iff.mp e).1;omega
   have e0:xs[SetTable.below xs j]? = some xs[SetTable.below xs j]:=getElem?_pos xs _ hb
   have:=h3 _ _ (Nat.le_refl _) e0
   have:=hr _ m _ _ (by omega) e0 e
   omega
 split at ea
 ·rename_i c1
  split at eb
  ·exact hr i k a b hik ea eb
  ·split at eb
   ·cases eb;exact h2 i a c1 ea
   ·have:=h2 i a c1 ea
    have:=ne (k - 1) b (by omega) eb
    omega
 ·split at ea
  ·cases ea
   rw [if_neg (by omega),if_neg (by omega)] at eb
   exact ne (k - 1) b (by omega) eb
  ·rw [if_neg (by omega),if_neg (by omega)] at eb
   exact hr (i - 1) (k - 1) a b (by omega) ea eb
theorem zjc (n:Nat):Rise (Array.range n):=fun i j a b h ea eb=>by
 rw [Array.getElem?_range] at ea eb
 split at ea <;> split at eb <;> simp_all
theorem rise_nil:Rise #[]:=fun i j a b h ea=>by simp at ea
theorem zff {t:SetTable}(hd:t.dummies=#[])(g:Nat→Int)(h:Int):∀ (f:Nat) (p:SetTable.Probe) (j:Nat) (d:Option Nat),p.dummy=none→SetTable.probe.go t g h f p=some (.empty j d)→d=none∧t.slot j = .empty
 | 0,p,j,d,_,e=>by unfold SetTable.probe.go at e;cases e
 | f+1,p,j,d,hp,e=>by
  unfold SetTable.probe.go at e
  have hh:∀ x,SetTable.has t.dummies x=false:=fun x=>by rw [hd];unfold SetTable.has;simp
  have hs:∀ x,t.slot x ≠ .dummy:=fun x=>by
   unfold SetTable.slot
   dsimp only
   rw [hh]
   simp only [Bool.false_eq_true,if_false]
   split
   ·exact fun z=>by cases z
   ·exact fun z=>by cases z
  cases hq:t.slot p.j with
  | empty =>
   rw [hq] at e
   cases e
   exact ⟨hp,hq⟩
  | dummy=>exact absurd hq (hs _)
  | live i =>
   rw [hq] at e
   have ad:(t.advance p).dummy=none:=by
    unfold SetTable.advance
    split
    ·exact hp
    ·exact hp
   dsimp only at e
   split at e
   ·cases e
   ·exact zff hd g h f _ j d ad e
theorem free_new {t:SetTable}(hd:t.dummies=#[]){h:Int}{j:Nat}{b:Bool}(e:t.freeSlot h=some (j,b)):t.place[SetTable.below t.place j]? ≠ some j:=by
 unfold SetTable.freeSlot SetTable.probe at e
 split at e
 ·rename_i k d hq
  obtain ⟨rfl,hs⟩:=zff hd _ _ _ _ k d rfl hq
  cases e
  intro z
  unfold SetTable.slot at hs
  simp only [Option.getD_none] at z
  dsimp only at hs
  rw [z] at hs
  simp at hs
 ·cases e
end PySem
namespace PySem
open Sem (wp)
noncomputable def Tk (t:SetTable):Prop:=t.dummies=#[]∧Rise t.place
theorem zcp {t:SetTable}{n:Nat}:Tk (t.standIn n):=⟨rfl,zjc n⟩
theorem layNew_tk {t:SetTable}{es:Array (Int × Value)}{h:Int}{x:Value}(k:Tk t):Tk (layNew t es h x).2.1:=by
 unfold layNew
 split
 ·rename_i j d hq
  dsimp only
  unfold SetTable.orStandIn
  split
  ·refine ⟨?_,k.2.put (free_new k.1 hq)⟩
   have:SetTable.has t.dummies j=false:=by rw [k.1];unfold SetTable.has;simp
   show (if SetTable.has t.dummies j=true then _ else t.dummies)=#[]
   rw [this]
   simpa using k.1
  ·exact zcp
 ·exact zcp
theorem rise_live (n:Nat)(f:Nat→Option Nat):Rise ((((List.range n).filterMap fun j=>(f j).map (j,·)).map (·.1)).toArray):=by
 have key:((((List.range n).filterMap fun j=>(f j).map (j,·)).map (·.1))).Pairwise (· < ·):=by
  rw [List.pairwise_map]
  refine List.Pairwise.filterMap _ (fun a a' hlt b hb b' hb'=>?_) List.pairwise_lt_range
  cases h1:f a with
  | none=>rw [h1] at hb;simp at hb
  | some x =>
   rw [h1] at hb
   cases h2:f a' with
   | none=>rw [h2] at hb';simp at hb'
   | some x' =>
    rw [h2] at hb'
    simp at hb hb'
    rw [← hb,← hb']
    exact hlt
 intro i j a b hij ea eb
 rw [List.getElem?_toArray] at ea eb
 obtain ⟨h1,e1⟩:=List.getElem?_eq_some_iff.mp ea
 obtain ⟨h2,e2⟩:=List.getElem?_eq_some_iff.mp eb
 rw [← e1,← e2]
 exact List.pairwise_iff_getElem.mp key i j h1 h2 hij
theorem zhu {t:SetTable}{es:Array (Int × Value)}{w:Nat}:Tk (relayAll t es w).2.1:=by
 unfold relayAll
 split
 ·rename_i t' order he
  dsimp only
  split
  ·unfold SetTable.relaid SetTable.laid at he
   cases hq:SetTable.layClean (SetTable.sizeAbove w - 1) (es.map (·.1)) with
   | none=>rw [hq] at he;cases he
   | some o=>rw [hq] at he;cases he;exact ⟨rfl,rise_live _ _⟩
  ·exact zcp
 ·exact zcp
noncomputable def ddpI (val:Nat→Int):Nat→List Int
 | 0=>[]
 | i+1=>if val i∈ddpI val i then ddpI val i else ddpI val i++[val i]
theorem zir (val:Nat→Int):∀ i,(ddpI val i).length≤i
 | 0=>Nat.le_refl _
 | i+1=>by
  have:=zir val i
  unfold ddpI
  split
  ·omega
  ·rw [List.length_append,List.length_singleton];omega
section
variable {prog:Program} {w:World} {A:Around} {E:Value→Shared→Prop} {s:Shared}
noncomputable def SetI (prog:Program)(w:World)(h:Heap)(a:Addr)(dl:List Int):Prop :=
 ∃ o es ep t,h.get? a=some o∧o.ExactSet∧o.data = .set es ep t∧ElemsOf (intKind prog w) es.toList∧(∀ k,k∈dl ↔ ∃ e∈es.toList,(intKind prog w).is k e.2=true)∧es.size < scanBound∧t.fits es.size=true∧es.size=dl.length∧Tk t∧t.led=ldr w
theorem putI {a:Addr}{o:Obj}{es es1:Array (Int × Value)}{ep:Nat}{t t2:SetTable}{dl:List Int}(ho:s.heap.get? a=some o)(hex:o.ExactSet)(hd:o.data = .set es ep t)(hel:ElemsOf (intKind prog w) es1.toList)
  (hm:∀ k,k∈dl ↔ ∃ e∈es1.toList,(intKind prog w).is k e.2=true) (hb:es1.size < scanBound) (hf:t2.fits es1.size=true) (hn:es1.size=dl.length) (hp:Tk t2) (hld:t2.led=ldr w) :
  (s.heap.update a (Obj.putSet es1 t2)).get? a=some { o with data:=.set es1 (ep+1) t2 }∧SetI prog w (s.heap.update a (Obj.putSet es1 t2)) a dl:=by
 have hg:(s.heap.update a (Obj.putSet es1 t2)).get? a=some { o with data:=.set es1 (ep+1) t2 }:=by
  have q:=Heap.get?_update_self (Obj.putSet es1 t2) ho (by rw [putSet_of es1 t2 hd];rfl)
  rwa [putSet_of es1 t2 hd] at q
 exact ⟨hg,_,es1,ep+1,t2,hg,hex,rfl,hel,hm,hb,hf,hn,hp,hld⟩
theorem addI {a:Addr}{dl:List Int}{z:Int}{u:Tok}{Q:Bool→Shared→Prop}(hS:SetI prog w s.heap a dl)(hroom:dl.length+1 < scanBound)
  (h:∀ h' b,Heap.SameBut a s.heap h'→SetI prog w h' a (if z∈dl then dl else dl++[z])→Q b { s with heap:=h' }) :
  wpAny (model prog w) A (setAddHashed a (.int z u) ((intKind prog w).hash z)) Q E s:=by
 obtain ⟨o,es,ep,t,ho,hex,hd,hel,hm,hb,hf,hn,hpl,hld⟩:=hS
 have hkey:(intKind prog w).is z (.int z u)=true:=intKind_is prog w z u
 have hsc:(Value.int z u).scannable=true:=rfl
 unfold setAddHashed setAddHashedIn
 refine wpAny_holding (wpAny_bind (wpAny_setState_of ho hd hf ?_))
 dsimp only
 rw [byScan_of (knd:=intKind prog w) hsc hb hel]
 simp only [↓reduceIte]
 unfold setAddByScan
 refine wpAny_bind (wpAny_bind (wpAny_rule (wpAny_bind (wpAny_setScan_of (knd:=intKind prog w) hkey ho hd hf hel ?_))))
 cases hr:List.findIdx? (fun e=>(intKind prog w).is z e.2) es.toList with
 | some j =>
  dsimp only
  obtain ⟨hj,hpj,_⟩:=List.findIdx?_eq_some_iff_getElem.mp hr
  have hz:z∈dl:=(hm z).mpr ⟨es.toList[j],List.getElem_mem hj,hpj⟩
  refine wpAny_pure (wpAny_pure ?_)
  have q:=h s.heap false (Heap.SameBut.refl a s.heap) (by rw [if_pos hz];exact ⟨o,es,ep,t,ho,hex,hd,hel,hm,hb,hf,hn,hpl,hld⟩)
  have e:s={ s with heap:=s.heap }:=by cases s;rfl
  rw [e];exact q
 | none =>
  dsimp only
  have hz:z∉dl:=fun hz=>by
   obtain ⟨e,he,hp⟩:=(hm z).mp hz
   have q:=List.findIdx?_eq_none_iff.mp hr e he
   rw [hp] at q
   cases q
  have hq:∀ h',Heap.SameBut a s.heap h'→SetI prog w h' a (dl++[z])→Q true { s with heap:=h' }:=fun h' sb hs=>h h' true sb (by rw [if_neg hz];exact hs)
  have hperm:=layNew_perm t es ((intKind prog w).hash z) (.int z u)
  have hfits:=layNew_fits t es ((intKind prog w).hash z) (.int z u)
  have hoff:=layNew_tk (es:=es) (h:=(intKind prog w).hash z) (x:=.int z u) hpl
  have hl1:(layNew t es ((intKind prog w).hash z) (.int z u)).2.1.led=ldr w:=layNew_led.trans hld
  generalize hL:layNew t es ((intKind prog w).hash z) (.int z u)=L at hperm hfits hoff hl1 ⊢
  obtain ⟨es1,t1,wasDummy,gave⟩:=L
  dsimp only at hperm hfits hoff hl1 ⊢
  rw [Array.toList_push] at hperm
  have hel1:ElemsOf (intKind prog w) es1.toList:=(hel.push hkey hsc).perm hperm
  have hm1:∀ k,k∈dl++[z] ↔ ∃ e∈es1.toList,(intKind prog w).is k e.2=true:=fun k=>by
   rw [← mem_push_iff (knd:=intKind prog w) (S:=fun k=>decide (k∈dl)) hkey (fun k=>by rw [decide_eq_true_iff];exact hm k) hperm k]
   simp
  have hsz1:es1.size=(dl++[z]).length:=by rw [← Array.length_toList,hperm.length_eq,List.length_append,Array.length_toList,hn,List.length_append];rfl
  have hb1:es1.size < scanBound:=by rw [hsz1,List.length_append];exact hroom
  have tail:∀ t2:SetTable,Tk t2→t2.led=ldr w→t2.fits es1.size=true→wpAny (model prog w) A (do
    storeSet a es1 t2
    if (!wasDummy && t2.tooFull)=true then do
      (match (relayAll t2 es1 (SetTable.grown es1.size)).2.2 with | true=>rule "set.scan.the-table-gave-way" | false=>pure ())
      storeSet a (relayAll t2 es1 (SetTable.grown es1.size)).1 (relayAll t2 es1 (SetTable.grown es1.size)).2.1
      pure (some true)
     else pure (some true)) (fun r s'=>wpAny (model prog w) A (match r with | some added=>pure added | none=>setAddHashedIn a (.int z u) ((intKind prog w).hash z) 99999) Q E s') E s:=fun t2 hp2 hd2 hf2=>by
   refine wpAny_bind (wpAny_storeSet_of ho hd ?_ (fits_of_scanBound hb1))
   obtain ⟨ho1,hS1⟩:=putI ho hex hd hel1 hm1 hb1 hf2 hsz1 hp2 hd2
   have hsb1:=Heap.SameBut.update s.heap a (Obj.putSet es1 t2)
   split
   ·have hp:=relayAll_perm t2 es1 (SetTable.grown es1.size)
    have hfr:=relayAll_fits t2 es1 (SetTable.grown es1.size)
    have hof:=zhu (t:=t2) (es:=es1) (w:=SetTable.grown es1.size)
    have hof2:=(zdq (t:=t2) (es:=es1) (w:=SetTable.grown es1.size)).trans hd2
    generalize relayAll t2 es1 (SetTable.grown es1.size)=Rl at hp hfr hof hof2 ⊢
    obtain ⟨es2,t3,gave2⟩:=Rl
    dsimp only at hp hfr hof hof2 ⊢
    have hsz:es2.size=es1.size:=by rw [← Array.length_toList,hp.length_eq,Array.length_toList]
    have go:wpAny (model prog w) A (storeSet a es2 t3 >>= fun _=>pure (some true)) (fun r s'=>wpAny (model prog w) A (match r with | some added=>pure added | none=>setAddHashedIn a (.int z u) ((intKind prog w).hash z) 99999) Q E s') E { s with heap:=s.heap.update a (Obj.putSet es1 t2) }:=by
     refine wpAny_bind (wpAny_storeSet_of ho1 rfl ?_ (fits_of_scanBound (by rw [hsz];exact hb1)))
     obtain ⟨_,hS2⟩:=putI (s:={ s with heap:=s.heap.update a (Obj.putSet es1 t2) }) ho1 hex rfl (hel1.perm hp) (fun k=>(hm1 k).trans ⟨fun zq2=>(by obtain ⟨e,he,q⟩:=zq2;exact ⟨e,hp.mem_iff.mpr he,q⟩),fun zq1=>(by obtain ⟨e,he,q⟩:=zq1;exact ⟨e,hp.mem_iff.mp he,q⟩)⟩) (by rw [hsz];exact hb1) hfr (hsz.trans hsz1) hof hof2
     exact wpAny_pure (wpAny_pure (hq _ (hsb1.trans (Heap.SameBut.update _ a _)) hS2))
    cases gave2
    ·exact wpAny_bind (wpAny_pure go)
    ·exact wpAny_bind (wpAny_rule go)
   ·exact wpAny_pure (wpAny_pure (hq _ hsb1 hS1))
  have rest:wpAny (model prog w) A (do
    let byValue ← if t1.plain=true then hashByValue 8 (.int z u) else pure true
    storeSet a es1 (if byValue=true then t1 else { t1 with plain:=false })
    if (!wasDummy && (if byValue=true then t1 else { t1 with plain:=false }:SetTable).tooFull)=true then do
      (match (relayAll (if byValue=true then t1 else { t1 with plain:=false }) es1 (SetTable.grown es1.size)).2.2 with | true=>rule "set.scan.the-table-gave-way" | false=>pure ())
      storeSet a (relayAll (if byValue=true then t1 else { t1 with plain:=false }) es1 (SetTable.grown es1.size)).1 (relayAll (if byValue=true then t1 else { t1 with plain:=false }) es1 (SetTable.grown es1.size)).2.1
      pure (some true)
     else pure (some true)) (fun r s'=>wpAny (model prog w) A (match r with | some added=>pure added | none=>setAddHashedIn a (.int z u) ((intKind prog w).hash z) 99999) Q E s') E s:=by
   by_cases hp1:t1.plain=true
   ·rw [if_pos hp1]
    refine wpAny_bind ?_
    rw [hashByValue_scannable 8 hsc]
    refine wpAny_pure ?_
    show wpAny _ _ (storeSet a es1 (if plainKind (.int z u)=true then t1 else { t1 with plain:=false }) >>= _) _ _ _
    exact tail t1 hoff hl1 hfits
   ·rw [if_neg hp1]
    refine wpAny_bind (wpAny_pure ?_)
    exact tail t1 hoff hl1 hfits
  cases gave
  ·exact wpAny_bind (wpAny_pure rest)
  ·exact wpAny_bind (wpAny_rule rest)
theorem SetI.at {h h':Heap}{a:Addr}{dl:List Int}(hS:SetI prog w h a dl)(k:∀ o,h.get? a=some o→h'.get? a=some o):SetI prog w h' a dl:=by
 obtain ⟨o,es,ep,t,ho,r⟩:=hS
 exact ⟨o,es,ep,t,k o ho,r⟩
section
variable {R:Result→Shared→Prop} {I:Addr} {fp wr:List Addr} {G:Array GenState→Array GenState→Prop} {n:Nat} {P:Nat→Value→Prop} {St:Nat→Shared→Prop}
theorem updI (W:WalksS prog w A.in1 I fp wr G n P St)(S:Addr)(hSf:S∉fp)(val:Nat→Int)(hval:∀ i v,P i v→∃ t,v = .int (val i) t)(hb:n+1 < scanBound) :
  ∀ (k i:Nat) (s:Shared),n - i=k→i≤n→St i s→SetI prog w s.heap S (ddpI val i)→(∀ s',Moved (S::wr) G s s'→SetI prog w s'.heap S (ddpI val n)→R (.ok (.ret .none)) s') →
   codeAny (model prog w) A (.builtin "set.update.loop" ⟨[.ref S,.ref I],[]⟩) R s:=by
 have nw:S∉wr:=fun q=>hSf (W.sub _ q)
 have sub:∀ b∈wr,b∈S::wr:=fun b q=>List.mem_cons_of_mem _ q
 intro k
 induction k with
 | zero =>
  intro i s hk hi st hS hR
  obtain rfl:i=n:=by omega
  refine codeAny_builtin PyProof.Rows.F.entry_set_update_loop ?_
  rw [Around.under_plainId PyProof.Rows.F.plain_set_update_loop _]
  show wpAny _ A.in1 (pyNext (.ref I) >>= _) _ _ s
  refine wpAny_bind (W.done s _ _ st fun s' mv=>?_)
  show wpAny _ A.in1 (ret Value.none) _ _ s'
  exact wpAny_pure (hR s' (mv.mono sub) (hS.at fun o q=>mv.heap S o nw q))
 | succ k ih =>
  intro i s hk hi st hS hR
  have hlt:i < n:=by omega
  refine codeAny_builtin PyProof.Rows.F.entry_set_update_loop ?_
  rw [Around.under_plainId PyProof.Rows.F.plain_set_update_loop _]
  show wpAny _ A.in1 (pyNext (.ref I) >>= _) _ _ s
  refine wpAny_bind (W.item i s _ _ hlt st fun v s' hP st' mv=>?_)
  obtain ⟨u,rfl⟩:=hval i v hP
  have hS':SetI prog w s'.heap S (ddpI val i):=hS.at fun o q=>mv.heap S o nw q
  show wpAny _ A.in1 (holding [Value.int (val i) u] (setAdd S (.int (val i) u)) >>= _) _ _ s'
  refine wpAny_bind (wpAny_holding ?_)
  unfold setAdd
  refine wpAny_holding (wpAny_bind ((intKind prog w).pyHash (k:=val i) (intKind_is _ _ _ _) ?_))
  have hl:=zir val i
  refine addI (s:={ s' with toks:=s'.toks+1 }) hS' (by omega) fun h' b sb hS2=>?_
  refine wpAny_pure ⟨plainId_quiet PyProof.Rows.F.plain_set_update_loop _,ih (i+1) _ (by omega) hlt (W.frame _ s' _ _ st' (Nat.le_succ _) fun c hc o q=>?_) (by unfold ddpI;exact hS2) fun s'' mv2 hS3=>?_⟩
  ·rw [sb.2 c (fun e:c=S=>hSf (e ▸ hc))];exact q
  ·refine hR s'' (Moved.trans W.gtrans ((mv.mono sub).then_heap (Nat.le_succ _) fun c o hc q=>?_) mv2) hS3
   rw [sb.2 c (fun e:c=S=>hc (e ▸ List.mem_cons_self))];exact q
end
set_option maxHeartbeats 3200000 in
theorem call_setI {l:Addr}{its:Array Value}{val:Nat→Int}{Q:Value→Shared→Prop}(hh:A.handled=none)(hl:s.heap.IsList l its)(hval:∀ (i:Nat) (v:Value),its[i]? = some v→∃ t,v = .int (val i) t)(hb:its.size+1 < scanBound)
  (h:∀ (h':Heap) (tk:Nat),SetI prog w h' s.heap.objs.size (ddpI val its.size)→(∀ b o,b < s.heap.objs.size→s.heap.get? b=some o→h'.get? b=some o)→Q (.ref s.heap.objs.size) { s with heap:=h',toks:=tk }) :
  wpAny (model prog w) A (call (.type "set") [.ref l]) Q E s:=by
 obtain ⟨c,tl,hmro⟩:=F.called_set.mro
 have hmade:=F.called_set.made
 have hsub:=F.called_set.sub
 refine wpAny_call (codeAny_of_tree ?_)
 show wpAny _ _ (callAny (.type "set") _) _ _ _
 refine wpAny_pure ⟨Code.quiet_builtin _ (by decide +kernel),codeAny_builtin F.entry_type_call ?_⟩
 rw [Around.under_plain (weight_type_call_type "set" [.ref l] []) rfl]
 have x1:=F.called_set.notType
 have x2:=F.called_set.canCreate
 have x3:=F.typeCall_set_1 (.ref l)
 repeat (any_goals (first | assumption | wp_step))
 refine codeAny_mono (zdb (.ref l) (E:=E) (Q₁:=fun ob s1=>ob = .ref s.heap.objs.size∧s1={ s with heap:=s.heap.push (sob (ldr w)) }) ⟨rfl,rfl⟩) fun r s1 hr=>?_
 cases r with
 | error e=>exact hr
 | ok fl =>
  cases fl with
  | ret ob =>
   obtain ⟨rfl,rfl⟩:=hr
   have gS:(s.heap.push (sob (ldr w))).get? s.heap.objs.size=some (sob (ldr w)):=Heap.get?_push_size _ rfl
   have hT:Shared.TypeIs { s with heap:=s.heap.push (sob (ldr w)) } (.ref s.heap.objs.size) "set":=⟨_,gS,rfl⟩
   have x4:=F.called_set.init.lookup
   have x5:=F.called_set.init.bind (.ref s.heap.objs.size)
   repeat (any_goals (first | assumption | wp_step))
   refine codeAny_mono (codeAny_call_builtin (R:=wants (fun r s2=>r = .none∧∃ h' tk,s2={ s with heap:=h',toks:=tk }∧SetI prog w h' s.heap.objs.size (ddpI val its.size)∧(∀ b o,b < s.heap.objs.size→s.heap.get? b=some o→h'.get? b=some o)) E) F.called_set.init.plain F.entry_set_init (check_set_init_1 hT ?_)) fun r2 s2 hr2=>?_
   ·obtain ⟨⟨oc,od,odt,osl⟩,gl,hc,nl,hd⟩:=hl
    simp only at hc hd
    subst hc;subst hd
    have gl':(s.heap.push (sob (ldr w))).get? l=some { cls:=.type "list",dict:=od,data:=.seq its nl,slots:=osl }:=Heap.get?_push_of_some _ gl
    have y1:=F.sub_list_set
    have y2:=F.sub_list_frozenset
    have y3:(Value.type "list" == Value.type "dict")=false:=by decide
    have L1:(s.heap.push (sob (ldr w))).IsList l its:=⟨_,gl',rfl,nl,rfl⟩
    unfold Builtin.«set.__init__» noKeywords Builtin.Frozenset.updateFrom
    generalize hPI:pyIter=PI
    wp_walk
    subst hPI
    refine wpAny_pyIter_list L1 (wpAny_bind (wpAny_runValue ?_))
    have llt:l < s.heap.objs.size:=Heap.lt_size gl
    have z1:(s.heap.push (sob (ldr w))).objs.size=s.heap.objs.size+1:=Heap.size_push ..
    have nI:l≠(s.heap.push (sob (ldr w))).objs.size:=by rw [z1];exact Nat.ne_of_lt (Nat.lt_succ_of_lt llt)
    have nf:s.heap.objs.size∉[(s.heap.push (sob (ldr w))).objs.size,l]:=by
     rw [z1];simp only [List.mem_cons,List.mem_singleton,List.not_mem_nil,or_false,not_or]
     exact ⟨Nat.ne_of_lt (Nat.lt_succ_self _),Nat.ne_of_gt llt⟩
    refine updI ((Walks.list (by simp [hh]) _ l nI its).toS) s.heap.objs.size nf val hval hb (its.size - 0) 0 _ (by omega) (Nat.zero_le _) ⟨⟨_,Heap.get?_push_size _ rfl,rfl,rfl⟩,L1.push _⟩ ?s0 ?rr
    case s0=>exact ⟨_,#[],0,_,Heap.get?_push_of_some _ gS,⟨rfl,rfl,rfl⟩,rfl,fun e he=>by simp at he,fun k=>by simp [ddpI],by decide,by rfl,rfl,⟨rfl,rise_nil⟩,rfl⟩
    case rr =>
     intro s' mv hS'
     obtain ⟨h',g',d',tk',os'⟩:=s'
     obtain rfl:g'=s.gens:=mv.gens
     obtain rfl:d'=s.drawn:=mv.drawn
     obtain rfl:os'=s.os:=mv.os
     show wpAny _ _ _ _ _ _
     refine wpAny_pure ?_
     show wpAny _ _ (ret Value.none) _ _ _
     refine wpAny_pure ⟨rfl,h',tk',rfl,hS',fun b o hlt e=>mv.heap b o ?_ (Heap.get?_push_of_some _ (Heap.get?_push_of_some _ e))⟩
     simp only [List.mem_cons,List.mem_singleton,List.not_mem_nil,or_false,not_or]
     exact ⟨Nat.ne_of_lt hlt,by rw [z1];exact Nat.ne_of_lt (Nat.lt_succ_of_lt hlt)⟩
   ·cases r2 with
    | error e=>exact hr2
    | ok fl2 =>
     cases fl2 with
     | ret r =>
      obtain ⟨rfl,h',tk,rfl,hS',hk'⟩:=hr2
      repeat (any_goals (first | assumption | wp_step))
      exact h _ _ hS' hk'
     | _=>exact hr2.elim
  | _=>exact hr.elim
end
end PySem
namespace PySem
open Sem (wp)
section
variable {prog:Program} {w:World} {A:Around} {E:Value→Shared→Prop} {s:Shared}
theorem zck {S:Addr}{sl i ep:Nat}{es:Array (Int × Value)}{t:SetTable}{Q:Option (Value × Nat)→Shared→Prop}(bt:w.params.followText "set-order" = false)(b:Sob s.heap S es ep t)(h1:¬ (!t.plain && decide (es.size > 1))=true)(hl:t.led=true)
  (q:Q (match es[SetTable.below t.place sl]?,t.place[SetTable.below t.place sl]? with | some (_,x),some j=>some (x,j+1) | _,_=>none) s):wpAny (model prog w) A (setNext S sl i ep) Q E s:=by
 unfold setNext
 refine wpAny_bind (zau b ?_)
 refine wpAny_bind (zbd ?_)
 rw [bt]
 simp only [Bool.false_eq_true,if_false]
 refine wpAny_ite_split (fun hab=>absurd hab ?_) fun _=>?_
 ·show ¬ ((!t.plain && decide (es.size > 1))=true)
  exact h1
 refine wpAny_bind ?_
 show wpAny _ _ (if (!t.led && !es.isEmpty)=true then unsupported "set:maker-not-led" else pure ()) _ _ _
 rw [hl,if_neg (by simp)]
 exact wpAny_pure (wpAny_pure q)
noncomputable def sitP (t:SetTable)(i:Nat):Nat:=if i=0 then 0 else t.place.getD (i - 1) 0+1
theorem zfg {t:SetTable}(hk:Tk t){i:Nat}(hi:i≤t.place.size):SetTable.below t.place (sitP t i)=i:=by
 unfold sitP
 by_cases z:i=0
 ·rw [if_pos z,z]
  exact zjb hk.2
 ·rw [if_neg z]
  have hl:i - 1 < t.place.size:=by omega
  have e:=getElem?_pos t.place (i - 1) hl
  have g:t.place.getD (i - 1) 0=t.place[i - 1]:=by simp [Array.getD,hl]
  rw [g,zja hk.2 e]
  omega
theorem walk_rise (hh:A.handled=none)(bt:w.params.followText "set-order" = false){I S:Addr}(hne:S≠I){es:Array (Int × Value)}{ep:Nat}{t:SetTable}(h1:¬ (!t.plain && decide (es.size > 1))=true)(hl:t.led=true)(hk:Tk t) :
  Walks prog w A I [I,S] [I] es.size (fun i v=>(es.toList.map (·.2))[i]? = some v) (fun i h=>Sit h I (rawInt (sitP t i:Nat)) i S es.size ep∧Sob h S es ep t) where
 sub:=fun b hb=>by rw [List.mem_singleton.mp hb];exact List.mem_cons_self
 frame:=fun i h h' st k=>⟨st.1.at (k I List.mem_cons_self),st.2.at (k S (by simp))⟩
 item:=fun i s Q E hi st q=>by
  have pz:t.place.size=es.size:=by
   have:=st.2.ft
   unfold SetTable.fits at this
   simp at this
   omega
  have e:=getElem?_pos es i hi
  have ej:=getElem?_pos t.place i (by omega)
  refine zco st.1 st.2 (wpAny_bind (zck bt st.2 h1 hl ?_))
  generalize es[i]=y at e ⊢
  obtain ⟨c,x⟩:=y
  rw [zfg hk (by omega),e,ej]
  refine zhl (first':=rawInt ((t.place[i]+1:Nat):Int)) st.1 fun h' g k=>⟨_,rfl,q _ h' s.toks ?_ ⟨?_,st.2.at fun o eo=>k S o (by simp [hne]) eo⟩ k⟩
  ·rw [List.getElem?_map,Array.getElem?_toList,e]
   rfl
  ·have hi2:i < t.place.size:=by omega
   have:sitP t (i+1)=t.place[i]+1:=by
    unfold sitP
    rw [if_neg (Nat.succ_ne_zero _),Nat.add_sub_cancel]
    simp [Array.getD,hi2]
   rw [this]
   exact g
 done:=fun s Q E st q=>by
  have pz:t.place.size=es.size:=by
   have:=st.2.ft
   unfold SetTable.fits at this
   simp at this
   omega
  refine zco st.1 st.2 (wpAny_bind (zck bt st.2 h1 hl ?_))
  rw [zfg hk (by omega),getElem?_neg es es.size (by omega)]
  exact zhm hh st.1 fun h' k=>q h' s.toks k
 self:=fun i s Q E st q=>by
  refine wpAny_pyIter_slot st.1.ty za6 (wpAny_call_entry za6 st.1.ty zbh ?_ (zbo _))
  exact wpAny_pure ⟨_,rfl,"set_iterator",_,st.1.ty,slot_sit_next.lookup,q⟩
theorem iter_setI {S:Addr}{es:Array (Int × Value)}{ep:Nat}{t:SetTable}{Q:Value→Shared→Prop}(b:Sob s.heap S es ep t)(hl:t.led=ldr w)(hpl:Tk t)(hz:es.size≤sizeLine)
  (q:∀ (I:Addr) (fp:List Addr) (h':Heap) dr (vs:List Value) (St:Nat→Heap→Prop),
   (∀ A':Around,A'.handled=none→Walks prog w A' I fp [I] es.size (fun i v=>vs[i]? = some v) St)→St 0 h'→vs.Perm (es.toList.map (·.2))→(∀ b∈fp,b=S ∨ s.heap.objs.size≤b)→s.heap.objs.size≤I→I < h'.objs.size →
   (∀ b o,s.heap.get? b=some o→h'.get? b=some o)→Q (.ref I) { s with heap:=h',drawn:=dr }):wpAny (model prog w) A (pyIter (.ref S)) Q E s:=by
 obtain ⟨o,e,x,d⟩:=b.ex
 have hT:s.TypeIs (.ref S) "set":=⟨o,e,x.1⟩
 have lt:=Heap.lt_size e
 refine wpAny_pyIter_slot hT F.slot_set_iter (wpAny_call_entry F.slot_set_iter hT zch ?_ (F.args_set_iter_1 _))
 unfold Builtin.«frozenset.__iter__»
 refine wpAny_bind (m:=Builtin.Frozenset.slot0 _ _) (wpAny_of_eq (a:=S) rfl ?_)
 refine wpAny_bind (m:=Builtin.Frozenset.sizeOf S) ?_
 unfold Builtin.Frozenset.sizeOf
 refine wpAny_bind (zbg b (wpAny_pure ?_))
 refine wpAny_bind (m:=setDrawn S) ?_
 unfold setDrawn
 refine wpAny_bind (zau b (wpAny_bind (zbd (wpAny_pure ?_))))
 cases bt:w.params.followText "set-order" with
 | true =>
  simp only [Bool.not_true,Bool.false_and,Bool.false_eq_true,if_false]
  refine wpAny_bind (wpAny_pure ?_)
  refine wpAny_bind (m:=setEpoch S) ?_
  unfold setEpoch
  refine wpAny_bind (zau b (wpAny_pure ?_))
  refine wpAny_bind (wpAny_newObj_type ?_)
  refine wpAny_pure ⟨_,rfl,"set_iterator",_,⟨_,Heap.get?_push_size _ rfl,rfl⟩,slot_sit_next.lookup,?_⟩
  have lz:(pickOrder (w.params.setOrder S ep) es).toList.length=es.toList.length:=(zb3 _ es).length_eq
  refine q s.heap.objs.size [s.heap.objs.size,S] _ s.drawn _ _ (fun A' hh=>zg3 (t:=t) hh bt (Nat.ne_of_lt lt)) ⟨⟨_,Heap.get?_push_size _ rfl,rfl,rfl⟩,b.at fun o eo=>Heap.get?_push_of_some _ eo⟩ ((zb3 _ es).map _) (fun c hc=>?_) (Nat.le_refl _) (by rw [Heap.size_push];exact Nat.lt_succ_self _) fun c o eo=>Heap.get?_push_of_some _ eo
  rcases List.mem_cons.mp hc with h | h
  ·exact .inr (by rw [h];exact Nat.le_refl _)
  ·exact .inl (List.mem_singleton.mp h)
 | false =>
  have ld:t.led=true:=by rw [hl];unfold ldr;rw [bt];rfl
  by_cases dr:(!t.plain && decide (es.size > 1))=true
  ·refine wpAny_ite_split (fun _=>?_) fun no=>absurd (show (!false && (!t.plain && decide (es.size > 1)))=true by rw [dr];rfl) no
   refine wpAny_bind (zbr _ _ _ _ (List.length_range) fun ps dr2 hp=>?_)
   have lp:ps.length=es.size:=by rw [hp.length_eq,List.length_range]
   refine wpAny_bind (wpAny_newObj_type ?_ (by show (ps.map fun (i:Nat)=>rawInt i).toArray.size≤_;simp [lp];exact hz))
   refine wpAny_bind (m:=setEpoch S) ?_
   unfold setEpoch
   refine wpAny_bind (zau (b.at fun o eo=>Heap.get?_push_of_some _ eo) (wpAny_pure ?_))
   refine wpAny_bind (wpAny_newObj_type ?_)
   refine wpAny_pure ⟨_,rfl,"set_iterator",_,⟨_,Heap.get?_push_size _ rfl,rfl⟩,slot_sit_next.lookup,?_⟩
   have z1:(s.heap.push { cls:=.type "tuple",data:=.seq (ps.map fun (i:Nat)=>rawInt i).toArray }:Heap).objs.size=s.heap.objs.size+1:=Heap.size_push ..
   rw [z1]
   refine q (s.heap.objs.size+1) [s.heap.objs.size+1,S,s.heap.objs.size] _ dr2 _ _ (fun A' hh=>zfb (t:=t) (ep:=ep) hh (Nat.ne_of_lt (Nat.lt_succ_of_lt lt)) (Nat.ne_of_lt (Nat.lt_succ_self _)) hp) ⟨?_,?_,?_⟩ ?_ (fun c hc=>?_) (Nat.le_succ _) ?_ fun c o eo=>Heap.get?_push_of_some _ (Heap.get?_push_of_some _ eo)
   ·have g0:=Heap.get?_push_size (s.heap.push { cls:=.type "tuple",data:=.seq (ps.map fun (i:Nat)=>rawInt i).toArray }) (o:={ cls:=.type "set_iterator",data:=.fields #[.ref s.heap.objs.size,rawInt (0:Nat),.ref S,rawInt es.size,rawInt ep] }) rfl
    rw [z1] at g0
    exact ⟨_,g0,rfl,rfl⟩
   ·exact b.at fun o eo=>Heap.get?_push_of_some _ (Heap.get?_push_of_some _ eo)
   ·exact ⟨_,Heap.get?_push_of_some _ (Heap.get?_push_size _ rfl),rfl,rfl⟩
   ·rw [← zg4]
    exact hp.map _
   ·simp only [List.mem_cons,List.not_mem_nil,or_false] at hc
    rcases hc with h | h | h
    ·exact .inr (by rw [h];exact Nat.le_succ _)
    ·exact .inl h
    ·exact .inr (by rw [h];exact Nat.le_refl _)
   ·rw [Heap.size_push,z1]
    exact Nat.lt_succ_self _
  ·refine wpAny_ite_split (fun yes=>absurd (show (!t.plain && decide (es.size > 1))=true from yes) dr) fun _=>?_
   refine wpAny_bind (wpAny_pure ?_)
   refine wpAny_bind (m:=setEpoch S) ?_
   unfold setEpoch
   refine wpAny_bind (zau b (wpAny_pure ?_))
   refine wpAny_bind (wpAny_newObj_type ?_)
   refine wpAny_pure ⟨_,rfl,"set_iterator",_,⟨_,Heap.get?_push_size _ rfl,rfl⟩,slot_sit_next.lookup,?_⟩
   refine q s.heap.objs.size [s.heap.objs.size,S] _ s.drawn _ _ (fun A' hh=>walk_rise (t:=t) (ep:=ep) hh bt (Nat.ne_of_lt lt) dr ld hpl) ⟨⟨_,Heap.get?_push_size _ rfl,rfl,rfl⟩,b.at fun o eo=>Heap.get?_push_of_some _ eo⟩ (List.Perm.refl _) (fun c hc=>?_) (Nat.le_refl _) (by rw [Heap.size_push];exact Nat.lt_succ_self _) fun c o eo=>Heap.get?_push_of_some _ eo
   rcases List.mem_cons.mp hc with h | h
   ·exact .inr (by rw [h];exact Nat.le_refl _)
   ·exact .inl (List.mem_singleton.mp h)
theorem zhv {R:Result→Shared→Prop}{S L:Addr}{es:Array (Int × Value)}{ep c0:Nat}{t:SetTable}(hh:A.handled=none)(b:Sob s.heap S es ep t)(hl:t.led=ldr w)(hpl:Tk t)(hz:es.size≤sizeLine)(res:Value)
  (hL:s.heap.get? L=some { cls:=.type "list",data:=.seq #[] c0 })
  (hR:∀ h' dr tk (vs:List Value) acc c',(∀ b o,b≠L→s.heap.get? b=some o→h'.get? b=some o)→h'.get? L=some { cls:=.type "list",dict:=none,data:=.seq acc c',slots:=#[] }→vs.Perm (es.toList.map (·.2)) →
   ItemsOf (fun i v=>vs[i]? = some v) acc es.size→R (.ok (.ret res)) { s with heap:=h',drawn:=dr,toks:=tk }) :
  wpAny (model prog w) A.in1 (Builtin.List.listExtendWith (.ref L) (.ref S) res)
   (fun fin s'=>match fin with | .done f=>R (.ok f) s' | .again c'=>c'.quiet=true∧codeAny (model prog w) A c' R s') (fun e s'=>R (.error e) s') s:=by
 obtain ⟨o,e,x,d⟩:=b.ex
 have hT:s.TypeIs (.ref S) "set":=⟨o,e,x.1⟩
 have nLS:L≠S:=fun z=>by
  rw [z,e] at hL
  have:=Option.some.inj hL
  rw [this] at d
  cases d
 have lL:=Heap.lt_size hL
 unfold Builtin.List.listExtendWith
 refine wpAny_bind (wpAny_typeOf hT ?_)
 have n1:Builtin.List.listSameRef (.ref L) (.ref S)=false:=by simp [Builtin.List.listSameRef,nLS]
 have n2:(Value.type "set" == Value.type "list")=false:=by decide
 have n3:(Value.type "set" == Value.type "tuple")=false:=by decide
 simp only [n1,n2,n3,Bool.or_false,Bool.false_eq_true,if_false]
 refine wpAny_bind (iter_setI b hl hpl hz fun I fp h' dr vs St W st0 pm hfp gI lI k=>?_)
 have nf:L∉fp:=fun hm=>by
  rcases hfp L hm with z | z
  ·exact nLS z
  ·exact absurd lL (Nat.not_lt.mpr z)
 have nI:L≠I:=Nat.ne_of_lt (Nat.lt_of_lt_of_le lL gI)
 have WS:=(W A.in1 hh).toS
 have go:∀ (h2:Heap) (c1 tk:Nat),St 0 h2→(∀ b o,b≠L→h'.get? b=some o→h2.get? b=some o)→h2.get? L=some { cls:=.type "list",data:=.seq #[] c1 } →
   codeAny (model prog w) A (.builtin "list.extend.loop" ⟨[.ref L,.ref I,res],[]⟩) R { s with heap:=h2,drawn:=dr,toks:=tk }:=fun h2 c1 tk st2 k2 hL2=>by
  refine codeAny_extend_loopS WS hz L nf res es.size 0 _ #[] c1 (by omega) (Nat.zero_le _) st2 hL2 (ItemsOf.nil _) fun s2 acc c2 mv hL3 hI=>?_
  rw [Moved.eq_with mv]
  refine hR s2.heap dr s2.toks vs acc c2 (fun b o hb eb=>mv.heap b o (fun hm=>?_) (k2 b o hb (k b o eb))) hL3 pm hI
  rcases List.mem_cons.mp hm with z | z
  ·exact hb z
  ·rw [List.mem_singleton.mp z] at eb
   exact absurd (Heap.lt_size eb) (Nat.not_lt.mpr gI)
 have hL1:=k L _ hL
 have hT1:Shared.TypeIs { s with heap:=h',drawn:=dr } (.ref S) "set":=⟨o,k S o e,x.1⟩
 refine wpAny_bind (wpAny_holding (zia hT1 ?_))
 refine wpAny_ite_split (fun _=>?_) fun _=>wpAny_pure ⟨plainId_quiet F.plain_extend_loop _,go h' c0 _ st0 (fun _ _ _ eb=>eb) hL1⟩
 refine wpAny_bind (wpAny_rule ?_)
 refine wpAny_bind ?_
 show wpAny _ _ (updateSeq L (·.push .none) >>= fun _=>updateSeq L (·.pop)) _ _ _
 refine wpAny_bind (wpAny_updateSeq hL1 rfl ?_)
 have hL2:=Heap.get?_update_self (Obj.mapSeq (·.push Value.none)) hL1 rfl
 refine wpAny_updateSeq (hz:=by seq_fits) hL2 rfl ?_
 have hL3:=Heap.get?_update_self (Obj.mapSeq (·.pop)) hL2 rfl
 have up:∀ b o,b≠L→h'.get? b=some o→((h'.update L (Obj.mapSeq (·.push Value.none))).update L (Obj.mapSeq (·.pop))).get? b=some o:=fun b o hb eb =>
  (Heap.get?_update_other _ _ (Ne.symm hb)).trans ((Heap.get?_update_other _ _ (Ne.symm hb)).trans eb)
 exact wpAny_pure ⟨plainId_quiet F.plain_extend_loop _,go _ _ _ ((W A.in1 hh).frame 0 h' _ st0 fun b hb o eb=>up b o (fun z=>nf (z ▸ hb)) eb) up hL3⟩
end
end PySem
namespace L2
open PySem PySem.Spec PyProof.Rows
section
variable {prog:Program} {w:World} {A:Around} {E:Value→Shared→Prop} {s:Shared}
theorem ints_ex:∀ (vs:List Value),(∀ v∈vs,∃ k t,v = .int k t)→∃ zs,IntsAre vs zs∧zs.length=vs.length∧∀ k t,.int k t∈vs→k∈zs
 | [],_=>⟨[],.nil,rfl,fun k t h=>by cases h⟩
 | v::vs,h=>by
  obtain ⟨k,t,rfl⟩:=h v List.mem_cons_self
  obtain ⟨zs,h1,h2,h3⟩:=ints_ex vs fun v hv=>h v (List.mem_cons_of_mem _ hv)
  refine ⟨k::zs,.cons k t h1,by simp [h2],fun k' t' hk=>?_⟩
  rcases List.mem_cons.mp hk with e | e
  ·cases e;exact List.mem_cons_self
  ·exact List.mem_cons_of_mem _ (h3 k' t' e)
theorem zcb:∀ {dl zs:List Int},dl.Nodup→(∀ k∈dl,k∈zs)→zs.length≤dl.length→zs.Perm dl
 | [],zs,_,_,h=>by rw [List.length_eq_zero_iff.mp (Nat.le_zero.mp h)]
 | d::dl,zs,nd,m,h=>by
  have hd:=m d List.mem_cons_self
  have p:=List.perm_cons_erase hd
  refine p.trans (List.Perm.cons _ ?_)
  obtain ⟨n1,n2⟩:=List.nodup_cons.mp nd
  refine zcb n2 (fun k hk=>?_) ?_
  ·have:=m k (List.mem_cons_of_mem _ hk)
   exact (List.mem_erase_of_ne (fun e=>n1 (by rw [← e];exact hk))).mpr this
  ·rw [List.length_erase_of_mem hd]
   simp at h
   omega
theorem zhc {S:Addr}{dl:List Int}{Q:List Value→Shared→Prop}(hh:A.handled=none)(hS:SetI prog w s.heap S dl)(nd:dl.Nodup)
  (k:∀ (h':Heap) (tk:Nat) dr (vs:List Value) (zs:List Int),(∀ b o,s.heap.get? b=some o→h'.get? b=some o)→s.heap.objs.size < h'.objs.size→IntsAre vs zs→zs.Perm dl→Q vs { s with heap:=h',drawn:=dr,toks:=tk }) :
  wpAny (model prog w) A (collect (.ref S)) Q E s:=by
 obtain ⟨o,es,ep,t,ho,hex,hd,hel,hm,hb,hf,hn,hpl,hld⟩:=hS
 have l16:sizeLine=16777216:=sizeLine_eq
 have b4:es.size < 4096:=hb
 unfold collect
 refine (wpAny_bind (wpAny_runValue (codeAny_builtin F.entry_proto_collect ?_)))
 rw [Around.under_plainId F.plain_proto_collect _]
 show wpAny _ A.in1 (newList [] >>= fun q=>again (.builtin "list.__iadd__" ⟨[q,.ref S],[]⟩)) _ _ s
 refine (wpAny_bind (wpAny_newObj_type (wpAny_pure ⟨plainId_quiet F.plain_list_iadd _,codeAny_builtin F.entry_list_iadd ?_⟩)))
 rw [Around.under_plainId F.plain_list_iadd _]
 have hL:(s.heap.push { cls:=.type "list",data:=.seq ([]:List Value).toArray }).get? s.heap.objs.size=some { cls:=.type "list",data:=.seq #[] }:=Heap.get?_push_size _ rfl
 show wpAny _ A.in1 (Builtin.List.listExtendWith (.ref s.heap.objs.size) (.ref S) (.ref s.heap.objs.size)) _ _ { s with heap:=s.heap.push { cls:=.type "list",data:=.seq ([]:List Value).toArray } }
 refine zhv (R:=fun r s'=>match r with
  | .ok (.ret v)=>wpAny (model prog w) A (match v with
   | .ref a=>do
    match (← load a).data with
    | .seq xs _=>pure xs.toList
    | _=>unsupported "internal:collect"
   | _=>unsupported "internal:collect") Q E s'
  | .ok _=>False
  | .error e=>E e s') (s:={ s with heap:=s.heap.push { cls:=.type "list",data:=.seq ([]:List Value).toArray } }) hh ⟨⟨o,Heap.get?_push_of_some _ ho,hex,hd⟩,hf⟩ hld hpl (by omega) _ hL fun h' dr tk vs acc c' hk hL' pm hI=>?_
 show wpAny _ A (load s.heap.objs.size >>= _) _ _ { s with heap:=h',drawn:=dr,toks:=tk }
 have lv:vs.length=es.size:=by rw [pm.length_eq,List.length_map,Array.length_toList]
 have ea:acc.toList=vs:=by
  apply List.ext_getElem?
  intro i
  rw [Array.getElem?_toList]
  by_cases hi:i < es.size
  ·have e1:=getElem?_pos acc i (by rw [hI.1];exact hi)
   rw [e1,hI.2 i _ e1]
  ·rw [getElem?_neg acc i (by rw [hI.1];exact hi),List.getElem?_eq_none (by omega)]
 have sh:∀ v∈vs,∃ z u,v = .int z u:=fun v hv=>by
  obtain ⟨x,hx,rfl⟩:=List.mem_map.mp (pm.mem_iff.mp hv)
  obtain ⟨z,hz⟩:=hel.keys x hx
  obtain ⟨u,e⟩:=Value.isInt_shape hz
  exact ⟨z,u,e⟩
 obtain ⟨zs,z1,z2,z3⟩:=ints_ex vs sh
 have q:=k h' tk dr vs zs (fun b o e=>hk b o (Nat.ne_of_lt (Heap.lt_size e)) (Heap.get?_push_of_some _ e)) (Heap.lt_size hL') z1 (zcb nd (fun z hz=>?_) (by omega))
 ·refine wpAny_bind (wpAny_load hL' ?_)
  rw [← ea] at q
  exact wpAny_pure q
 ·obtain ⟨x,hx,hi⟩:=(hm z).mp hz
  obtain ⟨u,e⟩:=Value.isInt_shape hi
  exact z3 z u (pm.mem_iff.mpr (List.mem_map.mpr ⟨x,hx,e⟩))
end
end L2
namespace Ts
open PySem PyProof.Rows
@[reducible] def intK:KeyKind where
 α:=Int
 blt a b:=decide (a < b)
 irrefl a:=by simp
 trans a b c h1 h2:=by simp only [decide_eq_true_eq] at *;omega
 negTrans a b c h:=by simp only [decide_eq_true_eq] at *;omega
 total a b h1 h2:=by simp only [decide_eq_false_iff_not] at *;omega
 keyOf v:=match v with | .int x _=>some x | _=>none
 dflt:=0
theorem zjd:intK.OneLt:=by
 intro prog w A E s x y a b Q ha hb h
 cases x <;> simp only [intK,reduceCtorEq,Option.some.injEq] at ha
 cases y <;> simp only [intK,reduceCtorEq,Option.some.injEq] at hb
 cases ha;cases hb
 exact oneLt_int h
noncomputable def iOf:Value→Int
 | .int x _=>x
 | _=>0
theorem zde:∀ {vs:List Value} {ns:List Int},IntsAre vs ns→∀ v,v∈vs→∃ x t,v = .int x t
 | _,_,.nil,v,hv=>by simp at hv
 | _,_,.cons x t h,v,hv=>by
  rcases List.mem_cons.mp hv with rfl | hv
  ·exact ⟨x,t,rfl⟩
  ·exact zde h v hv
theorem ints_of:∀ {vs:List Value} {ns:List Int},IntsAre vs ns→vs.map iOf=ns
 | _,_,.nil=>rfl
 | _,_,.cons x t h=>by rw [List.map_cons,ints_of h];rfl
theorem zis:∀ (vs:List Value),(∀ v,v∈vs→∃ x t,v = .int x t)→IntsAre vs (vs.map iOf)
 | [],_=>.nil
 | v::vs,h=>by
  obtain ⟨x,t,rfl⟩:=h v (List.mem_cons_self ..)
  exact .cons x t (zis vs fun u hu=>h u (List.mem_cons_of_mem _ hu))
theorem ints_keys {vs:List Value}{ns:List Int}(hI:IntsAre vs ns):KeysOf intK (pairsOf vs):=by
 intro p hp
 rw [pairsOf_toList] at hp
 obtain ⟨x,t,e⟩:=zde hI _ (mem_zip_self hp).2
 exact ⟨x,by rw [e]⟩
theorem KK_int {xs:Array Keyed}{i:Nat}(hi:i < xs.size){x:Int}{t:Tok}{q:Value}(hx:xs[i]=(.int x t,q)):KK intK xs i=x:=by
 unfold KK;rw [getElem?_pos xs i hi,hx];rfl
theorem zhw {vs:List Value}{ns:List Int}(hI:IntsAre vs ns){xs:Array Keyed}(hp:xs.Perm (pairsOf vs))(hs:SortedToK intK xs (pairsOf vs).size) :
  ∃ ms,IntsAre (xs.map (·.2)).toList ms∧ms.Perm ns∧ms.Pairwise (· ≤ ·):=by
 have hl:xs.toList.Perm (vs.zip vs):=by rw [← pairsOf_toList];exact Array.perm_iff_toList_perm.mp hp
 have hmem:∀ p,p∈xs.toList→p.1=p.2∧p.1∈vs:=fun p hp'=>mem_zip_self (hl.mem_iff.mp hp')
 refine ⟨xs.toList.map (fun p=>iOf p.1),?_,?_,?_⟩
 ·have e:(xs.map (·.2)).toList=xs.toList.map (·.1):=by
   rw [Array.toList_map];exact List.map_congr_left fun p hp'=>(hmem p hp').1.symm
  rw [e]
  have h1:=zis (xs.toList.map (·.1)) (by
   intro v hv
   obtain ⟨p,hp',rfl⟩:=List.mem_map.mp hv
   exact zde hI _ (hmem p hp').2)
  rwa [List.map_map] at h1
 ·have h1:=hl.map (fun p=>iOf p.1)
  have e2:(vs.zip vs).map (fun p=>iOf p.1)=ns:=by
   have:(vs.zip vs).map (fun p=>iOf p.1)=((vs.zip vs).map Prod.fst).map iOf:=by rw [List.map_map];rfl
   rw [this,List.map_fst_zip (Nat.le_refl _),ints_of hI]
  rwa [e2] at h1
 ·rw [List.pairwise_iff_getElem]
  intro i j hi hj hij
  have hi':i < xs.size:=by simpa using hi
  have hj':j < xs.size:=by simpa using hj
  have h1:=hs i j (Nat.le_of_lt hij) (by rw [← hp.size_eq];exact hj')
  obtain ⟨x,t,ex⟩:=zde hI _ (hmem xs[i] (by simp)).2
  obtain ⟨y,u,ey⟩:=zde hI _ (hmem xs[j] (by simp)).2
  rw [KK_int hi' (x:=x) (t:=t) (q:=xs[i].2) (Prod.ext ex rfl),KK_int hj' (x:=y) (t:=u) (q:=xs[j].2) (Prod.ext ey rfl)] at h1
  change decide (y < x)=false at h1
  simp only [List.getElem_map,Array.getElem_toList]
  rw [show iOf xs[i].1=x by rw [ex];rfl,show iOf xs[j].1=y by rw [ey];rfl]
  simpa using h1
end Ts
namespace L2
open PySem PySem.Spec PyProof.Rows Wd Ts
section
variable {prog:Program} {w:World} {A:Around} {E:Value→Shared→Prop} {s:Shared}
end
section
variable {X:Cx}
theorem zcl:∀ {us:List Value} {ns:List Int},IntsAre us ns→Vals (ns.map V.int) us
 | _,_,.nil=>.nil
 | _,_,.cons n t h=>.cons ⟨t,rfl⟩ (zcl h)
end
end L2
namespace L2
open PySem PySem.Spec PyProof.Rows Ts
theorem zdl (val:Nat→Int):∀ i,(ddpI val i).Nodup
 | 0=>by unfold ddpI;exact List.nodup_nil
 | i+1=>by
  unfold ddpI
  split
  ·exact zdl val i
  ·rename_i h
   exact List.nodup_append.mpr ⟨zdl val i,List.nodup_cons.mpr ⟨List.not_mem_nil,List.nodup_nil⟩,fun a ha b hb e=>h (by rw [List.mem_singleton] at hb;subst hb;subst e;exact ha)⟩
theorem zit (val:Nat→Int)(z:Int):∀ i,z∈ddpI val i ↔ ∃ j,j < i∧val j=z
 | 0=>by unfold ddpI;simp
 | i+1=>by
  have ih:=zit val z i
  unfold ddpI
  split
  ·rename_i h
   rw [ih]
   constructor
   ·rintro ⟨j,hj,e⟩;exact ⟨j,by omega,e⟩
   ·rintro ⟨j,hj,e⟩
    by_cases q:j=i
    ·subst q
     rw [← e]
     rw [e] at h ⊢
     exact ih.mp h
    ·exact ⟨j,by omega,e⟩
  ·rw [List.mem_append,ih,List.mem_singleton]
   constructor
   ·rintro (⟨j,hj,e⟩ | e)
    ·exact ⟨j,by omega,e⟩
    ·exact ⟨i,by omega,e.symm⟩
   ·rintro ⟨j,hj,e⟩
    by_cases q:j=i
    ·subst q;exact .inr e.symm
    ·exact .inl ⟨j,by omega,e⟩
section
variable {X:Cx}
noncomputable def StI (P:Program)(w:World)(a:Addr)(dl:List Int):HO:=.ext fun h=>SetI P w h a dl
theorem SetI.lay {P:Program}{w:World}{H:Hp}{h:Heap}{a:Addr}{dl:List Int}(x:SetI P w h a dl):ObjOk P w H h a (StI P w a dl):=by
 refine ⟨x,?_,fun h1 h2 y k=>y.at k⟩
 obtain ⟨o,_,_,_,e,_⟩:=x
 exact ⟨o,e⟩
inductive call_set_intsO_r (K:PySem.W.Frag)(P:PySem.Program)(w:PySem.World)(xs:List V)(H:Hp)(Q:VK):Prop
 | mk:∀ (l:Addr) (ys:List Int),(xs=[.ref l])→(SqL K H l (ys.map V.int))→(ys.length≤4000)→(∀ (p:Addr) (dl:List Int),H p=none→dl.Nodup→(∀ z,z∈dl ↔ z∈ys)→Q (.ref p) (upd H p (StI P w p dl)))→call_set_intsO_r K P w xs H Q
theorem zey (hc:X.calm=true):CallR X (.type "set") (call_set_intsO_r X.K X.prog X.w):=by
 intro pins s σ H xs us Q I r h
 obtain ⟨l,ys,rfl,hq,hz,q⟩:=h
 obtain ⟨u,rfl,ru⟩:=zcc r
 cases ru
 obtain ⟨its,rv,pl,_⟩:=I.list hq
 have hlen:its.length=ys.length:=by rw [← rv.length,List.length_map]
 have hat:∀ (i:Nat) (v:Value),its.toArray[i]? = some v→∃ t,v = .int (ys.getD i 0) t:=fun i v e=>by
  rw [List.getElem?_toArray] at e
  have hi:i < ys.length:=by
   have:=(List.getElem?_eq_some_iff.mp e).1
   omega
  obtain ⟨u,eu,t,rfl⟩:=rv.get (i:=i) (x:=.int ys[i]) (by rw [List.getElem?_map,List.getElem?_eq_getElem hi];rfl)
  rw [e] at eu
  cases eu
  exact ⟨t,by rw [List.getD_eq_getElem?_getD,List.getElem?_eq_getElem hi];rfl⟩
 refine call_setI (I.ok.hd hc) pl.isList hat (by rw [List.size_toArray,hlen];show _ < 4096;omega) fun h' tk hS k=>?_
 refine ⟨.ref s.heap.objs.size,_,I.laid (fun b o e=>k b o (Heap.lt_size e) e) (Nat.le_refl _) (SetI.lay hS),rfl,q _ _ (I.hok.fresh (Nat.le_refl _)) (zdl _ _) fun z=>?_⟩
 rw [zit,List.size_toArray,hlen]
 constructor
 ·rintro ⟨j,hj,rfl⟩
  rw [List.getD_eq_getElem?_getD,List.getElem?_eq_getElem hj]
  exact List.getElem_mem _
 ·intro hm
  obtain ⟨j,hj,e⟩:=List.mem_iff_getElem.mp hm
  exact ⟨j,hj,by rw [List.getD_eq_getElem?_getD,List.getElem?_eq_getElem hj];exact e⟩
inductive call_sorted_setI_r (P:PySem.Program)(w:PySem.World)(xs:List V)(H:Hp)(Q:VK):Prop
 | mk:∀ (a:Addr) (dl:List Int),(xs=[.ref a])→(H a=some (StI P w a dl))→(dl.Nodup)→(∀ (p:Addr) (zs:List Int),H p=none→zs.Perm dl→zs.Pairwise (· ≤ ·)→Q (.ref p) (upd H p (.lst (zs.map V.int))))→call_sorted_setI_r P w xs H Q
theorem zdt (hc:X.calm=true):CallR X (.builtin "sorted") (call_sorted_setI_r X.prog X.w):=by
 intro pins s σ H xs us Q I r h
 obtain ⟨S,dl,rfl,hp,nd,q⟩:=h
 obtain ⟨u,rfl,ru⟩:=zcc r
 cases ru
 have hS:SetI X.prog X.w s.heap S dl:=(I.hok S _ hp).1
 have l16:sizeLine=16777216:=sizeLine_eq
 have lz:dl.length < 4096:=by
  obtain ⟨o,es,ep,t,ho,hex,hd,hel,hm,hb,hf,hn,hpl,hld⟩:=hS
  rw [← hn]
  exact hb
 refine (Calls.call_function_entry kind_sorted plain_sorted entry_sorted (args_sorted1 _) ?_)
 unfold Builtin.«sorted»
 refine (wpAny_bind (m:=checkCount "sorted" 1 1 _) (wpAny_pure ?_))
 refine wpAny_bind (zhc (A:=X.A.in1) (I.ok.hd hc) hS nd fun h' tk dr vs zs0 hk hlt hS0 p0=>?_)
 have hlen:vs.length=dl.length:=by rw [← p0.length_eq];exact (zcl hS0).length.symm.trans (List.length_map ..)
 refine (wpAny_bind (wpAny_newList ?_))
 have hoL:(h'.push (seqObj "list" vs.toArray 0)).get? h'.objs.size=some (seqObj "list" vs.toArray 0):=Heap.get?_push_size _ rfl
 refine (wpAny_bind (wpAny_holding (wpAny_call_entry slot_list_sort ⟨_,hoL,rfl⟩ entry_list_sort (Ts.sort_any zjd hoL (ints_keys hS0) (fun x y r e=>keyKind_ints (by rw [← e];exact hS0)) (by omega) fun st' a1 a2=>⟨_,rfl,?_⟩) (args_list_sort _))))
 obtain ⟨zs,h1,h2,h3⟩:=zhw hS0 a1 a2
 refine wpAny_pure ⟨_,rfl,?_⟩
 obtain ⟨e,he⟩:=sortedHeap_at (out:=(arrOf st').map (·.2)) hoL
 have hp2:=h2.trans p0
 have hzl:(zs.map V.int).length≤sizeLine:=by
  rw [List.length_map,hp2.length_eq]
  omega
 have old:∀ b o,s.heap.get? b=some o→(sortedHeap (h'.push (seqObj "list" vs.toArray 0)) h'.objs.size vs ((arrOf st').map (·.2))).get? b=some o:=fun b o eb=>by
  have e1:=hk b o eb
  have e2:=Heap.lt_size e1
  rw [sortedHeap_old (Nat.ne_of_lt e2) (by rw [Heap.size_push];exact Nat.lt_succ_of_lt e2)]
  exact Heap.get?_push_of_some _ e1
 have I2:Inv X pins σ (upd H h'.objs.size (.lst (zs.map V.int))) { s with heap:=sortedHeap (h'.push (seqObj "list" vs.toArray 0)) h'.objs.size vs ((arrOf st').map (·.2)),toks:=tk } :=
  I.laid old (Nat.le_of_lt hlt) ⟨hzl,((arrOf st').map (·.2)).toList,e,zcl h1,by rw [Array.toArray_toList];exact he⟩
 exact ⟨.ref h'.objs.size,_,I2.dr (d:=dr),rfl,q _ zs (I.hok.fresh (Nat.le_of_lt hlt)) hp2 h3⟩
end
end L2
namespace L2
open PySem PySem.Spec PyProof.Rows
noncomputable def Itk (d:Addr)(o:Obj)(kvs:List (Key × V)):It:=⟨fun i H=>i < kvs.length∧H d=some (.frz o (.dK kvs)),fun i H x H'=>H'=H∧∃ k v,kvs[i]? = some (k,v)∧x=kV k,fun i H=>i=kvs.length∧H d=some (.frz o (.dK kvs))⟩
theorem is_kV {P:Program}{w:World}{k:Key}{u:Value}(h:(mixKind P w).is k u=true):RelV (kV k) u:=by
 rcases za7 h with ⟨i,t,rfl,rfl⟩ | ⟨x,t,rfl,rfl⟩
 ·exact ⟨t,rfl⟩
 ·exact ⟨t,rfl⟩
theorem frz_at {P:Program}{w:World}{H:Hp}{h:Heap}{d:Addr}{o:Obj}{kvs:List (Key × V)}{es:Array DictEntry}{ep:Nat}(hok:HOk P w H h)(e:H d=some (.frz o (.dK kvs)))(he:o.data = .dict es ep) :
  ∃ vs,KV kvs vs∧h.DictAt (mixKind P w) d vs ep:=by
 obtain ⟨g,z,hd,vs,rel,o',es',ep',g',ex,dt,r⟩:=hok d _ e
 rw [g] at g'
 cases g'
 rw [he] at dt
 cases dt
 exact ⟨vs,rel,o,es,g,ex,he,r⟩
theorem zfh {α β:Type}{R:α→β→Prop}:∀ {xs:List α} {ys:List β},Paired R xs ys→∀ {i:Nat} {x:α},xs[i]? = some x→∃ y,ys[i]? = some y∧R x y
 | _,_,.nil,i,x,h=>by simp at h
 | _,_,.cons r q,0,x,h=>by cases h;exact ⟨_,rfl,r⟩
 | _,_,.cons r q,i+1,x,h=>zfh q (i:=i) (by simpa using h)
theorem turn_keys {P:Program}{w:World}{K:PySem.W.Frag}{tg:Expr}{d it:Addr}{o:Obj}{es:Array DictEntry}{ep:Nat}{kvs:List (Key × V)}(he:o.data = .dict es ep):Turn P w K tg (Itk d o kvs) [it] it (fun i h=>h.IsKeyIter it d i kvs.length ep) where
 mem:=by simp
 obj:=fun i h st b hb=>by
  have e:b=it:=by simpa using hb
  subst e
  obtain ⟨o,e,c,dd⟩:=st
  exact ⟨o,e,fun v z=>by rw [dd] at z;cases z⟩
 keep:=fun i h h' st kk=>st.at (kk it (by simp))
 item:=by
  intro X hP hw hK hc i pins s σ H E I hf st hg
  subst hP hw hK
  obtain ⟨hi,e⟩:=hg
  obtain ⟨f0,f1,f2,f3,f4,f5⟩:=hf it (by simp)
  obtain ⟨vs,rel,hm⟩:=frz_at I.hok e he
  have hl:=Paired.length rel
  obtain ⟨p,hp⟩:∃ p,kvs[i]? = some p:=⟨_,List.getElem?_eq_getElem hi⟩
  obtain ⟨p',hp',ek,rv⟩:=zfh rel hp
  rw [hl] at st
  refine wpAny_pyNext_dict_item st hm (k:=p'.1) (v:=p'.2) hp' fun key h' hk st' hsb=>⟨_,rfl,?_⟩
  refine letGo_keyiter (s':={ s with heap:=h' }) st' ⟨kV p.1,H,?_,by rw [ek];exact is_kV hk,⟨rfl,p.1,p.2,hp,rfl⟩,by rw [hl];exact st',fun b hb=>(hf b hb).1⟩
  exact I.turned (t':=s.toks) (fun b o hb e=>by rw [hsb.2 b hb];exact e) f0 f1 f3 f4 f5
 done:=by
  intro X hP hw hK hc i pins s σ H E I hf st hg
  subst hP hw hK
  obtain ⟨hi,e⟩:=hg
  obtain ⟨f0,f1,f2,f3,f4,f5⟩:=hf it (by simp)
  obtain ⟨vs,rel,hm⟩:=frz_at I.hok e he
  have hl:=Paired.length rel
  rw [hl] at st
  refine wpAny_pyNext_dict_end (I.ok.hd hc) st hm (by rw [List.getElem?_eq_none];omega) fun h' hx=>⟨rfl,?_⟩
  exact I.turned (t':=s.toks) (fun b o hb e=>hx b o hb e) f0 f1 f3 f4 f5
 self:=fun A i s Q E st h=>wpAny_pyIter_keyiter st h
section
variable {X:Cx} {tg:Expr}
inductive iKeys_k (R:It→Hp→Prop)(x:V)(H1:Hp):Prop
 | mk:∀ d kvs,(x = .ref d)→(H1 d=some (.dK kvs))→(∀ o,R (Itk d o kvs) (upd H1 d (.frz o (.dK kvs))))→iKeys_k R x H1
noncomputable def iKeys (tl:TE):TI:=fun σ H R=>tl σ H (iKeys_k R)
theorem pi_keys {l:Expr}{tl:TE}(hl:PE X l tl):PI X tg l (iKeys tl):=by
 intro pins s σ H R I h
 refine thn (hl pins s σ H _ I h) fun v s1 zq1=>?_
 obtain ⟨x,H1,I1,r1,d,kvs,rfl,e,q⟩:=zq1
 cases r1
 obtain ⟨z,hd,vs,rel,o,es,ep,g,ex,he,r⟩:=dk_of I1.hok e
 have I2:Inv X pins σ (upd H1 d (.frz o (.dK kvs))) s1:=zfo (t':=s1.toks) I1 (by rw [e];exact True.intro) ⟨rfl,fun _ _=>rfl⟩ ⟨o,g⟩ ⟨g,z,hd,vs,rel,o,es,ep,g,ex,he,r⟩
 refine wpAny_pyIter_dict hd ⟨o,es,g,ex,he,r⟩ ?_
 refine ⟨s1.heap.objs.size,[s1.heap.objs.size],_,Itk d o kvs,_,rfl,I2.kept (t':=s1.toks) fun b o e=>Heap.get?_push_of_some _ e,turn_keys he,⟨_,Heap.get?_push_size _ rfl,rfl,by rw [Paired.length rel];rfl⟩,fun b hb=>?_,q o⟩
 have e:b=s1.heap.objs.size:=by simpa using hb
 subst e
 exact I2.fpOk (Nat.le_refl _) (I2.hok.fresh (Nat.le_refl _))
end
end L2
namespace L2
open PySem PySem.Spec PyProof.Rows
theorem best_is (val:Nat→Int):∀ n,argBest (fun i j=>decide (val i > val j)) n≤n∧∀ i,i≤n→val i≤val (argBest (fun i j=>decide (val i > val j)) n)
 | 0=>by
  unfold argBest
  exact ⟨Nat.le_refl _,fun i hi=>by rw [Nat.le_zero.mp hi];exact Int.le_refl _⟩
 | n+1=>by
  obtain ⟨h1,h2⟩:=best_is val n
  unfold argBest
  split
  ·rename_i h
   have h:val (n+1) > val (argBest (fun i j=>decide (val i > val j)) n):=of_decide_eq_true h
   refine ⟨Nat.le_refl _,fun i hi=>?_⟩
   by_cases e:i=n+1
   ·rw [e];exact Int.le_refl _
   ·have:=h2 i (by omega);omega
  ·rename_i h
   have h:¬ val (n+1) > val (argBest (fun i j=>decide (val i > val j)) n):=fun g=>h (decide_eq_true g)
   refine ⟨by omega,fun i hi=>?_⟩
   by_cases e:i=n+1
   ·rw [e];omega
   ·exact h2 i (by omega)
section
variable {X:Cx}
inductive call_max_ints_r (K:PySem.W.Frag)(xs:List V)(H:Hp)(Q:VK):Prop
 | mk:∀ (l:Addr) (ns:List Int),(xs=[.ref l])→(SqL K H l (ns.map V.int))→(ns≠[])→(∀ m,m∈ns→(∀ n∈ns,n≤m)→Q (.int m) H)→call_max_ints_r K xs H Q
theorem zf8 {K:PySem.W.Frag}(hK:X.K=K)(hc:X.calm=true):CallR X (.builtin "max") (call_max_ints_r K):=by
 subst hK
 intro pins s σ H xs us Q I r h
 obtain ⟨l,ns,rfl,hq,hne,q⟩:=h
 obtain ⟨u,rfl,ru⟩:=zcc r
 cases ru
 obtain ⟨its,rv,pl,_⟩:=I.list hq
 have hlen:its.length=ns.length:=by rw [← rv.length,List.length_map]
 have hnz:0 < ns.length:=List.length_pos_iff.mpr hne
 have hat:∀ (i:Nat) (v:Value),its.toArray[i]? = some v→∃ t,v = .int (ns.getD i 0) t:=fun i v e=>by
  rw [List.getElem?_toArray] at e
  have hi:i < ns.length:=by
   have:=(List.getElem?_eq_some_iff.mp e).1
   omega
  obtain ⟨u,eu,t,rfl⟩:=rv.get (i:=i) (x:=.int ns[i]) (by rw [List.getElem?_map,List.getElem?_eq_getElem hi];rfl)
  rw [e] at eu
  cases eu
  exact ⟨t,by rw [List.getD_eq_getElem?_getD,List.getElem?_eq_getElem hi];rfl⟩
 have hl:=pl.isList
 have hlt:l < s.heap.objs.size:=by obtain ⟨_,e,_⟩:=hl;exact Heap.lt_size e
 refine call_max_walk (wpAny_pyIter_list hl ?_)
 refine ⟨_,_,_,_,_,_,fun a b=>decide (ns.getD a 0 > ns.getD b 0),rfl,Walks.list (A:=X.A.in1) (I.ok.hd hc) _ l (Nat.ne_of_lt hlt) _,⟨⟨_,Heap.get?_push_size _ rfl,rfl,rfl⟩,hl.push _⟩,fun b hb=>?_,?_,CmpOf.ints_gt (fun i=>ns.getD i 0) hat,fun v h' tk hP hk=>?_⟩
 ·show b < (s.heap.push _).objs.size
  rw [Heap.size_push]
  rcases List.mem_cons.mp hb with e | hb
  ·rw [e];exact Nat.lt_succ_self _
  ·rw [List.mem_singleton.mp hb];exact Nat.lt_succ_of_lt hlt
 ·rw [List.size_toArray];omega
 ·have old:∀ b o,s.heap.get? b=some o→h'.get? b=some o:=fun b o e=>hk b o (fun z=>by rw [List.mem_singleton.mp z] at e;exact absurd (Heap.lt_size e) (Nat.lt_irrefl _)) (Heap.get?_push_of_some _ e)
  obtain ⟨t,rfl⟩:=hat _ v hP
  have sz:its.toArray.size - 1=ns.length - 1:=by rw [List.size_toArray,hlen]
  rw [sz]
  obtain ⟨b1,b2⟩:=best_is (fun i=>ns.getD i 0) (ns.length - 1)
  have at_:∀ i,i < ns.length→ns.getD i 0∈ns:=fun i hi=>by
   rw [List.getD_eq_getElem?_getD,List.getElem?_eq_getElem hi]
   exact List.getElem_mem hi
  refine ⟨.int _,H,I.kept old,⟨t,rfl⟩,q _ (at_ _ (by omega)) fun n hn=>?_⟩
  obtain ⟨i,hi,rfl⟩:=List.mem_iff_getElem.mp hn
  have:=b2 i (by omega)
  rw [show ns.getD i 0=ns[i] by rw [List.getD_eq_getElem?_getD,List.getElem?_eq_getElem hi];rfl] at this
  exact this
end
end L2
namespace Kx
open PySem PySem.Spec PyProof.Rows L2 Wd
end Kx
namespace Kx
open PySem PySem.Spec PyProof.Rows L2 Wd
noncomputable def top (i:Nat):Stmt:=PySem.Challenge.pw_ringwords_k18_refused_where_thick.main.body.getD i (.Pass ⟨0,0,0,0⟩)
theorem len1 {α:Type}{us:List α}(h:us.length=1):∃ a0,us=[a0]:=by
 cases us with
 | nil=>cases h
 | cons a0 us =>
  cases us with
  | nil=>exact ⟨a0,rfl⟩
  | cons b us=>cases h
theorem len2 {α:Type}{us:List α}(h:us.length=2):∃ a0 a1,us=[a0,a1]:=by
 cases us with
 | nil=>cases h
 | cons a0 us =>
  cases us with
  | nil=>cases h
  | cons a1 us =>
   cases us with
   | nil=>exact ⟨a0,a1,rfl⟩
   | cons b us=>cases h
theorem len3 {α:Type}{us:List α}(h:us.length=3):∃ a0 a1 a2,us=[a0,a1,a2]:=by
 cases us with
 | nil=>cases h
 | cons a0 us =>
  cases us with
  | nil=>cases h
  | cons a1 us =>
   cases us with
   | nil=>cases h
   | cons a2 us =>
    cases us with
    | nil=>exact ⟨a0,a1,a2,rfl⟩
    | cons b us=>cases h
theorem len4 {α:Type}{us:List α}(h:us.length=4):∃ a0 a1 a2 a3,us=[a0,a1,a2,a3]:=by
 cases us with
 | nil=>cases h
 | cons a0 us =>
  cases us with
  | nil=>cases h
  | cons a1 us =>
   cases us with
   | nil=>cases h
   | cons a2 us =>
    cases us with
    | nil=>cases h
    | cons a3 us =>
     cases us with
     | nil=>exact ⟨a0,a1,a2,a3,rfl⟩
     | cons b us=>cases h
end Kx
namespace Kx
open PySem PySem.Spec PyProof.Rows L2 Wd
section
variable {P:Program} {w:World} {K:PySem.W.Frag} {mg:Str→Option Value} {base:Heap} {aB:Addr}
noncomputable abbrev s_draw:Stmt:=top 33
theorem sc_draw:FnScope ["_law_feed_here","_law_many","_law_cell","_law_mixed","_law_found"] ["_law_feed_here","_law_many"] (defScope s_draw):=⟨rfl,rfl,rfl,by decide +kernel,rfl,by decide +kernel,by decide +kernel⟩
theorem c_draw (D:Df K mg "_law_draw" s_draw)(T:Bt K w mg aB):Fnc P w K mg base "_law_draw" ["_law_feed_here","_law_many"] 1 spDraw:=by
 have sc:=sc_draw
 refine D.ok sc (fun _ _ _ _ _ _ us hl=>by obtain ⟨_,_,rfl⟩:=len2 hl;rfl) (fun vs H Q E h=>?_) (fun f cdv A outer s H vs Q E hr h=>?_)
 ·obtain ⟨d,m,rfl,_⟩:=h
  rfl
 ·obtain ⟨d,m,rfl,F,m0,m1,k⟩:=h
  have hu:=hu_of hr
  refine ⟨_,(@zae _ _ _ _ _ (@zed _ _ _ _ _ _ _ _ _ hu (pv 0) zar (@zao _ _ _ _ _ _ _ _ za0 (@zby _ _ _ _ _ _ hu (pv 0) zar (fun _ _=>rfl)) zaf) rfl) (@zae _ _ _ _ _ (@zbl _ _ _ _ _ _ _ _ (@zat _ _ _ _ _ _ _ _ zcr (@zby _ _ _ _ _ _ hu (pv 0) zar (fun _ _=>rfl)) zaf (zay _)) (@zae _ _ _ _ _ (@zap _ _ (2) _ _ _ _ sc.nd rfl (Or.inl rfl) (@zbb _ _ _ _ _ _ _ zb5 (@zby _ _ _ _ _ _ hu (pv 0) zar (fun _ _=>rfl)) (@zao _ _ _ _ _ _ _ _ ze1 (@zby _ _ _ _ _ _ hu (pv 0) zar (fun _ _=>rfl)) (@zan _ _ _ _ _ _ _ _ _ zbt (by rfl) T.len PySem.boot_len (@zaa _ _ _ _ _ (@zby _ _ _ _ _ _ hu (pv 0) zar (fun _ _=>rfl)) zad (by rfl)) (by decide) (by decide) (by rfl) (by rfl))) (fun _ _=>rfl)) (by rfl) (by first | exact .inl rfl | exact .inr rfl | assumption)) (@zae _ _ _ _ _ (@zed _ _ _ _ _ _ _ _ _ hu (pv 0) zar (@zao _ _ _ _ _ _ _ _ za0 (@zby _ _ _ _ _ _ hu (pv 0) zar (fun _ _=>rfl)) zaf) rfl) (@zae _ _ _ _ _ (@zbl _ _ _ _ _ _ _ _ (@zat _ _ _ _ _ _ _ _ zga (pv 2) (@zao _ _ _ _ _ _ _ _ op_pow zaf zaf) (zay _)) (@zae _ _ _ _ _ (@zap _ _ (3) _ _ _ _ sc.nd rfl (Or.inl rfl) (@zao _ _ _ _ _ _ _ _ ze1 (@zao _ _ _ _ _ _ _ _ zd4 (@zao _ _ _ _ _ _ _ _ za0 (@zao _ _ _ _ _ _ _ _ ze1 (pv 2) zaf) (@zao _ _ _ _ _ _ _ _ zd4 zaf (@zby _ _ _ _ _ _ hu (pv 0) zar (fun _ _=>rfl)))) zaf) zaf) (by rfl) (by first | exact .inl rfl | exact .inr rfl | assumption)) (@zae _ _ _ _ _ (@zap _ _ (3) _ _ _ _ sc.nd rfl (Or.inl rfl) (@zao _ _ _ _ _ _ _ _ ze1 (@zao _ _ _ _ _ _ _ _ zd4 (@zao _ _ _ _ _ _ _ _ za0 (@zao _ _ _ _ _ _ _ _ zd5 (pv 3) zaf) (@zao _ _ _ _ _ _ _ _ zd4 zaf (@zby _ _ _ _ _ _ hu (pv 0) zar (fun _ _=>rfl)))) zaf) zaf) (by rfl) (by first | exact .inl rfl | exact .inr rfl | assumption)) (@zag _ _ _ (@zax _ _ _ _ (@zao _ _ _ _ _ _ _ _ ze1 (@zao _ _ _ _ _ _ _ _ zd5 (pv 3) zaf) (pv 1)))))) za3) (@zag _ _ _ (@zed _ _ _ _ _ _ _ _ _ hu (pv 0) zar (pv 2) rfl))))) za3) (@zae _ _ _ _ _ (@zap _ _ (4) _ _ _ _ sc.nd rfl (Or.inl rfl) (@zao _ _ _ _ _ _ _ _ ze1 (@zby _ _ _ _ _ _ hu (pv 0) zar (fun _ _=>rfl)) (pv 1)) (by rfl) (by first | exact .inl rfl | exact .inr rfl | assumption)) (@zae _ _ _ _ _ (@zed _ _ _ _ _ _ _ _ _ hu (pv 0) zar (@zao _ _ _ _ _ _ _ _ zd5 (@zby _ _ _ _ _ _ hu (pv 0) zar (fun _ _=>rfl)) (pv 1)) rfl) (@zag _ _ _ (@zax _ _ _ _ (pv 4))))))),?_⟩
  obtain ⟨c,i,l,t,ns,hd,hc,hne,h64⟩:=F.ex
  have dc:c≠d:=zjg hc hd (by intro z;cases z)
  have fin:∀ (r i' l' t':Int),0≤r→r < m→Q (.int r) (upd H d (.dK (fkv c i' l' t'))):=fun r i' l' t' h0 h1 =>
   k r _ h0 h1 ⟨c,i',l',t',ns,zac,by rw [zai dc];exact hc,hne,h64⟩ SameB.upd
  have c1:∀ o,(upd H d o) c=some (.lst (ns.map V.int)):=fun o=>by rw [zai dc];exact hc
  have hl0:(0:Int) < ((ns.map V.int).length:Int):=by
   rw [List.length_map]
   have:=List.length_pos_iff.mpr hne
   omega
  refine ⟨_,rfl,d,_,rfl,dg hd (g_turn c i l t),_,_,rfl,rfl,_,rfl,d,_,rfl,dp hd (zek c i l t) (p_turn c i l t _),?_⟩
  refine ⟨_,rfl,d,_,rfl,dg zac (zgt c i l _),rfl,_,rfl,?_⟩
  refine ite2 (fun _=>?_) (fun _=>?_)
  rotate_left
  ·refine ⟨_,rfl,d,_,rfl,dg zac (zgt c _ _ _),_,rfl,_,_,rfl,rfl,m0,?_⟩
   refine ⟨_,rfl,d,_,rfl,dg zac (zgt c _ _ _),_,rfl,_,_,rfl,rfl,⟨m0,by omega⟩,_,rfl,d,_,rfl,dp zac (zek c _ _ _) (p_left c _ _ _ _),?_⟩
   refine ⟨_,rfl,?_⟩
   rw [zcx]
   exact fin _ _ _ _ (Int.emod_nonneg _ (by omega)) (Int.emod_lt_of_pos _ m0)
  obtain ⟨n,hn⟩:=cell_at hne i
  refine ⟨_,rfl,d,_,rfl,dg zac (g_cells c i l _),_,rfl,d,_,rfl,dg zac (g_at c i l _),_,rfl,d,_,rfl,dg zac (g_cells c i l _),c,_,rfl,.inl (SqL.of (c1 _)),_,_,rfl,rfl,hl0,c,_,_,_,rfl,rfl,SqL.of (c1 _),hn,?_⟩
  refine ⟨_,rfl,d,_,rfl,dg zac (g_at c i l _),_,_,rfl,rfl,_,rfl,d,_,rfl,dp zac (zek c i l _) (p_at c i l _ _),?_⟩
  rw [zcx]
  refine ⟨_,rfl,_,_,rfl,rfl,⟨by decide,by decide,by decide⟩,_,_,rfl,rfl,_,rfl,?_⟩
  refine ite2 (fun _=>?_) (fun _=>?_)
  ·refine ⟨_,rfl,_,_,rfl,rfl,(by show (0:Int) < 2147483629;decide),_,rfl,d,_,rfl,dg zac (g_turn c _ l _),_,_,rfl,rfl,.inl ⟨by decide,by decide⟩,_,_,rfl,rfl,_,_,rfl,rfl,.inr ⟨by decide,by decide⟩,_,_,rfl,rfl,(by show (0:Int) < 2147483647;decide),?_⟩
   refine ⟨_,rfl,_,_,rfl,rfl,⟨by decide,by decide⟩,_,rfl,d,_,rfl,dg zac (g_turn c _ l _),_,_,rfl,rfl,.inl ⟨by decide,by decide⟩,_,_,rfl,rfl,_,_,rfl,rfl,.inr ⟨by decide,by decide⟩,_,_,rfl,rfl,(by show (0:Int) < 2147483587;decide),?_⟩
   refine ⟨_,rfl,_,_,rfl,rfl,⟨by decide,by decide⟩,_,rfl,_,_,rfl,rfl,m0,?_⟩
   exact fin _ _ _ _ (Int.emod_nonneg _ (by omega)) (Int.emod_lt_of_pos _ m0)
  ·refine ⟨_,rfl,_,rfl,d,_,rfl,dp zac (zek c _ l _) (p_left c _ l _ _),?_⟩
   rw [zcx]
   refine ⟨_,rfl,d,_,rfl,dg zac (zgt c _ _ _),_,rfl,_,_,rfl,rfl,m0,?_⟩
   refine ⟨_,rfl,d,_,rfl,dg zac (zgt c _ _ _),_,rfl,_,_,rfl,rfl,⟨m0,by omega⟩,_,rfl,d,_,rfl,dp zac (zek c _ _ _) (p_left c _ _ _ _),?_⟩
   refine ⟨_,rfl,?_⟩
   rw [zcx]
   exact fin _ _ _ _ (Int.emod_nonneg _ (by omega)) (Int.emod_lt_of_pos _ m0)
end
section
variable {P:Program} {w:World} {K:PySem.W.Frag} {mg:Str→Option Value} {base:Heap} {aB:Addr}
noncomputable abbrev s_feed:Stmt:=top 32
theorem sc_feed:FnScope ["_law_script"] ["_law_script"] (defScope s_feed):=⟨rfl,rfl,rfl,by decide +kernel,rfl,by decide +kernel,by decide +kernel⟩
theorem c_feed (D:Df K mg "_law_feed" s_feed)(T:Bt K w mg aB):Fnc P w K mg base "_law_feed" ["_law_script"] 1 (spFeed K):=by
 have sc:=sc_feed
 refine D.ok sc (fun _ _ _ _ _ _ us hl=>by obtain ⟨_,rfl⟩:=len1 hl;rfl) (fun vs H Q E h=>?_) (fun f cdv A outer s H vs Q E hr h=>?_)
 ·obtain ⟨a,ns,rfl,_⟩:=h
  rfl
 ·obtain ⟨a,ns,rfl,hS,hlen,k⟩:=h
  have hu:=hu_of hr
  refine ⟨_,(@zag _ _ _ (@zax _ _ _ _ (@pe_disp _ _ _ _ _ (@zdw _ _ _ _ _ _ _ _ _ zar (@zao _ _ _ _ _ _ _ _ zjy (@zbj _ _ _ _ _ _ _ _ _ zgi (by rfl) T.list b_list (@zaa _ _ _ _ _ (@zaq _ _ _ _ _ _ _ _ _ _ sl_list (pv 0) zav (@zas _ _ _ zaf)) zad (by rfl)) (by decide) (by decide) (by rfl) (by rfl)) (@zao _ _ _ _ _ _ _ _ op_rep (@zct _ _ _ _ (@zaa _ _ _ _ _ zaf zad (by rfl))) (@zbj _ _ _ _ _ _ _ _ _ zjt (by rfl) T.int b_int (@zaa _ _ _ _ _ (@zd6 _ _ _ _ _ _ _ _ zcr (@zan _ _ _ _ _ _ _ _ _ zbt (by rfl) T.len PySem.boot_len (@zaa _ _ _ _ _ (pv 0) zad (by rfl)) (by decide) (by decide) (by rfl) (by rfl)) zaf (zay _)) zad (by rfl)) (by decide) (by decide) (by rfl) (by rfl)))) (@zdw _ _ _ _ _ _ _ _ _ zar zaf (@zdw _ _ _ _ _ _ _ _ _ zar zaf (@zdw _ _ _ _ _ _ _ _ _ zar zaf pps_nil)))) rfl rfl (by simp) (by decide)))),?_⟩
  intro p hp
  have s1:Same H (upd H p (.dK [])):=Same.new hp
  have p1:(upd H p (.dK [])) p=some (.dK []):=zac
  generalize upd H p (.dK [])=H1 at s1 p1
  refine ⟨_,rfl,_,rfl,a,_,rfl,s1.seq hS,fun q1 hq1=>?_⟩
  rw [cut63 hlen]
  have s2:Same H1 (upd H1 q1 (.lst (ns.map V.int))):=Same.new hq1
  have l2:(upd H1 q1 (.lst (ns.map V.int))) q1=some (.lst (ns.map V.int)):=zac
  generalize upd H1 q1 (.lst (ns.map V.int))=H2 at s2 l2 ⊢
  refine ⟨q1,_,rfl,.inl (SqL.of l2),fun q2 hq2=>?_⟩
  have s3:Same H2 (upd H2 q2 (.lst (ns.map V.int))):=Same.new hq2
  have l3:(upd H2 q2 (.lst (ns.map V.int))) q2=some (.lst (ns.map V.int)):=zac
  generalize upd H2 q2 (.lst (ns.map V.int))=H3 at s3 l3 ⊢
  refine ⟨(by show 1≤sizeLine;decide),fun q4 hq4=>?_⟩
  have s4:Same H3 (upd H3 q4 (.lst [V.int 0])):=Same.new hq4
  have l4:(upd H3 q4 (.lst [V.int 0])) q4=some (.lst [V.int 0]):=zac
  generalize upd H3 q4 (.lst [V.int 0])=H4 at s4 l4 ⊢
  have s14:Same H H4:=((s1.trans s2).trans s3).trans s4
  refine ⟨_,rfl,a,_,rfl,.inl (s14.seq hS),rfl,.inr ⟨_,rfl,q4,_,_,rfl,rfl,l4,?_,?_,?_,fun q5 hq5=>?_⟩⟩
  ·split <;> decide
  ·split <;> decide
  ·split <;> decide
  have s5:Same H4 (upd H4 q5 (.lst (List.replicate ((if decide (V.int ((ns.map V.int).length:Int)=V.int 0)=true then 1 else 0:Int)).toNat [V.int 0]).flatten)):=Same.new hq5
  have l5:(upd H4 q5 (.lst (List.replicate ((if decide (V.int ((ns.map V.int).length:Int)=V.int 0)=true then 1 else 0:Int)).toNat [V.int 0]).flatten)) q5=_:=zac
  generalize upd H4 q5 (.lst (List.replicate ((if decide (V.int ((ns.map V.int).length:Int)=V.int 0)=true then 1 else 0:Int)).toNat [V.int 0]).flatten)=H5 at s5 l5 ⊢
  refine ⟨q2,q5,_,_,rfl,rfl,s5 _ _ (s4 _ _ l3),l5,?_,fun q6 hq6=>?_⟩
  ·have e:(List.replicate ((if decide (V.int ((ns.map V.int).length:Int)=V.int 0)=true then 1 else 0:Int)).toNat [V.int 0]).flatten.length≤1:=by split <;> decide
   have e2:sizeLine=16777216:=sizeLine_eq
   have e3:(ns.map V.int).length=ns.length:=List.length_map ..
   omega
  have el:ns.map V.int++(List.replicate ((if decide (V.int ((ns.map V.int).length:Int)=V.int 0)=true then 1 else 0:Int)).toNat [V.int 0]).flatten=(if ns=[] then [0] else ns).map V.int:=by
   cases ns with
   | nil=>rfl
   | cons n r =>
    have en:¬ (decide (V.int (((n::r).map V.int).length:Int)=V.int 0)=true):=by
     rw [List.length_map,List.length_cons]
     simp only [V.int.injEq,decide_eq_true_eq]
     omega
    rw [if_neg en,if_neg (by simp)]
    simp
  rw [el]
  have s6:Same H5 (upd H5 q6 (.lst ((if ns=[] then [0] else ns).map V.int))):=Same.new hq6
  have l6:(upd H5 q6 (.lst ((if ns=[] then [0] else ns).map V.int))) q6=_:=zac
  generalize upd H5 q6 (.lst ((if ns=[] then [0] else ns).map V.int))=H6 at s6 l6 ⊢
  have p6:H6 p=some (.dK []):=s6 _ _ (s5 _ _ (s4 _ _ (s3 _ _ (s2 _ _ p1))))
  have pq:q6≠p:=zjg l6 p6 (by intro z;cases z)
  refine ⟨p6,fkv q6 0 0 0,rfl,(by show 4≤15;decide),?_⟩
  rw [m_fkv]
  refine k p _ hp ⟨q6,0,0,0,(if ns=[] then [0] else ns),zac,by rw [zai pq];exact l6,?_,?_⟩ fun b o e=>?_
  ·split
   ·simp
   ·assumption
  ·split
   ·decide
   ·omega
  ·rw [zai (zah e hp)]
   exact s6 _ _ (s5 _ _ (s14 _ _ e))
end
end Kx
namespace Kx
open PySem PySem.Spec PyProof.Rows L2 Wd
section
variable {P:Program} {w:World} {K:PySem.W.Frag} {mg:Str→Option Value} {base:Heap} {aB:Addr}
noncomputable abbrev s_back:Stmt:=top 13
theorem sc_back:FnScope ["word"] ["word"] (defScope s_back):=⟨rfl,rfl,rfl,by decide +kernel,rfl,by decide +kernel,by decide +kernel⟩
theorem c_back (D:Df K mg "back" s_back)(T:Bt K w mg aB):Fnc P w K mg base "back" ["word"] 1 spBk:=by
 have sc:=sc_back
 refine D.ok sc (fun _ _ _ _ _ _ us hl=>by obtain ⟨_,rfl⟩:=len1 hl;rfl) (fun vs H Q E h=>?_) (fun f cdv A outer s H vs Q E hr h=>?_)
 ·obtain ⟨u,rfl,_⟩:=h
  rfl
 ·obtain ⟨u,rfl,hu,k⟩:=h
  have l16:=za9
  refine ⟨_,(@zag _ _ _ (@zax _ _ _ _ (@zfl _ _ _ _ _ _ _ _ _ _ _ _ PySem.F.plainAttrs_str PySem.F.slot_str_join PySem.F.type_str_join mt_join zar (@zaa _ _ _ _ _ (@zeh _ _ _ _ _ _ _ (["letter"]) (["letter"]) ([]) _ _ _ _ (@zef _ _ _ _ _ _ rfl (by kernel_rfl)) rfl (@pi_strR _ _ _ _ _ _ rfl T.reversed zi1 (@zaa _ _ _ _ _ (pv 0) zad (by rfl)) (by rfl)) (fun _ _ _ _=>@za4 _ _ (0) _ (show (["letter"]:List Str).Nodup from by decide +kernel) rfl (Or.inl rfl) (by first | exact .inl rfl | exact .inr rfl | assumption)) (fun _ _ _ _=>zcm) (fun _ _ _ _=>by (exact (@pe_kget _ _ _ _ _ _ _ _ _ T.dB rfl rfl rfl T.mgB (pv 0) (fun _ _=>rfl) (by decide)))) (by intro _ ;rfl)) zad (by rfl)) (by rfl) (by rfl) (by rfl) (by rfl) (by rfl)))),?_⟩
  refine ⟨rfl,_,rfl,_,rfl,(by rw [zab];omega),?_⟩
  refine zc0 (own:=["letter"]) (cap:=[]) (J:=Itsr (toS u)) u.length (fun i ys σ H'=>H'=H∧ys=ones ((bk u).take i)∧∃ v,σ = [v]) ⟨rfl,rfl,none,rfl⟩ (fun i ys σ H' hi ⟨_,e,_⟩=>?_) (by omega) (fun i ys σ H' hi _=>?_) (fun ys σ H' _=>?_) ?_ ?_
  ·rw [e,zel,List.length_take];omega
  ·show i < (toS u).cps.size;rw [zc9];exact hi
  ·show _=(toS u).cps.size;rw [zc9]
  ·rintro i ys σ H1 x H2 N hi ⟨rfl,rfl,v,rfl⟩ ⟨rfl,c,hc,rfl⟩ hN
   rw [zc9] at hc
   obtain ⟨y,hy,e⟩:=sign_at hc
   obtain ⟨t,ht⟩:=T.gB y
   refine ⟨_,rfl,toS [y],toS [inv y],t,by rw [e],ht,hN _ _ _ ⟨rfl,?_,_,rfl⟩⟩
   rw [zgy (bk_get u hi hy),← zgu]
   rfl
  ·rintro ys σ H1 l ⟨rfl,rfl,v,rfl⟩ hl
   rw [List.take_of_length_le (by rw [zej];exact Nat.le_refl _)]
   refine ⟨_,l,(bk u).map fun x=>toS [x],rfl,rfl,SqL.of (by rw [zac,zh5]),zgw _ (by rw [zej];omega),?_⟩
   rw [zgv]
   exact k _ (Same.new hl)
end
end Kx
namespace Kx
open PySem PySem.Spec PyProof.Rows L2 Wd
inductive Core:List L→List L→List L × List L→Prop where
 | stop (f m:List L):(∀ x mid,m≠x::(mid++[inv x]))→Core f m (f,m)
 | step (f:List L) (x:L) (mid:List L) (r:List L × List L):Core (f++[x]) mid r→Core f (x::(mid++[inv x])) r
theorem zcq {x:L}{mid:List L}:(x::(mid++[inv x]):List L).length=mid.length+2:=by simp
theorem cut_ends2 (x z:L)(mid:List L):cutL (x::(mid++[z])) (some 1) (some (((x::(mid++[z]):List L).length:Int) - 1))=mid:=by
 unfold cutL
 have e1:HT.sIx (x::(mid++[z])).length 0 (some 1)=1:=by
  have q:=HT.sIx_nat (x::(mid++[z])).length 0 1
  rw [show ((1:Nat):Int)=1 from rfl] at q
  rw [q]
  simp
 have e2:HT.sIx (x::(mid++[z])).length (x::(mid++[z])).length (some (((x::(mid++[z]):List L).length:Int) - 1))=mid.length+1:=by
  have:(((x::(mid++[z]):List L).length:Int) - 1)=((mid.length+1:Nat):Int):=by
   have:(x::(mid++[z]):List L).length=mid.length+2:=by simp
   omega
  rw [this,HT.sIx_nat]
  simp
 rw [e1,e2]
 simp
theorem zhx (w:List L):(rots w).length=max 1 w.length:=by simp [rots]
noncomputable def txs (ws:List (List L)):List V:=ws.map tx
noncomputable def spTurns:Sp:=fun vs H Q _=>∃ w,vs=[tx w]∧w.length≤200∧∀ (l:Addr) (H':Hp),H l=none→H' l=some (.lst (txs (rots w)))→Same H H'→Q (.ref l) H'
section
variable {P:Program} {w:World} {K:PySem.W.Frag} {mg:Str→Option Value} {base:Heap} {aB:Addr}
noncomputable abbrev s_turns:Stmt:=top 15
theorem sc_turns:FnScope ["word"] ["word"] (defScope s_turns):=⟨rfl,rfl,rfl,by decide +kernel,rfl,by decide +kernel,by decide +kernel⟩
theorem c_turns (D:Df K mg "turns" s_turns)(T:Bt K w mg aB):Fnc P w K mg base "turns" ["word"] 1 spTurns:=by
 have sc:=sc_turns
 refine D.ok sc (fun _ _ _ _ _ _ us hl=>by obtain ⟨_,rfl⟩:=len1 hl;rfl) (fun vs H Q E h=>?_) (fun f cdv A outer s H vs Q E hr h=>?_)
 ·obtain ⟨u,rfl,_⟩:=h
  rfl
 ·obtain ⟨u,rfl,hu,k⟩:=h
  have l16:=za9
  refine ⟨_,(@zae _ _ _ _ _ (@zbl _ _ _ _ _ _ _ _ (@zat _ _ _ _ _ _ _ _ zcr (pv 0) zar (zay _)) (@zag _ _ _ (@zax _ _ _ _ (@zct _ _ _ _ (@zaa _ _ _ _ _ zar zad (by rfl))))) za3) (@zag _ _ _ (@zax _ _ _ _ (@zeh _ _ _ _ _ _ _ (["place","word"]) (["place"]) ([0]) _ _ _ _ (@zef _ _ _ _ _ _ rfl (by kernel_rfl)) rfl (@zcd _ _ _ _ _ _ rfl T.range (@zaa _ _ _ _ _ (@zan _ _ _ _ _ _ _ _ _ zam (by rfl) T.len PySem.boot_len (@zaa _ _ _ _ _ (pv 0) zad (by rfl)) (by decide) (by decide) (by rfl) (by rfl)) zad (by rfl)) (by rfl)) (fun _ _ _ _=>@za4 _ _ (0) _ (show (["place","word"]:List Str).Nodup from by decide +kernel) rfl (Or.inl rfl) (by first | exact .inl rfl | exact .inr rfl | assumption)) (fun _ _ _ _=>zcm) (fun _ _ _ _=>by (exact @zao _ _ _ _ _ _ _ _ zaz (by (exact (@zaq _ _ _ _ _ _ _ _ _ _ za5 (pv 1) (@zas _ _ _ (pv 0)) zav))) (by (exact (@zaq _ _ _ _ _ _ _ _ _ _ za5 (pv 1) zav (@zas _ _ _ (pv 0))))))) (by intro _ ;rfl))))),?_⟩
  by_cases h0:u=[]
  ·subst h0
   refine ⟨_,rfl,rfl,_,rfl,iteC (by rw [tx_nil];simp) ?_⟩
   refine ⟨(by show 1≤sizeLine;decide),fun l hl=>k l _ hl ?_ (Same.new hl)⟩
   rw [zac,← tx_nil]
   rfl
  ·have ne:¬ tx u=V.str ("":Str):=by
    rw [← tx_nil]
    exact fun e=>h0 (zgq e)
   have hu1:1≤u.length:=List.length_pos_iff.mpr h0
   refine ⟨_,rfl,rfl,_,rfl,iteD (by simpa using ne) ?_⟩
   refine ⟨_,rfl,_,rfl,(by rw [zab];omega),_,rfl,(by rw [zab];omega),(by rw [zab];omega),?_⟩
   rw [zab]
   refine zc0 (own:=["place"]) (cap:=[0]) (J:=Itr 0 ((u.length:Int)).toNat) u.length (fun i ys σ H'=>∃ v:Option V,σ = [v,some (tx u)]∧ys=txs ((rots u).take i)∧H'=H) ⟨none,rfl,rfl,rfl⟩
    (fun i ys σ H' hi ⟨v,_,e,_⟩=>?_) (by omega) (fun i ys σ H' hi _=>?_) (fun ys σ H' _=>?_) ?_ ?_
   ·rw [e];unfold txs;rw [List.length_map,List.length_take];omega
   ·show i < _;omega
   ·show _≤_;omega
   ·rintro i ys σ H1 x H2 N hi ⟨v,rfl,rfl,rfl⟩ ⟨rfl,rfl⟩ hN
    refine ⟨_,rfl,_,rfl,_,rfl,_,rfl,(by rw [zab];omega),_,rfl,_,rfl,_,rfl,_,rfl,(by rw [zab];omega),_,_,rfl,rfl,?_,hN _ _ _ ⟨_,rfl,?_,rfl⟩⟩
    ·rw [zaj,zaj,zab,zab]
     have h1:=zb1 u (some (0+(i:Int))) none
     have h2:=zb1 u none (some (0+(i:Int)))
     omega
    ·rw [zaj,zaj,zbf u (by omega),zbe u (by omega),zbv]
     have e1:((0:Int)+(i:Int)).toNat=i:=by omega
     have e2:(rots u)[i]? = some (u.drop i++u.take i):=by
      unfold rots
      rw [List.getElem?_map,List.getElem?_range (by omega)]
      rfl
     rw [e1]
     unfold txs
     rw [List.take_add_one,e2,List.map_append]
     rfl
   ·rintro ys σ H1 l ⟨v,rfl,rfl,rfl⟩ hl
    rw [List.take_of_length_le (by rw [zhx];omega)]
    exact k l _ hl zac (Same.new hl)
end
section
variable {P:Program} {w:World} {K:PySem.W.Frag} {mg:Str→Option Value} {base:Heap} {aB:Addr}
noncomputable abbrev s_tof:Stmt:=top 17
theorem sc_tof:FnScope ["rings","found","ring"] ["rings"] (defScope s_tof):=⟨rfl,rfl,rfl,by decide +kernel,rfl,by decide +kernel,by decide +kernel⟩
theorem c_tof (D:Df K mg "turns_of" s_tof)(T:Bt K w mg aB)(Tset:mg "set" = none)(F_back:Fnc P w K mg base "back" ["word"] 1 spBk)(F_turns:Fnc P w K mg base "turns" ["word"] 1 spTurns):Fnc P w K mg base "turns_of" ["rings"] 2 spTurnsOf:=by
 have sc:=sc_tof
 refine D.ok sc (fun _ _ _ _ _ _ us hl=>by obtain ⟨_,rfl⟩:=len1 hl;rfl) (fun vs H Q E h=>?_) (fun f cdv A outer s H vs Q E hr h=>?_)
 ·obtain ⟨a,R,rfl,_⟩:=h
  rfl
 ·obtain ⟨a,R,rfl,ha,hR,k⟩:=h
  have l16:=za9
  refine ⟨_,(@zae _ _ _ _ _ (@zap _ _ (1) _ _ _ _ sc.nd rfl (Or.inl rfl) (@zct _ _ _ _ zad) (by rfl) (by first | exact .inl rfl | exact .inr rfl | assumption)) (@zae _ _ _ _ _ (@zb0 _ _ _ _ _ _ _ _ PassesOwn.never rfl (@zjk _ _ _ _ (pv 0)) (@za4 _ _ (2) _ sc.nd rfl (Or.inl rfl) (by first | exact .inl rfl | exact .inr rfl | assumption)) (@zae _ _ _ _ _ (@zdf _ _ _ _ (@zfl _ _ _ _ _ _ _ _ _ _ _ _ PySem.F.plainAttrs_list PySem.F.slot_list_extend PySem.F.type_list_extend zgk (pv 1) (@zaa _ _ _ _ _ (@zaw _ _ _ _ _ _ _ _ _ _ _ F_turns hr (by decide) rfl (@zaa _ _ _ _ _ (pv 2) zad (by rfl)) (by decide) (by rfl) (by rfl)) zad (by rfl)) (by rfl) (by rfl) (by rfl) (by rfl) (by rfl)) (by rfl)) (@zag _ _ _ (@zdf _ _ _ _ (@zfl _ _ _ _ _ _ _ _ _ _ _ _ PySem.F.plainAttrs_list PySem.F.slot_list_extend PySem.F.type_list_extend zgk (pv 1) (@zaa _ _ _ _ _ (@zaw _ _ _ _ _ _ _ _ _ _ _ F_turns hr (by decide) rfl (@zaa _ _ _ _ _ (@zaw _ _ _ _ _ _ _ _ _ _ _ F_back hr (by decide) rfl (@zaa _ _ _ _ _ (pv 2) zad (by rfl)) (by decide) (by rfl) (by rfl)) zad (by rfl)) (by decide) (by rfl) (by rfl)) zad (by rfl)) (by rfl) (by rfl) (by rfl) (by rfl) (by rfl)) (by rfl)))) (by intro _ ;rfl)) (@zag _ _ _ (@zax _ _ _ _ (@zan _ _ _ _ _ _ _ _ _ (@zet _ rfl) (by rfl) T.sorted zfw (@zaa _ _ _ _ _ (@zbj _ _ _ _ _ _ _ _ _ (@zex _ rfl) (by rfl) Tset b_set (@zaa _ _ _ _ _ (pv 1) zad (by rfl)) (by decide) (by decide) (by rfl) (by rfl)) zad (by rfl)) (by decide) (by decide) (by rfl) (by rfl)))))),?_⟩
  refine ⟨(by show 0≤sizeLine;omega),fun l hl=>?_⟩
  have s0:Same H (upd H l (.lst [])):=Same.new hl
  have f0:(upd H l (.lst [])) l=some (.lst []):=zac
  generalize upd H l (.lst [])=H0 at s0 f0 ⊢
  refine ⟨_,rfl,a,rfl,⟨_,SqT.of (s0 _ _ ha)⟩,?_⟩
  refine zd2 (xs:=R.map tx) (fun i σ H'=>∃ b:Option V,σ = [some (.ref a),some (.ref l),b]∧H' l=some (.lst ((trn (R.take i)).map tx))∧Same H H') ⟨none,rfl,f0,s0⟩ (fun i σ H' _ ⟨_,_,_,q⟩=>SqT.of (q _ _ ha)) ?_ ?_
  ·rintro i x σ H1 hx ⟨b,rfl,f1,s1⟩
   rw [List.getElem?_map] at hx
   cases hr:R[i]? with
   | none=>rw [hr] at hx;cases hx
   | some r =>
    rw [hr] at hx
    cases hx
    have hm:=hR.word r (List.mem_of_getElem? hr)
    have hi:=(List.getElem?_eq_some_iff.mp hr).1
    have hR7:=hR.many
    have lt:=zev (R:=R.take i) fun q hq=>hR.word q (List.mem_of_mem_take hq)
    rw [List.length_take] at lt
    have lr:=zbi r
    have lb:=zbi (bk r)
    rw [zcw] at lb
    have hl1:(trn (R.take i)).length≤1260:=by omega
    refine ⟨_,rfl,.inl ⟨rfl,_,SqL.of f1⟩,_,rfl,r,rfl,by omega,fun l2 H2 hl2 f2 s2=>?_⟩
    refine ⟨l,l2,_,_,rfl,rfl,s2 _ _ f1,f2,(by unfold txs;rw [List.length_map,List.length_map];omega),?_⟩
    have nl:l≠l2:=zah f1 hl2
    have f3:(upd H2 l (.lst ((trn (R.take i)).map tx++txs (rots r)))) l=some (.lst ((trn (R.take i)++rots r).map tx)):=by rw [zac,List.map_append];rfl
    have s3:Same H (upd H2 l (.lst ((trn (R.take i)).map tx++txs (rots r)))):=fun b o e=>by
     rw [zai (zah e hl)]
     exact s2 _ _ (s1 _ _ e)
    generalize upd H2 l (.lst ((trn (R.take i)).map tx++txs (rots r)))=H3 at f3 s3 ⊢
    refine ⟨_,rfl,.inl ⟨rfl,_,SqL.of f3⟩,_,rfl,r,rfl,by omega,fun H4 s4=>?_⟩
    refine ⟨bk r,rfl,by rw [zcw];omega,fun l5 H5 hl5 f5 s5=>?_⟩
    have f34:=s5 _ _ (s4 _ _ f3)
    refine ⟨l,l5,_,_,rfl,rfl,f34,f5,(by unfold txs;rw [List.length_map,List.length_map,List.length_append];omega),?_⟩
    refine ⟨_,rfl,?_,fun b o e=>?_⟩
    ·rw [zac]
     have et:R.take (i+1)=R.take i++[r]:=by rw [List.take_add_one,hr];rfl
     rw [et,zf3,← List.append_assoc]
     unfold txs
     simp only [List.map_append]
    ·rw [zai (zah e hl)]
     exact s5 _ _ (s4 _ _ (s3 _ _ e))
  ·rintro σ H1 ⟨b,rfl,f1,s1⟩
   rw [List.take_of_length_le (by simp)] at f1
   have lt:=zev hR.word
   have hR7:=hR.many
   have ee:(trn R).map tx=((trn R).map toS).map V.str:=by rw [List.map_map];rfl
   rw [ee] at f1
   refine ⟨_,rfl,l,(trn R).map toS,rfl,SqL.of f1,by rw [List.length_map];omega,fun p dl hp nd mem=>?_⟩
   refine ⟨p,dl,rfl,zac,nd,fun l2 zs hl2 pm so=>?_⟩
   obtain ⟨V,rfl,oV,mV⟩:=ord_of (W:=trn R) (pm.nodup_iff.mpr nd) so fun z=>(pm.mem_iff).trans (mem z)
   have s2:Same H (upd (upd H1 p (StO P w p dl)) l2 (.lst ((V.map toS).map L2.V.str))):=(s1.then hp).then hl2
   refine k l2 V _ (((s1.then hp)).free hl2) oV mV ?_ s2
   rw [zac,List.map_map]
   rfl
end
end Kx
namespace Kx
open PySem PySem.Spec PyProof.Rows L2 Wd
section
variable {P:Program} {w:World} {K:PySem.W.Frag} {mg:Str→Option Value} {base:Heap} {aB:Addr}
noncomputable abbrev s_beg:Stmt:=top 18
theorem sc_beg:FnScope ["one","other","place","pair"] ["one","other"] (defScope s_beg):=⟨rfl,rfl,rfl,by decide +kernel,rfl,by decide +kernel,by decide +kernel⟩
theorem c_beg (D:Df K mg "beginning" s_beg)(T:Bt K w mg aB)(Te:mg "enumerate" = none):Fnc P w K mg base "beginning" ["one","other"] 1 spBegin:=by
 have sc:=sc_beg
 refine D.ok sc (fun _ _ _ _ _ _ us hl=>by obtain ⟨_,_,rfl⟩:=len2 hl;rfl) (fun vs H Q E h=>?_) (fun f cdv A outer s H vs Q E hr h=>?_)
 ·obtain ⟨u,v,rfl,_⟩:=h
  rfl
 ·obtain ⟨u,v,rfl,hu,hv,k⟩:=h
  have l16:=za9
  refine ⟨_,(@zae _ _ _ _ _ (@zb0 _ _ _ _ _ _ _ _ PassesOwn.never rfl (@pi_enZ _ _ _ _ _ _ _ _ _ _ _ rfl Te b_enum rfl T.zip b_zip (@zaa _ _ _ _ _ (pv 0) (@zaa _ _ _ _ _ (pv 1) zad (by rfl)) (by rfl)) (by rfl) (by rfl) (by rfl)) (@pg_tup _ _ _ _ _ _ rfl (@zdu _ _ _ _ _ (@za4 _ _ (2) _ sc.nd rfl (Or.inl rfl) (by first | exact .inl rfl | exact .inr rfl | assumption)) (@zdu _ _ _ _ _ (@za4 _ _ (3) _ sc.nd rfl (Or.inl rfl) (by first | exact .inl rfl | exact .inr rfl | assumption)) zjj (by rfl)) (by rfl)) (by rfl) (by rfl)) (@zag _ _ _ (@zbl _ _ _ _ _ _ _ _ (@zat _ _ _ _ _ _ _ _ zjp (@zbb _ _ _ _ _ _ _ zbk (pv 3) zaf (fun _ _=>rfl)) (@zbb _ _ _ _ _ _ _ zbk (pv 3) zaf (fun _ _=>rfl)) (zay _)) (@zag _ _ _ (@zax _ _ _ _ (@zaq _ _ _ _ _ _ _ _ _ _ za5 (pv 0) zav (@zas _ _ _ (pv 2))))) za3)) (by intro _ ;rfl)) (@zag _ _ _ (@zax _ _ _ _ (@zaq _ _ _ _ _ _ _ _ _ _ za5 (pv 0) zav (@zas _ _ _ (@zan _ _ _ _ _ _ _ _ _ zam (by rfl) T.len PySem.boot_len (@zaa _ _ _ _ _ (pv 1) zad (by rfl)) (by decide) (by decide) (by rfl) (by rfl))))))),?_⟩
  have su:(toS u).cps.size=u.length:=zab u
  have sv:(toS v).cps.size=v.length:=zab v
  refine ⟨_,rfl,_,rfl,_,_,rfl,asc u,asc v,?_⟩
  refine for_enZ (fun i σ H'=>∃ b1 b2:Option V,σ = [some (tx u),some (tx v),b1,b2]∧Same H H'∧u.take i=v.take i) ⟨none,none,rfl,Same.refl _,rfl⟩ ?_ ?_
  ·rintro i c d σ H1 T1 U1 hc hd ⟨b1,b2,rfl,s1,e⟩ hT hU nUT
   have at_:∀ (q:List L) (c:Nat),(toS q).cps[i]? = some c→∃ x,q[i]? = some x∧c=cp x:=fun q c h=>by
    have e1:(toS q).cps[i]? = (q[i]?).map cp:=by unfold toS;simp
    rw [e1] at h
    cases hq:q[i]? with
    | none=>rw [hq] at h;cases h
    | some x=>rw [hq] at h;cases h;exact ⟨x,rfl,rfl⟩
   obtain ⟨x,hx,rfl⟩:=at_ u c hc
   obtain ⟨y,hy,rfl⟩:=at_ v d hd
   refine ⟨T1,_,rfl,SqT.of zac,rfl,_,_,rfl,_,_,rfl,rfl,?_⟩
   have s2:Same H (upd (upd H1 U1 (.tup [tx [x],tx [y]])) T1 (.tup [.int (i:Int),.ref U1])):=fun b o e=>by
    have e:=s1 _ _ e
    rw [zai (zah e hT),zai (zah e hU)]
    exact e
   have hp:(upd (upd H1 U1 (.tup [tx [x],tx [y]])) T1 (.tup [.int (i:Int),.ref U1])) U1=some (.tup [tx [x],tx [y]]):=by rw [zai nUT,zac]
   refine ⟨_,rfl,U1,[tx [x],tx [y]],0,_,rfl,rfl,SqT.of hp,rfl,_,rfl,U1,[tx [x],tx [y]],1,_,rfl,rfl,SqT.of hp,rfl,rfl,_,rfl,?_⟩
   show if (!decide (tx [x]=tx [y]))=true then _ else _
   rw [dec_tx]
   by_cases h:x=y
   ·subst h
    rw [if_neg (by simp)]
    refine ⟨_,_,rfl,s2,?_⟩
    rw [List.take_add_one,List.take_add_one,e,hx,hy]
   ·rw [if_pos (by simp [h])]
    refine ⟨_,rfl,_,rfl,_,rfl,_,rfl,(by rw [zab];omega),?_⟩
    rw [zaj,zbe _ (by omega),Int.toNat_natCast,← zh7 e hx hy h]
    exact k _ s2
  ·rintro σ H1 ⟨b1,b2,rfl,s1,e⟩
   rw [su,sv] at e
   refine ⟨_,rfl,_,rfl,_,rfl,(by rw [zab];omega),?_⟩
   rw [zab]
   refine ⟨_,rfl,_,rfl,(by rw [zab];omega),?_⟩
   rw [zaj,zbe _ (by omega),Int.toNat_natCast,← lcp_end e]
   exact k _ s1
end
end Kx
namespace Kx
open PySem PySem.Spec PyProof.Rows L2 Wd
section
variable {P:Program} {w:World} {K:PySem.W.Frag} {mg:Str→Option Value} {base:Heap} {aB:Addr}
noncomputable abbrev s_fa:Stmt:=top 20
theorem sc_fa:FnScope ["told","place","start","first"] ["told","place"] (defScope s_fa):=⟨rfl,rfl,rfl,by decide +kernel,rfl,by decide +kernel,by decide +kernel⟩
theorem c_fa (D:Df K mg "first_alike" s_fa)(T:Bt K w mg aB):Fnc P w K mg base "first_alike" ["told","place"] 1 spAlike:=by
 have sc:=sc_fa
 refine D.ok sc (fun _ _ _ _ _ _ us hl=>by obtain ⟨_,_,rfl⟩:=len2 hl;rfl) (fun vs H Q E h=>?_) (fun f cdv A outer s H vs Q E hr h=>?_)
 ·obtain ⟨l,V,i,t,rfl,_⟩:=h
  rfl
 ·obtain ⟨l,V,i,t,rfl,hl,oV,hz,hw,ht,k⟩:=h
  have l16:=za9
  refine ⟨_,(@zae _ _ _ _ _ (@zap _ _ (2) _ _ _ _ sc.nd rfl (Or.inl rfl) (@zaq _ _ _ _ _ _ _ _ _ _ za5 (@zbb _ _ _ _ _ _ _ zb5 (pv 0) (pv 1) (fun _ _=>rfl)) zav (@zas _ _ _ (@zao _ _ _ _ _ _ _ _ zd5 (@zao _ _ _ _ _ _ _ _ za0 (@zan _ _ _ _ _ _ _ _ _ zam (by rfl) T.len PySem.boot_len (@zaa _ _ _ _ _ (@zbb _ _ _ _ _ _ _ zb5 (pv 0) (pv 1) (fun _ _=>rfl)) zad (by rfl)) (by decide) (by decide) (by rfl) (by rfl)) zaf) zaf))) (by rfl) (by first | exact .inl rfl | exact .inr rfl | assumption)) (@zae _ _ _ _ _ (@zap _ _ (3) _ _ _ _ sc.nd rfl (Or.inl rfl) (pv 1) (by rfl) (by first | exact .inl rfl | exact .inr rfl | assumption)) (@zae _ _ _ _ _ (@zc4 _ _ _ _ _ _ PassesOwn.never (@PW.pt _ _ _ (@zdn _ _ _ _ _ _ _ (@zat _ _ _ _ _ _ _ _ op_gt (pv 3) zaf (zay _)) (@zcz _ _ _ _ (@zdv _ _ _ (@zfl _ _ _ _ _ _ _ _ _ _ _ _ PySem.F.plainAttrs_str PySem.F.slot_str_startswith PySem.F.type_str_startswith mt_starts (@zbb _ _ _ _ _ _ _ zb5 (pv 0) (@zao _ _ _ _ _ _ _ _ ze0 (pv 3) zaf) (fun _ _=>rfl)) (@zaa _ _ _ _ _ (pv 2) zad (by rfl)) (by rfl) (by rfl) (by rfl) (by rfl) (by rfl)) (fun _=>rfl))))) (@zag _ _ _ (@ps_aug _ _ (3) _ _ _ _ _ _ sc.nd rfl (Or.inl rfl) zaf ip_sub (by first | exact .inl rfl | exact .inr rfl | assumption)))) (@zae _ _ _ _ _ (@zbl _ _ _ _ _ _ _ _ (@zat _ _ _ _ _ _ _ _ zga (pv 3) (pv 1) (zay _)) (@zag _ _ _ (@zax _ _ _ _ (@zbb _ _ _ _ _ _ _ zb5 (pv 0) (pv 3) (fun _ _=>rfl)))) za3) (@zae _ _ _ _ _ (@zbl _ _ _ _ _ _ _ _ (@PW.pt _ _ _ (@zdn _ _ _ _ _ _ _ (@zat _ _ _ _ _ _ _ _ zga (@zao _ _ _ _ _ _ _ _ za0 (pv 1) zaf) (@zan _ _ _ _ _ _ _ _ _ zbt (by rfl) T.len PySem.boot_len (@zaa _ _ _ _ _ (pv 0) zad (by rfl)) (by decide) (by decide) (by rfl) (by rfl)) (zay _)) (@zcz _ _ _ _ (@zdv _ _ _ (@zfl _ _ _ _ _ _ _ _ _ _ _ _ PySem.F.plainAttrs_str PySem.F.slot_str_startswith PySem.F.type_str_startswith mt_starts (@zbb _ _ _ _ _ _ _ zb5 (pv 0) (@zao _ _ _ _ _ _ _ _ za0 (pv 1) zaf) (fun _ _=>rfl)) (@zaa _ _ _ _ _ (pv 2) zad (by rfl)) (by rfl) (by rfl) (by rfl) (by rfl) (by rfl)) (fun _=>rfl))))) (@zag _ _ _ (@zax _ _ _ _ (@zbb _ _ _ _ _ _ _ zb5 (pv 0) (@zao _ _ _ _ _ _ _ _ za0 (pv 1) zaf) (fun _ _=>rfl)))) za3) (@zag _ _ _ (@zax _ _ _ _ zcs))))))),?_⟩
  have hi:=(List.getElem?_eq_some_iff.mp ht).1
  have lt:=hw t (List.mem_of_getElem? ht)
  have at_:∀ (j:Nat) (x:List L),V[j]? = some x→atI (V.map tx) (j:Int)=some (tx x):=fun j x hx=>zbx (by rw [List.getElem?_map,hx];rfl)
  refine ⟨_,rfl,_,rfl,l,_,_,_,rfl,rfl,SqL.of hl,at_ i t ht,?_⟩
  have ll:=zab t
  refine ⟨_,rfl,_,rfl,l,_,_,_,rfl,rfl,SqL.of hl,at_ i t ht,_,rfl,by omega,_,_,rfl,rfl,_,_,rfl,rfl,?_,_,rfl,_,rfl,by omega,?_⟩
  ·exact ⟨by decide,by decide⟩
  have es:Txt.slice (toS t) none (some ((((toS t).length:Int)+5) / 6))=toS (sta t):=by
   rw [zaj,zbe _ (by omega),ll]
   unfold sta
   congr 2
  rw [es]
  refine ⟨_,rfl,?_⟩
  have near:=fun a (ha:a≤i) hin hout=>oV.near (a:=a) ht ha hin hout
  refine ⟨fun n σ H'=>∃ a:Nat,σ = [some (.ref l),some (.int (i:Int)),some (tx (sta t)),some (.int (a:Int))]∧H'=H∧a≤i∧(∀ j x,a≤j→j≤i→V[j]? = some x→sta t <+: x)∧n=a,⟨_,i,rfl,rfl,Nat.le_refl _,fun j x h1 h2 hx=>?_,rfl⟩,?_⟩
  ·have:j=i:=by omega
   subst this
   rw [ht] at hx
   cases hx
   exact zen _
  rintro n σ H2 ⟨a,rfl,rfl,ha,hin,rfl⟩
  by_cases h0:n=0
  ·refine ⟨_,rfl,_,_,rfl,rfl,_,rfl,iteD (decide_eq_false (by omega)) (iteF ?_)⟩
   have hout:n=0 ∨ ∀ x,V[n - 1]? = some x→¬ sta t <+: x:=.inl h0
   have nr:=near n ha hin hout
   refine ⟨_,rfl,_,rfl,_,_,rfl,rfl,_,rfl,?_⟩
   by_cases hai:n < i
   ·refine iteC (decide_eq_true (by omega)) ?_
    have hx:=List.getElem?_eq_getElem (l:=V) (i:=n) (by omega)
    refine ⟨_,rfl,_,rfl,l,_,_,_,rfl,rfl,SqL.of hl,at_ n _ hx,?_⟩
    rw [if_pos hai,hx] at nr
    have kk:=k _ (Same.refl _)
    rw [nr] at kk
    exact kk
   ·refine iteD (decide_eq_false (by omega)) ?_
    rw [if_neg hai] at nr
    have kk:=k _ (Same.refl _)
    rw [nr] at kk
    refine ⟨_,rfl,_,_,rfl,rfl,_,rfl,l,_,rfl,.inl (SqL.of hl),_,_,rfl,rfl,_,rfl,?_⟩
    rw [List.length_map]
    by_cases hn:i+1 < V.length
    ·refine iteC (decide_eq_true (by omega)) ?_
     have hy:=List.getElem?_eq_getElem hn
     have aty:atI (V.map tx) ((i:Int)+1)=some (tx V[i+1]):=by
      rw [show (i:Int)+1=((i+1:Nat):Int) by omega]
      exact at_ _ _ hy
     rw [hy] at kk
     refine ⟨_,rfl,_,rfl,_,_,rfl,rfl,l,_,_,_,rfl,rfl,SqL.of hl,aty,rfl,_,rfl,_,_,rfl,rfl,_,rfl,?_⟩
     rw [zdk]
     by_cases hp:sta t <+: V[i+1]
     ·refine iteC (decide_eq_true hp) ?_
      dsimp only at kk
      rw [if_pos hp] at kk
      exact ⟨_,rfl,_,rfl,_,_,rfl,rfl,l,_,_,_,rfl,rfl,SqL.of hl,aty,kk⟩
     ·refine iteD (decide_eq_false hp) ?_
      dsimp only at kk
      rw [if_neg hp] at kk
      exact kk
    ·refine iteD (decide_eq_false (by omega)) ?_
     rw [List.getElem?_eq_none (by omega)] at kk
     exact kk
  ·refine ⟨_,rfl,_,_,rfl,rfl,_,rfl,iteC (decide_eq_true (by omega)) ?_⟩
   have hx:=List.getElem?_eq_getElem (l:=V) (i:=n - 1) (by omega)
   have atx:atI (V.map tx) ((n:Int) - 1)=some (tx V[n - 1]):=by
    rw [show (n:Int) - 1=((n - 1:Nat):Int) by omega]
    exact at_ _ _ hx
   refine ⟨_,rfl,_,rfl,_,_,rfl,rfl,l,_,_,_,rfl,rfl,SqL.of hl,atx,rfl,_,rfl,_,_,rfl,rfl,_,rfl,?_⟩
   rw [zdk]
   by_cases hp:sta t <+: V[n - 1]
   ·refine iteC (decide_eq_true hp) ?_
    refine ⟨_,fun σ' H' q=>q,?_⟩
    refine ⟨_,rfl,_,_,rfl,rfl,n - 1,by omega,n - 1,?_,rfl,by omega,fun j x h1 h2 hj=>?_,rfl⟩
    ·show [some (L2.V.ref l),some (L2.V.int (i:Int)),some (tx (sta t)),some (L2.V.int ((n:Int) - 1))]=_
     rw [show (n:Int) - 1=((n - 1:Nat):Int) by omega]
    ·by_cases q:j=n - 1
     ·subst q
      rw [hx] at hj
      cases hj
      exact hp
     ·exact hin j x (by omega) h2 hj
   ·refine iteD (decide_eq_false hp) ?_
    have hout:n=0 ∨ ∀ x,V[n - 1]? = some x→¬ sta t <+: x:=.inr fun x q=>by rw [hx] at q;cases q;exact hp
    have nr:=near n ha hin hout
    refine ⟨_,rfl,_,rfl,_,_,rfl,rfl,_,rfl,?_⟩
    by_cases hai:n < i
    ·refine iteC (decide_eq_true (by omega)) ?_
     have hx:=List.getElem?_eq_getElem (l:=V) (i:=n) (by omega)
     refine ⟨_,rfl,_,rfl,l,_,_,_,rfl,rfl,SqL.of hl,at_ n _ hx,?_⟩
     rw [if_pos hai,hx] at nr
     have kk:=k _ (Same.refl _)
     rw [nr] at kk
     exact kk
    ·refine iteD (decide_eq_false (by omega)) ?_
     rw [if_neg hai] at nr
     have kk:=k _ (Same.refl _)
     rw [nr] at kk
     refine ⟨_,rfl,_,_,rfl,rfl,_,rfl,l,_,rfl,.inl (SqL.of hl),_,_,rfl,rfl,_,rfl,?_⟩
     rw [List.length_map]
     by_cases hn:i+1 < V.length
     ·refine iteC (decide_eq_true (by omega)) ?_
      have hy:=List.getElem?_eq_getElem hn
      have aty:atI (V.map tx) ((i:Int)+1)=some (tx V[i+1]):=by
       rw [show (i:Int)+1=((i+1:Nat):Int) by omega]
       exact at_ _ _ hy
      rw [hy] at kk
      refine ⟨_,rfl,_,rfl,_,_,rfl,rfl,l,_,_,_,rfl,rfl,SqL.of hl,aty,rfl,_,rfl,_,_,rfl,rfl,_,rfl,?_⟩
      rw [zdk]
      by_cases hp:sta t <+: V[i+1]
      ·refine iteC (decide_eq_true hp) ?_
       dsimp only at kk
       rw [if_pos hp] at kk
       exact ⟨_,rfl,_,rfl,_,_,rfl,rfl,l,_,_,_,rfl,rfl,SqL.of hl,aty,kk⟩
      ·refine iteD (decide_eq_false hp) ?_
       dsimp only at kk
       rw [if_neg hp] at kk
       exact kk
     ·refine iteD (decide_eq_false (by omega)) ?_
      rw [List.getElem?_eq_none (by omega)] at kk
      exact kk
noncomputable abbrev s_thick:Stmt:=top 19
theorem sc_thick:FnScope ["rings","told","place","turn","other"] ["rings"] (defScope s_thick):=⟨rfl,rfl,rfl,by decide +kernel,rfl,by decide +kernel,by decide +kernel⟩
theorem c_thick (D:Df K mg "thick" s_thick)(T:Bt K w mg aB)(Te:mg "enumerate" = none)(F_tof:Fnc P w K mg base "turns_of" ["rings"] 2 spTurnsOf)(F_fa:Fnc P w K mg base "first_alike" ["told","place"] 1 spAlike)(F_beg:Fnc P w K mg base "beginning" ["one","other"] 1 spBegin):Fnc P w K mg base "thick" ["rings"] 3 spThick:=by
 have sc:=sc_thick
 refine D.ok sc (fun _ _ _ _ _ _ us hl=>by obtain ⟨_,rfl⟩:=len1 hl;rfl) (fun vs H Q E h=>?_) (fun f cdv A outer s H vs Q E hr h=>?_)
 ·obtain ⟨a,R,rfl,_⟩:=h
  rfl
 ·obtain ⟨a,R,rfl,ha,hR,kN,kS⟩:=h
  have l16:=za9
  refine ⟨_,(@zae _ _ _ _ _ (@zap _ _ (1) _ _ _ _ sc.nd rfl (Or.inl rfl) (@zaw _ _ _ _ _ _ _ _ _ _ _ F_tof hr (by decide) rfl (@zaa _ _ _ _ _ (pv 0) zad (by rfl)) (by decide) (by rfl) (by rfl)) (by rfl) (by first | exact .inl rfl | exact .inr rfl | assumption)) (@zae _ _ _ _ _ (@zb0 _ _ _ _ _ _ _ _ PassesOwn.never rfl (@pi_enl _ _ rfl _ _ _ _ _ _ _ rfl Te b_enum (@zaa _ _ _ _ _ (pv 1) zad (by rfl)) (by rfl)) (@pg_tup _ _ _ _ _ _ rfl (@zdu _ _ _ _ _ (@za4 _ _ (2) _ sc.nd rfl (Or.inl rfl) (by first | exact .inl rfl | exact .inr rfl | assumption)) (@zdu _ _ _ _ _ (@za4 _ _ (3) _ sc.nd rfl (Or.inl rfl) (by first | exact .inl rfl | exact .inr rfl | assumption)) zjj (by rfl)) (by rfl)) (by rfl) (by rfl)) (@zae _ _ _ _ _ (@zap _ _ (4) _ _ _ _ sc.nd rfl (Or.inl rfl) (@zaw _ _ _ _ _ _ _ _ _ _ _ F_fa hr (by decide) rfl (@zaa _ _ _ _ _ (pv 1) (@zaa _ _ _ _ _ (pv 2) zad (by rfl)) (by rfl)) (by decide) (by rfl) (by rfl)) (by rfl) (by first | exact .inl rfl | exact .inr rfl | assumption)) (@zag _ _ _ (@zbl _ _ _ _ _ _ _ _ (@zat _ _ _ _ _ _ _ _ zhf (pv 4) zcs (zay _)) (@zag _ _ _ (@zax _ _ _ _ (@zbc _ _ _ _ _ (@zaa _ _ _ _ _ (pv 3) (@zaa _ _ _ _ _ (pv 4) (@zaa _ _ _ _ _ (@zaw _ _ _ _ _ _ _ _ _ _ _ F_beg hr (by decide) rfl (@zaa _ _ _ _ _ (pv 3) (@zaa _ _ _ _ _ (pv 4) zad (by rfl)) (by rfl)) (by decide) (by rfl) (by rfl)) zad (by rfl)) (by rfl)) (by rfl))))) za3))) (by intro _ ;rfl)) (@zag _ _ _ (@zax _ _ _ _ zcs)))),?_⟩
  refine ⟨_,rfl,a,R,rfl,ha,hR,fun l V H1 hl oV mV f1 s1=>?_⟩
  have tn:Tn R V:=⟨oV,mV⟩
  have hz:=tn.len hR
  refine ⟨_,rfl,l,rfl,⟨_,SqL.of f1⟩,?_⟩
  refine for_enl (xs:=V.map tx) (fun i σ H'=>∃ b1 b2 b3:Option L2.V,σ = [some (.ref a),some (.ref l),b1,b2,b3]∧Same H1 H'∧∀ t∈V.take i,fnd V t=none) ⟨none,none,none,rfl,Same.refl _,fun t ht=>by cases ht⟩ (fun i σ H' _ ⟨_,_,_,_,q,_⟩=>SqL.of (q _ _ f1)) ?_ ?_
  ·rintro i x σ H2 T1 hx ⟨b1,b2,b3,rfl,s2,no⟩ hT
   rw [List.getElem?_map] at hx
   cases ht:V[i]? with
   | none=>rw [ht] at hx;cases hx
   | some t =>
    rw [ht] at hx
    cases hx
    have wt:=tn.word hR (List.mem_of_getElem? ht)
    refine ⟨T1,_,rfl,SqT.of zac,rfl,_,_,rfl,_,_,rfl,rfl,?_⟩
    have s3:Same H1 (upd H2 T1 (.tup [.int (i:Int),tx t])):=s2.then hT
    generalize upd H2 T1 (.tup [.int (i:Int),tx t])=H3 at s3 ⊢
    refine ⟨_,rfl,_,rfl,l,V,i,t,rfl,s3 _ _ f1,oV,by omega,fun v hv=>by have:=(tn.word hR hv).2;omega,ht,fun H4 s4=>?_⟩
    cases ho:fnd V t with
    | none =>
     refine ⟨_,rfl,rfl,_,rfl,iteD rfl ?_⟩
     refine ⟨_,_,_,rfl,s3.trans s4,fun q hq=>?_⟩
     rw [List.take_add_one,ht] at hq
     rcases List.mem_append.mp hq with h | h
     ·exact no q h
     ·rw [Option.toList_some,List.mem_singleton] at h
      subst h
      exact ho
    | some o =>
     have om:o∈V:=by
      unfold fnd at ho
      exact List.mem_of_find?_eq_some ho
     have wo:=tn.word hR om
     refine ⟨_,rfl,rfl,_,rfl,iteC rfl ?_⟩
     refine ⟨_,rfl,_,rfl,_,rfl,_,rfl,t,o,rfl,by omega,by omega,fun H5 s5=>⟨(by show 3≤sizeLine;omega),fun p hp=>?_⟩⟩
     exact kS V _ p t o _ tn (((s1.trans s3).trans (s4.trans s5)).then hp) (zfe no ht ho) zac
  ·rintro σ H2 ⟨b1,b2,b3,rfl,s2,no⟩
   rw [List.take_of_length_le (by simp)] at no
   exact kN V _ tn (s1.trans s2) (zfd no)
end
end Kx
namespace Kx
open PySem PySem.Spec PyProof.Rows L2 Wd
section
variable {P:Program} {w:World} {K:PySem.W.Frag} {mg:Str→Option Value} {base:Heap} {aB:Addr}
noncomputable abbrev s_ltof:Stmt:=top 38
theorem sc_ltof:FnScope ["_law_rings_here","_law_found","_law_ring","_law_word","_law_k","_law_turn"] ["_law_rings_here"] (defScope s_ltof):=⟨rfl,rfl,rfl,by decide +kernel,rfl,by decide +kernel,by decide +kernel⟩
theorem c_ltof (D:Df K mg "_law_turns_of" s_ltof)(T:Bt K w mg aB)(F_lback:Fnc P w K mg base "_law_back" ["_law_word"] 1 spBk):Fnc P w K mg base "_law_turns_of" ["_law_rings_here"] 2 spTurnsOf2:=by
 have sc:=sc_ltof
 refine D.ok sc (fun _ _ _ _ _ _ us hl=>by obtain ⟨_,rfl⟩:=len1 hl;rfl) (fun vs H Q E h=>?_) (fun f cdv A outer s H vs Q E hr h=>?_)
 ·obtain ⟨a,R,rfl,_⟩:=h
  rfl
 ·obtain ⟨a,R,rfl,ha,hR,k⟩:=h
  have l16:=za9
  refine ⟨_,(@zae _ _ _ _ _ (@zap _ _ (1) _ _ _ _ sc.nd rfl (Or.inl rfl) (@zct _ _ _ _ zad) (by rfl) (by first | exact .inl rfl | exact .inr rfl | assumption)) (@zae _ _ _ _ _ (@zb0 _ _ _ _ _ _ _ _ PassesOwn.never rfl (@pi_sq _ _ _ _ (pv 0)) (@za4 _ _ (2) _ sc.nd rfl (Or.inl rfl) (by first | exact .inl rfl | exact .inr rfl | assumption)) (@zag _ _ _ (@zb0 _ _ _ _ _ _ _ _ PassesOwn.never rfl (@zjk _ _ _ _ (@zbc _ _ _ _ _ (@zaa _ _ _ _ _ (pv 2) (@zaa _ _ _ _ _ (@zaw _ _ _ _ _ _ _ _ _ _ _ F_lback hr (by decide) rfl (@zaa _ _ _ _ _ (pv 2) zad (by rfl)) (by decide) (by rfl) (by rfl)) zad (by rfl)) (by rfl)))) (@za4 _ _ (3) _ sc.nd rfl (Or.inl rfl) (by first | exact .inl rfl | exact .inr rfl | assumption)) (@zag _ _ _ (@zb0 _ _ _ _ _ _ _ _ PassesOwn.never rfl (@zcd _ _ _ _ _ _ rfl T.range (@zaa _ _ _ _ _ (@zan _ _ _ _ _ _ _ _ _ zam (by rfl) T.len PySem.boot_len (@zaa _ _ _ _ _ (pv 3) zad (by rfl)) (by decide) (by decide) (by rfl) (by rfl)) zad (by rfl)) (by rfl)) (@za4 _ _ (4) _ sc.nd rfl (Or.inl rfl) (by first | exact .inl rfl | exact .inr rfl | assumption)) (@zae _ _ _ _ _ (@zap _ _ (5) _ _ _ _ sc.nd rfl (Or.inl rfl) (@zao _ _ _ _ _ _ _ _ zaz (@zaq _ _ _ _ _ _ _ _ _ _ za5 (pv 3) (@zas _ _ _ (pv 4)) zav) (@zaq _ _ _ _ _ _ _ _ _ _ za5 (pv 3) zav (@zas _ _ _ (pv 4)))) (by rfl) (by first | exact .inl rfl | exact .inr rfl | assumption)) (@zag _ _ _ (@zbl _ _ _ _ _ _ _ _ (@zat _ _ _ _ _ _ _ _ (@ze9 _ (K) rfl) (pv 5) (pv 1) rfl) (@zag _ _ _ (@zdf _ _ _ _ (@zfl _ _ _ _ _ _ _ _ _ _ _ _ PySem.F.plainAttrs_list PySem.F.slot_list_append PySem.F.type_list_append zec (pv 1) (@zaa _ _ _ _ _ (pv 5) zad (by rfl)) (by rfl) (by rfl) (by rfl) (by rfl) (by rfl)) (by rfl))) za3))) (by intro _ ;rfl))) (by intro _ ;rfl))) (by intro _ ;rfl)) (@zag _ _ _ (@zax _ _ _ _ (@zan _ _ _ _ _ _ _ _ _ zdj (by rfl) T.sorted zfw (@zaa _ _ _ _ _ (pv 1) zad (by rfl)) (by decide) (by decide) (by rfl) (by rfl)))))),?_⟩
  have hR7:=hR.many
  refine ⟨(by show 0≤sizeLine;omega),fun l hl=>?_⟩
  have s0:Same H (upd H l (.lst [])):=Same.new hl
  have f0:(upd H l (.lst [])) l=some (.lst (([]:List (List L)).map tx)):=zac
  generalize upd H l (.lst [])=H0 at s0 f0 ⊢
  rcases ha with ha | ha
  ·refine ⟨_,rfl,a,_,rfl,.inr ⟨SqT.of (s0 _ _ ha),?_⟩⟩
   refine zd2 (xs:=R.map tx) (fun i σ H'=>∃ (b2 b3 b4 b5:Option V) (F:List (List L)),σ = [some (.ref a),some (.ref l),b2,b3,b4,b5]∧H' l=some (.lst (F.map tx))∧Once (trn (R.take i)) F∧Same H H') ⟨_,_,_,_,[],rfl,f0,Once.nil,s0⟩ (fun i σ H' _ ⟨_,_,_,_,_,_,_,_,q⟩=>SqT.of (q _ _ ha)) ?_ ?_
   ·rintro i x σ H1 hx ⟨b2,b3,b4,b5,F,rfl,f1,on,s1⟩
    rw [List.getElem?_map] at hx
    cases hr:R[i]? with
    | none=>rw [hr] at hx;cases hx
    | some r =>
     rw [hr] at hx
     cases hx
     have hm:=hR.word r (List.mem_of_getElem? hr)
     have hi:=(List.getElem?_eq_some_iff.mp hr).1
     have hr1:=List.length_pos_iff.mpr hm.1
     have lt:=zev (R:=R.take i) fun q hq=>hR.word q (List.mem_of_mem_take hq)
     rw [List.length_take] at lt
     have hl1:(trn (R.take i)).length≤1260:=by omega
     have lb:=zcw r
     refine ⟨_,rfl,_,rfl,r,rfl,by omega,fun H2 s2=>⟨(by show 2≤sizeLine;omega),fun p hp=>?_⟩⟩
     have s3:Same H1 (upd H2 p (.tup [tx r,tx (bk r)])):=s2.then hp
     have f3:(upd H2 p (.tup [tx r,tx (bk r)])) p=some (.tup ([r,bk r].map tx)):=zac
     have g3:=s3 _ _ f1
     have nlp:l≠p:=zah (s2 _ _ f1) hp
     have nolp:∀ b o,H b=some o→b≠l:=fun b o e=>zah e hl
     show _
     generalize upd H2 p (.tup [tx r,tx (bk r)])=H3 at s3 f3 g3 ⊢
     refine ⟨p,rfl,⟨_,SqT.of f3⟩,?_⟩
     refine zd2 (xs:=[r,bk r].map tx) (fun j σ H'=>∃ (b3 b4 b5:Option V) (F:List (List L)),σ = [some (.ref a),some (.ref l),some (tx r),b3,b4,b5]∧H' l=some (.lst (F.map tx))∧H' p=some (.tup ([r,bk r].map tx))∧Once (trn (R.take i)++([r,bk r].take j).flatMap rots) F∧Same H H') ⟨_,_,_,F,rfl,g3,f3,on.to fun x=>by simp,s1.trans s3⟩ (fun j σ H' _ ⟨_,_,_,_,_,_,q,_⟩=>SqT.of q) ?_ ?_
     ·rintro j x σ H4 hx ⟨b3,b4,b5,F,rfl,f4,p4,on,s4⟩
      rw [List.getElem?_map] at hx
      cases hv:[r,bk r][j]? with
      | none=>rw [hv] at hx;cases hx
      | some v =>
       rw [hv] at hx
       cases hx
       have hj:j < 2:=(List.getElem?_eq_some_iff.mp hv).1
       have hvl:v.length=r.length:=by
        have:=List.mem_of_getElem? hv
        simp only [List.mem_cons,List.not_mem_nil,or_false] at this
        rcases this with rfl | rfl
        ·rfl
        ·exact lb
       have lv:=zab v
       refine ⟨_,rfl,_,rfl,by omega,_,rfl,by omega,by omega,?_⟩
       rw [lv,Int.toNat_natCast]
       have lm:((([r,bk r].take j).flatMap rots)).length≤180:=by
        match j,hj with
        | 0,_=>simp
        | 1,_=>simp [zbi];omega
       refine zd3 (lo:=0) (n:=v.length) (fun m σ H'=>∃ (b4 b5:Option V) (F:List (List L)),σ = [some (.ref a),some (.ref l),some (tx r),some (tx v),b4,b5]∧H' l=some (.lst (F.map tx))∧H' p=some (.tup ([r,bk r].map tx))∧Once ((trn (R.take i)++([r,bk r].take j).flatMap rots)++(rots v).take m) F∧Same H H') ⟨_,_,F,rfl,f4,p4,on.to fun x=>by simp,s4⟩ ?_ ?_
       ·rintro m σ H5 hm2 ⟨b4,b5,F,rfl,f5,p5,on,s5⟩
        rw [Int.zero_add]
        refine ⟨_,rfl,_,rfl,_,rfl,_,rfl,by omega,_,rfl,_,rfl,_,rfl,_,rfl,by omega,_,_,rfl,rfl,?_,?_⟩
        ·have h1:=Txt.slice_le (toS v) (some (m:Int)) none
         have h2:=Txt.slice_le (toS v) none (some (m:Int))
         omega
        rw [zaj,zaj,zbf v (by omega),zbe v (by omega),zbv,Int.toNat_natCast]
        have er:(rots v).take (m+1)=(rots v).take m++[v.drop m++v.take m]:=by
         rw [List.take_add_one]
         unfold rots
         rw [List.getElem?_map,List.getElem?_range (by omega)]
         rfl
        have ol:=on.len
        rw [List.length_append,List.length_append,List.length_take,zbi] at ol
        have pt:=on.put (v.drop m++v.take m)
        rw [List.append_assoc,← er] at pt
        refine ⟨_,rfl,_,rfl,l,_,rfl,.inl (SqL.of f5),rfl,zhq _,_,rfl,?_⟩
        rw [in_tx]
        by_cases q:v.drop m++v.take m∈F
        ·rw [if_pos q] at pt
         refine iteD (by simp [q]) ?_
         exact ⟨_,_,F,rfl,f5,p5,pt,s5⟩
        ·rw [if_neg q] at pt
         refine iteC (by simp [q]) ?_
         refine ⟨_,rfl,.inl ⟨rfl,_,SqL.of f5⟩,_,rfl,l,_,_,rfl,rfl,f5,by rw [List.length_map];omega,?_⟩
         refine ⟨_,_,F++[v.drop m++v.take m],rfl,by rw [zac,List.map_append];rfl,by rw [zai nlp.symm];exact p5,pt,fun b o e=>?_⟩
         rw [zai (nolp b o e)]
         exact s5 _ _ e
       ·rintro σ H5 ⟨b4,b5,F,rfl,f5,p5,on,s5⟩
        refine ⟨_,_,_,F,rfl,f5,p5,on.to fun x=>?_,s5⟩
        rw [show (rots v).take v.length=rots v from List.take_of_length_le (by rw [zbi];omega),List.take_add_one (i:=j),hv,List.flatMap_append,← List.append_assoc]
        simp
     ·rintro σ H4 ⟨b3,b4,b5,F,rfl,f4,p4,on,s4⟩
      refine ⟨_,_,_,_,F,rfl,f4,on.to fun x=>?_,s4⟩
      have et:R.take (i+1)=R.take i++[r]:=by rw [List.take_add_one,hr];rfl
      rw [et,zf3]
      simp
   ·rintro σ H1 ⟨b2,b3,b4,b5,F,rfl,f1,on,s1⟩
    rw [List.take_of_length_le (by simp)] at on
    have ee:F.map tx=(F.map toS).map V.str:=by rw [List.map_map];rfl
    rw [ee] at f1
    refine ⟨_,rfl,l,F.map toS,rfl,SqL.of f1,fun l2 zs hl2 pm so=>?_⟩
    have ndF:(F.map toS).Nodup:=List.Pairwise.map toS (fun a b h e=>h (zbq e)) on.nd
    obtain ⟨V,rfl,oV,mV⟩:=ord_of (W:=F) (pm.nodup_iff.mpr ndF) so fun z=>pm.mem_iff
    refine k l2 V _ (s1.free hl2) oV (fun x=>(mV x).trans (on.mem x)) ?_ (s1.then hl2)
    rw [zac,List.map_map]
    rfl
  ·refine ⟨_,rfl,a,_,rfl,.inl ⟨SqL.of (s0 _ _ ha),?_⟩⟩
   refine zc5 (xs:=R.map tx) (fun i σ H'=>∃ (b2 b3 b4 b5:Option V) (F:List (List L)),σ = [some (.ref a),some (.ref l),b2,b3,b4,b5]∧H' l=some (.lst (F.map tx))∧Once (trn (R.take i)) F∧Same H H') ⟨_,_,_,_,[],rfl,f0,Once.nil,s0⟩ (fun i σ H' _ ⟨_,_,_,_,_,_,_,_,q⟩=>SqL.of (q _ _ ha)) ?_ ?_
   ·rintro i x σ H1 hx ⟨b2,b3,b4,b5,F,rfl,f1,on,s1⟩
    rw [List.getElem?_map] at hx
    cases hr:R[i]? with
    | none=>rw [hr] at hx;cases hx
    | some r =>
     rw [hr] at hx
     cases hx
     have hm:=hR.word r (List.mem_of_getElem? hr)
     have hi:=(List.getElem?_eq_some_iff.mp hr).1
     have hr1:=List.length_pos_iff.mpr hm.1
     have lt:=zev (R:=R.take i) fun q hq=>hR.word q (List.mem_of_mem_take hq)
     rw [List.length_take] at lt
     have hl1:(trn (R.take i)).length≤1260:=by omega
     have lb:=zcw r
     refine ⟨_,rfl,_,rfl,r,rfl,by omega,fun H2 s2=>⟨(by show 2≤sizeLine;omega),fun p hp=>?_⟩⟩
     have s3:Same H1 (upd H2 p (.tup [tx r,tx (bk r)])):=s2.then hp
     have f3:(upd H2 p (.tup [tx r,tx (bk r)])) p=some (.tup ([r,bk r].map tx)):=zac
     have g3:=s3 _ _ f1
     have nlp:l≠p:=zah (s2 _ _ f1) hp
     have nolp:∀ b o,H b=some o→b≠l:=fun b o e=>zah e hl
     show _
     generalize upd H2 p (.tup [tx r,tx (bk r)])=H3 at s3 f3 g3 ⊢
     refine ⟨p,rfl,⟨_,SqT.of f3⟩,?_⟩
     refine zd2 (xs:=[r,bk r].map tx) (fun j σ H'=>∃ (b3 b4 b5:Option V) (F:List (List L)),σ = [some (.ref a),some (.ref l),some (tx r),b3,b4,b5]∧H' l=some (.lst (F.map tx))∧H' p=some (.tup ([r,bk r].map tx))∧Once (trn (R.take i)++([r,bk r].take j).flatMap rots) F∧Same H H') ⟨_,_,_,F,rfl,g3,f3,on.to fun x=>by simp,s1.trans s3⟩ (fun j σ H' _ ⟨_,_,_,_,_,_,q,_⟩=>SqT.of q) ?_ ?_
     ·rintro j x σ H4 hx ⟨b3,b4,b5,F,rfl,f4,p4,on,s4⟩
      rw [List.getElem?_map] at hx
      cases hv:[r,bk r][j]? with
      | none=>rw [hv] at hx;cases hx
      | some v =>
       rw [hv] at hx
       cases hx
       have hj:j < 2:=(List.getElem?_eq_some_iff.mp hv).1
       have hvl:v.length=r.length:=by
        have:=List.mem_of_getElem? hv
        simp only [List.mem_cons,List.not_mem_nil,or_false] at this
        rcases this with rfl | rfl
        ·rfl
        ·exact lb
       have lv:=zab v
       refine ⟨_,rfl,_,rfl,by omega,_,rfl,by omega,by omega,?_⟩
       rw [lv,Int.toNat_natCast]
       have lm:((([r,bk r].take j).flatMap rots)).length≤180:=by
        match j,hj with
        | 0,_=>simp
        | 1,_=>simp [zbi];omega
       refine zd3 (lo:=0) (n:=v.length) (fun m σ H'=>∃ (b4 b5:Option V) (F:List (List L)),σ = [some (.ref a),some (.ref l),some (tx r),some (tx v),b4,b5]∧H' l=some (.lst (F.map tx))∧H' p=some (.tup ([r,bk r].map tx))∧Once ((trn (R.take i)++([r,bk r].take j).flatMap rots)++(rots v).take m) F∧Same H H') ⟨_,_,F,rfl,f4,p4,on.to fun x=>by simp,s4⟩ ?_ ?_
       ·rintro m σ H5 hm2 ⟨b4,b5,F,rfl,f5,p5,on,s5⟩
        rw [Int.zero_add]
        refine ⟨_,rfl,_,rfl,_,rfl,_,rfl,by omega,_,rfl,_,rfl,_,rfl,_,rfl,by omega,_,_,rfl,rfl,?_,?_⟩
        ·have h1:=Txt.slice_le (toS v) (some (m:Int)) none
         have h2:=Txt.slice_le (toS v) none (some (m:Int))
         omega
        rw [zaj,zaj,zbf v (by omega),zbe v (by omega),zbv,Int.toNat_natCast]
        have er:(rots v).take (m+1)=(rots v).take m++[v.drop m++v.take m]:=by
         rw [List.take_add_one]
         unfold rots
         rw [List.getElem?_map,List.getElem?_range (by omega)]
         rfl
        have ol:=on.len
        rw [List.length_append,List.length_append,List.length_take,zbi] at ol
        have pt:=on.put (v.drop m++v.take m)
        rw [List.append_assoc,← er] at pt
        refine ⟨_,rfl,_,rfl,l,_,rfl,.inl (SqL.of f5),rfl,zhq _,_,rfl,?_⟩
        rw [in_tx]
        by_cases q:v.drop m++v.take m∈F
        ·rw [if_pos q] at pt
         refine iteD (by simp [q]) ?_
         exact ⟨_,_,F,rfl,f5,p5,pt,s5⟩
        ·rw [if_neg q] at pt
         refine iteC (by simp [q]) ?_
         refine ⟨_,rfl,.inl ⟨rfl,_,SqL.of f5⟩,_,rfl,l,_,_,rfl,rfl,f5,by rw [List.length_map];omega,?_⟩
         refine ⟨_,_,F++[v.drop m++v.take m],rfl,by rw [zac,List.map_append];rfl,by rw [zai nlp.symm];exact p5,pt,fun b o e=>?_⟩
         rw [zai (nolp b o e)]
         exact s5 _ _ e
       ·rintro σ H5 ⟨b4,b5,F,rfl,f5,p5,on,s5⟩
        refine ⟨_,_,_,F,rfl,f5,p5,on.to fun x=>?_,s5⟩
        rw [show (rots v).take v.length=rots v from List.take_of_length_le (by rw [zbi];omega),List.take_add_one (i:=j),hv,List.flatMap_append,← List.append_assoc]
        simp
     ·rintro σ H4 ⟨b3,b4,b5,F,rfl,f4,p4,on,s4⟩
      refine ⟨_,_,_,_,F,rfl,f4,on.to fun x=>?_,s4⟩
      have et:R.take (i+1)=R.take i++[r]:=by rw [List.take_add_one,hr];rfl
      rw [et,zf3]
      simp
   ·rintro σ H1 ⟨b2,b3,b4,b5,F,rfl,f1,on,s1⟩
    rw [List.take_of_length_le (by simp)] at on
    have ee:F.map tx=(F.map toS).map V.str:=by rw [List.map_map];rfl
    rw [ee] at f1
    refine ⟨_,rfl,l,F.map toS,rfl,SqL.of f1,fun l2 zs hl2 pm so=>?_⟩
    have ndF:(F.map toS).Nodup:=List.Pairwise.map toS (fun a b h e=>h (zbq e)) on.nd
    obtain ⟨V,rfl,oV,mV⟩:=ord_of (W:=F) (pm.nodup_iff.mpr ndF) so fun z=>pm.mem_iff
    refine k l2 V _ (s1.free hl2) oV (fun x=>(mV x).trans (on.mem x)) ?_ (s1.then hl2)
    rw [zac,List.map_map]
    rfl
end
end Kx
namespace Kx
open PySem PySem.Spec PyProof.Rows L2 Wd
section
variable {P:Program} {w:World} {K:PySem.W.Frag} {mg:Str→Option Value} {base:Heap} {aB:Addr}
noncomputable abbrev s_lsh:Stmt:=top 39
theorem sc_lsh:FnScope ["_law_one","_law_other","_law_many"] ["_law_one","_law_other"] (defScope s_lsh):=⟨rfl,rfl,rfl,by decide +kernel,rfl,by decide +kernel,by decide +kernel⟩
theorem c_lsh (D:Df K mg "_law_share" s_lsh)(T:Bt K w mg aB):Fnc P w K mg base "_law_share" ["_law_one","_law_other"] 1 spBegin:=by
 have sc:=sc_lsh
 refine D.ok sc (fun _ _ _ _ _ _ us hl=>by obtain ⟨_,_,rfl⟩:=len2 hl;rfl) (fun vs H Q E h=>?_) (fun f cdv A outer s H vs Q E hr h=>?_)
 ·obtain ⟨u,v,rfl,_⟩:=h
  rfl
 ·obtain ⟨u,v,rfl,hu,hv,k⟩:=h
  have l16:=za9
  refine ⟨_,(@zae _ _ _ _ _ (@zap _ _ (2) _ _ _ _ sc.nd rfl (Or.inl rfl) zaf (by rfl) (by first | exact .inl rfl | exact .inr rfl | assumption)) (@zae _ _ _ _ _ (@zc4 _ _ _ _ _ _ PassesOwn.never (@PW.pt _ _ _ (@zdn _ _ _ _ _ _ _ (@zat _ _ _ _ _ _ _ _ zga (pv 2) (@zan _ _ _ _ _ _ _ _ _ (@zjs _ rfl) (by rfl) T.min b_min (@zaa _ _ _ _ _ (@zan _ _ _ _ _ _ _ _ _ zam (by rfl) T.len PySem.boot_len (@zaa _ _ _ _ _ (pv 0) zad (by rfl)) (by decide) (by decide) (by rfl) (by rfl)) (@zaa _ _ _ _ _ (@zan _ _ _ _ _ _ _ _ _ zam (by rfl) T.len PySem.boot_len (@zaa _ _ _ _ _ (pv 1) zad (by rfl)) (by decide) (by decide) (by rfl) (by rfl)) zad (by rfl)) (by rfl)) (by decide) (by decide) (by rfl) (by rfl)) (zay _)) (@zcz _ _ _ _ (@zat _ _ _ _ _ _ _ _ zcr (@zaq _ _ _ _ _ _ _ _ _ _ za5 (pv 0) zav (@zas _ _ _ (@zao _ _ _ _ _ _ _ _ za0 (pv 2) zaf))) (@zaq _ _ _ _ _ _ _ _ _ _ za5 (pv 1) zav (@zas _ _ _ (@zao _ _ _ _ _ _ _ _ za0 (pv 2) zaf))) (zay _))))) (@zag _ _ _ (@zap _ _ (2) _ _ _ _ sc.nd rfl (Or.inl rfl) (@zao _ _ _ _ _ _ _ _ za0 (pv 2) zaf) (by rfl) (by first | exact .inl rfl | exact .inr rfl | assumption)))) (@zag _ _ _ (@zax _ _ _ _ (@zaq _ _ _ _ _ _ _ _ _ _ za5 (pv 0) zav (@zas _ _ _ (pv 2))))))),?_⟩
  have lu:=zab u
  have lv:=zab v
  refine ⟨fun n σ H'=>∃ m:Nat,σ = [some (tx u),some (tx v),some (.int (m:Int))]∧H'=H∧m≤min u.length v.length∧u.take m=v.take m∧n=min u.length v.length - m,⟨_,0,rfl,rfl,Nat.zero_le _,rfl,rfl⟩,?_⟩
  rintro n σ H2 ⟨m,rfl,rfl,hm,e,rfl⟩
  refine ⟨_,rfl,_,rfl,_,rfl,by omega,_,rfl,_,rfl,by omega,_,_,rfl,_,_,rfl,rfl,_,rfl,?_⟩
  by_cases hlt:m < min u.length v.length
  ·refine iteC (decide_eq_true (by rw [lu,lv];split <;> omega)) ?_
   refine ⟨_,rfl,_,rfl,_,_,rfl,rfl,_,rfl,_,rfl,by omega,_,rfl,_,rfl,_,_,rfl,rfl,_,rfl,_,rfl,by omega,rfl,_,rfl,?_⟩
   show if decide (V.str (Txt.slice (toS u) none (some ((m:Int)+1)))=V.str (Txt.slice (toS v) none (some ((m:Int)+1))))=true then _ else _
   rw [zaj,zaj,zbe u (by omega),zbe v (by omega),show ((m:Int)+1).toNat=m+1 by omega]
   have hx:=List.getElem?_eq_getElem (l:=u) (i:=m) (by omega)
   have hy:=List.getElem?_eq_getElem (l:=v) (i:=m) (by omega)
   by_cases q:u.take (m+1)=v.take (m+1)
   ·rw [if_pos (by rw [q];exact decide_eq_true rfl)]
    refine ⟨_,fun σ' H' q=>q,?_⟩
    refine ⟨_,rfl,_,_,rfl,rfl,min u.length v.length - (m+1),by omega,m+1,?_,rfl,hlt,q,rfl⟩
    show [some (tx u),some (tx v),some (V.int ((m:Int)+1))]=_
    rw [show (m:Int)+1=((m+1:Nat):Int) by omega]
   ·rw [if_neg (by rw [decide_eq_true_iff];exact fun z=>q (zbq (V.str.inj z)))]
    refine ⟨_,rfl,_,rfl,_,rfl,_,rfl,by omega,?_⟩
    rw [zaj,zbe u (by omega),Int.toNat_natCast]
    have ne:u[m]'(by omega)≠v[m]'(by omega):=fun z=>q (by rw [List.take_add_one,List.take_add_one,e,hx,hy,z])
    rw [← zh7 e hx hy ne]
    exact k _ (Same.refl _)
  ·refine iteD (decide_eq_false (by rw [lu,lv];split <;> omega)) (iteF ?_)
   refine ⟨_,rfl,_,rfl,_,rfl,_,rfl,by omega,?_⟩
   have em:m=min u.length v.length:=by omega
   rw [zaj,zbe u (by omega),Int.toNat_natCast]
   rw [em] at e
   have e2:u.take m=u.take v.length:=by
    rw [em]
    rcases Nat.le_total u.length v.length with q | q
    ·rw [Nat.min_eq_left q,List.take_of_length_le q,List.take_of_length_le (Nat.le_refl _)]
    ·rw [Nat.min_eq_right q]
   rw [e2,← lcp_end e]
   exact k _ (Same.refl _)
noncomputable abbrev s_lthick:Stmt:=top 40
theorem sc_lthick:FnScope ["_law_known","_law_turn","_law_other","_law_piece"] ["_law_known"] (defScope s_lthick):=⟨rfl,rfl,rfl,by decide +kernel,rfl,by decide +kernel,by decide +kernel⟩
theorem c_lthick (D:Df K mg "_law_thick" s_lthick)(T:Bt K w mg aB)(F_lsh:Fnc P w K mg base "_law_share" ["_law_one","_law_other"] 1 spBegin):Fnc P w K mg base "_law_thick" ["_law_known"] 2 spLThick:=by
 have sc:=sc_lthick
 refine D.ok sc (fun _ _ _ _ _ _ us hl=>by obtain ⟨_,rfl⟩:=len1 hl;rfl) (fun vs H Q E h=>?_) (fun f cdv A outer s H vs Q E hr h=>?_)
 ·obtain ⟨l,V,rfl,_⟩:=h
  rfl
 ·obtain ⟨l,V,rfl,hl,hz,hw,kN,kS⟩:=h
  have l16:=za9
  refine ⟨_,(@zae _ _ _ _ _ (@zb0 _ _ _ _ _ _ _ _ PassesOwn.never rfl (@zd1 _ _ _ _ (pv 0)) (@za4 _ _ (1) _ sc.nd rfl (Or.inl rfl) (by first | exact .inl rfl | exact .inr rfl | assumption)) (@zag _ _ _ (@zb0 _ _ _ _ _ _ _ _ PassesOwn.never rfl (@zd1 _ _ _ _ (pv 0)) (@za4 _ _ (2) _ sc.nd rfl (Or.inl rfl) (by first | exact .inl rfl | exact .inr rfl | assumption)) (@zae _ _ _ _ _ (@zap _ _ (3) _ _ _ _ sc.nd rfl (Or.inl rfl) (@zaw _ _ _ _ _ _ _ _ _ _ _ F_lsh hr (by decide) rfl (@zaa _ _ _ _ _ (pv 1) (@zaa _ _ _ _ _ (pv 2) zad (by rfl)) (by rfl)) (by decide) (by rfl) (by rfl)) (by rfl) (by first | exact .inl rfl | exact .inr rfl | assumption)) (@zag _ _ _ (@zbl _ _ _ _ _ _ _ _ (@PW.pt _ _ _ (@zdn _ _ _ _ _ _ _ (@zat _ _ _ _ _ _ _ _ zjp (pv 2) (pv 1) (zay _)) (@zcz _ _ _ _ (@zat _ _ _ _ _ _ _ _ op_ge (@zao _ _ _ _ _ _ _ _ zd4 (@zan _ _ _ _ _ _ _ _ _ zam (by rfl) T.len PySem.boot_len (@zaa _ _ _ _ _ (pv 3) zad (by rfl)) (by decide) (by decide) (by rfl) (by rfl)) zaf) (@zan _ _ _ _ _ _ _ _ _ zam (by rfl) T.len PySem.boot_len (@zaa _ _ _ _ _ (pv 1) zad (by rfl)) (by decide) (by decide) (by rfl) (by rfl)) (zay _))))) (@zag _ _ _ (@zax _ _ _ _ (@zbc _ _ _ _ _ (@zaa _ _ _ _ _ (pv 1) (@zaa _ _ _ _ _ (pv 2) (@zaa _ _ _ _ _ (pv 3) zad (by rfl)) (by rfl)) (by rfl))))) za3))) (by intro _ ;rfl))) (by intro _ ;rfl)) (@zag _ _ _ (@zax _ _ _ _ zcs))),?_⟩
  refine ⟨_,rfl,l,rfl,⟨_,SqL.of hl⟩,?_⟩
  refine zc5 (xs:=V.map tx) (fun i σ H'=>∃ b1 b2 b3:Option L2.V,σ = [some (.ref l),b1,b2,b3]∧Same H H'∧∀ t∈V.take i,fnd V t=none) ⟨none,none,none,rfl,Same.refl _,fun t ht=>by cases ht⟩ (fun i σ H' _ ⟨_,_,_,_,q,_⟩=>SqL.of (q _ _ hl)) ?_ ?_
  ·rintro i x σ H1 hx ⟨b1,b2,b3,rfl,s1,no⟩
   rw [List.getElem?_map] at hx
   cases ht:V[i]? with
   | none=>rw [ht] at hx;cases hx
   | some t =>
    rw [ht] at hx
    cases hx
    have wt:=hw t (List.mem_of_getElem? ht)
    refine ⟨_,rfl,l,rfl,⟨_,SqL.of (s1 _ _ hl)⟩,?_⟩
    refine zc5 (xs:=V.map tx) (fun j σ H'=>∃ b2 b3:Option L2.V,σ = [some (.ref l),some (tx t),b2,b3]∧Same H H'∧∀ o∈V.take j,meets t o=false) ⟨_,_,rfl,s1,fun o ho=>by cases ho⟩ (fun i σ H' _ ⟨_,_,_,q,_⟩=>SqL.of (q _ _ hl)) ?_ ?_
    ·rintro j y σ H2 hy ⟨b2,b3,rfl,s2,no2⟩
     rw [List.getElem?_map] at hy
     cases ho:V[j]? with
     | none=>rw [ho] at hy;cases hy
     | some o =>
      rw [ho] at hy
      cases hy
      have wo:=hw o (List.mem_of_getElem? ho)
      refine ⟨_,rfl,_,rfl,t,o,rfl,wt,wo,fun H3 s3=>?_⟩
      have ll:=(zcg t o).1.length_le
      have lc:=zab (lcp t o)
      have lt:=zab t
      have nxt:meets t o=false→∀ q∈V.take (j+1),meets t q=false:=fun z q hq=>by
       rw [List.take_add_one,ho] at hq
       rcases List.mem_append.mp hq with h | h
       ·exact no2 q h
       ·rw [Option.toList_some,List.mem_singleton] at h
        subst h
        exact z
      refine ⟨_,rfl,_,rfl,rfl,_,rfl,?_⟩
      by_cases eo:o=t
      ·refine iteD (by subst eo;simp) (iteF ?_)
       exact ⟨_,_,rfl,s2.trans s3,nxt (by unfold meets;rw [decide_eq_false (fun z=>z eo)];rfl)⟩
      ·refine iteC (by simp;exact fun z=>eo (zgq z)) ?_
       refine ⟨_,rfl,_,rfl,by omega,_,_,rfl,rfl,.inr ⟨by decide,by decide⟩,_,rfl,_,rfl,by omega,_,_,rfl,rfl,_,rfl,?_⟩
       rw [lc,lt]
       by_cases hs:t.length≤6*(lcp t o).length
       ·refine iteC (decide_eq_true (by omega)) ?_
        have mt:meets t o=true:=by unfold meets;rw [decide_eq_true eo,decide_eq_true hs];rfl
        have hf:fnd V t=some o:=by
         unfold fnd
         obtain ⟨l1,e1⟩:=List.getElem?_eq_some_iff.mp ho
         refine List.find?_eq_some_iff_getElem.mpr ⟨mt,j,l1,e1,fun q hq=>?_⟩
         rw [no2 _ (List.mem_take_iff_getElem.mpr ⟨q,by omega,rfl⟩)]
         rfl
        refine ⟨_,rfl,_,rfl,_,rfl,(by show 3≤sizeLine;omega),fun p hp=>?_⟩
        exact kS _ p t o _ ((s2.trans s3).then hp) (zfe no ht hf) zac
       ·refine iteD (decide_eq_false (by omega)) ?_
        exact ⟨_,_,rfl,s2.trans s3,nxt (by unfold meets;rw [decide_eq_false hs,Bool.and_false])⟩
    ·rintro σ H2 ⟨b2,b3,rfl,s2,no2⟩
     rw [List.take_of_length_le (by simp)] at no2
     refine ⟨_,_,_,rfl,s2,fun q hq=>?_⟩
     rw [List.take_add_one,ht] at hq
     rcases List.mem_append.mp hq with h | h
     ·exact no q h
     ·rw [Option.toList_some,List.mem_singleton] at h
      subst h
      unfold fnd
      rw [List.find?_eq_none]
      intro o ho z
      rw [no2 o ho] at z
      cases z
  ·rintro σ H1 ⟨b1,b2,b3,rfl,s1,no⟩
   rw [List.take_of_length_le (by simp)] at no
   exact kN _ s1 (zfd no)
end
end Kx
namespace Kx
open PySem PySem.Spec PyProof.Rows L2 Wd
section
variable {P:Program} {w:World} {K:PySem.W.Frag} {mg:Str→Option Value} {base:Heap} {aB:Addr}
noncomputable abbrev s_lback:Stmt:=top 34
theorem sc_lback:FnScope ["_law_word","_law_found","_law_sign"] ["_law_word"] (defScope s_lback):=⟨rfl,rfl,rfl,by decide +kernel,rfl,by decide +kernel,by decide +kernel⟩
theorem c_lback (D:Df K mg "_law_back" s_lback):Fnc P w K mg base "_law_back" ["_law_word"] 1 spBk:=by
 have sc:=sc_lback
 refine D.ok sc (fun _ _ _ _ _ _ us hl=>by obtain ⟨_,rfl⟩:=len1 hl;rfl) (fun vs H Q E h=>?_) (fun f cdv A outer s H vs Q E hr h=>?_)
 ·obtain ⟨u,rfl,_⟩:=h
  rfl
 ·obtain ⟨u,rfl,hu,k⟩:=h
  have l16:=za9
  refine ⟨_,(@zae _ _ _ _ _ (@zap _ _ (1) _ _ _ _ sc.nd rfl (Or.inl rfl) zar (by rfl) (by first | exact .inl rfl | exact .inr rfl | assumption)) (@zae _ _ _ _ _ (@zb0 _ _ _ _ _ _ _ _ PassesOwn.never rfl (@pi_str _ _ _ _ (pv 0)) (@za4 _ _ (2) _ sc.nd rfl (Or.inl rfl) (by first | exact .inl rfl | exact .inr rfl | assumption)) (@zag _ _ _ (@zap _ _ (1) _ _ _ _ sc.nd rfl (Or.inl rfl) (@zao _ _ _ _ _ _ _ _ zaz (@zc3 _ _ _ _ _ _ _ _ (@zat _ _ _ _ _ _ _ _ zjq (pv 2) zar rfl) (@pe_bm0 _ _ _ _ _ _ _ _ _ PySem.F.plainAttrs_str PySem.F.slot_str_upper PySem.F.type_str_upper mt_upper (pv 2) (by rfl) (by rfl)) (@pe_bm0 _ _ _ _ _ _ _ _ _ PySem.F.plainAttrs_str PySem.F.slot_str_lower PySem.F.type_str_lower mt_lower (pv 2) (by rfl) (by rfl))) (pv 1)) (by rfl) (by first | exact .inl rfl | exact .inr rfl | assumption))) (by intro _ ;rfl)) (@zag _ _ _ (@zax _ _ _ _ (pv 1))))),?_⟩
  refine ⟨_,rfl,_,rfl,for_str (z:=toS u) (fun i σ H'=>∃ v,σ = [some (tx u),some (tx (bk (u.take i))),v]∧H'=H) ⟨none,(by rw [List.take_zero];show _=[some (tx u),some (tx []),none];rw [tx_nil];rfl),rfl⟩ ?_ ?_⟩
  ·rintro i c σ H1 hc ⟨v,rfl,rfl⟩
   obtain ⟨x,hx,e⟩:=sign_at hc
   rw [e]
   have hi:i < u.length:=(List.getElem?_eq_some_iff.mp hx).1
   have fin:∀ z,z=toS [inv x]→∃ v',[some (tx u),some (V.str (z++toS (bk (u.take i)))),some (V.str (toS [x]))]=[some (tx u),some (tx (bk (u.take (i+1)))),v']∧H1=H1:=fun z ez=>by
    refine ⟨some (V.str (toS [x])),?_,rfl⟩
    rw [ez,zbv,zgy hx,bk_append]
    rfl
   have room:∀ z,z=toS [inv x]→z.length+(toS (bk (u.take i))).length≤sizeLine:=fun z ez=>by
    rw [ez,zab,zab,zej,List.length_take]
    simp only [List.length_singleton]
    omega
   refine ⟨_,rfl,_,_,rfl,rfl,_,rfl,?_⟩
   rw [in_small]
   refine ite2 (fun h=>?_) (fun h=>?_)
   ·have h:x.val < 6:=by simpa using h
    exact ⟨_,rfl,rfl,_,rfl,rfl,(by rw [zab];show 1≤5592405;decide),_,rfl,_,_,rfl,rfl,room _ (zgr h),fin _ (zgr h)⟩
   ·have h:¬ x.val < 6:=by simpa using h
    exact ⟨_,rfl,rfl,_,rfl,rfl,(by rw [zab];show 1≤5592405;decide),_,rfl,_,_,rfl,rfl,room _ (zgs h),fin _ (zgs h)⟩
  ·rintro σ H1 ⟨v,rfl,rfl⟩
   rw [zc9,List.take_length]
   exact ⟨_,rfl,k _ (Same.refl _)⟩
end
end Kx
namespace Kx
open PySem PySem.Spec PyProof.Rows L2 Wd
section
variable {P:Program} {w:World} {K:PySem.W.Frag} {mg:Str→Option Value} {base:Heap} {aB:Addr}
noncomputable abbrev s_lred:Stmt:=top 35
theorem sc_lred:FnScope ["_law_word","_law_at"] ["_law_word"] (defScope s_lred):=⟨rfl,rfl,rfl,by decide +kernel,rfl,by decide +kernel,by decide +kernel⟩
theorem c_lred (D:Df K mg "_law_reduced" s_lred)(T:Bt K w mg aB)(F_lback:Fnc P w K mg base "_law_back" ["_law_word"] 1 spBk):Fnc P w K mg base "_law_reduced" ["_law_word"] 2 spRed:=by
 have sc:=sc_lred
 refine D.ok sc (fun _ _ _ _ _ _ us hl=>by obtain ⟨_,rfl⟩:=len1 hl;rfl) (fun vs H Q E h=>?_) (fun f cdv A outer s H vs Q E hr h=>?_)
 ·obtain ⟨u,rfl,_⟩:=h
  rfl
 ·obtain ⟨u0,rfl,hu,k⟩:=h
  have l16:=za9
  refine ⟨_,(@zae _ _ _ _ _ (@zap _ _ (1) _ _ _ _ sc.nd rfl (Or.inl rfl) zaf (by rfl) (by first | exact .inl rfl | exact .inr rfl | assumption)) (@zae _ _ _ _ _ (@zc4 _ _ _ _ _ _ PassesOwn.never (@zat _ _ _ _ _ _ _ _ zga (@zao _ _ _ _ _ _ _ _ za0 (pv 1) zaf) (@zan _ _ _ _ _ _ _ _ _ zam (by rfl) T.len PySem.boot_len (@zaa _ _ _ _ _ (pv 0) zad (by rfl)) (by decide) (by decide) (by rfl) (by rfl)) (zay _)) (@zag _ _ _ (@zbl _ _ _ _ _ _ _ _ (@zat _ _ _ _ _ _ _ _ zcr (@zbb _ _ _ _ _ _ _ zeb (pv 0) (@zao _ _ _ _ _ _ _ _ za0 (pv 1) zaf) (fun _ _=>rfl)) (@zaw _ _ _ _ _ _ _ _ _ _ _ F_lback hr (by decide) rfl (@zaa _ _ _ _ _ (@zbb _ _ _ _ _ _ _ zeb (pv 0) (pv 1) (fun _ _=>rfl)) zad (by rfl)) (by decide) (by rfl) (by rfl)) (zay _)) (@zae _ _ _ _ _ (@zap _ _ (0) _ _ _ _ sc.nd rfl (Or.inl rfl) (@zao _ _ _ _ _ _ _ _ zaz (@zaq _ _ _ _ _ _ _ _ _ _ za5 (pv 0) zav (@zas _ _ _ (pv 1))) (@zaq _ _ _ _ _ _ _ _ _ _ za5 (pv 0) (@zas _ _ _ (@zao _ _ _ _ _ _ _ _ za0 (pv 1) zaf)) zav)) (by rfl) (by first | exact .inl rfl | exact .inr rfl | assumption)) (@zag _ _ _ (@zap _ _ (1) _ _ _ _ sc.nd rfl (Or.inl rfl) (@zan _ _ _ _ _ _ _ _ _ (@zgb _ rfl) (by rfl) T.max b_max (@zaa _ _ _ _ _ zaf (@zaa _ _ _ _ _ (@zao _ _ _ _ _ _ _ _ ze0 (pv 1) zaf) zad (by rfl)) (by rfl)) (by decide) (by decide) (by rfl) (by rfl)) (by rfl) (by first | exact .inl rfl | exact .inr rfl | assumption)))) (@zag _ _ _ (@zap _ _ (1) _ _ _ _ sc.nd rfl (Or.inl rfl) (@zao _ _ _ _ _ _ _ _ za0 (pv 1) zaf) (by rfl) (by first | exact .inl rfl | exact .inr rfl | assumption)))))) (@zag _ _ _ (@zax _ _ _ _ (pv 0))))),?_⟩
  refine ⟨fun m σ H'=>∃ (u:List L) (j:Nat),σ = [some (tx u),some (.int j)]∧Same H H'∧red u=red u0∧RdTo (j+1) u∧u.length≤5000∧m=2*u.length - j,⟨_,u0,0,rfl,Same.refl _,rfl,(fun i x y hi=>by omega),hu,rfl⟩,?_⟩
  rintro m σ H1 ⟨u,j,rfl,s1,hr0,hrd,hlu,rfl⟩
  refine ⟨_,rfl,_,_,rfl,rfl,_,rfl,_,rfl,(by rw [zab];omega),_,_,rfl,rfl,_,rfl,?_⟩
  rw [zab]
  refine ite2 (fun h=>?_) (fun h=>?_)
  ·have h:j+1 < u.length:=by
    have h:(j:Int)+1 < (u.length:Int):=by simpa using h
    omega
   have hx:u[j]? = some u[j]:=List.getElem?_eq_getElem (by omega)
   have hy:u[j+1]? = some u[j+1]:=List.getElem?_eq_getElem h
   generalize u[j]=x at hx
   generalize u[j+1]=y at hy
   refine ⟨_,fun σ' H' q=>q,?_⟩
   refine ⟨_,rfl,_,rfl,_,_,rfl,rfl,_,_,cp y,rfl,rfl,(by rw [zab];omega),zc1 (k:=j+1) (by omega) hy,?_⟩
   refine ⟨_,rfl,_,rfl,_,_,cp x,rfl,rfl,(by rw [zab];omega),zc1 (k:=j) rfl hx,[x],rfl,(by show 1≤5000;decide),fun H2 s2=>?_⟩
   refine ⟨rfl,_,rfl,?_⟩
   show if decide (tx [y]=tx (bk [x]))=true then _ else _
   rw [dec_tx,zh3]
   refine ite2 (fun h2=>?_) (fun h2=>?_)
   ·have h2:y=inv x:=by simpa using h2
    subst h2
    refine ⟨_,rfl,_,rfl,_,rfl,_,rfl,(by rw [zab];omega),_,rfl,_,rfl,_,_,rfl,rfl,_,rfl,_,rfl,(by rw [zab];omega),_,_,rfl,rfl,?_,?_⟩
    ·rw [zaj,zaj,zab,zab]
     have h1:=zb1 u none (some (j:Int))
     have h2:=zb1 u (some ((j:Int)+2)) none
     omega
    ·refine ⟨_,rfl,_,_,rfl,rfl,_,_,rfl,?_⟩
     have el:(u.take j++u.drop (j+2)).length=u.length - 2:=by rw [List.length_append,List.length_take,List.length_drop];omega
     refine ⟨2*(u.take j++u.drop (j+2)).length - (j - 1),by omega,u.take j++u.drop (j+2),j - 1,?_,s1.trans s2,by rw [red_cut hx hy];exact hr0,rdTo_cut hrd,by omega,rfl⟩
     rw [zaj,zaj,zbe u (by omega),zbf u (by omega),zbv]
     have e1:((j:Int)).toNat=j:=by omega
     have e2:((j:Int)+2).toNat=j+2:=by omega
     have e3:(if ((j:Int) - 1) > 0 then ((j:Int) - 1) else 0)=((j - 1:Nat):Int):=by split <;> omega
     rw [e1,e2,e3]
     rfl
   ·have h2:¬ y=inv x:=by simpa using h2
    refine ⟨_,rfl,_,_,rfl,rfl,?_⟩
    exact ⟨2*u.length - j - 1,by omega,u,j+1,rfl,s1.trans s2,hr0,rdTo_grow hrd (fun a b ha hb=>by rw [hx] at ha;rw [hy] at hb;cases ha;cases hb;exact h2),hlu,by omega⟩
  ·have h:¬ j+1 < u.length:=by
    have h:¬ (j:Int)+1 < (u.length:Int):=by simpa using h
    omega
   refine ⟨_,rfl,?_⟩
   have e:red u0=u:=by rw [← hr0,zhk (by omega) hrd]
   rw [← e]
   exact k _ s1
end
end Kx
namespace Kx
open PySem PySem.Spec PyProof.Rows L2 Wd
section
variable {P:Program} {w:World} {K:PySem.W.Frag} {mg:Str→Option Value} {base:Heap} {aB:Addr}
noncomputable abbrev s_some:Stmt:=top 36
theorem sc_some:FnScope ["_law_feed_here","_law_many","_law_most","_law_signs"] ["_law_feed_here","_law_many","_law_most"] (defScope s_some):=⟨rfl,rfl,rfl,by decide +kernel,rfl,by decide +kernel,by decide +kernel⟩
theorem c_some (D:Df K mg "_law_some" s_some)(T:Bt K w mg aB)(F_draw:Fnc P w K mg base "_law_draw" ["_law_feed_here","_law_many"] 1 spDraw):Fnc P w K mg base "_law_some" ["_law_feed_here","_law_many","_law_most"] 2 spSomeM:=by
 have sc:=sc_some
 refine D.ok sc (fun _ _ _ _ _ _ us hl=>by obtain ⟨_,_,_,rfl⟩:=len3 hl;rfl) (fun vs H Q E h=>?_) (fun f cdv A outer s H vs Q E hr h=>?_)
 ·obtain ⟨d,m,n,rfl,_⟩:=h
  rfl
 ·obtain ⟨d,m,n,rfl,F,m1,m2,n1,n2,k⟩:=h
  have l16:=za9
  refine ⟨_,(@zae _ _ _ _ _ (@zap _ _ (3) _ _ _ _ sc.nd rfl (Or.inr rfl) (@zao _ _ _ _ _ _ _ _ zaz (@zaq _ _ _ _ _ _ _ _ _ _ za5 zar zav (@zas _ _ _ (pv 1))) (@zaq _ _ _ _ _ _ _ _ _ _ za5 zar zav (@zas _ _ _ (pv 1)))) (by rfl) (by first | exact .inl rfl | exact .inr rfl | assumption)) (@zag _ _ _ (@zax _ _ _ _ (@zfl _ _ _ _ _ _ _ _ _ _ _ _ PySem.F.plainAttrs_str PySem.F.slot_str_join PySem.F.type_str_join mt_join zar (@zaa _ _ _ _ _ (@zeh _ _ _ _ _ _ _ (["_law_k","_law_signs","_law_feed_here","_law_many"]) (["_law_k"]) ([3,0,1]) _ _ _ _ (@zef _ _ _ _ _ _ rfl (by kernel_rfl)) rfl (@zcd _ _ _ _ _ _ rfl T.range (@zaa _ _ _ _ _ (@zaw _ _ _ _ _ _ _ _ _ _ _ F_draw hr (by decide) rfl (@zaa _ _ _ _ _ (pv 0) (@zaa _ _ _ _ _ (@zao _ _ _ _ _ _ _ _ za0 (pv 2) zaf) zad (by rfl)) (by rfl)) (by decide) (by rfl) (by rfl)) zad (by rfl)) (by rfl)) (fun _ _ _ _=>@za4 _ _ (0) _ (show (["_law_k","_law_signs","_law_feed_here","_law_many"]:List Str).Nodup from by decide +kernel) rfl (Or.inl rfl) (by first | exact .inl rfl | exact .inr rfl | assumption)) (fun _ _ _ _=>zcm) (fun _ _ _ _=>by (exact (@zbb _ _ _ _ _ _ _ zeb (pv 1) (@zaw _ _ _ _ _ _ _ _ _ _ _ F_draw hr (by decide) rfl (@zaa _ _ _ _ _ (pv 2) (@zaa _ _ _ _ _ (@zao _ _ _ _ _ _ _ _ zd4 zaf (pv 3)) zad (by rfl)) (by rfl)) (by decide) (by rfl) (by rfl)) (fun _ _=>rfl)))) (by intro _ ;rfl)) zad (by rfl)) (by rfl) (by rfl) (by rfl) (by rfl) (by rfl))))),?_⟩
  refine ⟨_,rfl,_,rfl,_,rfl,(by rw [len_sm];omega),_,rfl,_,rfl,_,rfl,(by rw [len_bg];omega),_,_,rfl,rfl,?_,?_⟩
  ·have h1:=Txt.slice_le ("abcdef":Str) none (some m)
   have h2:=Txt.slice_le ("ABCDEF":Str) none (some m)
   rw [len_sm] at h1
   rw [len_bg] at h2
   omega
  rw [slice_sg m1]
  refine ⟨rfl,_,rfl,_,rfl,_,_,rfl,rfl,d,_,rfl,F,by omega,by omega,fun r H1 r0 r1 F1 sb1=>?_⟩
  refine ⟨_,rfl,by omega,by omega,?_⟩
  refine zc0 (own:=["_law_k"]) (cap:=[3,0,1]) (J:=Itr 0 r.toNat) r.toNat (fun i ys σ H'=>∃ (v:Option V) (W:List L),σ = [v,some (tx (sg m)),some (.ref d),some (.int m)]∧ys=ones W∧W.length=i∧InM m.toNat W∧Fd H' d∧SameB d H H')
   ⟨none,[],rfl,rfl,rfl,InM.nil,F1,sb1⟩ (fun i ys σ H' hi ⟨v,W,_,e,e2,_⟩=>by rw [e,zel,e2];exact Nat.le_refl _) (by omega) (fun i ys σ H' hi _=>hi) (fun ys σ H' _=>Nat.le_refl _) ?_ ?_
  ·rintro i ys σ H2 x H3 N hi ⟨v,W,rfl,rfl,hW,hI,F2,sb2⟩ ⟨rfl,rfl⟩ hN
   refine ⟨_,rfl,_,rfl,_,rfl,_,_,rfl,rfl,.inl ⟨by decide,by decide⟩,d,_,rfl,F2,by omega,by omega,fun q H4 q0 q1 F4 sb4=>?_⟩
   have hq:q.toNat < (sg m).length:=by rw [zgx m1 m2];omega
   refine ⟨_,_,cp (sg m)[q.toNat],rfl,rfl,(by rw [zab,zgx m1 m2];omega),zc1 (k:=q.toNat) (by omega) (List.getElem?_eq_getElem hq),hN _ _ _ ⟨_,W++[(sg m)[q.toNat]],rfl,(zgu _ _),by rw [List.length_append,hW];rfl,InM.snoc hI (sg_in m1 m2 _ (List.getElem_mem hq)),F4,sb2.trans sb4⟩⟩
  ·rintro ys σ H2 l ⟨v,W,rfl,rfl,hW,hI,F2,sb2⟩ hl
   refine ⟨_,l,W.map fun x=>toS [x],rfl,rfl,SqL.of (by rw [zac,zh5]),zgw _ (by omega),?_⟩
   rw [zgv]
   exact k _ _ (by omega) hI (F2.new hl) (sb2.trans (Same.new hl).b)
end
end Kx
namespace Kx
open PySem PySem.Spec PyProof.Rows L2 Wd
noncomputable def spMid:Sp:=fun vs H Q _=>∃ w,vs=[tx w]∧w.length≤2000∧∀ (f md:List L) (H':Hp),Core [] (red w) (f,md)→md.length≤w.length→(∀ x∈md,x∈w)→Same H H'→Q (tx md) H'
theorem core_sub:∀ {f m:List L} {r:List L × List L},Core f m r→(∀ x∈r.2,x∈m)∧r.1.length+r.2.length≤f.length+m.length∧r.2.length≤m.length:=by
 intro f m r h
 induction h with
 | stop f m hn=>exact ⟨fun x hx=>hx,Nat.le_refl _,Nat.le_refl _⟩
 | step f x mid r h ih =>
  obtain ⟨h1,h2,h3⟩:=ih
  rw [List.length_append,List.length_singleton] at h2
  rw [zcq]
  exact ⟨fun y hy=>List.mem_cons_of_mem _ (List.mem_append_left _ (h1 y hy)),by omega,by omega⟩
section
variable {P:Program} {w:World} {K:PySem.W.Frag} {mg:Str→Option Value} {base:Heap} {aB:Addr}
noncomputable abbrev s_mid:Stmt:=top 37
theorem sc_mid:FnScope ["_law_word","_law_short"] ["_law_word"] (defScope s_mid):=⟨rfl,rfl,rfl,by decide +kernel,rfl,by decide +kernel,by decide +kernel⟩
theorem c_mid (D:Df K mg "_law_middle" s_mid)(T:Bt K w mg aB)(F_lback:Fnc P w K mg base "_law_back" ["_law_word"] 1 spBk)(F_lred:Fnc P w K mg base "_law_reduced" ["_law_word"] 2 spRed):Fnc P w K mg base "_law_middle" ["_law_word"] 3 spMid:=by
 have sc:=sc_mid
 refine D.ok sc (fun _ _ _ _ _ _ us hl=>by obtain ⟨_,rfl⟩:=len1 hl;rfl) (fun vs H Q E h=>?_) (fun f cdv A outer s H vs Q E hr h=>?_)
 ·obtain ⟨u,rfl,_⟩:=h
  rfl
 ·obtain ⟨u,rfl,hu,k⟩:=h
  have l16:=za9
  have hru:=zi0 u
  refine ⟨_,(@zae _ _ _ _ _ (@zap _ _ (1) _ _ _ _ sc.nd rfl (Or.inl rfl) (@zaw _ _ _ _ _ _ _ _ _ _ _ F_lred hr (by decide) rfl (@zaa _ _ _ _ _ (pv 0) zad (by rfl)) (by decide) (by rfl) (by rfl)) (by rfl) (by first | exact .inl rfl | exact .inr rfl | assumption)) (@zae _ _ _ _ _ (@zc4 _ _ _ _ _ _ PassesOwn.never (@PW.pt _ _ _ (@zdn _ _ _ _ _ _ _ (@zat _ _ _ _ _ _ _ _ op_gt (@zan _ _ _ _ _ _ _ _ _ zam (by rfl) T.len PySem.boot_len (@zaa _ _ _ _ _ (pv 1) zad (by rfl)) (by decide) (by decide) (by rfl) (by rfl)) zaf (zay _)) (@zcz _ _ _ _ (@zat _ _ _ _ _ _ _ _ zcr (@zbb _ _ _ _ _ _ _ zeb (pv 1) zaf (fun _ _=>rfl)) (@zaw _ _ _ _ _ _ _ _ _ _ _ F_lback hr (by decide) rfl (@zaa _ _ _ _ _ (@zbb _ _ _ _ _ _ _ zeb (pv 1) (@zao _ _ _ _ _ _ _ _ ze0 (@zan _ _ _ _ _ _ _ _ _ zam (by rfl) T.len PySem.boot_len (@zaa _ _ _ _ _ (pv 1) zad (by rfl)) (by decide) (by decide) (by rfl) (by rfl)) zaf) (fun _ _=>rfl)) zad (by rfl)) (by decide) (by rfl) (by rfl)) (zay _))))) (@zag _ _ _ (@zap _ _ (1) _ _ _ _ sc.nd rfl (Or.inl rfl) (@zaq _ _ _ _ _ _ _ _ _ _ za5 (pv 1) (@zas _ _ _ zaf) (@zas _ _ _ (@zao _ _ _ _ _ _ _ _ ze0 (@zan _ _ _ _ _ _ _ _ _ zam (by rfl) T.len PySem.boot_len (@zaa _ _ _ _ _ (pv 1) zad (by rfl)) (by decide) (by decide) (by rfl) (by rfl)) zaf))) (by rfl) (by first | exact .inl rfl | exact .inr rfl | assumption)))) (@zag _ _ _ (@zax _ _ _ _ (pv 1))))),?_⟩
  refine ⟨_,rfl,u,rfl,by omega,fun H1 s1=>?_⟩
  refine ⟨fun n σ H'=>∃ (fr md:List L),σ = [some (tx u),some (tx md)]∧Same H H'∧(∀ r,Core fr md r→Core [] (red u) r)∧fr.length+md.length≤u.length∧n=md.length,⟨_,[],red u,rfl,s1,fun _ q=>q,(by simp only [List.length_nil];omega),rfl⟩,?_⟩
  rintro n σ H2 ⟨fr,md,rfl,s2,hC,hl,rfl⟩
  have fin:(∀ x mid,md≠x::(mid++[inv x]))→∀ H3,Same H H3→Q (tx md) H3:=fun hn H3 s3=>by
   have c:=hC _ (.stop fr md hn)
   exact k fr md _ c (by omega) (fun x hx=>red_mem ((core_sub c).1 x hx)) s3
  have hmd:(toS md).length≤sizeLine:=by rw [zab];omega
  by_cases h1:1 < md.length
  ·refine ⟨_,rfl,_,rfl,hmd,_,_,rfl,rfl,_,rfl,iteC (by rw [zab];exact decide_eq_true (by omega)) ?_⟩
   obtain ⟨x,mid,z,rfl⟩:=two_ends h1
   refine ⟨_,rfl,_,_,cp x,rfl,rfl,hmd,zc1 (k:=0) rfl rfl,_,rfl,_,rfl,_,rfl,hmd,_,_,rfl,rfl,_,_,cp z,rfl,rfl,hmd,zc1 (k:=mid.length+1) ?_ ?_,[z],rfl,(by show 1≤5000;decide),fun H3 s3=>⟨rfl,_,rfl,?_⟩⟩
   ·rw [zab];simp
   ·simp
   show if decide (tx [x]=tx (bk [z]))=true then _ else _
   rw [dec_tx,zh3]
   refine ite2 (fun h=>?_) (fun h=>?_)
   ·have h:x=inv z:=by simpa using h
    have h:z=inv x:=by rw [h,zei]
    subst h
    refine ⟨_,fun σ' H' q=>q,?_⟩
    refine ⟨_,rfl,_,rfl,_,rfl,_,rfl,hmd,_,_,rfl,rfl,_,rfl,_,rfl,hmd,?_⟩
    rw [zaj,zab,cut_ends2]
    rw [zcq] at hl
    refine ⟨mid.length,by rw [zcq];omega,fr++[x],mid,rfl,s2.trans s3,fun q hq=>hC q (.step fr x mid q hq),?_,rfl⟩
    rw [List.length_append,List.length_singleton]
    omega
   ·have h:¬ x=inv z:=by simpa using h
    exact ⟨_,rfl,fin (fun y m2 e=>by
     obtain ⟨e1,e2⟩:=List.cons.inj e
     subst e1
     have e3:=List.append_inj_right' e2 rfl
     exact h (by rw [(List.cons.inj e3).1,zei])) _ (s2.trans s3)⟩
  ·refine ⟨_,rfl,_,rfl,hmd,_,_,rfl,rfl,_,rfl,iteD (by rw [zab];exact decide_eq_false (by omega)) (iteF ?_)⟩
   exact ⟨_,rfl,fin (fun x mid e=>by rw [e,zcq] at h1;omega) _ s2⟩
end
end Kx
namespace Kx
open PySem PySem.Spec PyProof.Rows L2 Wd
section
variable {P:Program} {w:World} {K:PySem.W.Frag} {mg:Str→Option Value} {base:Heap} {aB:Addr}
noncomputable abbrev s_lrings:Stmt:=top 42
theorem sc_lrings:FnScope ["_law_feed_here","_law_most","_law_many","_law_rows","_law_some_here"] ["_law_feed_here","_law_most"] (defScope s_lrings):=⟨rfl,rfl,rfl,by decide +kernel,rfl,by decide +kernel,by decide +kernel⟩
theorem c_lrings (D:Df K mg "_law_rings" s_lrings)(T:Bt K w mg aB)(F_draw:Fnc P w K mg base "_law_draw" ["_law_feed_here","_law_many"] 1 spDraw)(F_some:Fnc P w K mg base "_law_some" ["_law_feed_here","_law_many","_law_most"] 2 spSomeM)(F_mid:Fnc P w K mg base "_law_middle" ["_law_word"] 3 spMid):Fnc P w K mg base "_law_rings" ["_law_feed_here","_law_most"] 4 spLRings:=by
 have sc:=sc_lrings
 refine D.ok sc (fun _ _ _ _ _ _ us hl=>by obtain ⟨_,_,rfl⟩:=len2 hl;rfl) (fun vs H Q E h=>?_) (fun f cdv A outer s H vs Q E hr h=>?_)
 ·obtain ⟨d,n,rfl,_⟩:=h
  rfl
 ·obtain ⟨d,n,rfl,F0,hn,k⟩:=h
  have l16:=za9
  refine ⟨_,(@zae _ _ _ _ _ (@zap _ _ (2) _ _ _ _ sc.nd rfl (Or.inr rfl) (@zao _ _ _ _ _ _ _ _ za0 zaf (@zaw _ _ _ _ _ _ _ _ _ _ _ F_draw hr (by decide) rfl (@zaa _ _ _ _ _ (pv 0) (@zaa _ _ _ _ _ zaf zad (by rfl)) (by rfl)) (by decide) (by rfl) (by rfl))) (by rfl) (by first | exact .inl rfl | exact .inr rfl | assumption)) (@zae _ _ _ _ _ (@zap _ _ (3) _ _ _ _ sc.nd rfl (Or.inr rfl) (@zaw _ _ _ _ _ _ _ _ _ _ _ F_draw hr (by decide) rfl (@zaa _ _ _ _ _ (pv 0) (@zaa _ _ _ _ _ zaf zad (by rfl)) (by rfl)) (by decide) (by rfl) (by rfl)) (by rfl) (by first | exact .inl rfl | exact .inr rfl | assumption)) (@zae _ _ _ _ _ (@ps_setC _ (4) _ _ _ _ _ _ _ _ _ (["_law_k","_law_feed_here","_law_many","_law_most","_law_rows"]) (["_law_k"]) ([0,2,1,3]) _ _ _ _ sc.nd rfl (Or.inl rfl) (@zef _ _ _ _ _ _ rfl (by kernel_rfl)) rfl (@zcd _ _ _ _ _ _ rfl T.range (@zaa _ _ _ _ _ (pv 3) zad (by rfl)) (by rfl)) (fun _ _ _ _=>@za4 _ _ (0) _ (show (["_law_k","_law_feed_here","_law_many","_law_most","_law_rows"]:List Str).Nodup from by decide +kernel) rfl (Or.inl rfl) (by first | exact .inl rfl | exact .inr rfl | assumption)) (fun _ _ _ _=>zcm) (fun _ _ _ _=>by (exact (@zaw _ _ _ _ _ _ _ _ _ _ _ F_mid hr (by decide) rfl (@zaa _ _ _ _ _ (@zaw _ _ _ _ _ _ _ _ _ _ _ F_some hr (by decide) rfl (@zaa _ _ _ _ _ (pv 1) (@zaa _ _ _ _ _ (pv 2) (@zaa _ _ _ _ _ (@zc3 _ _ _ _ _ _ _ _ (@zat _ _ _ _ _ _ _ _ zga (pv 4) zaf (zay _)) (pv 3) zaf) zad (by rfl)) (by rfl)) (by rfl)) (by decide) (by rfl) (by rfl)) zad (by rfl)) (by decide) (by rfl) (by rfl)))) (by intro _ ;rfl) (by rfl) (by first | exact .inl rfl | exact .inr rfl | assumption)) (@zag _ _ _ (@zax _ _ _ _ (@zbj _ _ _ _ _ _ _ _ _ zbn (by rfl) T.tuple zfx (@zaa _ _ _ _ _ (@zeh _ _ _ _ _ _ _ (["_law_one"]) (["_law_one"]) ([]) _ _ _ _ (@zef _ _ _ _ _ _ rfl (by kernel_rfl)) rfl (@zd1 _ _ _ _ (pv 4)) (fun _ _ _ _=>@za4 _ _ (0) _ (show (["_law_one"]:List Str).Nodup from by decide +kernel) rfl (Or.inl rfl) (by first | exact .inl rfl | exact .inr rfl | assumption)) (fun _ _ _ _=>(@pifs_one _ _ _ (by exact (@zat _ _ _ _ _ _ _ _ zjp (pv 0) zar (zay _))))) (fun _ _ _ _=>by (exact (pv 0))) (by intro _ ;rfl)) zad (by rfl)) (by decide) (by decide) (by rfl) (by rfl))))))),?_⟩
  refine ⟨_,rfl,d,_,rfl,F0,by decide,by decide,fun r H1 r0 r1 F1 sb1=>⟨_,_,rfl,rfl,?_⟩⟩
  obtain ⟨m0,rfl⟩:=Int.eq_ofNat_of_zero_le r0
  refine ⟨_,rfl,d,_,rfl,F1,by decide,by decide,fun r2 H2 r20 r21 F2 sb2=>?_⟩
  obtain ⟨n2,rfl⟩:=Int.eq_ofNat_of_zero_le r20
  refine ⟨_,rfl,_,rfl,by omega,by omega,?_⟩
  rw [Int.toNat_natCast]
  refine zc0 (own:=["_law_k"]) (cap:=[0,2,1,3]) (J:=Itr 0 n2) n2 (fun j ys σ H'=>∃ (v:Option V) (W:List (List L)),σ = [v,some (.ref d),some (.int (1+(m0:Int))),some (.int (n:Int)),some (.int (n2:Int))]∧ys=W.map tx∧Wl j 10 W∧Fd H' d∧SameB d H H') ⟨none,[],rfl,rfl,⟨Nat.le_refl _,fun v hv=>by cases hv⟩,F2,sb1.trans sb2⟩ (fun j ys σ H' hj ⟨_,W,_,e,wl,_⟩=>by rw [e,List.length_map];exact wl.1) (by omega) (fun j ys σ H' hj _=>hj) (fun ys σ H' _=>Nat.le_refl _) ?_ ?_
  ·rintro j ys σ HX x HY N hj ⟨v,W,rfl,rfl,wl,F3,sb3⟩ ⟨rfl,rfl⟩ hN
   refine ⟨_,rfl,_,rfl,_,rfl,_,_,rfl,rfl,_,rfl,ite2 (fun _=>?_) (fun _=>?_)⟩
   ·refine ⟨_,rfl,d,1+(m0:Int),(n:Int),rfl,F3,by omega,by omega,by omega,by omega,fun u H7 hu hI F7 sb7=>?_⟩
    have hu:u.length≤10:=Nat.le_trans hu (by omega)
    refine ⟨u,rfl,by omega,fun fr md H8 _ hl hmem s8=>hN _ _ _ ⟨_,W++[md],rfl,by rw [List.map_append];rfl,wl.snoc (by omega),F7.same s8,sb3.trans (sb7.trans s8.b)⟩⟩
   ·refine ⟨d,1+(m0:Int),3,rfl,F3,by omega,by omega,by decide,by decide,fun u H7 hu hI F7 sb7=>?_⟩
    have hu:u.length≤10:=Nat.le_trans hu (by omega)
    refine ⟨u,rfl,by omega,fun fr md H8 _ hl hmem s8=>hN _ _ _ ⟨_,W++[md],rfl,by rw [List.map_append];rfl,wl.snoc (by omega),F7.same s8,sb3.trans (sb7.trans s8.b)⟩⟩
  rintro ys σ H3 l ⟨v,W,rfl,rfl,wl,F3,sb3⟩ hl
  have s4:Same H3 (upd H3 l (.lst (W.map tx))):=Same.new hl
  have f4:(upd H3 l (.lst (W.map tx))) l=some (.lst (W.map tx)):=zac
  generalize upd H3 l (.lst (W.map tx))=H4 at s4 f4 ⊢
  have F4:=F3.same s4
  refine ⟨_,rfl,l,rfl,⟨_,SqL.of f4⟩,?_⟩
  have w7:=wl.1
  refine zc0 (own:=["_law_one"]) (cap:=[]) (J:=Itl K l) (W.map tx).length (fun j ys σ H'=>∃ (v:Option V) (V':List (List L)),σ = [v]∧ys=V'.map tx∧V'.length≤j∧(∀ x∈V',x≠[]∧x.length≤40)∧H'=H4) ⟨none,[],rfl,rfl,Nat.le_refl _,(fun v hv=>by cases hv),rfl⟩ (fun j ys σ H' hj ⟨_,V',_,e,e2,_⟩=>by rw [e,List.length_map];exact e2) (by rw [List.length_map];omega) (fun j ys σ H' hj ⟨_,_,_,_,_,_,e⟩=>?_) (fun ys σ H' ⟨_,_,_,_,_,_,e⟩=>?_) ?_ ?_
  ·rw [e];exact ⟨W.map tx,_,SqL.of f4,List.getElem?_eq_getElem hj⟩
  ·rw [e];exact ⟨W.map tx,SqL.of f4,Nat.le_refl _⟩
  ·rintro j ys σ HX x HY N hj ⟨v,V',rfl,rfl,hV,vm,rfl⟩ ⟨rfl,hx⟩ hN
   have hx:=hx _ (SqL.of f4)
   obtain ⟨u,hu,rfl⟩:∃ u,W[j]? = some u∧x=tx u:=by
    rw [List.getElem?_map] at hx
    cases e:W[j]? with
    | none=>rw [e] at hx;cases hx
    | some u=>rw [e] at hx;exact ⟨u,rfl,(Option.some.inj hx).symm⟩
   have ul:=wl.2 u (List.mem_of_getElem? hu)
   refine ⟨_,rfl,rfl,_,rfl,ite2 (fun h=>?_) (fun _=>hN _ _ _ ⟨_,V',rfl,rfl,by omega,vm,rfl⟩)⟩
   have ne:u≠[]:=fun z=>by subst z;rw [tx_nil] at h;simp at h
   refine ⟨_,rfl,hN _ _ _ ⟨_,V'++[u],rfl,by rw [List.map_append];rfl,by rw [List.length_append];simp;omega,fun x hx=>?_,rfl⟩⟩
   rcases List.mem_append.mp hx with q | q
   ·exact vm x q
   ·rw [List.mem_singleton] at q
    subst q
    exact ⟨ne,by omega⟩
  rintro ys σ H5 l2 ⟨v,V',rfl,rfl,hV,vm,rfl⟩ hl2
  rw [List.length_map] at hV
  refine ⟨l2,_,rfl,.inl ⟨SqL.of zac,fun rg hrg=>?_⟩⟩
  have s9:Same H3 (upd (upd H5 l2 (.lst (V'.map tx))) rg (.tup (V'.map tx))):=s4.trans ((Same.new hl2).then hrg)
  exact k rg V' _ ⟨by omega,fun r hr=>⟨(vm r hr).1,by have:=(vm r hr).2;omega⟩⟩ (fun r hr=>(vm r hr).2) (by omega) zac (F3.same s9) (sb3.trans s9.b)
end
end Kx
namespace Kx
open PySem PySem.Spec PyProof.Rows L2 Wd
section
variable {P:Program} {w:World} {K:PySem.W.Frag} {mg:Str→Option Value} {base:Heap} {aB:Addr}
theorem ite2N {c:Prop}[Decidable c]{A:Prop}{D:Ends}{σ:L2.St}{H0:Hp}(ok:L2.St→Hp→Prop)(oB:ok σ H0)(main:∀ σ H,ok σ H→D.nx σ H)(hA:(∀ σ H,ok σ H→D.nx σ H)→A):if c then A else tNext D σ H0:=by
 by_cases h:c
 ·rw [if_pos h];exact hA main
 ·rw [if_neg h];exact main σ H0 oB
noncomputable abbrev s_lthin:Stmt:=top 41
theorem sc_lthin:FnScope ["_law_feed_here","_law_way","_law_rings_here","_law_powers","_law_turned","_law_ring","_law_at","_law_fits"] ["_law_feed_here"] (defScope s_lthin):=⟨rfl,rfl,rfl,by decide +kernel,rfl,by decide +kernel,by decide +kernel⟩
theorem c_lthin (D:Df K mg "_law_thin" s_lthin)(T:Bt K w mg aB)(F_draw:Fnc P w K mg base "_law_draw" ["_law_feed_here","_law_many"] 1 spDraw)(F_lback:Fnc P w K mg base "_law_back" ["_law_word"] 1 spBk)(F_some:Fnc P w K mg base "_law_some" ["_law_feed_here","_law_many","_law_most"] 2 spSomeM)(F_mid:Fnc P w K mg base "_law_middle" ["_law_word"] 3 spMid)(F_ltof:Fnc P w K mg base "_law_turns_of" ["_law_rings_here"] 2 spTurnsOf2)(F_lthick:Fnc P w K mg base "_law_thick" ["_law_known"] 2 spLThick):Fnc P w K mg base "_law_thin" ["_law_feed_here"] 4 spLThin:=by
 have sc:=sc_lthin
 refine D.ok sc (fun _ _ _ _ _ _ us hl=>by obtain ⟨_,rfl⟩:=len1 hl;rfl) (fun vs H Q E h=>?_) (fun f cdv A outer s H vs Q E hr h=>?_)
 ·obtain ⟨d,rfl,_⟩:=h
  rfl
 ·obtain ⟨d,rfl,F0,k⟩:=h
  have l16:=za9
  refine ⟨_,(@zae _ _ _ _ _ (@zap _ _ (1) _ _ _ _ sc.nd rfl (Or.inl rfl) (@zaw _ _ _ _ _ _ _ _ _ _ _ F_draw hr (by decide) rfl (@zaa _ _ _ _ _ (pv 0) (@zaa _ _ _ _ _ zaf zad (by rfl)) (by rfl)) (by decide) (by rfl) (by rfl)) (by rfl) (by first | exact .inl rfl | exact .inr rfl | assumption)) (@zae _ _ _ _ _ (@zap _ _ (2) _ _ _ _ sc.nd rfl (Or.inl rfl) (@zbc _ _ _ _ _ zad) (by rfl) (by first | exact .inl rfl | exact .inr rfl | assumption)) (@zae _ _ _ _ _ (@zbl _ _ _ _ _ _ _ _ (@zat _ _ _ _ _ _ _ _ zcr (pv 1) zaf (zay _)) (@zae _ _ _ _ _ (@ps_setC _ (3) _ _ _ _ _ _ _ _ _ (["_law_sign","_law_feed_here"]) (["_law_sign"]) ([0]) _ _ _ _ sc.nd rfl (Or.inl rfl) (@zef _ _ _ _ _ _ rfl (by kernel_rfl)) rfl (@pi_str _ _ _ _ zar) (fun _ _ _ _=>@za4 _ _ (0) _ (show (["_law_sign","_law_feed_here"]:List Str).Nodup from by decide +kernel) rfl (Or.inl rfl) (by first | exact .inl rfl | exact .inr rfl | assumption)) (fun _ _ _ _=>zcm) (fun _ _ _ _=>by (exact @zao _ _ _ _ _ _ _ _ zba (by (exact (pv 0))) (by (exact @zao _ _ _ _ _ _ _ _ za0 (by (exact zaf)) (by (exact (@zaw _ _ _ _ _ _ _ _ _ _ _ F_draw hr (by decide) rfl (@zaa _ _ _ _ _ (pv 1) (@zaa _ _ _ _ _ zaf zad (by rfl)) (by rfl)) (by decide) (by rfl) (by rfl)))))))) (by intro _ ;rfl) (by rfl) (by first | exact .inl rfl | exact .inr rfl | assumption)) (@zag _ _ _ (@zap _ _ (2) _ _ _ _ sc.nd rfl (Or.inl rfl) (@zaq _ _ _ _ _ _ _ _ _ _ zf2 (@zbj _ _ _ _ _ _ _ _ _ zbn (by rfl) T.tuple zfx (@zaa _ _ _ _ _ (@zao _ _ _ _ _ _ _ _ zjy (pv 3) (@zct _ _ _ _ (@zaa _ _ _ _ _ (@zao _ _ _ _ _ _ _ _ zba zar (@zao _ _ _ _ _ _ _ _ za0 zaf (@zaw _ _ _ _ _ _ _ _ _ _ _ F_draw hr (by decide) rfl (@zaa _ _ _ _ _ (pv 0) (@zaa _ _ _ _ _ zaf zad (by rfl)) (by rfl)) (by decide) (by rfl) (by rfl)))) zad (by rfl)))) zad (by rfl)) (by decide) (by decide) (by rfl) (by rfl)) (@zas _ _ _ (@zaw _ _ _ _ _ _ _ _ _ _ _ F_draw hr (by decide) rfl (@zaa _ _ _ _ _ (pv 0) (@zaa _ _ _ _ _ zaf zad (by rfl)) (by rfl)) (by decide) (by rfl) (by rfl))) zav) (by rfl) (by first | exact .inl rfl | exact .inr rfl | assumption)))) za3) (@zae _ _ _ _ _ (@zbl _ _ _ _ _ _ _ _ (@zat _ _ _ _ _ _ _ _ zcr (pv 1) zaf (zay _)) (@zag _ _ _ (@zap _ _ (2) _ _ _ _ sc.nd rfl (Or.inl rfl) (@zaq _ _ _ _ _ _ _ _ _ _ zf2 (@zbc _ _ _ _ _ (@zaa _ _ _ _ _ (@zao _ _ _ _ _ _ _ _ zba zar (@zao _ _ _ _ _ _ _ _ za0 zaf (@zaw _ _ _ _ _ _ _ _ _ _ _ F_draw hr (by decide) rfl (@zaa _ _ _ _ _ (pv 0) (@zaa _ _ _ _ _ zaf zad (by rfl)) (by rfl)) (by decide) (by rfl) (by rfl)))) (@zaa _ _ _ _ _ (@zao _ _ _ _ _ _ _ _ zba zar (@zao _ _ _ _ _ _ _ _ za0 zaf (@zaw _ _ _ _ _ _ _ _ _ _ _ F_draw hr (by decide) rfl (@zaa _ _ _ _ _ (pv 0) (@zaa _ _ _ _ _ zaf zad (by rfl)) (by rfl)) (by decide) (by rfl) (by rfl)))) zad (by rfl)) (by rfl))) (@zas _ _ _ (@zaw _ _ _ _ _ _ _ _ _ _ _ F_draw hr (by decide) rfl (@zaa _ _ _ _ _ (pv 0) (@zaa _ _ _ _ _ zaf zad (by rfl)) (by rfl)) (by decide) (by rfl) (by rfl))) zav) (by rfl) (by first | exact .inl rfl | exact .inr rfl | assumption))) za3) (@zae _ _ _ _ _ (@zbl _ _ _ _ _ _ _ _ (@zat _ _ _ _ _ _ _ _ zcr (pv 1) zaf (zay _)) (@zag _ _ _ (@zap _ _ (2) _ _ _ _ sc.nd rfl (Or.inl rfl) (@zbc _ _ _ _ _ (@zaa _ _ _ _ _ (@zao _ _ _ _ _ _ _ _ zba (@zaw _ _ _ _ _ _ _ _ _ _ _ F_mid hr (by decide) rfl (@zaa _ _ _ _ _ (@zaw _ _ _ _ _ _ _ _ _ _ _ F_some hr (by decide) rfl (@zaa _ _ _ _ _ (pv 0) (@zaa _ _ _ _ _ zaf (@zaa _ _ _ _ _ zaf zad (by rfl)) (by rfl)) (by rfl)) (by decide) (by rfl) (by rfl)) zad (by rfl)) (by decide) (by rfl) (by rfl)) (@zao _ _ _ _ _ _ _ _ za0 zaf (@zaw _ _ _ _ _ _ _ _ _ _ _ F_draw hr (by decide) rfl (@zaa _ _ _ _ _ (pv 0) (@zaa _ _ _ _ _ zaf zad (by rfl)) (by rfl)) (by decide) (by rfl) (by rfl)))) zad (by rfl))) (by rfl) (by first | exact .inl rfl | exact .inr rfl | assumption))) za3) (@zae _ _ _ _ _ (@zbl _ _ _ _ _ _ _ _ (@zat _ _ _ _ _ _ _ _ zcr (pv 1) zaf (zay _)) (@zag _ _ _ (@zap _ _ (2) _ _ _ _ sc.nd rfl (Or.inl rfl) (@zbc _ _ _ _ _ (@zaa _ _ _ _ _ (@zao _ _ _ _ _ _ _ _ zba zar (@zao _ _ _ _ _ _ _ _ za0 zaf (@zaw _ _ _ _ _ _ _ _ _ _ _ F_draw hr (by decide) rfl (@zaa _ _ _ _ _ (pv 0) (@zaa _ _ _ _ _ zaf zad (by rfl)) (by rfl)) (by decide) (by rfl) (by rfl)))) (@zaa _ _ _ _ _ (@zao _ _ _ _ _ _ _ _ zba zar (@zao _ _ _ _ _ _ _ _ za0 zaf (@zaw _ _ _ _ _ _ _ _ _ _ _ F_draw hr (by decide) rfl (@zaa _ _ _ _ _ (pv 0) (@zaa _ _ _ _ _ zaf zad (by rfl)) (by rfl)) (by decide) (by rfl) (by rfl)))) (@zaa _ _ _ _ _ (@zao _ _ _ _ _ _ _ _ zba zar (@zao _ _ _ _ _ _ _ _ za0 zaf (@zaw _ _ _ _ _ _ _ _ _ _ _ F_draw hr (by decide) rfl (@zaa _ _ _ _ _ (pv 0) (@zaa _ _ _ _ _ zaf zad (by rfl)) (by rfl)) (by decide) (by rfl) (by rfl)))) zad (by rfl)) (by rfl)) (by rfl))) (by rfl) (by first | exact .inl rfl | exact .inr rfl | assumption))) za3) (@zae _ _ _ _ _ (@zbl _ _ _ _ _ _ _ _ (@zat _ _ _ _ _ _ _ _ op_gt (pv 1) zaf (zay _)) (@zae _ _ _ _ _ (@zap _ _ (2) _ _ _ _ sc.nd rfl (Or.inl rfl) (@zbc _ _ _ _ _ (@zaa _ _ _ _ _ (@zbb _ _ _ _ _ _ _ zb5 (@zct _ _ _ _ (@zaa _ _ _ _ _ zar (@zaa _ _ _ _ _ zar (@zaa _ _ _ _ _ zar (@zaa _ _ _ _ _ zar zad (by rfl)) (by rfl)) (by rfl)) (by rfl))) (@zaw _ _ _ _ _ _ _ _ _ _ _ F_draw hr (by decide) rfl (@zaa _ _ _ _ _ (pv 0) (@zaa _ _ _ _ _ zaf zad (by rfl)) (by rfl)) (by decide) (by rfl) (by rfl)) (fun _ _=>rfl)) (@zaa _ _ _ _ _ (@zao _ _ _ _ _ _ _ _ zba zar (@zao _ _ _ _ _ _ _ _ za0 zaf (@zaw _ _ _ _ _ _ _ _ _ _ _ F_draw hr (by decide) rfl (@zaa _ _ _ _ _ (pv 0) (@zaa _ _ _ _ _ zaf zad (by rfl)) (by rfl)) (by decide) (by rfl) (by rfl)))) zad (by rfl)) (by rfl))) (by rfl) (by first | exact .inl rfl | exact .inr rfl | assumption)) (@zag _ _ _ (@zap _ _ (2) _ _ _ _ sc.nd rfl (Or.inl rfl) (@zaq _ _ _ _ _ _ _ _ _ _ zf2 (pv 2) zav (@zas _ _ _ (@zao _ _ _ _ _ _ _ _ za0 zaf (@zaw _ _ _ _ _ _ _ _ _ _ _ F_draw hr (by decide) rfl (@zaa _ _ _ _ _ (pv 0) (@zaa _ _ _ _ _ zaf zad (by rfl)) (by rfl)) (by decide) (by rfl) (by rfl))))) (by rfl) (by first | exact .inl rfl | exact .inr rfl | assumption)))) za3) (@zae _ _ _ _ _ (@zap _ _ (4) _ _ _ _ sc.nd rfl (Or.inl rfl) (@zct _ _ _ _ zad) (by rfl) (by first | exact .inl rfl | exact .inr rfl | assumption)) (@zae _ _ _ _ _ (@zb0 _ _ _ _ _ _ _ _ PassesOwn.never rfl (@zjk _ _ _ _ (pv 2)) (@za4 _ _ (5) _ sc.nd rfl (Or.inl rfl) (by first | exact .inl rfl | exact .inr rfl | assumption)) (@zae _ _ _ _ _ (@zap _ _ (6) _ _ _ _ sc.nd rfl (Or.inl rfl) (@zaw _ _ _ _ _ _ _ _ _ _ _ F_draw hr (by decide) rfl (@zaa _ _ _ _ _ (pv 0) (@zaa _ _ _ _ _ (@zao _ _ _ _ _ _ _ _ za0 (@zan _ _ _ _ _ _ _ _ _ zam (by rfl) T.len PySem.boot_len (@zaa _ _ _ _ _ (pv 5) zad (by rfl)) (by decide) (by decide) (by rfl) (by rfl)) zaf) zad (by rfl)) (by rfl)) (by decide) (by rfl) (by rfl)) (by rfl) (by first | exact .inl rfl | exact .inr rfl | assumption)) (@zag _ _ _ (@zdf _ _ _ _ (@zfl _ _ _ _ _ _ _ _ _ _ _ _ PySem.F.plainAttrs_list PySem.F.slot_list_append PySem.F.type_list_append zec (pv 4) (@zaa _ _ _ _ _ (@zbb _ _ _ _ _ _ _ zb5 (@zct _ _ _ _ (@zaa _ _ _ _ _ (@zao _ _ _ _ _ _ _ _ zaz (@zaq _ _ _ _ _ _ _ _ _ _ za5 (pv 5) (@zas _ _ _ (pv 6)) zav) (@zaq _ _ _ _ _ _ _ _ _ _ za5 (pv 5) zav (@zas _ _ _ (pv 6)))) (@zaa _ _ _ _ _ (@zaw _ _ _ _ _ _ _ _ _ _ _ F_lback hr (by decide) rfl (@zaa _ _ _ _ _ (@zao _ _ _ _ _ _ _ _ zaz (@zaq _ _ _ _ _ _ _ _ _ _ za5 (pv 5) (@zas _ _ _ (pv 6)) zav) (@zaq _ _ _ _ _ _ _ _ _ _ za5 (pv 5) zav (@zas _ _ _ (pv 6)))) zad (by rfl)) (by decide) (by rfl) (by rfl)) zad (by rfl)) (by rfl))) (@zaw _ _ _ _ _ _ _ _ _ _ _ F_draw hr (by decide) rfl (@zaa _ _ _ _ _ (pv 0) (@zaa _ _ _ _ _ zaf zad (by rfl)) (by rfl)) (by decide) (by rfl) (by rfl)) (fun _ _=>rfl)) zad (by rfl)) (by rfl) (by rfl) (by rfl) (by rfl) (by rfl)) (by rfl)))) (by intro _ ;rfl)) (@zae _ _ _ _ _ (@zap _ _ (7) _ _ _ _ sc.nd rfl (Or.inl rfl) (@pe_and _ _ _ _ _ _ _ (@zd6 _ _ _ _ _ _ _ _ (@ze9 _ (K) rfl) zar (pv 4) rfl) (@pe_one _ _ _ _ _ (@zd6 _ _ _ _ _ _ _ _ op_isN (@zaw _ _ _ _ _ _ _ _ _ _ _ F_lthick hr (by decide) rfl (@zaa _ _ _ _ _ (@zaw _ _ _ _ _ _ _ _ _ _ _ F_ltof hr (by decide) rfl (@zaa _ _ _ _ _ (pv 4) zad (by rfl)) (by decide) (by rfl) (by rfl)) zad (by rfl)) (by decide) (by rfl) (by rfl)) zcs (zay _)))) (by rfl) (by first | exact .inl rfl | exact .inr rfl | assumption)) (@zag _ _ _ (@zax _ _ _ _ (@zc3 _ _ _ _ _ _ _ _ (@zdv _ _ _ (pv 7) (fun _=>rfl)) (@zbj _ _ _ _ _ _ _ _ _ zbn (by rfl) T.tuple zfx (@zaa _ _ _ _ _ (pv 4) zad (by rfl)) (by decide) (by decide) (by rfl) (by rfl)) (@zbc _ _ _ _ _ zad)))))))))))))),?_⟩
  refine ⟨_,rfl,d,_,rfl,F0,by decide,by decide,fun r H1 r0 r1 F1 sb1=>?_⟩
  refine ⟨(by show 0≤sizeLine;omega),fun q0 hq0=>?_⟩
  have ok0:∃ (q:Addr) (W:List (List L)) (b3:Option V),[some (.ref d),some (.int r),some (.ref q0),none,none,none,none,none]=[some (V.ref d),some (.int r),some (.ref q),b3,none,none,none,none]∧(upd H1 q0 (.tup [])) q=some (.tup (W.map tx))∧Wl 6 40 W∧Fd (upd H1 q0 (.tup [])) d∧SameB d H (upd H1 q0 (.tup [])) :=
   ⟨q0,[],none,rfl,zac,⟨by simp,fun v hv=>by cases hv⟩,F1.new hq0,sb1.trans (Same.new hq0).b⟩
  refine ⟨_,rfl,rfl,_,rfl,ite2N (fun σ H'=>∃ (q:Addr) (W:List (List L)) (b3:Option V),σ = [some (.ref d),some (.int r),some (.ref q),b3,none,none,none,none]∧H' q=some (.tup (W.map tx))∧Wl 6 40 W∧Fd H' d∧SameB d H H') ok0 ?_ (fun main=>?_)⟩
  rotate_left
  ·-- powers
   have F2:=F1.new (a:=q0) (o:=.tup []) hq0
   have sb2:=sb1.trans (Same.new (o:=.tup []) hq0).b
   generalize upd H1 q0 (.tup [])=H2 at F2 sb2 ⊢
   refine ⟨_,rfl,?_⟩
   refine zc0 (own:=["_law_sign"]) (cap:=[0]) (J:=Its (Str.ofString "abcde")) 5 (fun j ys σ H'=>∃ (v:Option V) (W:List (List L)),σ = [v,some (.ref d)]∧ys=W.map tx∧Wl j 40 W∧Fd H' d∧SameB d H H') ⟨none,[],rfl,rfl,⟨Nat.le_refl _,fun v hv=>by cases hv⟩,F2,sb2⟩ (fun j ys σ H' hj ⟨_,W,_,e,wl,_⟩=>by rw [e,List.length_map];exact wl.1) (by omega) (fun j ys σ H' hj _=>hj) (fun ys σ H' _=>rfl) ?_ ?_
   ·rintro j ys σ HX x HY N hj ⟨v,W,rfl,rfl,wl,F3,sb3⟩ ⟨rfl,c,hc,rfl⟩ hN
    obtain ⟨x,ex⟩:∃ x:L,c=cp x:=by
     match j,hj with
     | 0,_=>exact ⟨0,Option.some.inj (hc.symm.trans (by decide +kernel:(Str.ofString "abcde").cps[0]? = some (cp 0)))⟩
     | 1,_=>exact ⟨1,Option.some.inj (hc.symm.trans (by decide +kernel:(Str.ofString "abcde").cps[1]? = some (cp 1)))⟩
     | 2,_=>exact ⟨2,Option.some.inj (hc.symm.trans (by decide +kernel:(Str.ofString "abcde").cps[2]? = some (cp 2)))⟩
     | 3,_=>exact ⟨3,Option.some.inj (hc.symm.trans (by decide +kernel:(Str.ofString "abcde").cps[3]? = some (cp 3)))⟩
     | 4,_=>exact ⟨4,Option.some.inj (hc.symm.trans (by decide +kernel:(Str.ofString "abcde").cps[4]? = some (cp 4)))⟩
    subst ex
    refine ⟨_,rfl,_,rfl,d,_,rfl,F3,by decide,by decide,fun p H4 p0 p1 F4 sb4=>⟨_,_,rfl,rfl,?_⟩⟩
    obtain ⟨mo,u,eu,hu⟩:=zb8 (z:=⟨#[cp x]⟩) (w:=[x]) rfl (n:=7+p) (by omega) (by omega) (by simp) (by simp;omega)
    refine ⟨_,_,rfl,rfl,mo,?_⟩
    rw [eu]
    exact hN _ _ _ ⟨_,W++[u],rfl,by rw [List.map_append];rfl,wl.snoc hu,F4,sb3.trans sb4⟩
   rintro ys σ H3 l ⟨v,W,rfl,rfl,wl,F3,sb3⟩ hl
   have s4:Same H3 (upd H3 l (.lst (W.map tx))):=Same.new hl
   have f4:(upd H3 l (.lst (W.map tx))) l=some (.lst (W.map tx)):=zac
   generalize upd H3 l (.lst (W.map tx))=H4 at s4 f4 ⊢
   have F4:=F3.same s4
   have sb4:=sb3.trans s4.b
   refine ⟨_,rfl,_,rfl,d,_,rfl,F4,by decide,by decide,fun p H5 p0 p1 F5 sb5=>⟨_,_,rfl,rfl,?_⟩⟩
   obtain ⟨mo,u,eu,hu⟩:=zb8 lit_abAB (n:=2+p) (by omega) (by omega) (by decide) (by simp;omega)
   refine ⟨_,_,rfl,rfl,mo,?_⟩
   rw [eu]
   have f5:=sb5 _ _ (F4.nl f4) f4
   refine ⟨(by show 1≤sizeLine;omega),fun l2 hl2=>?_⟩
   refine ⟨l,l2,_,_,rfl,rfl,(Same.new hl2) _ _ f5,zac,(by rw [List.length_map];have:=wl.1;show _+1≤_;omega),fun l3 hl3=>?_⟩
   have ew:W.map tx++[tx u]=(W++[u]).map tx:=by rw [List.map_append];rfl
   rw [ew]
   refine ⟨l3,_,rfl,.inl ⟨SqL.of zac,fun rg hrg=>?_⟩⟩
   have s6:Same H5 (upd (upd (upd H5 l2 (.lst [tx u])) l3 (.lst ((W++[u]).map tx))) rg (.tup ((W++[u]).map tx))):=((Same.new hl2).then hl3).then hrg
   have f6:(upd (upd (upd H5 l2 (.lst [tx u])) l3 (.lst ((W++[u]).map tx))) rg (.tup ((W++[u]).map tx))) rg=some (.tup ((W++[u]).map tx)):=zac
   generalize upd (upd (upd H5 l2 (.lst [tx u])) l3 (.lst ((W++[u]).map tx))) rg (.tup ((W++[u]).map tx))=H6 at s6 f6 ⊢
   have F6:=F5.same s6
   refine ⟨_,rfl,d,_,rfl,F6,by decide,by decide,fun p2 H7 p20 p21 F7 sb7=>?_⟩
   refine ⟨_,rfl,rg,_,rfl,sb7 _ _ (F6.neT f6) f6,fun p3 H8 s8 f8=>?_⟩
   obtain ⟨W',e',l',m'⟩:=zd0 (W++[u]) (some p2) none
   rw [e'] at f8
   exact main _ _ ⟨p3,W',_,rfl,f8,(wl.snoc hu).cut l' m',F7.same s8,sb4.trans (sb5.trans (s6.b.trans (sb7.trans s8.b)))⟩
  rintro σ H2 ⟨q,W,b3,rfl,hq,wl,F2,sb2⟩
  refine ⟨_,rfl,rfl,_,rfl,ite2N (fun σ H'=>∃ (q:Addr) (W:List (List L)) (b3:Option V),σ = [some (.ref d),some (.int r),some (.ref q),b3,none,none,none,none]∧H' q=some (.tup (W.map tx))∧Wl 6 40 W∧Fd H' d∧SameB d H H') ⟨q,W,b3,rfl,hq,wl,F2,sb2⟩ ?_ (fun main=>?_)⟩
  rotate_left
  ·skip
   refine ⟨_,rfl,d,_,rfl,F2,by decide,by decide,fun p3 H3 p30 p31 F3 sb3=>⟨_,_,rfl,rfl,?_⟩⟩
   obtain ⟨mo3,u3,eu3,hu3⟩:=zb8 lit_a (n:=1+p3) (by omega) (by omega) (by decide) (by simp;omega)
   refine ⟨_,_,rfl,rfl,mo3,?_⟩
   rw [eu3]
   refine ⟨_,rfl,d,_,rfl,F3,by decide,by decide,fun p4 H4 p40 p41 F4 sb4=>⟨_,_,rfl,rfl,?_⟩⟩
   obtain ⟨mo4,u4,eu4,hu4⟩:=zb8 lit_B (n:=1+p4) (by omega) (by omega) (by decide) (by simp;omega)
   refine ⟨_,_,rfl,rfl,mo4,?_⟩
   rw [eu4]
   refine ⟨(by show 2≤sizeLine;omega),fun q5 hq5=>?_⟩
   have s5:Same H4 (upd H4 q5 (.tup [tx u3,tx u4])):=Same.new hq5
   have f5:(upd H4 q5 (.tup [tx u3,tx u4])) q5=some (.tup ([u3,u4].map tx)):=zac
   generalize upd H4 q5 (.tup [tx u3,tx u4])=H5 at s5 f5 ⊢
   have F5:=F4.same s5
   refine ⟨_,rfl,d,_,rfl,F5,by decide,by decide,fun p6 H6 p60 p61 F6 sb6=>?_⟩
   refine ⟨_,rfl,q5,_,rfl,sb6 _ _ (F5.neT f5) f5,fun q7 H7 s7 f7=>?_⟩
   obtain ⟨W',e',l',m'⟩:=zd0 [u3,u4] (some p6) none
   rw [e'] at f7
   have w0:Wl 6 40 [u3,u4]:=⟨by simp,fun v hv=>by simp only [List.mem_cons,List.not_mem_nil,or_false] at hv;rcases hv with rfl | rfl <;> assumption⟩
   exact main _ _ ⟨q7,W',_,rfl,f7,w0.cut l' m',F6.same s7,sb2.trans (sb3.trans (sb4.trans (s5.b.trans (sb6.trans s7.b))))⟩
  rintro σ H2 ⟨q,W,b3,rfl,hq,wl,F2,sb2⟩
  refine ⟨_,rfl,rfl,_,rfl,ite2N (fun σ H'=>∃ (q:Addr) (W:List (List L)) (b3:Option V),σ = [some (.ref d),some (.int r),some (.ref q),b3,none,none,none,none]∧H' q=some (.tup (W.map tx))∧Wl 6 40 W∧Fd H' d∧SameB d H H') ⟨q,W,b3,rfl,hq,wl,F2,sb2⟩ ?_ (fun main=>?_)⟩
  rotate_left
  ·skip
   refine ⟨_,rfl,d,3,3,rfl,F2,by decide,by decide,by decide,by decide,fun u H3 hu hI F3 sb3=>?_⟩
   have hu:u.length≤3:=hu
   refine ⟨u,rfl,by omega,fun fr md H4 _ hl hmem s4=>?_⟩
   have F4:=F3.same s4
   refine ⟨_,rfl,d,_,rfl,F4,by decide,by decide,fun p5 H5 p50 p51 F5 sb5=>⟨_,_,rfl,rfl,?_⟩⟩
   obtain ⟨mo5,u5,eu5,hu5⟩:=zb8 (z:=toS md) (w:=md) rfl (n:=7+p5) (by omega) (by omega) (by omega) (by
    have h4:md.length=0 ∨ md.length=1 ∨ md.length=2 ∨ md.length=3:=by omega
    rcases h4 with h | h | h | h <;> rw [h] <;> omega)
   refine ⟨_,_,rfl,rfl,mo5,?_⟩
   rw [eu5]
   refine ⟨(by show 1≤sizeLine;omega),fun q6 hq6=>?_⟩
   exact main _ _ ⟨q6,[u5],_,rfl,zac,⟨by simp,fun v hv=>by rw [List.mem_singleton] at hv;subst hv;exact hu5⟩,F5.new hq6,sb2.trans (sb3.trans (s4.b.trans (sb5.trans (Same.new hq6).b)))⟩
  rintro σ H2 ⟨q,W,b3,rfl,hq,wl,F2,sb2⟩
  refine ⟨_,rfl,rfl,_,rfl,ite2N (fun σ H'=>∃ (q:Addr) (W:List (List L)) (b3:Option V),σ = [some (.ref d),some (.int r),some (.ref q),b3,none,none,none,none]∧H' q=some (.tup (W.map tx))∧Wl 6 40 W∧Fd H' d∧SameB d H H') ⟨q,W,b3,rfl,hq,wl,F2,sb2⟩ ?_ (fun main=>?_)⟩
  rotate_left
  ·skip
   refine ⟨_,rfl,d,_,rfl,F2,by decide,by decide,fun p3 H3 p30 p31 F3 sb3=>⟨_,_,rfl,rfl,?_⟩⟩
   obtain ⟨mo3,u3,eu3,hu3⟩:=zb8 lit_a (n:=7+p3) (by omega) (by omega) (by decide) (by simp;omega)
   refine ⟨_,_,rfl,rfl,mo3,?_⟩
   rw [eu3]
   refine ⟨_,rfl,d,_,rfl,F3,by decide,by decide,fun p4 H4 p40 p41 F4 sb4=>⟨_,_,rfl,rfl,?_⟩⟩
   obtain ⟨mo4,u4,eu4,hu4⟩:=zb8 lit_b (n:=7+p4) (by omega) (by omega) (by decide) (by simp;omega)
   refine ⟨_,_,rfl,rfl,mo4,?_⟩
   rw [eu4]
   refine ⟨_,rfl,d,_,rfl,F4,by decide,by decide,fun p5 H5 p50 p51 F5 sb5=>⟨_,_,rfl,rfl,?_⟩⟩
   obtain ⟨mo5,u5,eu5,hu5⟩:=zb8 lit_ab (n:=4+p5) (by omega) (by omega) (by decide) (by simp;omega)
   refine ⟨_,_,rfl,rfl,mo5,?_⟩
   rw [eu5]
   refine ⟨(by show 3≤sizeLine;omega),fun q6 hq6=>?_⟩
   exact main _ _ ⟨q6,[u3,u4,u5],_,rfl,zac,⟨by simp,fun v hv=>by simp only [List.mem_cons,List.not_mem_nil,or_false] at hv;rcases hv with rfl | rfl | rfl <;> assumption⟩,F5.new hq6,sb2.trans (sb3.trans (sb4.trans (sb5.trans (Same.new hq6).b)))⟩
  rintro σ H2 ⟨q,W,b3,rfl,hq,wl,F2,sb2⟩
  refine ⟨_,rfl,_,_,rfl,rfl,_,rfl,ite2N (fun σ H'=>∃ (q:Addr) (W:List (List L)) (b3:Option V),σ = [some (.ref d),some (.int r),some (.ref q),b3,none,none,none,none]∧H' q=some (.tup (W.map tx))∧Wl 6 40 W∧Fd H' d∧SameB d H H') ⟨q,W,b3,rfl,hq,wl,F2,sb2⟩ ?_ (fun main=>?_)⟩
  rotate_left
  ·refine ⟨(by show 4≤sizeLine;omega),fun l3 hl3=>?_⟩
   have s3:Same H2 (upd H2 l3 (.lst [V.str (Str.ofString "abABcdCD"),.str (Str.ofString "abcdABCD"),.str (Str.ofString "aabbccdd"),.str (Str.ofString "abcABdCD")])):=Same.new hl3
   have f3:(upd H2 l3 (.lst [V.str (Str.ofString "abABcdCD"),.str (Str.ofString "abcdABCD"),.str (Str.ofString "aabbccdd"),.str (Str.ofString "abcABdCD")])) l3=some (.lst [V.str (Str.ofString "abABcdCD"),.str (Str.ofString "abcdABCD"),.str (Str.ofString "aabbccdd"),.str (Str.ofString "abcABdCD")]):=zac
   generalize upd H2 l3 (.lst [V.str (Str.ofString "abABcdCD"),.str (Str.ofString "abcdABCD"),.str (Str.ofString "aabbccdd"),.str (Str.ofString "abcABdCD")])=H3 at s3 f3 ⊢
   have F3:=F2.same s3
   refine ⟨_,rfl,d,_,rfl,F3,by decide,by decide,fun p4 H4 p40 p41 F4 sb4=>?_⟩
   have hat:∃ w0:List L,atI [V.str (Str.ofString "abABcdCD"),.str (Str.ofString "abcdABCD"),.str (Str.ofString "aabbccdd"),.str (Str.ofString "abcABdCD")] p4=some (tx w0)∧w0.length≤40:=by
    obtain ⟨k4,rfl⟩:=Int.eq_ofNat_of_zero_le p40
    match k4,(show k4 < 4 by omega) with
    | 0,_=>exact ⟨_,(zbx (j:=0) rfl).trans (congrArg (fun z=>some (V.str z)) lit_1),by decide⟩
    | 1,_=>exact ⟨_,(zbx (j:=1) rfl).trans (congrArg (fun z=>some (V.str z)) lit_2),by decide⟩
    | 2,_=>exact ⟨_,(zbx (j:=2) rfl).trans (congrArg (fun z=>some (V.str z)) lit_3),by decide⟩
    | 3,_=>exact ⟨_,(zbx (j:=3) rfl).trans (congrArg (fun z=>some (V.str z)) lit_4),by decide⟩
   obtain ⟨w0,hat,hw0⟩:=hat
   refine ⟨l3,_,_,_,rfl,rfl,SqL.of (sb4 _ _ (F3.nl f3) f3),hat,?_⟩
   refine ⟨_,rfl,d,_,rfl,F4,by decide,by decide,fun p5 H5 p50 p51 F5 sb5=>⟨_,_,rfl,rfl,?_⟩⟩
   obtain ⟨mo5,u5,eu5,hu5⟩:=zb8 lit_e (n:=1+p5) (by omega) (by omega) (by decide) (by simp;omega)
   refine ⟨_,_,rfl,rfl,mo5,?_⟩
   rw [eu5]
   refine ⟨(by show 2≤sizeLine;omega),fun q6 hq6=>?_⟩
   have s6:Same H5 (upd H5 q6 (.tup [tx w0,tx u5])):=Same.new hq6
   have f6:(upd H5 q6 (.tup [tx w0,tx u5])) q6=some (.tup ([w0,u5].map tx)):=zac
   generalize upd H5 q6 (.tup [tx w0,tx u5])=H6 at s6 f6 ⊢
   have F6:=F5.same s6
   refine ⟨_,rfl,_,rfl,d,_,rfl,F6,by decide,by decide,fun p7 H7 p70 p71 F7 sb7=>⟨_,_,rfl,rfl,?_⟩⟩
   refine ⟨_,rfl,q6,_,rfl,sb7 _ _ (F6.neT f6) f6,fun q8 H8 s8 f8=>?_⟩
   obtain ⟨W',e',l',m'⟩:=zd0 [w0,u5] none (some (1+p7))
   rw [e'] at f8
   have w0':Wl 6 40 [w0,u5]:=⟨by simp,fun v hv=>by simp only [List.mem_cons,List.not_mem_nil,or_false] at hv;rcases hv with rfl | rfl <;> assumption⟩
   exact main _ _ ⟨q8,W',_,rfl,f8,w0'.cut l' m',F7.same s8,sb2.trans (s3.b.trans (sb4.trans (sb5.trans (s6.b.trans (sb7.trans s8.b)))))⟩
  rintro σ H2 ⟨q,W,b3,rfl,hq,wl,F2,sb2⟩
  refine ⟨(by show 0≤sizeLine;omega),fun l hl=>?_⟩
  have s3:Same H2 (upd H2 l (.lst [])):=Same.new hl
  have f3:(upd H2 l (.lst [])) l=some (.lst (([]:List (List L)).map tx)):=zac
  generalize upd H2 l (.lst [])=H3 at s3 f3 ⊢
  have F3:=F2.same s3
  refine ⟨_,rfl,q,rfl,⟨_,SqT.of (s3 _ _ hq)⟩,?_⟩
  refine zd2 (xs:=W.map tx) (fun j σ H'=>∃ (b5 b6:Option V) (V':List (List L)),σ = [some (.ref d),some (.int r),some (.ref q),b3,some (.ref l),b5,b6,none]∧H' q=some (.tup (W.map tx))∧H' l=some (.lst (V'.map tx))∧Wl j 40 V'∧Fd H' d∧SameB d H H'∧l≠d∧q≠l) ⟨none,none,[],rfl,s3 _ _ hq,f3,⟨Nat.le_refl _,fun v hv=>by cases hv⟩,F3,sb2.trans s3.b,F3.nl f3,zah hq hl⟩ (fun j σ H' _ ⟨_,_,_,_,e,_⟩=>SqT.of e) ?_ ?_
  ·rintro j x σ H4 hx ⟨b5,b6,V',rfl,q4,f4,vl,F4,sb4,nld,nql⟩
   rw [List.getElem?_map] at hx
   cases hv:W[j]? with
   | none=>rw [hv] at hx;cases hx
   | some v =>
    rw [hv] at hx
    cases hx
    have lv:=wl.2 v (List.mem_of_getElem? hv)
    have lz:=zab v
    have hj:=(List.getElem?_eq_some_iff.mp hv).1
    have w6:=wl.1
    refine ⟨_,rfl,_,rfl,_,rfl,by omega,_,_,rfl,rfl,d,_,rfl,F4,by omega,by omega,fun p5 H5 p50 p51 F5 sb5=>?_⟩
    have f5:=sb5 _ _ nld f4
    have q5:=sb5 _ _ (F4.neT q4) q4
    refine ⟨_,rfl,.inl ⟨rfl,_,SqL.of f5⟩,?_⟩
    refine ⟨_,rfl,_,rfl,_,rfl,_,rfl,by omega,_,rfl,_,rfl,_,rfl,_,rfl,by omega,_,_,rfl,rfl,?_,?_⟩
    ·have h1:=Txt.slice_le (toS v) (some p5) none
     have h2:=Txt.slice_le (toS v) none (some p5)
     omega
    rw [zaj,zaj,zbf v p50,zbe v p50,zbv]
    have lw:(v.drop p5.toNat++v.take p5.toNat).length=v.length:=by rw [List.length_append,List.length_drop,List.length_take];omega
    refine ⟨_,rfl,_,rfl,_,rfl,_,rfl,by omega,_,rfl,_,rfl,_,rfl,_,rfl,by omega,_,_,rfl,rfl,?_,?_⟩
    ·have h1:=Txt.slice_le (toS v) (some p5) none
     have h2:=Txt.slice_le (toS v) none (some p5)
     omega
    rw [zaj,zaj,zbf v p50,zbe v p50,zbv]
    generalize v.drop p5.toNat++v.take p5.toNat=y at lw ⊢
    refine ⟨y,rfl,by omega,fun H6 s6=>⟨(by show 2≤sizeLine;omega),fun l7 hl7=>?_⟩⟩
    have s7:Same H5 (upd H6 l7 (.lst [tx y,tx (bk y)])):=s6.then hl7
    have f7:(upd H6 l7 (.lst [tx y,tx (bk y)])) l7=some (.lst [tx y,tx (bk y)]):=zac
    generalize upd H6 l7 (.lst [tx y,tx (bk y)])=H7 at s7 f7 ⊢
    have F7:=F5.same s7
    refine ⟨_,rfl,d,_,rfl,F7,by decide,by decide,fun p8 H8 p80 p81 F8 sb8=>?_⟩
    have hat:∃ y':List L,atI [tx y,tx (bk y)] p8=some (tx y')∧y'.length≤40:=by
     obtain ⟨k8,rfl⟩:=Int.eq_ofNat_of_zero_le p80
     match k8,(show k8 < 2 by omega) with
     | 0,_=>exact ⟨y,zbx (j:=0) rfl,by omega⟩
     | 1,_=>exact ⟨bk y,zbx (j:=1) rfl,by rw [zcw];omega⟩
    obtain ⟨y',hat,hy'⟩:=hat
    refine ⟨l7,_,_,_,rfl,rfl,SqL.of (sb8 _ _ (F7.nl f7) f7),hat,?_⟩
    have f8:=sb8 _ _ nld (s7 _ _ f5)
    have q8:=sb8 _ _ (F7.neT (s7 _ _ q5)) (s7 _ _ q5)
    refine ⟨l,_,_,rfl,rfl,f8,by rw [List.length_map];have:=vl.1;omega,?_⟩
    refine ⟨_,_,V'++[y'],rfl,by rw [zai nql];exact q8,by rw [zac,List.map_append];rfl,vl.snoc hy',?_,?_,nld,nql⟩
    ·exact fd_updT F8 f8 nld
    ·intro b o nb e
     have e2:=sb2 _ _ nb e
     rw [zai (zah e2 hl)]
     exact sb8 _ _ nb (s7 _ _ (sb5 _ _ nb (sb4 _ _ nb e)))
  ·rintro σ H4 ⟨b5,b6,V',rfl,q4,f4,vl,F4,sb4,nld,nql⟩
   have no:∀ H5,Fd H5 d→SameB d H H5→∀ q5,H5 q5=none→Q (.ref q5) (upd H5 q5 (.tup [])):=fun H5 F5 sb5 q5 hq5=>k q5 [] _ ⟨by simp,fun r hr=>by cases hr⟩ (fun r hr=>by cases hr) (by simp) zac (F5.new hq5) (sb5.trans (Same.new hq5).b)
   have w6:=wl.1
   have v6:=vl.1
   rw [List.length_map] at v6
   refine ⟨_,rfl,l,_,rfl,.inl (SqL.of f4),rfl,zhq _,?_⟩
   have e0:inV (V.str (Str.ofString "")) (V'.map tx)=decide (([]:List L)∈V'):=by
    rw [show V.str (Str.ofString "")=tx [] from tx_nil.symm]
    exact in_tx [] V'
   refine ⟨_,rfl,?_⟩
   rw [e0]
   by_cases he:([]:List L)∈V'
   ·rw [decide_eq_true he]
    refine iteD rfl ?_
    exact ⟨_,rfl,_,rfl,iteD rfl ⟨(by show 0≤sizeLine;omega),fun q5 hq5=>no _ F4 sb4 q5 hq5⟩⟩
   ·rw [decide_eq_false he]
    refine iteC rfl ?_
    have hR:Rgs V':=⟨by omega,fun x hx=>⟨fun z=>he (z ▸ hx),Nat.le_trans (vl.2 x hx) (by decide)⟩⟩
    refine ⟨_,rfl,l,V',rfl,.inr f4,hR,fun l5 V5 H5 hl5 oV mV f5 s5=>?_⟩
    have tn:Tn V' V5:=⟨oV,mV⟩
    have l5z:=tn.len hR
    refine ⟨l5,V5,rfl,f5,by omega,fun v hv=>by have:=(tn.word hR hv).2;omega,fun H6 s6 _=>?_,fun H6 p t o c s6 _ hp=>?_⟩
    ·have s7:=s5.trans s6
     refine ⟨rfl,_,rfl,_,rfl,iteC rfl ?_⟩
     refine ⟨_,rfl,l,_,rfl,.inl ⟨SqL.of (s7 _ _ f4),fun rg hrg=>?_⟩⟩
     exact k rg V' _ hR (fun r hr=>vl.2 r hr) (by omega) zac ((F4.same s7).new hrg) (sb4.trans (s7.b.trans (Same.new hrg).b))
    ·have s7:=s5.trans s6
     exact ⟨rfl,_,rfl,_,rfl,iteD rfl ⟨(by show 0≤sizeLine;omega),fun q5 hq5=>no _ (F4.same s7) (sb4.trans s7.b) q5 hq5⟩⟩
end
end Kx
namespace Kx
open PySem PySem.Spec PyProof.Rows L2 Wd
section
variable {P:Program} {w:World} {K:PySem.W.Frag} {mg:Str→Option Value} {base:Heap} {aB:Addr}
noncomputable abbrev s_isout:Stmt:=top 22
theorem sc_isout:FnScope ["word","place"] ["word","place"] (defScope s_isout):=⟨rfl,rfl,rfl,by decide +kernel,rfl,by decide +kernel,by decide +kernel⟩
theorem c_isout (D:Df K mg "is_out" s_isout)(T:Bt K w mg aB)(F_back:Fnc P w K mg base "back" ["word"] 1 spBk):Fnc P w K mg base "is_out" ["word","place"] 2 spOut:=by
 have sc:=sc_isout
 refine D.ok sc (fun _ _ _ _ _ _ us hl=>by obtain ⟨_,_,rfl⟩:=len2 hl;rfl) (fun vs H Q E h=>?_) (fun f cdv A outer s H vs Q E hr h=>?_)
 ·obtain ⟨w,n,rfl,_⟩:=h
  rfl
 ·obtain ⟨u,n,rfl,hl,k⟩:=h
  have l16:=za9
  have lu:=zab u
  refine ⟨_,(@zag _ _ _ (@zax _ _ _ _ (@pe_and _ _ _ _ _ _ _ (@zd6 _ _ _ _ _ _ _ _ zga (@zao _ _ _ _ _ _ _ _ za0 (pv 1) zaf) (@zan _ _ _ _ _ _ _ _ _ zam (by rfl) T.len PySem.boot_len (@zaa _ _ _ _ _ (pv 0) zad (by rfl)) (by decide) (by decide) (by rfl) (by rfl)) (zay _)) (@pe_one _ _ _ _ _ (@zd6 _ _ _ _ _ _ _ _ zcr (@zbb _ _ _ _ _ _ _ zeb (pv 0) (@zao _ _ _ _ _ _ _ _ za0 (pv 1) zaf) (fun _ _=>rfl)) (@zaw _ _ _ _ _ _ _ _ _ _ _ F_back hr (by decide) rfl (@zaa _ _ _ _ _ (@zbb _ _ _ _ _ _ _ zeb (pv 0) (pv 1) (fun _ _=>rfl)) zad (by rfl)) (by decide) (by rfl) (by rfl)) (zay _)))))),?_⟩
  refine ⟨_,rfl,_,_,rfl,rfl,_,rfl,_,rfl,by omega,_,_,rfl,rfl,_,rfl,?_⟩
  by_cases hn:n+1 < u.length
  ·refine iteC (decide_eq_true (by omega)) ?_
   have e1:=List.getElem?_eq_getElem hn
   have e0:=List.getElem?_eq_getElem (show n < u.length by omega)
   refine ⟨_,rfl,_,rfl,_,_,rfl,rfl,_,_,_,rfl,rfl,by omega,zc1 (k:=n+1) (by omega) e1,_,rfl,_,rfl,_,_,_,rfl,rfl,by omega,zc1 (k:=n) rfl e0,[u[n]],rfl,(by show 1≤5000;decide),fun H1 s1=>⟨rfl,?_⟩⟩
   have k:=k _ s1
   unfold outB at k
   rw [decide_eq_true hn,Bool.true_and,e1,e0] at k
   rw [show V.str (⟨#[cp u[n+1]]⟩:Str)=tx [u[n+1]] from rfl,zh3]
   have e:decide (tx [u[n+1]]=tx [inv u[n]])=decide (some u[n+1]=(some u[n]).map inv):=decide_eq_decide.mpr (tx_one.trans ⟨fun e=>by rw [e];rfl,fun e=>Option.some.inj e⟩)
   rw [e]
   exact k
  ·refine iteD (decide_eq_false (by omega)) ?_
   have k:=k H (Same.refl _)
   unfold outB at k
   rw [decide_eq_false hn,Bool.false_and] at k
   exact k
noncomputable abbrev s_chg:Stmt:=top 23
theorem sc_chg:FnScope ["word","step","place"] ["word","step"] (defScope s_chg):=⟨rfl,rfl,rfl,by decide +kernel,rfl,by decide +kernel,by decide +kernel⟩
theorem c_chg (D:Df K mg "changed" s_chg)(T:Bt K w mg aB)(F_back:Fnc P w K mg base "back" ["word"] 1 spBk):Fnc P w K mg base "changed" ["word","step"] 2 spChg:=by
 have sc:=sc_chg
 refine D.ok sc (fun _ _ _ _ _ _ us hl=>by obtain ⟨_,_,rfl⟩:=len2 hl;rfl) (fun vs H Q E h=>?_) (fun f cdv A outer s H vs Q E hr h=>?_)
 ·obtain ⟨p,v,s,rfl,_⟩:=h
  rfl
 ·obtain ⟨p,v,st,rfl,hv,hp,hs,k⟩:=h
  have l16:=za9
  have lv:=zab v
  refine ⟨_,(@zae _ _ _ _ _ (@zap _ _ (2) _ _ _ _ sc.nd rfl (Or.inl rfl) (@zbb _ _ _ _ _ _ _ zbk (pv 1) zaf (fun _ _=>rfl)) (by rfl) (by first | exact .inl rfl | exact .inr rfl | assumption)) (@zae _ _ _ _ _ (@zbl _ _ _ _ _ _ _ _ (@zat _ _ _ _ _ _ _ _ zcr (@zbb _ _ _ _ _ _ _ zbk (pv 1) zaf (fun _ _=>rfl)) zar (zay _)) (@zag _ _ _ (@zax _ _ _ _ (@zao _ _ _ _ _ _ _ _ zaz (@zaq _ _ _ _ _ _ _ _ _ _ za5 (pv 0) zav (@zas _ _ _ (pv 2))) (@zaq _ _ _ _ _ _ _ _ _ _ za5 (pv 0) (@zas _ _ _ (@zao _ _ _ _ _ _ _ _ za0 (pv 2) zaf)) zav)))) za3) (@zae _ _ _ _ _ (@zbl _ _ _ _ _ _ _ _ (@zat _ _ _ _ _ _ _ _ zcr (@zbb _ _ _ _ _ _ _ zbk (pv 1) zaf (fun _ _=>rfl)) zar (zay _)) (@zag _ _ _ (@zax _ _ _ _ (@zao _ _ _ _ _ _ _ _ zaz (@zao _ _ _ _ _ _ _ _ zaz (@zao _ _ _ _ _ _ _ _ zaz (@zaq _ _ _ _ _ _ _ _ _ _ za5 (pv 0) zav (@zas _ _ _ (pv 2))) (@zbb _ _ _ _ _ _ _ zbk (pv 1) zaf (fun _ _=>rfl))) (@zaw _ _ _ _ _ _ _ _ _ _ _ F_back hr (by decide) rfl (@zaa _ _ _ _ _ (@zbb _ _ _ _ _ _ _ zbk (pv 1) zaf (fun _ _=>rfl)) zad (by rfl)) (by decide) (by rfl) (by rfl))) (@zaq _ _ _ _ _ _ _ _ _ _ za5 (pv 0) (@zas _ _ _ (pv 2)) zav)))) za3) (@zag _ _ _ (@zax _ _ _ _ (@zao _ _ _ _ _ _ _ _ zaz (@zao _ _ _ _ _ _ _ _ zaz (@zaq _ _ _ _ _ _ _ _ _ _ za5 (pv 0) zav (@zas _ _ _ (pv 2))) (@zaw _ _ _ _ _ _ _ _ _ _ _ F_back hr (by decide) rfl (@zaa _ _ _ _ _ (@zaq _ _ _ _ _ _ _ _ _ _ za5 (@zbb _ _ _ _ _ _ _ zbk (pv 1) zaf (fun _ _=>rfl)) (@zas _ _ _ (@zbb _ _ _ _ _ _ _ zbk (pv 1) zaf (fun _ _=>rfl))) zav) zad (by rfl)) (by decide) (by rfl) (by rfl))) (@zaq _ _ _ _ _ _ _ _ _ _ za5 (pv 0) (@zas _ _ _ (@zao _ _ _ _ _ _ _ _ za0 (pv 2) (@zbb _ _ _ _ _ _ _ zbk (pv 1) zaf (fun _ _=>rfl)))) zav))))))),?_⟩
  cases st with
  | out n =>
   have hp:H p=some (.tup [.str "out",.int (n:Int)]):=hp
   refine ⟨_,rfl,p,_,_,_,rfl,rfl,SqT.of hp,at1 _ _ _,?_⟩
   refine ⟨_,rfl,p,_,_,_,rfl,rfl,SqT.of hp,at0 _ _,rfl,_,rfl,iteC (decide_eq_true rfl) ?_⟩
   refine ⟨_,rfl,_,rfl,_,rfl,_,rfl,by omega,_,rfl,_,rfl,_,_,rfl,rfl,_,rfl,_,rfl,by omega,_,_,rfl,rfl,?_,?_⟩
   ·have h1:=Txt.slice_le (toS v) none (some (n:Int))
    have h2:=Txt.slice_le (toS v) (some ((n:Int)+2)) none
    omega
   rw [zaj,zaj,zbe v (by omega),zbf v (by omega),zbv,Int.toNat_natCast,show ((n:Int)+2).toNat=n+2 by omega]
   exact k _ (Same.refl _)
  | inn n x =>
   have hp:H p=some (.tup [.str "in",.int (n:Int),tx [x]]):=hp
   have lx:=zab [x]
   refine ⟨_,rfl,p,_,_,_,rfl,rfl,SqT.of hp,at1 _ _ _,?_⟩
   refine ⟨_,rfl,p,_,_,_,rfl,rfl,SqT.of hp,at0 _ _,rfl,_,rfl,iteD (by decide +kernel) ?_⟩
   refine ⟨_,rfl,p,_,_,_,rfl,rfl,SqT.of hp,at0 _ _,rfl,_,rfl,iteC (decide_eq_true rfl) ?_⟩
   have h1:=Txt.slice_le (toS v) none (some (n:Int))
   have h2:=Txt.slice_le (toS v) (some (n:Int)) none
   refine ⟨_,rfl,_,rfl,_,rfl,_,rfl,by omega,_,rfl,p,_,_,_,rfl,rfl,SqT.of hp,at2 _ _ _ _,_,_,rfl,rfl,(by rw [lx];simp only [List.length_cons,List.length_nil];omega),?_⟩
   rw [zaj,zbe v (by omega),zbv,Int.toNat_natCast]
   refine ⟨_,rfl,p,_,_,_,rfl,rfl,SqT.of hp,at2 _ _ _ _,[x],rfl,(by show 1≤5000;decide),fun H1 s1=>?_⟩
   have l1:=zab (v.take n++[x])
   have l2:=zab (bk [x])
   have l3:=zab (v.take n++[x]++bk [x])
   simp only [List.length_append,List.length_take,List.length_cons,List.length_nil,zcw] at l1 l2 l3
   refine ⟨_,_,rfl,rfl,by omega,?_⟩
   rw [zbv]
   refine ⟨_,rfl,_,rfl,_,rfl,_,rfl,by omega,_,_,rfl,rfl,by omega,?_⟩
   rw [zaj,zbf v (by omega),zbv,Int.toNat_natCast,zh3]
   exact k _ s1
  | rng n u m =>
   have hp:H p=some (.tup [.str "ring",.int (n:Int),tx u,.int (m:Int)]):=hp
   have lx:=zab u
   have hu:=hs.2.1
   refine ⟨_,rfl,p,_,_,_,rfl,rfl,SqT.of hp,at1 _ _ _,?_⟩
   refine ⟨_,rfl,p,_,_,_,rfl,rfl,SqT.of hp,at0 _ _,rfl,_,rfl,iteD (by decide +kernel) ?_⟩
   refine ⟨_,rfl,p,_,_,_,rfl,rfl,SqT.of hp,at0 _ _,rfl,_,rfl,iteD (by decide +kernel) ?_⟩
   have h1:=Txt.slice_le (toS v) none (some (n:Int))
   have h2:=Txt.slice_le (toS v) (some ((n:Int)+(m:Int))) none
   refine ⟨_,rfl,_,rfl,_,rfl,_,rfl,by omega,_,rfl,p,_,_,_,rfl,rfl,SqT.of hp,at2 _ _ _ _,_,rfl,p,_,_,_,rfl,rfl,SqT.of hp,at3 _ _ _ _ _,_,rfl,_,rfl,by omega,?_⟩
   rw [zaj,zaj,zbe v (by omega),zbf u (by omega),Int.toNat_natCast,Int.toNat_natCast]
   refine ⟨u.drop m,rfl,(by rw [List.length_drop];omega),fun H1 s1=>?_⟩
   have l1:=zab (v.take n)
   have l2:=zab (bk (u.drop m))
   have l3:=zab (v.take n++bk (u.drop m))
   simp only [List.length_append,List.length_take,List.length_drop,zcw] at l1 l2 l3
   refine ⟨_,_,rfl,rfl,by omega,?_⟩
   rw [zbv]
   refine ⟨_,rfl,_,rfl,_,rfl,p,_,_,_,rfl,rfl,SqT.of (s1 _ _ hp),at3 _ _ _ _ _,_,_,rfl,rfl,_,rfl,_,rfl,by omega,_,_,rfl,rfl,by omega,?_⟩
   rw [zaj,zbf v (by omega),zbv,show ((n:Int)+(m:Int)).toNat=n+m by omega]
   exact k _ s1
end
end Kx
namespace Kx
open PySem PySem.Spec PyProof.Rows L2 Wd
section
variable {P:Program} {w:World} {K:PySem.W.Frag} {mg:Str→Option Value} {base:Heap} {aB:Addr}
noncomputable def hlf (u:List L):List L:=u.take (u.length / 2+1)
theorem mem_putK {kvs:List (Key × V)}{k:Key}{v:V}{p:Key × V}(h:p∈putK kvs k v):p∈kvs ∨ p=(k,v):=by
 unfold putK at h
 split at h
 ·obtain ⟨q,hq,rfl⟩:=List.mem_map.mp h
  split
  ·rename_i e
   exact .inr (by rw [e])
  ·exact .inl hq
 ·rcases List.mem_append.mp h with h | h
  ·exact .inl h
  ·exact .inr (List.mem_singleton.mp h)
theorem zew {H0 G:Hp}{l:Addr}{o:HO}(w:Same H0 G)(hl:H0 l=none):Same H0 (upd G l o):=fun b u e=>by
 rw [zai (zah e hl)]
 exact w b u e
noncomputable def spHalf:Sp:=fun vs H Q _=>∃ u:List L,vs=[tx u]∧u.length≤2000∧∀ H',Same H H'→Q (tx (hlf u)) H'
noncomputable def Kn (kvs:List (Key × V)):Prop:=∀ p∈kvs,∃ u:List L,p.1 = .inr (toS (hlf u))∧p.2=tx u∧1≤u.length∧u.length≤120
noncomputable def spTbh:Sp:=fun vs H Q _=>∃ (a:Addr) (R:List (List L)),vs=[.ref a]∧H a=some (.tup (R.map tx))∧Rgs R∧∀ (d:Addr) (kvs:List (Key × V)) (H':Hp),H d=none→Kn kvs→kvs.length≤4000→H' d=some (.dK kvs)→Same H H'→Q (.ref d) H'
noncomputable abbrev s_half:Stmt:=top 25
theorem sc_half:FnScope ["turn"] ["turn"] (defScope s_half):=⟨rfl,rfl,rfl,by decide +kernel,rfl,by decide +kernel,by decide +kernel⟩
theorem c_half (D:Df K mg "half_of" s_half)(T:Bt K w mg aB):Fnc P w K mg base "half_of" ["turn"] 1 spHalf:=by
 have sc:=sc_half
 refine D.ok sc (fun _ _ _ _ _ _ us hl=>by obtain ⟨_,rfl⟩:=len1 hl;rfl) (fun vs H Q E h=>?_) (fun f cdv A outer s H vs Q E hr h=>?_)
 ·obtain ⟨u,rfl,_⟩:=h
  rfl
 ·obtain ⟨u,rfl,hu,k⟩:=h
  have l16:=za9
  refine ⟨_,(@zag _ _ _ (@zax _ _ _ _ (@zaq _ _ _ _ _ _ _ _ _ _ za5 (pv 0) zav (@zas _ _ _ (@zao _ _ _ _ _ _ _ _ za0 (@zao _ _ _ _ _ _ _ _ zd5 (@zan _ _ _ _ _ _ _ _ _ zam (by rfl) T.len PySem.boot_len (@zaa _ _ _ _ _ (pv 0) zad (by rfl)) (by decide) (by decide) (by rfl) (by rfl)) zaf) zaf))))),?_⟩
  have ul:(toS u).length≤sizeLine:=by rw [zab];omega
  refine ⟨_,rfl,_,rfl,toS u,rfl,ul,_,_,rfl,rfl,⟨by decide,by decide⟩,_,_,rfl,rfl,_,rfl,toS u,rfl,ul,?_⟩
  rw [zaj,zab,zbe _ (by omega)]
  have e:((u.length:Int) / 2+1).toNat=u.length / 2+1:=by omega
  rw [e]
  exact k H (Same.refl _)
noncomputable abbrev s_tbh:Stmt:=top 27
theorem sc_tbh:FnScope ["rings","known","turn"] ["rings"] (defScope s_tbh):=⟨rfl,rfl,rfl,by decide +kernel,rfl,by decide +kernel,by decide +kernel⟩
theorem c_tbh (D:Df K mg "turns_by_half" s_tbh)(T:Bt K w mg aB)(F_tof:Fnc P w K mg base "turns_of" ["rings"] 2 spTurnsOf)(F_half:Fnc P w K mg base "half_of" ["turn"] 1 spHalf):Fnc P w K mg base "turns_by_half" ["rings"] 3 spTbh:=by
 have sc:=sc_tbh
 refine D.ok sc (fun _ _ _ _ _ _ us hl=>by obtain ⟨_,rfl⟩:=len1 hl;rfl) (fun vs H Q E h=>?_) (fun f cdv A outer s H vs Q E hr h=>?_)
 ·obtain ⟨a,R,rfl,_⟩:=h
  rfl
 ·obtain ⟨a,R,rfl,ha,hR,k⟩:=h
  have l16:=za9
  have hu:=hu_of hr
  refine ⟨_,(@zae _ _ _ _ _ (@zap _ _ (1) _ _ _ _ sc.nd rfl (Or.inl rfl) pe_dnewK (by rfl) (by first | exact .inl rfl | exact .inr rfl | assumption)) (@zae _ _ _ _ _ (@zb0 _ _ _ _ _ _ _ _ PassesOwn.never rfl (@zd1 _ _ _ _ (@zaw _ _ _ _ _ _ _ _ _ _ _ F_tof hr (by decide) rfl (@zaa _ _ _ _ _ (pv 0) zad (by rfl)) (by decide) (by rfl) (by rfl))) (@za4 _ _ (2) _ sc.nd rfl (Or.inl rfl) (by first | exact .inl rfl | exact .inr rfl | assumption)) (@zag _ _ _ (@zed _ _ _ _ _ _ _ _ _ hu (pv 1) (@zaw _ _ _ _ _ _ _ _ _ _ _ F_half hr (by decide) rfl (@zaa _ _ _ _ _ (pv 2) zad (by rfl)) (by decide) (by rfl) (by rfl)) (pv 2) rfl)) (by intro _ ;rfl)) (@zag _ _ _ (@zax _ _ _ _ (pv 1))))),?_⟩
  intro d hd
  have s1:Same H (upd H d (.dK [])):=Same.new hd
  have f1:(upd H d (.dK [])) d=some (.dK []):=zac
  generalize upd H d (.dK [])=H1 at s1 f1 ⊢
  refine ⟨_,rfl,a,R,rfl,s1 _ _ ha,hR,fun l W H2 hl hO hW fl s2=>?_⟩
  have f2:=s2 _ _ f1
  have s02:=s1.trans s2
  have tn:Tn R W:=⟨hO,hW⟩
  have tl:=tn.len hR
  have wl:∀ x∈W,1≤x.length∧x.length≤120:=fun x hx=>by
   obtain ⟨h1,h2⟩:=tn.word hR hx
   exact ⟨List.length_pos_iff.mpr h1,by omega⟩
  refine ⟨l,rfl,⟨_,SqL.of fl⟩,zc5 (xs:=W.map tx) (fun j σ H'=>∃ (b:Option V) (kvs:List (Key × V)),σ = [some (.ref a),some (.ref d),b]∧Kn kvs∧kvs.length≤j∧H' d=some (.dK kvs)∧H' l=some (.lst (W.map tx))∧Same H H') ⟨_,[],rfl,(fun p hp=>by cases hp),Nat.le_refl _,f2,fl,s02⟩ (fun j σ H' hj ⟨_,_,_,_,_,_,f,_⟩=>SqL.of f) ?_ ?_⟩
  ·rintro j z σ H3 hz ⟨_,kvs,rfl,kn,kl,f3,fl3,s3⟩
   obtain ⟨u,hu',rfl⟩:=List.mem_map.mp (List.mem_of_getElem? hz)
   obtain ⟨u1,u2⟩:=wl u hu'
   have hj:=(List.getElem?_eq_some_iff.mp hz).1
   refine ⟨_,rfl,_,rfl,_,rfl,u,rfl,by omega,fun H4 s4=>⟨d,_,rfl,DPut.k (k:=Sum.inr (toS (hlf u))) (s4 _ _ f3) (by rw [List.length_map] at hj;omega),?_⟩⟩
   have nl:l≠d:=fun e=>by rw [e,f3] at fl3;cases fl3
   refine ⟨_,_,rfl,fun p hp=>?_,Nat.le_trans (zb6 _ _ _) (by omega),zac,by rw [zai nl];exact s4 _ _ fl3,zew (s3.trans s4) hd⟩
   rcases mem_putK hp with h | h
   ·exact kn p h
   ·exact ⟨u,by rw [h],by rw [h],u1,u2⟩
  ·rintro σ H3 ⟨_,kvs,rfl,kn,kl,f3,fl3,s3⟩
   refine ⟨_,rfl,k d kvs H3 hd kn (by rw [List.length_map] at kl;omega) f3 s3⟩
end
end Kx
namespace Kx
open PySem PySem.Spec PyProof.Rows L2 Wd
section
variable {P:Program} {w:World} {K:PySem.W.Frag} {mg:Str→Option Value} {base:Heap} {aB:Addr}
noncomputable def Srt (w:List L)(s:Stp):Prop:=Sk s∧(chg w s).length < w.length
noncomputable def spSat:Sp:=fun vs H Q _=>∃ (d l:Addr) (kvs:List (Key × V)) (ns:List Nat) (w:List L) (p:Nat),vs=[.ref d,.ref l,tx w,.int (p:Int)]∧Rd H d (.dK kvs)∧Kn kvs∧H l=some (.lst (ns.map fun n:Nat=>V.int (n:Int)))∧ns.length≤4000∧(∀ n∈ns,n≤1000)∧w.length≤2000∧p≤w.length∧(∀ H',Same H H'→Q .non H')∧∀ (q:Addr) (s:Stp) (H':Hp),Srt w s→H' q=some (.tup s.vs)→Same H H'→Q (.ref q) H'
theorem out_srt {v:List L}{p:Nat}(h:outB v p=true)(hv:v.length≤2000):Srt v (.out p):=by
 unfold outB at h
 have h1:p+1 < v.length:=of_decide_eq_true (Bool.and_eq_true_iff.mp h).1
 refine ⟨by show p≤5000;omega,?_⟩
 unfold chg
 rw [List.length_append,List.length_take,List.length_drop]
 omega
theorem rng_srt {u v:List L}{p n:Nat}(hu1:1≤u.length)(hu:u.length≤120)(hv:v.length≤2000)(hp:p≤v.length)(e:(v.drop p).take n=hlf u):Srt v (.rng p u (lcp u ((v.drop p).take u.length)).length):=by
 have hl:(hlf u).length=u.length / 2+1:=by unfold hlf;rw [List.length_take];omega
 have p1:hlf u <+: u:=List.take_prefix _ _
 have p2:hlf u <+: (v.drop p).take u.length:=by
  have q:hlf u <+: v.drop p:=by rw [← e];exact List.take_prefix _ _
  exact List.prefix_take_iff.mpr ⟨q,by omega⟩
 have p3:=(zem p1 p2).length_le
 obtain ⟨p4,p5⟩:=zcg u ((v.drop p).take u.length)
 have p4:=p4.length_le
 have p5:=p5.length_le
 rw [List.length_take,List.length_drop] at p5
 generalize (lcp u ((v.drop p).take u.length)).length=m at p3 p4 p5 ⊢
 refine ⟨⟨by omega,by omega,by omega⟩,?_⟩
 unfold chg
 rw [List.length_append,List.length_append,zcw,List.length_take,List.length_drop,List.length_drop]
 omega
theorem mid_cut (w:List L)(p n:Nat):cutL w (some (p:Int)) (some ((p:Int)+(n:Int)))=(w.drop p).take n:=by
 unfold cutL
 rw [show ((p:Int)+(n:Int))=((p+n:Nat):Int) by omega,HT.sIx_nat,HT.sIx_nat]
 by_cases hp:p≤w.length
 ·rw [Nat.min_eq_left hp]
  by_cases hn:p+n≤w.length
  ·rw [Nat.min_eq_left hn]
   congr 1
   omega
  ·rw [Nat.min_eq_right (by omega),List.take_of_length_le (by rw [List.length_drop];omega),List.take_of_length_le (by rw [List.length_drop];omega)]
 ·rw [List.drop_of_length_le (show w.length≤min p w.length by omega),List.drop_of_length_le (show w.length≤p by omega)]
  simp
theorem valV_mem {kvs:List (Key × V)}{k:Key}{v:V}(h:valV kvs k=some v):(k,v)∈kvs:=by
 unfold valV at h
 obtain ⟨q,hq,e⟩:=Option.map_eq_some_iff.mp h
 have h1:=List.mem_of_find?_eq_some hq
 have h2:=List.find?_some hq
 have h2:q.1=k:=by simpa using h2
 rw [← h2,← e]
 exact h1
noncomputable abbrev s_sat:Stmt:=top 28
theorem sc_sat:FnScope ["known","sizes","word","place","size","turn"] ["known","sizes","word","place"] (defScope s_sat):=⟨rfl,rfl,rfl,by decide +kernel,rfl,by decide +kernel,by decide +kernel⟩
theorem c_sat (D:Df K mg "shortening_at" s_sat)(T:Bt K w mg aB)(F_isout:Fnc P w K mg base "is_out" ["word","place"] 2 spOut)(F_beg:Fnc P w K mg base "beginning" ["one","other"] 1 spBegin):Fnc P w K mg base "shortening_at" ["known","sizes","word","place"] 3 spSat:=by
 have sc:=sc_sat
 refine D.ok sc (fun _ _ _ _ _ _ us hl=>by obtain ⟨_,_,_,_,rfl⟩:=len4 hl;rfl) (fun vs H Q E h=>?_) (fun f cdv A outer s H vs Q E hr h=>?_)
 ·obtain ⟨d,l,kvs,ns,w,p,rfl,_⟩:=h
  rfl
 ·obtain ⟨d,l,kvs,ns,v,p,rfl,hd,kn,hl,hnl,hn,hv,hp,k0,k1⟩:=h
  have l16:=za9
  have hu:=hu_of hr
  refine ⟨_,(@zae _ _ _ _ _ (@zbl _ _ _ _ _ _ _ _ (@zdv _ _ _ (@zaw _ _ _ _ _ _ _ _ _ _ _ F_isout hr (by decide) rfl (@zaa _ _ _ _ _ (pv 2) (@zaa _ _ _ _ _ (pv 3) zad (by rfl)) (by rfl)) (by decide) (by rfl) (by rfl)) (fun _=>rfl)) (@zag _ _ _ (@zax _ _ _ _ (@zbc _ _ _ _ _ (@zaa _ _ _ _ _ zar (@zaa _ _ _ _ _ (pv 3) zad (by rfl)) (by rfl))))) za3) (@zae _ _ _ _ _ (@zb0 _ _ _ _ _ _ _ _ PassesOwn.never rfl (@zd1 _ _ _ _ (pv 1)) (@za4 _ _ (4) _ sc.nd rfl (Or.inl rfl) (by first | exact .inl rfl | exact .inr rfl | assumption)) (@zae _ _ _ _ _ (@zap _ _ (5) _ _ _ _ sc.nd rfl (Or.inl rfl) (@pe_dget1 _ _ _ _ _ _ _ hu (pv 0) (@zaq _ _ _ _ _ _ _ _ _ _ za5 (pv 2) (@zas _ _ _ (pv 3)) (@zas _ _ _ (@zao _ _ _ _ _ _ _ _ za0 (pv 3) (pv 4)))) ⟨rfl,rfl,rfl,rfl⟩) (by rfl) (by first | exact .inl rfl | exact .inr rfl | assumption)) (@zag _ _ _ (@zbl _ _ _ _ _ _ _ _ (@zat _ _ _ _ _ _ _ _ zhf (pv 5) zcs (zay _)) (@zag _ _ _ (@zax _ _ _ _ (@zbc _ _ _ _ _ (@zaa _ _ _ _ _ zar (@zaa _ _ _ _ _ (pv 3) (@zaa _ _ _ _ _ (pv 5) (@zaa _ _ _ _ _ (@zan _ _ _ _ _ _ _ _ _ zam (by rfl) T.len PySem.boot_len (@zaa _ _ _ _ _ (@zaw _ _ _ _ _ _ _ _ _ _ _ F_beg hr (by decide) rfl (@zaa _ _ _ _ _ (pv 5) (@zaa _ _ _ _ _ (@zaq _ _ _ _ _ _ _ _ _ _ za5 (pv 2) (@zas _ _ _ (pv 3)) (@zas _ _ _ (@zao _ _ _ _ _ _ _ _ za0 (pv 3) (@zan _ _ _ _ _ _ _ _ _ zam (by rfl) T.len PySem.boot_len (@zaa _ _ _ _ _ (pv 5) zad (by rfl)) (by decide) (by decide) (by rfl) (by rfl))))) zad (by rfl)) (by rfl)) (by decide) (by rfl) (by rfl)) zad (by rfl)) (by decide) (by decide) (by rfl) (by rfl)) zad (by rfl)) (by rfl)) (by rfl)) (by rfl))))) za3))) (by intro _ ;rfl)) (@zag _ _ _ (@zax _ _ _ _ zcs)))),?_⟩
  have vl:(toS v).length≤sizeLine:=by rw [zab];omega
  refine ⟨_,rfl,_,rfl,v,p,rfl,by omega,fun H1 s1=>⟨_,rfl,?_⟩⟩
  cases ho:outB v p with
  | true =>
   refine ifsT ⟨_,rfl,(by show 2≤sizeLine;decide),fun q hq=>?_⟩
   exact k1 q (.out p) _ (out_srt ho hv) zac (s1.then hq)
  | false =>
   refine ifsF ?_
   refine ⟨_,rfl,l,rfl,⟨_,SqL.of (s1 _ _ hl)⟩,zc5 (xs:=ns.map fun n:Nat=>V.int (n:Int)) (fun j σ H'=>∃ b4 b5:Option V,σ = [some (.ref d),some (.ref l),some (tx v),some (.int (p:Int)),b4,b5]∧Same H H') ⟨_,_,rfl,s1⟩ (fun j σ H' hj ⟨_,_,_,s⟩=>SqL.of (s _ _ hl)) ?_ ?_⟩
   ·rintro j z σ H2 hz ⟨_,_,rfl,s2⟩
    obtain ⟨n,hn',rfl⟩:=List.mem_map.mp (List.mem_of_getElem? hz)
    have rd:Rd H2 d (.dK kvs):=by
     rcases hd with h | ⟨o,h⟩
     ·exact .inl (s2 _ _ h)
     ·exact .inr ⟨o,s2 _ _ h⟩
    refine ⟨_,rfl,d,rfl,.inl ⟨kvs,rd⟩,_,rfl,_,rfl,_,rfl,_,rfl,_,rfl,_,_,rfl,rfl,_,rfl,toS v,rfl,vl,?_⟩
    rw [zaj,mid_cut]
    refine ⟨_,.inl ⟨kvs,.inr (toS ((v.drop p).take n)),rd,rfl,rfl⟩,?_⟩
    cases hg:valV kvs (Sum.inr (toS ((v.drop p).take n))) with
    | none=>exact ⟨_,rfl,rfl,_,rfl,iteD rfl ⟨_,_,rfl,s2⟩⟩
    | some x =>
     obtain ⟨u,e1,e2,u1,u2⟩:=kn _ (valV_mem hg)
     have e2:x=tx u:=e2
     subst e2
     have e1:(v.drop p).take n=hlf u:=zbq (Sum.inr.inj e1)
     have ul:(toS u).length≤sizeLine:=by rw [zab];omega
     refine ⟨_,rfl,rfl,_,rfl,iteC rfl ?_⟩
     refine ⟨_,rfl,_,rfl,_,rfl,_,rfl,_,rfl,_,rfl,_,rfl,_,rfl,toS u,rfl,ul,_,_,rfl,rfl,_,rfl,toS v,rfl,vl,?_⟩
     rw [zaj,zab,mid_cut]
     refine ⟨u,(v.drop p).take u.length,rfl,by omega,(by rw [List.length_take];omega),fun H3 s3=>?_⟩
     have hs:=rng_srt u1 u2 hv hp e1
     have pl:=(zcg u ((v.drop p).take u.length)).1.length_le
     refine ⟨_,rfl,(by rw [zab];omega),(by show 4≤sizeLine;decide),fun q hq=>?_⟩
     rw [zab]
     exact k1 q _ _ hs zac ((s2.trans s3).then hq)
   ·rintro σ H2 ⟨_,_,rfl,s2⟩
    exact k0 H2 s2
end
end Kx
namespace Kx
open PySem PySem.Spec PyProof.Rows L2 Wd
section
variable {P:Program} {w:World} {K:PySem.W.Frag} {mg:Str→Option Value} {base:Heap} {aB:Addr}
noncomputable def spShort:Sp:=fun vs H Q _=>∃ (a:Addr) (R:List (List L)) (w:List L),vs=[.ref a,tx w]∧H a=some (.tup (R.map tx))∧Rgs R∧w.length≤2000∧∀ (t q:Addr) (v:List L) (xs:List V) (H':Hp),H' t=some (.tup [.ref q,tx v])→H' q=some (.tup xs)→Same H H'→Q (.ref t) H'
theorem hide {H4:Hp}{p l:Addr}{X O:HO}{G:Hp→Prop}(hp:H4 p=none)(hl:upd H4 p X l=none)(k:∀ H5,Same H4 H5→H5 l=none→G (upd H5 l O)):G (upd (upd H4 p X) l O):=k _ (Same.new hp) hl
theorem len_leI:∀ {dl zs:List Int},dl.Nodup→(∀ k∈dl,k∈zs)→dl.length≤zs.length
 | [],zs,_,_=>Nat.zero_le _
 | d::dl,zs,nd,m=>by
  have hd:=m d List.mem_cons_self
  obtain ⟨n1,n2⟩:=List.nodup_cons.mp nd
  have:=len_leI (zs:=zs.erase d) n2 fun k hk=>(List.mem_erase_of_ne (fun e=>n1 (by rw [← e];exact hk))).mpr (m k (List.mem_cons_of_mem _ hk))
  rw [List.length_erase_of_mem hd] at this
  have:=List.length_pos_of_mem hd
  rw [List.length_cons]
  omega
theorem nat_of {zs:List Int}(h:∀ z∈zs,0≤z∧z≤1000):∃ ns:List Nat,zs.map V.int=ns.map (fun n:Nat=>V.int (n:Int))∧ns.length=zs.length∧∀ n∈ns,n≤1000:=by
 refine ⟨zs.map Int.toNat,?_,List.length_map _,fun n hn=>?_⟩
 ·rw [List.map_map]
  refine List.map_congr_left fun z hz=>?_
  have:=h z hz
  show V.int z=V.int ((z.toNat:Nat):Int)
  rw [Int.toNat_of_nonneg this.1]
 ·obtain ⟨z,hz,rfl⟩:=List.mem_map.mp hn
  have:=h z hz
  omega
noncomputable abbrev s_short:Stmt:=top 26
theorem sc_short:FnScope ["rings","word","known","sizes","reach","steps","place","step"] ["rings","word"] (defScope s_short):=⟨rfl,rfl,rfl,by decide +kernel,rfl,by decide +kernel,by decide +kernel⟩
theorem c_short (D:Df K mg "shortened" s_short)(T:Bt K w mg aB)(Tset:mg "set" = none)(F_tbh:Fnc P w K mg base "turns_by_half" ["rings"] 3 spTbh)(F_sat:Fnc P w K mg base "shortening_at" ["known","sizes","word","place"] 3 spSat)(F_chg:Fnc P w K mg base "changed" ["word","step"] 2 spChg):Fnc P w K mg base "shortened" ["rings","word"] 4 spShort:=by
 have sc:=sc_short
 refine D.ok sc (fun _ _ _ _ _ _ us hl=>by obtain ⟨_,_,rfl⟩:=len2 hl;rfl) (fun vs H Q E h=>?_) (fun f cdv A outer s H vs Q E hr h=>?_)
 ·obtain ⟨a,R,w,rfl,_⟩:=h
  rfl
 ·obtain ⟨a,R,v,rfl,ha,hR,hv,k⟩:=h
  have l16:=za9
  refine ⟨_,(@zae _ _ _ _ _ (@zap _ _ (2) _ _ _ _ sc.nd rfl (Or.inl rfl) (@zaw _ _ _ _ _ _ _ _ _ _ _ F_tbh hr (by decide) rfl (@zaa _ _ _ _ _ (pv 0) zad (by rfl)) (by decide) (by rfl) (by rfl)) (by rfl) (by first | exact .inl rfl | exact .inr rfl | assumption)) (@zae _ _ _ _ _ (@zap _ _ (3) _ _ _ _ sc.nd rfl (Or.inl rfl) (@zan _ _ _ _ _ _ _ _ _ (zdt rfl) (by rfl) T.sorted zfw (@zaa _ _ _ _ _ (@zbj _ _ _ _ _ _ _ _ _ (zey rfl) (by rfl) Tset b_set (@zaa _ _ _ _ _ (@zeh _ _ _ _ _ _ _ (["half"]) (["half"]) ([]) _ _ _ _ (@zef _ _ _ _ _ _ rfl (by kernel_rfl)) rfl (pi_keys (pv 2)) (fun _ _ _ _=>@za4 _ _ (0) _ (show (["half"]:List Str).Nodup from by decide +kernel) rfl (Or.inl rfl) (by first | exact .inl rfl | exact .inr rfl | assumption)) (fun _ _ _ _=>zcm) (fun _ _ _ _=>by (exact (@zan _ _ _ _ _ _ _ _ _ zam (by rfl) T.len PySem.boot_len (@zaa _ _ _ _ _ (pv 0) zad (by rfl)) (by decide) (by decide) (by rfl) (by rfl)))) (by intro _ ;rfl)) zad (by rfl)) (by decide) (by decide) (by rfl) (by rfl)) zad (by rfl)) (by decide) (by decide) (by rfl) (by rfl)) (by rfl) (by first | exact .inl rfl | exact .inr rfl | assumption)) (@zae _ _ _ _ _ (@zap _ _ (4) _ _ _ _ sc.nd rfl (Or.inl rfl) (@zao _ _ _ _ _ _ _ _ ze0 (@zan _ _ _ _ _ _ _ _ _ (zf8 (K:=K) rfl rfl) (by rfl) T.max b_max (@zaa _ _ _ _ _ (@zao _ _ _ _ _ _ _ _ zjy (@zct _ _ _ _ (@zaa _ _ _ _ _ zaf zad (by rfl))) (pv 3)) zad (by rfl)) (by decide) (by decide) (by rfl) (by rfl)) zaf) (by rfl) (by first | exact .inl rfl | exact .inr rfl | assumption)) (@zae _ _ _ _ _ (@zap _ _ (5) _ _ _ _ sc.nd rfl (Or.inl rfl) (@zct _ _ _ _ zad) (by rfl) (by first | exact .inl rfl | exact .inr rfl | assumption)) (@zae _ _ _ _ _ (@zap _ _ (6) _ _ _ _ sc.nd rfl (Or.inl rfl) zaf (by rfl) (by first | exact .inl rfl | exact .inr rfl | assumption)) (@zae _ _ _ _ _ (@zc4 _ _ _ _ _ _ PassesOwn.never (@zat _ _ _ _ _ _ _ _ zga (pv 6) (@zan _ _ _ _ _ _ _ _ _ zam (by rfl) T.len PySem.boot_len (@zaa _ _ _ _ _ (pv 1) zad (by rfl)) (by decide) (by decide) (by rfl) (by rfl)) (zay _)) (@zae _ _ _ _ _ (@zap _ _ (7) _ _ _ _ sc.nd rfl (Or.inl rfl) (@zaw _ _ _ _ _ _ _ _ _ _ _ F_sat hr (by decide) rfl (@zaa _ _ _ _ _ (pv 2) (@zaa _ _ _ _ _ (pv 3) (@zaa _ _ _ _ _ (pv 1) (@zaa _ _ _ _ _ (pv 6) zad (by rfl)) (by rfl)) (by rfl)) (by rfl)) (by decide) (by rfl) (by rfl)) (by rfl) (by first | exact .inl rfl | exact .inr rfl | assumption)) (@zag _ _ _ (@zbl _ _ _ _ _ _ _ _ (@zat _ _ _ _ _ _ _ _ op_isN (pv 7) zcs (zay _)) (@zag _ _ _ (@ps_aug _ _ (6) _ _ _ _ _ _ sc.nd rfl (Or.inl rfl) zaf ip_add (by first | exact .inl rfl | exact .inr rfl | assumption))) (@zae _ _ _ _ _ (@zdf _ _ _ _ (@zfl _ _ _ _ _ _ _ _ _ _ _ _ PySem.F.plainAttrs_list PySem.F.slot_list_append PySem.F.type_list_append zec (pv 5) (@zaa _ _ _ _ _ (pv 7) zad (by rfl)) (by rfl) (by rfl) (by rfl) (by rfl) (by rfl)) (by rfl)) (@zae _ _ _ _ _ (@zap _ _ (1) _ _ _ _ sc.nd rfl (Or.inl rfl) (@zaw _ _ _ _ _ _ _ _ _ _ _ F_chg hr (by decide) rfl (@zaa _ _ _ _ _ (pv 1) (@zaa _ _ _ _ _ (pv 7) zad (by rfl)) (by rfl)) (by decide) (by rfl) (by rfl)) (by rfl) (by first | exact .inl rfl | exact .inr rfl | assumption)) (@zag _ _ _ (@zap _ _ (6) _ _ _ _ sc.nd rfl (Or.inl rfl) (@zan _ _ _ _ _ _ _ _ _ (@zgb _ rfl) (by rfl) T.max b_max (@zaa _ _ _ _ _ zaf (@zaa _ _ _ _ _ (@zao _ _ _ _ _ _ _ _ ze0 (pv 6) (pv 4)) zad (by rfl)) (by rfl)) (by decide) (by decide) (by rfl) (by rfl)) (by rfl) (by first | exact .inl rfl | exact .inr rfl | assumption))))))))) (@zag _ _ _ (@zax _ _ _ _ (@zbc _ _ _ _ _ (@zaa _ _ _ _ _ (@zbj _ _ _ _ _ _ _ _ _ zbn (by rfl) T.tuple zfx (@zaa _ _ _ _ _ (pv 5) zad (by rfl)) (by decide) (by decide) (by rfl) (by rfl)) (@zaa _ _ _ _ _ (pv 1) zad (by rfl)) (by rfl))))))))))),?_⟩
  refine ⟨_,rfl,a,R,rfl,ha,hR,fun d kvs H1 hd kn kl fd s1=>?_⟩
  refine ⟨_,rfl,d,kvs,rfl,fd,fun o=>?_⟩
  have s2:Same H (upd H1 d (.frz o (.dK kvs))):=zew s1 hd
  have f2:(upd H1 d (.frz o (.dK kvs))) d=some (.frz o (.dK kvs)):=zac
  generalize upd H1 d (.frz o (.dK kvs))=H2 at s2 f2 ⊢
  refine zc0 (own:=["half"]) (cap:=[]) (J:=Itk d o kvs) kvs.length (fun i ys σ H'=>∃ (b:Option V) (zs:List Int),σ = [b]∧H'=H2∧ys=zs.map V.int∧zs.length=i∧∀ z∈zs,0≤z∧z≤1000) ⟨none,[],rfl,rfl,rfl,rfl,fun z hz=>by cases hz⟩ (fun i ys σ H' hi ⟨_,zs,_,_,e,e2,_⟩=>by rw [e,List.length_map,e2];exact Nat.le_refl _) (by omega) (fun i ys σ H' hi ⟨_,_,_,e,_⟩=>by rw [e];exact ⟨hi,f2⟩) (fun ys σ H' ⟨_,_,_,e,_⟩=>by rw [e];exact ⟨rfl,f2⟩) ?_ ?_
  ·rintro i ys σ H3 x H4 N hi ⟨_,zs,rfl,rfl,rfl,hl,hz⟩ ⟨rfl,key,val,hkv,rfl⟩ hN
   obtain ⟨u,e1,_,u1,u2⟩:=kn _ (List.mem_of_getElem? hkv)
   have e1:key = .inr (toS (hlf u)):=e1
   subst e1
   have hh:(hlf u).length≤120:=by unfold hlf;rw [List.length_take];omega
   refine ⟨_,rfl,toS (hlf u),rfl,(by rw [zab];omega),hN _ _ _ ⟨_,zs++[((toS (hlf u)).length:Int)],rfl,rfl,by rw [List.map_append];rfl,by rw [List.length_append,hl];rfl,fun z hz'=>?_⟩⟩
   rcases List.mem_append.mp hz' with h | h
   ·exact hz z h
   ·rw [List.mem_singleton.mp h,zab]
    omega
  rintro ys σ H3 l0 ⟨_,zs,rfl,rfl,rfl,hl,hz⟩ hl0
  have s3:=s2.then (o:=.lst (zs.map V.int)) hl0
  have g3:=Same.new (o:=.lst (zs.map V.int)) hl0 _ _ f2
  have f3:(upd H3 l0 (.lst (zs.map V.int))) l0=some (.lst (zs.map V.int)):=zac
  generalize upd H3 l0 (.lst (zs.map V.int))=H4 at s3 g3 f3 ⊢
  refine ⟨l0,zs,rfl,SqL.of f3,by omega,fun p dl hp nd mem=>?_⟩
  refine ⟨p,dl,rfl,zac,nd,fun l ws hl1 perm _=>?_⟩
  refine hide (G:=tAsg_k1 (gName 3) _ _ (.ref l)) hp hl1 fun H5 t4 hl1=>?_
  have s4:=s3.trans t4
  have g4:=t4 _ _ g3
  have hws:∀ z∈ws,0≤z∧z≤1000:=fun z h=>hz z ((mem z).mp (perm.mem_iff.mp h))
  have wl:ws.length≤4000:=by
   rw [perm.length_eq]
   have:=len_leI nd fun x hx=>(mem x).mp hx
   omega
  have s5:=s4.then (o:=.lst (ws.map V.int)) hl1
  have g5:=Same.new (o:=.lst (ws.map V.int)) hl1 _ _ g4
  have f5:(upd H5 l (.lst (ws.map V.int))) l=some (.lst (ws.map V.int)):=zac
  generalize upd H5 l (.lst (ws.map V.int))=H6 at s5 g5 f5 ⊢
  -- the reach
  refine ⟨(by show 1≤sizeLine;decide),fun q hq=>?_⟩
  have t7:=Same.new (o:=.lst [.int 2]) hq
  have f7:(upd H6 q (.lst [.int 2])) q=some (.lst [.int 2]):=zac
  generalize upd H6 q (.lst [.int 2])=H7 at t7 f7 ⊢
  refine ⟨_,rfl,q,l,_,_,rfl,rfl,f7,t7 _ _ f5,(by rw [List.length_map];show 1+_≤_;omega),fun q2 hq2=>?_⟩
  have t8:=t7.then (o:=.lst ((2::ws).map V.int)) hq2
  have f8:(upd H7 q2 (.lst ((2::ws).map V.int))) q2=some (.lst ((2::ws).map V.int)):=zac
  show call_max_ints_r _ _ (upd H7 q2 (.lst ((2::ws).map V.int))) _
  generalize upd H7 q2 (.lst ((2::ws).map V.int))=H8 at t8 f8 ⊢
  refine ⟨q2,2::ws,rfl,SqL.of f8,by simp,fun m hm hmax=>⟨_,_,rfl,rfl,?_⟩⟩
  have m2:=hmax 2 (by simp)
  have s8:=s5.trans t8
  have g8:=t8 _ _ g5
  have fl8:=t8 _ _ f5
  refine ⟨(by show 0≤sizeLine;decide),fun ls hls=>?_⟩
  have s9:=s8.then (o:=.lst []) hls
  have g9:=Same.new (o:=.lst []) hls _ _ g8
  have fl9:=Same.new (o:=.lst []) hls _ _ fl8
  have f9:(upd H8 ls (.lst [])) ls=some (.lst []):=zac
  have hls0:H ls=none:=s8.free hls
  have nd1:d≠ls:=zah g8 hls
  have nl1:l≠ls:=zah fl8 hls
  generalize upd H8 ls (.lst [])=H9 at s9 g9 fl9 f9 ⊢
  clear f8 t8 f7 t7 s8
  obtain ⟨ns,en,ln,hns⟩:=nat_of hws
  rw [en] at fl9
  refine while_to (fun n σ H'=>∃ (w':List L) (p':Nat) (xs:List V) (b:Option V),σ = [some (.ref a),some (tx w'),some (.ref d),some (.ref l),some (.int (m - 1)),some (.ref ls),some (.int (p':Int)),b]∧n=3000*w'.length+(w'.length - p')∧xs.length+w'.length≤v.length∧H' d=some (.frz o (.dK kvs))∧H' l=some (.lst (ns.map fun n:Nat=>V.int (n:Int)))∧H' ls=some (.lst xs)∧Same H H')
   (fun σ H'=>∃ (w':List L) (p':Nat) (xs:List V) (b:Option V),σ = [some (.ref a),some (tx w'),some (.ref d),some (.ref l),some (.int (m - 1)),some (.ref ls),some (.int (p':Int)),b]∧H' ls=some (.lst xs)∧Same H H') ⟨_,v,0,[],_,rfl,rfl,by simp,g9,fl9,f9,s9⟩ ?_ ?_
  ·rintro nx hnx n σ H10 ⟨w',p',xs,b,rfl,rfl,hx,gd,gl,gs,sH⟩
   have wl':(toS w').length≤sizeLine:=by rw [zab];omega
   refine ⟨_,rfl,_,rfl,toS w',rfl,wl',_,_,rfl,rfl,_,rfl,?_⟩
   by_cases hlt:p' < w'.length
   ·refine iteC (decide_eq_true (by rw [zab];omega)) ⟨_,fun σ' H' q=>q,?_⟩
    refine ⟨_,rfl,_,rfl,_,rfl,_,rfl,d,l,kvs,ns,w',p',rfl,.inr ⟨o,gd⟩,kn,gl,by omega,hns,by omega,by omega,fun H11 s11=>?_,fun q st H11 srt fq s11=>?_⟩
    ·refine ⟨_,rfl,rfl,_,rfl,iteC rfl ?_⟩
     refine ⟨_,rfl,_,_,rfl,rfl,?_⟩
     refine ⟨_,?_,w',p' + 1,xs,_,rfl,rfl,hx,s11 _ _ gd,s11 _ _ gl,s11 _ _ gs,sH.trans s11⟩
     omega
    ·refine ⟨_,rfl,rfl,_,rfl,iteD rfl ?_⟩
     refine ⟨_,rfl,.inl ⟨rfl,_,SqL.of (s11 _ _ gs)⟩,_,rfl,ls,xs,_,rfl,rfl,s11 _ _ gs,(by omega),?_⟩
     have nq:q≠ls:=fun e=>by have:=s11 _ _ gs;rw [e,this] at fq;cases fq
     have fq':(upd H11 ls (.lst (xs++[.ref q]))) q=some (.tup st.vs):=by rw [zai nq];exact fq
     have gd':(upd H11 ls (.lst (xs++[.ref q]))) d=some (.frz o (.dK kvs)):=by rw [zai nd1];exact s11 _ _ gd
     have gl':(upd H11 ls (.lst (xs++[.ref q]))) l=some (.lst (ns.map fun n:Nat=>V.int (n:Int))):=by rw [zai nl1];exact s11 _ _ gl
     have gs':(upd H11 ls (.lst (xs++[.ref q]))) ls=some (.lst (xs++[.ref q])):=zac
     have sH':Same H (upd H11 ls (.lst (xs++[.ref q]))):=zew (sH.trans s11) hls0
     generalize upd H11 ls (.lst (xs++[.ref q]))=H12 at fq' gd' gl' gs' sH' ⊢
     refine ⟨_,rfl,_,rfl,q,w',st,rfl,by omega,fq',srt.1,fun H13 s13=>?_⟩
     refine ⟨_,rfl,_,rfl,_,_,rfl,rfl,_,_,rfl,?_⟩
     have h2:=srt.2
     have ex:∃ p2:Nat,(if (p':Int) - (m - 1) > 0 then (p':Int) - (m - 1) else 0)=(p2:Int):=by
      split
      ·exact ⟨((p':Int) - (m - 1)).toNat,by omega⟩
      ·exact ⟨0,rfl⟩
     obtain ⟨p2,e2⟩:=ex
     show tAsg_k1 _ _ _ (V.int (if (p':Int) - (m - 1) > 0 then (p':Int) - (m - 1) else 0)) _
     rw [e2]
     refine ⟨_,?_,chg w' st,p2,xs++[.ref q],_,rfl,rfl,(by rw [List.length_append,List.length_singleton];omega),s13 _ _ gd',s13 _ _ gl',s13 _ _ gs',sH'.trans s13⟩
     omega
   ·exact iteD (decide_eq_false (by rw [zab];omega)) (hnx _ _ ⟨w',p',xs,b,rfl,gs,sH⟩)
  ·rintro σ H10 ⟨w',p',xs,b,rfl,gs,sH⟩
   refine ⟨_,rfl,ls,xs,rfl,.inl ⟨SqL.of gs,fun q hq=>?_⟩⟩
   have f11:(upd H10 q (.tup xs)) q=some (.tup xs):=zac
   have s11:=sH.then (o:=.tup xs) hq
   generalize upd H10 q (.tup xs)=H11 at f11 s11 ⊢
   refine ⟨_,rfl,(by show 2≤sizeLine;decide),fun t ht=>?_⟩
   exact k t q w' xs _ zac (Same.new ht _ _ f11) (s11.then ht)
end
end Kx
namespace Kx
open PySem PySem.Spec PyProof.Rows L2 Wd
section
variable {P:Program} {w:World} {K:PySem.W.Frag} {mg:Str→Option Value} {base:Heap} {aB:Addr}
noncomputable def cmem (st:Stmt)(j:Nat):Stmt:=match st with | .ClassDef (body:=b) ..=>b.getD j (.Pass ⟨0,0,0,0⟩) | _=>.Pass ⟨0,0,0,0⟩
noncomputable abbrev i_thin:Stmt:=cmem (top 5) 0
theorem sc_ithin:FnScope ["self","turn","other","piece"] ["self","turn","other","piece"] (defScope i_thin):=⟨rfl,rfl,rfl,by decide +kernel,rfl,by decide +kernel,by decide +kernel⟩
theorem c_ithin {R C f:Addr}{fd:FuncData}(D:Fun K "__init__" "NoThin.__init__" i_thin f fd)(B:XBase K R)(hR:mg "RingError" = some (.ref R))(x:XAt K C)(n0:PySem.W.findIn K (.ref C) "turn" = some none)(n1:PySem.W.findIn K (.ref C) "other" = some none)(n2:PySem.W.findIn K (.ref C) "piece" = some none) :
  Binds K fd ["self","turn","other","piece"] []∧FnOk P w K mg base CX0 1 f fd ["self","turn","other","piece"] (spInit ["turn","other","piece"] C):=by
 have sc:=sc_ithin
 refine ⟨D.binds fun _ _ _ _ _ _ us hl=>match us,hl with | [_,_,_,_],_=>rfl,D.ok sc (fun vs H Q E h=>?_) (fun cdv A outer s H vs Q E hr h=>?_)⟩
 ·obtain ⟨a,ys,b,rfl,hl,_⟩:=h
  rw [List.length_cons,hl];rfl
 ·obtain ⟨a,ys,b,rfl,hl,ea,k⟩:=h
  match ys,hl with
  | [y,z,x3],_ =>
  refine ⟨_,(@zae _ _ _ _ _ (@zdf _ _ _ _ (@pe_initX _ _ _ _ _ _ _ _ _ _ B rfl hR (@zaa _ _ _ _ _ (pv 0) (@zaa _ _ _ _ _ zar zad (by rfl)) (by rfl)) (by decide) (by rfl) (by rfl) (by rfl)) (by rfl))
   (@zae _ _ _ _ _ (@ps_fx0 _ _ _ _ _ _ _ _ (pv 0) (pv 1) (by rfl)) (@zae _ _ _ _ _ (@ps_fx1 _ _ _ _ _ _ _ _ (pv 0) (pv 2) (by rfl)) (@zag _ _ _ (@ps_fx1 _ _ _ _ _ _ _ _ (pv 0) (pv 3) (by rfl)))))),?_⟩
  refine ⟨_,rfl,a,C,none,b,[_],rfl,by simp,ea,x,?_⟩
  refine ⟨_,rfl,_,rfl,a,C,b,rfl,ea,x,n0,fun dx hdx ne=>?_⟩
  refine ⟨_,rfl,_,rfl,a,C,b,dx,_,rfl,?_,zac ..,(by show (1:Nat)≤900;decide),x,n1,ne,?_⟩
  ·rw [zai (Ne.symm ne),zac]
  ·rw [show ∀ o o',upd (upd (upd H a (Exo a C (some dx) b)) dx o) dx o'=upd (upd H a (Exo a C (some dx) b)) dx o' from fun _ _=>zcx]
   refine ⟨_,rfl,_,rfl,a,C,b,dx,_,rfl,?_,zac ..,(by show (2:Nat)≤900;decide),x,n2,ne,?_⟩
   ·rw [zai (Ne.symm ne),zac]
   ·have q:=k dx hdx ne
    rw [show ∀ o o',upd (upd (upd H a (Exo a C (some dx) b)) dx o) dx o'=upd (upd H a (Exo a C (some dx) b)) dx o' from fun _ _=>zcx]
    exact q
end
end Kx
namespace Kx
open PySem PySem.Spec PyProof.Rows L2 Wd
section
variable {P:Program} {w:World} {K:PySem.W.Frag} {mg:Str→Option Value} {base:Heap} {aB:Addr}
noncomputable def XT (C:Addr)(H:Hp)(a:Addr)(t o c:List L):Prop:=∃ dx,H a=some (Exo a C (some dx) false)∧H dx=some (Xdt dx [("turn",tx t),("other",tx o),("piece",tx c)])
theorem new_thin {C:Addr}{H:Hp}{a dx:Addr}{t o c:List L}(ha:H a=none)(hd:H dx=none)(ne:dx≠a) :
  XT C (upd (upd (upd H a (Exo a C (some dx) true)) dx (Xdt dx (fillF [] ((["turn","other","piece"]:List Str).zip [tx t,tx o,tx c])))) a (Exo a C (some dx) false)) a t o c:=by
 refine ⟨dx,zac,?_⟩
 rw [zai ne,zac]
 rfl
inductive spJudged (C:Addr)(vs:List V)(H:Hp)(Q:VK)(E:XK):Prop
 | mk:∀ (a:Addr) (R:List (List L)) (w:List L),(vs=[.ref a,tx w])→(H a=some (.tup (R.map tx)))→(Rgs R)→(w.length≤2000)→(∀ (W:List (List L)) (x:V) (H':Hp),Tn R W→thickW W=none→Same H H'→Q x H')→(∀ (W:List (List L)) (t o c:List L) (e:Addr) (H':Hp),Tn R W→thickW W=some (t,o,c)→XT C H' e t o c→Same H H'→E (.ref e) none H')→spJudged C vs H Q E
noncomputable abbrev s_judged:Stmt:=top 30
theorem sc_judged:FnScope ["rings","word","found","told"] ["rings","word"] (defScope s_judged):=⟨rfl,rfl,rfl,by decide +kernel,rfl,by decide +kernel,by decide +kernel⟩
theorem c_judged {CT:Addr}(D:Df K mg "judged" s_judged)(T:Bt K w mg aB)(F_thick:Fnc P w K mg base "thick" ["rings"] 3 spThick)(F_short:Fnc P w K mg base "shortened" ["rings","word"] 4 spShort)(M_thin:XMk P w K mg base "NoThin" CT ["turn","other","piece"] 1):FncX P w K mg base "judged" ["rings","word"] 5 (spJudged CT):=by
 have sc:=sc_judged
 refine D.okX sc (fun _ _ _ _ _ _ us hl=>by obtain ⟨_,_,rfl⟩:=len2 hl;rfl) (fun vs H Q E h=>?_) (fun f cdv A outer s H vs Q E hr h=>?_)
 ·obtain ⟨a,R,w,rfl,_⟩:=h
  rfl
 ·obtain ⟨a,R,v,rfl,ha,hR,hv,k0,k1⟩:=h
  have l16:=za9
  refine ⟨_,(@zae _ _ _ _ _ (@zap _ _ (2) _ _ _ _ sc.nd rfl (Or.inl rfl) (@zaw _ _ _ _ _ _ _ _ _ _ _ F_thick hr (by decide) rfl (@zaa _ _ _ _ _ (pv 0) zad (by rfl)) (by decide) (by rfl) (by rfl)) (by rfl) (by first | exact .inl rfl | exact .inr rfl | assumption)) (@zae _ _ _ _ _ (@zbl _ _ _ _ _ _ _ _ (@zat _ _ _ _ _ _ _ _ zhf (pv 2) zcs (zay _)) (@zag _ _ _ (@ps_raiseX _ _ _ _ _ zi8 rfl (@pe_mk _ _ _ _ _ _ _ _ _ _ _ M_thin hr (by decide) rfl (@zaa _ _ _ _ _ (@zbb _ _ _ _ _ _ _ zbk (pv 2) zaf (fun _ _=>rfl)) (@zaa _ _ _ _ _ (@zbb _ _ _ _ _ _ _ zbk (pv 2) zaf (fun _ _=>rfl)) (@zaa _ _ _ _ _ (@zbb _ _ _ _ _ _ _ zbk (pv 2) zaf (fun _ _=>rfl)) zad (by rfl)) (by rfl)) (by rfl)) (by decide) (by rfl) (by rfl)))) za3) (@zae _ _ _ _ _ (@zap _ _ (3) _ _ _ _ sc.nd rfl (Or.inl rfl) (@zaw _ _ _ _ _ _ _ _ _ _ _ F_short hr (by decide) rfl (@zaa _ _ _ _ _ (pv 0) (@zaa _ _ _ _ _ (pv 1) zad (by rfl)) (by rfl)) (by decide) (by rfl) (by rfl)) (by rfl) (by first | exact .inl rfl | exact .inr rfl | assumption)) (@zae _ _ _ _ _ (@zbl _ _ _ _ _ _ _ _ (@zat _ _ _ _ _ _ _ _ zcr (@zbb _ _ _ _ _ _ _ zbk (pv 3) zaf (fun _ _=>rfl)) zar (zay _)) (@zag _ _ _ (@zax _ _ _ _ (@zbc _ _ _ _ _ (@zaa _ _ _ _ _ zar (@zaa _ _ _ _ _ (@zbb _ _ _ _ _ _ _ zbk (pv 3) zaf (fun _ _=>rfl)) zad (by rfl)) (by rfl))))) za3) (@zag _ _ _ (@zax _ _ _ _ (@zbc _ _ _ _ _ (@zaa _ _ _ _ _ zar (@zaa _ _ _ _ _ (@zbc _ _ _ _ _ (@zaa _ _ _ _ _ zar (@zaa _ _ _ _ _ (@zbb _ _ _ _ _ _ _ zbk (pv 3) zaf (fun _ _=>rfl)) zad (by rfl)) (by rfl))) zad (by rfl)) (by rfl))))))))),?_⟩
  refine ⟨_,rfl,a,R,rfl,ha,hR,fun W H1 tn s1 hn=>?_,fun W H1 p t o c tn s1 hs fp=>?_⟩
  ·refine ⟨_,rfl,rfl,_,rfl,iteD rfl ?_⟩
   refine ⟨_,rfl,_,rfl,a,R,v,rfl,s1 _ _ ha,hR,hv,fun t q v' xs H2 ft fq s2=>?_⟩
   have s12:=s1.trans s2
   refine ⟨_,rfl,t,_,_,_,rfl,rfl,SqT.of ft,at1 _ _ _,rfl,_,rfl,?_⟩
   by_cases e:tx v'=V.str ""
   ·rw [decide_eq_true e]
    exact ifsT ⟨_,rfl,t,_,_,_,rfl,rfl,SqT.of ft,at0 _ _,(by show 2≤sizeLine;decide),fun p hp=>k0 W _ _ tn hn (s12.then hp)⟩
   ·rw [decide_eq_false e]
    exact ifsF ⟨_,rfl,t,_,_,_,rfl,rfl,SqT.of ft,at0 _ _,(by show 2≤sizeLine;decide),fun p hp=>⟨(by show 2≤sizeLine;decide),fun p2 hp2=>k0 W _ _ tn hn ((s12.then hp).then hp2)⟩⟩
  ·refine ⟨_,rfl,rfl,_,rfl,iteC rfl ?_⟩
   refine ⟨_,rfl,p,_,_,_,rfl,rfl,SqT.of fp,at0 _ _,_,rfl,p,_,_,_,rfl,rfl,SqT.of fp,at1 _ _ _,_,rfl,p,_,_,_,rfl,rfl,SqT.of fp,at2 _ _ _ _,?_⟩
   exact ⟨rfl,by decide,fun e dx he hd ne=>⟨e,CT,some dx,rfl,by rw [zai ne.symm,zac],M_thin.ca.1,k1 W t o c e _ tn hs (new_thin he hd ne) (s1.trans (new_sameP he hd))⟩⟩
end
end Kx
namespace Kx
open PySem PySem.Spec PyProof.Rows L2 Wd
section
variable {P:Program} {w:World} {K:PySem.W.Frag} {mg:Str→Option Value} {base:Heap} {aB:Addr}
noncomputable abbrev s_told:Stmt:=top 43
theorem sc_told:FnScope ["_law_rings_here","_law_word","_law_found","e","_law_strange"] ["_law_rings_here","_law_word"] (defScope s_told):=⟨rfl,rfl,rfl,by decide +kernel,rfl,by decide +kernel,by decide +kernel⟩
structure TC (K:PySem.W.Frag) (mg:Str→Option Value) (CT CR:Addr) (bmT bmR:List Value) (c:Nat→Addr):Prop where
 nT:mg "NoThin" = some (.ref CT)
 nR:mg "RingError" = some (.ref CR)
 nV:mg "ValueError" = none
 n0:mg "NoBand" = some (.ref (c 0))
 n1:mg "NoPaper" = some (.ref (c 1))
 n2:mg "NoRow" = some (.ref (c 2))
 n3:mg "NoSlide" = some (.ref (c 3))
 n4:mg "NoStep" = some (.ref (c 4))
 n5:mg "NoSurface" = some (.ref (c 5))
 n6:mg "NoText" = some (.ref (c 6))
 n7:mg "NoWay" = some (.ref (c 7))
 xT:XCl K CT bmT
 up:(Value.ref CT::bmT).contains (.ref CR)=true
 ka:PySem.W.kitAny K (.ref CT) [.ref (c 0),.ref (c 1),.ref (c 2),.ref (c 3),.ref (c 4),.ref (c 5),.ref (c 6),.ref (c 7)]=some false
 kt:PySem.W.kitOne K (.ref CT) (.ref CT)=some true
 kv:PySem.W.kitOne K (.ref CT) (.type "ValueError")=some true
 ca:XCa K CT
 xw:PySem.W.findIn K (.ref CT) "turn" = some none
 xa:PySem.W.findIn K (.ref CT) "other" = some none
 xp:PySem.W.findIn K (.ref CT) "piece" = some none
theorem zbw {a:Addr}{vs:List V}{ts:List Value}(h:∀ us,Vals vs us→us=ts):∀ us,Vals (.ref a::vs) us→us = .ref a::ts:=by
 intro us r
 cases r with
 | cons r1 r2 =>
  obtain rfl:=h _ r2
  cases r1
  rfl
noncomputable def thD:Option (List L × List L × List L)→PyData
 | none=>.none
 | some (t,o,c)=>.tuple [.str (toS t),.str (toS o),.str (toS c)]
inductive spTold (vs:List V)(H:Hp)(Q:VK)(u3_:XK):Prop
 | mk:∀ (a:Addr) (R:List (List L)) (w:List L),(vs=[.ref a,tx w])→(H a=some (.tup (R.map tx)))→(Rgs R)→(w.length≤2000)→(∀ (W:List (List L)) (r:V) (H':Hp),Tn R W→Dt H' r (thD (thickW W))→Same H H'→Q r H')→spTold vs H Q u3_
theorem c_told {CT CR:Addr}{bmT bmR:List Value}{c:Nat→Addr}(D:Df K mg "_law_told" s_told)(T:Bt K w mg aB)(C:TC K mg CT CR bmT bmR c)(xR:XCl K CR bmR)(F_judged:FncX P w K mg base "judged" ["rings","word"] 5 (spJudged CT)):Fnc P w K mg base "_law_told" ["_law_rings_here","_law_word"] 6 spTold:=by
 have sc:=sc_told
 have cNoThin:=C.nT
 have cRingError:=C.nR
 have TV:=C.nV
 have cNoBand:=C.n0
 have cNoPaper:=C.n1
 have cNoRow:=C.n2
 have cNoSlide:=C.n3
 have cNoStep:=C.n4
 have cNoSurface:=C.n5
 have cNoText:=C.n6
 have cNoWay:=C.n7
 refine D.ok sc (fun _ _ _ _ _ _ us hl=>by obtain ⟨_,_,rfl⟩:=len2 hl;rfl) (fun vs H Q E h=>?_) (fun f cdv A outer s H vs Q E hr h=>?_)
 ·obtain ⟨a,R,w,rfl,_⟩:=h
  rfl
 ·obtain ⟨a,R,v,rfl,ha,hR,hv,k⟩:=h
  have l16:=za9
  have hu':=hu_of hr
  refine ⟨_,(@zae _ _ _ _ _ (@zap _ _ (2) _ _ _ _ sc.nd rfl (Or.inl rfl) zcs (by rfl) (by first | exact .inl rfl | exact .inr rfl | assumption)) (@zae _ _ _ _ _ (@ps_try _ _ _ _ (3) _ _ _ _ _ _ _ _ _ rfl rfl sc.nd rfl rfl rfl cRingError xR (fun _=>(@pse_expr _ _ _ _ _ (@pee_fn _ _ _ _ _ _ _ _ _ _ _ _ F_judged hr (by decide) rfl (@zaa _ _ _ _ _ (pv 0) (@zaa _ _ _ _ _ (pv 1) zad (by rfl)) (by rfl)) (by decide) (by rfl) (by rfl)) (by rfl))) (fun _=>(@zae _ _ _ _ _ (@zap _ _ (4) _ _ _ _ sc.nd rfl (Or.inl rfl) (@zan _ _ _ _ _ _ _ _ _ (@call_istK _ (K) rfl) (by rfl) T.isinstance zcf (@zaa _ _ _ _ _ (pv 3) (@zaa _ _ _ _ _ (@zbc _ _ _ _ _ (@pa_c _ _ _ _ _ (@zb4 _ _ (.ref _) _ _ rfl cNoBand rfl (by decide)) (@pa_c _ _ _ _ _ (@zb4 _ _ (.ref _) _ _ rfl cNoPaper rfl (by decide)) (@pa_c _ _ _ _ _ (@zb4 _ _ (.ref _) _ _ rfl cNoRow rfl (by decide)) (@pa_c _ _ _ _ _ (@zb4 _ _ (.ref _) _ _ rfl cNoSlide rfl (by decide)) (@pa_c _ _ _ _ _ (@zb4 _ _ (.ref _) _ _ rfl cNoStep rfl (by decide)) (@pa_c _ _ _ _ _ (@zb4 _ _ (.ref _) _ _ rfl cNoSurface rfl (by decide)) (@pa_c _ _ _ _ _ (@zb4 _ _ (.ref _) _ _ rfl cNoText rfl (by decide)) (@pa_c _ _ _ _ _ (@zb4 _ _ (.ref _) _ _ rfl cNoWay rfl (by decide)) zad (by rfl)) (by rfl)) (by rfl)) (by rfl)) (by rfl)) (by rfl)) (by rfl)) (by rfl))) zad (by rfl)) (by rfl)) (by decide) (by decide) (by rfl) (by rfl)) (by rfl) (by first | exact .inl rfl | exact .inr rfl | assumption)) (@zae _ _ _ _ _ (@zap _ _ (2) _ _ _ _ sc.nd rfl (Or.inl rfl) zar (by rfl) (by first | exact .inl rfl | exact .inr rfl | assumption)) (@zag _ _ _ (@zbl _ _ _ _ _ _ _ _ (@PW.pt _ _ _ (@zdn _ _ _ _ _ _ _ (@pt_bl _ _ _ (@zan _ _ _ _ _ _ _ _ _ (@zg9 _ (K) rfl) (by rfl) T.isinstance zcf (@zaa _ _ _ _ _ (pv 3) (@zaa _ _ _ _ _ (@zb4 _ _ (.ref _) _ _ rfl cNoThin rfl (by decide)) zad (by rfl)) (by rfl)) (by decide) (by decide) (by rfl) (by rfl)) (fun _=>rfl)) (@zdn _ _ _ _ _ _ _ (@pt_bl _ _ _ (@zan _ _ _ _ _ _ _ _ _ (@zg9 _ (K) rfl) (by rfl) T.isinstance zcf (@zaa _ _ _ _ _ (pv 3) (@zaa _ _ _ _ _ (@pe_bltn _ _ (.ty "ValueError") _ _ rfl TV zhb rfl (by decide) (by decide)) zad (by rfl)) (by rfl)) (by decide) (by decide) (by rfl) (by rfl)) (fun _=>rfl)) (@zcz _ _ _ _ (@pt_not _ _ _ _ (@pt_bl _ _ _ (pv 4) (fun _=>rfl))))))) (@zag _ _ _ (@zap _ _ (2) _ _ _ _ sc.nd rfl (Or.inl rfl) (@zbc _ _ _ _ _ (@zaa _ _ _ _ _ (@pe_fxK _ (K) _ _ _ _ rfl (pv 3) rfl) (@zaa _ _ _ _ _ (@pe_fxK _ (K) _ _ _ _ rfl (pv 3) rfl) (@zaa _ _ _ _ _ (@pe_fxK _ (K) _ _ _ _ rfl (pv 3) rfl) zad (by rfl)) (by rfl)) (by rfl))) (by rfl) (by first | exact .inl rfl | exact .inr rfl | assumption))) za3))))) (by decide)) (@zag _ _ _ (@zax _ _ _ _ (pv 2))))),?_⟩
  refine ⟨_,rfl,_,rfl,a,R,v,rfl,ha,hR,hv,fun W x H' tn hn s'=>⟨_,rfl,k W .non H' tn (by rw [hn];exact .non) s'⟩,fun W t o c' b H' tn hs xp s'=>?_⟩
  obtain ⟨dx,fa,fd⟩:=xp
  refine ⟨b,CT,some dx,bmT,rfl,fa,C.xT,C.up,?_⟩
  refine ⟨_,rfl,(by show 8≤sizeLine;decide),fun q hq=>?_⟩
  have fa:=Same.new (o:=.tup [.ref (c 0),.ref (c 1),.ref (c 2),.ref (c 3),.ref (c 4),.ref (c 5),.ref (c 6),.ref (c 7)]) hq _ _ fa
  have fd:=Same.new (o:=.tup [.ref (c 0),.ref (c 1),.ref (c 2),.ref (c 3),.ref (c 4),.ref (c 5),.ref (c 6),.ref (c 7)]) hq _ _ fd
  have s2:=s'.then (o:=.tup [.ref (c 0),.ref (c 1),.ref (c 2),.ref (c 3),.ref (c 4),.ref (c 5),.ref (c 6),.ref (c 7)]) hq
  refine ⟨b,CT,false,dx,_,q,_,_,false,rfl,fa,fd,C.ca,zac,zbw (zbw (zbw (zbw (zbw (zbw (zbw (zbw fun us h=>by cases h;rfl))))))),C.ka,?_⟩
  generalize upd H' q _=H2 at fa fd s2 ⊢
  refine ⟨_,rfl,b,CT,false,dx,_,_,_,true,rfl,fa,fd,C.ca,(fun u r=>r),C.kt,_,rfl,andkT ?_⟩
  refine ⟨_,rfl,b,CT,false,dx,_,_,_,true,rfl,fa,fd,C.ca,(fun u r=>r),C.kv,_,rfl,andkT ?_⟩
  refine ⟨_,rfl,_,rfl,ifsT ?_⟩
  refine ⟨_,rfl,b,CT,false,dx,_,_,rfl,fa,fd,C.ca.1,C.xw,rfl,_,rfl,b,CT,false,dx,_,_,rfl,fa,fd,C.ca.1,C.xa,rfl,_,rfl,b,CT,false,dx,_,_,rfl,fa,fd,C.ca.1,C.xp,rfl,(by show 3≤sizeLine;decide),fun p hp=>⟨_,rfl,k W (.ref p) _ tn ?_ (s2.then hp)⟩⟩
  rw [hs]
  exact .tup zac (.cons (.str _) (.cons (.str _) (.cons (.str _) .nil)))
end
end Kx
namespace Kx
open PySem PySem.Spec PyProof.Rows L2 Wd
noncomputable def spLaw (K:PySem.W.Frag):Sp:=fun vs H Q _=>∃ (a:Addr) (ns:List Int),vs=[.ref a]∧SqL K H a (ns.map V.int)∧ns.length≤63∧∀ H',Q (.bl true) H'
section
variable {P:Program} {w:World} {K:PySem.W.Frag} {mg:Str→Option Value} {base:Heap} {aB:Addr}
noncomputable abbrev s_law:Stmt:=top 44
theorem sc_law:FnScope ["_law_script","_law_feed_here","_law_k","_law_rings_here","_law_ring","_law_more","_law_word"] ["_law_script"] (defScope s_law):=⟨rfl,rfl,rfl,by decide +kernel,rfl,by decide +kernel,by decide +kernel⟩
theorem seq_by {t u:TS}{D:Ends}{σ:L2.St}{H:Hp}(R:L2.St→Hp→Prop)(h1:∀ D':Ends,(∀ σ2 H2,R σ2 H2→D'.nx σ2 H2)→t D' σ H)(h2:∀ σ2 H2,R σ2 H2→u D σ2 H2):tSeq t u D σ H:=h1 _ h2
theorem thD_sh {o:Option (List L × List L × List L)}(h:∀ t x c,o=some (t,x,c)→t.length≤90∧x.length≤90∧c.length≤90):Sh (thD o)∧∀ i,thD o = .int i→i.natAbs.log2 < 1920:=by
 cases o with
 | none=>exact ⟨⟨by decide,by decide,by decide,by decide +kernel⟩,fun i e=>by cases e⟩
 | some p =>
  obtain ⟨t,x,c⟩:=p
  obtain ⟨h1,h2,h3⟩:=h t x c rfl
  refine ⟨(sh_tup (ws:=[t,x,c]) (n:=90) (fun v hv=>?_) (by show 3*91≤2 ^ 20;decide):Sh (.tuple (dws [t,x,c]))),fun i e=>by cases e⟩
  simp only [List.mem_cons,List.not_mem_nil,or_false] at hv
  rcases hv with rfl | rfl | rfl <;> assumption
theorem thick_len {V:List (List L)}{t o c:List L}(hV:∀ v∈V,v.length≤90)(e:thickW V=some (t,o,c)):t.length≤90∧o.length≤90∧c.length≤90:=by
 unfold thickW at e
 obtain ⟨x,hx,ex⟩:=List.exists_of_findSome?_eq_some e
 cases hf:fnd V x with
 | none=>rw [hf] at ex;cases ex
 | some y =>
  rw [hf] at ex
  have hy:y∈V:=List.mem_of_find?_eq_some hf
  have h1:=hV x hx
  have h2:=hV y hy
  have h3:=(zcg x y).1.length_le
  cases ex
  exact ⟨h1,h2,by omega⟩
theorem c_law {f:Addr}{fd:FuncData}(D:Fun K "law" "law" s_law f fd)(T:Bt K w mg aB)(F_feed:Fnc P w K mg base "_law_feed" ["_law_script"] 1 (spFeed K))(F_draw:Fnc P w K mg base "_law_draw" ["_law_feed_here","_law_many"] 1 spDraw)(F_some:Fnc P w K mg base "_law_some" ["_law_feed_here","_law_many","_law_most"] 2 spSomeM)(F_mid:Fnc P w K mg base "_law_middle" ["_law_word"] 3 spMid)(F_ltof:Fnc P w K mg base "_law_turns_of" ["_law_rings_here"] 2 spTurnsOf2)(F_lthick:Fnc P w K mg base "_law_thick" ["_law_known"] 2 spLThick)(F_lthin:Fnc P w K mg base "_law_thin" ["_law_feed_here"] 4 spLThin)(F_lrings:Fnc P w K mg base "_law_rings" ["_law_feed_here","_law_most"] 4 spLRings)(F_told:Fnc P w K mg base "_law_told" ["_law_rings_here","_law_word"] 6 spTold):FnOk P w K mg base CX0 9 f fd ["_law_script"] (spLaw K):=by
 have sc:=sc_law
 refine D.ok sc (fun vs H Q E h=>?_) (fun cdv A outer s H vs Q E hr h=>?_)
 ·obtain ⟨a,ns,rfl,_⟩:=h
  rfl
 ·obtain ⟨a,ns,rfl,hS,hlen,k⟩:=h
  have l16:=za9
  refine ⟨_,(@zae _ _ _ _ _ (@zap _ _ (1) _ _ _ _ sc.nd rfl (Or.inl rfl) (@zaw _ _ _ _ _ _ _ _ _ _ _ F_feed hr (by decide) rfl (@zaa _ _ _ _ _ (pv 0) zad (by rfl)) (by decide) (by rfl) (by rfl)) (by rfl) (by first | exact .inl rfl | exact .inr rfl | assumption)) (@zae _ _ _ _ _ (@zb0 _ _ _ _ _ _ _ _ PassesOwn.never rfl (@zcd _ _ _ _ _ _ rfl T.range (@zaa _ _ _ _ _ zaf zad (by rfl)) (by rfl)) (@za4 _ _ (2) _ sc.nd rfl (Or.inl rfl) (by first | exact .inl rfl | exact .inr rfl | assumption)) (@zae _ _ _ _ _ (@zap _ _ (3) _ _ _ _ sc.nd rfl (Or.inl rfl) (@zc3 _ _ _ _ _ _ _ _ (@zat _ _ _ _ _ _ _ _ zcr (@zaw _ _ _ _ _ _ _ _ _ _ _ F_draw hr (by decide) rfl (@zaa _ _ _ _ _ (pv 1) (@zaa _ _ _ _ _ zaf zad (by rfl)) (by rfl)) (by decide) (by rfl) (by rfl)) zaf (zay _)) (@zaw _ _ _ _ _ _ _ _ _ _ _ F_lthin hr (by decide) rfl (@zaa _ _ _ _ _ (pv 1) zad (by rfl)) (by decide) (by rfl) (by rfl)) (@zaw _ _ _ _ _ _ _ _ _ _ _ F_lrings hr (by decide) rfl (@zaa _ _ _ _ _ (pv 1) (@zaa _ _ _ _ _ zaf zad (by rfl)) (by rfl)) (by decide) (by rfl) (by rfl))) (by rfl) (by first | exact .inl rfl | exact .inr rfl | assumption)) (@zae _ _ _ _ _ (@zbl _ _ _ _ _ _ _ _ (@PW.pt _ _ _ (@zdn _ _ _ _ _ _ _ (@zat _ _ _ _ _ _ _ _ (@zi3 _ (by exact hr.units)) (pv 3) (@zbc _ _ _ _ _ zad) (zay _)) (@zcz _ _ _ _ (@zat _ _ _ _ _ _ _ _ zcr (@zaw _ _ _ _ _ _ _ _ _ _ _ F_draw hr (by decide) rfl (@zaa _ _ _ _ _ (pv 1) (@zaa _ _ _ _ _ zaf zad (by rfl)) (by rfl)) (by decide) (by rfl) (by rfl)) zaf (zay _))))) (@zae _ _ _ _ _ (@zap _ _ (4) _ _ _ _ sc.nd rfl (Or.inl rfl) (@zbb _ _ _ _ _ _ _ zbk (pv 3) (@zaw _ _ _ _ _ _ _ _ _ _ _ F_draw hr (by decide) rfl (@zaa _ _ _ _ _ (pv 1) (@zaa _ _ _ _ _ (@zan _ _ _ _ _ _ _ _ _ zbt (by rfl) T.len PySem.boot_len (@zaa _ _ _ _ _ (pv 3) zad (by rfl)) (by decide) (by decide) (by rfl) (by rfl)) zad (by rfl)) (by rfl)) (by decide) (by rfl) (by rfl)) (fun _ _=>rfl)) (by rfl) (by first | exact .inl rfl | exact .inr rfl | assumption)) (@zae _ _ _ _ _ (@zap _ _ (5) _ _ _ _ sc.nd rfl (Or.inl rfl) (@zaw _ _ _ _ _ _ _ _ _ _ _ F_mid hr (by decide) rfl (@zaa _ _ _ _ _ (@zao _ _ _ _ _ _ _ _ zaz (@zaq _ _ _ _ _ _ _ _ _ _ za5 (@zao _ _ _ _ _ _ _ _ zaz (pv 4) (pv 4)) zav (@zas _ _ _ (@zao _ _ _ _ _ _ _ _ za0 zaf (@zaw _ _ _ _ _ _ _ _ _ _ _ F_draw hr (by decide) rfl (@zaa _ _ _ _ _ (pv 1) (@zaa _ _ _ _ _ (@zao _ _ _ _ _ _ _ _ zd4 zaf (@zan _ _ _ _ _ _ _ _ _ zam (by rfl) T.len PySem.boot_len (@zaa _ _ _ _ _ (pv 4) zad (by rfl)) (by decide) (by decide) (by rfl) (by rfl))) zad (by rfl)) (by rfl)) (by decide) (by rfl) (by rfl))))) (@zaw _ _ _ _ _ _ _ _ _ _ _ F_some hr (by decide) rfl (@zaa _ _ _ _ _ (pv 1) (@zaa _ _ _ _ _ zaf (@zaa _ _ _ _ _ zaf zad (by rfl)) (by rfl)) (by rfl)) (by decide) (by rfl) (by rfl))) zad (by rfl)) (by decide) (by rfl) (by rfl)) (by rfl) (by first | exact .inl rfl | exact .inr rfl | assumption)) (@zag _ _ _ (@zap _ _ (3) _ _ _ _ sc.nd rfl (Or.inl rfl) (@zao _ _ _ _ _ _ _ _ op_catU (@zaq _ _ _ _ _ _ _ _ _ _ zf2 (pv 3) zav (@zas _ _ _ zaf)) (@zc3 _ _ _ _ _ _ _ _ (@zat _ _ _ _ _ _ _ _ zjp (pv 5) zar (zay _)) (@zbc _ _ _ _ _ (@zaa _ _ _ _ _ (pv 5) zad (by rfl))) (@zbc _ _ _ _ _ (@zaa _ _ _ _ _ (pv 4) zad (by rfl))))) (by rfl) (by first | exact .inl rfl | exact .inr rfl | assumption))))) za3) (@zae _ _ _ _ _ (@zap _ _ (6) _ _ _ _ sc.nd rfl (Or.inl rfl) (@zaw _ _ _ _ _ _ _ _ _ _ _ F_some hr (by decide) rfl (@zaa _ _ _ _ _ (pv 1) (@zaa _ _ _ _ _ zaf (@zaa _ _ _ _ _ zaf zad (by rfl)) (by rfl)) (by rfl)) (by decide) (by rfl) (by rfl)) (by rfl) (by first | exact .inl rfl | exact .inr rfl | assumption)) (@zag _ _ _ (@zbl _ _ _ _ _ _ _ _ (@zat _ _ _ _ _ _ _ _ zjp (@zan _ _ _ _ _ _ _ _ _ (@zer _ (by exact hr.gd) (by exact hr.units)) (by rfl) T.repr b_repr (@zaa _ _ _ _ _ (@zaw _ _ _ _ _ _ _ _ _ _ _ F_told hr (by decide) rfl (@zaa _ _ _ _ _ (pv 3) (@zaa _ _ _ _ _ (pv 6) zad (by rfl)) (by rfl)) (by decide) (by rfl) (by rfl)) zad (by rfl)) (by decide) (by decide) (by rfl) (by rfl)) (@zan _ _ _ _ _ _ _ _ _ (@zer _ (by exact hr.gd) (by exact hr.units)) (by rfl) T.repr b_repr (@zaa _ _ _ _ _ (@zaw _ _ _ _ _ _ _ _ _ _ _ F_lthick hr (by decide) rfl (@zaa _ _ _ _ _ (@zaw _ _ _ _ _ _ _ _ _ _ _ F_ltof hr (by decide) rfl (@zaa _ _ _ _ _ (pv 3) zad (by rfl)) (by decide) (by rfl) (by rfl)) zad (by rfl)) (by decide) (by rfl) (by rfl)) zad (by rfl)) (by decide) (by decide) (by rfl) (by rfl)) (zay _)) (@zag _ _ _ (@zax _ _ _ _ pe_bl)) za3))))) (by intro _ ;rfl)) (@zag _ _ _ (@zax _ _ _ _ pe_bl)))),?_⟩
  refine ⟨_,rfl,a,ns,rfl,hS,hlen,fun d G0 _ F0 _=>?_⟩
  refine ⟨_,rfl,by decide,by decide,zd3 (lo:=0) (n:=8) (fun i σ H'=>∃ (b2 b3 b4 b5 b6:Option V),σ = [some (.ref a),some (.ref d),b2,b3,b4,b5,b6]∧Fd H' d) ⟨none,none,none,none,none,rfl,F0⟩ ?_ ?_⟩
  ·rintro i σ H1 hi ⟨b2,b3,b4,b5,b6,rfl,F1⟩
   refine seq_by (fun σ2 H2=>∃ (q:Addr) (R:List (List L)),σ2=[some (.ref a),some (.ref d),some (.int (0+(i:Int))),some (.ref q),b4,b5,b6]∧Rgs R∧(∀ r∈R,r.length≤40)∧R.length≤6∧H2 q=some (.tup (R.map tx))∧Fd H2 d) (fun D' nx=>?_) ?_
   ·refine ⟨_,rfl,d,_,rfl,F1,by decide,by decide,fun r H2 r0 r1 F2 sb2=>⟨rfl,_,rfl,ite2 (fun _=>?_) (fun _=>?_)⟩⟩
    ·exact ⟨_,rfl,d,rfl,F2,fun q R H3 hR h40 hR6 hq F3 sb3=>nx _ _ ⟨q,R,rfl,hR,h40,hR6,hq,F3⟩⟩
    ·exact ⟨_,rfl,d,10,rfl,F2,by decide,fun q R H3 hR h40 hR6 hq F3 sb3=>nx _ _ ⟨q,R,rfl,hR,h40,hR6,hq,F3⟩⟩
   rintro σ H2 ⟨q,R,rfl,hR,h40,hR6,hq,F2⟩
   refine seq_by (fun σ2 H2=>∃ (q:Addr) (R:List (List L)) (b4 b5:Option V),σ2=[some (.ref a),some (.ref d),some (.int (0+(i:Int))),some (.ref q),b4,b5,b6]∧Rgs R∧H2 q=some (.tup (R.map tx))∧Fd H2 d) (fun D' nx=>?_) ?_
   ·refine ⟨_,rfl,(by show 0≤sizeLine;decide),fun e0 he0=>?_⟩
    have s3:=Same.new (o:=.tup []) he0
    have f3:(upd H2 e0 (.tup [])) e0=some (.tup []):=zac
    generalize upd H2 e0 (.tup [])=H3 at s3 f3 ⊢
    have F3:=F2.same s3
    have hq3:=s3 _ _ hq
    refine ⟨q,e0,_,rfl,rfl,SqT.of hq3,f3,_,rfl,?_⟩
    have out:∀ H',Fd H' d→H' q=some (.tup (R.map tx))→D'.nx [some (.ref a),some (.ref d),some (.int (0+(i:Int))),some (.ref q),b4,b5,b6] H':=fun H' F' h'=>nx _ _ ⟨q,R,b4,b5,rfl,hR,h',F'⟩
    by_cases hne:R=[]
    ·rw [show (!(R.map tx).isEmpty)=false by rw [hne];rfl]
     exact andkF (ifsF (out _ F3 hq3))
    rw [show (!(R.map tx).isEmpty)=true by cases R with | nil=>exact absurd rfl hne | cons r R=>rfl]
    have hpos:0 < R.length:=List.length_pos_iff.mpr hne
    refine andkT ⟨_,rfl,d,_,rfl,F3,by decide,by decide,fun r H4 r0 r1 F4 sb4=>⟨rfl,_,rfl,?_⟩⟩
    have hq4:=sb4 _ _ (F3.neT hq3) hq3
    by_cases h0:r=0
    ·rw [decide_eq_true (congrArg V.int h0)]
     refine ifsT ?_
     refine ⟨_,rfl,_,rfl,_,rfl,q,_,rfl,.inr (SqT.of hq4),d,_,rfl,F4,(by rw [List.length_map];omega),(by rw [List.length_map];omega),fun j H5 j0 j1 F5 sb5=>?_⟩
     have hq5:=sb5 _ _ (F4.neT hq4) hq4
     obtain ⟨x,hx,mx⟩:=at_mem (xs:=R.map tx) j0 j1
     obtain ⟨g,mg',rfl⟩:=List.mem_map.mp mx
     have g40:=h40 g mg'
     have g1:1≤g.length:=List.length_pos_iff.mpr (hR.word g mg').1
     refine ⟨q,_,_,_,rfl,rfl,SqT.of hq5,hx,?_⟩
     have gl:(toS g).length≤sizeLine:=by rw [zab];omega
     refine ⟨_,rfl,_,rfl,_,_,rfl,rfl,(by rw [zab];omega),_,rfl,_,rfl,toS g,rfl,gl,_,_,rfl,rfl,.inl ⟨by decide,by decide⟩,d,_,rfl,F5,(by rw [zab];omega),(by rw [zab];omega),fun t H6 t0 t1 F6 sb6=>⟨_,_,rfl,rfl,_,rfl,?_⟩⟩
     rw [zcn]
     refine ⟨toS (g++g),rfl,(by rw [zab,List.length_append];omega),?_⟩
     have cl:=zb1 (g++g) none (some (1+t))
     rw [List.length_append] at cl
     rw [zaj]
     have hq6:=sb6 _ _ (F5.neT hq5) hq5
     refine ⟨_,rfl,d,4,4,rfl,F6,by decide,by decide,by decide,by decide,fun u H7 hu _ F7 sb7=>?_⟩
     have hu:u.length≤4:=hu
     have hq7:=sb7 _ _ (F6.neT hq6) hq6
     refine ⟨_,_,rfl,rfl,(by rw [zab,zab];omega),?_⟩
     rw [zcn]
     refine ⟨cutL (g++g) none (some (1+t))++u,rfl,(by rw [List.length_append];omega),fun fr md H8 _ ml _ s8=>?_⟩
     rw [List.length_append] at ml
     have hq8:=s8 _ _ hq7
     have F8:=F7.same s8
     refine ⟨_,rfl,_,rfl,q,_,rfl,hq8,fun p1 H9 s9 f9=>?_⟩
     obtain ⟨W1,e1,l1,m1⟩:=zd0 R none (some 5)
     rw [e1] at f9
     refine ⟨_,rfl,rfl,_,rfl,?_⟩
     have fin:∀ (y:List L),y≠[]→y.length≤90→∀ p2,H9 p2=none→rCatU (.ref p1) (.ref p2) (upd H9 p2 (.tup [tx y])) (tAsg_k1 (gName 3) D' [some (.ref a),some (.ref d),some (.int (0+(i:Int))),some (.ref q),some (tx g),some (tx md),b6]):=fun y hy hl p2 hp2=>by
      refine ⟨p1,p2,_,_,rfl,rfl,Same.new hp2 _ _ f9,zac,(by rw [List.length_map,List.length_singleton];omega),fun p3 H11 s11 f11=>?_⟩
      refine nx _ _ ⟨p3,W1++[y],_,_,rfl,⟨by rw [List.length_append,List.length_singleton];omega,fun r hr=>?_⟩,by rw [f11,List.map_append];rfl,F8.same (s9.trans ((Same.new hp2).trans s11))⟩
      rcases List.mem_append.mp hr with h | h
      ·exact hR.word r (m1 r h)
      ·rw [List.mem_singleton.mp h]
       exact ⟨hy,hl⟩
     by_cases hmd:md=[]
     ·rw [show (!decide (tx md=V.str ""))=false by rw [hmd];decide +kernel]
      exact ifkF ⟨_,rfl,(by show 1≤sizeLine;decide),fun p2 hp2=>fin g (hR.word g mg').1 (by omega) p2 hp2⟩
     ·rw [show (!decide (tx md=V.str ""))=true by rw [decide_eq_false];rfl;exact fun e=>hmd (zgq (e.trans tx_nil.symm))]
      exact ifkT ⟨_,rfl,(by show 1≤sizeLine;decide),fun p2 hp2=>fin md hmd (by omega) p2 hp2⟩
    ·rw [decide_eq_false fun e=>h0 (V.int.inj e)]
     exact ifsF (out _ F4 hq4)
   rintro σ H3 ⟨q,R,b4,b5,rfl,hR,hq,F3⟩
   refine ⟨_,rfl,d,4,10,rfl,F3,by decide,by decide,by decide,by decide,fun u H4 hu _ F4 sb4=>?_⟩
   have hu:u.length≤10:=hu
   have hq4:=sb4 _ _ (F3.neT hq) hq
   refine ⟨_,rfl,_,rfl,q,R,u,rfl,hq4,hR,by omega,fun W r H5 tn dt s5=>?_⟩
   have wl:∀ x∈W,x.length≤90:=fun x hx=>(tn.word hR hx).2
   have tl:=tn.len hR
   have sh:=thD_sh (o:=thickW W) fun t x c e=>thick_len wl e
   refine ⟨r,_,rfl,dt,sh.1,sh.2,?_⟩
   refine ⟨_,rfl,q,R,rfl,.inl (s5 _ _ hq4),hR,fun l W2 H6 hl oW mW f6 s6=>?_⟩
   obtain rfl:W2=W:=Tn.one ⟨oW,mW⟩ tn
   refine ⟨l,W2,rfl,f6,by omega,fun v hv=>by have:=wl v hv;omega,fun H7 s7 e7=>?_,fun H7 p t o c s7 e7 hp=>?_⟩
   ·refine ⟨.non,thD (thickW W2),rfl,by rw [e7];exact .non,sh.1,sh.2,rfl,_,rfl,iteD (by simp) ?_⟩
    exact ⟨_,_,_,_,_,rfl,F4.same (s5.trans (s6.trans s7))⟩
   ·refine ⟨.ref p,thD (thickW W2),rfl,by rw [e7];exact .tup hp (.cons (.str _) (.cons (.str _) (.cons (.str _) .nil))),sh.1,sh.2,rfl,_,rfl,iteD (by simp) ?_⟩
    exact ⟨_,_,_,_,_,rfl,F4.same (s5.trans (s6.trans s7))⟩
  ·rintro σ H1 ⟨b2,b3,b4,b5,b6,rfl,F1⟩
   exact k H1
end
end Kx
namespace Kx
open PySem PySem.Spec PyProof.Rows L2 Wd
theorem zbm {K:PySem.W.Frag}{h:Heap}{mg:Str→Option Value}{x:Str}{st:Stmt}{f:Addr}{oc:Value}{od an:Option Addr}{osl:Array (Option Value)}{kV doc pm cdv ct:Value}(X:K.In h)(G:h.Ns mainGlobals mg)(a:PySem.W.nsIn K mainGlobals x=some (some (.ref f)))
  (l:K.lookup f=some ⟨oc,od,.func (PySem.W.fnOf x x (defArgs st) (defBody st) (defScope st) .none kV doc pm an cdv ct),osl⟩) (c:PySem.W.codeIn K cdv x=true) (k:PySem.W.keepIn K (.ref f)=true):Df K mg x st:=⟨f,_,PySem.W.mg_of X G a,fun_mk l c k⟩
theorem all_mk {l:PySem.W.OpenLaw}{w:World}{K:PySem.W.Frag}{h:Heap}{mg:Str→Option Value}{fa:Addr}(X:K.In h)(G:h.Ns mainGlobals mg)(hfa:mg "law" = some (.ref fa))
  {f0:Addr} {od0 an0:Option Addr} {sl0:Array (Option Value)} {oc0 kV0 dc0 pm0 cd0 ct0:Value} {f1:Addr} {od1 an1:Option Addr} {sl1:Array (Option Value)} {oc1 kV1 dc1 pm1 cd1 ct1:Value} {f2:Addr} {od2 an2:Option Addr} {sl2:Array (Option Value)} {oc2 kV2 dc2 pm2 cd2 ct2:Value} {f3:Addr} {od3 an3:Option Addr} {sl3:Array (Option Value)} {oc3 kV3 dc3 pm3 cd3 ct3:Value} {f4:Addr} {od4 an4:Option Addr} {sl4:Array (Option Value)} {oc4 kV4 dc4 pm4 cd4 ct4:Value} {f5:Addr} {od5 an5:Option Addr} {sl5:Array (Option Value)} {oc5 kV5 dc5 pm5 cd5 ct5:Value} {f6:Addr} {od6 an6:Option Addr} {sl6:Array (Option Value)} {oc6 kV6 dc6 pm6 cd6 ct6:Value} {f7:Addr} {od7 an7:Option Addr} {sl7:Array (Option Value)} {oc7 kV7 dc7 pm7 cd7 ct7:Value} {f8:Addr} {od8 an8:Option Addr} {sl8:Array (Option Value)} {oc8 kV8 dc8 pm8 cd8 ct8:Value} {f9:Addr} {od9 an9:Option Addr} {sl9:Array (Option Value)} {oc9 kV9 dc9 pm9 cd9 ct9:Value} {f10:Addr} {od10 an10:Option Addr} {sl10:Array (Option Value)} {oc10 kV10 dc10 pm10 cd10 ct10:Value} {f11:Addr} {od11 an11:Option Addr} {sl11:Array (Option Value)} {oc11 kV11 dc11 pm11 cd11 ct11:Value} {f12:Addr} {od12 an12:Option Addr} {sl12:Array (Option Value)} {oc12 kV12 dc12 pm12 cd12 ct12:Value} {f13:Addr} {od13 an13:Option Addr} {sl13:Array (Option Value)} {oc13 kV13 dc13 pm13 cd13 ct13:Value} {f14:Addr} {od14 an14:Option Addr} {sl14:Array (Option Value)} {oc14 kV14 dc14 pm14 cd14 ct14:Value} {f15:Addr} {od15 an15:Option Addr} {sl15:Array (Option Value)} {oc15 kV15 dc15 pm15 cd15 ct15:Value} {f16:Addr} {od16 an16:Option Addr} {sl16:Array (Option Value)} {oc16 kV16 dc16 pm16 cd16 ct16:Value} {f17:Addr} {od17 an17:Option Addr} {sl17:Array (Option Value)} {oc17 kV17 dc17 pm17 cd17 ct17:Value} {f18:Addr} {od18 an18:Option Addr} {sl18:Array (Option Value)} {oc18 kV18 dc18 pm18 cd18 ct18:Value} {f19:Addr} {od19 an19:Option Addr} {sl19:Array (Option Value)} {oc19 kV19 dc19 pm19 cd19 ct19:Value} {f20:Addr} {od20 an20:Option Addr} {sl20:Array (Option Value)} {oc20 kV20 dc20 pm20 cd20 ct20:Value} {f21:Addr} {od21 an21:Option Addr} {sl21:Array (Option Value)} {oc21 kV21 dc21 pm21 cd21 ct21:Value} {f22:Addr} {od22 an22:Option Addr} {sl22:Array (Option Value)} {oc22 kV22 dc22 pm22 cd22 ct22:Value} {f23:Addr} {od23 an23:Option Addr} {sl23:Array (Option Value)} {oc23 kV23 dc23 pm23 cd23 ct23:Value} {f24:Addr} {od24 an24:Option Addr} {sl24:Array (Option Value)} {oc24 kV24 dc24 pm24 cd24 ct24:Value} {f25:Addr} {od25 an25:Option Addr} {sl25:Array (Option Value)} {oc25 kV25 dc25 pm25 cd25 ct25:Value} {aB:Addr} {es:Array DictEntry} {en:Nat}    {CR:Addr} {ddCR:Option Addr} {cdCR:ClassData} {sCR0 sCR1 sCR2 sCR3 sCR5:Option Value}         {nsCR:Addr} {onCR:Value} {dnCR:Option Addr} {esCR:Array DictEntry} {nnCR:Nat} {snCR:Array (Option Value)}         {CT:Addr} {ddCT:Option Addr} {cdCT:ClassData} {sCT0 sCT1 sCT2 sCT3 sCT5:Option Value}            {fCT:Addr} {ocCT kVCT dcCT pmCT cvCT ctCT:Value} {odCT anCT:Option Addr} {slCT:Array (Option Value)}    {ck0:Addr} {ck1:Addr} {ck2:Addr} {ck3:Addr} {ck4:Addr} {ck5:Addr} {ck6:Addr} {ck7:Addr} {dk0:Option Addr} {xk0:ClassData} {sk0:Array (Option Value)}  {dk1:Option Addr} {xk1:ClassData} {sk1:Array (Option Value)}  {dk2:Option Addr} {xk2:ClassData} {sk2:Array (Option Value)}  {dk3:Option Addr} {xk3:ClassData} {sk3:Array (Option Value)}  {dk4:Option Addr} {xk4:ClassData} {sk4:Array (Option Value)}  {dk5:Option Addr} {xk5:ClassData} {sk5:Array (Option Value)}  {dk6:Option Addr} {xk6:ClassData} {sk6:Array (Option Value)}  {dk7:Option Addr} {xk7:ClassData} {sk7:Array (Option Value)}  {t0 t1 t2 t3 t4 t5 t6 t7 t8 t9 t10 t11:Tok}
  (a0:PySem.W.nsIn K mainGlobals "back" = some (some (.ref f0)))
  (l0:K.lookup f0=some ⟨oc0,od0,.func (PySem.W.fnOf "back" "back" (defArgs s_back) (defBody s_back) (defScope s_back) .none kV0 dc0 pm0 an0 cd0 ct0),sl0⟩)
  (c0:PySem.W.codeIn K cd0 "back" = true)
  (k0:PySem.W.keepIn K (.ref f0)=true)
  (a1:PySem.W.nsIn K mainGlobals "turns" = some (some (.ref f1)))
  (l1:K.lookup f1=some ⟨oc1,od1,.func (PySem.W.fnOf "turns" "turns" (defArgs s_turns) (defBody s_turns) (defScope s_turns) .none kV1 dc1 pm1 an1 cd1 ct1),sl1⟩)
  (c1:PySem.W.codeIn K cd1 "turns" = true)
  (k1:PySem.W.keepIn K (.ref f1)=true)
  (a2:PySem.W.nsIn K mainGlobals "turns_of" = some (some (.ref f2)))
  (l2:K.lookup f2=some ⟨oc2,od2,.func (PySem.W.fnOf "turns_of" "turns_of" (defArgs s_tof) (defBody s_tof) (defScope s_tof) .none kV2 dc2 pm2 an2 cd2 ct2),sl2⟩)
  (c2:PySem.W.codeIn K cd2 "turns_of" = true)
  (k2:PySem.W.keepIn K (.ref f2)=true)
  (a3:PySem.W.nsIn K mainGlobals "beginning" = some (some (.ref f3)))
  (l3:K.lookup f3=some ⟨oc3,od3,.func (PySem.W.fnOf "beginning" "beginning" (defArgs s_beg) (defBody s_beg) (defScope s_beg) .none kV3 dc3 pm3 an3 cd3 ct3),sl3⟩)
  (c3:PySem.W.codeIn K cd3 "beginning" = true)
  (k3:PySem.W.keepIn K (.ref f3)=true)
  (a4:PySem.W.nsIn K mainGlobals "thick" = some (some (.ref f4)))
  (l4:K.lookup f4=some ⟨oc4,od4,.func (PySem.W.fnOf "thick" "thick" (defArgs s_thick) (defBody s_thick) (defScope s_thick) .none kV4 dc4 pm4 an4 cd4 ct4),sl4⟩)
  (c4:PySem.W.codeIn K cd4 "thick" = true)
  (k4:PySem.W.keepIn K (.ref f4)=true)
  (a5:PySem.W.nsIn K mainGlobals "first_alike" = some (some (.ref f5)))
  (l5:K.lookup f5=some ⟨oc5,od5,.func (PySem.W.fnOf "first_alike" "first_alike" (defArgs s_fa) (defBody s_fa) (defScope s_fa) .none kV5 dc5 pm5 an5 cd5 ct5),sl5⟩)
  (c5:PySem.W.codeIn K cd5 "first_alike" = true)
  (k5:PySem.W.keepIn K (.ref f5)=true)
  (a6:PySem.W.nsIn K mainGlobals "is_out" = some (some (.ref f6)))
  (l6:K.lookup f6=some ⟨oc6,od6,.func (PySem.W.fnOf "is_out" "is_out" (defArgs s_isout) (defBody s_isout) (defScope s_isout) .none kV6 dc6 pm6 an6 cd6 ct6),sl6⟩)
  (c6:PySem.W.codeIn K cd6 "is_out" = true)
  (k6:PySem.W.keepIn K (.ref f6)=true)
  (a7:PySem.W.nsIn K mainGlobals "changed" = some (some (.ref f7)))
  (l7:K.lookup f7=some ⟨oc7,od7,.func (PySem.W.fnOf "changed" "changed" (defArgs s_chg) (defBody s_chg) (defScope s_chg) .none kV7 dc7 pm7 an7 cd7 ct7),sl7⟩)
  (c7:PySem.W.codeIn K cd7 "changed" = true)
  (k7:PySem.W.keepIn K (.ref f7)=true)
  (a8:PySem.W.nsIn K mainGlobals "half_of" = some (some (.ref f8)))
  (l8:K.lookup f8=some ⟨oc8,od8,.func (PySem.W.fnOf "half_of" "half_of" (defArgs s_half) (defBody s_half) (defScope s_half) .none kV8 dc8 pm8 an8 cd8 ct8),sl8⟩)
  (c8:PySem.W.codeIn K cd8 "half_of" = true)
  (k8:PySem.W.keepIn K (.ref f8)=true)
  (a9:PySem.W.nsIn K mainGlobals "shortened" = some (some (.ref f9)))
  (l9:K.lookup f9=some ⟨oc9,od9,.func (PySem.W.fnOf "shortened" "shortened" (defArgs s_short) (defBody s_short) (defScope s_short) .none kV9 dc9 pm9 an9 cd9 ct9),sl9⟩)
  (c9:PySem.W.codeIn K cd9 "shortened" = true)
  (k9:PySem.W.keepIn K (.ref f9)=true)
  (a10:PySem.W.nsIn K mainGlobals "turns_by_half" = some (some (.ref f10)))
  (l10:K.lookup f10=some ⟨oc10,od10,.func (PySem.W.fnOf "turns_by_half" "turns_by_half" (defArgs s_tbh) (defBody s_tbh) (defScope s_tbh) .none kV10 dc10 pm10 an10 cd10 ct10),sl10⟩)
  (c10:PySem.W.codeIn K cd10 "turns_by_half" = true)
  (k10:PySem.W.keepIn K (.ref f10)=true)
  (a11:PySem.W.nsIn K mainGlobals "shortening_at" = some (some (.ref f11)))
  (l11:K.lookup f11=some ⟨oc11,od11,.func (PySem.W.fnOf "shortening_at" "shortening_at" (defArgs s_sat) (defBody s_sat) (defScope s_sat) .none kV11 dc11 pm11 an11 cd11 ct11),sl11⟩)
  (c11:PySem.W.codeIn K cd11 "shortening_at" = true)
  (k11:PySem.W.keepIn K (.ref f11)=true)
  (a12:PySem.W.nsIn K mainGlobals "judged" = some (some (.ref f12)))
  (l12:K.lookup f12=some ⟨oc12,od12,.func (PySem.W.fnOf "judged" "judged" (defArgs s_judged) (defBody s_judged) (defScope s_judged) .none kV12 dc12 pm12 an12 cd12 ct12),sl12⟩)
  (c12:PySem.W.codeIn K cd12 "judged" = true)
  (k12:PySem.W.keepIn K (.ref f12)=true)
  (a13:PySem.W.nsIn K mainGlobals "_law_feed" = some (some (.ref f13)))
  (l13:K.lookup f13=some ⟨oc13,od13,.func (PySem.W.fnOf "_law_feed" "_law_feed" (defArgs s_feed) (defBody s_feed) (defScope s_feed) .none kV13 dc13 pm13 an13 cd13 ct13),sl13⟩)
  (c13:PySem.W.codeIn K cd13 "_law_feed" = true)
  (k13:PySem.W.keepIn K (.ref f13)=true)
  (a14:PySem.W.nsIn K mainGlobals "_law_draw" = some (some (.ref f14)))
  (l14:K.lookup f14=some ⟨oc14,od14,.func (PySem.W.fnOf "_law_draw" "_law_draw" (defArgs s_draw) (defBody s_draw) (defScope s_draw) .none kV14 dc14 pm14 an14 cd14 ct14),sl14⟩)
  (c14:PySem.W.codeIn K cd14 "_law_draw" = true)
  (k14:PySem.W.keepIn K (.ref f14)=true)
  (a15:PySem.W.nsIn K mainGlobals "_law_back" = some (some (.ref f15)))
  (l15:K.lookup f15=some ⟨oc15,od15,.func (PySem.W.fnOf "_law_back" "_law_back" (defArgs s_lback) (defBody s_lback) (defScope s_lback) .none kV15 dc15 pm15 an15 cd15 ct15),sl15⟩)
  (c15:PySem.W.codeIn K cd15 "_law_back" = true)
  (k15:PySem.W.keepIn K (.ref f15)=true)
  (a16:PySem.W.nsIn K mainGlobals "_law_reduced" = some (some (.ref f16)))
  (l16:K.lookup f16=some ⟨oc16,od16,.func (PySem.W.fnOf "_law_reduced" "_law_reduced" (defArgs s_lred) (defBody s_lred) (defScope s_lred) .none kV16 dc16 pm16 an16 cd16 ct16),sl16⟩)
  (c16:PySem.W.codeIn K cd16 "_law_reduced" = true)
  (k16:PySem.W.keepIn K (.ref f16)=true)
  (a17:PySem.W.nsIn K mainGlobals "_law_some" = some (some (.ref f17)))
  (l17:K.lookup f17=some ⟨oc17,od17,.func (PySem.W.fnOf "_law_some" "_law_some" (defArgs s_some) (defBody s_some) (defScope s_some) .none kV17 dc17 pm17 an17 cd17 ct17),sl17⟩)
  (c17:PySem.W.codeIn K cd17 "_law_some" = true)
  (k17:PySem.W.keepIn K (.ref f17)=true)
  (a18:PySem.W.nsIn K mainGlobals "_law_middle" = some (some (.ref f18)))
  (l18:K.lookup f18=some ⟨oc18,od18,.func (PySem.W.fnOf "_law_middle" "_law_middle" (defArgs s_mid) (defBody s_mid) (defScope s_mid) .none kV18 dc18 pm18 an18 cd18 ct18),sl18⟩)
  (c18:PySem.W.codeIn K cd18 "_law_middle" = true)
  (k18:PySem.W.keepIn K (.ref f18)=true)
  (a19:PySem.W.nsIn K mainGlobals "_law_turns_of" = some (some (.ref f19)))
  (l19:K.lookup f19=some ⟨oc19,od19,.func (PySem.W.fnOf "_law_turns_of" "_law_turns_of" (defArgs s_ltof) (defBody s_ltof) (defScope s_ltof) .none kV19 dc19 pm19 an19 cd19 ct19),sl19⟩)
  (c19:PySem.W.codeIn K cd19 "_law_turns_of" = true)
  (k19:PySem.W.keepIn K (.ref f19)=true)
  (a20:PySem.W.nsIn K mainGlobals "_law_share" = some (some (.ref f20)))
  (l20:K.lookup f20=some ⟨oc20,od20,.func (PySem.W.fnOf "_law_share" "_law_share" (defArgs s_lsh) (defBody s_lsh) (defScope s_lsh) .none kV20 dc20 pm20 an20 cd20 ct20),sl20⟩)
  (c20:PySem.W.codeIn K cd20 "_law_share" = true)
  (k20:PySem.W.keepIn K (.ref f20)=true)
  (a21:PySem.W.nsIn K mainGlobals "_law_thick" = some (some (.ref f21)))
  (l21:K.lookup f21=some ⟨oc21,od21,.func (PySem.W.fnOf "_law_thick" "_law_thick" (defArgs s_lthick) (defBody s_lthick) (defScope s_lthick) .none kV21 dc21 pm21 an21 cd21 ct21),sl21⟩)
  (c21:PySem.W.codeIn K cd21 "_law_thick" = true)
  (k21:PySem.W.keepIn K (.ref f21)=true)
  (a22:PySem.W.nsIn K mainGlobals "_law_thin" = some (some (.ref f22)))
  (l22:K.lookup f22=some ⟨oc22,od22,.func (PySem.W.fnOf "_law_thin" "_law_thin" (defArgs s_lthin) (defBody s_lthin) (defScope s_lthin) .none kV22 dc22 pm22 an22 cd22 ct22),sl22⟩)
  (c22:PySem.W.codeIn K cd22 "_law_thin" = true)
  (k22:PySem.W.keepIn K (.ref f22)=true)
  (a23:PySem.W.nsIn K mainGlobals "_law_rings" = some (some (.ref f23)))
  (l23:K.lookup f23=some ⟨oc23,od23,.func (PySem.W.fnOf "_law_rings" "_law_rings" (defArgs s_lrings) (defBody s_lrings) (defScope s_lrings) .none kV23 dc23 pm23 an23 cd23 ct23),sl23⟩)
  (c23:PySem.W.codeIn K cd23 "_law_rings" = true)
  (k23:PySem.W.keepIn K (.ref f23)=true)
  (a24:PySem.W.nsIn K mainGlobals "_law_told" = some (some (.ref f24)))
  (l24:K.lookup f24=some ⟨oc24,od24,.func (PySem.W.fnOf "_law_told" "_law_told" (defArgs s_told) (defBody s_told) (defScope s_told) .none kV24 dc24 pm24 an24 cd24 ct24),sl24⟩)
  (c24:PySem.W.codeIn K cd24 "_law_told" = true)
  (k24:PySem.W.keepIn K (.ref f24)=true)
  (a25:PySem.W.nsIn K mainGlobals "law" = some (some (.ref f25)))
  (l25:K.lookup f25=some ⟨oc25,od25,.func (PySem.W.fnOf "law" "law" (defArgs s_law) (defBody s_law) (defScope s_law) .none kV25 dc25 pm25 an25 cd25 ct25),sl25⟩)
  (c25:PySem.W.codeIn K cd25 "law" = true)
  (k25:PySem.W.keepIn K (.ref f25)=true)
  (z_len:PySem.W.nsIn K mainGlobals "len" = some none)
  (z_repr:PySem.W.nsIn K mainGlobals "repr" = some none)
  (z_abs:PySem.W.nsIn K mainGlobals "abs" = some none)
  (z_max:PySem.W.nsIn K mainGlobals "max" = some none)
  (z_int:PySem.W.nsIn K mainGlobals "int" = some none)
  (z_list:PySem.W.nsIn K mainGlobals "list" = some none)
  (z_range:PySem.W.nsIn K mainGlobals "range" = some none)
  (z_reversed:PySem.W.nsIn K mainGlobals "reversed" = some none)
  (z_min:PySem.W.nsIn K mainGlobals "min" = some none)
  (z_sorted:PySem.W.nsIn K mainGlobals "sorted" = some none)
  (z_tuple:PySem.W.nsIn K mainGlobals "tuple" = some none)
  (z_isinstance:PySem.W.nsIn K mainGlobals "isinstance" = some none)
  (z_all:PySem.W.nsIn K mainGlobals "all" = some none)
  (z_str:PySem.W.nsIn K mainGlobals "str" = some none)
  (z_zip:PySem.W.nsIn K mainGlobals "zip" = some none)
  (aBk:PySem.W.nsIn K mainGlobals "BACKS" = some (some (.ref aB)))
  (lB:K.lookup aB=some ⟨.type "dict",none,.dict es en,#[]⟩)
  (kB:PySem.W.KeysLit w.params es.toList)
  (zE:PySem.W.nsIn K mainGlobals "enumerate" = some none)
  (zS:PySem.W.nsIn K mainGlobals "set" = some none)
  (zV:PySem.W.nsIn K mainGlobals "ValueError" = some none)
  (aCR:PySem.W.nsIn K mainGlobals "RingError" = some (some (.ref CR)))
  (lCR:K.lookup CR=some ⟨.type "type",ddCR,.cls cdCR,#[sCR0,sCR1,sCR2,sCR3,some (.builtin "ValueError.__new__"),sCR5]⟩)
  (mCR:cdCR.mro = .ref CR::bmV)
  (eCR:cdCR.hasDel=false)
  (dCR:cdCR.hasDict=true)
  (kCR:PySem.W.keepIn K (.ref CR)=true)
  (saCR:PySem.W.findIn K (.ref CR) "__setattr__" = some (some (.builtin "object.__setattr__")))
  (gaCR:PySem.W.findIn K (.ref CR) "__getattribute__" = some (some (.builtin "BaseException.__getattribute__")))
  (gnCR:PySem.W.findIn K (.ref CR) "__getattr__" = some (none))
  (caCR:PySem.W.findIn K (.ref CR) "__class__" = some (some (.builtin "object.__class__")))
  (nCR:cdCR.ns=nsCR)
  (oCR:K.lookup nsCR=some ⟨onCR,dnCR,.dict esCR nnCR,snCR⟩)
  (pCR:(esCR.toList.all fun e=>match e.key with | .str _ _=>true | _=>false)=true)
  (qCR:PySem.W.nsIn K nsCR "__init__" = some none)
  (rdCR:PySem.W.readsIn K CR (.type "type")=true)
  (atCR:PySem.W.findCls K (.ref CR) (.type "type") "__init__" = some (.val (.builtin "ValueError.__init__")))
  (gtCR:PySem.W.specialIn K (.ref CR) "__getattribute__" = some (some (.builtin "type.__getattribute__")))
  (hdI:PySem.W.handedIn (.builtin "ValueError.__init__")=true)
  (cgt:PySem.W.specialIn K (.builtin "object.__class__") "__get__" = some (some (.builtin "getset_descriptor.__get__")))
  (ctk:PySem.W.takesIn K (.builtin "object.__class__")=some true)
  (aCT:PySem.W.nsIn K mainGlobals "NoThin" = some (some (.ref CT)))
  (lCT:K.lookup CT=some ⟨.type "type",ddCT,.cls cdCT,#[sCT0,sCT1,sCT2,sCT3,some (.builtin "ValueError.__new__"),sCT5]⟩)
  (mCT:cdCT.mro = .ref CT :: .ref CR::bmV)
  (eCT:cdCT.hasDel=false)
  (dCT:cdCT.hasDict=true)
  (kCT:PySem.W.keepIn K (.ref CT)=true)
  (saCT:PySem.W.findIn K (.ref CT) "__setattr__" = some (some (.builtin "object.__setattr__")))
  (gaCT:PySem.W.findIn K (.ref CT) "__getattribute__" = some (some (.builtin "BaseException.__getattribute__")))
  (gnCT:PySem.W.findIn K (.ref CT) "__getattr__" = some (none))
  (caCT:PySem.W.findIn K (.ref CT) "__class__" = some (some (.builtin "object.__class__")))
  (xCT0:PySem.W.findIn K (.ref CT) "turn" = some none)
  (xCT1:PySem.W.findIn K (.ref CT) "other" = some none)
  (xCT2:PySem.W.findIn K (.ref CT) "piece" = some none)
  (iCT:PySem.W.findIn K (.ref CT) "__init__" = some (some (.ref fCT)))
  (uCT:K.lookup fCT=some ⟨ocCT,odCT,.func (PySem.W.fnOf "__init__" "NoThin.__init__" (defArgs i_thin) (defBody i_thin) (defScope i_thin) .none kVCT dcCT pmCT anCT cvCT ctCT),slCT⟩)
  (vCT:PySem.W.codeIn K cvCT "NoThin.__init__" = true)
  (wCT:PySem.W.keepIn K (.ref fCT)=true)
  (jCT:PySem.W.isFn K (.ref fCT)=true)
  (ak0:PySem.W.nsIn K mainGlobals "NoBand" = some (some (.ref ck0)))
  (ak1:PySem.W.nsIn K mainGlobals "NoPaper" = some (some (.ref ck1)))
  (ak2:PySem.W.nsIn K mainGlobals "NoRow" = some (some (.ref ck2)))
  (ak3:PySem.W.nsIn K mainGlobals "NoSlide" = some (some (.ref ck3)))
  (ak4:PySem.W.nsIn K mainGlobals "NoStep" = some (some (.ref ck4)))
  (ak5:PySem.W.nsIn K mainGlobals "NoSurface" = some (some (.ref ck5)))
  (ak6:PySem.W.nsIn K mainGlobals "NoText" = some (some (.ref ck6)))
  (ak7:PySem.W.nsIn K mainGlobals "NoWay" = some (some (.ref ck7)))
  (lk0:K.lookup ck0=some ⟨.type "type",dk0,.cls xk0,sk0⟩)
  (nk0:(Value.ref CT :: .ref CR::bmV).contains (.ref ck0)=false)
  (lk1:K.lookup ck1=some ⟨.type "type",dk1,.cls xk1,sk1⟩)
  (nk1:(Value.ref CT :: .ref CR::bmV).contains (.ref ck1)=false)
  (lk2:K.lookup ck2=some ⟨.type "type",dk2,.cls xk2,sk2⟩)
  (nk2:(Value.ref CT :: .ref CR::bmV).contains (.ref ck2)=false)
  (lk3:K.lookup ck3=some ⟨.type "type",dk3,.cls xk3,sk3⟩)
  (nk3:(Value.ref CT :: .ref CR::bmV).contains (.ref ck3)=false)
  (lk4:K.lookup ck4=some ⟨.type "type",dk4,.cls xk4,sk4⟩)
  (nk4:(Value.ref CT :: .ref CR::bmV).contains (.ref ck4)=false)
  (lk5:K.lookup ck5=some ⟨.type "type",dk5,.cls xk5,sk5⟩)
  (nk5:(Value.ref CT :: .ref CR::bmV).contains (.ref ck5)=false)
  (lk6:K.lookup ck6=some ⟨.type "type",dk6,.cls xk6,sk6⟩)
  (nk6:(Value.ref CT :: .ref CR::bmV).contains (.ref ck6)=false)
  (lk7:K.lookup ck7=some ⟨.type "type",dk7,.cls xk7,sk7⟩)
  (nk7:(Value.ref CT :: .ref CR::bmV).contains (.ref ck7)=false)
  (gl0:PySem.W.nsIn K aB "a" = some (some (.str "A" t0)))
  (gl1:PySem.W.nsIn K aB "b" = some (some (.str "B" t1)))
  (gl2:PySem.W.nsIn K aB "c" = some (some (.str "C" t2)))
  (gl3:PySem.W.nsIn K aB "d" = some (some (.str "D" t3)))
  (gl4:PySem.W.nsIn K aB "e" = some (some (.str "E" t4)))
  (gl5:PySem.W.nsIn K aB "f" = some (some (.str "F" t5)))
  (gl6:PySem.W.nsIn K aB "A" = some (some (.str "a" t6)))
  (gl7:PySem.W.nsIn K aB "B" = some (some (.str "b" t7)))
  (gl8:PySem.W.nsIn K aB "C" = some (some (.str "c" t8)))
  (gl9:PySem.W.nsIn K aB "D" = some (some (.str "d" t9)))
  (gl10:PySem.W.nsIn K aB "E" = some (some (.str "e" t10)))
  (gl11:PySem.W.nsIn K aB "F" = some (some (.str "f" t11))) :
  ∃ fd:FuncData,(∀ (s:Shared) (v:Value),BindsTo s fd ⟨[v],[]⟩ [("_law_script",v)])∧∀ base:Heap,K.In base→base.Ns mainGlobals mg→FnOk l.prog w K mg base CX0 9 fa fd ["_law_script"] (spLaw K):=by
 have e:=hfa.symm.trans (PySem.W.mg_of X G a25)
 cases e
 have gB:∀ x:L,∃ t,PySem.W.nsIn K aB (toS [x])=some (some (.str (toS [inv x]) t)):=by
  have q:∀ (x:L) (u v:Str) (t:Tok),PySem.W.nsIn K aB u=some (some (.str v t))→toS [x]=u→toS [inv x]=v→∃ t,PySem.W.nsIn K aB (toS [x])=some (some (.str (toS [inv x]) t)):=fun x u v t g e1 e2=>⟨t,by rw [e1,e2];exact g⟩
  intro x
  match x with
  | ⟨0,_⟩=>exact q 0 "a" "A" _ gl0 (by decide +kernel) (by decide +kernel)
  | ⟨1,_⟩=>exact q 1 "b" "B" _ gl1 (by decide +kernel) (by decide +kernel)
  | ⟨2,_⟩=>exact q 2 "c" "C" _ gl2 (by decide +kernel) (by decide +kernel)
  | ⟨3,_⟩=>exact q 3 "d" "D" _ gl3 (by decide +kernel) (by decide +kernel)
  | ⟨4,_⟩=>exact q 4 "e" "E" _ gl4 (by decide +kernel) (by decide +kernel)
  | ⟨5,_⟩=>exact q 5 "f" "F" _ gl5 (by decide +kernel) (by decide +kernel)
  | ⟨6,_⟩=>exact q 6 "A" "a" _ gl6 (by decide +kernel) (by decide +kernel)
  | ⟨7,_⟩=>exact q 7 "B" "b" _ gl7 (by decide +kernel) (by decide +kernel)
  | ⟨8,_⟩=>exact q 8 "C" "c" _ gl8 (by decide +kernel) (by decide +kernel)
  | ⟨9,_⟩=>exact q 9 "D" "d" _ gl9 (by decide +kernel) (by decide +kernel)
  | ⟨10,_⟩=>exact q 10 "E" "e" _ gl10 (by decide +kernel) (by decide +kernel)
  | ⟨11,_⟩=>exact q 11 "F" "f" _ gl11 (by decide +kernel) (by decide +kernel)
 have T:Bt K w mg aB:=⟨PySem.W.mg_none_of X G z_len,PySem.W.mg_none_of X G z_repr,PySem.W.mg_none_of X G z_abs,PySem.W.mg_none_of X G z_max,PySem.W.mg_none_of X G z_int,PySem.W.mg_none_of X G z_list,PySem.W.mg_none_of X G z_range,PySem.W.mg_none_of X G z_reversed,PySem.W.mg_none_of X G z_min,PySem.W.mg_none_of X G z_sorted,PySem.W.mg_none_of X G z_tuple,PySem.W.mg_none_of X G z_isinstance,PySem.W.mg_none_of X G z_all,PySem.W.mg_none_of X G z_str,PySem.W.mg_none_of X G z_zip,PySem.W.mg_of X G aBk,⟨es,en,lB,kB⟩,gB⟩
 have Te:mg "enumerate" = none:=PySem.W.mg_none_of X G zE
 have Tset:mg "set" = none:=PySem.W.mg_none_of X G zS
 have XCR:XCl K CR bmV:=xcl_of lCR mCR eCR dCR zg8 kCR
 have ACR:XAt K CR:=⟨⟨_,XCR⟩,saCR,gaCR,gnCR⟩
 have GCR:mg "RingError" = some (.ref CR):=PySem.W.mg_of X G aCR
 have BCR:XBase K CR:=⟨rdCR,atCR,gtCR,hdI⟩
 have XCT:XCl K CT (.ref CR::bmV):=xcl_of lCT mCT eCT dCT (tail_own lCR (by rw [nCR];exact nsok_of oCR pCR) (by rw [nCR];exact qCR) zg8) kCT
 have ACT:XAt K CT:=⟨⟨_,XCT⟩,saCT,gaCT,gnCT⟩
 have CCT:XCa K CT:=⟨ACT,caCT,cgt,ctk⟩
 have ICT:=fun base:Heap=>c_ithin (P:=l.prog) (w:=w) (mg:=mg) (base:=base) (fun_mk uCT vCT wCT) BCR GCR ACT xCT0 xCT1 xCT2
 have MCT:∀ base:Heap,XMk l.prog w K mg base "NoThin" CT ["turn","other","piece"] 1:=fun base=>⟨PySem.W.mg_of X G aCT,CCT,by intro f hf;simp only [List.mem_cons,List.not_mem_nil,or_false] at hf;rcases hf with rfl | rfl | rfl <;> assumption,⟨_,_,_,XCT,iCT,jCT,(ICT base).1,(ICT base).2⟩⟩
 have kA:=zha (Rs:=[ck0,ck1,ck2,ck3,ck4,ck5,ck6,ck7]) XCT (by intro R hR;simp only [List.mem_cons,List.not_mem_nil,or_false] at hR;rcases hR with rfl | rfl | rfl | rfl | rfl | rfl | rfl | rfl;exact ⟨⟨_,_,_,lk0⟩,nk0⟩;exact ⟨⟨_,_,_,lk1⟩,nk1⟩;exact ⟨⟨_,_,_,lk2⟩,nk2⟩;exact ⟨⟨_,_,_,lk3⟩,nk3⟩;exact ⟨⟨_,_,_,lk4⟩,nk4⟩;exact ⟨⟨_,_,_,lk5⟩,nk5⟩;exact ⟨⟨_,_,_,lk6⟩,nk6⟩;exact ⟨⟨_,_,_,lk7⟩,nk7⟩)
 have TCL:TC K mg CT CR (.ref CR::bmV) bmV (fun n=>[ck0,ck1,ck2,ck3,ck4,ck5,ck6,ck7].getD n ck0):=⟨PySem.W.mg_of X G aCT,PySem.W.mg_of X G aCR,PySem.W.mg_none_of X G zV,PySem.W.mg_of X G ak0,PySem.W.mg_of X G ak1,PySem.W.mg_of X G ak2,PySem.W.mg_of X G ak3,PySem.W.mg_of X G ak4,PySem.W.mg_of X G ak5,PySem.W.mg_of X G ak6,PySem.W.mg_of X G ak7,XCT,by simp,kA,kit_self,kit_ty X XCT rfl rfl,CCT,xCT0,xCT1,xCT2⟩
 refine ⟨PySem.W.fnOf "law" "law" (defArgs s_law) (defBody s_law) (defScope s_law) .none kV25 dc25 pm25 an25 cd25 ct25,fun s v=>.of_eq rfl,fun base _ _=>?_⟩
 have F_back:=c_back (P:=l.prog) (w:=w) (base:=base) (zbm X G a0 l0 c0 k0) T
 have F_turns:=c_turns (P:=l.prog) (w:=w) (base:=base) (zbm X G a1 l1 c1 k1) T
 have F_tof:=c_tof (P:=l.prog) (w:=w) (base:=base) (zbm X G a2 l2 c2 k2) T Tset F_back F_turns
 have F_beg:=c_beg (P:=l.prog) (w:=w) (base:=base) (zbm X G a3 l3 c3 k3) T Te
 have F_fa:=c_fa (P:=l.prog) (w:=w) (base:=base) (zbm X G a5 l5 c5 k5) T
 have F_thick:=c_thick (P:=l.prog) (w:=w) (base:=base) (zbm X G a4 l4 c4 k4) T Te F_tof F_fa F_beg
 have F_feed:=c_feed (P:=l.prog) (w:=w) (base:=base) (zbm X G a13 l13 c13 k13) T
 have F_draw:=c_draw (P:=l.prog) (w:=w) (base:=base) (zbm X G a14 l14 c14 k14) T
 have F_lback:=c_lback (P:=l.prog) (w:=w) (base:=base) (zbm X G a15 l15 c15 k15)
 have F_lred:=c_lred (P:=l.prog) (w:=w) (base:=base) (zbm X G a16 l16 c16 k16) T F_lback
 have F_some:=c_some (P:=l.prog) (w:=w) (base:=base) (zbm X G a17 l17 c17 k17) T F_draw
 have F_mid:=c_mid (P:=l.prog) (w:=w) (base:=base) (zbm X G a18 l18 c18 k18) T F_lback F_lred
 have F_ltof:=c_ltof (P:=l.prog) (w:=w) (base:=base) (zbm X G a19 l19 c19 k19) T F_lback
 have F_lsh:=c_lsh (P:=l.prog) (w:=w) (base:=base) (zbm X G a20 l20 c20 k20) T
 have F_lthick:=c_lthick (P:=l.prog) (w:=w) (base:=base) (zbm X G a21 l21 c21 k21) T F_lsh
 have F_lthin:=c_lthin (P:=l.prog) (w:=w) (base:=base) (zbm X G a22 l22 c22 k22) T F_draw F_lback F_some F_mid F_ltof F_lthick
 have F_lrings:=c_lrings (P:=l.prog) (w:=w) (base:=base) (zbm X G a23 l23 c23 k23) T F_draw F_some F_mid
 have F_isout:=c_isout (P:=l.prog) (w:=w) (base:=base) (zbm X G a6 l6 c6 k6) T F_back
 have F_chg:=c_chg (P:=l.prog) (w:=w) (base:=base) (zbm X G a7 l7 c7 k7) T F_back
 have F_half:=c_half (P:=l.prog) (w:=w) (base:=base) (zbm X G a8 l8 c8 k8) T
 have F_tbh:=c_tbh (P:=l.prog) (w:=w) (base:=base) (zbm X G a10 l10 c10 k10) T F_tof F_half
 have F_sat:=c_sat (P:=l.prog) (w:=w) (base:=base) (zbm X G a11 l11 c11 k11) T F_isout F_beg
 have F_short:=c_short (P:=l.prog) (w:=w) (base:=base) (zbm X G a9 l9 c9 k9) T Tset F_tbh F_sat F_chg
 have F_judged:=c_judged (P:=l.prog) (w:=w) (base:=base) (zbm X G a12 l12 c12 k12) T F_thick F_short (MCT _)
 have F_told:=c_told (P:=l.prog) (w:=w) (base:=base) (zbm X G a24 l24 c24 k24) T TCL XCR F_judged
 exact c_law (fun_mk l25 c25 k25) T F_feed F_draw F_some F_mid F_ltof F_lthick F_lthin F_lrings F_told
theorem walk {l:PySem.W.OpenLaw}{q:Program}{loose:List Str}{XP:(Str→Option Value)→Heap→Prop}{YP:World→Heap→Prop}{d:DefRec}{K:Params→PySem.W.Frag}(hn:l.most=some 63)(hdf:d.params.defaults=[])
  (hY:∀ (w:World) (h:Heap),YP w h→(K w.params).In h)
  (F:∀ (w:World) (mg:Str→Option Value) (fa:Addr) (h:Heap),(K w.params).In h→h.Ns mainGlobals mg→mg d.name=some (.ref fa) →
   ∃ fd:FuncData,(∀ (s:Shared) (u:Value),BindsTo s fd ⟨[u],[]⟩ [("_law_script",u)])∧∀ base:Heap,(K w.params).In base→base.Ns mainGlobals mg→FnOk l.prog w (K w.params) mg base CX0 9 fa fd ["_law_script"] (spLaw (K w.params))) :
  PySem.W.WalkO q loose XP YP l.row.toRowW d [] (fun f vs=>PySem.call f vs) :=
 L2.walk_of (n:=63) (k:=9) (x:="_law_script") (CX:=fun _=>CX0) (sp:=fun w=>spLaw (K w.params)) hn (by decide) hdf ⟨rfl,by decide,by decide,rfl⟩ hY F (fun _ _ a ns hl _ hS=>⟨a,ns,rfl,hS,hl,fun _=>rfl⟩) fun _ _ _ _ _ z=>z
end Kx
namespace Kx
open PySem
noncomputable def fastS (s:String):Str:=⟨⟨PySem.W.R.mapR Char.toNat (PySem.W.S.toListS s)⟩⟩
theorem fastS_eq:Str.ofString=fastS:=by
 funext s
 rw [Str.ofString_eq_toList,PySem.W.S.toListS_eq]
 show _=(⟨⟨PySem.W.R.mapR Char.toNat (PySem.W.S.toListS s)⟩⟩:Str)
 rw [← PySem.W.R.mapR_eq]
noncomputable def apG (G:(String→Str)→Program)(x:String→Str):Program:=G x
noncomputable def Gs:{ G:(String→Str)→Program // apG G Str.ofString=PySem.Challenge.pw_ringwords_k18_refused_where_thick }:=by
 refine ⟨?G,?h⟩
 case h =>
  delta PySem.Challenge.pw_ringwords_k18_refused_where_thick
  generalize Str.ofString=x
  exact rfl
end Kx
noncomputable def PySem.W.Fast.tw4278023345717030298:PySem.Program:=Kx.Gs.1 Kx.fastS
theorem PySem.W.Fast.te4278023345717030298:PySem.Challenge.pw_ringwords_k18_refused_where_thick=PySem.W.Fast.tw4278023345717030298:=Kx.Gs.2.symm.trans (congrArg (Kx.apG Kx.Gs.1) Kx.fastS_eq)
theorem PySem.W.Fast.te1271892769825180697:True:=trivial
theorem PySem.W.Fast.tw11645735348094300394:True:=trivial
theorem PySem.W.Fast.tw3701592110434433638:True:=trivial
theorem PySem.W.Fast.tw11734746899808517623:True:=trivial
theorem PySem.W.Fast.tw8266190619956113272:True:=trivial
theorem PySem.W.Fast.tw9299245347583412191:True:=trivial
theorem PySem.W.Fast.tw14865471695646537895:True:=trivial
theorem PySem.W.Fast.tw18425000271933066480:True:=trivial
theorem PySem.W.Fast.tw3015664687080937576:True:=trivial
theorem PySem.W.Fast.tw18004982758634605178:True:=trivial
theorem PySem.W.Fast.tw13327787396054780676:True:=trivial
theorem PySem.W.Fast.tw11531129958634968338:True:=trivial
theorem PySem.W.Fast.tw2837207913255085606:True:=trivial
theorem PySem.W.Fast.tw11146430793577754072:True:=trivial
theorem PySem.W.Fast.tw12908814843551087672:True:=trivial
theorem PySem.W.Fast.tw7035860353744524109:True:=trivial
theorem PySem.W.Fast.tw3488308149187872062:True:=trivial
theorem PySem.W.Fast.tw9390449006806815269:True:=trivial
theorem PySem.W.Fast.tw4659540042502205040:True:=trivial
theorem PySem.W.Fast.tw6693921059177145236:True:=trivial
open PySem PySem.W PyProof.Rows
set_option maxRecDepth 100000 in
set_option maxHeartbeats 0 in
theorem PySem.Challenge.cw_ringwords_k18_refused_where_thick_holds : PySem.Challenge.rw_ringwords_k18_refused_where_thick.Holds := by
 w_on; o_law; k_head; (case hw=>w_witness2)
 k_fill
 refine Kx.walk (l:=PySem.Challenge.rw_ringwords_k18_refused_where_thick) rfl rfl (fun w h Y=>PySem.W.kIn_of Y) ?F
 case F =>
  intro w mg fa h KX G hmg
  refine' Kx.all_mk KX G hmg ?a0 ?l0 ?c0 ?k0 ?a1 ?l1 ?c1 ?k1 ?a2 ?l2 ?c2 ?k2 ?a3 ?l3 ?c3 ?k3 ?a4 ?l4 ?c4 ?k4 ?a5 ?l5 ?c5 ?k5 ?a6 ?l6 ?c6 ?k6 ?a7 ?l7 ?c7 ?k7 ?a8 ?l8 ?c8 ?k8 ?a9 ?l9 ?c9 ?k9 ?a10 ?l10 ?c10 ?k10 ?a11 ?l11 ?c11 ?k11 ?a12 ?l12 ?c12 ?k12 ?a13 ?l13 ?c13 ?k13 ?a14 ?l14 ?c14 ?k14 ?a15 ?l15 ?c15 ?k15 ?a16 ?l16 ?c16 ?k16 ?a17 ?l17 ?c17 ?k17 ?a18 ?l18 ?c18 ?k18 ?a19 ?l19 ?c19 ?k19 ?a20 ?l20 ?c20 ?k20 ?a21 ?l21 ?c21 ?k21 ?a22 ?l22 ?c22 ?k22 ?a23 ?l23 ?c23 ?k23 ?a24 ?l24 ?c24 ?k24 ?a25 ?l25 ?c25 ?k25 ?z_len ?z_repr ?z_abs ?z_max ?z_int ?z_list ?z_range ?z_reversed ?z_min ?z_sorted ?z_tuple ?z_isinstance ?z_all ?z_str ?z_zip ?aBk ?lB ?kB ?zE ?zS ?zV ?aCR ?lCR ?mCR ?eCR ?dCR ?kCR ?saCR ?gaCR ?gnCR ?caCR ?nCR ?oCR ?pCR ?qCR ?rdCR ?atCR ?gtCR ?hdI ?cgt ?ctk ?aCT ?lCT ?mCT ?eCT ?dCT ?kCT ?saCT ?gaCT ?gnCT ?caCT ?xCT0 ?xCT1 ?xCT2 ?iCT ?uCT ?vCT ?wCT ?jCT ?ak0 ?ak1 ?ak2 ?ak3 ?ak4 ?ak5 ?ak6 ?ak7 ?lk0 ?nk0 ?lk1 ?nk1 ?lk2 ?nk2 ?lk3 ?nk3 ?lk4 ?nk4 ?lk5 ?nk5 ?lk6 ?nk6 ?lk7 ?nk7 ?gl0 ?gl1 ?gl2 ?gl3 ?gl4 ?gl5 ?gl6 ?gl7 ?gl8 ?gl9 ?gl10 ?gl11
  (case a0=>k_is)
  (case l0=>k_is)
  (case c0=>k_is)
  (case k0=>k_is)
  (case a1=>k_is)
  (case l1=>k_is)
  (case c1=>k_is)
  (case k1=>k_is)
  (case a2=>k_is)
  (case l2=>k_is)
  (case c2=>k_is)
  (case k2=>k_is)
  (case a3=>k_is)
  (case l3=>k_is)
  (case c3=>k_is)
  (case k3=>k_is)
  (case a4=>k_is)
  (case l4=>k_is)
  (case c4=>k_is)
  (case k4=>k_is)
  (case a5=>k_is)
  (case l5=>k_is)
  (case c5=>k_is)
  (case k5=>k_is)
  (case a6=>k_is)
  (case l6=>k_is)
  (case c6=>k_is)
  (case k6=>k_is)
  (case a7=>k_is)
  (case l7=>k_is)
  (case c7=>k_is)
  (case k7=>k_is)
  (case a8=>k_is)
  (case l8=>k_is)
  (case c8=>k_is)
  (case k8=>k_is)
  (case a9=>k_is)
  (case l9=>k_is)
  (case c9=>k_is)
  (case k9=>k_is)
  (case a10=>k_is)
  (case l10=>k_is)
  (case c10=>k_is)
  (case k10=>k_is)
  (case a11=>k_is)
  (case l11=>k_is)
  (case c11=>k_is)
  (case k11=>k_is)
  (case a12=>k_is)
  (case l12=>k_is)
  (case c12=>k_is)
  (case k12=>k_is)
  (case a13=>k_is)
  (case l13=>k_is)
  (case c13=>k_is)
  (case k13=>k_is)
  (case a14=>k_is)
  (case l14=>k_is)
  (case c14=>k_is)
  (case k14=>k_is)
  (case a15=>k_is)
  (case l15=>k_is)
  (case c15=>k_is)
  (case k15=>k_is)
  (case a16=>k_is)
  (case l16=>k_is)
  (case c16=>k_is)
  (case k16=>k_is)
  (case a17=>k_is)
  (case l17=>k_is)
  (case c17=>k_is)
  (case k17=>k_is)
  (case a18=>k_is)
  (case l18=>k_is)
  (case c18=>k_is)
  (case k18=>k_is)
  (case a19=>k_is)
  (case l19=>k_is)
  (case c19=>k_is)
  (case k19=>k_is)
  (case a20=>k_is)
  (case l20=>k_is)
  (case c20=>k_is)
  (case k20=>k_is)
  (case a21=>k_is)
  (case l21=>k_is)
  (case c21=>k_is)
  (case k21=>k_is)
  (case a22=>k_is)
  (case l22=>k_is)
  (case c22=>k_is)
  (case k22=>k_is)
  (case a23=>k_is)
  (case l23=>k_is)
  (case c23=>k_is)
  (case k23=>k_is)
  (case a24=>k_is)
  (case l24=>k_is)
  (case c24=>k_is)
  (case k24=>k_is)
  (case a25=>k_is)
  (case l25=>k_is)
  (case c25=>k_is)
  (case k25=>k_is)
  (case z_len=>k_is)
  (case z_repr=>k_is)
  (case z_abs=>k_is)
  (case z_max=>k_is)
  (case z_int=>k_is)
  (case z_list=>k_is)
  (case z_range=>k_is)
  (case z_reversed=>k_is)
  (case z_min=>k_is)
  (case z_sorted=>k_is)
  (case z_tuple=>k_is)
  (case z_isinstance=>k_is)
  (case z_all=>k_is)
  (case z_str=>k_is)
  (case z_zip=>k_is)
  (case aBk=>k_is)
  (case lB=>k_is)
  (case kB=>exact ⟨⟨_,_,rfl,rfl⟩,⟨_,_,rfl,rfl⟩,⟨_,_,rfl,rfl⟩,⟨_,_,rfl,rfl⟩,⟨_,_,rfl,rfl⟩,⟨_,_,rfl,rfl⟩,⟨_,_,rfl,rfl⟩,⟨_,_,rfl,rfl⟩,⟨_,_,rfl,rfl⟩,⟨_,_,rfl,rfl⟩,⟨_,_,rfl,rfl⟩,⟨_,_,rfl,rfl⟩,trivial⟩)
  (case zE=>k_is)
  (case zS=>k_is)
  (case zV=>k_is)
  (case aCR=>k_is)
  (case lCR=>k_is)
  (case mCR=>rfl)
  (case eCR=>rfl)
  (case dCR=>rfl)
  (case kCR=>k_is)
  (case saCR=>k_is)
  (case gaCR=>k_is)
  (case gnCR=>k_is)
  (case caCR=>k_is)
  (case nCR=>rfl)
  (case oCR=>k_is)
  (case pCR=>rfl)
  (case qCR=>k_is)
  (case rdCR=>k_is)
  (case atCR=>k_is)
  (case gtCR=>k_is)
  (case hdI=>rfl)
  (case cgt=>k_is)
  (case ctk=>k_is)
  (case aCT=>k_is)
  (case lCT=>k_is)
  (case mCT=>rfl)
  (case eCT=>rfl)
  (case dCT=>rfl)
  (case kCT=>k_is)
  (case saCT=>k_is)
  (case gaCT=>k_is)
  (case gnCT=>k_is)
  (case caCT=>k_is)
  (case xCT0=>k_is)
  (case xCT1=>k_is)
  (case xCT2=>k_is)
  (case iCT=>k_is)
  (case uCT=>k_is)
  (case vCT=>k_is)
  (case wCT=>k_is)
  (case jCT=>k_is)
  (case ak0=>k_is)
  (case ak1=>k_is)
  (case ak2=>k_is)
  (case ak3=>k_is)
  (case ak4=>k_is)
  (case ak5=>k_is)
  (case ak6=>k_is)
  (case ak7=>k_is)
  (case lk0=>k_is)
  (case nk0=>rfl)
  (case lk1=>k_is)
  (case nk1=>rfl)
  (case lk2=>k_is)
  (case nk2=>rfl)
  (case lk3=>k_is)
  (case nk3=>rfl)
  (case lk4=>k_is)
  (case nk4=>rfl)
  (case lk5=>k_is)
  (case nk5=>rfl)
  (case lk6=>k_is)
  (case nk6=>rfl)
  (case lk7=>k_is)
  (case nk7=>rfl)
  (case gl0=>k_is)
  (case gl1=>k_is)
  (case gl2=>k_is)
  (case gl3=>k_is)
  (case gl4=>k_is)
  (case gl5=>k_is)
  (case gl6=>k_is)
  (case gl7=>k_is)
  (case gl8=>k_is)
  (case gl9=>k_is)
  (case gl10=>k_is)
  (case gl11=>k_is)
