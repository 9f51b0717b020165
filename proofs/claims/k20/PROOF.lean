import PyProof.Rows.All
import Wide.All
import OpenK.AllK
import Wide.FinOn
import Lean
import PyProof.EqAt
import PyProof.EqKinds
import PyProof.TupleCall
import KE.KRevIter
import PyProof.Rows.SortShellK
import PyProof.FString5
import PyProof.NeData
import PyProof.TupleOfStr
import PyProof.IsRules
import PyProof.ListRange
import PyProof.FactsAll.tuple_3
import PyProof.ExcInit
import PyProof.InstStoreFacts
import PyProof.NsDelKeeps
import PyProof.AttrMiss
import PyProof.FactsAll.zip
import KE.KDictOf
import PySem.Challenge.RW_ringwords_k20_lines_of_seats
set_option Elab.async false
set_option linter.all false
set_option maxRecDepth 100000
namespace L2
open PySem PySem.Spec PyProof.Rows
abbrev Key:=Sum Int Str
def kn:Key→Value→Bool
 | .inl k,v=>Value.isInt k v
 | .inr x,v=>Value.isStrOf x v
def yk (w:World):Key→Int
 | .inl k=>hashInt k
 | .inr x=>hashStr w x
theorem aR:∀ {k:Key} {v:Value},kn k v=true→(∃ i t,k=Sum.inl i∧v=Value.int i t) ∨ (∃ x t,k=Sum.inr x∧v=Value.str x t)
 | .inl i,v,h=>by
  obtain ⟨t,e⟩:=Value.isInt_shape (k:=i) (v:=v) h
  exact .inl ⟨i,t,rfl,e⟩
 | .inr x,v,h=>by
  obtain ⟨t,e⟩:=Value.isStrOf_shape (x:=x) (v:=v) h
  exact .inr ⟨x,t,rfl,e⟩
theorem lj (i:Int)(t:Tok):kn (.inl i) (.int i t)=true:=by simp [kn,Value.isInt]
theorem lq (x:Str)(t:Tok):kn (.inr x) (.str x t)=true:=by simp [kn,Value.isStrOf]
theorem uq (a b:Int):decide ((Sum.inl a:Key)=Sum.inl b)=(a == b):=by
 by_cases e:a=b
 ·subst e;simp
 ·have h:¬ (Sum.inl a:Key)=Sum.inl b:=fun q=>e (Sum.inl.inj q)
  rw [decide_eq_false h]
  exact (beq_eq_false_iff_ne.mpr e).symm
theorem ur (a b:Str):decide ((Sum.inr a:Key)=Sum.inr b)=decide (a=b):=by
 by_cases e:a=b
 ·subst e;simp
 ·have h:¬ (Sum.inr a:Key)=Sum.inr b:=fun q=>e (Sum.inr.inj q)
  rw [decide_eq_false h,decide_eq_false e]
theorem uv (a:Int)(b:Str):decide ((Sum.inl a:Key)=Sum.inr b)=false:=decide_eq_false (fun q=>nomatch q)
theorem uw (a:Str)(b:Int):decide ((Sum.inr a:Key)=Sum.inl b)=false:=decide_eq_false (fun q=>nomatch q)
def aN (prog:Program)(w:World):PySem.KeyKind prog w Key where
 is:=kn
 hash:=yk w
 inj:=fun v a b ha hb=>by
  rcases aR ha with ⟨i,t,rfl,rfl⟩ | ⟨x,t,rfl,rfl⟩
  ·rcases aR hb with ⟨j,u,rfl,e⟩ | ⟨y,u,rfl,e⟩
   ·injection e with e1 _;rw [e1]
   ·exact nomatch e
  ·rcases aR hb with ⟨j,u,rfl,e⟩ | ⟨y,u,rfl,e⟩
   ·exact nomatch e
   ·injection e with e1 _;rw [e1]
 byValue:=fun k v h=>by
  rcases aR h with ⟨i,t,rfl,rfl⟩ | ⟨x,t,rfl,rfl⟩ <;> rfl
 pyHash:=fun hv h=>by
  rcases aR hv with ⟨i,t,rfl,rfl⟩ | ⟨x,t,rfl,rfl⟩
  ·exact wpAny_pyHash_int h
  ·exact wpAny_pyHash_str h
 eqBool:=fun hu hv h=>by
  rcases aR hu with ⟨i,t,rfl,rfl⟩ | ⟨x,t,rfl,rfl⟩
  ·rcases aR hv with ⟨j,u,rfl,rfl⟩ | ⟨y,u,rfl,rfl⟩
   ·rw [uq] at h;exact wpAny_eqBool_int h
   ·rw [uv] at h;exact SeqAt.EqAt.int_str i t y u _ _ _ _ h
  ·rcases aR hv with ⟨j,u,rfl,rfl⟩ | ⟨y,u,rfl,rfl⟩
   ·rw [uw] at h;exact SeqAt.EqAt.str_int x t j u _ _ _ _ h
   ·rw [ur] at h;exact wpAny_eqBool_str h
 «strs»:=fun k x t v h=>by
  rcases aR h with ⟨i,u,rfl,e⟩ | ⟨y,u,rfl,e⟩
  ·exact nomatch e
  ·injection e with e1 _
   subst e1
   cases v <;> rfl
theorem iP (prog:Program)(w:World)(i:Int)(t:Tok):(aN prog w).is (.inl i) (.int i t)=true:=lj i t
theorem iQ (prog:Program)(w:World)(x:Str)(t:Tok):(aN prog w).is (.inr x) (.str x t)=true:=lq x t
inductive V where
 | non | bl (b:Bool) | int (i:Int) | str (x:Str) | byt (b:Array UInt8) | flt (b:UInt64) | ref (a:Addr) | ty (n:String)
 deriving DecidableEq
def bc:V→Value→Prop
 | .non,u=>u=Value.none
 | .bl b,u=>u=Value.bool b
 | .int i,u=>∃ t,u=Value.int i t
 | .str x,u=>∃ t,u=Value.str x t
 | .byt b,u=>∃ t,u=Value.bytes b t
 | .flt b,u=>∃ t,u=Value.float b t
 | .ref a,u=>u=Value.ref a
 | .ty n,u=>u=Value.type n
abbrev aY:List V→List Value→Prop:=Paired bc
theorem aY.length {xs:List V}{us:List Value}(r:aY xs us):xs.length=us.length:=Paired.length r
theorem aY.get:∀ {xs:List V} {us:List Value} {i:Nat} {x:V},aY xs us→xs[i]? = some x→∃ u,us[i]? = some u∧bc x u
 | _,_,_,_,.nil,e=>by simp at e
 | _,_,0,_,.cons r _,e=>by simp at e;subst e;exact ⟨_,rfl,r⟩
 | _,_,i+1,x,.cons _ t,e=>by
  obtain ⟨u,h1,h2⟩:=aY.get (i:=i) (x:=x) t (by simpa using e)
  exact ⟨u,by simpa using h1,h2⟩
theorem aY.set {x:V}{u:Value}(r:bc x u):∀ {xs:List V} {us:List Value} (i:Nat),aY xs us→aY (xs.set i x) (us.set i u)
 | _,_,_,.nil=>.nil
 | _,_,0,.cons _ t=>.cons r t
 | _,_,i+1,.cons q t=>.cons q (aY.set r i t)
theorem aY.append:∀ {xs ys:List V} {us ws:List Value},aY xs us→aY ys ws→aY (xs++ys) (us++ws)
 | _,_,_,_,.nil,s=>s
 | _,_,_,_,.cons r t,s=>.cons r (aY.append t s)
theorem aY.take:∀ {xs:List V} {us:List Value} (n:Nat),aY xs us→aY (xs.take n) (us.take n)
 | _,_,0,_=>.nil
 | _,_,_+1,.nil=>.nil
 | _,_,n+1,.cons r t=>.cons r (aY.take n t)
theorem aY.drop:∀ {xs:List V} {us:List Value} (n:Nat),aY xs us→aY (xs.drop n) (us.drop n)
 | _,_,0,r=>r
 | _,_,_+1,.nil=>.nil
 | _,_,n+1,.cons _ t=>aY.drop n t
def jv:Option V→Option Value→Prop
 | some v,some u=>bc v u
 | none,none=>True
 | _,_=>False
def KV {κ:Type}:List (κ × V)→List (κ × Value)→Prop:=Paired fun (p:κ × V) (q:κ × Value)=>p.1=q.1∧bc p.2 q.2
def kV:Key→V
 | .inl i=>.int i
 | .inr x=>.str x
inductive HO where
 | lst (xs:List V)
 | tup (xs:List V)
 | dK (kvs:List (Key × V)) | dT (kvs:List (List Key × V))
 | set (S:Int→Bool) (n:Nat)
 | ins (C dx:Addr) (fs:List (Str × V))
 | own (x:Addr)
 | xd (fs:List (Str × V))
 | met (f x:Addr)
 | rng (lo hi:Int)
 | frz (o:Obj) (u:HO)
 | tbl (ps:Array Value)
 | ext (φ:Heap→Prop)
abbrev Hp:=Addr→Option HO
def upd (H:Hp)(a:Addr)(o:HO):Hp:=fun b=>if b=a then some o else H b
theorem ae {H:Hp}{a:Addr}{o:HO}:upd H a o a=some o:=by unfold upd; rw [if_pos rfl]
theorem aq {H:Hp}{a b:Addr}{o:HO}(h:b≠a):upd H a o b=H b:=by unfold upd; rw [if_neg h]
theorem cW {H:Hp}{a:Addr}{o u:HO}:upd (upd H a o) a u=upd H a u:=by
 funext b;unfold upd;split <;> rfl
theorem oG {H:Hp}{a b:Addr}{o u:HO}(h:H a=some o)(h':H b=some u)(d:o≠u):a≠b:=by
 intro e;subst e;rw [h] at h';exact d (Option.some.inj h')
theorem ao {H:Hp}{a b:Addr}{o:HO}(h:H a=some o)(h':H b=none):a≠b:=by
 intro e;subst e;rw [h] at h';cases h'
section
variable (P:Program) (w:World)
def NoD (h:Heap)(a:Addr):Prop:=∃ o,h.get? a=some o∧o.dict=none
theorem NoD.new (h:Heap)(o:Obj)(e:o.dict=none)(hf:o.isFreed=false:=by rfl):NoD (h.push o) h.objs.size:=⟨o,Heap.get?_push_size _ hf,e⟩
def a_ (H:Hp)(h:Heap)(a:Addr):HO→Prop
 | .lst xs=>xs.length≤sizeLine∧∃ (its:List Value) (n:Nat),aY xs its∧h.get? a=some { cls:=.type "list",data:=.seq its.toArray n }
 | .tup xs=>xs.length≤sizeLine∧∃ its:List Value,aY xs its∧IsTup h a its.toArray∧NoD h a
 | .dK kvs=>kvs.length≤sizeLine∧(a == sysModules)=false∧∃ vs,KV kvs vs∧h.DictOf (aN P w) a vs
 | .dT kvs=>kvs.length≤sizeLine∧(a == sysModules)=false∧∃ xs:List (List Key × Addr × Value),
   Paired (fun (p:List Key × V) (q:List Key × Addr × Value)=>p.1=q.1∧H q.2.1=some (.tup (p.1.map kV))∧bc p.2 q.2.2) kvs xs ∧
   ∃ o es ep,h.get? a=some o∧o.ExactDict∧o.data = .dict es ep∧es.toList=xs.map (entryOfKey (tupleKind (aN P w)))∧(xs.map (·.1)).Nodup
 | .set S n=>h.SetOf (intKind P w) a S n
 | .ins C dx fs=>H dx=some (.own a)∧fs.length≤1000∧dx≠a∧h.get? a=some (PySem.W.instObj C dx) ∧
   ∃ mA,h.Ns1 dx mA∧(∀ f,jv (fs.lookup f) (mA f))∧PySem.Within mA (fs.map (·.1))
 | .own _=>∃ o,h.get? a=some o
 | .xd fs=>∃ mA,h.Ns1 a mA∧∀ f,jv (fs.lookup f) (mA f)
 | .rng lo hi=>∃ t u v,h.get? a=some { cls:=.type "range",data:=.fields #[.int lo t,.int hi u,.int 1 v] }
 | .frz o u=>h.get? a=some o∧a_ H h a u
 | .tbl ps=>h.get? a=some { cls:=.none,data:=.fields ps }
 | .met f x=>h.get? a=some (PySem.W.methodObj (.ref f) (.ref x))
 | .ext φ=>φ h∧(∃ o,h.get? a=some o)∧∀ h1 h2:Heap,φ h1→(∀ o,h1.get? a=some o→h2.get? a=some o)→φ h2
def HOk (H:Hp)(h:Heap):Prop:=∀ a o,H a=some o→a_ P w H h a o
end
section
variable {P:Program} {w:World} {H H':Hp} {h h':Heap} {a:Addr} {o:HO}
theorem a_.lt (x:a_ P w H h a o):a < h.objs.size:=by
 cases o with
 | lst xs=>obtain ⟨_,_,_,_,e⟩:=x;exact Heap.lt_size e
 | tup xs=>obtain ⟨_,_,_,p,_⟩:=x;exact p.lt
 | dK kvs=>obtain ⟨_,_,_,_,o,_,_,e,_⟩:=x;exact Heap.lt_size e
 | dT kvs=>obtain ⟨_,_,_,_,o,_,_,e,_⟩:=x;exact Heap.lt_size e
 | set S n=>obtain ⟨o,_,_,_,e,_⟩:=x;exact Heap.lt_size e
 | ins C dx fs=>obtain ⟨_,_,_,e,_⟩:=x;exact Heap.lt_size e
 | own y=>obtain ⟨_,e⟩:=x;exact Heap.lt_size e
 | xd fs=>obtain ⟨_,⟨_,_,_,e,_⟩,_⟩:=x;exact Heap.lt_size e
 | rng lo hi=>obtain ⟨_,_,_,e⟩:=x;exact Heap.lt_size e
 | frz ob u=>obtain ⟨e,_⟩:=x;exact Heap.lt_size e
 | tbl ps=>exact Heap.lt_size (show h.get? a=some _ from x)
 | met f y=>exact Heap.lt_size (show h.get? a=some _ from x)
 | ext φ=>obtain ⟨_,⟨_,e⟩,_⟩:=x;exact Heap.lt_size e
theorem Paired.mapP {α β:Type}{F G:α→β→Prop}:∀ {l₁:List α} {l₂:List β},Paired F l₁ l₂→(∀ a b,F a b→G a b)→Paired G l₁ l₂
 | _,_,.nil,_=>.nil
 | _,_,.cons r t,f=>.cons (f _ _ r) (Paired.mapP t f)
theorem a_.stay (x:a_ P w H h a o)(k:∀ b u,(b=a ∨ H b=some (.own a))→h.get? b=some u→h'.get? b=some u)
  (ho:∀ b,H b=some (.own a)→H' b=some (.own a)) (ht:∀ b xs,H b=some (.tup xs)→H' b=some (.tup xs)):a_ P w H' h' a o:=by
 induction o with
 | lst xs=>obtain ⟨z,its,n,r,e⟩:=x;exact ⟨z,its,n,r,k _ _ (.inl rfl) e⟩
 | tup xs=>obtain ⟨z,its,r,⟨ob,e,c⟩,o2,e2,c2⟩:=x;exact ⟨z,its,r,⟨ob,k _ _ (.inl rfl) e,c⟩,o2,k _ _ (.inl rfl) e2,c2⟩
 | dK kvs=>obtain ⟨z,y,vs,r,ob,es,ep,e,c⟩:=x;exact ⟨z,y,vs,r,ob,es,ep,k _ _ (.inl rfl) e,c⟩
 | dT kvs =>
  obtain ⟨z,y,xs,r,ob,es,ep,e,c⟩:=x
  exact ⟨z,y,xs,Paired.mapP r fun p q z=>⟨z.1,ht _ _ z.2.1,z.2.2⟩,ob,es,ep,k _ _ (.inl rfl) e,c⟩
 | set S n=>obtain ⟨ob,es,ep,t,e,c⟩:=x;exact ⟨ob,es,ep,t,k _ _ (.inl rfl) e,c⟩
 | ins C dx fs =>
  obtain ⟨d,z,ne,e,mA,⟨od,es,ep,e2,c⟩,r⟩:=x
  exact ⟨ho _ d,z,ne,k _ _ (.inl rfl) e,mA,⟨od,es,ep,k _ _ (.inr d) e2,c⟩,r⟩
 | own y=>obtain ⟨ob,e⟩:=x;exact ⟨ob,k _ _ (.inl rfl) e⟩
 | xd fs=>obtain ⟨mA,⟨od,es,ep,e,c⟩,r⟩:=x;exact ⟨mA,⟨od,es,ep,k _ _ (.inl rfl) e,c⟩,r⟩
 | rng lo hi=>obtain ⟨t,u,v,e⟩:=x;exact ⟨t,u,v,k _ _ (.inl rfl) e⟩
 | frz ob u ih=>obtain ⟨e,q⟩:=x;exact ⟨k _ _ (.inl rfl) e,ih q⟩
 | tbl ps =>
  have e:h.get? a=some { cls:=.none,data:=.fields ps }:=x
  show h'.get? a=some { cls:=.none,data:=.fields ps }
  exact k a _ (.inl rfl) e
 | met f y =>
  have e:h.get? a=some (PySem.W.methodObj (.ref f) (.ref y)):=x
  show h'.get? a=some (PySem.W.methodObj (.ref f) (.ref y))
  exact k a _ (.inl rfl) e
 | ext φ=>obtain ⟨p,⟨o,e⟩,st⟩:=x;exact ⟨st _ _ p fun o q=>k _ _ (.inl rfl) q,⟨o,k _ _ (.inl rfl) e⟩,st⟩
theorem HOk.lt (x:HOk P w H h)(e:H a=some o):a < h.objs.size:=(x a o e).lt
theorem HOk.fresh (x:HOk P w H h)(e:h.objs.size≤a):H a=none:=by
 cases q:H a with
 | none=>rfl
 | some u=>exact absurd (Nat.lt_of_lt_of_le (x.lt q) e) (Nat.lt_irrefl _)
theorem HOk.kept (x:HOk P w H h)(k:∀ b u,h.get? b=some u→h'.get? b=some u):HOk P w H h':=fun a o e =>
 (x a o e).stay (fun b u _ q=>k b u q) (fun _ q=>q) fun _ _ q=>q
theorem HOk.laid (x:HOk P w H h)(k:∀ b u,h.get? b=some u→h'.get? b=some u)(hp:h.objs.size≤a)(new:a_ P w (upd H a o) h' a o):HOk P w (upd H a o) h':=fun b u e=>by
 have hn:=x.fresh hp
 by_cases hb:b=a
 ·subst hb;rw [ae] at e;cases e;exact new
 ·rw [aq hb] at e
  exact (x b u e).stay (fun c v _ q=>k c v q) (fun c q=>by rw [aq (ao q hn)];exact q) fun c xs q=>by rw [aq (ao q hn)];exact q
end
def Rd (H:Hp)(a:Addr)(u:HO):Prop:=H a=some u ∨ ∃ o,H a=some (.frz o u)
theorem Rd.ok {P:Program}{w:World}{H:Hp}{h:Heap}{a:Addr}{u:HO}(r:Rd H a u)(x:HOk P w H h):a_ P w H h a u:=by
 rcases r with r | ⟨o,r⟩
 ·exact x a u r
 ·obtain ⟨_,q⟩:=x a _ r
  exact q
def Mut:Option HO→Prop
 | some (.lst _)=>True
 | some (.dK _)=>True
 | some (.dT _)=>True
 | some (.set _ _)=>True
 | some (.ins _ _ _)=>True
 | some (.ext _)=>True
 | _=>False
section
variable {P:Program} {w:World} {H:Hp} {h h':Heap} {x e:Addr} {o':HO}
theorem HOk.write (ok:HOk P w H h)(mu:Mut (H x))(he:e=x ∨ H e=some (.own x))(k:∀ b u,b≠e→h.get? b=some u→h'.get? b=some u)(heo:∃ u,h'.get? e=some u)
  (new:a_ P w (upd H x o') h' x o'):HOk P w (upd H x o') h':=fun b u q=>by
 have nown:∀ c y,H c=some (.own y)→c≠x:=fun c y r z=>by subst z;rw [r] at mu;exact mu
 have ntup:∀ c xs,H c=some (.tup xs)→c≠x:=fun c xs r z=>by subst z;rw [r] at mu;exact mu
 by_cases hb:b=x
 ·subst hb;rw [ae] at q;cases q;exact new
 ·rw [aq hb] at q
  by_cases hbe:b=e
  ·have q':H b=some (.own x):=by
    rcases he with z | z
    ·exact absurd (hbe.trans z) hb
    ·rw [hbe];exact z
   rw [q] at q';cases q'
   obtain ⟨v,hv⟩:=heo
   exact ⟨v,by rw [hbe];exact hv⟩
  ·refine (ok b u q).stay (fun c v hc r=>k c v ?_ r) (fun c r=>by rw [aq (nown c b r)];exact r) fun c xs r=>by rw [aq (ntup c xs r)];exact r
   rcases hc with rfl | hc
   ·exact hbe
   ·rintro rfl
    rcases he with z | z
    ·exact nown c b hc z
    ·rw [hc] at z;cases z;exact hb rfl
end
structure Un (fs ex:List Addr) (H H':Hp) (h h':Heap):Prop where
 keep:∀ b o,h.get? b=some o→H b=none→b∉fs→b∉ex→h'.get? b=some o
 slot:∀ b o,h.get? b=some o→H b=none→b∈fs→b∉ex→∃ sl,h'.get? b=some { o with slots:=sl }
 free:∀ b o,h.get? b=some o→H b=none→b∉ex→H' b=none
 there:∀ b o,h.get? b=some o→b∉ex→∃ o',h'.get? b=some o'
 tups:∀ b xs,H b=some (.tup xs)→H' b=some (.tup xs)
 frzs:∀ b o u,H b=some (.frz o u)→H' b=some (.frz o u)
 tbls:∀ b ps,H b=some (.tbl ps)→∃ more,H' b=some (.tbl (ps++more))
section
variable {fs fs' ex ex':List Addr} {H H1 H2:Hp} {h h1 h2 h':Heap} {a x e:Addr} {o:HO}
theorem Un.any (u:Un fs ex H H1 h h1){b:Addr}{ob:Obj}(q:h.get? b=some ob)(n:H b=none)(hx:b∉ex):∃ sl,h1.get? b=some { ob with slots:=sl }:=by
 by_cases hb:b∈fs
 ·exact u.slot b ob q n hb hx
 ·exact ⟨ob.slots,u.keep b ob q n hb hx⟩
theorem Un.kept (k:∀ b u,h.get? b=some u→h'.get? b=some u):Un fs ex H H h h' :=
 ⟨fun b ob q _ _ _=>k b ob q,fun b ob q _ _ _=>⟨ob.slots,k b ob q⟩,fun _ _ _ n _=>n,fun b ob q _=>⟨ob,k b ob q⟩,fun _ _ q=>q,fun _ _ _ q=>q,fun _ ps q=>⟨#[],by rw [q];simp⟩⟩
theorem Un.refl:Un fs ex H H h h:=Un.kept fun _ _ q=>q
theorem Un.laid (k:∀ b u,h.get? b=some u→h'.get? b=some u)(hp:h.objs.size≤a)(hn:H a=none):Un fs ex H (upd H a o) h h' where
 keep:=fun b u q _ _ _=>k b u q
 slot:=fun b u q _ _ _=>⟨u.slots,k b u q⟩
 free:=fun b u q n _=>by rw [aq (Nat.ne_of_lt (Nat.lt_of_lt_of_le (Heap.lt_size q) hp))];exact n
 there:=fun b u q _=>⟨u,k b u q⟩
 tups:=fun b xs q=>by rw [aq (ao q hn)];exact q
 frzs:=fun b u xs q=>by rw [aq (ao q hn)];exact q
 tbls:=fun b ps q=>⟨#[],by rw [aq (ao q hn),q];simp⟩
theorem Un.write (mu:Mut (H x))(he:e=x ∨ H e=some (.own x))(k:∀ b u,b≠e→h.get? b=some u→h'.get? b=some u)(heo:∃ u,h'.get? e=some u):Un fs ex H (upd H x o) h h':=by
 have hx:∀ b,H b=none→b≠x:=fun b n z=>by subst z;rw [n] at mu;exact mu
 have hb:∀ b,H b=none→b≠e:=fun b n z=>by
  subst z
  rcases he with r | r
  ·exact hx b n r
  ·rw [n] at r;cases r
 have hm:∀ b u,H b=some u→¬ Mut (some u)→b≠x:=fun b u q nm z=>by subst z;rw [q] at mu;exact nm mu
 refine ⟨fun b u q n _ _=>k b u (hb b n) q,fun b u q n _ _=>⟨u.slots,k b u (hb b n) q⟩,fun b u q n _=>by rw [aq (hx b n)];exact n,fun b u q _=>?_,
  fun b xs q=>by rw [aq (hm b _ q fun z=>z)];exact q,fun b u xs q=>by rw [aq (hm b _ q fun z=>z)];exact q,fun b ps q=>⟨#[],by rw [aq (hm b _ q fun z=>z),q];simp⟩⟩
 by_cases hbe:b=e
 ·subst hbe;exact heo
 ·exact ⟨u,k b u hbe q⟩
end
def trk (h:Heap)(H:Hp):List Addr:=(List.range h.objs.size).filter fun a=>(H a).isSome
def oH (h:Heap)(H:Hp):Heap:=PySem.W.hideAll h (trk h H)
theorem lu (h:Heap)(H:Hp):(oH h H).objs.size=h.objs.size:=PySem.W.hideAll_size _ _
theorem oI {h:Heap}{H:Hp}{b:Addr}{o:Obj}(e:h.get? b=some o)(n:H b=none):(oH h H).get? b=some o :=
 PySem.W.hideAll_get _ e fun hm=>by
  have q:(H b).isSome=true:=(List.mem_filter.mp hm).2
  rw [n] at q;simp at q
theorem rB {h:Heap}{H:Hp}{b:Addr}{o:Obj}(e:(oH h H).get? b=some o):h.get? b=some o∧H b=none:=by
 have e':h.get? b=some o:=PySem.W.of_hideAll (trk h H) e
 refine ⟨e',?_⟩
 cases q:H b with
 | none=>rfl
 | some x =>
  have hm:b∈trk h H:=List.mem_filter.mpr ⟨List.mem_range.mpr (Heap.lt_size e'),by simp [q]⟩
  have z:(oH h H).get? b=none:=PySem.W.hideAll_none (trk h H) hm
  rw [z] at e;cases e
structure Mod (K:PySem.W.Frag) (mg:Str→Option Value) (base:Heap):Prop where
 kin:K.In base
 glob:base.Ns mainGlobals mg
 blt:∃ mb,base.Ns builtinsNs mb∧∀ x:Str,x ≠ "__name__"→mb x=bootBuiltins x
 nolimit:base.NoLimit
/-- the context: a def's body (or a comprehension's block) running. base: fixed through the whole law;s₀,H₀: the entry;outer: the frames whose slots others may change (a def's callers);stack: all frames that run;
  ex: iterators that were made ahead of the entry and are walked here (a comprehension's);fn: the names whose cells were made at the entry (a def: all;a comprehension's block: its own);calm: not within an except suite;pn: pins that every state bears;xe: what is wanted of an exception that leaves the code -/
structure Cx where
 prog:Program
 w:World
 K:PySem.W.Frag
 mg:Str→Option Value
 base:Heap
 A:Around
 N:List Str
 s₀:Shared
 H₀:Hp
 env:Env
 outer:List Env
 stack:List Env
 ex:List Addr
 fn:Str→Bool
 calm:Bool
 pn:List (Addr × Obj)
 xe:Value→Shared→Prop
def frs (l:List Env):List Addr:=l.filterMap (·.frame)
abbrev Cx.fs (X:Cx):List Addr:=frs X.outer
def Vis (sc:Scope)(x:Str):Prop:=sc.names.lookup x=some .local ∨ sc.names.lookup x=some .cell ∨ sc.names.lookup x=some .free
def Loc (sc:Scope)(x:Str):Prop:=sc.names.lookup x=some .local ∨ sc.names.lookup x=some .cell
def yl (env:Env)(h:Heap)(m:Str→Option Value)(x:Str)(u:Value):Prop :=
 (env.kindOf x=some .local∧m x=some u) ∨ ((env.kindOf x=some .cell ∨ env.kindOf x=some .free)∧∃ c,env.cells.lookup x=some c∧h.IsCell c (some u))
structure Cx.Ok (X:Cx):Prop where
 mod:Mod X.K X.mg X.base
 kind:X.env.scope.kind = .function
 glob:X.env.globals=mainGlobals
 blt:X.env.builtins=builtinsNs
 above:X.s₀.heap.objs.size≤X.env.locals
 inj:∀ x y c,X.env.cells.lookup x=some c→X.env.cells.lookup y=some c→x=y
 has:∀ x,(X.env.kindOf x=some .cell ∨ X.env.kindOf x=some .free)→∃ c,X.env.cells.lookup x=some c
 cab:∀ x c,X.fn x=true→X.env.cells.lookup x=some c→X.s₀.heap.objs.size≤c
 hd:X.calm=true→X.A.handled=none
 frames:X.A.frames=some X.stack
 stk:X.stack=X.outer ∨ (X.stack=X.env::X.outer∧X.env.frame=some X.env.locals)
 exf:∀ b∈X.ex,b≠X.env.locals∧∀ x c,X.env.cells.lookup x=some c→c≠b
 bs:∀ b o,X.base.get? b=some o→X.s₀.heap.get? b=some o∧X.H₀ b=none
 bsz:X.base.objs.size≤X.s₀.heap.objs.size
 noex:∀ b o,X.base.get? b=some o→b∉X.ex
 exfs:∀ b∈X.ex,b∉X.fs
 funs:X.s₀.heap.FunFrames X.base X.outer
 frf:∀ b∈X.fs,X.H₀ b=none
structure Inv (X:Cx) (pins:List (Addr × Obj)) (σ:List (Option V)) (H:Hp) (s:Shared):Prop where
 ok:X.Ok
 os:s.os=X.s₀.os
 bare:AllBare s.gens
 base:Un X.fs X.ex X.H₀ H X.s₀.heap s.heap
 loc:∃ m,s.heap.Ns X.env.locals m∧∀ (i:Nat) (x:Str) (v:V),X.N[i]? = some x→σ[i]? = some (some v)→Vis X.env.scope x→∃ u,bc v u∧yl X.env s.heap m x u
 cell:∀ x c,X.env.cells.lookup x=some c→∃ v,s.heap.IsCell c v
 free:H X.env.locals=none
 freeC:∀ x c,X.env.cells.lookup x=some c→H c=none
 pin:∀ p∈X.pn++pins,s.heap.get? p.1=some p.2∧H p.1=none∧p.1≠X.env.locals∧p.1∉X.fs∧∀ v,p.2.data ≠ .cell v
 hok:HOk X.prog X.w H s.heap
 len:σ.length=X.N.length
section
variable {X:Cx} {pins:List (Addr × Obj)} {σ:List (Option V)} {H H':Hp} {s:Shared} {h':Heap}
theorem Cx.Ok.nofr (ok:X.Ok){b:Addr}{o:Obj}(e:X.base.get? b=some o):b∉X.fs:=fun hb=>by
 have:=(ok.funs.mem hb).1
 rw [e] at this;cases this
theorem Inv.bs (I:Inv X pins σ H s):∀ b o,X.base.get? b=some o→s.heap.get? b=some o∧H b=none:=fun b o e =>
 ⟨I.base.keep b o (I.ok.bs b o e).1 (I.ok.bs b o e).2 (I.ok.nofr e) (I.ok.noex b o e),I.base.free b o (I.ok.bs b o e).1 (I.ok.bs b o e).2 (I.ok.noex b o e)⟩
theorem Inv.bk (I:Inv X pins σ H s):∀ b o,X.base.get? b=some o→s.heap.get? b=some o:=fun b o e=>(I.bs b o e).1
theorem Inv.mod (I:Inv X pins σ H s):Mod X.K X.mg X.base:=I.ok.mod
theorem Inv.kIn (I:Inv X pins σ H s):X.K.In s.heap:=I.ok.mod.kin.keeps I.bk
theorem Inv.fr (I:Inv X pins σ H s):∃ m,Fr X.base X.env.locals s.heap m :=
 let ⟨m,hn,_⟩:=I.loc
 ⟨m,hn,I.bk,Nat.le_trans I.ok.bsz I.ok.above⟩
theorem Inv.lt (I:Inv X pins σ H s):X.env.locals < s.heap.objs.size:=let ⟨_,hn,_⟩:=I.loc; hn.lt
theorem Inv.sz (I:Inv X pins σ H s):X.s₀.heap.objs.size≤s.heap.objs.size:=Nat.le_trans I.ok.above (Nat.le_of_lt I.lt)
theorem Inv.nofs (I:Inv X pins σ H s){a:Addr}(h:s.heap.objs.size≤a):a∉X.fs:=fun hb=>by
 obtain ⟨_,o,ho,_⟩:=I.ok.funs.mem hb
 exact absurd (Nat.lt_of_lt_of_le (Heap.lt_size ho) (Nat.le_trans I.sz h)) (Nat.lt_irrefl _)
theorem Inv.cne (I:Inv X pins σ H s):∀ x c,X.env.cells.lookup x=some c→c≠X.env.locals:=fun x c e z=>by
 obtain ⟨v,o,ho,hd⟩:=I.cell x c e
 obtain ⟨m,⟨o',es,ep,ho',hd',_⟩,_⟩:=I.loc
 rw [z,ho'] at ho;cases ho;rw [hd'] at hd;cases hd
theorem Inv.funs (I:Inv X pins σ H s):s.heap.FunFrames X.base X.outer:=by
 have all:∀ (l:List Env),(∀ b∈frs l,b∈X.fs)→X.s₀.heap.FunFrames X.base l→s.heap.FunFrames X.base l:=by
  intro l
  induction l with
  | nil=>intro _ _;trivial
  | cons env r ih =>
   intro hs hl
   obtain ⟨hk,⟨L,o,hf,hn,ho,hd⟩,hr⟩:=hl
   have hL:L∈X.fs:=hs L (by unfold frs;rw [List.filterMap_cons,hf];exact List.mem_cons_self)
   obtain ⟨sl,e⟩:=I.base.slot L o ho (I.ok.frf L hL) hL fun z=>I.ok.exfs L z hL
   exact ⟨hk,⟨L,_,hf,hn,e,hd⟩,ih (fun b hb=>hs b (by unfold frs;rw [List.filterMap_cons,hf];exact List.mem_cons_of_mem _ hb)) hr⟩
 exact all X.outer (fun _ hb=>hb) I.ok.funs
theorem Inv.stack (I:Inv X pins σ H s):s.heap.FunFrames X.base X.stack:=by
 rcases I.ok.stk with e | ⟨e,hf⟩
 ·rw [e];exact I.funs
 ·rw [e]
  obtain ⟨m,hn,_⟩:=I.loc
  refine .cons (by rw [I.ok.kind];decide) hf hn ?_ I.funs
  exact Heap.get?_none_of_le (Nat.le_trans I.ok.bsz I.ok.above)
theorem Inv.stkSub (I:Inv X pins σ H s):∀ b∈frs X.stack,b∈X.env.locals::X.fs:=fun b hb=>by
 rcases I.ok.stk with e | ⟨e,hf⟩
 ·rw [e] at hb;exact List.mem_cons_of_mem _ hb
 ·rw [e] at hb
  unfold frs at hb
  rw [List.filterMap_cons,hf] at hb
  exact hb
theorem Inv.stkFree (I:Inv X pins σ H s):∀ b∈frs X.stack,H b=none:=fun b hb=>by
 rcases List.mem_cons.mp (I.stkSub b hb) with e | hb
 ·rw [e];exact I.free
 ·obtain ⟨_,o,ho,_⟩:=I.ok.funs.mem hb
  exact I.base.free b o ho (I.ok.frf b hb) fun z=>I.ok.exfs b z hb
theorem Inv.step {g':Array GenState}{t':Nat}{d':Drawn}{ch:List Addr}(I:Inv X pins σ H s)
  (hch:∀ b∈ch,(b∈X.ex ∨ X.s₀.heap.objs.size≤b)∧b≠X.env.locals∧(∀ x c,X.env.cells.lookup x=some c→c≠b)∧∀ p∈X.pn++pins,p.1≠b)
  (keep:∀ b o,b≠X.env.locals→b∉X.fs→b∉ch→s.heap.get? b=some o→H b=none→h'.get? b=some o)
  (slot:∀ b o,b≠X.env.locals→b∈X.fs→b∉ch→s.heap.get? b=some o→H b=none→∃ sl,h'.get? b=some { o with slots:=sl }) (free:∀ b o,b∉ch→s.heap.get? b=some o→H b=none→H' b=none)
  (there:∀ b o,b∉ch→s.heap.get? b=some o→∃ o',h'.get? b=some o')
  (tups:∀ b xs,H b=some (.tup xs)→H' b=some (.tup xs)) (frzs:∀ b o u,H b=some (.frz o u)→H' b=some (.frz o u)) (tbls:∀ b ps,H b=some (.tbl ps)→∃ more,H' b=some (.tbl (ps++more)))
  (ns:∀ m,s.heap.Ns X.env.locals m→h'.Ns X.env.locals m) (hok:HOk X.prog X.w H' h') (hg:AllBare g') :
  Inv X pins σ H' { s with heap:=h',gens:=g',drawn:=d',toks:=t' }:=by
 have neL:∀ b o,X.s₀.heap.get? b=some o→b≠X.env.locals:=fun b o e=>Nat.ne_of_lt (Nat.lt_of_lt_of_le (Heap.lt_size e) I.ok.above)
 have neC:∀ b o,X.s₀.heap.get? b=some o→b∉X.ex→b∉ch:=fun b o e hx hb=>by
  rcases (hch b hb).1 with z | z
  ·exact hx z
  ·exact absurd (Nat.lt_of_lt_of_le (Heap.lt_size e) z) (Nat.lt_irrefl _)
 have cellK:∀ x c,X.env.cells.lookup x=some c→∀ v,s.heap.IsCell c v→h'.IsCell c v:=fun x c e v ⟨o,ho,hd⟩=>by
  have nch:c∉ch:=fun z=>(hch c z).2.2.1 x c e rfl
  by_cases hc:c∈X.fs
  ·obtain ⟨sl,q⟩:=slot c o (I.cne x c e) hc nch ho (I.freeC x c e)
   exact ⟨_,q,hd⟩
  ·exact ⟨o,keep c o (I.cne x c e) hc nch ho (I.freeC x c e),hd⟩
 refine ⟨I.ok,I.os,hg,⟨fun b o e n hb hx=>?_,fun b o e n hb hx=>?_,fun b o e n hx=>?_,fun b o e hx=>?_,fun b xs e=>tups b xs (I.base.tups b xs e),fun b o xs e=>frzs b o xs (I.base.frzs b o xs e),fun b ps e=>?_⟩,?_,fun x c e=>?_,?_,fun x c e=>?_,fun p hp=>?_,hok,I.len⟩
 ·exact keep b o (neL b o e) hb (neC b o e hx) (I.base.keep b o e n hb hx) (I.base.free b o e n hx)
 ·obtain ⟨sl,e1⟩:=I.base.slot b o e n hb hx
  obtain ⟨sl',e2⟩:=slot b _ (neL b o e) hb (neC b o e hx) e1 (I.base.free b o e n hx)
  exact ⟨sl',e2⟩
 ·obtain ⟨o',e1⟩:=I.base.there b o e hx
  exact free b o' (neC b o e hx) e1 (I.base.free b o e n hx)
 ·obtain ⟨o',e1⟩:=I.base.there b o e hx
  exact there b o' (neC b o e hx) e1
 ·obtain ⟨m1,e1⟩:=I.base.tbls b ps e
  obtain ⟨m2,e2⟩:=tbls b _ e1
  exact ⟨m1++m2,by rw [e2,Array.append_assoc]⟩
 ·obtain ⟨m,hn,hl⟩:=I.loc
  refine ⟨m,ns m hn,fun i x v e1 e2 e3=>?_⟩
  obtain ⟨u,r,l⟩:=hl i x v e1 e2 e3
  refine ⟨u,r,?_⟩
  rcases l with l | ⟨k,c,e,z⟩
  ·exact .inl l
  ·exact .inr ⟨k,c,e,cellK x c e _ z⟩
 ·obtain ⟨v,z⟩:=I.cell x c e
  exact ⟨v,cellK x c e v z⟩
 ·obtain ⟨m,⟨o,_,_,ho,_⟩,_⟩:=I.loc
  exact free _ o (fun z=>(hch _ z).2.1 rfl) ho I.free
 ·obtain ⟨v,o,ho,hd⟩:=I.cell x c e
  exact free c o (fun z=>(hch c z).2.2.1 x c e rfl) ho (I.freeC x c e)
 ·obtain ⟨e,n,ne,nf,d⟩:=I.pin p hp
  have nch:p.1∉ch:=fun z=>(hch p.1 z).2.2.2 p hp rfl
  exact ⟨keep p.1 p.2 ne nf nch e n,free p.1 p.2 nch e n,ne,nf,d⟩
theorem Inv.un {t':Nat}(I:Inv X pins σ H s)(u:Un X.fs [] H H' s.heap h')(hok:HOk X.prog X.w H' h'):Inv X pins σ H' { s with heap:=h',toks:=t' }:=by
 obtain ⟨m,⟨o,es,ep,ho,r⟩,_⟩:=id I.loc
 obtain ⟨sl,hL⟩:=u.any ho I.free (by simp)
 exact I.step (g':=s.gens) (d':=s.drawn) (ch:=[]) (fun _ z=>nomatch z) (fun b o _ hb _ e n=>u.keep b o e n hb (by simp)) (fun b o _ hb _ e n=>u.slot b o e n hb (by simp)) (fun b o _ e n=>u.free b o e n (by simp)) (fun b o _ e=>u.there b o e (by simp)) u.tups u.frzs u.tbls (fun m' hm=>by
  obtain ⟨o',es',ep',ho',r'⟩:=hm
  rw [ho] at ho';cases ho'
  exact ⟨_,es',ep',hL,r'⟩) hok I.bare
theorem Inv.call {g':Array GenState}{t':Nat}{d':Drawn}{ch:List Addr}(I:Inv X pins σ H s)(u:Un (frs X.stack) ch H H' s.heap h')(hok:HOk X.prog X.w H' h')(hg:AllBare g')
  (hch:∀ b∈ch,(b∈X.ex ∨ X.s₀.heap.objs.size≤b)∧b≠X.env.locals∧(∀ x c,X.env.cells.lookup x=some c→c≠b)∧∀ p∈X.pn++pins,p.1≠b) :
  Inv X pins σ H' { s with heap:=h',gens:=g',drawn:=d',toks:=t' }:=by
 obtain ⟨m,⟨o,es,ep,ho,r⟩,_⟩:=id I.loc
 obtain ⟨sl,hL⟩:=u.any ho I.free fun z=>(hch _ z).2.1 rfl
 exact I.step (ch:=ch) hch (fun b o hL hb hc e n=>u.keep b o e n (fun z=>(List.mem_cons.mp (I.stkSub b z)).elim hL hb) hc) (fun b o _ _ hc e n=>u.any e n hc) (fun b o hc e n=>u.free b o e n hc) (fun b o hc e=>u.there b o e hc) u.tups u.frzs u.tbls (fun m' hm=>by
  obtain ⟨o',es',ep',ho',r'⟩:=hm
  rw [ho] at ho';cases ho'
  exact ⟨_,es',ep',hL,r'⟩) hok hg
theorem Inv.turned {t':Nat}{it:Addr}(I:Inv X pins σ H s)(k:∀ b o,b≠it→s.heap.get? b=some o→h'.get? b=some o)(hn:H it=none)(hL:it≠X.env.locals)
  (h1:it∈X.ex ∨ X.s₀.heap.objs.size≤it) (h2:∀ x c,X.env.cells.lookup x=some c→c≠it) (h3:∀ p∈X.pn++pins,p.1≠it):Inv X pins σ H { s with heap:=h',toks:=t' }:=by
 have nit:∀ b u,H b=some u→b≠it:=fun b u e z=>by rw [z,hn] at e;cases e
 refine I.step (g':=s.gens) (d':=s.drawn) (ch:=[it]) (fun b hb=>?_) (fun b o _ _ hc e _=>k b o (fun z=>hc (by simp [z])) e) (fun b o _ _ hc e _=>⟨o.slots,k b o (fun z=>hc (by simp [z])) e⟩) (fun _ _ _ _ n=>n)
  (fun b o hc e=>⟨o,k b o (fun z=>hc (by simp [z])) e⟩) (fun _ _ e=>e) (fun _ _ _ e=>e) (fun b ps e=>⟨#[],by rw [e];simp⟩) (fun m hm=>?_) (fun b u e=>?_) I.bare
 ·have e:b=it:=by simpa using hb
  subst e
  exact ⟨h1,hL,h2,h3⟩
 ·obtain ⟨o,es,ep,ho,r⟩:=hm
  exact ⟨o,es,ep,k _ o (Ne.symm hL) ho,r⟩
 ·refine (I.hok b u e).stay (fun c v hc q=>k c v ?_ q) (fun _ q=>q) fun _ _ q=>q
  rcases hc with z | z
  ·rw [z];exact nit b u e
  ·exact nit c _ z
theorem Inv.tok (I:Inv X pins σ H s)(t:Nat):Inv X pins σ H { s with toks:=t }:=I.un (h':=s.heap) (t':=t) Un.refl I.hok
theorem Inv.kept {t':Nat}(I:Inv X pins σ H s)(k:∀ b u,s.heap.get? b=some u→h'.get? b=some u):Inv X pins σ H { s with heap:=h',toks:=t' }:=I.un (Un.kept k) (I.hok.kept k)
theorem Inv.laid {a:Addr}{o:HO}{t':Nat}(I:Inv X pins σ H s)(k:∀ b u,s.heap.get? b=some u→h'.get? b=some u)(hp:s.heap.objs.size≤a)(new:a_ X.prog X.w (upd H a o) h' a o) :
  Inv X pins σ (upd H a o) { s with heap:=h',toks:=t' }:=I.un (Un.laid k hp (I.hok.fresh hp)) (I.hok.laid k hp new)
theorem Inv.write {x e:Addr}{o:HO}{t':Nat}(I:Inv X pins σ H s)(mu:Mut (H x))(he:e=x ∨ H e=some (.own x))(k:∀ b u,b≠e→s.heap.get? b=some u→h'.get? b=some u)(heo:∃ u,h'.get? e=some u)
  (new:a_ X.prog X.w (upd H x o) h' x o):Inv X pins σ (upd H x o) { s with heap:=h',toks:=t' }:=I.un (Un.write mu he k heo) (I.hok.write mu he k heo new)
theorem Inv.pins_of {pins':List (Addr × Obj)}(I:Inv X pins σ H s)(h:∀ p∈pins',s.heap.get? p.1=some p.2∧H p.1=none∧p.1≠X.env.locals∧p.1∉X.fs∧∀ v,p.2.data ≠ .cell v):Inv X pins' σ H s :=
 ⟨I.ok,I.os,I.bare,I.base,I.loc,I.cell,I.free,I.freeC,fun p hp=>(List.mem_append.mp hp).elim (fun z=>I.pin p (List.mem_append_left _ z)) (h p),I.hok,I.len⟩
theorem jw {N:List Str}(hN:N.Nodup){i j:Nat}{x:Str}(a:N[i]? = some x)(b:N[j]? = some x):i=j:=by
 obtain ⟨h1,e1⟩:=List.getElem?_eq_some_iff.mp a
 obtain ⟨h2,e2⟩:=List.getElem?_eq_some_iff.mp b
 exact (List.getElem_inj hN).mp (e1.trans e2.symm)
theorem lx {M:Model}{A:Around}{E:Value→Shared→Prop}{i:Nat}{x:Str}{v:V}{u:Value}{Q:Unit→Shared→Prop}(I:Inv X pins σ H s)(hN:X.N.Nodup)(hi:X.N[i]? = some x)(hx:Loc X.env.scope x)(r:bc v u)
  (h:∀ s',Inv X pins (σ.set i (some v)) H s'→(∃ a,Heap.SameBut a s.heap s'.heap∧(a=X.env.locals ∨ X.env.cells.lookup x=some a))→Q () s') (hf:X.fn x=true ∨ X.env.scope.names.lookup x=some .local:=by first | exact .inl rfl | exact .inr rfl | assumption):wpAny M A (storeName X.env x u) Q E s:=by
 obtain ⟨m,hn,hl⟩:=id I.loc
 have hcls:(X.env.scope.kind == .class || (X.env.scope.kind == .module && X.env.locals != X.env.globals))=false:=by rw [I.ok.kind];rfl
 have hiσ:i < σ.length:=by rw [I.len];exact (List.getElem?_eq_some_iff.mp hi).1
 have cne:=I.cne
 have tracked:∀ {a:Addr} {h':Heap},(∃ o,s.heap.get? a=some o∧H a=none)→Heap.SameBut a s.heap h'→HOk X.prog X.w H h':=fun {a h'} ha hs b ob e=>by
  obtain ⟨_,_,hfree⟩:=ha
  refine (I.hok b ob e).stay (fun c w' hc q=>(hs.2 c ?_).trans q) (fun _ q=>q) fun _ _ q=>q
  rintro rfl
  rcases hc with rfl | hc
  ·rw [hfree] at e;cases e
  ·rw [hfree] at hc;cases hc
 rcases hx with hk | hk
 ·refine wpAny_storeName_local hk hn (fun h' hn' hs=>?_) hcls
  obtain ⟨oL,_,_,hoL,_⟩:=id hn
  refine h _ ⟨I.ok,I.os,I.bare,⟨fun b o e n hb hx=>?_,fun b o e n hb hx=>?_,I.base.free,fun b o e hx=>?_,I.base.tups,I.base.frzs,I.base.tbls⟩,⟨_,hn',fun j y v' e1 e2 e3=>?_⟩,fun y c e=>?_,I.free,I.freeC,fun p hp=>?_,tracked ⟨oL,hoL,I.free⟩ hs,by simpa using I.len⟩ ⟨_,hs,.inl rfl⟩
  ·exact (hs.2 b (Nat.ne_of_lt (Nat.lt_of_lt_of_le (Heap.lt_size e) I.ok.above))).trans (I.base.keep b o e n hb hx)
  ·obtain ⟨sl,e1⟩:=I.base.slot b o e n hb hx
   exact ⟨sl,(hs.2 b (Nat.ne_of_lt (Nat.lt_of_lt_of_le (Heap.lt_size e) I.ok.above))).trans e1⟩
  ·obtain ⟨o',e1⟩:=I.base.there b o e hx
   exact ⟨o',(hs.2 b (Nat.ne_of_lt (Nat.lt_of_lt_of_le (Heap.lt_size e) I.ok.above))).trans e1⟩
  ·by_cases hj:j=i
   ·subst hj
    rw [hi] at e1;cases e1
    rw [List.getElem?_set_self hiσ] at e2
    cases e2
    exact ⟨u,r,.inl ⟨hk,by simp⟩⟩
   ·rw [List.getElem?_set_ne (Ne.symm hj)] at e2
    obtain ⟨u',r',q⟩:=hl j y v' e1 e2 e3
    refine ⟨u',r',?_⟩
    rcases q with ⟨k,e⟩ | ⟨k,c,e,z⟩
    ·refine .inl ⟨k,?_⟩
     have:y≠x:=fun e=>hj (jw hN e1 (e ▸ hi))
     simp [this,e]
    ·exact .inr ⟨k,c,e,z.sameBut hs (cne y c e)⟩
  ·obtain ⟨w',z⟩:=I.cell y c e
   exact ⟨w',z.sameBut hs (cne y c e)⟩
  ·obtain ⟨e,n,ne,nf,d⟩:=I.pin p hp
   exact ⟨(hs.2 p.1 ne).trans e,n,ne,nf,d⟩
 ·have hfn:X.fn x=true:=by
   rcases hf with z | z
   ·exact z
   ·rw [z] at hk;cases hk
  obtain ⟨c,hc⟩:=I.ok.has x (.inl hk)
  obtain ⟨w',z⟩:=I.cell x c hc
  refine wpAny_storeName_cell I.ok.kind hk hc z (fun h' hc' hs=>?_)
  obtain ⟨oc,hoc,hocd⟩:=id z
  refine h { s with heap:=h' } ⟨I.ok,I.os,I.bare,⟨fun b o e n hb hx=>?_,fun b o e n hb hx=>?_,I.base.free,fun b o e hx=>?_,I.base.tups,I.base.frzs,I.base.tbls⟩,⟨m,hn.sameBut hs (Ne.symm (cne x c hc)),fun j y v' e1 e2 e3=>?_⟩,fun y c' e=>?_,I.free,I.freeC,fun p hp=>?_,tracked ⟨oc,hoc,I.freeC x c hc⟩ hs,by simpa using I.len⟩ ⟨c,hs,.inr hc⟩
  ·exact (hs.2 b (Nat.ne_of_lt (Nat.lt_of_lt_of_le (Heap.lt_size e) (I.ok.cab x c hfn hc)))).trans (I.base.keep b o e n hb hx)
  ·obtain ⟨sl,e1⟩:=I.base.slot b o e n hb hx
   exact ⟨sl,(hs.2 b (Nat.ne_of_lt (Nat.lt_of_lt_of_le (Heap.lt_size e) (I.ok.cab x c hfn hc)))).trans e1⟩
  ·obtain ⟨o',e1⟩:=I.base.there b o e hx
   exact ⟨o',(hs.2 b (Nat.ne_of_lt (Nat.lt_of_lt_of_le (Heap.lt_size e) (I.ok.cab x c hfn hc)))).trans e1⟩
  ·by_cases hj:j=i
   ·subst hj
    rw [hi] at e1;cases e1
    rw [List.getElem?_set_self hiσ] at e2
    cases e2
    exact ⟨u,r,.inr ⟨.inl hk,c,hc,hc'⟩⟩
   ·rw [List.getElem?_set_ne (Ne.symm hj)] at e2
    obtain ⟨u',r',q⟩:=hl j y v' e1 e2 e3
    refine ⟨u',r',?_⟩
    rcases q with q | ⟨k,c',e,z'⟩
    ·exact .inl q
    ·refine .inr ⟨k,c',e,z'.sameBut hs ?_⟩
     rintro rfl
     exact hj (jw hN e1 (I.ok.inj _ _ _ e hc ▸ hi))
  ·by_cases hcc:c'=c
   ·subst hcc;exact ⟨_,hc'⟩
   ·obtain ⟨w2,z2⟩:=I.cell y c' e
    exact ⟨w2,z2.sameBut hs hcc⟩
  ·obtain ⟨e,n,ne,nf,d⟩:=I.pin p hp
   refine ⟨(hs.2 p.1 ?_).trans e,n,ne,nf,d⟩
   intro q
   rw [q,hoc] at e
   have q':oc=p.2:=Option.some.inj e
   exact d w' (by rw [← q'];exact hocd)
theorem jx {M:Model}{A:Around}{E:Value→Shared→Prop}{i:Nat}{x:Str}{v:V}{u:Value}{Q:Unit→Shared→Prop}(I:Inv X pins σ H s)(hN:X.N.Nodup)(hi:X.N[i]? = some x)(hx:Loc X.env.scope x)(r:bc v u)
  (h:∀ s',Inv X pins (σ.set i (some v)) H s'→Q () s') (hf:X.fn x=true ∨ X.env.scope.names.lookup x=some .local:=by first | exact .inl rfl | exact .inr rfl | assumption):wpAny M A (storeName X.env x u) Q E s :=
 lx I hN hi hx r (fun s' I' _=>h s' I') hf
theorem Inv.call' {s':Shared}{ch:List Addr}(I:Inv X pins σ H s)(ho:s'.os=s.os)(u:Un (frs X.stack) ch H H' s.heap s'.heap)(hok:HOk X.prog X.w H' s'.heap)(hg:AllBare s'.gens)
  (hch:∀ b∈ch,(b∈X.ex ∨ X.s₀.heap.objs.size≤b)∧b≠X.env.locals∧(∀ x c,X.env.cells.lookup x=some c→c≠b)∧∀ p∈X.pn++pins,p.1≠b):Inv X pins σ H' s':=by
 obtain ⟨h',g',d',t',o'⟩:=s'
 have e:o'=s.os:=ho
 subst e
 exact I.call (g':=g') (t':=t') (d':=d') u hok hg hch
end
abbrev XK:=Value→Option Addr→Hp→Prop
abbrev St:=List (Option V)
abbrev VK:=V→Hp→Prop
abbrev TE:=St→Hp→VK→Prop
abbrev TT:=St→Hp→(Bool→Hp→Prop)→Prop
abbrev TA:=St→Hp→(List V→Hp→Prop)→Prop
structure gv where
 nx:St→Hp→Prop
 rt:VK
 bk:St→Hp→Prop:=fun _ _=>False
 ct:St→Hp→Prop:=fun _ _=>False
abbrev TS:=gv→St→Hp→Prop
def EP (X:Cx)(pins:List (Addr × Obj))(σ:St)(Q:VK)(u:Value)(s':Shared):Prop:=∃ v H',Inv X pins σ H' s'∧bc v u∧Q v H'
def TP (X:Cx)(pins:List (Addr × Obj))(σ:St)(Q:Bool→Hp→Prop)(b:Bool)(s':Shared):Prop:=∃ H',Inv X pins σ H' s'∧Q b H'
def AP (X:Cx)(pins:List (Addr × Obj))(σ:St)(Q:List V→Hp→Prop)(us:List Value)(s':Shared):Prop:=∃ vs H',Inv X pins σ H' s'∧aY vs us∧Q vs H'
def SP (X:Cx)(pins:List (Addr × Obj))(D:gv)(f:Flow)(s':Shared):Prop :=
 match f with
 | .next=>∃ σ' H',Inv X pins σ' H' s'∧D.nx σ' H'
 | .brk=>∃ σ' H',Inv X pins σ' H' s'∧D.bk σ' H'
 | .cont=>∃ σ' H',Inv X pins σ' H' s'∧D.ct σ' H'
 | .ret u=>∃ v σ' H',Inv X pins σ' H' s'∧bc v u∧D.rt v H'
def PE (X:Cx)(e:Expr)(t:TE):Prop :=
 ∀ (pins:List (Addr × Obj)) (s:Shared) (σ:St) (H:Hp) (Q:VK),Inv X pins σ H s→t σ H Q→wpAny (model X.prog X.w) X.A (eval e X.env) (EP X pins σ Q) X.xe s
def PT (X:Cx)(e:Expr)(t:TT):Prop :=
 ∀ (pins:List (Addr × Obj)) (s:Shared) (σ:St) (H:Hp) (Q:Bool→Hp→Prop),Inv X pins σ H s→t σ H Q→wpAny (model X.prog X.w) X.A (isTrue e X.env (eval e X.env)) (TP X pins σ Q) X.xe s
def PW (X:Cx)(e:Expr)(t:TT):Prop :=
 ∀ (whole:Sem Value) (pins:List (Addr × Obj)) (s:Shared) (σ:St) (H:Hp) (Q:Bool→Hp→Prop),Inv X pins σ H s→t σ H Q→wpAny (model X.prog X.w) X.A (isTrue e X.env whole) (TP X pins σ Q) X.xe s
theorem PW.pt {X:Cx}{e:Expr}{t:TT}(h:PW X e t):PT X e t:=h _
def PA (X:Cx)(es:List Expr)(t:TA):Prop :=
 ∀ (pos:Pos) (pins:List (Addr × Obj)) (s:Shared) (σ:St) (H:Hp) (Q:List V→Hp→Prop),Inv X pins σ H s→t σ H Q→wpAny (model X.prog X.w) X.A (spliced (backTo pos (starEach es X.env))) (AP X pins σ Q) X.xe s
def PS (X:Cx)(st:Stmt)(t:TS):Prop :=
 ∀ (pins:List (Addr × Obj)) (s:Shared) (σ:St) (H:Hp) (D:gv),Inv X pins σ H s→t D σ H→wpAny (model X.prog X.w) X.A (exec st X.env) (SP X pins D) X.xe s
def PSs (X:Cx)(st:List Stmt)(t:TS):Prop :=
 ∀ (pins:List (Addr × Obj)) (s:Shared) (σ:St) (H:Hp) (D:gv),Inv X pins σ H s→t D σ H→wpAny (model X.prog X.w) X.A (execs st X.env) (SP X pins D) X.xe s
theorem thn {α:Type}{t:Sem α}{Q Q':α→Shared→Prop}{M:Model}{A:Around}{E:Value→Shared→Prop}{s:Shared}(h:wpAny M A t Q E s)(hQ:∀ a s,Q a s→Q' a s):wpAny M A t Q' E s:=wpAny_mono h hQ fun _ _ x=>x
section
variable {X:Cx}
inductive wq (i:Nat)(σ:St)(H:Hp)(Q:VK):Prop
 | mk:∀ v,(σ[i]? = some (some v))→(Q v H)→wq i σ H Q
def tC (v:V):TE:=fun _ H Q=>Q v H
theorem ux {i:Nat}{x:Str}{pos:Pos}(hN:X.N[i]? = some x)(hv:Vis X.env.scope x)(hd:(x == ("__debug__":Str))=false:=by decide)(hcd:(x == ("__classdict__":Str))=false:=by decide):PE X (.Name x pos) (wq i):=by
 intro pins s σ H Q I h
 obtain ⟨v,e,h⟩:=h
 obtain ⟨m,hn,hl⟩:=I.loc
 obtain ⟨u,r,l⟩:=hl i x v hN e hv
 have fin:EP X pins σ Q u s:=⟨v,H,I,r,h⟩
 rcases l with ⟨hk,hm⟩ | ⟨hk,c,hc,hcell⟩
 ·exact wpAny_Name (wpAny_loadName_local I.ok.kind hk hn hm fin) hd
 ·rcases hk with hk | hk
  ·exact wpAny_Name (wpAny_loadName_cell I.ok.kind hk hc hcell fin) hd
  ·exact wpAny_Name (wpAny_loadName_free I.ok.kind hk hc hcell fin hcd) hd
theorem ak {i j pos}:PE X (.Constant (.int i) j pos) (tC (.int i)):=fun _ _ _ H _ I h=>wpAny_Constant_int ⟨.int i,H,I.tok _,⟨_,rfl⟩,h⟩
theorem cw {b j pos}:PE X (.Constant (.bool b) j pos) (tC (.bl b)):=fun _ _ _ H _ I h=>Constant_bool ⟨.bl b,H,I,rfl,h⟩
theorem qG {j pos}:PE X (.Constant .none j pos) (tC .non):=fun _ _ _ H _ I h=>Constant_none ⟨.non,H,I,rfl,h⟩
theorem aD {x j pos}:PE X (.Constant (.str x) j pos) (tC (.str x)):=fun _ _ _ H _ I h=>Calls.Constant_str ⟨.str x,H,I.tok _,⟨_,rfl⟩,h⟩
def Gl (X:Cx)(x:Str):Prop:=X.env.kindOf x=some .globalImplicit
theorem dX {E:Value→Shared→Prop}{pins:List (Addr × Obj)}{s:Shared}{σ:St}{H:Hp}{x:Str}{u:Value}{pos:Pos}{Q:Value→Shared→Prop}(I:Inv X pins σ H s)(hg:Gl X x)(hm:X.mg x=some u)(h:Q u s)
  (hd:(x == ("__debug__":Str))=false:=by decide):wpAny (model X.prog X.w) X.A (eval (.Name x pos) X.env) Q E s :=
 Calls.Name_function_global I.ok.kind hg (Calls.loadGlobal_global (by rw [I.ok.glob];exact I.mod.glob.keeps I.bk) hm h) hd
theorem cy {E:Value→Shared→Prop}{pins:List (Addr × Obj)}{s:Shared}{σ:St}{H:Hp}{x:Str}{u:Value}{pos:Pos}{Q:Value→Shared→Prop}(I:Inv X pins σ H s)(hg:Gl X x)(hm:X.mg x=none)(hv:bootBuiltins x=some u)(h:Q u s)
  (hn:x ≠ "__name__":=by decide) (hd:(x == ("__debug__":Str))=false:=by decide):wpAny (model X.prog X.w) X.A (eval (.Name x pos) X.env) Q E s:=by
 obtain ⟨mb,h1,h2⟩:=I.mod.blt
 exact Calls.Name_function_global I.ok.kind hg (Calls.loadGlobal_builtin (by rw [I.ok.glob];exact I.mod.glob.keeps I.bk) hm (by rw [I.ok.blt];exact h1.keeps I.bk) ((h2 x hn).trans hv) h) hd
theorem iR {x:Str}{v:V}{u:Value}{pos:Pos}(hg:Gl X x)(hm:X.mg x=some u)(r:bc v u)(hd:(x == ("__debug__":Str))=false:=by decide):PE X (.Name x pos) (tC v) :=
 fun _ _ _ H _ I h=>dX I hg hm ⟨v,H,I,r,h⟩ hd
theorem bK {x:Str}{v:V}{u:Value}{pos:Pos}(hg:Gl X x)(hm:X.mg x=none)(hv:bootBuiltins x=some u)(r:bc v u)(hn:x ≠ "__name__":=by decide)(hd:(x == ("__debug__":Str))=false:=by decide):PE X (.Name x pos) (tC v) :=
 fun _ _ _ H _ I h=>cy I hg hm hv ⟨v,H,I,r,h⟩ hn hd
variable {a b:Expr} {ta tb:TE} {pos:Pos}
def PC (X:Cx)(op:CmpOp)(a b:Expr)(t:TE):Prop :=
 ∀ (pins:List (Addr × Obj)) (s:Shared) (σ:St) (H:Hp) (Q:VK),Inv X pins σ H s→t σ H Q →
  wpAny (model X.prog X.w) X.A (eval a X.env) (fun v s₁=>wpAny (model X.prog X.w) X.A (eval b X.env) (fun u s₂=>wpAny (model X.prog X.w) X.A (compareOp op v u) (EP X pins σ Q) X.xe s₂) X.xe s₁) X.xe s
theorem oJ (b:Expr){op:CmpOp}(h:op ≠ .In)(h2:op ≠ .NotIn):behindInMarks op b=false:=by
 have e1:(op == CmpOp.In)=false:=by cases op <;> first | rfl | exact absurd rfl h
 have e2:(op == CmpOp.NotIn)=false:=by cases op <;> first | rfl | exact absurd rfl h2
 cases b <;> simp [behindInMarks,e1,e2]
inductive IsB (x:V)(H:Hp)(Q:Bool→Hp→Prop):Prop
 | mk:∀ c,(x = .bl c)→(Q c H)→IsB x H Q
def wt (Q:(Bool→Hp→Prop)):V→Hp→Prop:=fun x H1=>IsB x H1 Q
def tB (t:TE):TT:=fun σ H Q=>t σ H (wt Q)
theorem qH {op:CmpOp}{t:TE}(h:PC X op a b t)(h1:behindInMarks op b=false:=by first | exact oJ _ (by decide) (by decide) | rfl):PT X (.Compare a [op] [b] pos) (tB t):=by
 intro pins s σ H Q I hw
 refine wpAny_isTrue_Compare1 (thn (h pins s σ H _ I hw) fun v s1 h1=>thn h1 fun u s2 h2=>thn h2 fun c s3 zq5=>?_) h1
 obtain ⟨x,H1,I1,r1,q1⟩:=zq5
 obtain ⟨d,rfl,q⟩:=q1
 cases r1
 exact wpAny_truthy_bool ⟨H1,I1,q⟩
variable {tA tB':TT} {rest:List Expr}
def iS (u:TT)(σ:St)(Q:(Bool→Hp→Prop)):Bool→Hp→Prop:=fun c H1=>if c=true then u σ H1 Q else Q false H1
def ym (t u:TT):TT:=fun σ H Q=>t σ H (iS u σ Q)
def ly (u:TT)(σ:St)(Q:(Bool→Hp→Prop)):Bool→Hp→Prop:=fun c H1=>if c=true then Q true H1 else u σ H1 Q
def tOr (t u:TT):TT:=fun σ H Q=>t σ H (ly u σ Q)
def lA (Q:(Bool→Hp→Prop)):Bool→Hp→Prop:=fun c H1=>Q (!c) H1
def yn (t:TT):TT:=fun σ H Q=>t σ H (lA Q)
theorem rD (ha:PT X a tA):PW X (.BoolOp .And [a] pos) tA:=by
 intro wh pins s σ H Q I h
 refine isTrue_and (thn (ha pins s σ H Q I h) fun c s1 e=>?_)
 cases c with
 | true=>exact isTrue_and_nil e
 | false=>exact e
theorem dY (ha:PT X a tA):PW X (.BoolOp .Or [a] pos) tA:=by
 intro wh pins s σ H Q I h
 refine isTrue_or (thn (ha pins s σ H Q I h) fun c s1 e=>?_)
 cases c with
 | false=>exact isTrue_or_nil e
 | true=>exact e
theorem uy (ha:PT X a tA)(hb:PW X (.BoolOp .And (b::rest) pos) tB'):PW X (.BoolOp .And (a::b::rest) pos) (ym tA tB'):=by
 intro wh pins s σ H Q I h
 refine isTrue_and (thn (ha pins s σ H _ I h) fun c s1 zq7=>?_)
 obtain ⟨H1,I1,q1⟩:=zq7
 cases c with
 | true=>exact hb wh pins s1 σ H1 Q I1 q1
 | false=>exact ⟨H1,I1,q1⟩
theorem gx (ha:PT X a tA)(hb:PW X (.BoolOp .Or (b::rest) pos) tB'):PW X (.BoolOp .Or (a::b::rest) pos) (tOr tA tB'):=by
 intro wh pins s σ H Q I h
 refine isTrue_or (thn (ha pins s σ H _ I h) fun c s1 zq8=>?_)
 obtain ⟨H1,I1,q1⟩:=zq8
 cases c with
 | true=>exact ⟨H1,I1,q1⟩
 | false=>exact hb wh pins s1 σ H1 Q I1 q1
theorem bY (ha:PT X a tA):PT X (.UnaryOp .Not a pos) (yn tA):=by
 intro pins s σ H Q I h
 exact isTrue_not (ha pins s σ H (fun c H1=>Q (!c) H1) I h)
def oK (tb:TE)(σ:St)(Q:VK):Bool→Hp→Prop:=fun c H1=>if c=true then tb σ H1 Q else Q (.bl false) H1
def oM (tb:TE)(σ:St)(Q:VK):V→Hp→Prop:=fun x H1=>IsB x H1 (oK tb σ Q)
def wu (ta tb:TE):TE:=fun σ H Q=>ta σ H (oM tb σ Q)
def oO (Q:VK):Bool→Hp→Prop:=fun c H1=>Q (.bl (!c)) H1
def oP (Q:VK):V→Hp→Prop:=fun x H1=>IsB x H1 (oO Q)
def wx (ta:TE):TE:=fun σ H Q=>ta σ H (oP Q)
theorem gy {op}{t:TE}(h:PE X a t):PE X (.BoolOp op [a] pos) t:=fun pins s σ H Q I hw=>BoolOp_one (h pins s σ H Q I hw)
theorem dw (ha:PE X a ta)(hb:PE X (.BoolOp .And (b::rest) pos) tb):PE X (.BoolOp .And (a::b::rest) pos) (wu ta tb):=by
 intro pins s σ H Q I h
 refine BoolOp_and (thn (ha pins s σ H _ I h) fun v s1 zq9=>?_)
 obtain ⟨x,H1,I1,r1,q1⟩:=zq9
 obtain ⟨c,rfl,q1⟩:=q1
 cases r1
 refine wpAny_truthy_bool ?_
 cases c with
 | true=>exact hb pins s1 σ H1 Q I1 q1
 | false=>exact ⟨.bl false,H1,I1,rfl,q1⟩
theorem uz (ha:PE X a ta):PE X (.UnaryOp .Not a pos) (wx ta):=by
 intro pins s σ H Q I h
 refine UnaryOp_ (thn (ha pins s σ H _ I h) fun v s1 zq11=>?_)
 obtain ⟨x,H1,I1,r1,q1⟩:=zq11
 obtain ⟨c,rfl,q1⟩:=q1
 cases r1
 exact not_of (wpAny_truthy_bool ⟨.bl (!c),H1,I1,rfl,q1⟩)
def uA (ta:TE)(tb:TE)(σ:St)(Q:VK):Bool→Hp→Prop:=fun c H1=>if c=true then ta σ H1 Q else tb σ H1 Q
def tIf (t:TT)(ta tb:TE):TE:=fun σ H Q=>t σ H (uA ta tb σ Q)
theorem cF {c:Expr}(hc:PT X c tA)(ha:PE X a ta)(hb:PE X b tb):PE X (.IfExp c a b pos) (tIf tA ta tb):=by
 intro pins s σ H Q I h
 refine wpAny_IfExp (thn (hc pins s σ H _ I h) fun d s1 zq12=>?_)
 obtain ⟨H1,I1,q1⟩:=zq12
 cases d with
 | true=>exact ha pins s1 σ H1 Q I1 q1
 | false=>exact hb pins s1 σ H1 Q I1 q1
end
def SqL (K:PySem.W.Frag)(H:Hp)(a:Addr)(xs:List V):Prop :=
 Rd H a (.lst xs) ∨
  ∃ (o:Obj) (its:Array Value) (n:Nat),K.lookup a=some o∧o.cls = .type "list"∧o.dict=none∧o.data = .seq its n∧its.size≤sizeLine∧aY xs its.toList
def SqT (K:PySem.W.Frag)(H:Hp)(a:Addr)(xs:List V):Prop :=
 Rd H a (.tup xs) ∨
  ∃ (o:Obj) (its:Array Value) (n:Nat),K.lookup a=some o∧o.cls = .type "tuple"∧o.data = .seq its n∧its.size≤sizeLine∧aY xs its.toList
def yo:Value→Option V
 | .none=>some .non
 | .bool b=>some (.bl b)
 | .int i _=>some (.int i)
 | .str x _=>some (.str x)
 | .bytes b _=>some (.byt b)
 | .float b _=>some (.flt b)
 | .ref a=>some (.ref a)
 | .type n=>some (.ty n)
 | _=>none
theorem bc.abs {x:V}{u:Value}(r:bc x u):yo u=some x:=by
 cases x with
 | non=>cases r;rfl
 | bl _=>cases r;rfl
 | int _=>obtain ⟨t,rfl⟩:=r;rfl
 | str _=>obtain ⟨t,rfl⟩:=r;rfl
 | byt _=>obtain ⟨t,rfl⟩:=r;rfl
 | flt _=>obtain ⟨t,rfl⟩:=r;rfl
 | ref _=>cases r;rfl
 | ty _=>cases r;rfl
theorem bc.inj {x y:V}{u:Value}(r:bc x u)(q:bc y u):x=y:=Option.some.inj (r.abs.symm.trans q.abs)
theorem aY.inj:∀ {xs ys:List V} {us:List Value},aY xs us→aY ys us→xs=ys
 | _,_,_,.nil,.nil=>rfl
 | _,_,_,.cons r t,.cons r' t'=>by rw [r.inj r',aY.inj t t']
section
variable {X:Cx} {pins:List (Addr × Obj)} {σ:St} {H:Hp} {s:Shared} {a:Addr} {xs ys:List V}
theorem SqL.of {K:PySem.W.Frag}(h:H a=some (.lst xs)):SqL K H a xs:=.inl (.inl h)
theorem SqT.of {K:PySem.W.Frag}(h:H a=some (.tup xs)):SqT K H a xs:=.inl (.inl h)
theorem Inv.list (I:Inv X pins σ H s)(h:SqL X.K H a xs):∃ its:List Value,aY xs its∧PlainL s.heap a its.toArray∧xs.length≤sizeLine:=by
 rcases h with h | ⟨o,its,n,hk,hc,hd,hs,hz,r⟩
 ·obtain ⟨z,its,n,r,e⟩:=h.ok I.hok
  exact ⟨its,r,⟨_,n,e,rfl,rfl,rfl⟩,z⟩
 ·refine ⟨its.toList,r,⟨o,n,I.kIn a o hk,hc,hd,by simpa using hs⟩,?_⟩
  have e:=r.length
  simp only [Array.length_toList] at e
  omega
theorem Inv.tuple (I:Inv X pins σ H s)(h:SqT X.K H a xs):∃ its:List Value,aY xs its∧IsTup s.heap a its.toArray∧xs.length≤sizeLine:=by
 rcases h with h | ⟨o,its,n,hk,hc,hs,hz,r⟩
 ·obtain ⟨z,its,r,p,_⟩:=h.ok I.hok
  exact ⟨its,r,p,z⟩
 ·refine ⟨its.toList,r,⟨o,I.kIn a o hk,hc,n,by simpa using hs⟩,?_⟩
  have e:=r.length
  simp only [Array.length_toList] at e
  omega
theorem Inv.list_inj (I:Inv X pins σ H s)(h:SqL X.K H a xs)(h':SqL X.K H a ys):xs=ys:=by
 obtain ⟨its,r,⟨o,n,e,_,_,d⟩,_⟩:=I.list h
 obtain ⟨its',r',⟨o',n',e',_,_,d'⟩,_⟩:=I.list h'
 rw [e] at e';cases e'
 rw [d] at d'
 injection d' with d1 _
 have:its=its':=by simpa using congrArg Array.toList d1
 subst this
 exact r.inj r'
theorem Inv.tuple_inj (I:Inv X pins σ H s)(h:SqT X.K H a xs)(h':SqT X.K H a ys):xs=ys:=by
 obtain ⟨its,r,⟨o,e,_,n,d⟩,_⟩:=I.tuple h
 obtain ⟨its',r',⟨o',e',_,n',d'⟩,_⟩:=I.tuple h'
 rw [e] at e';cases e'
 rw [d] at d'
 injection d' with d1 _
 have:its=its':=by simpa using congrArg Array.toList d1
 subst this
 exact r.inj r'
end
abbrev Cx.wish (X:Cx)(E:Value→Shared→Prop):Cx:={ X with xe:=E }
abbrev Cx.nox (X:Cx):Cx:=X.wish fun _ _=>False
theorem Cx.Ok.wish {X:Cx}(ok:X.Ok)(E:Value→Shared→Prop):(X.wish E).Ok :=
 ⟨ok.mod,ok.kind,ok.glob,ok.blt,ok.above,ok.inj,ok.has,ok.cab,ok.hd,ok.frames,ok.stk,ok.exf,ok.bs,ok.bsz,ok.noex,ok.exfs,ok.funs,ok.frf⟩
theorem Cx.Ok.unwish {X:Cx}{E:Value→Shared→Prop}(ok:(X.wish E).Ok):X.Ok :=
 ⟨ok.mod,ok.kind,ok.glob,ok.blt,ok.above,ok.inj,ok.has,ok.cab,ok.hd,ok.frames,ok.stk,ok.exf,ok.bs,ok.bsz,ok.noex,ok.exfs,ok.funs,ok.frf⟩
section
variable {X:Cx} {pins:List (Addr × Obj)} {σ:St} {H:Hp} {s:Shared} {E:Value→Shared→Prop}
theorem Inv.wish (I:Inv X pins σ H s)(E:Value→Shared→Prop):Inv (X.wish E) pins σ H s:=⟨I.ok.wish E,I.os,I.bare,I.base,I.loc,I.cell,I.free,I.freeC,I.pin,I.hok,I.len⟩
theorem Inv.unwish (I:Inv (X.wish E) pins σ H s):Inv X pins σ H s:=⟨I.ok.unwish,I.os,I.bare,I.base,I.loc,I.cell,I.free,I.freeC,I.pin,I.hok,I.len⟩
theorem SP.unwish {D:gv}{f:Flow}{s':Shared}(h:SP (X.wish E) pins D f s'):SP X pins D f s':=by
 cases f with
 | next=>obtain ⟨σ',H',I,q⟩:=h;exact ⟨σ',H',I.unwish,q⟩
 | brk=>obtain ⟨σ',H',I,q⟩:=h;exact ⟨σ',H',I.unwish,q⟩
 | cont=>obtain ⟨σ',H',I,q⟩:=h;exact ⟨σ',H',I.unwish,q⟩
 | ret u=>obtain ⟨v,σ',H',I,r,q⟩:=h;exact ⟨v,σ',H',I.unwish,r,q⟩
theorem PSs.nox {st:List Stmt}{t:TS}(h:PSs X.nox st t):PSs X st t:=fun pins s σ H D I hw =>
 wpAny_mono (h pins s σ H D (I.wish _) hw) (fun _ _ q=>q.unwish) fun _ _ z=>False.elim z
end
section
variable {X:Cx} {st:Stmt} {rest:List Stmt} {t u:TS} {e:Expr} {te:TE} {pos:Pos}
def wy:TS:=fun D σ H=>D.nx σ H
def xQ (t u:TS):TS:=fun D σ H=>t { D with nx:=u D } σ H
theorem aU:PSs X [] wy:=fun _ _ σ H _ I h=>wpAny_execs_nil ⟨σ,H,I,h⟩
theorem ah (h1:PS X st t)(h2:PSs X rest u):PSs X (st::rest) (xQ t u):=by
 intro pins s σ H D I h
 refine wpAny_execs_cons (thn (h1 pins s σ H { D with nx:=u D } I h) fun f s1 q=>?_)
 cases f with
 | next =>
  obtain ⟨σ',H',I',q⟩:=q
  exact h2 pins s1 σ' H' D I' q
 | ret v=>exact q
 | brk=>exact q
 | cont=>exact q
theorem aj (h1:PS X st t):PSs X [st] t:=by
 intro pins s σ H D I h
 refine wpAny_execs_cons (thn (h1 pins s σ H D I h) fun f s1 q=>?_)
 cases f with
 | next=>exact wpAny_execs_nil q
 | ret v=>exact q
 | brk=>exact q
 | cont=>exact q
theorem Inv.quiet {pins:List (Addr × Obj)}{σ:St}{H:Hp}{s:Shared}(I:Inv X pins σ H s):interactive X.env=false:=by simp [interactive,I.ok.kind]
def oQ (D:gv)(σ:St):V→Hp→Prop:=fun _ H1=>D.nx σ H1
def wz (te:TE):TS:=fun D σ H=>te σ H (oQ D σ)
theorem iT (he:PE X e te)(hs:swapsWith e none pos.line X.env=pure false:=by rfl):PS X (.Expr e pos) (wz te):=by
 intro pins s σ H D I h
 exact wpAny_Expr_any (thn (he pins s σ H _ I h) fun v s1 zq15=>(by obtain ⟨x,H1,I1,r1,q1⟩:=zq15;exact ⟨σ,H1,I1,q1⟩)) I.quiet hs
def yp (te:TE):TS:=fun D σ H=>te σ H D.rt
theorem aI (he:PE X e te):PS X (.Return (some e) pos) (yp te):=by
 intro pins s σ H D I h
 exact wpAny_Return_some (thn (he pins s σ H _ I h) fun v s1 zq16=>(by obtain ⟨x,H1,I1,r1,q1⟩:=zq16;exact ⟨x,σ,H1,I1,r1,q1⟩))
def iU (t:TS)(u:TS)(D:gv)(σ:St):Bool→Hp→Prop:=fun b H1=>if b=true then t D σ H1 else u D σ H1
def yq (c:TT)(t u:TS):TS:=fun D σ H=>c σ H (iU t u D σ)
theorem bA {c:Expr}{a b:List Stmt}{tc:TT}(hc:PT X c tc)(ha:PSs X a t)(hb:PSs X b u):PS X (.If c a b pos) (yq tc t u):=by
 intro pins s σ H D I h
 refine wpAny_If (thn (hc pins s σ H _ I h) fun d s1 zq17=>?_)
 obtain ⟨H1,I1,q1⟩:=zq17
 cases d with
 | true=>exact ha pins s1 σ H1 D I1 q1
 | false=>exact hb pins s1 σ H1 D I1 q1
end
abbrev TG:=V→St→Hp→(St→Hp→Prop)→Prop
abbrev TGs:=List V→St→Hp→(St→Hp→Prop)→Prop
def PG (X:Cx)(target:Expr)(t:TG):Prop :=
 ∀ (pins:List (Addr × Obj)) (s:Shared) (σ:St) (H:Hp) (v:V) (u:Value) (Q:St→Hp→Prop),Inv X pins σ H s→bc v u→t v σ H Q →
  wpAny (model X.prog X.w) X.A (assign target X.env u) (fun _ s'=>∃ σ' H',Inv X pins σ' H' s'∧Q σ' H') X.xe s
def PGs (X:Cx)(ts:List Expr)(t:TGs):Prop :=
 ∀ (pins:List (Addr × Obj)) (s:Shared) (σ:St) (H:Hp) (vs:List V) (us:List Value) (Q:St→Hp→Prop),Inv X pins σ H s→aY vs us→t vs σ H Q →
  wpAny (model X.prog X.w) X.A (assignInOrder ((assignEach ts X.env).map (·.2)) us) (fun _ s'=>∃ σ' H',Inv X pins σ' H' s'∧Q σ' H') X.xe s
abbrev wA:=V→V→V→Hp→(Hp→Prop)→Prop
def xR (X:Cx)(t:wA):Prop :=
 ∀ (pins:List (Addr × Obj)) (s:Shared) (σ:St) (H:Hp) (o i v:V) (ov iv u:Value) (Q:Hp→Prop),Inv X pins σ H s→bc o ov→bc i iv→bc v u→t o i v H Q →
  wpAny (model X.prog X.w) X.A (setItem ov iv u) (fun _ s'=>∃ H',Inv X pins σ H' s'∧Q H') X.xe s
section
variable {X:Cx} {pos:Pos}
def oR (i:Nat):TG:=fun v σ H Q=>Q (σ.set i (some v)) H
theorem aH {i:Nat}{x:Str}(hN:X.N.Nodup)(hi:X.N[i]? = some x)(hx:Loc X.env.scope x)(hf:X.fn x=true ∨ X.env.scope.names.lookup x=some .local:=by first | exact .inl rfl | exact .inr rfl | assumption):PG X (.Name x pos) (oR i):=by
 intro pins s σ H v u Q I r h
 exact wpAny_assign_Name (jx I hN hi hx r (fun s' I'=>⟨_,H,I',h⟩) hf)
def yr:TGs:=fun vs σ H Q=>vs=[]∧Q σ H
def wB (t:TG)(u:TGs):TGs:=fun vs σ H Q=>∃ v r,vs=v::r∧t v σ H fun σ' H'=>u r σ' H' Q
theorem fA:PGs X [] yr:=by
 intro pins s σ H vs us Q I r h
 obtain ⟨e,h⟩:=h
 subst e
 cases r
 exact assignInOrder_nil ⟨σ,H,I,h⟩
theorem bF {e:Expr}{es:List Expr}{t:TG}{u:TGs}(h1:PG X e t)(h2:PGs X es u)
  (hs:(assignEach (e::es) X.env).map (·.2)=assign e X.env::(assignEach es X.env).map (·.2):=by rfl):PGs X (e::es) (wB t u):=by
 intro pins s σ H vs us Q I r h
 obtain ⟨v,vr,e1,h⟩:=h
 subst e1
 cases r with
 | cons r rr =>
  rw [hs]
  refine assignInOrder_cons (thn (h1 pins s σ H _ _ _ I r h) fun _ s1 zq18=>?_)
  obtain ⟨σ1,H1,I1,q1⟩:=zq18
  exact h2 pins s1 σ1 H1 _ _ Q I1 rr q1
def yt (K:PySem.W.Frag)(n:Nat)(t:TGs):TG:=fun v σ H Q=>∃ a xs,v = .ref a∧SqT K H a xs∧xs.length=n∧t xs σ H Q
theorem jy {es:List Expr}{k:Nat}{t:TGs}{n:Nat}(hc:X.calm=true)(h:PGs X es t)
  (hn:(assignEach es X.env).length=n:=by rfl) (hst:(assignEach es X.env).findIdx? (·.1)=none:=by rfl):PG X (.Tuple es k pos) (yt X.K n t):=by
 intro pins s σ H v u Q I r hw
 obtain ⟨a,xs,e1,hq,hl,hw⟩:=hw
 subst e1
 cases r
 obtain ⟨its,rv,ht,hz⟩:=I.tuple hq
 refine assign_Tuple_tuple (I.ok.hd hc) ht (by simp [hn,← hl,rv.length]) hst fun h' hx=>?_
 have I1:Inv X pins σ H { s with heap:=h' }:=I.kept (t':=s.toks) fun b o e=>hx b o (Nat.ne_of_lt (Heap.lt_size e)) e
 exact h pins _ σ H xs _ Q I1 (by simpa using rv) hw
def yu (to ti:TE)(t:wA):TG:=fun v σ H Q=>to σ H fun o H1=>ti σ H1 fun i H2=>t o i v H2 fun H3=>Q σ H3
theorem uB {o i:Expr}{to ti:TE}{t:wA}(ho:PE X o to)(hi:PE X i ti)(hs:xR X t)
  (ha:∀ v,assign (.Subscript o i pos) X.env v=(do
   let ov ← holding [v] (eval o X.env)
   let iv ← holding [v,ov] (eval i X.env)
   standAt pos
   holding [v,ov,iv] (setItem ov iv v)
   release [v,ov,iv] []):=by intro _;rfl):PG X (.Subscript o i pos) (yu to ti t):=by
 intro pins s σ H v u Q I r h
 rw [ha]
 refine wpAny_bind (wpAny_holding (thn (ho pins s σ H _ I h) fun ov s1 zq19=>?_))
 obtain ⟨x,H1,I1,r1,q1⟩:=zq19
 refine wpAny_bind (wpAny_holding (thn (hi pins s1 σ H1 _ I1 q1) fun iv s2 zq20=>?_))
 obtain ⟨y,H2,I2,r2,q2⟩:=zq20
 refine wpAny_bind (wpAny_standAt (wpAny_bind (wpAny_holding (thn (hs pins s2 σ H2 x y v ov iv u _ I2 r1 r2 r q2) fun _ s3 zq21=>?_))))
 obtain ⟨H3,I3,q3⟩:=zq21
 exact wpAny_release ⟨σ,H3,I3,q3⟩
def iV (g:TG)(D:gv)(σ:St):V→Hp→Prop:=fun x H1=>g x σ H1 D.nx
def wC (te:TE)(g:TG):TS:=fun D σ H=>te σ H (iV g D σ)
theorem uC {tg e:Expr}{te:TE}{g:TG}(he:PE X e te)(hg:PG X tg g)(hs:swapsWithSole [tg] e pos.line X.env=pure false:=by rfl)(hw:swappedStores [tg] e X.env=pure none:=by rfl)
  (h1:(assignEach [tg] X.env).map (·.2)=[assign tg X.env]:=by rfl):PS X (.Assign [tg] e pos) (wC te g):=by
 intro pins s σ H D I h
 refine wpAny_Assign_stores (thn (he pins s σ H _ I h) fun v s1 zq22=>?_) hs hw
 obtain ⟨x,H1,I1,r1,q1⟩:=zq22
 rw [h1]
 exact thn (hg pins s1 σ H1 x v _ I1 r1 q1) fun _ s2 q=>q
theorem aF {i:Nat}{x:Str}{e:Expr}{te:TE}{pos':Pos}(hN:X.N.Nodup)(hi:X.N[i]? = some x)(hx:Loc X.env.scope x)(he:PE X e te)(hs:swapsWith e (some (.Name x pos')) pos.line X.env=pure false:=by rfl)(hf:X.fn x=true ∨ X.env.scope.names.lookup x=some .local:=by first | exact .inl rfl | exact .inr rfl | assumption) :
  PS X (.Assign [.Name x pos'] e pos) (wC te (oR i)):=by
 intro pins s σ H D I h
 refine wpAny_Assign_Name (thn (he pins s σ H _ I h) fun v s1 zq23=>?_) hs
 obtain ⟨y,H1,I1,r1,q1⟩:=zq23
 exact jx I1 hN hi hx r1 (fun s2 I2=>⟨_,H1,I2,q1⟩) hf
def uD (c:TT)(tb:TS):TS:=fun D σ H=>∃ W:Nat→St→Hp→Prop,(∃ m,W m σ H)∧∀ m σ H,W m σ H →
 c σ H fun b H1=>if b=true then ∃ N:St→Hp→Prop,(∀ σ' H',N σ' H'→∃ m',m' < m∧W m' σ' H')∧tb { D with nx:=N,ct:=N,bk:=D.nx } σ H1 else D.nx σ H1
theorem oS {c:Expr}{body:List Stmt}{tc:TT}{tb:TS}(hp:PassesOwn (model X.prog X.w) X.A X.env X.xe)(hc:PT X c tc)(hb:PSs X body tb):PS X (.While c body [] pos) (uD tc tb):=by
 intro pins s σ H D I h
 obtain ⟨W,⟨m0,w0⟩,turn⟩:=h
 refine wpAny_While (codeAny_whileLoop (fun n s'=>∃ σ' H',Inv X pins σ' H' s'∧W n σ' H') ?_ m0 ⟨σ,H,I,w0⟩)
 rintro n s1 ⟨σ1,H1,I1,w1⟩
 refine wpAny_passesOwn hp (thn (hc pins s1 σ1 H1 _ I1 (turn n σ1 H1 w1)) fun b s2 zq33=>?_)
 obtain ⟨H2,I2,q2⟩:=zq33
 cases b with
 | true =>
  obtain ⟨N,hN,q2⟩:=q2
  rw [if_pos rfl]
  refine wpAny_passesOwn hp (thn (hb pins s2 σ1 H2 _ I2 q2) fun f s3 q3=>?_)
  cases f with
  | next =>
   obtain ⟨σ3,H3,I3,n3⟩:=q3
   obtain ⟨m',hm,w3⟩:=hN σ3 H3 n3
   exact ⟨m',hm,σ3,H3,I3,w3⟩
  | cont =>
   obtain ⟨σ3,H3,I3,n3⟩:=q3
   obtain ⟨m',hm,w3⟩:=hN σ3 H3 n3
   exact ⟨m',hm,σ3,H3,I3,w3⟩
  | brk=>exact q3
  | ret v=>exact q3
 | false =>
  rw [if_neg Bool.false_ne_true]
  exact wpAny_execs_nil ⟨σ1,H2,I2,q2⟩
end
structure It where
 go:Nat→Hp→Prop
 yld:Nat→Hp→V→Hp→Prop
 stop:Nat→Hp→Prop
def jz (X:Cx)(pins:List (Addr × Obj))(H:Hp)(b:Addr):Prop :=
 H b=none∧b≠X.env.locals∧b∉X.fs∧(b∈X.ex ∨ X.s₀.heap.objs.size≤b)∧(∀ x c,X.env.cells.lookup x=some c→c≠b)∧∀ p∈X.pn++pins,p.1≠b
theorem Inv.fpOk {X:Cx}{pins:List (Addr × Obj)}{σ:St}{H H':Hp}{s:Shared}{b:Addr}(I:Inv X pins σ H s)(hb:s.heap.objs.size≤b)(hn:H' b=none):jz X pins H' b:=by
 refine ⟨hn,Nat.ne_of_gt (Nat.lt_of_lt_of_le I.lt hb),I.nofs hb,.inr (Nat.le_trans I.sz hb),fun x c e z=>?_,fun p hp z=>?_⟩
 ·obtain ⟨v,q⟩:=I.cell x c e
  exact absurd (Nat.lt_of_lt_of_le q.lt (by rw [z];exact hb)) (Nat.lt_irrefl _)
 ·exact absurd (Nat.lt_of_lt_of_le (Heap.lt_size (I.pin p hp).1) (by rw [z];exact hb)) (Nat.lt_irrefl _)
structure qI (P:Program) (w:World) (K:PySem.W.Frag) (tg:Expr) (J:It) (fp:List Addr) (it:Addr) (tn:Nat→Heap→Prop):Prop where
 mem:it∈fp
 obj:∀ i h,tn i h→∀ b∈fp,∃ o,h.get? b=some o∧∀ v,o.data ≠ .cell v
 keep:∀ i h h',tn i h→(∀ b∈fp,∀ o,h.get? b=some o→h'.get? b=some o)→tn i h'
 item:∀ (X:Cx),X.prog=P→X.w=w→X.K=K→X.calm=true→∀ (i:Nat) (pins:List (Addr × Obj)) (s:Shared) (σ:St) (H:Hp) (E:Value→Shared→Prop),Inv X pins σ H s→(∀ b∈fp,jz X pins H b)→tn i s.heap→J.go i H →
  wpAny (model P w) X.A (pyNext (.ref it)) (fun r s1=>∃ u,r=some u ∧
   wpAny (model P w) X.A (letOwnedTupleGo tg (.ref it) u) (fun _ s2=>∃ x H',Inv X pins σ H' s2∧bc x u∧J.yld i H x H'∧tn (i+1) s2.heap∧∀ b∈fp,H' b=none) E s1) E s
 done:∀ (X:Cx),X.prog=P→X.w=w→X.K=K→X.calm=true→∀ (i:Nat) (pins:List (Addr × Obj)) (s:Shared) (σ:St) (H:Hp) (E:Value→Shared→Prop),Inv X pins σ H s→(∀ b∈fp,jz X pins H b)→tn i s.heap→J.stop i H →
  wpAny (model P w) X.A (pyNext (.ref it)) (fun r s1=>r=none∧Inv X pins σ H s1) E s
 self:∀ (A:Around) (i:Nat) (s:Shared) (Q:Value→Shared→Prop) (E:Value→Shared→Prop),tn i s.heap→Q (.ref it) s→wpAny (model P w) A (pyIter (.ref it)) Q E s
abbrev TI:=St→Hp→(It→Hp→Prop)→Prop
def PIE (X:Cx)(pins:List (Addr × Obj))(σ:St)(tg:Expr)(R:It→Hp→Prop)(itv:Value)(s2:Shared):Prop :=
 ∃ (it:Addr) (fp:List Addr) (tn:Nat→Heap→Prop) (J:It) (H':Hp),itv = .ref it∧Inv X pins σ H' s2∧qI X.prog X.w X.K tg J fp it tn∧tn 0 s2.heap∧(∀ b∈fp,jz X pins H' b)∧R J H'
def PI (X:Cx)(tg iter:Expr)(wi:TI):Prop :=
 ∀ (pins:List (Addr × Obj)) (s:Shared) (σ:St) (H:Hp) (R:It→Hp→Prop),Inv X pins σ H s→wi σ H R →
  wpAny (model X.prog X.w) X.A (eval iter X.env) (fun v s1=>wpAny (model X.prog X.w) X.A (pyIter v) (PIE X pins σ tg R) X.xe s1) X.xe s
theorem oU {M:Model}{A:Around}{E:Value→Shared→Prop}{s:Shared}{tg:Expr}{it:Addr}{u:Value}{o:Obj}{n:String}{vs:Array Value}{Q:Unit→Shared→Prop}(ho:s.heap.get? it=some o)(hc:o.cls = .type n)(hd:o.data = .fields vs)
  (hn:["enumerate","zip","dict_itemiterator","dict_reverseitemiterator","odict_iterator","itertools.zip_longest","itertools.pairwise"].contains n=false) (hQ:Q () s):wpAny M A (letOwnedTupleGo tg (.ref it) u) Q E s:=by
 unfold letOwnedTupleGo
 cases tg <;> first
  | exact wpAny_pure hQ
  | (cases u <;> first
    | exact wpAny_pure hQ
    | (
      refine wpAny_bind (wpAny_load ho ?_)
      rw [hc,hd]
      show wpAny M A (if (["enumerate","zip","dict_itemiterator","dict_reverseitemiterator","odict_iterator","itertools.zip_longest","itertools.pairwise"].contains n && vs[0]? == some (rawInt _))=true then _ else _) Q E s
      rw [if_neg (by intro h;rw [hn,Bool.false_and] at h;cases h)]
      exact wpAny_pure hQ))
def Itl (K:PySem.W.Frag)(a:Addr):It :=
 ⟨fun i H=>∃ xs x,SqL K H a xs∧xs[i]? = some x,fun i H x H'=>H'=H∧∀ xs,SqL K H a xs→xs[i]? = some x,fun i H=>∃ xs,SqL K H a xs∧xs.length≤i⟩
def Itt (K:PySem.W.Frag)(a:Addr):It :=
 ⟨fun i H=>∃ xs x,SqT K H a xs∧xs[i]? = some x,fun i H x H'=>H'=H∧∀ xs,SqT K H a xs→xs[i]? = some x,fun i H=>∃ xs,SqT K H a xs∧xs.length≤i⟩
def Itr (lo:Int)(n:Nat):It:=⟨fun i _=>i < n,fun i H x H'=>H'=H∧x = .int (lo+i),fun i _=>n≤i⟩
theorem lC {P:Program}{w:World}{K:PySem.W.Frag}{tg:Expr}(a it:Addr):qI P w K tg (Itl K a) [it] it (fun i h=>h.IsListIter it a i) where
 mem:=by simp
 obj:=fun i h st b hb=>by
  have e:b=it:=by simpa using hb
  subst e
  obtain ⟨o,e,c,d⟩:=st
  exact ⟨o,e,fun v z=>by rw [d] at z;cases z⟩
 keep:=fun i h h' st k=>st.at fun o e=>k it (by simp) o e
 item:=by
  intro X hP hw hK hc i pins s σ H E I hf st hg
  subst hP hw hK
  obtain ⟨xs,x,hq,hx⟩:=hg
  obtain ⟨its,rv,p,hz⟩:=I.list hq
  obtain ⟨u,hu,ru⟩:=rv.get hx
  obtain ⟨f0,f1,f2,f3,f4,f5⟩:=hf it (by simp)
  refine wpAny_pyNext_list_item st p.isList (x:=u) (by simpa using hu) fun h' st' sb=>?_
  have I1:Inv X pins σ H { s with heap:=h' }:=I.turned (t':=s.toks) (fun b o hb e=>(sb.2 b hb).trans e) f0 f1 f3 f4 f5
  obtain ⟨o,e,c,d⟩:=id st'
  exact ⟨u,rfl,oU (s:={ s with heap:=h' }) e c d (by decide) ⟨x,H,I1,ru,⟨rfl,fun ys hy=>by rw [I.list_inj hy hq];exact hx⟩,st',fun b hb=>(hf b hb).1⟩⟩
 done:=by
  intro X hP hw hK hc i pins s σ H E I hf st hg
  subst hP hw hK
  obtain ⟨xs,hq,hx⟩:=hg
  obtain ⟨its,rv,p,hz⟩:=I.list hq
  obtain ⟨f0,f1,f2,f3,f4,f5⟩:=hf it (by simp)
  have hl:=rv.length
  exact wpAny_pyNext_list_end (I.ok.hd hc) st p.isList (by simp;omega) fun h' eb=>⟨rfl,I.turned (t':=s.toks) (fun b o hb e=>eb b o hb e) f0 f1 f3 f4 f5⟩
 self:=fun _ _ _ _ _ st h=>wpAny_pyIter_listiter st h
theorem ko {P:Program}{w:World}{K:PySem.W.Frag}{tg:Expr}(a it:Addr):qI P w K tg (Itt K a) [it] it (fun i h=>h.IsTupleIter it a i) where
 mem:=by simp
 obj:=fun i h st b hb=>by
  have e:b=it:=by simpa using hb
  subst e
  obtain ⟨o,e,c,d⟩:=st
  exact ⟨o,e,fun v z=>by rw [d] at z;cases z⟩
 keep:=fun i h h' st k=>st.at fun o e=>k it (by simp) o e
 item:=by
  intro X hP hw hK hc i pins s σ H E I hf st hg
  subst hP hw hK
  obtain ⟨xs,x,hq,hx⟩:=hg
  obtain ⟨its,rv,p,hz⟩:=I.tuple hq
  obtain ⟨u,hu,ru⟩:=rv.get hx
  obtain ⟨f0,f1,f2,f3,f4,f5⟩:=hf it (by simp)
  refine wpAny_pyNext_tuple_item st (show s.heap.IsTuple a its.toArray from p) (x:=u) (by simpa using hu) fun h' st' sb=>?_
  have I1:Inv X pins σ H { s with heap:=h' }:=I.turned (t':=s.toks) (fun b o hb e=>(sb.2 b hb).trans e) f0 f1 f3 f4 f5
  obtain ⟨o,e,c,d⟩:=id st'
  exact ⟨u,rfl,oU (s:={ s with heap:=h' }) e c d (by decide) ⟨x,H,I1,ru,⟨rfl,fun ys hy=>by rw [I.tuple_inj hy hq];exact hx⟩,st',fun b hb=>(hf b hb).1⟩⟩
 done:=by
  intro X hP hw hK hc i pins s σ H E I hf st hg
  subst hP hw hK
  obtain ⟨xs,hq,hx⟩:=hg
  obtain ⟨its,rv,p,hz⟩:=I.tuple hq
  obtain ⟨f0,f1,f2,f3,f4,f5⟩:=hf it (by simp)
  have hl:=rv.length
  exact wpAny_pyNext_tuple_end (I.ok.hd hc) st (show s.heap.IsTuple a its.toArray from p) (by simp;omega) fun h' eb=>⟨rfl,I.turned (t':=s.toks) (fun b o hb e=>eb b o hb e) f0 f1 f3 f4 f5⟩
 self:=fun _ _ _ _ _ st h=>wpAny_pyIter_tupleiter st h
theorem kq {P:Program}{w:World}{K:PySem.W.Frag}{tg:Expr}(it:Addr)(lo:Int)(n:Nat):qI P w K tg (Itr lo n) [it] it (fun i h=>IsRangeIter h it (lo+(i:Nat)*1) ((n:Int) - (i:Nat)) 1) where
 mem:=by simp
 obj:=fun i h st b hb=>by
  have e:b=it:=by simpa using hb
  subst e
  exact ⟨_,st,fun v z=>by
   have z':Data.fields _=Data.cell v:=z
   cases z'⟩
 keep:=fun i h h' st k=>k it (by simp) _ st
 item:=by
  intro X hP hw hK hc i pins s σ H E I hf st hg
  subst hP hw hK
  obtain ⟨f0,f1,f2,f3,f4,f5⟩:=hf it (by simp)
  have W:=Walks.range (prog:=X.prog) (w:=X.w) (I.ok.hd hc) it lo 1 n
  refine W.item i s _ _ hg st fun v h' tk hv st' kk=>?_
  obtain ⟨t,rfl⟩:=hv
  have I1:Inv X pins σ H { s with heap:=h',toks:=tk }:=I.turned (fun b o hb e=>kk b o (by simpa using hb) e) f0 f1 f3 f4 f5
  refine ⟨_,rfl,oU (s:={ s with heap:=h',toks:=tk }) (n:="range_iterator") st' rfl rfl (by decide) ⟨.int (lo+i),H,I1,⟨t,?_⟩,⟨rfl,rfl⟩,st',fun b hb=>(hf b hb).1⟩⟩
  rw [Int.mul_one]
 done:=by
  intro X hP hw hK hc i pins s σ H E I hf st hg
  subst hP hw hK
  obtain ⟨f0,f1,f2,f3,f4,f5⟩:=hf it (by simp)
  exact wpAny_pyNext_range_end (I.ok.hd hc) st (by have:n≤i:=hg;omega) fun h' eb=>⟨rfl,I.turned (t':=s.toks) (fun b o hb e=>eb b o hb e) f0 f1 f3 f4 f5⟩
 self:=fun _ _ _ _ _ st h=>wpAny_pyIter_rangeiter st h
section
variable {X:Cx} {tg:Expr}
def wD (K:PySem.W.Frag)(tl:TE):TI:=fun σ H R=>tl σ H fun x H1=>∃ a,x = .ref a∧(∃ xs,SqL K H1 a xs)∧R (Itl K a) H1
def yw (K:PySem.W.Frag)(tl:TE):TI:=fun σ H R=>tl σ H fun x H1=>∃ a,x = .ref a∧(∃ xs,SqT K H1 a xs)∧R (Itt K a) H1
theorem fB {l:Expr}{tl:TE}(hl:PE X l tl):PI X tg l (wD X.K tl):=by
 intro pins s σ H R I h
 refine thn (hl pins s σ H _ I h) fun v s1 zq34=>?_
 obtain ⟨x,H1,I1,r1,q1⟩:=zq34
 obtain ⟨a,e,⟨xs,hq⟩,q⟩:=q1
 subst e
 cases r1
 obtain ⟨its,rv,p,hz⟩:=I1.list hq
 refine wpAny_pyIter_list p.isList ?_
 refine ⟨s1.heap.objs.size,[s1.heap.objs.size],_,_,H1,rfl,I1.kept (t':=s1.toks) fun b o e=>Heap.get?_push_of_some _ e,lC a _,⟨_,Heap.get?_push_size _ rfl,rfl,rfl⟩,fun b hb=>?_,q⟩
 have e:b=s1.heap.objs.size:=by simpa using hb
 subst e
 exact I1.fpOk (Nat.le_refl _) (I1.hok.fresh (Nat.le_refl _))
theorem gz {l:Expr}{tl:TE}(hl:PE X l tl):PI X tg l (yw X.K tl):=by
 intro pins s σ H R I h
 refine thn (hl pins s σ H _ I h) fun v s1 zq35=>?_
 obtain ⟨x,H1,I1,r1,q1⟩:=zq35
 obtain ⟨a,e,⟨xs,hq⟩,q⟩:=q1
 subst e
 cases r1
 obtain ⟨its,rv,p,hz⟩:=I1.tuple hq
 refine wpAny_pyIter_tuple (show s1.heap.IsTuple a its.toArray from p) ?_
 refine ⟨s1.heap.objs.size,[s1.heap.objs.size],_,_,H1,rfl,I1.kept (t':=s1.toks) fun b o e=>Heap.get?_push_of_some _ e,ko a _,⟨_,Heap.get?_push_size _ rfl,rfl,rfl⟩,fun b hb=>?_,q⟩
 have e:b=s1.heap.objs.size:=by simpa using hb
 subst e
 exact I1.fpOk (Nat.le_refl _) (I1.hok.fresh (Nat.le_refl _))
theorem oV {pins:List (Addr × Obj)}{σ:St}{H:Hp}{s:Shared}{R:It→Hp→Prop}{E:Value→Shared→Prop}{lo hi:Int}{t u v:Tok}{tk:Nat}(I:Inv X pins σ H s)(h1:-(2 ^ 62)≤lo)(h2:lo < 2 ^ 62)(h3:-(2 ^ 62)≤hi)(h4:hi < 2 ^ 62)
  (q:R (Itr lo (hi - lo).toNat) H):wpAny (model X.prog X.w) X.A (pyIter (.ref s.heap.objs.size)) (PIE X pins σ tg R) E { s with heap:=s.heap.push { cls:=.type "range",data:=.fields #[.int lo t,.int hi u,.int 1 v] },toks:=tk }:=by
 refine wpAny_pyIter_range (IsRange.new ..) (small_one h1 h2 h3 h4) ?_
 have I1:Inv X pins σ H { s with heap:=s.heap.push { cls:=.type "range",data:=.fields #[.int lo t,.int hi u,.int 1 v] },toks:=tk }:=I.kept fun b o e=>Heap.get?_push_of_some _ e
 refine ⟨(s.heap.push { cls:=.type "range",data:=.fields #[.int lo t,.int hi u,.int 1 v] }).objs.size,[(s.heap.push { cls:=.type "range",data:=.fields #[.int lo t,.int hi u,.int 1 v] }).objs.size],_,_,H,rfl,
  I1.kept (t':=tk) fun b o e=>Heap.get?_push_of_some _ e,kq _ lo (hi - lo).toNat,?_,fun b hb=>?_,q⟩
 ·have e1:lo+((0:Nat):Int)*1=lo:=by simp
  have e2:(((hi - lo).toNat:Nat):Int) - ((0:Nat):Int)=Builtin.Range.rangeSize lo hi 1:=by rw [rangeSize_one];split <;> omega
  show IsRangeIter _ _ (lo+((0:Nat):Int)*1) ((((hi - lo).toNat:Nat):Int) - ((0:Nat):Int)) 1
  rw [e1,e2]
  exact Heap.get?_push_size _ rfl
 ·have e:b=(s.heap.push { cls:=.type "range",data:=.fields #[.int lo t,.int hi u,.int 1 v] }).objs.size:=by simpa using hb
  subst e
  exact I1.fpOk (Nat.le_refl _) (I1.hok.fresh (Nat.le_refl _))
def wF (ta:TA):TI:=fun σ H R=>ta σ H fun vs H1=>∃ j:Int,vs=[.int j]∧-(2 ^ 62)≤j∧j < 2 ^ 62∧R (Itr 0 j.toNat) H1
theorem dZ {a:Expr}{ta:TA}{p pos:Pos}(hg:Gl X "range")(hm:X.mg "range" = none)(ha:PA X [a] ta)(hs:starEach [a] X.env=[(false,eval a X.env)]:=by rfl):PI X tg (.Call (.Name "range" p) [a] [] pos) (wF ta):=by
 intro pins s σ H R I h
 refine Call_ (cy I hg hm boot_range (PyProof.Rows.callWith_type1 (thn (ha pos pins s σ H _ I h) fun us s1 zq36=>?_) hs rfl))
 obtain ⟨vs,H1,I1,r1,q1⟩:=zq36
 obtain ⟨j,e,q1,q2,q⟩:=q1
 subst e
 cases r1 with
 | cons r rr =>
  cases rr
  obtain ⟨t,rfl⟩:=r
  exact call_range_1 (oV I1 (by omega) (by omega) q1 q2 (by simpa using q))
def yy (wi:TI)(g:TG)(tb:TS):TS:=fun D σ H=>wi σ H fun J H1=>∃ W:Nat→Nat→St→Hp→Prop,(∃ m,W 0 m σ H1)∧∀ i m σ H,W i m σ H →
 (J.stop i H∧D.nx σ H) ∨ (J.go i H∧∃ N:St→Hp→Prop,(∀ σ' H',N σ' H'→∃ m',m' < m∧W (i+1) m' σ' H')∧∀ x H',J.yld i H x H'→g x σ H' fun σ2 H2=>tb { D with nx:=N,ct:=N,bk:=D.nx } σ2 H2)
def fg (fp:List Addr)(h:Heap):List (Addr × Obj):=fp.filterMap fun b=>(h.get? b).map fun o=>(b,o)
theorem bz {fp:List Addr}{h:Heap}{b:Addr}{o:Obj}(hb:b∈fp)(e:h.get? b=some o):(b,o)∈fg fp h:=List.mem_filterMap.mpr ⟨b,hb,by rw [e]; rfl⟩
theorem lD {fp:List Addr}{h:Heap}{p:Addr × Obj}(hp:p∈fg fp h):p.1∈fp∧h.get? p.1=some p.2:=by
 obtain ⟨b,hb,e⟩:=List.mem_filterMap.mp hp
 cases q:h.get? b with
 | none=>rw [q] at e;cases e
 | some o =>
  rw [q] at e
  have e':(b,o)=p:=Option.some.inj e
  subst e'
  exact ⟨hb,q⟩
theorem Inv.pinned {pins:List (Addr × Obj)}{σ:St}{H:Hp}{s:Shared}{fp:List Addr}(I:Inv X pins σ H s)(hf:∀ b∈fp,jz X pins H b)(ho:∀ b∈fp,∃ o,s.heap.get? b=some o∧∀ v,o.data ≠ .cell v):Inv X (pins++fg fp s.heap) σ H s :=
 I.pins_of fun p hp=>(List.mem_append.mp hp).elim (fun z=>I.pin p (List.mem_append_right _ z)) fun z=>by
  obtain ⟨hb,e⟩:=lD z
  obtain ⟨f0,f1,f2,_⟩:=hf p.1 hb
  obtain ⟨o,e',d⟩:=ho p.1 hb
  rw [e] at e';cases e'
  exact ⟨e,f0,f1,f2,d⟩
theorem Inv.unpinned {pins pl:List (Addr × Obj)}{σ:St}{H:Hp}{s:Shared}(I:Inv X (pins++pl) σ H s):Inv X pins σ H s:=I.pins_of fun p hp=>I.pin p (List.mem_append_right _ (List.mem_append_left _ hp))
theorem bZ {iter:Expr}{body:List Stmt}{wi:TI}{g:TG}{tb:TS}{pos:Pos}(hp:PassesOwn (model X.prog X.w) X.A X.env X.xe)(hc:X.calm=true)(hi:PI X tg iter wi)(hg:PG X tg g)(hb:PSs X body tb)
  (hs:∀ x,foldedSetIterable iter X.env x=pure x:=by intro _;rfl):PS X (.For tg iter body [] pos) (yy wi g tb):=by
 intro pins s σ H D I h
 refine wpAny_For (thn (hi pins s σ H _ I h) fun v s1 h1=>thn h1 fun itv s2 h2=>?_) hs
 obtain ⟨it,fp,tn,J,H2,e,I2,T,st2,f2,W,⟨m0,w0⟩,turn⟩:=h2
 subst e
 -- what stays true of the iterator's objects through the loop
 have stat:∀ {H':Hp},(∀ b∈fp,H' b=none)→∀ b∈fp,jz X pins H' b:=fun hn b hb=>⟨hn b hb,(f2 b hb).2⟩
 refine codeAny_forLoop_any (fun n s'=>∃ i σ' H',Inv X pins σ' H' s'∧tn i s'.heap∧(∀ b∈fp,H' b=none)∧W i n σ' H') ?_ m0 ⟨0,σ,H2,I2,st2,fun b hb=>(f2 b hb).1,w0⟩
 rintro n s3 ⟨i,σ3,H3,I3,st3,fr3,w3⟩
 rcases turn i n σ3 H3 w3 with ⟨stop,qn⟩ | ⟨go,N,hN,step⟩
 ·refine wpAny_passesOwn hp (thn (T.done X rfl rfl rfl hc i pins s3 σ3 H3 X.xe I3 (stat fr3) st3 stop) fun r s4 zq38=>?_)
  obtain ⟨hr,I4⟩:=zq38
  subst hr
  exact wpAny_execs_nil ⟨σ3,H3,I4,qn⟩
 ·refine wpAny_passesOwn hp (thn (T.item X rfl rfl rfl hc i pins s3 σ3 H3 X.xe I3 (stat fr3) st3 go) fun r s4 zq39=>?_)
  obtain ⟨u,hr,h4⟩:=zq39
  subst hr
  refine wpAny_passesOwn hp (thn h4 fun _ s5 zq40=>?_)
  obtain ⟨x,H5,I5,r5,y5,st5,fr5⟩:=zq40
  have I5':=I5.pinned (stat fr5) (T.obj _ _ st5)
  refine wpAny_passesOwn hp (thn (hg _ s5 σ3 H5 x u _ I5' r5 (step x H5 y5)) fun _ s6 zq41=>?_)
  obtain ⟨σ6,H6,I6,q6⟩:=zq41
  refine wpAny_passesOwn hp (thn (hb _ s6 σ6 H6 _ I6 q6) fun f s7 q7=>?_)
  have again:∀ {σ7:St} {H7:Hp},Inv X (pins++fg fp s5.heap) σ7 H7 s7→N σ7 H7→∃ m,m < n∧∃ i σ' H',Inv X pins σ' H' s7∧tn i s7.heap∧(∀ b∈fp,H' b=none)∧W i m σ' H':=fun {σ7 H7} I7 n7=>by
   obtain ⟨m',hm,w7⟩:=hN σ7 H7 n7
   refine ⟨m',hm,i+1,σ7,H7,I7.unpinned,T.keep _ _ _ st5 fun b hb o e=>(I7.pin (b,o) (List.mem_append_right _ (List.mem_append_right _ (bz hb e)))).1,fun b hb=>?_,w7⟩
   obtain ⟨o,e,d⟩:=T.obj _ _ st5 b hb
   exact (I7.pin (b,o) (List.mem_append_right _ (List.mem_append_right _ (bz hb e)))).2.1
  cases f with
  | next=>obtain ⟨σ7,H7,I7,n7⟩:=q7;exact again I7 n7
  | cont=>obtain ⟨σ7,H7,I7,n7⟩:=q7;exact again I7 n7
  | brk=>obtain ⟨σ7,H7,I7,q7⟩:=q7;exact ⟨σ7,H7,I7.unpinned,q7⟩
  | ret v=>obtain ⟨x7,σ7,H7,I7,r7,q7⟩:=q7;exact ⟨x7,σ7,H7,I7.unpinned,r7,q7⟩
end
theorem rE {K:PySem.W.Frag}{a:Addr}{xs:List V}{g:TG}{tb:TS}{D:gv}{σ:St}{H:Hp}(Pv:Nat→St→Hp→Prop)(h0:Pv 0 σ H)(hl:∀ i σ H,i≤xs.length→Pv i σ H→SqT K H a xs)
  (hs:∀ i x σ H,xs[i]? = some x→Pv i σ H→g x σ H fun σ2 H2=>tb { D with nx:=Pv (i+1),ct:=Pv (i+1),bk:=D.nx } σ2 H2) (hd:∀ σ H,Pv xs.length σ H→D.nx σ H) :
  ∃ W:Nat→Nat→St→Hp→Prop,(∃ m,W 0 m σ H)∧∀ i m σ H,W i m σ H →
   ((Itt K a).stop i H∧D.nx σ H) ∨ ((Itt K a).go i H∧∃ N:St→Hp→Prop,(∀ σ' H',N σ' H'→∃ m',m' < m∧W (i+1) m' σ' H')∧∀ x H',(Itt K a).yld i H x H'→g x σ H' fun σ2 H2=>tb { D with nx:=N,ct:=N,bk:=D.nx } σ2 H2):=by
 refine ⟨fun i m σ H=>m=xs.length - i∧i≤xs.length∧Pv i σ H,⟨xs.length,by simp,Nat.zero_le _,h0⟩,?_⟩
 rintro i m σ H ⟨rfl,hi,p⟩
 have q:=hl i σ H hi p
 by_cases hlt:i < xs.length
 ·refine .inr ⟨⟨xs,xs[i],q,by simp [hlt]⟩,Pv (i+1),fun σ' H' p'=>⟨xs.length - (i+1),by omega,rfl,hlt,p'⟩,fun x H' y=>?_⟩
  obtain ⟨e,y⟩:=y
  subst e
  exact hs i x σ _ (y xs q) p
 ·have e:i=xs.length:=by omega
  subst e
  exact .inl ⟨⟨xs,q,Nat.le_refl _⟩,hd σ H p⟩
theorem gC {lo:Int}{n:Nat}{g:TG}{tb:TS}{D:gv}{σ:St}{H:Hp}(Pv:Nat→St→Hp→Prop)(h0:Pv 0 σ H)
  (hs:∀ i σ H,i < n→Pv i σ H→g (.int (lo+i)) σ H fun σ2 H2=>tb { D with nx:=Pv (i+1),ct:=Pv (i+1),bk:=D.nx } σ2 H2) (hd:∀ σ H,Pv n σ H→D.nx σ H) :
  ∃ W:Nat→Nat→St→Hp→Prop,(∃ m,W 0 m σ H)∧∀ i m σ H,W i m σ H →
   ((Itr lo n).stop i H∧D.nx σ H) ∨ ((Itr lo n).go i H∧∃ N:St→Hp→Prop,(∀ σ' H',N σ' H'→∃ m',m' < m∧W (i+1) m' σ' H')∧∀ x H',(Itr lo n).yld i H x H'→g x σ H' fun σ2 H2=>tb { D with nx:=N,ct:=N,bk:=D.nx } σ2 H2):=by
 refine ⟨fun i m σ H=>m=n - i∧i≤n∧Pv i σ H,⟨n,by simp,Nat.zero_le _,h0⟩,?_⟩
 rintro i m σ H ⟨rfl,hi,p⟩
 by_cases hlt:i < n
 ·refine .inr ⟨hlt,Pv (i+1),fun σ' H' p'=>⟨n - (i+1),by omega,rfl,hlt,p'⟩,fun x H' y=>?_⟩
  obtain ⟨e,y⟩:=y
  subst e y
  exact hs i σ _ hlt p
 ·have e:i=n:=by omega
  subst e
  exact .inl ⟨Nat.le_refl _,hd σ H p⟩
abbrev R2:=V→V→Hp→VK→Prop
def OpR (X:Cx)(f:Value→Value→Sem Value)(r:R2):Prop :=
 ∀ (pins:List (Addr × Obj)) (s:Shared) (σ:St) (H:Hp) (x y:V) (v u:Value) (Q:VK),Inv X pins σ H s→bc x v→bc y u→r x y H Q →
  wpAny (model X.prog X.w) X.A (f v u) (EP X pins σ Q) X.xe s
def b8 (X:Cx)(f:Value)(r:List V→Hp→VK→Prop):Prop :=
 ∀ (pins:List (Addr × Obj)) (s:Shared) (σ:St) (H:Hp) (xs:List V) (us:List Value) (Q:VK),Inv X pins σ H s→aY xs us→r xs H Q →
  wpAny (model X.prog X.w) X.A (call f us) (EP X pins σ Q) X.xe s
def yz (X:Cx)(r:V→Hp→(Bool→Hp→Prop)→Prop):Prop :=
 ∀ (pins:List (Addr × Obj)) (s:Shared) (σ:St) (H:Hp) (x:V) (v:Value) (Q:Bool→Hp→Prop),Inv X pins σ H s→bc x v→r x H Q →
  wpAny (model X.prog X.w) X.A (truthy v) (TP X pins σ Q) X.xe s
def uE (r:R2)(Q:VK)(x:V):V→Hp→Prop:=fun y H2=>r x y H2 Q
def uF (r:R2)(tb:TE)(σ:St)(Q:VK):V→Hp→Prop:=fun x H1=>tb σ H1 (uE r Q x)
def tOp (r:R2)(ta tb:TE):TE:=fun σ H Q=>ta σ H (uF r tb σ Q)
inductive rI (C:Int→Int→Prop)(g:Int→Int→V)(x:V)(y:V)(H:Hp)(Q:VK):Prop
 | mk:∀ i j,(x = .int i)→(y = .int j)→(C i j)→(Q (g i j) H)→rI C g x y H Q
inductive rI0 (g:Int→Int→V)(x:V)(y:V)(H:Hp)(Q:VK):Prop
 | mk:∀ i j,(x = .int i)→(y = .int j)→(Q (g i j) H)→rI0 g x y H Q
section
variable {X:Cx} {a b c:Expr} {ta tb tc:TE} {pos:Pos}
theorem wG (ha:PE X a ta)(hb:PE X b tb){pins:List (Addr × Obj)}{s:Shared}{σ:St}{H:Hp}{R:V→V→Hp→Prop}(I:Inv X pins σ H s)
  (h:ta σ H fun x H1=>tb σ H1 fun y H2=>R x y H2) {Q:Value→Shared→Prop} {f:Value→Value→Sem Value}
  (hf:∀ v u s2 x y H2,Inv X pins σ H2 s2→bc x v→bc y u→R x y H2→wpAny (model X.prog X.w) X.A (f v u) Q X.xe s2) :
  wpAny (model X.prog X.w) X.A (eval a X.env) (fun v s₁=>wpAny (model X.prog X.w) X.A (eval b X.env) (fun u s₂=>wpAny (model X.prog X.w) X.A (f v u) Q X.xe s₂) X.xe s₁) X.xe s:=by
 refine thn (ha pins s σ H _ I h) fun v s1 zq42=>?_
 obtain ⟨x,H1,I1,r1,q1⟩:=zq42
 refine thn (hb pins s1 σ H1 _ I1 q1) fun u s2 zq43=>?_
 obtain ⟨y,H2,I2,r2,q2⟩:=zq43
 exact hf v u s2 x y H2 I2 r1 r2 q2
theorem aG {op:Operator}{r:R2}(ho:OpR X (binaryOp op) r)(ha:PE X a ta)(hb:PE X b tb):PE X (.BinOp a op b pos) (tOp r ta tb):=by
 intro pins s σ H Q I h
 exact wpAny_BinOp (wG ha hb I h fun v u s2 x y H2 I2 rx ry q=>ho pins s2 σ H2 x y v u Q I2 rx ry q)
theorem opI {f:Value→Value→Sem Value}{C:Int→Int→Prop}{g:Int→Int→Int}
  (rule:∀ (i j:Int) (t u:Tok) (s:Shared) (Q:Value→Shared→Prop) (E:Value→Shared→Prop),C i j→Q (.int (g i j) s.toks) { s with toks:=s.toks+1 }→wpAny (model X.prog X.w) X.A (f (.int i t) (.int j u)) Q E s) :
  OpR X f (rI C fun i j=>.int (g i j)):=by
 intro pins s σ H x y v u Q I rx ry h
 obtain ⟨i,j,rfl,rfl,hc,q⟩:=h
 obtain ⟨t,rfl⟩:=rx
 obtain ⟨t',rfl⟩:=ry
 exact rule i j t t' s _ _ hc ⟨.int (g i j),H,I.tok _,⟨_,rfl⟩,q⟩
theorem xS {f:Value→Value→Sem Value}{g:Int→Int→Int}
  (rule:∀ (i j:Int) (t u:Tok) (s:Shared) (Q:Value→Shared→Prop) (E:Value→Shared→Prop),Q (.int (g i j) s.toks) { s with toks:=s.toks+1 }→wpAny (model X.prog X.w) X.A (f (.int i t) (.int j u)) Q E s) :
  OpR X f (rI0 fun i j=>.int (g i j)):=by
 intro pins s σ H x y v u Q I rx ry h
 obtain ⟨i,j,rfl,rfl,q⟩:=h
 obtain ⟨t,rfl⟩:=rx
 obtain ⟨t',rfl⟩:=ry
 exact rule i j t t' s _ _ ⟨.int (g i j),H,I.tok _,⟨_,rfl⟩,q⟩
theorem xT {f:Value→Value→Sem Value}{g:Int→Int→Bool}
  (rule:∀ (i j:Int) (t u:Tok) (s:Shared) (Q:Value→Shared→Prop) (E:Value→Shared→Prop),Q (.bool (g i j)) s→wpAny (model X.prog X.w) X.A (f (.int i t) (.int j u)) Q E s) :
  OpR X f (rI0 fun i j=>.bl (g i j)):=by
 intro pins s σ H x y v u Q I rx ry h
 obtain ⟨i,j,rfl,rfl,q⟩:=h
 obtain ⟨t,rfl⟩:=rx
 obtain ⟨t',rfl⟩:=ry
 exact rule i j t t' s _ _ ⟨.bl (g i j),H,I,rfl,q⟩
def yA (i j:Int):Prop:=0 < j∧j < 1073741824
def yB (i j:Int):Prop:=0≤j∧j≤1000000∧i.natAbs < 2 ^ 64
def wH (i j:Int):Prop:=(-(2 ^ 64) < i∧i < 2 ^ 64) ∨ (-(2 ^ 64) < j∧j < 2 ^ 64)
theorem wH.ok {i j:Int}(h:wH i j):IntMulOk i j:=by
 rcases h with ⟨h1,h2⟩ | ⟨h1,h2⟩
 ·exact .of_left (intBits_le_64 h1 h2)
 ·exact .of_right (intBits_le_64 h1 h2)
theorem bf:OpR X (binaryOp .Add) (rI0 fun i j=>.int (i+j)):=xS fun _ _ _ _ _ _ _ q=>add_int q
theorem uG:OpR X (binaryOp .Sub) (rI0 fun i j=>.int (i - j)):=xS fun _ _ _ _ _ _ _ q=>sub_int q
theorem fh:OpR X (binaryOp .Mult) (rI wH fun i j=>.int (i*j)):=opI fun _ _ _ _ _ _ _ hc q=>mul_int q hc.ok
theorem cX:OpR X (binaryOp .FloorDiv) (rI yA fun i j=>.int (i / j)):=opI fun i j _ _ _ _ _ hc q=>by
 have h1:(0:Int) < j:=hc.1
 have h2:j < 1073741824:=hc.2
 exact floordiv_int (by omega) (by rw [Int.fdiv_eq_ediv_of_nonneg i (by omega)];exact q) (.inl (PyProof.noPylong_small (by omega)))
theorem d3:OpR X (binaryOp .Mod) (rI (fun _ j=>0 < j) fun i j=>.int (i % j)):=opI fun i j _ _ _ _ _ hc q=>by
 have h1:(0:Int) < j:=hc
 exact mod_int' (by omega) (by rw [Int.fmod_eq_emod_of_nonneg i (by omega)];exact q)
theorem uH:OpR X (binaryOp .Pow) (rI yB fun i j=>.int (i ^ j.toNat)):=opI fun _ _ _ _ _ _ _ hc q=>pow_int_small hc.1 hc.2.1 hc.2.2 q
end
def xU:V→V→Bool
 | .non,.non=>true | .non,.int _=>true | .int _,.non=>true | .non,.bl _=>true | .bl _,.non=>true | .non,.str _=>true | .str _,.non=>true
 | .int _,.int _=>true | .bl _,.bl _=>true | .str _,.str _=>true | .byt _,.byt _=>true
 | .int _,.str _=>true | .str _,.int _=>true | .bl _,.str _=>true | .str _,.bl _=>true
 | _,_=>false
def rEq:R2:=fun x y H Q=>xU x y=true∧Q (.bl (decide (x=y))) H
def rNe:R2:=fun x y H Q=>xU x y=true∧Q (.bl (!decide (x=y))) H
theorem lE {i j:Int}:decide (V.int i=V.int j)=(i == j):=by
 rw [Bool.eq_iff_iff]
 simp
theorem qJ {i j:Bool}:decide (V.bl i=V.bl j)=(i == j):=by
 rw [Bool.eq_iff_iff]
 simp
theorem lF {i j:Str}:decide (V.str i=V.str j)=(i == j):=by
 rw [Bool.eq_iff_iff]
 simp
theorem lG {i j:Array UInt8}:decide (V.byt i=V.byt j)=(i.toList == j.toList):=by
 rw [Bool.eq_iff_iff]
 cases i
 cases j
 simp
section
variable {X:Cx} {a b c:Expr} {ta tb tc:TE} {pos:Pos}
theorem aL {pins:List (Addr × Obj)}{σ:St}{H:Hp}{s:Shared}{Q:VK}{k k':Bool}(I:Inv X pins σ H s)(q:Q (.bl k) H)(e:k=k'):EP X pins σ Q (.bool k') s:=by
 subst e
 exact ⟨.bl k,H,I,rfl,q⟩
theorem cC:OpR X (compareOp .Eq) rEq:=by
 intro pins s σ H x y v u Q I rx ry h
 obtain ⟨hs,q⟩:=h
 cases x with
 | non =>
  cases rx
  cases y with
  | non=>cases ry;exact PySem.EqNone.eq_none_none (aL I q (by simp))
  | bl j=>cases ry;exact PySem.EqNone.eq_none_bool (aL I q (by simp))
  | int j=>obtain ⟨t',rfl⟩:=ry;exact PySem.EqNone.eq_none_int (aL I q (by simp))
  | str j=>obtain ⟨t',rfl⟩:=ry;exact PySem.EqNone.eq_none_str (aL I q (by simp))
  | _=>exact absurd (show false=true from hs) Bool.false_ne_true
 | bl i =>
  cases rx
  cases y with
  | non=>cases ry;exact PySem.EqNone.eq_bool_none (aL I q (by simp))
  | bl j=>cases ry;exact eq_bool (aL I q qJ)
  | str j=>obtain ⟨t',rfl⟩:=ry;exact PySem.EqMixed.eq_bool_str (aL I q (by simp))
  | _=>exact absurd (show false=true from hs) Bool.false_ne_true
 | int i =>
  obtain ⟨t,rfl⟩:=rx
  cases y with
  | non=>cases ry;exact PySem.EqNone.eq_int_none (aL I q (by simp))
  | int j=>obtain ⟨t',rfl⟩:=ry;exact eq_int (aL I q lE)
  | str j=>obtain ⟨t',rfl⟩:=ry;exact PySem.EqMixed.eq_int_str (aL I q (by simp))
  | _=>exact absurd (show false=true from hs) Bool.false_ne_true
 | str i =>
  obtain ⟨t,rfl⟩:=rx
  cases y with
  | non=>cases ry;exact PySem.EqNone.eq_str_none (aL I q (by simp))
  | bl j=>cases ry;exact PySem.EqMixed.eq_str_bool (aL I q (by simp))
  | int j=>obtain ⟨t',rfl⟩:=ry;exact PySem.EqMixed.eq_str_int (aL I q (by simp))
  | str j=>obtain ⟨t',rfl⟩:=ry;exact eq_str (aL I q lF)
  | _=>exact absurd (show false=true from hs) Bool.false_ne_true
 | byt i =>
  obtain ⟨t,rfl⟩:=rx
  cases y with
  | byt j=>obtain ⟨t',rfl⟩:=ry;exact PySem.W.eq_bytes (aL I q lG)
  | _=>exact absurd (show false=true from hs) Bool.false_ne_true
 | _=>cases y <;> exact absurd (show false=true from hs) Bool.false_ne_true
theorem oW:OpR X (compareOp .NotEq) rNe:=by
 intro pins s σ H x y v u Q I rx ry h
 obtain ⟨hs,q⟩:=h
 cases x with
 | non =>
  cases rx
  cases y with
  | non=>cases ry;exact PySem.EqNone.ne_none_none (aL I q (by simp))
  | bl j=>cases ry;exact PySem.EqNone.ne_none_bool (aL I q (by simp))
  | int j=>obtain ⟨t',rfl⟩:=ry;exact PySem.EqNone.ne_none_int (aL I q (by simp))
  | str j=>obtain ⟨t',rfl⟩:=ry;exact PySem.EqNone.ne_none_str (aL I q (by simp))
  | _=>exact absurd (show false=true from hs) Bool.false_ne_true
 | bl i =>
  cases rx
  cases y with
  | non=>cases ry;exact PySem.EqNone.ne_bool_none (aL I q (by simp))
  | bl j=>cases ry;exact ne_bool (aL I q (congrArg not qJ))
  | str j=>obtain ⟨t',rfl⟩:=ry;exact PySem.EqMixed.ne_bool_str (aL I q (by simp))
  | _=>exact absurd (show false=true from hs) Bool.false_ne_true
 | int i =>
  obtain ⟨t,rfl⟩:=rx
  cases y with
  | non=>cases ry;exact PySem.EqNone.ne_int_none (aL I q (by simp))
  | int j=>obtain ⟨t',rfl⟩:=ry;exact ne_int (aL I q (congrArg not lE))
  | str j=>obtain ⟨t',rfl⟩:=ry;exact PySem.EqMixed.ne_int_str (aL I q (by simp))
  | _=>exact absurd (show false=true from hs) Bool.false_ne_true
 | str i =>
  obtain ⟨t,rfl⟩:=rx
  cases y with
  | non=>cases ry;exact PySem.EqNone.ne_str_none (aL I q (by simp))
  | bl j=>cases ry;exact PySem.EqMixed.ne_str_bool (aL I q (by simp))
  | int j=>obtain ⟨t',rfl⟩:=ry;exact PySem.EqMixed.ne_str_int (aL I q (by simp))
  | str j=>obtain ⟨t',rfl⟩:=ry;exact ne_str (aL I q (congrArg not lF))
  | _=>exact absurd (show false=true from hs) Bool.false_ne_true
 | byt i =>
  obtain ⟨t,rfl⟩:=rx
  cases y with
  | byt j=>obtain ⟨t',rfl⟩:=ry;exact PySem.W.ne_bytes (aL I q (congrArg not lG))
  | _=>exact absurd (show false=true from hs) Bool.false_ne_true
 | _=>cases y <;> exact absurd (show false=true from hs) Bool.false_ne_true
theorem oX:OpR X (compareOp .Lt) (rI0 fun i j=>.bl (decide (i < j))):=xT fun _ _ _ _ _ _ _ q=>lt_int q
theorem rF:OpR X (compareOp .LtE) (rI0 fun i j=>.bl (decide (i≤j))):=xT fun _ _ _ _ _ _ _ q=>le_int q
inductive d6  (x:V)(y:V)(H:Hp)(Q:VK):Prop
 | mk:∀ i j,(x = .str i)→(y = .str j)→(Q (.bl (!(Builtin.Str.occurrences j i 0 j.length 1).isEmpty)) H)→d6 x y H Q
theorem gD:OpR X (compareOp .In) d6:=by
 intro pins s σ H x y v u Q I rx ry h
 obtain ⟨i,j,rfl,rfl,q⟩:=h
 obtain ⟨t,rfl⟩:=rx
 obtain ⟨t',rfl⟩:=ry
 exact in_str (aL I q rfl)
theorem rG:OpR X (compareOp .IsNot) (fun x y H Q=>y = .non∧Q (.bl (!decide (x = .non))) H):=by
 intro pins s σ H x y v u Q I rx ry h
 obtain ⟨rfl,q⟩:=h
 cases ry
 refine isnot_none_gen (aL I q ?_)
 cases x <;> first
  | (cases rx;rfl)
  | (obtain ⟨t,rfl⟩:=rx;rfl)
theorem aP (b:Expr){op:CmpOp}(h:op ≠ .In:=by decide)(h2:op ≠ .NotIn:=by decide):behindInMarks op b=false:=by
 have e1:(op == CmpOp.In)=false:=by cases op <;> first | rfl | exact absurd rfl h
 have e2:(op == CmpOp.NotIn)=false:=by cases op <;> first | rfl | exact absurd rfl h2
 cases b <;> simp [behindInMarks,e1,e2]
theorem cY {op:CmpOp}{r:R2}(ho:OpR X (compareOp op) r)(ha:PE X a ta)(hb:PE X b tb)(hm:behindInMarks op b=false):PE X (.Compare a [op] [b] pos) (tOp r ta tb):=by
 intro pins s σ H Q I h
 exact wpAny_Compare1 (wG ha hb I h fun v u s2 x y H2 I2 rx ry q=>ho pins s2 σ H2 x y v u Q I2 rx ry q) hm
def oY (Q:(Bool→Hp→Prop)):V→Hp→Prop:=fun x H'=>IsB x H' Q
def rH (t:TE):TT:=fun σ H Q=>t σ H (oY Q)
theorem aK {op:CmpOp}{r:R2}(ho:OpR X (compareOp op) r)(ha:PE X a ta)(hb:PE X b tb)(hm:behindInMarks op b=false):PT X (.Compare a [op] [b] pos) (rH (tOp r ta tb)):=by
 intro pins s σ H Q I h
 refine wpAny_isTrue_Compare1 (thn (ha pins s σ H _ I h) fun v s1 ⟨x,H1,I1,r1,q1⟩=>thn (hb pins s1 σ H1 _ I1 q1) fun u s2 ⟨y,H2,I2,r2,q2⟩ =>
  thn (ho pins s2 σ H2 x y v u _ I2 r1 r2 q2) fun c s3 ⟨z,H3,I3,r3,k,e,q3⟩=>?_) hm
 subst e
 cases r3
 exact wpAny_truthy_bool ⟨H3,I3,q3⟩
def qK (r r':R2)(ta tb tc:TE):TE:=fun σ H Q=>ta σ H fun x H1=>tb σ H1 fun y H2=>r x y H2 fun z H3=>∃ k,z = .bl k ∧
 (if k=true then tc σ H3 fun w' H4=>r' y w' H4 Q else Q (.bl false) H3)
theorem oZ {op op':CmpOp}{r r':R2}(ho:OpR X (compareOp op) r)(ho':OpR X (compareOp op') r')(ha:PE X a ta)(hb:PE X b tb)(hc:PE X c tc)
  (hm:lastMarks [op,op'] [b,c]=false:=by with_unfolding_all rfl):PE X (.Compare a [op,op'] [b,c] pos) (qK r r' ta tb tc):=by
 intro pins s σ H Q I h
 refine Compare_chain (thn (ha pins s σ H _ I h) fun v s1 ⟨x,H1,I1,r1,q1⟩=>chain_link (thn (hb pins s1 σ H1 _ I1 q1) fun u s2 ⟨y,H2,I2,r2,q2⟩ =>
  thn (ho pins s2 σ H2 x y v u _ I2 r1 r2 q2) fun d s3 ⟨z,H3,I3,r3,k,e,q3⟩=>?_)) hm
 subst e
 cases r3
 refine wpAny_truthy_bool ?_
 cases k with
 | false=>exact ite_ff ⟨.bl false,H3,I3,rfl,q3⟩
 | true=>exact ite_tt (chain_last (thn (hc pins s3 σ H3 _ I3 q3) fun w' s4 zq45=>(by obtain ⟨z',H4,I4,r4,q4⟩:=zq45;exact ho' pins s4 σ H4 y z' u w' Q I4 r2 r4 q4)))
theorem o6 {op op':CmpOp}{r r':R2}(ho:OpR X (compareOp op) r)(ho':OpR X (compareOp op') r')(ha:PE X a ta)(hb:PE X b tb)(hc:PE X c tc)
  (hm:lastMarks [op,op'] [b,c]=false:=by with_unfolding_all rfl):PT X (.Compare a [op,op'] [b,c] pos) (rH (qK r r' ta tb tc)):=by
 intro pins s σ H Q I h
 refine isTrue_chain (thn (ha pins s σ H _ I h) fun v s1 ⟨x,H1,I1,r1,q1⟩=>test_link (thn (hb pins s1 σ H1 _ I1 q1) fun u s2 ⟨y,H2,I2,r2,q2⟩ =>
  thn (ho pins s2 σ H2 x y v u _ I2 r1 r2 q2) fun d s3 ⟨z,H3,I3,r3,k,e,q3⟩=>?_)) hm
 subst e
 cases r3
 refine wpAny_truthy_bool ?_
 cases k with
 | false =>
  obtain ⟨k',e',q'⟩:=q3
  cases e'
  exact ite_ff ⟨H3,I3,q'⟩
 | true =>
  refine ite_tt (test_last (thn (hc pins s3 σ H3 _ I3 q3) fun w' s4 ⟨z',H4,I4,r4,q4⟩=>thn (ho' pins s4 σ H4 y z' u w' _ I4 r2 r4 q4) fun d' s5 zq46=>?_))
  obtain ⟨z2,H5,I5,r5,k2,e2,q5⟩:=zq46
  subst e2
  cases r5
  exact wpAny_truthy_bool ⟨H5,I5,q5⟩
def yC (K:PySem.W.Frag)(x:V)(H:Hp)(k:Bool):Prop :=
 match x with
 | .non=>k=false
 | .bl b=>k=b
 | .int i=>k=(i != 0)
 | .str y=>y.length≤sizeLine∧k=((y.length:Int) != 0)
 | .byt y=>y.size≤sizeLine∧k=((y.size:Int) != 0)
 | .ref p=>(∃ xs,SqL K H p xs∧k=!xs.isEmpty) ∨ (∃ xs,SqT K H p xs∧k=!xs.isEmpty) ∨ ∃ kvs,H p=some (.dK kvs)∧k=!kvs.isEmpty
 | _=>False
theorem kr {κ:Type}{kvs:List (κ × V)}{vs:List (κ × Value)}(r:KV kvs vs):(!vs.isEmpty)=!kvs.isEmpty:=by
 cases r <;> rfl
theorem fi {xs:List V}{its:List Value}(r:aY xs its):(!its.toArray.isEmpty)=!xs.isEmpty:=by
 cases r <;> simp
theorem dz:(sizeLine:Nat) < 2 ^ 63:=by rw [sizeLine_eq]; decide
inductive rJ (K:PySem.W.Frag)(x:V)(H:Hp)(Q:Bool→Hp→Prop):Prop
 | mk:∀ k,(yC K x H k)→(Q k H)→rJ K x H Q
theorem qL:yz X (rJ X.K):=by
 intro pins s σ H x v Q I rx h
 obtain ⟨k,e,q⟩:=h
 have hl:=dz
 have hs:sizeLine=16777216:=sizeLine_eq
 cases x with
 | non =>
  cases rx
  have e':k=false:=e
  subst e'
  exact truthy_none ⟨H,I,q⟩
 | bl b =>
  cases rx
  have e':k=b:=e
  subst e'
  exact wpAny_truthy_bool ⟨H,I,q⟩
 | int i =>
  obtain ⟨t,rfl⟩:=rx
  have e':k=(i != 0):=e
  subst e'
  exact PySem.P.truthy_int ⟨H,I,q⟩
 | str y =>
  obtain ⟨t,rfl⟩:=rx
  obtain ⟨hy,e'⟩:y.length≤sizeLine∧k=((y.length:Int) != 0):=e
  subst e'
  exact PySem.P.truthy_str (by omega) ⟨H,I.tok _,q⟩
 | byt y =>
  obtain ⟨t,rfl⟩:=rx
  obtain ⟨hy,e'⟩:y.size≤sizeLine∧k=((y.size:Int) != 0):=e
  subst e'
  exact PySem.W.truthy_bytes (by omega) ⟨H,I.tok _,q⟩
 | ref p =>
  cases rx
  have e':(∃ xs,SqL X.K H p xs∧k=!xs.isEmpty) ∨ (∃ xs,SqT X.K H p xs∧k=!xs.isEmpty) ∨ ∃ kvs,H p=some (.dK kvs)∧k=!kvs.isEmpty:=e
  rcases e' with ⟨xs,hx,e'⟩ | ⟨xs,hx,e'⟩ | ⟨kvs,hx,e'⟩
  ·subst e'
   obtain ⟨its,r,pl,hz⟩:=I.list hx
   have hlen:=r.length
   exact wpAny_truthy_list pl.isList (by simp only [List.size_toArray];omega) ⟨H,I.tok _,by rw [fi r];exact q⟩
  ·subst e'
   obtain ⟨its,r,pl,hz⟩:=I.tuple hx
   have hlen:=r.length
   exact truthy_tuple pl (by simp only [List.size_toArray];omega) ⟨H,I.tok _,by rw [fi r];exact q⟩
  ·subst e'
   obtain ⟨hz,hS,vs,r,m⟩:kvs.length≤sizeLine∧(p == sysModules)=false∧∃ vs,KV kvs vs∧s.heap.DictOf (aN X.prog X.w) p vs:=I.hok p _ hx
   have hlen:kvs.length=vs.length:=Paired.length r
   exact wpAny_truthy_dict hS m (by omega) ⟨H,I.tok _,by rw [kr r];exact q⟩
 | _=>exact (show False from e).elim
def rK (K:PySem.W.Frag)(Q:(Bool→Hp→Prop)):V→Hp→Prop:=fun x H'=>rJ K x H' Q
def yD (K:PySem.W.Frag)(ta:TE):TT:=fun σ H Q=>ta σ H (rK K Q)
theorem bg (ha:PE X a ta)(he:∀ whole,isTrue a X.env whole=(do let v ← whole; standAt a.pos; holding [v] (truthy v))) :
  PT X a (yD X.K ta):=by
 intro pins s σ H Q I h
 exact isTrue_plain (thn (ha pins s σ H _ I h) fun v s1 zq47=>(by obtain ⟨x,H1,I1,r1,q1⟩:=zq47;exact qL pins s1 σ H1 x v Q I1 r1 q1)) (he _)
inductive dA  (x:V)(y:V)(H:Hp)(Q:VK):Prop
 | mk:∀ i j,(x = .str i)→(y = .str j)→(i.length+j.length≤sizeLine)→(Q (.str (i++j)) H)→dA x y H Q
theorem aW:OpR X (binaryOp .Add) dA:=by
 intro pins s σ H x y v u Q I rx ry h
 obtain ⟨i,j,rfl,rfl,hz,q⟩:=h
 obtain ⟨t,rfl⟩:=rx
 obtain ⟨t',rfl⟩:=ry
 exact add_str (fun t' tk=>⟨.str (i++j),H,I.tok _,⟨_,rfl⟩,q⟩) hz
theorem bW {x:V}{us:List Value}(r:aY [x] us):∃ u,us=[u]∧bc x u:=by
 cases r with
 | cons r1 r2=>cases r2;exact ⟨_,rfl,r1⟩
theorem o7 {x y:V}{us:List Value}(r:aY [x,y] us):∃ u w',us=[u,w']∧bc x u∧bc y w':=by
 cases r with
 | cons r1 r2 =>
  cases r2 with
  | cons r3 r4=>cases r4;exact ⟨_,_,rfl,r1,r3⟩
inductive d7  (xs:List V)(H:Hp)(Q:VK):Prop
 | mk:∀ i j,(xs=[.int i,.int j])→(Q (.int (if j > i then j else i)) H)→d7 xs H Q
theorem lH (hc:X.calm=true):b8 X (.builtin "max") d7:=by
 intro pins s σ H xs us Q I r h
 obtain ⟨i,j,rfl,q⟩:=h
 obtain ⟨u,w',rfl,⟨t,rfl⟩,⟨t',rfl⟩⟩:=o7 r
 refine max_two_ints (I.ok.hd hc) fun h' tk k=>⟨_,H,I.kept k,?_,q⟩
 by_cases hj:j > i
 ·rw [if_pos hj,if_pos hj];exact ⟨_,rfl⟩
 ·rw [if_neg hj,if_neg hj];exact ⟨_,rfl⟩
theorem lI:b8 X (.type "int") (fun xs H Q=>(∃ i,xs=[.int i]∧Q (.int i) H) ∨ ∃ k,xs=[.bl k]∧Q (.int (if k then 1 else 0)) H):=by
 intro pins s σ H xs us Q I r h
 rcases h with ⟨i,rfl,q⟩ | ⟨k,rfl,q⟩
 ·obtain ⟨u,rfl,t,rfl⟩:=bW r
  exact call_int_int ⟨.int i,H,I,⟨_,rfl⟩,q⟩
 ·obtain ⟨u,rfl,r1⟩:=bW r
  cases r1
  exact call_int_bool ⟨.int (if k then 1 else 0),H,I.tok _,⟨_,rfl⟩,q⟩
end
structure wI (h:Heap) (x dx C:Addr) (mA:Str→Option Value):Prop where
 obj:h.get? x=some (PySem.W.instObj C dx)
 ns:h.Ns1 dx mA
 ne:dx≠x
theorem lJ {h:Heap}{dx:Addr}{mA:Str→Option Value}(n:h.Ns1 dx mA):∃ od,h.get? dx=some od∧∀ name,PySem.W.lookIn name od=some (mA name):=by
 obtain ⟨o,es,ep,ho,hd,hk,_,hm⟩:=n
 refine ⟨o,ho,fun name=>?_⟩
 have e:=hm name
 unfold nsFind findBy at e
 rw [← Array.find?_toList] at e
 unfold PySem.W.lookIn
 rw [hd]
 dsimp only
 split
 ·rename_i y q
  rw [q] at e
  exact congrArg some e
 ·rename_i q
  rw [q] at e
  have a:es.toList.any (·.refKey)=false:=by
   rw [List.any_eq_false]
   intro y hy
   obtain ⟨z,t,hkey⟩:=hk y (Array.mem_toList_iff.mp hy)
   simp [DictEntry.refKey,hkey]
  have a':¬ es.toList.any (·.refKey)=true:=by rw [a];exact Bool.false_ne_true
  rw [if_neg a']
  exact congrArg some e
theorem wI.look {h:Heap}{x dx C:Addr}{mA:Str→Option Value}(I:wI h x dx C mA):∃ od,PySem.W.InstAt h x (PySem.W.instObj C dx) C (some od)∧∀ name,PySem.W.lookIn name od=some (mA name) :=
 let ⟨od,ho,hl⟩:=lJ I.ns
 ⟨od,⟨I.obj,rfl,rfl,ho⟩,hl⟩
section
variable {prog:Program} {w:World} {A:Around} {E:Value→Shared→Prop} {s:Shared} {K:PySem.W.Frag} {x dx C f:Addr} {mA:Str→Option Value} {name:Str} {v:Value}
end
def ku (f:Str)(v:V):List (Str × V)→List (Str × V)
 | []=>[(f,v)]
 | (g,x)::r=>if g=f then (g,v)::r else (g,x)::ku f v r
theorem d8 (f g:Str)(v:V):∀ fs:List (Str × V),(ku f v fs).lookup g=if g=f then some v else fs.lookup g
 | []=>by
  show List.lookup g [(f,v)]=_
  by_cases h:g=f
  ·have hb:(g == f)=true:=beq_iff_eq.mpr h
   simp only [List.lookup,hb,if_pos h]
  ·have hb:(g == f)=false:=beq_eq_false_iff_ne.mpr h
   simp only [List.lookup,hb,if_neg h]
 | (k,x)::r=>by
  have ih:=d8 f g v r
  rw [show ku f v ((k,x)::r)=(if k=f then (k,v)::r else (k,x)::ku f v r) from rfl]
  by_cases hk:k=f
  ·rw [if_pos hk]
   by_cases h:g=k
   ·have hb:(g == k)=true:=beq_iff_eq.mpr h
    simp only [List.lookup,hb,if_pos (h.trans hk)]
   ·have hb:(g == k)=false:=beq_eq_false_iff_ne.mpr h
    simp only [List.lookup,hb,if_neg (fun e:g=f=>h (e.trans hk.symm))]
  ·rw [if_neg hk]
   by_cases h:g=k
   ·have hb:(g == k)=true:=beq_iff_eq.mpr h
    simp only [List.lookup,hb,if_neg (fun e:g=f=>hk (h.symm.trans e))]
   ·have hb:(g == k)=false:=beq_eq_false_iff_ne.mpr h
    simp only [List.lookup,hb]
    exact ih
theorem d9 (f:Str)(v:V):∀ fs:List (Str × V),f∈(ku f v fs).map (·.1)∧∀ g,g∈fs.map (·.1)→g∈(ku f v fs).map (·.1)
 | []=>⟨by simp [ku],fun g h=>by simp at h⟩
 | (k,x)::r=>by
  obtain ⟨i1,i2⟩:=d9 f v r
  rw [show ku f v ((k,x)::r)=(if k=f then (k,v)::r else (k,x)::ku f v r) from rfl]
  by_cases hk:k=f
  ·rw [if_pos hk]
   subst hk
   exact ⟨by simp,fun g h=>by simpa using h⟩
  ·rw [if_neg hk]
   refine ⟨?_,fun g h=>?_⟩
   ·rw [List.map_cons]
    exact List.mem_cons_of_mem _ i1
   ·rw [List.map_cons] at h ⊢
    rcases List.mem_cons.mp h with e | e
    ·exact List.mem_cons.mpr (.inl e)
    ·exact List.mem_cons_of_mem _ (i2 g e)
theorem jv.some_of {v:V}{o:Option Value}(r:jv (some v) o):∃ u,o=some u∧bc v u:=by
 cases o with
 | none=>exact (show False from r).elim
 | some u=>exact ⟨u,rfl,r⟩
section
variable {P:Program} {w:World} {H H':Hp} {h h':Heap} {a C dx:Addr} {fs fs':List (Str × V)}
theorem rL (hok:HOk P w H h)(e:H a=some (.ins C dx fs)):∃ mA,wI h a dx C mA∧(∀ f,jv (fs.lookup f) (mA f))∧PySem.Within mA (fs.map (·.1))∧fs.length≤1000∧H dx=some (.own a):=by
 obtain ⟨d,z,ne,ob,mA,n,r,q⟩:=(show a_ P w H h a (.ins C dx fs) from hok a _ e)
 exact ⟨mA,⟨ob,n,ne⟩,r,q,z,d⟩
end
structure Cls (K:PySem.W.Frag) (C:Addr):Prop where
 pg:PySem.W.plainGet K C Str.empty=true
 hd:PySem.W.hasDictIn K C=true
 po:PySem.W.plainOver K C=true
 sa:PySem.W.findIn K (.ref C) "__setattr__" = some (some (.builtin "object.__setattr__"))
theorem Cls.get {K:PySem.W.Frag}{C:Addr}(c:Cls K C)(f:Str):PySem.W.plainGet K C f=true:=c.pg
section
variable {X:Cx} {pins:List (Addr × Obj)} {σ:St} {H:Hp} {s:Shared} {a C dx:Addr} {fs:List (Str × V)} {f:Str} {v:V} {A:Around} {E:Value→Shared→Prop}
end
section
variable {X:Cx} {o e value:Expr} {f:Str} {pos pos' tpos:Pos} {ta tv:TE}
end
section
variable {X:Cx} {pins:List (Addr × Obj)} {σ:St} {H:Hp} {s:Shared} {A:Around} {E:Value→Shared→Prop} {Q:Value→Shared→Prop} {c:Value} {b:Bool}
inductive fC (K:PySem.W.Frag)(H:Hp):V→Value→Prop where
 | non:fC K H .non (.type "NoneType")
 | bl (x:Bool):fC K H (.bl x) (.type "bool")
 | int (i:Int):fC K H (.int i) (.type "int")
 | str (x:Str):fC K H (.str x) (.type "str")
 | flt (x:UInt64):fC K H (.flt x) (.type "float")
 | lst {a:Addr} {xs:List V} (e:H a=some (.lst xs)):fC K H (.ref a) (.type "list")
 | frz {a:Addr} {o:Obj} {xs:List V} (e:H a=some (.frz o (.lst xs))):fC K H (.ref a) (.type "list")
 | tup {a:Addr} {xs:List V} (e:H a=some (.tup xs)):fC K H (.ref a) (.type "tuple")
 | dK {a:Addr} {kvs:List (Key × V)} (e:H a=some (.dK kvs)):fC K H (.ref a) (.type "dict")
 | dT {a:Addr} {kvs:List (List Key × V)} (e:H a=some (.dT kvs)):fC K H (.ref a) (.type "dict")
 | ins {a C dx:Addr} {fs:List (Str × V)} (e:H a=some (.ins C dx fs)) (cl:Cls K C) (ha:PySem.W.findIn K (.ref C) "__class__" = some (some (.builtin "object.__class__")))
   (hn:PySem.W.specialIn K (.builtin "object.__class__") "__get__" = some (some (.builtin "getset_descriptor.__get__"))) (htk:PySem.W.takesIn K (.builtin "object.__class__")=some true)
   (hm:PySem.W.mroIn K C (.type "object")=some true):fC K H (.ref a) (.ref C)
theorem lK {x:V}{u t:Value}(I:Inv X pins σ H s)(rx:bc x u)(ty:fC X.K H x t)(e:PySem.W.kitOne X.K t c=some b)(h:∀ tk,Q (.bool b) { s with toks:=tk }) :
  wpAny (model X.prog X.w) A (call (.builtin "isinstance") [u,c]) Q E s:=by
 cases ty with
 | non=>cases (show u=Value.none from rx);exact PySem.W.kia_one PySem.W.kitx_none I.kIn True.intro e (fun z=>nomatch z) h
 | bl y=>cases (show u=Value.bool y from rx);exact PySem.W.kia_one PySem.W.kitx_bool I.kIn True.intro e (fun z=>nomatch z) h
 | int i=>obtain ⟨t,q⟩:=(show ∃ t,u=Value.int i t from rx);cases q;exact PySem.W.kia_one PySem.W.kitx_int I.kIn True.intro e (fun z=>nomatch z) h
 | str y=>obtain ⟨t,q⟩:=(show ∃ t,u=Value.str y t from rx);cases q;exact PySem.W.kia_one PySem.W.kitx_str I.kIn True.intro e (fun z=>nomatch z) h
 | flt y=>obtain ⟨t,q⟩:=(show ∃ t,u=Value.float y t from rx);cases q;exact PySem.W.kia_one PySem.W.kitx_float I.kIn True.intro e (fun z=>nomatch z) h
 | @lst a xs ea =>
  cases (show u=Value.ref a from rx)
  obtain ⟨_,_,n,_,h1⟩:=(show a_ X.prog X.w H s.heap a (.lst xs) from I.hok a _ ea)
  exact PySem.W.kia_one PySem.W.kitx_list I.kIn ⟨_,h1,rfl⟩ e (fun z=>nomatch z) h
 | @frz a ob xs ea =>
  cases (show u=Value.ref a from rx)
  obtain ⟨_,_,_,n,_,h1⟩:=(show a_ X.prog X.w H s.heap a (.frz ob (.lst xs)) from I.hok a _ ea)
  exact PySem.W.kia_one PySem.W.kitx_list I.kIn ⟨_,h1,rfl⟩ e (fun z=>nomatch z) h
 | @tup a xs ea =>
  cases (show u=Value.ref a from rx)
  obtain ⟨_,_,_,p,_⟩:=(show a_ X.prog X.w H s.heap a (.tup xs) from I.hok a _ ea)
  obtain ⟨o,h1,h2,_⟩:=p
  exact PySem.W.kia_one PySem.W.kitx_tuple I.kIn ⟨o,h1,h2⟩ e (fun z=>nomatch z) h
 | @dK a kvs ea =>
  cases (show u=Value.ref a from rx)
  obtain ⟨_,_,vs,_,p⟩:=(show a_ X.prog X.w H s.heap a (.dK kvs) from I.hok a _ ea)
  obtain ⟨o,es,ep,h1,h2,_⟩:=p
  exact PySem.W.kia_one PySem.W.kitx_dict I.kIn ⟨o,h1,h2.1⟩ e (fun z=>nomatch z) h
 | @dT a kvs ea =>
  cases (show u=Value.ref a from rx)
  obtain ⟨_,_,xs,_,o,es,ep,h1,h2,_⟩:=(show a_ X.prog X.w H s.heap a (.dT kvs) from I.hok a _ ea)
  exact PySem.W.kia_one PySem.W.kitx_dict I.kIn ⟨o,h1,h2.1⟩ e (fun z=>nomatch z) h
 | @ins a C dx fs ea cl ha hn htk hm =>
  cases (show u=Value.ref a from rx)
  obtain ⟨mA,O,_⟩:=rL I.hok ea
  obtain ⟨od,J,_⟩:=O.look
  exact PySem.W.kia_one (PySem.W.kitx_own (cl.get _) cl.hd ha hn htk hm) I.kIn J e (fun z=>nomatch z) h
end
structure cZ (k:Nat) (A:Around):Prop where
 hd:A.handled=none
 dp:A.depth+3*k+5 < recursionLimit
 un:A.units+16*k+200 < cLine
 gd:A.guards=some []
theorem cZ.mono {j k:Nat}{A:Around}(r:cZ k A)(h:j≤k):cZ j A:=⟨r.hd,by have:=r.dp; omega,by have:=r.un; omega,r.gd⟩
theorem cZ.deeper {k:Nat}{A:Around}(r:cZ (k+1) A)(env:Env):cZ k (A.deeper env) :=
 ⟨r.hd,by have:=r.dp;show A.depth+1+3*k+5 < _;omega,by have:=r.un;show A.units+3+16*k+200 < _;omega,r.gd⟩
theorem kz {A:Around}{C:Addr}{us:List Value}{kw:List (Str × Value)}:(A.under (.builtin "type.__call__" ⟨.ref C::us,kw⟩)).depth=A.depth+1:=by
 first | rfl | simp [Around.under,Code.weight,Code.isCreation,Code.isGuard,Code.isCaller,Code.frames,Code.isFrame,guardIds]
theorem kA {A:Around}{C:Addr}{us:List Value}{kw:List (Str × Value)}:(A.under (.builtin "type.__call__" ⟨.ref C::us,kw⟩)).units=A.units+1:=by
 first | rfl | simp [Around.under,Code.cUnits,Code.frames,Code.isFrame]
theorem cZ.make {k:Nat}{A:Around}(r:cZ (k+1) A)(C:Addr)(us:List Value)(kw:List (Str × Value)):cZ k (A.under (.builtin "type.__call__" ⟨.ref C::us,kw⟩)) :=
 ⟨r.hd,by have:=r.dp;rw [kz];omega,by have:=r.un;rw [kA];omega,by have g:=r.gd;simpa [Around.under,Code.guards,pushGuards,Code.isGuard,guardIds] using g⟩
theorem cZ.depth {k:Nat}{A:Around}(r:cZ k A):A.depth < recursionLimit:=by have:=r.dp; omega
theorem cZ.units {k:Nat}{A:Around}(r:cZ k A):A.units+64 < cLine:=by have:=r.un; omega
def yE:TA:=fun _ H Q=>Q [] H
def o8 (Q:(List V→Hp→Prop))(x:V):List V→Hp→Prop:=fun xs H2=>Q (x::xs) H2
def o9 (tr:TA)(σ:St)(Q:(List V→Hp→Prop)):V→Hp→Prop:=fun x H1=>tr σ H1 (o8 Q x)
def wJ (ta:TE)(tr:TA):TA:=fun σ H Q=>ta σ H (o9 tr σ Q)
section
variable {X:Cx} {e:Expr} {es:List Expr} {te:TE} {t:TA} {pos:Pos}
theorem ag:PA X [] yE:=fun _ _ _ _ H Q I h=>Calls.spliced_nil ⟨[],H,I,.nil,h⟩
theorem aa (ha:PE X e te)(hr:PA X es t)(hs:starEach (e::es) X.env=(false,eval e X.env)::starEach es X.env:=by rfl):PA X (e::es) (wJ te t):=by
 intro pos pins s σ H Q I h
 rw [hs]
 show wpAny _ _ (spliced ((false,eval e X.env)::backTo pos (starEach es X.env))) _ _ s
 refine Calls.spliced_cons (thn (ha pins s σ H _ I h) fun u s1 zq54=>?_)
 obtain ⟨x,H1,I1,r1,q1⟩:=zq54
 exact thn (hr pos pins s1 σ H1 _ I1 q1) fun us s2 zq55=>(by obtain ⟨xs,H2,I2,r2,q2⟩:=zq55;exact ⟨x::xs,H2,I2,.cons r1 r2,q2⟩)
def rM (Q:VK):List V→Hp→Prop:=fun xs H1=>xs.length≤sizeLine∧∀ p,H1 p=none→Q (.ref p) (upd H1 p (.tup xs))
def yF (t:TA):TE:=fun σ H Q=>t σ H (rM Q)
def rN (Q:VK):List V→Hp→Prop:=fun xs H1=>xs.length≤sizeLine∧∀ p,H1 p=none→Q (.ref p) (upd H1 p (.lst xs))
def yG (t:TA):TE:=fun σ H Q=>t σ H (rN Q)
theorem qM {x1}(h:PA X es t):PE X (.Tuple es x1 pos) (yF t):=by
 intro pins s σ H Q I hq
 refine wpAny_Tuple_spliced (thn (h pos pins s σ H _ I hq) fun us s1 ⟨xs,H1,I1,r,z,q⟩=>⟨by rw [← r.length];exact z,?_⟩)
 have hf:H1 s1.heap.objs.size=none:=I1.hok.fresh (Nat.le_refl _)
 refine ⟨.ref s1.heap.objs.size,upd H1 s1.heap.objs.size (.tup xs),I1.laid (t':=s1.toks) (fun b u e=>Heap.get?_push_of_some _ e) (Nat.le_refl _) ?_,rfl,q _ hf⟩
 exact ⟨z,us,r,⟨_,Heap.get?_push_size _ rfl,rfl,_,rfl⟩,.new _ _ rfl⟩
theorem jA (h:PA X es t):PE X (.List es pos) (yG t):=by
 intro pins s σ H Q I hq
 refine wpAny_List_spliced (thn (h pos pins s σ H _ I hq) fun us s1 ⟨xs,H1,I1,r,z,q⟩=>⟨by rw [← r.length];exact z,?_⟩)
 have hf:H1 s1.heap.objs.size=none:=I1.hok.fresh (Nat.le_refl _)
 refine ⟨.ref s1.heap.objs.size,upd H1 s1.heap.objs.size (.lst xs),I1.laid (t':=s1.toks) (fun b u e=>Heap.get?_push_of_some _ e) (Nat.le_refl _) ?_,rfl,q _ hf⟩
 exact ⟨z,us,0,r,Heap.get?_push_size _ rfl⟩
end
abbrev Sp:=List V→Hp→VK→XK→Prop
abbrev CXT:=List Env→Hp→Shared→XK→Value→Shared→Prop
structure rO (P:Program) (w:World) (K:PySem.W.Frag) (mg:Str→Option Value) (base:Heap) (A:Around) (outer:List Env) (s:Shared) (H:Hp):Prop where
 frames:A.frames=some outer
 mod:Mod K mg base
 bs:∀ b o,base.get? b=some o→s.heap.get? b=some o∧H b=none
 bsz:base.objs.size≤s.heap.objs.size
 funs:s.heap.FunFrames base outer
 frf:∀ b∈frs outer,H b=none
 hok:HOk P w H s.heap
 bare:AllBare s.gens
def CE (outer:List Env)(P:Program)(w:World)(H:Hp)(s:Shared)(Q:VK)(u:Value)(s':Shared):Prop :=
 ∃ v H',s'.os=s.os∧AllBare s'.gens∧Un (frs outer) [] H H' s.heap s'.heap∧HOk P w H' s'.heap∧bc v u∧Q v H'
def CR (CX:CXT)(outer:List Env)(P:Program)(w:World)(H:Hp)(s:Shared)(Q:VK)(E:XK)(r:Result)(s':Shared):Prop :=
 match r with
 | .ok (.ret u)=>CE outer P w H s Q u s'
 | .ok _=>False
 | .error e=>CX outer H s E e s'
structure fj (P:Program) (w:World) (K:PySem.W.Frag) (mg:Str→Option Value) (base:Heap) (CX:CXT) (k:Nat) (f:Addr) (fd:FuncData) (ps:List Str) (sp:Sp):Prop where
 len:∀ vs H Q E,sp vs H Q E→vs.length=ps.length
 run:∀ (A:Around) (outer:List Env) (s:Shared) (H:Hp) (args:Args) (us:List Value) (vs:List V) (Q:VK) (E:XK),cZ k A→rO P w K mg base A outer s H→BindsTo s fd args (ps.zip us)→aY vs us→sp vs H Q E →
  codeAny (model P w) A (.call (.ref f) args) (CR CX outer P w H s Q E) s
theorem fj.imp {P:Program}{w:World}{K:PySem.W.Frag}{mg:Str→Option Value}{base:Heap}{CX:CXT}{k:Nat}{f:Addr}{fd:FuncData}{ps:List Str}{sp sp':Sp}(F:fj P w K mg base CX k f fd ps sp)
  (h:∀ vs H Q E,sp' vs H Q E→sp vs H Q E):fj P w K mg base CX k f fd ps sp' :=
 ⟨fun vs H Q E q=>F.len vs H Q E (h _ _ _ _ q),fun A outer s H args us vs Q E hr he hb hv hs=>F.run A outer s H args us vs Q E hr he hb hv (h _ _ _ _ hs)⟩
theorem rO.make {P:Program}{w:World}{K:PySem.W.Frag}{mg:Str→Option Value}{base:Heap}{A:Around}{outer:List Env}{s:Shared}{H:Hp}(e:rO P w K mg base A outer s H)(C:Addr)(us:List Value)(kw:List (Str × Value)) :
  rO P w K mg base (A.under (.builtin "type.__call__" ⟨.ref C::us,kw⟩)) outer s H:=⟨by first | exact e.frames | (simpa [Around.under,Code.envs,Code.isFrame,pushEnvs] using e.frames),e.mod,e.bs,e.bsz,e.funs,e.frf,e.hok,e.bare⟩
section
variable {X:Cx} {pins:List (Addr × Obj)} {σ:St} {H:Hp} {s s':Shared}
theorem Inv.env0 (I:Inv X pins σ H s):rO X.prog X.w X.K X.mg X.base X.A X.stack s H :=
 ⟨I.ok.frames,I.ok.mod,I.bs,Nat.le_trans I.ok.bsz I.sz,I.stack,I.stkFree,I.hok,I.bare⟩
theorem Inv.after {Q:VK}{u:Value}(I:Inv X pins σ H s)(h:CE X.stack X.prog X.w H s Q u s'):EP X pins σ Q u s':=by
 obtain ⟨v,H',os,bare,un,hok,r,q⟩:=h
 obtain ⟨hh,g,d,t,os'⟩:=s'
 obtain rfl:os'=s.os:=os
 exact ⟨v,H',I.call (h':=hh) (g':=g) (d':=d) (t':=t) (ch:=[]) un hok bare (fun b z=>absurd z (by simp)),r,q⟩
end
def o_ (sp:Sp)(dvs:List V)(E:XK)(Q:VK):List V→Hp→Prop:=fun vs H1=>sp (vs++dvs) H1 Q E
def rP (sp:Sp)(dvs:List V)(E:XK)(t:TA):TE:=fun σ H Q=>t σ H (o_ sp dvs E Q)
def ff (K:PySem.W.Frag)(fd:FuncData)(ps:List Str)(ds:List Value):Prop :=
 ∀ (s:Shared) (us:List Value),K.In s.heap→(us++ds).length=ps.length→BindsTo s fd ⟨us,[]⟩ (ps.zip (us++ds))
theorem ff.all {K:PySem.W.Frag}{fd:FuncData}{ps:List Str}(h:∀ us:List Value,us.length=ps.length→bindArgs fd ⟨us,[]⟩=pure (ps.zip us)):ff K fd ps []:=fun s us _ hl=>by
 rw [List.append_nil] at hl ⊢
 exact .of_eq (h us hl)
def gE (CX:CXT)(X:Cx)(E:XK):Prop:=∀ (pins:List (Addr × Obj)) (σ:St) (H:Hp) (s:Shared) (e:Value) (s':Shared),Inv X pins σ H s→CX X.stack H s E e s'→X.xe e s'
section
variable {X:Cx} {CX:CXT} {k:Nat} {f C:Addr} {fd:FuncData} {ps:List Str} {sp:Sp} {dvs:List V} {ds:List Value} {E:XK} {x m:Str} {p pos apos:Pos} {e o:Expr} {es:List Expr} {ta:TE} {t:TA}
theorem uI {pins:List (Addr × Obj)}{σ:St}{H:Hp}{s:Shared}{Q:VK}{us:List Value}{vs:List V}(F:fj X.prog X.w X.K X.mg X.base CX k f fd ps sp)(hr:cZ k X.A)(hb:ff X.K fd ps ds)(hd:aY dvs ds)(hx:gE CX X E)
  (I:Inv X pins σ H s) (r:aY vs us) (h:sp (vs++dvs) H Q E):wpAny (model X.prog X.w) X.A (call (.ref f) us) (EP X pins σ Q) X.xe s:=by
 have r2:aY (vs++dvs) (us++ds):=r.append hd
 have hl:(us++ds).length=ps.length:=by rw [← r2.length];exact F.len _ _ _ _ h
 refine wpAny_call (codeAny_mono (F.run X.A X.stack s H ⟨us,[]⟩ (us++ds) (vs++dvs) Q E hr I.env0 (hb s us I.kIn hl) r2 h) fun r s' hq=>?_)
 cases r with
 | error e=>exact hx pins σ H s e s' I hq
 | ok fl =>
  cases fl with
  | ret u=>exact I.after hq
  | next=>exact False.elim hq
  | brk=>exact False.elim hq
  | cont=>exact False.elim hq
theorem lL (F:fj X.prog X.w X.K X.mg X.base CX k f fd ps sp)(hr:cZ k X.A)(hg:Gl X x)(hm:X.mg x=some (.ref f))(hk:PySem.W.keepIn X.K (.ref f)=true)(hb:ff X.K fd ps ds)(hd:aY dvs ds)(hx:gE CX X E)
  (ha:PA X (e::es) t) (hdb:(x == ("__debug__":Str))=false:=by decide) (he:starEach (e::es) X.env=(false,eval e X.env)::starEach es X.env:=by rfl) (hpl:(backTo pos (starEach es X.env)).any (·.1)=false:=by rfl) :
  PE X (.Call (.Name x p) (e::es) [] pos) (rP sp dvs E t):=by
 intro pins s σ H Q I h
 refine wpAny_Call_Name_kw (dX I hg hm ?_ hdb)
 refine PySem.W.callWith_K (h₀:=X.base) I.ok.mod.kin hk (thn (ha pos pins s σ H _ I h) fun us s1 ⟨vs,H1,I1,r,q⟩=>⟨I1.kIn,?_⟩) he hpl
 exact uI F hr hb hd hx I1 r q
end
section
variable {X:Cx} {CX:CXT} {k:Nat} {f C:Addr} {fd:FuncData} {ps ks:List Str} {sp:Sp} {E:XK} {x m:Str} {p pos apos kpos:Pos} {e o:Expr} {es:List Expr} {kws:List Keyword} {te ta:TE} {t tk:TA} {nm:Option Str}
variable {g:List Value→List Value→List Value} {gV:List V→List V→List V}
end
structure aC (N P:List Str) (sc:Scope):Prop where
 kind:sc.kind = .function
 co:sc.isCoroutine=false
 gen:sc.isGenerator=false
 nd:N.Nodup
 pre:N.take P.length=P
 par:∀ x∈P,sc.names.lookup x=some .local ∨ sc.names.lookup x=some .cell
 nofree:∀ y∈sc.names,y.2 ≠ .free
theorem gF {kindOf:Str→Option NameKind}{x:Str}:∀ {binds:List (Str × Value)} {m:Str→Option Value},(∀ v,(x,v)∉binds)→bindL kindOf binds m x=m x
 | [],_,_=>rfl
 | (n,v)::r,m,h=>by
  unfold bindL
  rw [gF fun w hw=>h w (List.mem_cons_of_mem _ hw)]
  split
  ·have:x≠n:=by rintro rfl;exact h v List.mem_cons_self
   simp [this]
  ·rfl
theorem gG {kindOf:Str→Option NameKind}{x:Str}:∀ {binds:List (Str × Value)} {m:Str→Option Value},(∀ v,(x,v)∉binds)→bindC kindOf binds m x=m x
 | [],_,_=>rfl
 | (n,v)::r,m,h=>by
  unfold bindC
  rw [gG fun w hw=>h w (List.mem_cons_of_mem _ hw)]
  split
  ·rfl
  ·have:x≠n:=by rintro rfl;exact h v List.mem_cons_self
   simp [this]
theorem gH {kindOf:Str→Option NameKind}{x:Str}{v:Value}:∀ {P:List Str} {vs:List Value} {i:Nat} {m:Str→Option Value},P.Nodup→P[i]? = some x→vs[i]? = some v→kindOf x=some .local →
  bindL kindOf (P.zip vs) m x=some v
 | [],_,_,_,_,h,_,_=>by simp at h
 | _::_,[],_,_,_,_,h,_=>by simp at h
 | p::P,w::vs,0,m,nd,h1,h2,hk=>by
  simp at h1 h2;subst h1;subst h2
  show bindL kindOf ((p,w)::P.zip vs) m p=_
  unfold bindL
  rw [gF fun v hv=>(List.nodup_cons.mp nd).1 (List.of_mem_zip hv).1,if_pos hk]
  simp
 | p::P,w::vs,i+1,m,nd,h1,h2,hk=>by
  show bindL kindOf ((p,w)::P.zip vs) m x=_
  unfold bindL
  exact gH (i:=i) (List.nodup_cons.mp nd).2 (by simpa using h1) (by simpa using h2) hk
theorem gI {kindOf:Str→Option NameKind}{x:Str}{v:Value}:∀ {P:List Str} {vs:List Value} {i:Nat} {m:Str→Option Value},P.Nodup→P[i]? = some x→vs[i]? = some v→kindOf x≠some .local →
  bindC kindOf (P.zip vs) m x=some v
 | [],_,_,_,_,h,_,_=>by simp at h
 | _::_,[],_,_,_,_,h,_=>by simp at h
 | p::P,w::vs,0,m,nd,h1,h2,hk=>by
  simp at h1 h2;subst h1;subst h2
  show bindC kindOf ((p,w)::P.zip vs) m p=_
  unfold bindC
  rw [gG fun v hv=>(List.nodup_cons.mp nd).1 (List.of_mem_zip hv).1,if_neg hk]
  simp
 | p::P,w::vs,i+1,m,nd,h1,h2,hk=>by
  show bindC kindOf ((p,w)::P.zip vs) m x=_
  unfold bindC
  exact gI (i:=i) (List.nodup_cons.mp nd).2 (by simpa using h1) (by simpa using h2) hk
def start (N:List Str)(vs:List V):St:=vs.map some++List.replicate (N.length - vs.length) none
def jB (CX:CXT)(P:Program)(w:World)(K:PySem.W.Frag)(mg:Str→Option Value)(base:Heap)(N:List Str)(qual:Str)(scope:Scope)(f:Addr)(cd:Value)(A:Around)(outer:List Env)(s:Shared)(H:Hp)(E:XK):Cx where
 prog:=P
 w:=w
 K:=K
 mg:=mg
 base:=base
 A:=A.deeper (envOfC qual scope s.heap.objs.size f cd)
 N:=N
 s₀:=s
 H₀:=H
 env:=envOfC qual scope s.heap.objs.size f cd
 outer:=outer
 stack:=envOfC qual scope s.heap.objs.size f cd::outer
 ex:=[]
 calm:=true
 fn:=fun _=>true
 pn:=[]
 xe:=fun e s'=>wpAny (model P w) (A.deeper (envOfC qual scope s.heap.objs.size f cd)) (leaving (envOfC qual scope s.heap.objs.size f cd) e) (fun _ s''=>CX outer H s E e s'') (fun e' s''=>CX outer H s E e' s'') s'
theorem jC {sc:Scope}{n:Nat}{x:Str}(h:sc.names.lookup x=some .cell):∃ c,(cellsFrom n sc.names []).lookup x=some c:=by
 have q:=PySem.W.cellsFrom_some sc.names n [] (.inl h)
 exact Option.isSome_iff_exists.mp q
theorem lM {CX:CXT}{P:Program}{w:World}{K:PySem.W.Frag}{mg:Str→Option Value}{base:Heap}{N ps:List Str}{qual:Str}{scope:Scope}{f:Addr}{cd:Value}{A:Around}{outer:List Env}{s s1:Shared}{H:Hp}{E:XK}{us:List Value}{vs:List V}
  (S:aC N ps scope) (hd:A.handled=none) (e0:rO P w K mg base A outer s H) (hl:vs.length=ps.length) (r:aY vs us)
  (x:InCallC s s.heap.objs.size (bindL (envOfC qual scope s.heap.objs.size f cd).kindOf (ps.zip us) fun _=>none) (cellsFrom (s.heap.objs.size+1) scope.names []) (bindC (envOfC qual scope s.heap.objs.size f cd).kindOf (ps.zip us) fun _=>none) s1) :
  Inv (jB CX P w K mg base N qual scope f cd A outer s H E) [] (start N vs) H s1:=by
 have hpl:ps.length≤N.length:=by have:=congrArg List.length S.pre;rw [List.length_take] at this;omega
 obtain ⟨h1,tk,rfl,hk⟩:=x.done
 have noA:∀ b:Addr,b∉(jB CX P w K mg base N qual scope f cd A outer s H E).ex:=fun b z=>absurd (show b∈([]:List Addr) from z) (by simp)
 refine ⟨⟨e0.mod,S.kind,rfl,rfl,Nat.le_refl _,fun y z c h1 h2=>?_,fun y hy=>?_,fun y c _ h=>?_,fun _=>hd,Around.frames_deeper e0.frames,.inr ⟨rfl,rfl⟩,fun b z=>absurd z (noA b),e0.bs,e0.bsz,fun b _ _=>noA b,fun b z=>absurd z (noA b),e0.funs,e0.frf⟩,
  rfl,e0.bare,Un.kept hk,⟨_,x.toInCall.ns,fun i y v h1 h2 h3=>?_⟩,fun y c h=>⟨_,x.cell y c h⟩,e0.hok.fresh (Nat.le_refl _),fun y c h=>?_,fun p hp=>absurd (show p∈([]:List (Addr × Obj)) from hp) (by simp),e0.hok.kept hk,?_⟩
 ·exact name_of_addr x.apart (PySem.mem_of_lookup h1) (PySem.mem_of_lookup h2)
 ·have hy:scope.names.lookup y=some .cell ∨ scope.names.lookup y=some .free:=hy
  rcases hy with hy | hy
  ·exact jC hy
  ·exact absurd rfl (S.nofree _ (PySem.mem_of_lookup hy))
 ·exact Nat.le_of_lt (x.above y c (PySem.mem_of_lookup h))
 ·have hi:i < vs.length:=by
   unfold start at h2
   by_cases hi:i < vs.length
   ·exact hi
   ·rw [List.getElem?_append_right (by simpa using hi)] at h2
    rw [List.getElem?_replicate] at h2
    split at h2 <;> cases h2
  have ha:vs[i]? = some v:=by
   unfold start at h2
   rw [List.getElem?_append_left (by simpa using hi),List.getElem?_map] at h2
   cases e:vs[i]? with
   | none=>rw [e] at h2;cases h2
   | some a=>rw [e] at h2;cases h2;rfl
  obtain ⟨u,hu,rv⟩:=r.get ha
  have hp:ps[i]? = some y:=by
   rw [← S.pre,List.getElem?_take_of_lt (by omega)];exact h1
  have ndP:ps.Nodup:=by rw [← S.pre];exact S.nd.sublist (List.take_sublist _ _)
  refine ⟨u,rv,?_⟩
  rcases S.par y (List.mem_of_getElem? hp) with k | k
  ·exact .inl ⟨k,gH ndP hp hu k⟩
  ·obtain ⟨c,e⟩:=jC (n:=s.heap.objs.size+1) k
   refine .inr ⟨.inl k,c,e,?_⟩
   have q:=x.cell y c e
   rw [gI ndP hp hu (by show scope.names.lookup y≠_;rw [k];decide)] at q
   exact q
 ·exact e0.hok.fresh (Nat.le_of_lt (x.above y c (PySem.mem_of_lookup h)))
 ·unfold start
  show _=N.length
  rw [List.length_append,List.length_map,List.length_replicate]
  omega
theorem uJ {CX:CXT}{P:Program}{w:World}{K:PySem.W.Frag}{mg:Str→Option Value}{base:Heap}{k:Nat}{f:Addr}{name qual:Str}{params:Arguments}{body:List Stmt}{scope:Scope}{dV kV doc pm cdv ct oc:Value}{an od:Option Addr}
  {osl:Array (Option Value)} {N ps:List Str} {sp:Sp} (lk:K.lookup f=some ⟨oc,od,.func (PySem.W.fnOf name qual params body scope dV kV doc pm an cdv ct),osl⟩) (hcd:PySem.W.codeIn K cdv qual=true) (S:aC N ps scope)
  (len:∀ vs H Q E,sp vs H Q E→vs.length=ps.length)
  (hbody:∀ (A:Around) (outer:List Env) (s:Shared) (H:Hp) (vs:List V) (Q:VK) (E:XK),cZ k (A.deeper (envOfC qual scope s.heap.objs.size f cdv))→sp vs H Q E →
   ∃ t,PSs (jB CX P w K mg base N qual scope f cdv A outer s H E) body t∧t { nx:=fun _ H'=>Q .non H',rt:=Q } (start N vs) H) :
  fj P w K mg base CX (k+1) f (PySem.W.fnOf name qual params body scope dV kV doc pm an cdv ct) ps sp:=by
 refine ⟨len,fun A outer s H args us vs Q E hr e0 hb r hsp=>?_⟩
 have hl:=len _ _ _ _ hsp
 have KX:K.In s.heap:=e0.mod.kin.keeps fun b o e=>(e0.bs b o e).1
 have lim:s.heap.NoLimit:=e0.mod.nolimit.keeps fun b o e=>(e0.bs b o e).1
 have hkind:∀ y∈ps.zip us,scope.names.lookup y.1=some .local ∨ (scope.names.lookup y.1=some .cell∧((cellsFrom (s.heap.objs.size+1) scope.names []).lookup y.1).isSome=true):=fun ⟨n,v⟩ hy=>by
  rcases S.par n (List.of_mem_zip hy).1 with q | q
  ·exact .inl q
  ·exact .inr ⟨q,PySem.W.cellsFrom_some _ _ _ (.inl q)⟩
 refine codeAny_call_function hr.depth (KX _ _ lk) rfl S.co S.gen rfl (PySem.W.codeRec_of KX hcd) (hb _ _ _ _ ?_)
 refine wpAny_newFunctionEnv_cells S.kind hkind fun env he s1 x=>?_
 subst he
 refine ⟨lim.keeps x.toInCall.keep,codeAny_func ?_⟩
 obtain ⟨t,ht,hq⟩:=hbody A outer s H vs Q E (hr.deeper _) hsp
 have I:Inv (jB CX P w K mg base N qual scope f cdv A outer s H E) [] (start N vs) H s1:=lM S hr.hd e0 hl r x
 refine wpAny_mono (ht [] s1 (start N vs) H _ I hq) (fun fl s' hs=>?_) fun e s' hs=>hs
 have fin:∀ {σ':St} {H':Hp} {v:V} {u:Value},Inv (jB CX P w K mg base N qual scope f cdv A outer s H E) [] σ' H' s'→bc v u→Q v H'→CE outer P w H s Q u s' :=
  fun {σ' H' v u} J rv q=>⟨v,H',J.os,J.bare,J.base,J.hok,rv,q⟩
 cases fl with
 | ret u =>
  obtain ⟨v,σ',H',J,rv,q⟩:=hs
  exact fin J rv q
 | next =>
  obtain ⟨σ',H',J,q⟩:=hs
  exact fin (v:=V.non) (u:=Value.none) J rfl q
 | brk =>
  obtain ⟨_,_,_,q⟩:=hs
  exact False.elim q
 | cont =>
  obtain ⟨_,_,_,q⟩:=hs
  exact False.elim q
section
variable {X:Cx} {x:Str} {p pos:Pos} {e:Expr} {es:List Expr} {t:TA} {id T:String} {r:List V→Hp→VK→Prop}
def uK (r:List V→Hp→VK→Prop)(Q:VK):List V→Hp→Prop:=fun vs H1=>r vs H1 Q
def tCB (r:List V→Hp→VK→Prop)(t:TA):TE:=fun σ H Q=>t σ H (uK r Q)
theorem aw (hc:b8 X (.builtin id) r)(hg:Gl X x)(hm:X.mg x=none)(hv:bootBuiltins x=some (.builtin id))(ha:PA X (e::es) t)(hn:x ≠ "__name__":=by decide)(hdb:(x == ("__debug__":Str))=false:=by decide)
  (he:starEach (e::es) X.env=(false,eval e X.env)::starEach es X.env:=by rfl) (hpl:(backTo pos (starEach es X.env)).any (·.1)=false:=by rfl):PE X (.Call (.Name x p) (e::es) [] pos) (tCB r t):=by
 intro pins s σ H Q I h
 refine wpAny_Call_Name_kw (cy I hg hm hv ?_ hn hdb)
 exact PyProof.Rows.callWith_builtin1 (thn (ha pos pins s σ H _ I h) fun us s1 zq60=>(by obtain ⟨vs,H1,I1,r1,q1⟩:=zq60;exact hc pins s1 σ H1 vs us Q I1 r1 q1)) he hpl
theorem aQ (hc:b8 X (.type T) r)(hg:Gl X x)(hm:X.mg x=none)(hv:bootBuiltins x=some (.type T))(ha:PA X (e::es) t)(hn:x ≠ "__name__":=by decide)(hdb:(x == ("__debug__":Str))=false:=by decide)
  (he:starEach (e::es) X.env=(false,eval e X.env)::starEach es X.env:=by rfl) (hpl:(backTo pos (starEach es X.env)).any (·.1)=false:=by rfl):PE X (.Call (.Name x p) (e::es) [] pos) (tCB r t):=by
 intro pins s σ H Q I h
 refine wpAny_Call_Name_kw (cy I hg hm hv ?_ hn hdb)
 exact PyProof.Rows.callWith_type1 (thn (ha pos pins s σ H _ I h) fun us s1 zq61=>(by obtain ⟨vs,H1,I1,r1,q1⟩:=zq61;exact hc pins s1 σ H1 vs us Q I1 r1 q1)) he hpl
end
end L2
namespace HT
open PySem PyProof.Rows
section
open PySem.SeqAt
open PySem.AutoSeq1 (wpAny_loadPart')
open PySem.MeetsSeq PySem.MeetsSeq2 PySem.MeetsSeq3
end
section
variable {prog:Program} {w:World} {A:Around} {E:Value→Shared→Prop} {s:Shared}
def sIx (n d:Nat):Option Int→Nat
 | none=>d
 | some v=>if v < 0 then (v+(n:Int)).toNat else min v.toNat n
theorem fD (n d:Nat):sIx n d none=d:=rfl
theorem iW (n d k:Nat):sIx n d (some (k:Int))=min k n:=by
 show (if (k:Int) < 0 then ((k:Int)+(n:Int)).toNat else min (k:Int).toNat n)=min k n
 rw [if_neg (by omega),Int.toNat_natCast]
theorem qN (n d:Nat)(hd:d≤n)(o:Option Int):sIx n d o≤n:=by
 cases o with
 | none=>exact hd
 | some v =>
  show (if v < 0 then (v+(n:Int)).toNat else min v.toNat n)≤n
  by_cases hv:v < 0
  ·rw [if_pos hv];omega
  ·rw [if_neg hv];exact Nat.min_le_right _ _
end
end HT
namespace L2
open PySem PySem.Spec PyProof.Rows
abbrev TO:=St→Hp→(Option Int→Hp→Prop)→Prop
def PO (X:Cx)(e:Option Expr)(t:TO):Prop :=
 ∀ (pins:List (Addr × Obj)) (s:Shared) (σ:St) (H:Hp) (Q:Option Int→Hp→Prop),Inv X pins σ H s→t σ H Q →
  wpAny (model X.prog X.w) X.A (evalPart e X.env) (fun u s'=>∃ o H',Inv X pins σ H' s'∧IsPart u o∧Q o H') X.xe s
def rQ:TO:=fun _ H Q=>Q none H
inductive IsI (x:V)(H:Hp)(Q:Option Int→Hp→Prop):Prop
 | mk:∀ i,(x = .int i)→(Q (some i) H)→IsI x H Q
def pb (Q:(Option Int→Hp→Prop)):V→Hp→Prop:=fun x H1=>IsI x H1 Q
def wK (t:TE):TO:=fun σ H Q=>t σ H (pb Q)
section
variable {X:Cx} {e:Expr} {te:TE} {lo hi:Option Expr} {tl th:TO} {pos p2:Pos}
theorem bQ:PO X none rQ:=by
 intro pins s σ H Q I h
 rw [evalPart_none]
 exact wpAny_pure ⟨none,H,I,.none,h⟩
theorem bR (h:PE X e te):PO X (some e) (wK te):=by
 intro pins s σ H Q I hw
 rw [evalPart_some]
 refine thn (h pins s σ H _ I hw) fun u s1 zq62=>?_
 obtain ⟨x,H1,I1,r1,q1⟩:=zq62
 obtain ⟨i,rfl,q⟩:=q1
 obtain ⟨t,rfl⟩:=r1
 exact ⟨some i,H1,I1,.int i t,q⟩
def SlR (X:Cx)(r:V→Option Int→Option Int→Hp→VK→Prop):Prop :=
 ∀ (pins:List (Addr × Obj)) (s:Shared) (σ:St) (H:Hp) (x:V) (v vl vu:Value) (lo hi:Option Int) (sl:Addr) (Q:VK),Inv X pins σ H s→bc x v→s.heap.IsSliceOf sl vl vu .none→IsPart vl lo→IsPart vu hi→r x lo hi H Q →
  ∃ T id,typeLookup (.type T) "__getitem__" = pure (some (.builtin id))∧s.TypeIs v T∧wpAny (model X.prog X.w) X.A (getItem v (.ref sl)) (EP X pins σ Q) X.xe s
def uL (r:V→Option Int→Option Int→Hp→VK→Prop)(Q:VK)(x:V)(l:Option Int):Option Int→Hp→Prop:=fun u H3=>r x l u H3 Q
def uM (r:V→Option Int→Option Int→Hp→VK→Prop)(th:TO)(σ:St)(Q:VK)(x:V):Option Int→Hp→Prop:=fun l H2=>th σ H2 (uL r Q x l)
def uN (r:V→Option Int→Option Int→Hp→VK→Prop)(tl:TO)(th:TO)(σ:St)(Q:VK):V→Hp→Prop:=fun x H1=>tl σ H1 (uM r th σ Q x)
def tSl (r:V→Option Int→Option Int→Hp→VK→Prop)(te:TE)(tl th:TO):TE:=fun σ H Q=>te σ H (uN r tl th σ Q)
theorem bw {r:V→Option Int→Option Int→Hp→VK→Prop}(hr:SlR X r)(he:PE X e te)(hl:PO X lo tl)(hu:PO X hi th):PE X (.Subscript e (.Slice lo hi none p2) pos) (tSl r te tl th):=by
 intro pins s σ H Q I h
 refine Subscript_ (thn (he pins s σ H _ I h) fun v s1 zq63=>?_)
 obtain ⟨x,H1,I1,r1,q1⟩:=zq63
 refine wpAny_Slice (thn (hl pins s1 σ H1 _ I1 q1) fun vl s2 ⟨l,H2,I2,pl,q2⟩=>thn (hu pins s2 σ H2 _ I2 q2) fun vu s3 zq64=>?_)
 obtain ⟨u,H3,I3,pu,q3⟩:=zq64
 rw [evalPart_none]
 refine wpAny_pure ?_
 have I4:Inv X pins σ H3 { s3 with heap:=s3.heap.push { cls:=.type "slice",data:=.fields #[vl,vu,.none] } }:=I3.kept (t':=s3.toks) fun b ob q=>Heap.get?_push_of_some _ q
 obtain ⟨T,id,hT,ht,hg⟩:=hr pins { s3 with heap:=s3.heap.push { cls:=.type "slice",data:=.fields #[vl,vu,.none] } } σ H3 x v vl vu l u s3.heap.objs.size Q I4 r1 (Heap.IsSliceOf.new ..) pl pu q3
 show wpAny (model X.prog X.w) X.A (subscriptTail e (.Slice lo hi none p2) v (.ref s3.heap.objs.size)) (EP X pins σ Q) X.xe { s3 with heap:=s3.heap.push { cls:=.type "slice",data:=.fields #[vl,vu,.none] } }
 exact tail_any (ops:=[.ref s3.heap.objs.size,v]) ht hT hg (by with_unfolding_all rfl)
def uc (xs:List V)(lo hi:Option Int):List V:=(xs.drop (HT.sIx xs.length 0 lo)).take (HT.sIx xs.length xs.length hi - HT.sIx xs.length 0 lo)
theorem iX (xs:List V)(lo hi:Option Int):(uc xs lo hi).length≤xs.length:=by
 unfold uc
 rw [List.length_take,List.length_drop]
 omega
end
def ixN (n:Nat)(i:Int):Option Nat:=if 0≤i then (if i < n then some i.toNat else none) else if -(n:Int)≤i then some (i+n).toNat else none
def atI {α:Type}(xs:List α)(i:Int):Option α:=(ixN xs.length i).bind fun j=>xs[j]?
theorem lN {n:Nat}{i:Int}{j:Nat}(h:ixN n i=some j):seqIndex? i n=some j∧j < n∧-(n:Int)≤i∧i < n:=by
 unfold ixN at h
 by_cases h0:0≤i
 ·rw [if_pos h0] at h
  by_cases h1:i < n
  ·rw [if_pos h1] at h
   have e:i.toNat=j:=Option.some.inj h
   exact ⟨by rw [seqIndex_of h0 h1,e],by omega,by omega,h1⟩
  ·rw [if_neg h1] at h;cases h
 ·rw [if_neg h0] at h
  by_cases h1:-(n:Int)≤i
  ·rw [if_pos h1] at h
   have e:(i+n).toNat=j:=Option.some.inj h
   exact ⟨by rw [seqIndex_neg (by omega) h1,e],by omega,h1,by omega⟩
  ·rw [if_neg h1] at h;cases h
theorem iY {α:Type}{xs:List α}{i:Int}{v:α}(h:atI xs i=some v):∃ j,seqIndex? i xs.length=some j∧xs[j]? = some v∧j < xs.length∧-(xs.length:Int)≤i∧i < xs.length:=by
 unfold atI at h
 cases e:ixN xs.length i with
 | none=>rw [e] at h;cases h
 | some j =>
  rw [e] at h
  obtain ⟨h1,h2,h3,h4⟩:=lN e
  exact ⟨j,h1,h,h2,h3,h4⟩
theorem lO {α:Type}{xs:List α}{j:Nat}{v:α}(h:xs[j]? = some v):atI xs (j:Int)=some v:=by
 have hj:j < xs.length:=(List.getElem?_eq_some_iff.mp h).1
 have e:ixN xs.length (j:Int)=some j:=by
  unfold ixN
  rw [if_pos (by omega),if_pos (by omega)];simp
 unfold atI;rw [e];exact h
def lP (b:Expr):Prop:=∀ o i,subscripted b false o i=operate [o,i] (getItem o i)
def IxR (X:Cx)(r:R2):Prop :=
 ∀ (value slice:Expr) (pins:List (Addr × Obj)) (s:Shared) (σ:St) (H:Hp) (x y:V) (v u:Value) (Q:VK),Inv X pins σ H s→bc x v→bc y u→r x y H Q →
  subscripted slice false v u=operate [v,u] (getItem v u)→wpAny (model X.prog X.w) X.A (subscriptTail value slice v u) (EP X pins σ Q) X.xe s
def MtR (X:Cx)(id:String)(r:V→List V→Hp→VK→Prop):Prop :=
 ∀ (pins:List (Addr × Obj)) (s:Shared) (σ:St) (H:Hp) (x:V) (xs:List V) (v:Value) (us:List Value) (Q:VK),Inv X pins σ H s→bc x v→aY xs us→r x xs H Q →
  wpAny (model X.prog X.w) X.A (call (.builtin id) (v::us)) (EP X pins σ Q) X.xe s
section
variable {X:Cx} {a b:Expr} {ta tb:TE} {pos:Pos}
theorem IxR.or {r r':R2}(h:IxR X r)(h':IxR X r'):IxR X (fun x y H Q=>r x y H Q ∨ r' x y H Q):=by
 intro value slice pins s σ H x y v u Q I rx ry q hs
 rcases q with q | q
 ·exact h value slice pins s σ H x y v u Q I rx ry q hs
 ·exact h' value slice pins s σ H x y v u Q I rx ry q hs
theorem bB {r:R2}(hr:IxR X r)(ha:PE X a ta)(hb:PE X b tb)(hs:lP b):PE X (.Subscript a b pos) (tOp r ta tb):=by
 intro pins s σ H Q I h
 exact Subscript_ (wG ha hb I h fun v u s2 x y H2 I2 rx ry q=>hr a b pins s2 σ H2 x y v u Q I2 rx ry q (hs _ _))
inductive wc (K:PySem.W.Frag)(x:V)(y:V)(H:Hp)(Q:VK):Prop
 | mk:∀ p xs i v,(x = .ref p)→(y = .int i)→(SqL K H p xs)→(atI xs i=some v)→(Q v H)→wc K x y H Q
inductive wd (K:PySem.W.Frag)(x:V)(y:V)(H:Hp)(Q:VK):Prop
 | mk:∀ p xs i v,(x = .ref p)→(y = .int i)→(SqT K H p xs)→(atI xs i=some v)→(Q v H)→wd K x y H Q
inductive xV (x:V)(y:V)(H:Hp)(Q:VK):Prop
 | mk:∀ z i c,(x = .str z)→(y = .int i)→(z.length≤sizeLine)→(atI z.cps.toList i=some c)→(Q (.str ⟨#[c]⟩) H)→xV x y H Q
theorem iZ:IxR X (wc X.K):=by
 intro value slice pins s σ H x y v u Q I rx ry h hs
 obtain ⟨p,xs,i,z,rfl,rfl,hq,he,q⟩:=h
 cases rx
 obtain ⟨t,rfl⟩:=ry
 obtain ⟨its,r,pl,hz⟩:=I.list hq
 obtain ⟨j,h1,h2,h3,h4,h5⟩:=iY he
 obtain ⟨w,ew,rw'⟩:=r.get h2
 have hl:=r.length
 have hn:=dz
 have fin:EP X pins σ Q w s:=⟨z,H,I,rw',q⟩
 by_cases h0:0≤i
 ·have hj:i.toNat=j:=by
   rw [seqIndex_of h0 h5] at h1
   exact Option.some.inj h1
  exact item_listR pl.isList h0 (by omega) (by rw [hj];simpa using ew) fin hs
 ·have hj:(i+(its.toArray.size:Int)).toNat=j:=by
   rw [seqIndex_neg (by omega) h4] at h1
   rw [List.size_toArray,← hl]
   exact Option.some.inj h1
  exact subscriptTail_builtinR (x:=w) pl.isList.typeIs slot_list_getitem.lookup
   (wpAny_getItem_list_neg (Q:=fun r s'=>r=w∧EP X pins σ Q r s') pl.isList (by omega) (by rw [List.size_toArray] <;> omega) (by omega) (by rw [hj];simpa using ew) ⟨rfl,fin⟩) hs
theorem bC:IxR X (wd X.K):=by
 intro value slice pins s σ H x y v u Q I rx ry h hs
 obtain ⟨p,xs,i,z,rfl,rfl,hq,he,q⟩:=h
 cases rx
 obtain ⟨t,rfl⟩:=ry
 obtain ⟨its,r,pl,hz⟩:=I.tuple hq
 obtain ⟨j,h1,h2,h3,h4,h5⟩:=iY he
 obtain ⟨w,ew,rw'⟩:=r.get h2
 have hl:=r.length
 have hn:=dz
 have fin:EP X pins σ Q w s:=⟨z,H,I,rw',q⟩
 exact subscriptTail_builtinR (x:=w) pl.typeIs slot_tuple_getitem.lookup
  (getItem_tuple (j:=j) (Q:=fun r s'=>r=w∧EP X pins σ Q r s') pl (by omega) (by omega) (by rw [List.size_toArray,← hl];exact h1) (by simpa using ew) ⟨rfl,fin⟩) hs
theorem gJ:IxR X xV:=by
 intro value slice pins s σ H x y v u Q I rx ry h hs
 obtain ⟨z,i,c,rfl,rfl,hz,he,q⟩:=h
 obtain ⟨t,rfl⟩:=rx
 obtain ⟨t',rfl⟩:=ry
 obtain ⟨j,h1,h2,h3,h4,h5⟩:=iY he
 have hl:z.cps.toList.length=z.length:=by simp [Str.length]
 rw [hl] at h1 h4 h5
 have hn:=dz
 exact tail_any (typeIs_str s z t) slot_str_getitem.lookup (getItem_str (c:=c) (by
  have e1:decide (i < -(2 ^ 63:Int))=false:=decide_eq_false (by omega)
  have e2:decide (i≥2 ^ 63)=false:=decide_eq_false (by omega)
  rw [e1,e2,Bool.or_false]) (by rw [h1];simpa using h2) ⟨.str ⟨#[c]⟩,H,I.tok _,⟨_,rfl⟩,q⟩) hs
theorem kC (its:List Value)(n j:Nat)(u:Value):Obj.mapSeq (·.setIfInBounds j u) { cls:=.type "list",data:=.seq its.toArray n }={ cls:=.type "list",data:=.seq (its.set j u).toArray n }:=by
 simp [Obj.mapSeq]
theorem Inv.lst {pins:List (Addr × Obj)}{σ:St}{H:Hp}{s:Shared}{p:Addr}{xs:List V}(I:Inv X pins σ H s)(h:H p=some (.lst xs)) :
  ∃ (its:List Value) (n:Nat),aY xs its∧s.heap.get? p=some { cls:=.type "list",data:=.seq its.toArray n }∧xs.length≤sizeLine:=by
 obtain ⟨z,its,n,r,e⟩:=I.hok p _ h
 exact ⟨its,n,r,e,z⟩
theorem Inv.lstUpd {pins:List (Addr × Obj)}{σ:St}{H:Hp}{s:Shared}{p:Addr}{xs ys:List V}{its its':List Value}{n n':Nat}{f:Obj→Obj}(I:Inv X pins σ H s)(h:H p=some (.lst xs))
  (ho:s.heap.get? p=some { cls:=.type "list",data:=.seq its.toArray n }) (hf:f { cls:=.type "list",data:=.seq its.toArray n }={ cls:=.type "list",data:=.seq its'.toArray n' }) (r:aY ys its') (hz:ys.length≤sizeLine) (t:Nat) :
  Inv X pins σ (upd H p (.lst ys)) { s with heap:=s.heap.update p f,toks:=t }:=by
 have e:(s.heap.update p f).get? p=some { cls:=.type "list",data:=.seq its'.toArray n' }:=by
  rw [Heap.get?_update_self f ho (by rw [hf] <;> rfl),hf]
 refine I.write (x:=p) (e:=p) (by rw [h];trivial) (.inl rfl) (fun b u hb q=>(Heap.get?_update_other _ _ (Ne.symm hb)).trans q) ⟨_,e⟩ ?_
 exact ⟨hz,its',n',r,e⟩
inductive uO (o:V)(i:V)(v:V)(H:Hp)(Q:(Hp→Prop)):Prop
 | mk:∀ p xs k j,(o = .ref p)→(i = .int k)→(H p=some (.lst xs))→(ixN xs.length k=some j)→(Q (upd H p (.lst (xs.set j v))))→uO o i v H Q
theorem pe:xR X uO:=by
 intro pins s σ H o i v ov iv u Q I ro ri rv h
 obtain ⟨p,xs,k,j,rfl,rfl,hp,hj,q⟩:=h
 cases ro
 obtain ⟨t,rfl⟩:=ri
 obtain ⟨its,n,r,ho,hz⟩:=I.lst hp
 obtain ⟨h1,h2,h3,h4⟩:=lN hj
 have hl:=r.length
 have hn:=dz
 have I':Inv X pins σ (upd H p (.lst (xs.set j v))) { s with heap:=s.heap.update p (Obj.mapSeq (·.setIfInBounds j u)) } :=
  I.lstUpd hp ho (kC its n j u) (r.set rv j) (by rw [List.length_set];exact hz) s.toks
 by_cases h0:0≤k
 ·have hk:k.toNat=j:=by
   rw [seqIndex_of h0 h4] at h1
   exact Option.some.inj h1
  exact PySem.W.ki_setAt ho h0 (by omega) (by rw [List.size_toArray,← hl];exact h4) (by rw [hk];exact ⟨_,I',q⟩)
 ·have hk:(k+(its.toArray.size:Int)).toNat=j:=by
   rw [seqIndex_neg (by omega) h3] at h1
   rw [List.size_toArray,← hl]
   exact Option.some.inj h1
  exact PySem.W.ki_setBack ho (by omega) (by rw [List.size_toArray,← hl];exact h3) (by omega) (by rw [hk];exact ⟨_,I',q⟩)
theorem gK (lo hi:Option Int)(n:Nat):(sliceBounds lo hi none n).1=((HT.sIx n 0 lo:Nat):Int)∧(sliceBounds lo hi none n).2.1=((HT.sIx n n hi:Nat):Int)∧(sliceBounds lo hi none n).2.2=1:=by
 refine ⟨?_,?_,rfl⟩
 ·cases lo with
  | none=>simp [sliceBounds,HT.sIx]
  | some i =>
   simp only [sliceBounds,HT.sIx,Option.getD_none,show (1:Int) > 0 by decide,if_true]
   by_cases h:i < 0
   ·simp only [h,if_true] <;> omega
   ·simp only [h,if_false] <;> omega
 ·cases hi with
  | none=>simp [sliceBounds,HT.sIx]
  | some i =>
   simp only [sliceBounds,HT.sIx,Option.getD_none,show (1:Int) > 0 by decide,if_true]
   by_cases h:i < 0
   ·simp only [h,if_true] <;> omega
   ·simp only [h,if_false] <;> omega
theorem fE (its:List Value)(lo hi:Option Int):slicePick its.toArray lo hi none=((its.drop (HT.sIx its.length 0 lo)).take (HT.sIx its.length its.length hi - HT.sIx its.length 0 lo)).toArray:=by
 obtain ⟨h1,h2,h3⟩:=gK lo hi its.toArray.size
 unfold slicePick
 rw [h1,h2,h3]
 simp only [sliceRange_one,pick_run,List.size_toArray] <;> rfl
inductive xW (K:PySem.W.Frag)(x:V)(lo:Option Int)(hi:Option Int)(H:Hp)(Q:VK):Prop
 | mk:∀ a xs,(x = .ref a)→(SqL K H a xs)→(∀ p,H p=none→Q (.ref p) (upd H p (.lst (uc xs lo hi))))→xW K x lo hi H Q
theorem rR:SlR X (xW X.K):=by
 intro pins s σ H x v vl vu lo hi sl Q I rx hs pl pu h
 obtain ⟨a,xs,rfl,hx,q⟩:=h
 cases rx
 obtain ⟨its,r,ht,hz⟩:=I.list hx
 have hlen:=r.length
 refine ⟨"list",_,slot_list_getitem.lookup,ht.isList.typeIs,?_⟩
 refine wpAny_getItem_list_slice ht.isList hs pl pu .none (by simp) ?_ (by rw [List.size_toArray] <;> omega)
 rw [fE,← hlen]
 refine ⟨.ref s.heap.objs.size,_,I.laid (t':=s.toks) (o:=.lst (uc xs lo hi)) (fun b ob q=>Heap.get?_push_of_some _ q) (Nat.le_refl _) ?_,rfl,q _ (I.hok.fresh (Nat.le_refl _))⟩
 exact ⟨Nat.le_trans (iX xs lo hi) hz,_,0,(r.drop (HT.sIx xs.length 0 lo)).take (HT.sIx xs.length xs.length hi - HT.sIx xs.length 0 lo),Heap.get?_push_size _ rfl⟩
def wL:V→Bool
 | .non=>true
 | .bl _=>true
 | .int _=>true
 | .str _=>true
 | _=>false
inductive bL (K:PySem.W.Frag)(xs:List V)(H:Hp)(Q:VK):Prop
 | mk:∀ p ys,(xs=[.ref p])→((SqL K H p ys ∨ SqT K H p ys))→(Q (.int ys.length) H)→bL K xs H Q
theorem aE:b8 X (.builtin "len") (bL X.K):=by
 intro pins s σ H xs us Q I r h
 obtain ⟨p,ys,rfl,hq,q⟩:=h
 obtain ⟨u,rfl,rx⟩:=bW r
 cases rx
 have hn:=dz
 rcases hq with hq | hq
 ·obtain ⟨its,r',pl,hz⟩:=I.list hq
  have hlen:=r'.length
  exact Calls.call_len_list pl.isList (by simp only [List.size_toArray] <;> omega) ⟨.int ys.length,H,I.tok _,⟨s.toks+1,by rw [List.size_toArray,hlen]⟩,q⟩
 ·obtain ⟨its,r',pl,hz⟩:=I.tuple hq
  have hlen:=r'.length
  exact len_tuple pl (by simp only [List.size_toArray] <;> omega) ⟨.int ys.length,H,I.tok _,⟨s.toks+1,by rw [List.size_toArray,hlen]⟩,q⟩
inductive cz  (xs:List V)(H:Hp)(Q:VK):Prop
 | mk:∀ z,(xs=[.str z])→(z.length≤sizeLine)→(Q (.int z.length) H)→cz xs H Q
theorem bG:b8 X (.builtin "len") cz:=by
 intro pins s σ H xs us Q I r h
 obtain ⟨z,rfl,hz,q⟩:=h
 obtain ⟨u,rfl,t,rfl⟩:=bW r
 have hn:=dz
 exact len_str (by omega) ⟨.int z.length,H,I.tok _,⟨_,rfl⟩,q⟩
inductive cA (K:PySem.W.Frag)(xs:List V)(H:Hp)(Q:VK):Prop
 | mk:∀ p ys,(xs=[.ref p])→((SqL K H p ys ∨ SqT K H p ys))→(∀ l,H l=none→Q (.ref l) (upd H l (.lst ys)))→cA K xs H Q
theorem gL:b8 X (.type "list") (cA X.K):=by
 intro pins s σ H xs us Q I r h
 obtain ⟨p,ys,rfl,hq,q⟩:=h
 obtain ⟨u,rfl,rx⟩:=bW r
 cases rx
 have fin:∀ (its:List Value),aY ys its→ys.length≤sizeLine→∀ (h':Heap) (c':Nat),(∀ b o',s.heap.get? b=some o'→h'.get? b=some o') →
   h'.get? s.heap.objs.size=some { cls:=.type "list",dict:=none,data:=.seq its.toArray c',slots:=#[] }→EP X pins σ Q (.ref s.heap.objs.size) { s with heap:=h' }:=fun its r' hz h' c' kp e =>
  ⟨.ref s.heap.objs.size,_,I.laid (t':=s.toks) kp (Nat.le_refl _) (show a_ X.prog X.w _ h' _ (.lst ys) from ⟨hz,its,c',r',e⟩),rfl,q _ (I.hok.fresh (Nat.le_refl _))⟩
 rcases hq with hq | hq
 ·obtain ⟨its,r',pl,hz⟩:=I.list hq
  have hlen:=r'.length
  obtain ⟨o,ho,hc,n,hd⟩:=pl.isList
  exact call_list_seq p (.inl rfl) ho hc hd (fun h' c' kp e=>fin its r' hz h' c' kp e) (by simp only [List.size_toArray] <;> omega)
 ·obtain ⟨its,r',pl,hz⟩:=I.tuple hq
  have hlen:=r'.length
  obtain ⟨o,ho,hc,n,hd⟩:=pl
  exact call_list_seq p (.inr rfl) ho hc hd (fun h' c' kp e=>fin its r' hz h' c' kp e) (by simp only [List.size_toArray] <;> omega)
inductive b9 (K:PySem.W.Frag)(xs:List V)(H:Hp)(Q:VK):Prop
 | mk:∀ p ys,(xs=[.ref p])→(((SqL K H p ys∧∀ l,H l=none→Q (.ref l) (upd H l (.tup ys))) ∨ (SqT K H p ys∧Q (.ref p) H)))→b9 K xs H Q
theorem cG:b8 X (.type "tuple") (b9 X.K):=by
 intro pins s σ H xs us Q I r h
 obtain ⟨p,ys,rfl,h⟩:=h
 obtain ⟨u,rfl,rx⟩:=bW r
 cases rx
 rcases h with ⟨hq,q⟩ | ⟨hq,q⟩
 ·obtain ⟨its,r',pl,hz⟩:=I.list hq
  have hlen:=r'.length
  refine call_tuple_list pl.isList (fun h' kp=>?_) (by simp only [List.size_toArray] <;> omega)
  have I1:Inv X pins σ H { s with heap:=h' }:=I.kept (t':=s.toks) kp
  have I2:Inv X pins σ (upd H h'.objs.size (.tup ys)) { s with heap:=h'.push { cls:=.type "tuple",data:=.seq its.toArray } } :=
   I1.laid (t':=s.toks) (fun b o e=>Heap.get?_push_of_some _ e) (Nat.le_refl _) (show a_ X.prog X.w _ _ _ (.tup ys) from ⟨hz,its,r',IsTup.new _ _,.new _ _ rfl⟩)
  exact ⟨.ref h'.objs.size,_,I2,rfl,q _ (I1.hok.fresh (Nat.le_refl _))⟩
 ·obtain ⟨its,r',pl,hz⟩:=I.tuple hq
  exact call_tuple_same pl ⟨.ref p,H,I,rfl,q⟩
def tyV (K:PySem.W.Frag)(T:String)(x:V)(H:Hp):Prop:=match x with
 | .str _=>T = "str"
 | .int _=>T = "int"
 | .ref p=>(T = "list"∧∃ xs,SqL K H p xs) ∨ (T = "tuple"∧((∃ o,K.lookup p=some o∧o.cls = .type "tuple"∧o.dict=none) ∨ ∃ xs,H p=some (.tup xs))) ∨
   (T = "dict"∧((∃ kvs,H p=some (.dK kvs)) ∨ ∃ kvs,H p=some (.dT kvs))) ∨ (T = "set"∧∃ S n,H p=some (.set S n))
 | _=>False
theorem qO {pins:List (Addr × Obj)}{σ:St}{H:Hp}{s:Shared}{T:String}{x:V}{v:Value}(I:Inv X pins σ H s)(r:bc x v)(ty:tyV X.K T x H) :
  s.TypeIs v T∧∀ a,v = .ref a→∃ ob,s.heap.get? a=some ob∧ob.dict=none:=by
 cases x with
 | str z =>
  obtain ⟨t,rfl⟩:=r
  cases (show T = "str" from ty)
  exact ⟨typeIs_str s z t,fun _ e=>nomatch e⟩
 | int i =>
  obtain ⟨t,rfl⟩:=r
  cases (show T = "int" from ty)
  exact ⟨typeIs_int s i t,fun _ e=>nomatch e⟩
 | ref p =>
  cases r
  rcases ty with ⟨rfl,xs,hq⟩ | ⟨rfl,⟨o,hk,hc,hd⟩ | ⟨xs,hk⟩⟩ | ⟨rfl,hk⟩ | ⟨rfl,S,n,hk⟩
  ·obtain ⟨its,_,pl,_⟩:=I.list hq
   refine ⟨pl.isList.typeIs,fun a e=>?_⟩
   cases e
   obtain ⟨o,n,e,c,hd,_⟩:=pl
   exact ⟨o,e,hd⟩
  ·refine ⟨⟨o,I.kIn p o hk,hc⟩,fun a e=>?_⟩
   cases e
   exact ⟨o,I.kIn _ o hk,hd⟩
  ·obtain ⟨_,_,_,⟨o,e,hc,_⟩,hn⟩:=I.hok p _ hk
   refine ⟨⟨o,e,hc⟩,fun a e=>?_⟩
   cases e
   exact hn
  ·have z:∃ o,s.heap.get? p=some o∧o.ExactDict:=by
    rcases hk with ⟨kvs,hk⟩ | ⟨kvs,hk⟩
    ·obtain ⟨_,_,_,_,o,_,_,e,ex,_⟩:=I.hok p _ hk
     exact ⟨o,e,ex⟩
    ·obtain ⟨_,_,_,_,o,_,_,e,ex,_⟩:=I.hok p _ hk
     exact ⟨o,e,ex⟩
   obtain ⟨o,e,ex⟩:=z
   refine ⟨⟨o,e,ex.1⟩,fun a e2=>?_⟩
   cases e2
   exact ⟨o,e,ex.2.1⟩
  ·obtain ⟨o,_,_,_,e,ex,_⟩:=I.hok p _ hk
   refine ⟨⟨o,e,ex.1⟩,fun a e2=>?_⟩
   cases e2
   exact ⟨o,e,ex.2.1⟩
 | _=>exact False.elim ty
def rS (K:PySem.W.Frag)(T:String)(r:V→List V→Hp→VK→Prop)(Q:VK):V→Hp→Prop:=fun x H1=>tyV K T x H1∧r x [] H1 Q
def yH (K:PySem.W.Frag)(T:String)(r:V→List V→Hp→VK→Prop)(to:TE):TE:=fun σ H Q=>to σ H (rS K T r Q)
def uP (r:V→List V→Hp→VK→Prop)(Q:VK)(x:V):List V→Hp→Prop:=fun xs H2=>r x xs H2 Q
def uQ (K:PySem.W.Frag)(T:String)(r:V→List V→Hp→VK→Prop)(t:TA)(σ:St)(Q:VK):V→Hp→Prop:=fun x H1=>tyV K T x H1∧t σ H1 (uP r Q x)
def tBM (K:PySem.W.Frag)(T:String)(r:V→List V→Hp→VK→Prop)(to:TE)(t:TA):TE:=fun σ H Q=>to σ H (uQ K T r t σ Q)
variable {o e:Expr} {es:List Expr} {to:TE} {t:TA} {name:Str} {apos cpos:Pos} {T id:String} {r:V→List V→Hp→VK→Prop}
theorem jD (pa:PlainAttrs T)(slot:Slot T name id)(hty:typeOf (.builtin id)=pure (.type "method_descriptor"))(hm:MtR X id r)(ho:PE X o to)
  (hbase:attributeBase o name X.env (eval o X.env)=eval o X.env:=by rfl) (hline:(apos.endLine == cpos.line)=true:=by rfl):PE X (.Call (.Attribute o name apos) [] [] cpos) (yH X.K T r to):=by
 intro pins s σ H Q I h
 refine wpAny_Call_method0_late hbase hline (thn (ho pins s σ H _ I h) fun v s1 zq65=>?_)
 obtain ⟨x,H1,I1,r1,ty,q1⟩:=zq65
 obtain ⟨h1,h2⟩:=qO I1 r1 ty
 exact ⟨T,id,pa,slot,hty,h1,h2,Calls.callWith_builtin rfl (PySem.evalArgs_none (hm pins s1 σ H1 x [] v [] Q I1 r1 .nil q1))⟩
theorem pf (pa:PlainAttrs T)(slot:Slot T name id)(hty:typeOf (.builtin id)=pure (.type "method_descriptor"))(hm:MtR X id r)(ho:PE X o to)(ha:PA X (e::es) t)
  (hbase:attributeBase o name X.env (eval o X.env)=eval o X.env:=by rfl)
  (hfew:((backTo cpos (starEach (e::es) X.env)).all (fun x=>!x.1) && (backToKw cpos (keywordEach [] X.env)).all (fun x=>x.1.isSome)
   && decide ((e::es).length+([]:List Keyword).length+(if ([]:List Keyword).isEmpty then 0 else 1) < 30))=true:=by rfl)
  (hline:(apos.endLine == cpos.line)=true:=by rfl) (hs:starEach (e::es) X.env=(false,eval e X.env)::starEach es X.env:=by rfl) (hplain:(backTo cpos (starEach es X.env)).any (·.1)=false:=by rfl) :
  PE X (.Call (.Attribute o name apos) (e::es) [] cpos) (tBM X.K T r to t):=by
 intro pins s σ H Q I h
 refine wpAny_Call_method_late hbase hfew hline rfl (thn (ho pins s σ H _ I h) fun v s1 zq66=>?_)
 obtain ⟨x,H1,I1,r1,ty,q1⟩:=zq66
 obtain ⟨h1,h2⟩:=qO I1 r1 ty
 refine ⟨T,id,pa,slot,hty,h1,h2,?_⟩
 have hA:=ha cpos pins s1 σ H1 _ I1 q1
 rw [hs] at hA ⊢
 refine Calls.callWith_builtin (by show (false || (backTo cpos (starEach es X.env)).any (·.1))=false;rw [hplain] <;> rfl) (Calls.evalArgs_plain ?_)
 exact thn hA fun us s2 zq67=>(by obtain ⟨vs,H2,I2,r2,q2⟩:=zq67;exact hm pins s2 σ H2 x vs v us Q I2 r1 r2 q2)
/- xs.append(e),list.index on a module's tuple .. are MtR facts of 06m -/
end
theorem aY.rep {xs:List V}{us:List Value}(h:aY xs us):∀ k:Nat,aY (List.replicate k xs).flatten (List.replicate k us).flatten
 | 0=>.nil
 | k+1=>by
  rw [List.replicate_succ,List.replicate_succ,List.flatten_cons,List.flatten_cons]
  exact aY.append h (aY.rep h k)
theorem gM (its:List Value):∀ (k:Nat) (acc:List Value),
  List.foldl (fun x1 x2=>x1++x2) acc.toArray (List.replicate k its.toArray)=(acc++(List.replicate k its).flatten).toArray
 | 0,acc=>by simp
 | k+1,acc=>by
  have e:acc.toArray++its.toArray=(acc++its).toArray:=by simp
  have e2:(acc++its)++(List.replicate k its).flatten=acc++(List.replicate (k+1) its).flatten:=by
   rw [List.replicate_succ,List.flatten_cons,List.append_assoc]
  rw [← e2,← gM its k (acc++its),← e,List.replicate_succ,List.foldl_cons]
section
variable {X:Cx} {pins:List (Addr × Obj)} {σ:St} {H:Hp} {s:Shared} {l b:Addr} {xs ys zs:List V}
theorem Inv.lnew {its:List Value}{t':Nat}(I:Inv X pins σ H s)(hv:aY ys its)(hz:ys.length≤sizeLine) :
  Inv X pins σ (upd H s.heap.objs.size (.lst ys)) { s with heap:=s.heap.push { cls:=.type "list",data:=.seq its.toArray },toks:=t' } :=
 I.laid (fun _ _ q=>Heap.get?_push_of_some _ q) (Nat.le_refl _) ⟨hz,its,0,hv,Heap.get?_push_size _ rfl⟩
theorem Inv.fresh (I:Inv X pins σ H s):H s.heap.objs.size=none:=I.hok.fresh (Nat.le_refl _)
theorem Inv.lstM (I:Inv X pins σ H s)(hH:H l=some (.lst xs)):xs.length≤sizeLine∧∃ (its:List Value) (n:Nat),aY xs its∧xs.length=its.length∧s.heap.get? l=some { cls:=.type "list",data:=.seq its.toArray n }:=by
 obtain ⟨z,its,n,r,e⟩:=I.hok l _ hH
 exact ⟨z,its,n,r,r.length,e⟩
theorem ph {n:Nat}(h:n≤sizeLine):Builtin.List.listTooLong n=false:=by
 unfold Builtin.List.listTooLong
 exact decide_eq_false (by omega)
end
section
variable {X:Cx}
inductive xX (x:V)(y:V)(H:Hp)(Q:VK):Prop
 | mk:∀ l b xs zs,(x = .ref l)→(y = .ref b)→(H l=some (.lst xs))→(H b=some (.lst zs))→(xs.length+zs.length≤sizeLine)→(∀ p,H p=none→Q (.ref p) (upd H p (.lst (xs++zs))))→xX x y H Q
theorem uR:OpR X (binaryOp .Add) xX:=by
 intro pins s σ H x y v u Q I rx ry h
 obtain ⟨l,b,xs,zs,rfl,rfl,hH,hB,hz,q⟩:=h
 cases rx
 cases ry
 obtain ⟨z,its,n,r,hl,e⟩:=I.lstM hH
 obtain ⟨z2,its2,n2,r2,hl2,e2⟩:=I.lstM hB
 refine PySem.P.add_list e e2 ?_ (by rw [List.size_toArray,List.size_toArray];omega)
 have ea:its.toArray++its2.toArray=(its++its2).toArray:=by simp
 rw [ea]
 exact ⟨.ref _,_,I.lnew (t':=s.toks) (r.append r2) (by rw [List.length_append];omega),rfl,q _ I.fresh⟩
inductive xY (x:V)(y:V)(H:Hp)(Q:VK):Prop
 | mk:∀ l k xs,(x = .ref l)→(y = .int k)→(H l=some (.lst xs))→(-(2 ^ 63)≤k)→(k < 2 ^ 63)→(xs.length*k.toNat≤sizeLine)→(∀ p,H p=none→Q (.ref p) (upd H p (.lst (List.replicate k.toNat xs).flatten)))→xY x y H Q
theorem rT {α:Type}(xs:List α)(k:Nat):(List.replicate k xs).flatten.length=k*xs.length:=by
 induction k with
 | zero=>simp
 | succ k ih=>rw [List.replicate_succ,List.flatten_cons,List.length_append,ih,Nat.succ_mul,Nat.add_comm]
theorem qP:OpR X (binaryOp .Mult) xY:=by
 intro pins s σ H x y v u Q I rx ry h
 obtain ⟨l,k,xs,rfl,rfl,hH,h1,h2,hz,q⟩:=h
 cases rx
 obtain ⟨t,rfl⟩:=ry
 obtain ⟨z,its,n,r,hl,e⟩:=I.lstM hH
 have hlen:its.toArray.size*k.toNat≤sizeLine:=by rw [List.size_toArray,← hl];exact hz
 have hcap:¬ its.toArray.size*k.toNat > (2 ^ 63 - 1) / 8:=by
  have:(sizeLine:Nat)≤(2 ^ 63 - 1) / 8:=by decide
  omega
 have hfit:¬ (!Builtin.List.listFitsIndex k)=true:=by
  rw [fitsIndex_both h1 h2]
  exact Bool.false_ne_true
 have hlong:¬ Builtin.List.listTooLong (its.toArray.size*k.toNat)=true:=by
  rw [ph hlen]
  exact Bool.false_ne_true
 have hnew:List.foldl (fun x1 x2=>x1++x2) #[] (List.replicate (if its.toArray.isEmpty=true then 0 else k.toNat) its.toArray)=(List.replicate k.toNat its).flatten.toArray:=by
  have f0:∀ m:Nat,List.foldl (fun x1 x2=>x1++x2) #[] (List.replicate m its.toArray)=(List.replicate m its).flatten.toArray:=fun m=>by
   have:=gM its m []
   rw [List.nil_append] at this
   exact this
  rw [f0]
  cases its with
  | nil=>simp
  | cons a r'=>rw [if_neg (by simp)]
 refine wpAny_binaryOp_repeat_ref (T:="list") (U:="int") (by decide) ⟨_,e,rfl⟩ (fun s'=>typeIs_int s' k t) noFill_list_mul F.fills_int_mul F.slot_int_rmul repeat_list F.slot_int_index.lookup
  (call_meets F.slot_int_rmul (typeIs_int s k t) F.entry_int_rmul (F.args_int_rmul_2 _ _) (int___rmul___int_list k t l its.toArray n)
   ⟨e,rfl,⟨_,e,rfl⟩,call_meets F.slot_list_mul ⟨_,e,rfl⟩ F.entry_list_mul (F.args_list_mul_2 _ _) (AutoListH.list___mul___list_int_3 l its.toArray n k t hfit hcap hlong) ⟨e,?_⟩⟩)
 rw [hnew]
 exact ⟨.ref _,_,I.lnew (t':=s.toks) (r.rep k.toNat) (by rw [rT,Nat.mul_comm];exact hz),rfl,q _ I.fresh⟩
end
section
variable {prog:Program} {w:World} {A:Around} {E:Value→Shared→Prop} {s:Shared}
end
section
variable {X:Cx}
end
section
variable {κ:Type} [DecidableEq κ]
def bO (kvs:List (κ × V))(k:κ):Option V:=(kvs.find? fun kv=>decide (kv.1=k)).map (·.2)
def bo (kvs:List (κ × V))(k:κ)(v:V):List (κ × V) :=
 if (kvs.any fun kv=>decide (kv.1=k))=true then kvs.map (fun kv=>if kv.1=k then (kv.1,v) else kv) else kvs++[(k,v)]
theorem ba {p:κ × V}{r:List (κ × V)}{k:κ}(e:p.1=k):bO (p::r) k=some p.2:=by simp [bO,List.find?_cons,e]
theorem bb {p:κ × V}{r:List (κ × V)}{k:κ}(e:¬ p.1=k):bO (p::r) k=bO r k:=by simp [bO,List.find?_cons,e]
theorem cn (k:κ):∀ kvs:List (κ × V),(kvs.any fun kv=>decide (kv.1=k))=(bO kvs k).isSome
 | []=>rfl
 | p::r=>by
  rw [List.any_cons]
  by_cases e:p.1=k
  ·simp only [ba e,decide_eq_true e,Bool.true_or,Option.isSome_some]
  ·rw [bb e,decide_eq_false e,Bool.false_or];exact cn k r
theorem jE (k j:κ)(y:V):∀ kvs:List (κ × V),bO (kvs.map fun kv=>if kv.1=k then (kv.1,y) else kv) j=(bO kvs j).map fun x=>if j=k then y else x
 | []=>rfl
 | p::r=>by
  have ih:=jE k j y r
  rw [List.map_cons]
  by_cases h:p.1=k
  ·rw [if_pos h]
   by_cases e:p.1=j
   ·rw [ba (p:=(p.1,y)) e,ba e,Option.map_some,if_pos (e.symm.trans h)]
   ·rw [bb (p:=(p.1,y)) e,bb e,ih]
  ·rw [if_neg h]
   by_cases e:p.1=j
   ·rw [ba (p:=p) e,ba e,Option.map_some,if_neg (fun z=>h (e.trans z))]
   ·rw [bb (p:=p) e,bb e,ih]
theorem gN (k j:κ)(y:V):∀ kvs:List (κ × V),bO kvs k=none→bO (kvs++[(k,y)]) j=if j=k then some y else bO kvs j
 | [],_=>by
  by_cases e:k=j
  ·rw [if_pos e.symm];exact ba (p:=(k,y)) e
  ·rw [if_neg (fun z=>e z.symm)];exact bb (p:=(k,y)) e
 | p::r,hn=>by
  rw [List.cons_append]
  have hk:¬ p.1=k:=fun z=>by rw [ba z] at hn;cases hn
  rw [bb hk] at hn
  have ih:=gN k j y r hn
  by_cases e:p.1=j
  ·rw [ba e,ba e,if_neg (fun z=>hk (e.trans z))]
  ·rw [bb e,bb e,ih]
theorem jF (kvs:List (κ × V))(k j:κ)(y:V):bO (bo kvs k y) j=if j=k then some y else bO kvs j:=by
 unfold bo
 by_cases a:(kvs.any fun kv=>decide (kv.1=k))=true
 ·rw [if_pos a,jE]
  rw [cn] at a
  by_cases e:j=k
  ·obtain ⟨x,hx⟩:=Option.isSome_iff_exists.mp a
   rw [if_pos e,e,hx,Option.map_some,if_pos rfl]
  ·rw [if_neg e]
   cases bO kvs j with
   | none=>rfl
   | some x=>rw [Option.map_some,if_neg e]
 ·rw [if_neg a]
  refine gN k j y kvs ?_
  rw [cn] at a
  cases q:bO kvs k with
  | none=>rfl
  | some x=>rw [q] at a;exact (a rfl).elim
theorem bp (kvs:List (κ × V))(k:κ)(v:V):(bo kvs k v).length≤kvs.length+1:=by
 unfold bo
 split
 ·rw [List.length_map];omega
 ·rw [List.length_append,List.length_cons,List.length_nil];omega
theorem fF {kvs:List (κ × V)}{k:κ}(v:V)(h:bO kvs k=none):bo kvs k v=kvs++[(k,v)]:=by
 unfold bo
 rw [cn,h]
 exact if_neg (by decide)
theorem jv.isSome_eq {o:Option V}{u:Option Value}(r:jv o u):o.isSome=u.isSome:=by
 cases o with
 | none=>cases u with
  | none=>rfl
  | some _=>exact (show False from r).elim
 | some _=>cases u with
  | none=>exact (show False from r).elim
  | some _=>rfl
theorem KV.val {kvs:List (κ × V)}{vs:List (κ × Value)}(r:KV kvs vs)(k:κ):jv (bO kvs k) (valueAt vs k):=by
 unfold KV at r
 induction r with
 | nil=>exact True.intro
 | @cons p q ps qs h t ih =>
  obtain ⟨h1,h2⟩:=h
  by_cases e:p.1=k
  ·have e':q.1=k:=h1.symm.trans e
   have b:valueAt (q::qs) k=some q.2:=by simp [valueAt,List.find?_cons,e']
   rw [ba e,b];exact h2
  ·have e':¬ q.1=k:=fun z=>e (h1.trans z)
   have b:valueAt (q::qs) k=valueAt qs k:=by simp [valueAt,List.find?_cons,e']
   rw [bb e,b];exact ih
theorem KV.any {kvs:List (κ × V)}{vs:List (κ × Value)}(r:KV kvs vs)(k:κ):(kvs.any fun kv=>decide (kv.1=k))=vs.any fun kv=>decide (kv.1=k):=by
 unfold KV at r
 induction r with
 | nil=>rfl
 | cons h t ih=>rw [List.any_cons,List.any_cons,ih,h.1]
theorem KV.repl {kvs:List (κ × V)}{vs:List (κ × Value)}(r:KV kvs vs)(k:κ){y:V}{u:Value}(ry:bc y u) :
  KV (kvs.map fun kv=>if kv.1=k then (kv.1,y) else kv) (vs.map fun kv=>if kv.1=k then (kv.1,u) else kv):=by
 unfold KV at r ⊢
 induction r with
 | nil=>exact .nil
 | @cons p q ps qs h t ih =>
  rw [List.map_cons,List.map_cons]
  refine .cons ?_ ih
  obtain ⟨h1,h2⟩:=h
  by_cases e:p.1=k
  ·rw [if_pos e,if_pos (h1.symm.trans e)];exact ⟨h1,ry⟩
  ·rw [if_neg e,if_neg (fun z=>e (h1.trans z))];exact ⟨h1,h2⟩
theorem KV.put {kvs:List (κ × V)}{vs:List (κ × Value)}(r:KV kvs vs)(k:κ){y:V}{u:Value}(ry:bc y u):KV (bo kvs k y) (stored vs k u):=by
 unfold bo stored
 rw [r.any k]
 by_cases e:(vs.any fun kv=>decide (kv.1=k))=true
 ·rw [if_pos e,if_pos e];exact r.repl k ry
 ·rw [if_neg e,if_neg e];exact Paired.snoc r ⟨rfl,ry⟩
theorem KV.length {kvs:List (κ × V)}{vs:List (κ × Value)}(r:KV kvs vs):kvs.length=vs.length:=Paired.length r
end
theorem i0 {P:Program}{w:World}{k:Key}{u:Value}(r:bc (kV k) u):(aN P w).is k u=true:=by
 cases k with
 | inl i=>obtain ⟨t,e⟩:=(show ∃ t,u=Value.int i t from r);subst e;exact iP P w i t
 | inr x=>obtain ⟨t,e⟩:=(show ∃ t,u=Value.str x t from r);subst e;exact iQ P w x t
theorem gO {P:Program}{w:World}:∀ {ks:List Key} {us:List Value},aY (ks.map kV) us→ItemsAre (aN P w) ks us
 | [],_,r=>by rw [List.map_nil] at r;cases r;exact .nil
 | k::ks,_,r=>by
  rw [List.map_cons] at r
  cases r with
  | cons h t=>exact .cons (i0 h) (gO t)
abbrev KT (H:Hp):List (List Key × V)→List (List Key × Addr × Value)→Prop:=Paired fun p q=>p.1=q.1∧H q.2.1=some (.tup (p.1.map kV))∧bc p.2 q.2.2
theorem KT.val {H:Hp}{kvs:List (List Key × V)}{xs:List (List Key × Addr × Value)}(r:KT H kvs xs)(k:List Key):jv (bO kvs k) ((atKey xs k).map (·.2)):=by
 induction r with
 | nil=>exact True.intro
 | @cons p q ps qs h t ih =>
  obtain ⟨h1,_,h2⟩:=h
  by_cases e:p.1=k
  ·have e':q.1=k:=h1.symm.trans e
   have b:atKey (q::qs) k=some q.2:=by simp [atKey,List.find?_cons,e']
   rw [ba e,b];exact h2
  ·have e':¬ q.1=k:=fun z=>e (h1.trans z)
   have b:atKey (q::qs) k=atKey qs k:=by simp [atKey,List.find?_cons,e']
   rw [bb e,b];exact ih
theorem KT.repl {H:Hp}{kvs:List (List Key × V)}{xs:List (List Key × Addr × Value)}(r:KT H kvs xs)(k:List Key){y:V}{u:Value}(ry:bc y u) :
  KT H (kvs.map fun kv=>if kv.1=k then (kv.1,y) else kv) (xs.map (putAt k u)):=by
 induction r with
 | nil=>exact .nil
 | @cons p q ps qs h t ih =>
  rw [List.map_cons,List.map_cons]
  refine .cons ?_ ih
  obtain ⟨h1,h2,h3⟩:=h
  unfold putAt
  by_cases e:p.1=k
  ·rw [if_pos e,if_pos (h1.symm.trans e)];exact ⟨h1,h2,ry⟩
  ·rw [if_neg e,if_neg (fun z=>e (h1.trans z))];exact ⟨h1,h2,h3⟩
theorem KT.put {H:Hp}{kvs:List (List Key × V)}{xs:List (List Key × Addr × Value)}(r:KT H kvs xs)(k:List Key){b:Addr}{y:V}{u:Value}(hb:H b=some (.tup (k.map kV)))(ry:bc y u) :
  KT H (bo kvs k y) (storedH xs k b u):=by
 have e:(kvs.any fun kv=>decide (kv.1=k))=(atKey xs k).isSome:=by
  rw [cn,(r.val k).isSome_eq,Option.isSome_map]
 unfold bo storedH
 rw [e]
 by_cases q:(atKey xs k).isSome=true
 ·rw [if_pos q,if_pos q];exact r.repl k ry
 ·rw [if_neg q,if_neg q];exact Paired.snoc r ⟨rfl,hb,ry⟩
theorem KT.keeps {H H':Hp}{kvs:List (List Key × V)}{xs:List (List Key × Addr × Value)}(r:KT H kvs xs)(ht:∀ b ys,H b=some (.tup ys)→H' b=some (.tup ys)):KT H' kvs xs :=
 Paired.mapP r fun _ _ z=>⟨z.1,ht _ _ z.2.1,z.2.2⟩
section
variable {P:Program} {w:World} {H:Hp} {h:Heap} {a:Addr}
theorem uS {u:HO}(ok:HOk P w H h)(e:Rd H a u):a_ P w H h a u:=e.ok ok
theorem lQ {kvs:List (Key × V)}(ok:HOk P w H h)(e:Rd H a (.dK kvs)):kvs.length≤sizeLine∧(a == sysModules)=false∧∃ vs,KV kvs vs∧h.DictOf (aN P w) a vs :=
 show a_ P w H h a (.dK kvs) from uS ok e
theorem uT {kvs:List (Key × V)}(ok:HOk P w H h)(e:H a=some (.dK kvs)):kvs.length≤sizeLine∧(a == sysModules)=false∧∃ vs,KV kvs vs∧h.DictOf (aN P w) a vs:=lQ ok (.inl e)
theorem gP {ks:List Key}(ok:HOk P w H h)(e:H a=some (.tup (ks.map kV))):(tupleKind (aN P w)).is h ks a:=by
 obtain ⟨_,its,r,⟨o,h1,h2,n,h3⟩,_⟩:=(show a_ P w H h a (.tup (ks.map kV)) from ok a _ e)
 exact ⟨o,its.toArray,n,h1,h2,h3,by simpa using gO r⟩
theorem lS {kvs:List (List Key × V)}(ok:HOk P w H h)(e:Rd H a (.dT kvs)):kvs.length≤sizeLine∧(a == sysModules)=false ∧
  ∃ xs,KT H kvs xs∧h.DictOfH (tupleKind (aN P w)) a xs:=by
 obtain ⟨z,y,xs,r,o,es,ep,h1,h2,h3,h4,h5⟩:=(show a_ P w H h a (.dT kvs) from uS ok e)
 refine ⟨z,y,xs,r,o,es,ep,h1,h2,h3,h4,fun x hx=>?_,h5⟩
 have all:∀ {l:List (List Key × V)} {m:List (List Key × Addr × Value)},KT H l m→∀ x∈m,(tupleKind (aN P w)).is h x.1 x.2.1:=by
  intro l m q
  induction q with
  | nil=>intro x hx;exact nomatch hx
  | @cons p q ps qs hq t ih =>
   intro x hx
   rcases List.mem_cons.mp hx with e | hx
   ·subst e
    exact gP ok (by rw [← hq.1];exact hq.2.1)
   ·exact ih x hx
 exact all r x hx
theorem wM {kvs:List (List Key × V)}(ok:HOk P w H h)(e:H a=some (.dT kvs)):kvs.length≤sizeLine∧(a == sysModules)=false ∧
  ∃ xs,KT H kvs xs∧h.DictOfH (tupleKind (aN P w)) a xs:=lS ok (.inl e)
end
def gw (H:Hp)(a:Addr)(y:V)(r:Option V):Prop :=
 (∃ kvs k,Rd H a (.dK kvs)∧y=kV k∧r=bO kvs k) ∨ ∃ kvs k b,Rd H a (.dT kvs)∧y = .ref b∧H b=some (.tup (k.map kV))∧r=bO kvs k
def oz (H:Hp)(a:Addr)(y v:V)(H':Hp):Prop :=
 (∃ kvs k,H a=some (.dK kvs)∧y=kV k∧kvs.length < sizeLine∧H'=upd H a (.dK (bo kvs k v))) ∨
 ∃ kvs k b,H a=some (.dT kvs)∧y = .ref b∧H b=some (.tup (k.map kV))∧kvs.length < sizeLine∧H'=upd H a (.dT (bo kvs k v))
theorem gw.k {H:Hp}{a:Addr}{kvs:List (Key × V)}{k:Key}(e:H a=some (.dK kvs)):gw H a (kV k) (bO kvs k):=.inl ⟨kvs,k,.inl e,rfl,rfl⟩
theorem oz.k {H:Hp}{a:Addr}{kvs:List (Key × V)}{k:Key}{v:V}(e:H a=some (.dK kvs))(hl:kvs.length < sizeLine):oz H a (kV k) v (upd H a (.dK (bo kvs k v))):=.inl ⟨kvs,k,e,rfl,hl,rfl⟩
section
variable {X:Cx} {pins:List (Addr × Obj)} {σ:St} {H:Hp} {s:Shared} {a:Addr} {y v:V} {u r:Value} {o:Option V} {A:Around} {E:Value→Shared→Prop}
theorem Inv.big (I:Inv X pins σ H s):sysModules < s.heap.objs.size:=by
 have h:mainGlobals < s.heap.objs.size:=(I.mod.glob.keeps I.bk).lt
 exact Nat.lt_trans (by decide) h
theorem lU {Q:Value→Shared→Prop}(hu:A.units+1 < cLine)(I:Inv X pins σ H s)(g:gw H a y (some v))(ry:bc y u)(h:∀ w' s',Inv X pins σ H s'→bc v w'→Q w' s') :
  wpAny (model X.prog X.w) A (getItem (.ref a) u) Q E s:=by
 rcases g with ⟨kvs,k,e,ey,l⟩ | ⟨kvs,k,b,e,ey,eb,l⟩
 ·subst ey
  obtain ⟨z,hd,vs,rel,dd⟩:=lQ I.hok e
  obtain ⟨w',hw,rw'⟩:=jv.some_of (v:=v) (o:=valueAt vs k) (by rw [l];exact rel.val k)
  exact wpAny_getItem_of (i0 ry) dd.mapOf hw (h w' _ (I.tok _) rw')
 ·subst ey
  cases (show u=Value.ref b from ry)
  obtain ⟨z,hd,xs,rel,dd⟩:=lS I.hok e
  obtain ⟨w',hw,rw'⟩:=jv.some_of (v:=v) (o:=(atKey xs k).map (·.2)) (by rw [l];exact rel.val k)
  obtain ⟨p,hp,hp2⟩:=Option.map_eq_some_iff.mp hw
  refine wpAny_getItem_heap (tupleKind_room_in1 hu) (gP I.hok eb) dd hp ?_
  rw [hp2]
  exact h w' _ (I.tok _) rw'
theorem yI {Q:Value→Shared→Prop}(hu:A.units+1 < cLine)(I:Inv X pins σ H s)(g:gw H a y o)(ry:bc y u)(h:∀ s',Inv X pins σ H s'→Q (.bool o.isSome) s') :
  wpAny (model X.prog X.w) A (compareOp .In u (.ref a)) Q E s:=by
 rcases g with ⟨kvs,k,e,ey,l⟩ | ⟨kvs,k,b,e,ey,eb,l⟩
 ·subst ey
  obtain ⟨z,hd,vs,rel,dd⟩:=lQ I.hok e
  refine wpAny_in_of (i0 ry) hd dd.mapOf ?_
  rw [← (rel.val k).isSome_eq,← l]
  exact h _ (I.tok _)
 ·subst ey
  cases (show u=Value.ref b from ry)
  obtain ⟨z,hd,xs,rel,dd⟩:=lS I.hok e
  refine wpAny_in_heap (tupleKind_room_in1 hu) (gP I.hok eb) hd dd ?_
  have q:=(rel.val k).isSome_eq
  rw [Option.isSome_map] at q
  rw [← q,← l]
  exact h _ (I.tok _)
theorem rU {Q:Value→Shared→Prop}(hu:A.units+1 < cLine)(I:Inv X pins σ H s)(g:gw H a y o)(ry:bc y u)(h:∀ s',Inv X pins σ H s'→Q (.bool (!o.isSome)) s') :
  wpAny (model X.prog X.w) A (compareOp .NotIn u (.ref a)) Q E s:=by
 rcases g with ⟨kvs,k,e,ey,l⟩ | ⟨kvs,k,b,e,ey,eb,l⟩
 ·subst ey
  obtain ⟨z,hd,vs,rel,dd⟩:=lQ I.hok e
  refine wpAny_notIn_of (i0 ry) hd dd.mapOf ?_
  rw [← (rel.val k).isSome_eq,← l]
  exact h _ (I.tok _)
 ·subst ey
  cases (show u=Value.ref b from ry)
  obtain ⟨z,hd,xs,rel,dd⟩:=lS I.hok e
  refine wpAny_notIn_heap (tupleKind_room_in1 hu) (gP I.hok eb) hd dd ?_
  have q:=(rel.val k).isSome_eq
  rw [Option.isSome_map] at q
  rw [← q,← l]
  exact h _ (I.tok _)
theorem i3 {h':Heap}{t':Nat}{ob:HO}(I:Inv X pins σ H s)(mu:Mut (H a))(hs:Heap.SameBut a s.heap h')(he:∃ q,h'.get? a=some q)(new:a_ X.prog X.w (upd H a ob) h' a ob) :
  Inv X pins σ (upd H a ob) { s with heap:=h',toks:=t' } :=
 I.write (x:=a) (e:=a) mu (.inl rfl) (fun b q hb z=>(hs.2 b hb).trans z) he new
theorem lV {P:Program}{w:World}{H':Hp}{h':Heap}{kvs:List (Key × V)}{vs:List (Key × Value)}(z:kvs.length≤sizeLine)(hd:(a == sysModules)=false)(rel:KV kvs vs)(dd:h'.DictOf (aN P w) a vs) :
  a_ P w H' h' a (.dK kvs):=⟨z,hd,vs,rel,dd⟩
theorem lW {H':Hp}{Q:Unit→Shared→Prop}(hu:A.units+1 < cLine)(I:Inv X pins σ H s)(g:oz H a y v H')(ry:bc y u)(rv:bc v r)(h:∀ s',Inv X pins σ H' s'→Q () s') :
  wpAny (model X.prog X.w) A (setItem (.ref a) u r) Q E s:=by
 rcases g with ⟨kvs,k,e,ey,l,eH⟩ | ⟨kvs,k,b,e,ey,eb,l,eH⟩
 ·subst ey eH
  obtain ⟨z,hd,vs,rel,dd⟩:=uT I.hok e
  have hz:vs.length≤sizeLine:=by rw [← rel.length];exact z
  have hl:(bo kvs k v).length≤sizeLine:=by have:=bp kvs k v;omega
  refine wpAny_setItem_pairs (hsz:=hz) (i0 ry) dd fun h' dd' hs=>h _ ?_
  have he:∃ q,h'.get? a=some q:=let ⟨q,_,_,hq,_⟩:=dd';⟨q,hq⟩
  exact i3 I (by rw [e];exact True.intro) hs he (lV hl hd (rel.put k rv) dd')
 ·subst ey eH
  cases (show u=Value.ref b from ry)
  obtain ⟨z,hd,xs,rel,dd⟩:=wM I.hok e
  have hz:xs.length≤sizeLine:=by rw [← Paired.length rel];exact z
  have hl:(bo kvs k v).length≤sizeLine:=by have:=bp kvs k v;omega
  refine wpAny_setItem_heap (hsz:=hz) (tupleKind_room_in1 hu) (gP I.hok eb) dd fun h' dd' hs=>h _ ?_
  obtain ⟨q,es,ep,hq,h2,h3,h4,_,h5⟩:=dd'
  refine i3 I (by rw [e];exact True.intro) hs ⟨q,hq⟩ ⟨hl,hd,_,(rel.put k eb rv).keeps fun c ys ec=>?_,q,es,ep,hq,h2,h3,h4,h5⟩
  rw [aq (oG ec e (fun z=>nomatch z))]
  exact ec
end
section
variable {X:Cx} {pins:List (Addr × Obj)} {σ:St} {H:Hp} {s:Shared} {a:Addr} {kvs:List (Key × V)} {k:Key} {u:Value} {A:Around} {E:Value→Shared→Prop}
end
def xZ (i:Expr):Prop:=∀ ov iv,subscripted i false ov iv=operate [ov,iv] (getItem ov iv)
theorem rV {prog:Program}{w:World}{A:Around}{E:Value→Shared→Prop}{s:Shared}{env:Env}{value slice:Expr}{pos:Pos}{T id:String}{Q:Value→Shared→Prop}
  (hl:typeLookup (.type T) "__getitem__" = pure (some (.builtin id))) (hs:xZ slice)
  (h:wpAny (model prog w) A (eval value env) (fun o s₁=>wpAny (model prog w) A (eval slice env) (fun i s₂=>s₂.TypeIs o T∧wpAny (model prog w) A (getItem o i) Q E s₂) E s₁) E s) :
  wpAny (model prog w) A (eval (.Subscript value slice pos) env) Q E s:=by
 refine Subscript_ (wpAny_mono h (fun o s₁ h₁=>wpAny_mono h₁ (fun i s₂ h₂=>?_) fun _ _ x=>x) fun _ _ x=>x)
 obtain ⟨hT,h₂⟩:=h₂
 unfold subscriptTail
 refine wpAny_bind ?_
 rw [getitemInPython_of_ne hT.not_modules]
 refine wpAny_bind (wpAny_specialOf hT hl ?_)
 have fin:wpAny (model prog w) A (subscripted slice false o i) (fun r s₃=>wpAny (model prog w) A (letTemporaryGo value o r >>= fun _=>pure r) Q E s₃) E s₂:=by
  rw [hs o i]
  exact wpAny_operating (wpAny_mono h₂ (fun r s₃ h₃=>wpAny_bind (wpAny_letTemporaryGo (wpAny_pure h₃))) fun _ _ x=>x)
 first
  | exact wpAny_pure (wpAny_bind fin)
  | exact wpAny_bind (wpAny_pure (wpAny_bind fin))
  | exact wpAny_bind fin
theorem i4 {X:Cx}{pins:List (Addr × Obj)}{σ:St}{H:Hp}{s:Shared}{a:Addr}{y:V}{o:Option V}(I:Inv X pins σ H s)(g:gw H a y o):s.TypeIs (.ref a) "dict":=by
 rcases g with ⟨kvs,k,e,_,_⟩ | ⟨kvs,k,b,e,_,_,_⟩
 ·obtain ⟨_,_,vs,_,dd⟩:=lQ I.hok e
  exact dd.typeIs
 ·obtain ⟨_,_,xs,_,dd⟩:=lS I.hok e
  exact dd.typeIs
def wN (td ty:TE):TE:=fun σ H Q=>td σ H fun x H1=>ty σ H1 fun y H2=>∃ a v,x = .ref a∧gw H2 a y (some v)∧Q v H2
def x8 (ty td:TE):TE:=fun σ H Q=>ty σ H fun y H1=>td σ H1 fun x H2=>∃ a o,x = .ref a∧gw H2 a y o∧Q (.bl o.isSome) H2
def lX (ty td:TE):TE:=fun σ H Q=>ty σ H fun y H1=>td σ H1 fun x H2=>∃ a o,x = .ref a∧gw H2 a y o∧Q (.bl (!o.isSome)) H2
def wO (td ty tv:TE):TS:=fun D σ H=>tv σ H fun v H1=>td σ H1 fun x H2=>ty σ H2 fun y H3=>∃ a H4,x = .ref a∧oz H3 a y v H4∧D.nx σ H4
section
variable {X:Cx} {o i e value:Expr} {pos pos' tpos:Pos} {td ty tv:TE}
theorem bh (hu:X.A.units+1 < cLine)(ho:PE X o td)(hi:PE X i ty)(hs:xZ i):PE X (.Subscript o i pos) (wN td ty):=by
 intro pins s σ H Q I h
 refine rV PySem.F.slot_dict_getitem.lookup hs (thn (ho pins s σ H _ I h) fun u s1 ⟨x,H1,I1,rx,q1⟩=>thn (hi pins s1 σ H1 _ I1 q1) fun iv s2 zq68=>?_)
 obtain ⟨y,H2,I2,ry,a,v,ex,g,q2⟩:=zq68
 subst ex
 obtain rfl:u=Value.ref a:=rx
 exact ⟨i4 I2 g,lU hu I2 g ry fun w' s3 I3 rw'=>⟨v,H2,I3,rw',q2⟩⟩
theorem uU (hu:X.A.units+1 < cLine)(hi:PE X i ty)(ho:PE X o td):PC X .In i o (x8 ty td):=by
 intro pins s σ H Q I h
 refine thn (hi pins s σ H _ I h) fun iv s1 ⟨y,H1,I1,ry,q1⟩=>thn (ho pins s1 σ H1 _ I1 q1) fun u s2 zq69=>?_
 obtain ⟨x,H2,I2,rx,a,ov,ex,g,q2⟩:=zq69
 subst ex
 obtain rfl:u=Value.ref a:=rx
 exact yI hu I2 g ry fun s3 I3=>⟨.bl ov.isSome,H2,I3,rfl,q2⟩
theorem lY (hu:X.A.units+1 < cLine)(hi:PE X i ty)(ho:PE X o td):PC X .NotIn i o (lX ty td):=by
 intro pins s σ H Q I h
 refine thn (hi pins s σ H _ I h) fun iv s1 ⟨y,H1,I1,ry,q1⟩=>thn (ho pins s1 σ H1 _ I1 q1) fun u s2 zq70=>?_
 obtain ⟨x,H2,I2,rx,a,ov,ex,g,q2⟩:=zq70
 subst ex
 obtain rfl:u=Value.ref a:=rx
 exact rU hu I2 g ry fun s3 I3=>⟨.bl (!ov.isSome),H2,I3,rfl,q2⟩
theorem bM (hu:X.A.units+1 < cLine)(ho:PE X o td)(hi:PE X i ty)(hv:PE X value tv)(hs:swapsWith value (some (.Subscript o i pos')) pos.line X.env=pure false) :
  PS X (.Assign [.Subscript o i pos'] value pos) (wO td ty tv):=by
 intro pins s σ H D I h
 refine wpAny_Assign_Subscript (thn (hv pins s σ H _ I h) fun r s1 ⟨v,H1,I1,rv,q1⟩=>thn (ho pins s1 σ H1 _ I1 q1) fun u s2 ⟨x,H2,I2,rx,q2⟩=>thn (hi pins s2 σ H2 _ I2 q2) fun iv s3 zq71=>?_) hs
 obtain ⟨y,H3,I3,ry,a,H4,ex,g,q3⟩:=zq71
 subst ex
 obtain rfl:u=Value.ref a:=rx
 exact lW hu I3 g ry rv fun s4 I4=>⟨σ,H4,I4,q3⟩
end
theorem jG {P:Program}{w:World}{H:Hp}(h:Heap)(hb:sysModules < h.objs.size):a_ P w H (h.push { cls:=.type "dict",data:=.dict #[] }) h.objs.size (.dK []) :=
 ⟨Nat.zero_le _,beq_eq_false_iff_ne.mpr (Ne.symm (Nat.ne_of_lt hb)),[],.nil,Heap.DictOf.new h⟩
def uV:TE:=fun _ H Q=>∀ p,H p=none→Q (.ref p) (upd H p (.dK []))
section
variable {X:Cx} {pos:Pos}
theorem fG:PE X (.Dict [] [] pos) uV:=fun pins s σ H Q I h =>
 wpAny_Dict_empty ⟨.ref s.heap.objs.size,_,I.laid (a:=s.heap.objs.size) (o:=.dK []) (t':=s.toks) (fun _ _ q=>Heap.get?_push_of_some _ q) (Nat.le_refl _) (jG s.heap I.big),rfl,h _ (I.hok.fresh (Nat.le_refl _))⟩
end
def lZ:List (TE × TE)→St→Hp→(List (V × V)→Hp→Prop)→Prop
 | [],_,H,Q=>Q [] H
 | (tk,tv)::r,σ,H,Q=>tk σ H fun x H1=>tv σ H1 fun y H2=>lZ r σ H2 fun ps H3=>Q ((x,y)::ps) H3
abbrev VV:List (V × V)→List (Value × Value)→Prop:=Paired fun p q=>bc p.1 q.1∧bc p.2 q.2
def PPs (X:Cx)(pos:Pos)(keys:List (Option Expr))(values:List Expr)(trs:List (TE × TE)):Prop :=
 ∀ (pins:List (Addr × Obj)) (s:Shared) (σ:St) (H:Hp) (Q:List (V × V)→Hp→Prop),Inv X pins σ H s→lZ trs σ H Q →
  wpAny (model X.prog X.w) X.A (evalPairs (pairTrees keys values X.env pos)) (fun vs s'=>∃ ps H',Inv X pins σ H' s'∧VV ps vs∧Q ps H') X.xe s
theorem rW {X:Cx}{pos:Pos}:PPs X pos [] [] []:=fun pins s σ H Q I h=>pairTrees_nil_walk ⟨[],H,I,.nil,h⟩
theorem dM {X:Cx}{pos:Pos}{k v:Expr}{ks:List (Option Expr)}{vs:List Expr}{tk tv:TE}{trs:List (TE × TE)}(hk:PE X k tk)(hv:PE X v tv)(hr:PPs X pos ks vs trs) :
  PPs X pos (some k::ks) (v::vs) ((tk,tv)::trs):=fun pins s σ H Q I h =>
 pairTrees_cons_walk (thn (hk pins s σ H _ I h) fun u s1 ⟨x,H1,I1,rx,q1⟩=>thn (hv pins s1 σ H1 _ I1 q1) fun w2 s2 ⟨y,H2,I2,ry,q2⟩ =>
  thn (hr pins s2 σ H2 _ I2 q2) fun ws s3 zq75=>(by obtain ⟨ps,H3,I3,rel,q3⟩:=zq75;exact ⟨(x,y)::ps,H3,I3,.cons ⟨rx,ry⟩ rel,q3⟩))
def d_ (kvs more:List (Key × V)):List (Key × V):=more.foldl (fun acc kv=>bo acc kv.1 kv.2) kvs
theorem KV.merge:∀ {more:List (Key × V)} {rs:List (Key × Value)} {kvs:List (Key × V)} {vs:List (Key × Value)},KV more rs→KV kvs vs→KV (d_ kvs more) (merged vs rs):=by
 intro more rs kvs vs r
 unfold KV at r
 induction r generalizing kvs vs with
 | nil=>intro q;exact q
 | @cons p q ps qs h t ih =>
  intro r0
  have e:KV (bo kvs p.1 p.2) (stored vs q.1 q.2):=by
   have:=r0.put p.1 h.2
   rw [← h.1];exact this
  exact ih e
theorem cH:∀ (more kvs:List (Key × V)),(d_ kvs more).length≤kvs.length+more.length
 | [],kvs=>by show kvs.length≤kvs.length+0;omega
 | p::r,kvs=>by
  have h1:=cH r (bo kvs p.1 p.2)
  have h2:=bp kvs p.1 p.2
  show (d_ (bo kvs p.1 p.2) r).length≤_
  rw [List.length_cons];omega
theorem fk {P:Program}{w:World}:∀ {kvs:List (Key × V)} {ws:List (Value × Value)},VV (kvs.map fun kv=>(kV kv.1,kv.2)) ws→∃ rs,Carries (aN P w) ws rs∧KV kvs rs
 | [],_,r=>by rw [List.map_nil] at r;cases r;exact ⟨[],True.intro,.nil⟩
 | p::kvs,_,r=>by
  rw [List.map_cons] at r
  cases r with
  | @cons a b as bs h t =>
   obtain ⟨rs,c,q⟩:=fk (P:=P) (w:=w) t
   obtain ⟨b1,b2⟩:=b
   exact ⟨(p.1,b2)::rs,⟨i0 h.1,rfl,c⟩,.cons ⟨rfl,h.2⟩ q⟩
def wQ (trs:List (TE × TE)):TE:=fun σ H Q=>∀ p,H p=none→lZ trs σ (upd H p (.dK [])) fun ps H2=>H2 p=some (.dK [])∧∃ kvs:List (Key × V),ps=kvs.map (fun kv=>(kV kv.1,kv.2))∧kvs.length≤15∧Q (.ref p) (upd H2 p (.dK (d_ [] kvs)))
theorem rX {X:Cx}{pos:Pos}{keys:List (Option Expr)}{values:List Expr}{trs:List (TE × TE)}(h:PPs X pos keys values trs)(hall:keys.all (·.isSome)=true)(hl:keys.length=values.length)(h0:keys≠[])
  (h15:keys.length≤15):PE X (.Dict keys values pos) (wQ trs):=by
 intro pins s σ H Q I q
 have hn:=I.hok.fresh (Nat.le_refl s.heap.objs.size)
 have I1:=I.laid (a:=s.heap.objs.size) (o:=.dK []) (h':=s.heap.push { cls:=.type "dict",data:=.dict #[] }) (t':=s.toks) (fun _ _ q=>Heap.get?_push_of_some _ q) (Nat.le_refl _) (jG s.heap I.big)
 refine wpAny_Dict_walk (knd:=aN X.prog X.w) hall hl h0 h15 (thn (h pins _ σ _ _ I1 (q _ hn)) fun ws s2 zq76=>?_)
 obtain ⟨ps,H2,I2,rel,e,kvs,ep,lk,q2⟩:=zq76
 subst ep
 obtain ⟨rs,c,rk⟩:=fk (P:=X.prog) (w:=X.w) rel
 obtain ⟨z,hd,vs0,r0,dd⟩:=uT I2.hok e
 cases r0
 refine ⟨rs,c,dd,fun h' dd' hs=>⟨.ref s.heap.objs.size,_,?_,rfl,q2⟩⟩
 have hz:(d_ [] kvs).length≤sizeLine:=by
  have h1:=cH kvs []
  rw [List.length_nil] at h1
  rw [sizeLine_eq];omega
 have he:∃ q,h'.get? s.heap.objs.size=some q:=let ⟨q,_,_,hq,_⟩:=dd';⟨q,hq⟩
 exact i3 I2 (by rw [e];exact True.intro) hs he (lV hz hd (rk.merge .nil) dd')
section
variable {X:Cx} {pins:List (Addr × Obj)} {σ:St} {H:Hp} {s:Shared} {a:Addr} {y d:V} {u r:Value} {o:Option V} {A:Around} {E:Value→Shared→Prop}
end
section
variable {X:Cx} {o e f:Expr} {apos cpos:Pos} {td ty tx:TE}
end
section
variable {X:Cx} {pins:List (Addr × Obj)} {σ:St} {H:Hp} {s:Shared} {a:Addr} {kvs:List (Key × V)} {A:Around} {E:Value→Shared→Prop}
end
section
variable {X:Cx} {pins:List (Addr × Obj)} {σ:St} {H:Hp} {s:Shared} {a:Addr} {y:V} {u:Value} {A:Around} {E:Value→Shared→Prop}
end
end L2
namespace Att
open PySem PySem.W PySem.Calls PyProof.Rows
theorem ef {P:Params}{h:Heap}:∀ (ns:List Int) (vs:List Value),WellAll P h vs (ns.map WData.int)→IntsAre vs ns:=by
 intro ns
 induction ns with
 | nil =>
  intro vs w
  rw [List.map_nil] at w
  cases w
  exact .nil
 | cons n ns ih =>
  intro vs w
  rw [List.map_cons] at w
  cases w with
  | cons a b =>
   cases a
   exact .cons _ _ (ih _ b)
theorem l_ {l:OpenLaw}{n:Nat}(hn:l.most=some n){P:Params}{h:Heap}{args:List WData}{vals:List Value}
  (hpre:l.row.toRowW.claim.pre args=true) (hwl:WellAll P h vals args) :
  ∃ a vs ns,vals=[Value.ref a]∧args=[WData.list (ns.map WData.int)]∧h.get? a=some { cls:=.type "list",data:=.seq vs.toArray }∧IntsAre vs ns∧ns.length≤n:=by
 have hsh:WShape.hasAll [] args [.list .int]=true:=(pre_splitW hpre).1
 have hc:l.pre.holds [] { args:=args }=true:=(pre_splitW hpre).2
 obtain ⟨d,r,rfl,h1,h2⟩:=hasAllW_cons hsh
 obtain rfl:=hasAllW_nil h2
 obtain ⟨xs,rfl,h3⟩:=hasW_list h1
 obtain ⟨ns,rfl⟩:=items_int h3
 have hlen:ns.length≤n:=by
  unfold OpenLaw.pre at hc
  have h4:(WTm.not (.lt (.lit (.int (n:Int))) (.len (.arg 0)))).holds [] { args:=[.list (ns.map .int)] }=true:=by
   have h4:=(holds_andW hc).1
   rw [hn] at h4
   exact h4
  have h5:=condW_of h4 (w_not (w_lt w_lit (w_len_list (w_arg rfl))))
  rw [List.length_map] at h5
  refine Nat.le_of_not_lt fun q=>?_
  have q':(n:Int) < ((ns.length:Nat):Int):=by omega
  first
   | (rw [decide_eq_true q'] at h5;exact absurd h5 (by decide))
   | (simp at h5;omega)
 cases hwl with
 | cons w1 w2 =>
  cases w2
  cases w1 with
  | list ho hall=>exact ⟨_,_,ns,rfl,rfl,ho,ef ns _ hall,hlen⟩
theorem ma (l:OpenLaw)(args:List WData):l.row.toRowW.claim.post args (.bool true) args=true :=
 postW_of (r:=l.row.toRowW) (X:=(true == true))
  (show WShape.has [] (.bool true) .bool=true by first | rfl | decide | simp [WShape.has,WShape.arms,WShape.armsAll])
  (show (WTm.eq .res (.lit (.bool true))).value [] { args:=args,res:=some (.bool true),after:=args }=some (.bool (true == true)) from w_eq_bool (w_res rfl) w_lit) rfl
theorem attach_call {l:OpenLaw}{n:Nat}{q:Program}{loose:List Str}{XP:(Str→Option Value)→Heap→Prop}{YP:World→Heap→Prop}{d:DefRec}
  (hn:l.most=some n) (hdf:d.params.defaults=[])
  (call:∀ (w:World) (s₀ s₁:Shared) (mg mb:Str→Option Value) (fa:Addr) (o:Obj) (pm cd doc:Value) (a:Addr) (vs:List Value) (ns:List Int),
   Ground q loose [] XP w s₀ mg mb s₁.heap→YP w s₁.heap →
   s₁.heap.get? fa=some o→o.data = .func (docDef d.name d.params d.body d.scope pm cd doc)→s₁.heap.CodeRec cd d.name→mg d.name=some (.ref fa) →
   s₁.heap.get? a=some { cls:=.type "list",data:=.seq vs.toArray }→IntsAre vs ns→ns.length≤n→s₁.gens=#[] →
   codeAny (model l.prog w) callerA (.call (.ref fa) ⟨[.ref a],[]⟩) (fun r s'=>r = .ok (.ret (.bool true))∧OldK s₁.heap s'.heap∧s'.os=s₁.os∧AllBare s'.gens) s₁) :
  WalkO q loose XP YP l.row.toRowW d [] (fun f vs=>PySem.call f vs):=by
 intro w s₀ s₁ mg mb G Y fa o pm cd doc dV kV ho hd hcd hD hmg hg args vals as hpre hlay hrd hwl hlo
 obtain rfl:dV = .none:=Dflts.none hD hdf
 obtain rfl:kV = .none:=Dflts.noKw hD
 obtain ⟨a,vs,ns,rfl,rfl,hobj,hints,hlen⟩:=l_ hn hpre hwl
 refine enter_call (codeAny_mono (call w s₀ s₁ mg mb fa o pm cd doc a vs ns G Y ho (fd_plain hd) hcd hmg hobj hints hlen hg) fun r s' hq=>?_)
 obtain ⟨rfl,h2,h3,h4⟩:=hq
 exact ⟨.inl ⟨.bool true,.bool true,[],rfl,fun _=>rfl,.bool true,ma l _,fun _=>⟨List.Pairwise.nil,fun _ hm=>(nomatch hm)⟩⟩,h2,h3,h4⟩
section
variable {prog:Program} {w:World} {A:Around} {E:Value→Shared→Prop} {s:Shared} {K:Frag}
end
end Att
namespace L2
open PySem PySem.Spec PyProof.Rows
theorem gQ:∀ {vs:List Value} {ns:List Int},IntsAre vs ns→aY (ns.map V.int) vs
 | _,_,.nil=>.nil
 | _,_,.cons n t h=>.cons ⟨t,rfl⟩ (gQ h)
def wR (H:Hp):Prop:=∀ b,H b=none ∨ ∃ o xs,H b=some (.frz o (.lst xs))
theorem pj {P:Program}{w:World}{K:PySem.W.Frag}{mg mb:Str→Option Value}{CX:CXT}{k:Nat}{fa a:Addr}{fd:FuncData}{x:Str}{sp:Sp}{s₁:Shared}{vs:List Value}{ns:List Int}
  (KX:K.In s₁.heap) (hns:s₁.heap.Ns mainGlobals mg) (hb:s₁.heap.Ns builtinsNs mb) (hbb:∀ x:Str,x ≠ "__name__"→mb x=bootBuiltins x) (hlim:s₁.heap.NoLimit) (hg:s₁.gens=#[])
  (ha:s₁.heap.get? a=some { cls:=.type "list",data:=.seq vs.toArray }) (hi:IntsAre vs ns) (hl:ns.length≤sizeLine) (hr:cZ k callerA)
  (F:∀ base:Heap,K.In base→base.Ns mainGlobals mg→fj P w K mg base CX k fa fd [x] sp) (hbind:∀ (s:Shared) (u:Value),BindsTo s fd ⟨[u],[]⟩ [(x,u)])
  (hsp:∀ H:Hp,wR H→SqL K H a (ns.map V.int)→sp [.ref a] H (fun v _=>v = .bl true) fun _ _ _=>False)
  (hCX:∀ H e s',CX [] H s₁ (fun _ _ _=>False) e s'→False) :
  codeAny (model P w) callerA (.call (.ref fa) ⟨[.ref a],[]⟩) (fun r s'=>r = .ok (.ret (.bool true))∧OldK s₁.heap s'.heap∧s'.os=s₁.os∧AllBare s'.gens) s₁:=by
 have rv:=gQ hi
 have lenV:=hi.length
 -- from an abstract heap in which nothing but the script may be tracked
 have core:∀ H:Hp,wR H→SqL K H a (ns.map V.int)→HOk P w H s₁.heap→(∀ b,H b≠none→b=a)→(H a≠none→K.lookup a=none) →
   codeAny (model P w) callerA (.call (.ref fa) ⟨[.ref a],[]⟩) (fun r s'=>r = .ok (.ret (.bool true))∧OldK s₁.heap s'.heap∧s'.os=s₁.os∧AllBare s'.gens) s₁:=by
  intro H hO hS hok hA hK
  have base_of:∀ {b:Addr} {o:Obj},s₁.heap.get? b=some o→H b=none→(oH s₁.heap H).get? b=some o:=fun e n=>oI e n
  have noA:∀ {b:Addr} {o:Obj} {es:Array DictEntry} {ep:Nat},s₁.heap.get? b=some o→o.data = .dict es ep→H b=none:=fun {b o es ep} e d=>by
   cases q:H b with
   | none=>rfl
   | some u =>
    have e':b=a:=hA b (by rw [q];simp)
    subst e'
    rw [ha] at e;cases e
    have d':Data.seq vs.toArray _=Data.dict es ep:=d
    cases d'
  have nsK:∀ {b:Addr} {m:Str→Option Value},s₁.heap.Ns b m→(oH s₁.heap H).Ns b m:=fun {b m} ⟨o,es,ep,e,d,r⟩=>⟨o,es,ep,base_of e (noA e d),d,r⟩
  have hKb:K.In (oH s₁.heap H):=fun b o e=>base_of (KX b o e) (by
   cases q:H b with
   | none=>rfl
   | some u =>
    have e':b=a:=hA b (by rw [q];simp)
    subst e'
    rw [hK (by rw [q];simp)] at e;cases e)
  have hM:Mod K mg (oH s₁.heap H):=⟨hKb,nsK hns,⟨mb,nsK hb,hbb⟩,let ⟨mc,h1,h2⟩:=hlim;⟨mc,nsK h1,h2⟩⟩
  have e0:rO P w K mg (oH s₁.heap H) callerA [] s₁ H:=⟨rfl,hM,fun b o e=>rB e,Nat.le_of_eq (lu _ _),trivial,fun b hb=>absurd (show b∈([]:List Addr) from hb) (by simp),hok,.of_eq hg⟩
  refine codeAny_mono ((F _ hKb (nsK hns)).run callerA [] s₁ H ⟨[.ref a],[]⟩ [.ref a] [.ref a] _ _ hr e0 (hbind s₁ (.ref a)) (.cons rfl .nil) (hsp H hO hS)) fun r s' h=>?_
  cases r with
  | error e=>exact (hCX H e s' h).elim
  | ok fl =>
   cases fl with
   | next=>exact False.elim h
   | brk=>exact False.elim h
   | cont=>exact False.elim h
   | ret u =>
    obtain ⟨v,H',os,bare,un,hok',r',q⟩:=h
    have q':v = .bl true:=q
    subst q'
    obtain rfl:u=Value.bool true:=r'
    refine ⟨rfl,OldK.of_keep fun b o e=>?_,os,bare⟩
    cases q:H b with
    | none=>exact un.keep b o e q (by intro z;exact absurd (show b∈([]:List Addr) from z) (by simp)) (by simp)
    | some u =>
     rcases hO b with z | ⟨ob,xs,z⟩
     ·rw [q] at z;cases z
     ·have z2:=un.frzs b ob _ z
      obtain ⟨e1,_⟩:=hok b _ z
      obtain ⟨e2,_⟩:=hok' b _ z2
      rw [e] at e1;cases e1
      exact e2
 cases hk:K.lookup a with
 | some o =>
  -- the script is one of the module's own objects
  have e:=KX a o hk
  rw [ha] at e
  cases e
  refine core (fun _=>none) (fun _=>.inl rfl) (.inr ⟨_,vs.toArray,_,hk,rfl,rfl,rfl,by rw [List.size_toArray,lenV];exact hl,by simpa using rv⟩) (fun b u z=>by have z':(none:Option HO)=some u:=z;cases z') (fun b z=>absurd rfl z) fun z=>absurd rfl z
 | none =>
  refine core (fun b=>if b=a then some (.frz { cls:=.type "list",data:=.seq vs.toArray } (.lst (ns.map V.int))) else none) (fun b=>?_) (.inl (.inr ⟨{ cls:=.type "list",data:=.seq vs.toArray },if_pos rfl⟩)) (fun b u z=>?_) (fun b z=>?_) fun _=>hk
  ·by_cases hb:b=a
   ·exact .inr ⟨_,_,if_pos hb⟩
   ·exact .inl (if_neg hb)
  ·by_cases hb:b=a
   ·have z':=(if_pos hb).symm.trans z
    cases z'
    subst hb
    exact ⟨ha,by rw [List.length_map];exact hl,vs,_,rv,ha⟩
   ·have z':=(if_neg hb).symm.trans z
    cases z'
  ·by_cases hb:b=a
   ·exact hb
   ·exact absurd (if_neg hb) z
theorem me {l:PySem.W.OpenLaw}{n k:Nat}{q:Program}{loose:List Str}{XP:(Str→Option Value)→Heap→Prop}{YP:World→Heap→Prop}{d:DefRec}{K:Params→PySem.W.Frag}{CX:World→CXT}{sp:World→Sp}{x:Str}
  (hn:l.most=some n) (hn2:n≤sizeLine) (hdf:d.params.defaults=[]) (hr:cZ k callerA)
  (hY:∀ (w:World) (h:Heap),YP w h→(K w.params).In h)
  (F:∀ (w:World) (mg:Str→Option Value) (fa:Addr) (h:Heap),(K w.params).In h→h.Ns mainGlobals mg→mg d.name=some (.ref fa) →
   ∃ fd:FuncData,(∀ (s:Shared) (u:Value),BindsTo s fd ⟨[u],[]⟩ [(x,u)]) ∧
    ∀ base:Heap,(K w.params).In base→base.Ns mainGlobals mg→fj l.prog w (K w.params) mg base (CX w) k fa fd [x] (sp w))
  (hsp:∀ (w:World) (H:Hp) (a:Addr) (ns:List Int),ns.length≤n→wR H→SqL (K w.params) H a (ns.map V.int)→sp w [.ref a] H (fun v _=>v = .bl true) fun _ _ _=>False)
  (hCX:∀ (w:World) (H:Hp) (s:Shared) (e:Value) (s':Shared),CX w [] H s (fun _ _ _=>False) e s'→False) :
  PySem.W.WalkO q loose XP YP l.row.toRowW d [] (fun f vs=>PySem.call f vs):=by
 refine Att.attach_call hn hdf fun w s₀ s₁ mg mb fa o pm cd doc a vs ns G Y ho hd hcd hmg hobj hints hlen hg=>?_
 have KX:=hY w _ Y
 obtain ⟨fd,hb,hF⟩:=F w mg fa _ KX G.T.g hmg
 exact pj KX G.T.g G.T.b G.T.builtins G.T.nolimit hg hobj hints (Nat.le_trans hlen hn2) hr hF hb (fun H hO hS=>hsp w H a ns hlen hO hS) fun H e s'=>hCX w H s₁ e s'
end L2
/- THE LAST THEOREM (shape;LID,My.* are yours):
  My.Adr: a structure of the addresses that your layer names (classes,functions);My.Txt K t: a structure (Prop) of the equations over K;
  My.txt_mk:{K} {implicit addresses ..} (e1:nsIn K mainGlobals "law" = some (some (.ref f))) (e2:K.lookup f=some ⟨oc,od,.func (fnOf "law" "law" params body scope dV kV doc pm an cdv ct),sl⟩) (e3:codeIn K cdv "law" = true) ..:∃ t,My.Txt K t
set_option maxRecDepth 100000 in
set_option maxHeartbeats 0 in
theorem PySem.Challenge.cw_LID_holds : PySem.Challenge.rw_LID.Holds := by
 w_on;o_law;k_head;(case hw=>w_witness2)
 k_fill
 refine L2.me (l:=PySem.Challenge.rw_LID) (n:=63) (k:=40) (x:="script") (CX:=fun w=>..) (sp:=fun _=>My.sp_law) rfl (by decide) rfl ⟨rfl,by decide,by decide⟩ (fun w h Y=>PySem.W.kIn_of Y) ?F ?S ?C
 case F =>
  intro w mg fa h KX G hmg
  have T:∃ t,My.Txt (L2.KOf KX) t:=by
   dsimp only [L2.KOf]                          -- K must stand as «<heap const> w.params» for k_is
   refine' My.txt_mk ?e1 ?e2 ?e3 ..
   (case e1=>PySem.W.k_is)                    -- in the order: a name -> its address -> its object -> its parts
   (case e2=>PySem.W.k_is)
   ..
  obtain ⟨t,T⟩:=T
  have e0:=hmg.symm.trans (PySem.W.mg_of KX G T.law)
  cases e0                                       -- fa is the law's own address
  exact ⟨_,fun s u=>.of_eq rfl,fun base kb nb=>My.law_fn T kb nb⟩     -- if «.of_eq rfl» comes too early: refine' ⟨_,?b,fun base kb nb=>My.law_fn T kb nb⟩;exact fun s u=>.of_eq rfl
 case S=>exact fun w H a ns hl hO hS=>..
 case C=>exact ..
(the tactic k_is has no namespace: write k_is) -/
namespace L2
open PySem PySem.Spec PyProof.Rows
def ay (s:Stmt):Arguments:=match s with
 | .FunctionDef _ a _ _ _ _ _ _ _ _=>a
 | _=>{ posonlyargs:=[],args:=[],vararg:=none,kwonlyargs:=[],kw_defaults:=[],kwarg:=none,defaults:=[] }
def ax (s:Stmt):List Stmt:=match s with
 | .FunctionDef _ _ b _ _ _ _ _ _ _=>b
 | _=>[]
def af (s:Stmt):Scope:=match s with
 | .FunctionDef _ _ _ _ _ _ sc _ _ _=>sc
 | _=>{ kind:=.function,names:=[],isGenerator:=false,isCoroutine:=false }
abbrev CX0:CXT:=fun _ _ _ _ _ _=>False
abbrev E0:XK:=fun _ _ _=>False
theorem wU {X:Cx}:gE CX0 X E0:=fun _ _ _ _ _ _ _ h=>h.elim
structure Fun (K:PySem.W.Frag) (x qual:Str) (st:Stmt) (f:Addr) (fd:FuncData):Prop where
 ex:∃ (oc:Value) (od:Option Addr) (kV doc pm:Value) (an:Option Addr) (cdv ct:Value) (osl:Array (Option Value)),
  fd=PySem.W.fnOf x qual (ay st) (ax st) (af st) .none kV doc pm an cdv ct∧K.lookup f=some ⟨oc,od,.func fd,osl⟩∧PySem.W.codeIn K cdv qual=true
 kp:PySem.W.keepIn K (.ref f)=true
section
variable {P:Program} {w:World} {K:PySem.W.Frag} {mg:Str→Option Value} {base:Heap}
theorem Fun.ok {x qual:Str}{st:Stmt}{f:Addr}{fd:FuncData}{N ps:List Str}{k:Nat}{sp:Sp}(F:Fun K x qual st f fd)(S:aC N ps (af st))(len:∀ vs H Q E,sp vs H Q E→vs.length=ps.length)
  (hbody:∀ (cdv:Value) (A:Around) (outer:List Env) (s:Shared) (H:Hp) (vs:List V) (Q:VK) (E:XK),cZ k (A.deeper (envOfC qual (af st) s.heap.objs.size f cdv))→sp vs H Q E →
   ∃ t,PSs (jB CX0 P w K mg base N qual (af st) f cdv A outer s H E).nox (ax st) t∧t { nx:=fun _ H'=>Q .non H',rt:=Q } (start N vs) H):fj P w K mg base CX0 (k+1) f fd ps sp:=by
 obtain ⟨oc,od,kV,doc,pm,an,cdv,ct,osl,rfl,lk,hcd⟩:=F.ex
 refine uJ lk hcd S len fun A outer s H vs Q E hr hsp=>?_
 obtain ⟨t,h,q⟩:=hbody cdv A outer s H vs Q E hr hsp
 exact ⟨t,h.nox,q⟩
theorem Fun.binds {x qual:Str}{st:Stmt}{f:Addr}{fd:FuncData}{ps:List Str}(F:Fun K x qual st f fd)
  (h:∀ (kV doc pm:Value) (an:Option Addr) (cdv ct:Value) (us:List Value),us.length=ps.length→bindArgs (PySem.W.fnOf x qual (ay st) (ax st) (af st) .none kV doc pm an cdv ct) ⟨us,[]⟩=pure (ps.zip us)):ff K fd ps []:=by
 obtain ⟨oc,od,kV,doc,pm,an,cdv,ct,osl,rfl,lk,hcd⟩:=F.ex
 exact .all (h kV doc pm an cdv ct)
theorem mf {x qual:Str}{st:Stmt}{f:Addr}{oc:Value}{od an:Option Addr}{osl:Array (Option Value)}{kV doc pm cdv ct:Value}(l:K.lookup f=some ⟨oc,od,.func (PySem.W.fnOf x qual (ay st) (ax st) (af st) .none kV doc pm an cdv ct),osl⟩)
  (c:PySem.W.codeIn K cdv qual=true) (k:PySem.W.keepIn K (.ref f)=true):Fun K x qual st f (PySem.W.fnOf x qual (ay st) (ax st) (af st) .none kV doc pm an cdv ct):=⟨⟨oc,od,kV,doc,pm,an,cdv,ct,osl,rfl,l,c⟩,k⟩
end
theorem kD {A:Around}{k:Nat}(hr:cZ k A):A.units+1 < cLine:=Nat.lt_of_le_of_lt (Nat.add_le_add_left (by decide:1≤64) _) hr.units
section
variable {X:Cx}
theorem pv (i:Nat){x:Str}{pos:Pos}(hN:X.N[i]? = some x:=by rfl)(hv:Vis X.env.scope x:=by first | exact Or.inl rfl | exact Or.inr (Or.inl rfl) | exact Or.inr (Or.inr rfl))(hd:(x == ("__debug__":Str))=false:=by decide)
  (hcd:(x == ("__classdict__":Str))=false:=by decide):PE X (.Name x pos) (wq i):=ux hN hv hd hcd
end
theorem oA {A B:Prop}(h:B):if false=true then A else B:=by
 rw [if_neg Bool.false_ne_true]
 exact h
theorem pk {A B:Prop}(h:A):if true=true then A else B:=by
 rw [if_pos rfl]
 exact h
theorem ud {c A B:Prop}[Decidable c](h1:c→A)(h2:¬ c→B):if c then A else B:=by
 by_cases h:c
 ·rw [if_pos h]
  exact h1 h
 ·rw [if_neg h]
  exact h2 h
def az (H H':Hp):Prop:=∀ b o,H b=some o→H' b=some o
theorem az.refl (H:Hp):az H H:=fun _ _ h=>h
theorem az.trans {H H1 H2:Hp}(a:az H H1)(b:az H1 H2):az H H2:=fun c o h=>b c o (a c o h)
theorem az.free {H H':Hp}(e:az H H'){l:Addr}(h:H' l=Option.none):H l=Option.none:=by
 cases q:H l with
 | none=>rfl
 | some o =>
  rw [e l o q] at h
  cases h
theorem az.seq {K:PySem.W.Frag}{H H':Hp}{a:Addr}{xs:List V}(e:az H H')(h:SqL K H a xs):SqL K H' a xs:=by
 rcases h with (h | ⟨o,h⟩) | h
 ·exact .inl (.inl (e _ _ h))
 ·exact .inl (.inr ⟨o,e _ _ h⟩)
 ·exact .inr h
section
variable {κ:Type} [DecidableEq κ]
theorem valV_in {kvs:List (κ × V)}{k:κ}{v:V}(h:bO kvs k=some v):k∈kvs.map (·.1):=by
 have q:(kvs.any fun kv=>decide (kv.1=k))=true:=by
  rw [cn,h]
  all_goals rfl
 obtain ⟨p,hp,e⟩:=List.any_eq_true.mp q
 exact List.mem_map.mpr ⟨p,hp,of_decide_eq_true e⟩
end
def jH (cells:List (Str × Addr)):List (Str × NameKind)→List (Str × Addr)→List (Str × Addr)
 | [],acc=>acc
 | (x,k)::r,acc=>if k == NameKind.free then jH cells r ((x,(cells.lookup x).getD 0)::acc) else jH cells r acc
theorem fH {cells:List (Str × Addr)}{p:Str × Addr}:∀ {names:List (Str × NameKind)} {acc:List (Str × Addr)},p∈jH cells names acc→p∈acc ∨ ((p.1,NameKind.free)∈names∧p.2=(cells.lookup p.1).getD 0)
 | [],_,h=>.inl h
 | (x,k)::r,acc,h=>by
  unfold jH at h
  by_cases hk:(k == NameKind.free)=true
  ·rw [if_pos hk] at h
   have ek:k=NameKind.free:=by simpa using hk
   subst ek
   rcases fH h with h | ⟨h,e⟩
   ·rcases List.mem_cons.mp h with h | h
    ·subst h
     exact .inr ⟨List.mem_cons_self,rfl⟩
    ·exact .inl h
   ·exact .inr ⟨List.mem_cons_of_mem _ h,e⟩
  ·rw [if_neg hk] at h
   rcases fH h with h | ⟨h,e⟩
   ·exact .inl h
   ·exact .inr ⟨List.mem_cons_of_mem _ h,e⟩
theorem fJ {cells:List (Str × Addr)}{p:Str × Addr}:∀ {names:List (Str × NameKind)} {acc:List (Str × Addr)},p∈acc→p∈jH cells names acc
 | [],_,h=>h
 | (x,k)::r,acc,h=>by
  unfold jH
  split
  ·exact fJ (List.mem_cons_of_mem _ h)
  ·exact fJ h
theorem fK {cells:List (Str × Addr)}{x:Str}:∀ {names:List (Str × NameKind)} {acc:List (Str × Addr)},(x,NameKind.free)∈names→(x,(cells.lookup x).getD 0)∈jH cells names acc
 | [],_,h=>by simp at h
 | (y,k)::r,acc,h=>by
  unfold jH
  rcases List.mem_cons.mp h with h | h
  ·have e1:x=y:=congrArg Prod.fst h
   have e2:NameKind.free=k:=congrArg Prod.snd h
   subst e1 e2
   rw [if_pos (by simp)]
   exact fJ List.mem_cons_self
  ·split
   ·exact fK h
   ·exact fK h
theorem cI {x:Str}{c:Addr}:∀ {l:List (Str × Addr)},(x,c)∈l→∃ d,l.lookup x=some d
 | [],h=>by simp at h
 | (y,d)::r,h=>by
  rw [List.lookup_cons]
  by_cases e:(x == y)=true
  ·rw [e];exact ⟨d,rfl⟩
  ·have e':(x == y)=false:=by simpa using e
   rw [e']
   rcases List.mem_cons.mp h with h | h
   ·have:x=y:=congrArg Prod.fst h
    exact absurd (by simpa using this) e
   ·exact cI h
theorem cJ {env:Env}{scope:Scope}(h:∀ y∈scope.names,y.2=NameKind.free→∃ c,env.cells.lookup y.1=some c):closureFor scope env=pure (jH env.cells scope.names []):=by
 have all:∀ (names:List (Str × NameKind)) (acc:List (Str × Addr)),(∀ y∈names,y.2=NameKind.free→∃ c,env.cells.lookup y.1=some c) →
   (forIn names acc (fun (p:Str × NameKind) (r:List (Str × Addr))=>(if (p.2 == NameKind.free)=true then (do let a ← cellOf env p.1;pure (ForInStep.yield ((p.1,a)::r))) else pure (ForInStep.yield r):Sem (ForInStep (List (Str × Addr))))))=(pure (jH env.cells names acc):Sem (List (Str × Addr))):=by
  intro names
  induction names with
  | nil=>intro acc _;rfl
  | cons p r ih =>
   intro acc hh
   obtain ⟨x,k⟩:=p
   have hr:∀ y∈r,y.2=NameKind.free→∃ c,env.cells.lookup y.1=some c:=fun y hy=>hh y (List.mem_cons_of_mem _ hy)
   rw [List.forIn_cons]
   unfold jH
   by_cases hk:(k == NameKind.free)=true
   ·obtain ⟨c,hc⟩:=hh (x,k) List.mem_cons_self (by simpa using hk)
    have hc:env.cells.lookup x=some c:=hc
    have ec:cellOf env x=pure c:=by
     unfold cellOf
     rw [hc]
    simp only [hk,if_true,ec,pure_bind,hc,Option.getD_some]
    exact ih _ hr
   ·simp only [hk,if_false,pure_bind]
    exact ih _ hr
 have e:=all scope.names [] h
 unfold closureFor
 simp only [bind_pure]
 exact e
def uW (scope sc:Scope)(NB own:List Str)(cap:List Nat)(N:List Str):Bool :=
 (scope.kind == .function) && (sc.kind == .function) &&
 (scope.names.all fun y=>match y.2 with
  | .cell=>false
  | .free=>sc.names.lookup y.1 == some NameKind.cell
  | .local=>scope.names.lookup y.1 == some NameKind.local
  | _=>true) &&
 (own.all fun x=>scope.names.lookup x == some NameKind.local && scope.names.all fun y=>!(y.1 == x) || y.2 == NameKind.local) &&
 (NB == own++cap.map fun i=>N.getD i "") && (cap.all fun i=>decide (i < N.length) && scope.names.lookup (N.getD i "") == some NameKind.free)
structure Blk (X:Cx) (scope:Scope) (NB own:List Str) (cap:List Nat):Prop where
 kind:scope.kind = .function
 outk:X.env.scope.kind = .function
 nocell:∀ y∈scope.names,y.2 ≠ .cell
 free:∀ y∈scope.names,y.2 = .free→X.env.kindOf y.1=some .cell
 names:∀ y∈scope.names,y.2 = .local→scope.names.lookup y.1=some .local
 owns:∀ x∈own,∀ y∈scope.names,y.1=x→y.2 = .local
 nb:NB=own++cap.map fun i=>X.N.getD i ""
 caps:∀ i∈cap,i < X.N.length∧scope.names.lookup (X.N.getD i "")=some .free
theorem b_ {X:Cx}{scope sc:Scope}{NB own:List Str}{cap:List Nat}(hs:X.env.scope=sc)(h:uW scope sc NB own cap X.N=true):Blk X scope NB own cap:=by
 unfold uW at h
 simp only [Bool.and_eq_true] at h
 obtain ⟨⟨⟨⟨⟨h1,h2⟩,h3⟩,h4⟩,h5⟩,h6⟩:=h
 rw [List.all_eq_true] at h3 h4 h6
 subst hs
 refine ⟨by simpa using h1,by simpa using h2,fun y hy e=>?_,fun y hy e=>?_,fun y hy e=>?_,fun x hx y hy e=>?_,by simpa using h5,fun i hi=>?_⟩
 ·have:=h3 y hy
  rw [e] at this
  exact absurd this (by simp)
 ·have:=h3 y hy
  rw [e] at this
  show X.env.scope.names.lookup y.1=some .cell
  simpa using this
 ·have:=h3 y hy
  rw [e] at this
  simpa using this
 ·have:=h4 x hx
  simp only [Bool.and_eq_true,List.all_eq_true] at this
  have q:=this.2 y hy
  subst e
  simpa using q
 ·have:=h6 i hi
  simp only [Bool.and_eq_true] at this
  exact ⟨of_decide_eq_true this.1,by simpa using this.2⟩
def cxB (X:Cx)(NB own:List Str)(scope:Scope)(C:Addr)(fp:List Addr)(s₀:Shared)(H₀:Hp):Cx where
 prog:=X.prog
 w:=X.w
 K:=X.K
 mg:=X.mg
 base:=X.base
 A:=X.A
 N:=NB
 s₀:=s₀
 H₀:=H₀
 env:=compEnvC scope (jH X.env.cells scope.names []) C X.env
 outer:=X.stack
 stack:=X.stack
 ex:=fp
 fn:=fun x=>own.contains x
 calm:=X.calm
 pn:=[]
 xe:=fun _ _=>False
theorem cb {env:Env}{x:Str}{k:NameKind}(hk:k = .cell ∨ k = .free):∀ {names:List (Str × NameKind)},(∀ y∈names,y.2 ≠ .cell) →
  (names.map fun (n,k)=>if (k == NameKind.free && env.scope.kind == .function && env.kindOf n == some .cell) then (n,NameKind.cell) else (n,k)).lookup x=some k→(x,NameKind.free)∈names
 | [],_,h=>by simp at h
 | (n,q)::r,hn,h=>by
  have ih:=@cb env x k hk r fun y hy=>hn y (List.mem_cons_of_mem _ hy)
  rw [List.map_cons,List.lookup_cons] at h
  have key:(if (q == NameKind.free && env.scope.kind == .function && env.kindOf n == some .cell)=true then (n,NameKind.cell) else (n,q)).1=n:=by split <;> rfl
  by_cases e:(x == n)=true
  ·have en:x=n:=by simpa using e
   subst en
   by_cases hq:q = .free
   ·subst hq;exact List.mem_cons_self
   ·have hqf:(q == NameKind.free)=false:=by simpa using hq
    simp only [hqf,Bool.false_and,Bool.false_eq_true,if_false,beq_self_eq_true] at h
    have h':q=k:=Option.some.inj h
    rcases hk with z | z
    ·exact absurd (h'.trans z) (hn (x,q) List.mem_cons_self)
    ·exact absurd (h'.trans z) hq
  ·have e':(x == n)=false:=by simpa using e
   refine List.mem_cons_of_mem _ (ih ?_)
   have e2:(x == (if (q == NameKind.free && env.scope.kind == .function && env.kindOf n == some .cell)=true then (n,NameKind.cell) else (n,q)).1)=false:=by rw [key];exact e'
   rw [e2] at h
   exact h
theorem eg {env:Env}{x:Str}(hk:env.scope.kind = .function)(hc:env.kindOf x=some .cell):∀ {names:List (Str × NameKind)},names.lookup x=some .free →
  (names.map fun (n,k)=>if (k == NameKind.free && env.scope.kind == .function && env.kindOf n == some .cell) then (n,NameKind.cell) else (n,k)).lookup x=some .cell
 | [],h=>by simp at h
 | (n,q)::r,h=>by
  have ih:=@eg env x hk hc r
  rw [List.lookup_cons] at h
  rw [List.map_cons,List.lookup_cons]
  by_cases e:(x == n)=true
  ·have en:x=n:=by simpa using e
   subst en
   rw [e] at h
   have hq:q = .free:=Option.some.inj h
   subst hq
   simp [hk,hc]
  ·have e':(x == n)=false:=by simpa using e
   rw [e'] at h
   have key:(if (q == NameKind.free && env.scope.kind == .function && env.kindOf n == some .cell)=true then (n,NameKind.cell) else (n,q)).1=n:=by split <;> rfl
   have e2:(x == (if (q == NameKind.free && env.scope.kind == .function && env.kindOf n == some .cell)=true then (n,NameKind.cell) else (n,q)).1)=false:=by rw [key];exact e'
   rw [e2]
   exact ih h
def stB (own:List Str)(cap:List Nat)(σ:St):St:=(own.map fun _=>none)++cap.map fun i=>(σ[i]?).getD none
section
variable {X:Cx} {pins:List (Addr × Obj)} {σ:St} {H:Hp} {s:Shared} {scope:Scope} {NB own:List Str} {cap:List Nat} {fp:List Addr} {C:Addr}
theorem Blk.cells (B:Blk X scope NB own cap)(ok:X.Ok){x:Str}{c:Addr}(h:(jH X.env.cells scope.names []).lookup x=some c):X.env.cells.lookup x=some c∧(x,NameKind.free)∈scope.names:=by
 rcases fH (PySem.mem_of_lookup h) with q | ⟨q,e⟩
 ·simp at q
 ·obtain ⟨d,hd⟩:=ok.has x (.inl (B.free (x,.free) q rfl))
  have e:c=(X.env.cells.lookup x).getD 0:=e
  rw [hd] at e
  refine ⟨?_,q⟩
  rw [hd,e];rfl
theorem Blk.cell (B:Blk X scope NB own cap)(ok:X.Ok){x:Str}(h:(x,NameKind.free)∈scope.names):∃ c,(jH X.env.cells scope.names []).lookup x=some c:=cI (fK h)
theorem Blk.start (B:Blk X scope NB own cap)(I:Inv X pins σ H s)(hf:∀ b∈fp,jz X pins H b)(hfs:∀ b∈fp,∃ o,s.heap.get? b=some o){h':Heap}{tk:Nat}{m:Str→Option Value}(hC:s.heap.objs.size≤C)
  (k:∀ b o,s.heap.get? b=some o→h'.get? b=some o) (hn:h'.Ns C m) :
  Inv (cxB X NB own scope C fp s H) [] (stB own cap σ) H { s with heap:=h',toks:=tk }:=by
 have hlen:NB.length=own.length+cap.length:=by rw [B.nb];simp
 have okB:(cxB X NB own scope C fp s H).Ok:=by
  refine ⟨I.ok.mod,B.kind,I.ok.glob,I.ok.blt,hC,fun x y c h1 h2=>I.ok.inj x y c (B.cells I.ok h1).1 (B.cells I.ok h2).1,fun x hx=>?_,fun x c h1 h2=>?_,I.ok.hd,I.ok.frames,.inl rfl,fun b hb=>⟨?_,fun x c h=>?_⟩,I.bs,Nat.le_trans I.ok.bsz I.sz,fun b o e hb=>?_,fun b hb z=>?_,I.stack,I.stkFree⟩
  ·have:(x,NameKind.free)∈scope.names:=by
    rcases hx with z | z
    ·exact cb (.inl rfl) B.nocell z
    ·exact cb (.inr rfl) B.nocell z
   exact B.cell I.ok this
  ·have hx:x∈own:=by simpa [cxB] using h1
   have q:=B.owns x hx _ (B.cells I.ok h2).2 rfl
   exact absurd q (by simp)
  ·obtain ⟨o,e⟩:=hfs b hb
   exact Nat.ne_of_lt (Nat.lt_of_lt_of_le (Heap.lt_size e) hC)
  ·exact (hf b hb).2.2.2.2.1 x c (B.cells I.ok h).1
  ·have hb:b∈fp:=hb
   rcases (hf b hb).2.2.2.1 with z | z
   ·exact I.ok.noex b o e z
   ·exact absurd (Nat.lt_of_lt_of_le (Heap.lt_size e) (Nat.le_trans I.ok.bsz z)) (Nat.lt_irrefl _)
  ·rcases List.mem_cons.mp (I.stkSub b z) with z | z
   ·exact (hf b hb).2.1 z
   ·exact (hf b hb).2.2.1 z
 refine ⟨okB,rfl,I.bare,Un.kept k,⟨m,hn,fun i x v e1 e2 e3=>?_⟩,fun x c h=>?_,I.hok.fresh hC,fun x c h=>I.freeC x c (B.cells I.ok h).1,fun p hp=>absurd (show p∈([]:List (Addr × Obj)) from hp) (by simp),I.hok.kept k,?_⟩
 ·have e1:NB[i]? = some x:=e1
  have hi:¬ i < own.length:=fun hi=>by
   unfold stB at e2
   rw [List.getElem?_append_left (by simpa using hi),List.getElem?_map] at e2
   cases q:own[i]? <;> rw [q] at e2 <;> cases e2
  unfold stB at e2
  rw [List.getElem?_append_right (by simpa using hi),List.getElem?_map] at e2
  rw [B.nb,List.getElem?_append_right (by omega),List.getElem?_map] at e1
  simp only [List.length_map] at e2
  cases q:cap[i - own.length]? with
  | none=>rw [q] at e1;cases e1
  | some j =>
   rw [q] at e1 e2
   have ex:X.N.getD j "" = x:=Option.some.inj e1
   have ev:(σ[j]?).getD none=some v:=Option.some.inj e2
   obtain ⟨hj,hjf⟩:=B.caps j (List.mem_of_getElem? q)
   rw [ex] at hjf
   have hN:X.N[j]? = some x:=by rw [← ex,List.getD_eq_getElem?_getD,List.getElem?_eq_getElem hj];rfl
   have hσ:σ[j]? = some (some v):=by
    cases z:σ[j]? with
    | none=>rw [z] at ev;cases ev
    | some u=>rw [z] at ev;exact congrArg some ev
   have hmem:(x,NameKind.free)∈scope.names:=PySem.mem_of_lookup hjf
   have hkc:=B.free _ hmem rfl
   obtain ⟨m0,hn0,hl⟩:=I.loc
   obtain ⟨u,r,l⟩:=hl j x v hN hσ (.inr (.inl hkc))
   refine ⟨u,r,.inr ⟨.inl (eg B.outk hkc hjf),?_⟩⟩
   obtain ⟨c,hc⟩:=B.cell I.ok hmem
   refine ⟨c,hc,?_⟩
   rcases l with ⟨z,_⟩ | ⟨_,c',hc',⟨oc,hoc,hd⟩⟩
   ·rw [show X.env.kindOf x=some .cell from hkc] at z;cases z
   ·have:=(B.cells I.ok hc).1
    rw [hc'] at this
    have:c'=c:=Option.some.inj this
    subst this
    exact ⟨oc,k _ _ hoc,hd⟩
 ·obtain ⟨v,oc,hoc,hd⟩:=I.cell x c (B.cells I.ok h).1
  exact ⟨v,oc,k _ _ hoc,hd⟩
 ·show (stB own cap σ).length=NB.length
  unfold stB
  rw [hlen];simp
theorem Blk.done (B:Blk X scope NB own cap)(I:Inv X pins σ H s)(hf:∀ b∈fp,jz X pins H b){σB:St}{H':Hp}{s':Shared}{h'':Heap}{D:Addr}{ys:List V}{its:List Value}{n:Nat}(hC:s.heap.objs.size≤C)(hD:s.heap.objs.size≤D)(hDC:D≠C)
  (J:Inv (cxB X NB own scope C fp s H) [] σB H' s') (hn:H' D=none) (e:s'.heap.get? D=some { cls:=.type "list",data:=.seq its.toArray n }) (hv:aY ys its) (hz:ys.length≤sizeLine)
  (sb:Heap.SameBut C s'.heap h''):Inv X pins σ (upd H' D (.lst ys)) { s' with heap:=h'' }:=by
 have un:Un (frs X.stack) fp H H' s.heap s'.heap:=J.base
 have neC:∀ {b o},s.heap.get? b=some o→b≠C:=fun q=>Nat.ne_of_lt (Nat.lt_of_lt_of_le (Heap.lt_size q) hC)
 have neD:∀ {b o},s.heap.get? b=some o→b≠D:=fun q=>Nat.ne_of_lt (Nat.lt_of_lt_of_le (Heap.lt_size q) hD)
 have hCn:H' C=none:=J.free
 refine I.call' (s':={ s' with heap:=h'' }) (ch:=fp) J.os ⟨fun b o q n hb hx=>?_,fun b o q n hb hx=>?_,fun b o q n hx=>?_,fun b o q hx=>?_,fun b xs q=>?_,fun b o u q=>?_,fun b ps q=>?_⟩ (fun b u q=>?_) J.bare fun b hb=>?_
 ·exact (sb.2 b (neC q)).trans (un.keep b o q n hb hx)
 ·obtain ⟨sl,r⟩:=un.slot b o q n hb hx
  exact ⟨sl,(sb.2 b (neC q)).trans r⟩
 ·rw [aq (neD q)]
  exact un.free b o q n hx
 ·obtain ⟨o',r⟩:=un.there b o q hx
  exact ⟨o',(sb.2 b (neC q)).trans r⟩
 ·have r:=un.tups b xs q
  rw [aq (ao r hn)]
  exact r
 ·have r:=un.frzs b o u q
  rw [aq (ao r hn)]
  exact r
 ·obtain ⟨more,r⟩:=un.tbls b ps q
  exact ⟨more,by rw [aq (ao r hn)];exact r⟩
 ·by_cases hb:b=D
  ·subst hb
   rw [ae] at q
   cases q
   exact ⟨hz,its,n,hv,(sb.2 b hDC).trans e⟩
  ·rw [aq hb] at q
   refine (J.hok b u q).stay (fun c v hc r=>(sb.2 c ?_).trans r) (fun c r=>?_) fun c xs r=>?_
   ·rcases hc with z | z
    ·rw [z];exact ao q hCn
    ·exact ao z hCn
   ·rw [aq (ao r hn)];exact r
   ·rw [aq (ao r hn)];exact r
 ·obtain ⟨_,f1,_,f3,f4,f5⟩:=hf b hb
  exact ⟨f3,f1,f4,f5⟩
end
def PIf (X:Cx)(ifs:List Expr)(t:TT):Prop :=
 ∀ (pins:List (Addr × Obj)) (s:Shared) (σ:St) (H:Hp) (Q:Bool→Hp→Prop),Inv X pins σ H s→t σ H Q →
  wpAny (model X.prog X.w) X.A (forIn ifs true fun c r=>if r=true then do let ok ← isTrue c X.env (eval c X.env);pure (ForInStep.yield ok) else pure (ForInStep.yield r)) (TP X pins σ Q) X.xe s
def yJ:TT:=fun _ H Q=>Q true H
theorem bH {X:Cx}:PIf X [] yJ:=fun _ _ _ H _ I h=>wpAny_tests_nil ⟨H,I,h⟩
theorem fL {X:Cx}{c:Expr}{t:TT}(h:PT X c t):PIf X [c] t:=fun pins s σ H Q I q=>wpAny_tests_one (h pins s σ H Q I q)
section
variable {prog:Program} {w:World} {A:Around} {R:Result→Shared→Prop} {s:Shared}
abbrev noE:Value→Shared→Prop:=fun _ _=>False
theorem gR {elt tg iter:Expr}{ifs:List Expr}{scope:Scope}{pos:Pos}{it acc:Value}{env:Env}(I:Nat→Shared→Prop)
  (turn:∀ n s,I n s→wpAny (model prog w) A (pyNext it) (fun r s₁=>match r with
   | none=>R (.ok .next) s₁
   | some v=>wpAny (model prog w) A (letOwnedTupleGo tg it v) (fun _ s₀=>wpAny (model prog w) A (assign tg env v) (fun _ s₂ =>
     wpAny (model prog w) A (forIn ifs true fun c r=>if r=true then do let ok ← isTrue c env (eval c env);pure (ForInStep.yield ok) else pure (ForInStep.yield r)) (fun ok s₃ =>
      if ok=true then wpAny (model prog w) A (eval elt env) (fun x s₄=>wpAny (model prog w) A (call (.builtin "list.append") [acc,x]) (fun _ s₅=>∃ m,m < n∧I m s₅) noE s₄) noE s₃
      else ∃ m,m < n∧I m s₃) noE s₂) noE s₀) noE s₁) noE s)
  (n:Nat) (h:I n s):codeAny (model prog w) A (.compLoop (.ListComp elt [⟨tg,iter,ifs,0⟩] scope pos) 0 it acc env) R s:=by
 refine codeAny_loop rfl I (fun n s hI=>?_) n h
 show wpAny _ A ((compTurn (.ListComp elt [⟨tg,iter,ifs,0⟩] scope pos) 0 it acc env).onRaise (fun x=>do noteFrame x env;theTreesLotGoes x)) _ _ s
 refine wpAny_noted ?_
 rw [compTurn_list]
 refine wpAny_bind (wpAny_standAt (wpAny_bind (wpAny_mono (turn n s hI) (fun r s₁ h₁=>?_) fun _ _ z=>False.elim z)))
 cases r with
 | none=>exact wpAny_pure h₁
 | some v =>
  refine wpAny_bind (wpAny_mono h₁ (fun _ s₀ h₀=>wpAny_bind (wpAny_mono h₀ (fun _ s₂ h₂=>wpAny_bind (wpAny_mono h₂ (fun ok s₃ h₃=>?_) fun _ _ z=>False.elim z)) fun _ _ z=>False.elim z)) fun _ _ z=>False.elim z)
  cases ok with
  | false=>exact wpAny_pure ⟨rfl,h₃⟩
  | true=>exact wpAny_bind (wpAny_bind (wpAny_mono h₃ (fun x s₄ h₄=>wpAny_bind (wpAny_mono h₄ (fun _ s₅ h₅=>wpAny_pure (wpAny_pure ⟨rfl,h₅⟩)) fun _ _ z=>False.elim z)) fun _ _ z=>False.elim z))
end
def px (own:List Str)(cap:List Nat)(g:TG)(ti:TT)(te:TE)(Q:VK)(σ:St)(J:It)(H1:Hp):Prop:=∃ W:Nat→Nat→List V→St→Hp→Prop,(∃ m,W 0 m [] (stB own cap σ) H1)∧∀ i m ys σ H,W i m ys σ H →
 (J.stop i H∧ys.length≤sizeLine∧∀ D,H D=none→Q (.ref D) (upd H D (.lst ys))) ∨
 (J.go i H∧ys.length < sizeLine∧∀ x H',J.yld i H x H'→g x σ H' fun σ2 H2=>ti σ2 H2 fun b H3=>if b=true then te σ2 H3 fun y H4=>∃ m',m' < m∧W (i+1) m' (ys++[y]) σ2 H4 else ∃ m',m' < m∧W (i+1) m' ys σ2 H3)
def uX (own:List Str)(cap:List Nat)(wi:TI)(g:TG)(ti:TT)(te:TE):TE:=fun σ H Q=>wi σ H fun J H1=>px own cap g ti te Q σ J H1
theorem bN {X:Cx}{elt iter tg:Expr}{ifs:List Expr}{scope:Scope}{pos:Pos}{NB own:List Str}{cap:List Nat}{wi:TI}{g:TG}{ti:TT}{te:TE}(B:Blk X scope NB own cap)(hc:X.calm=true)(hi:PI X tg iter wi)
  (hg:∀ C fp s₀ H₀,PG (cxB X NB own scope C fp s₀ H₀) tg g) (ht:∀ C fp s₀ H₀,PIf (cxB X NB own scope C fp s₀ H₀) ifs ti) (he:∀ C fp s₀ H₀,PE (cxB X NB own scope C fp s₀ H₀) elt te)
  (hs:∀ x,foldedSetIterable iter X.env x=pure x:=by intro _;rfl):PE X (.ListComp elt [⟨tg,iter,ifs,0⟩] scope pos) (uX own cap wi g ti te):=by
 intro pins s σ H Q I0 h
 rw [eval_ListComp]
 have hclos:=cJ (env:=X.env) (scope:=scope) fun y hy e=>I0.ok.has y.1 (.inl (B.free y hy e))
 refine wpAny_comprehension_free (use:=none) rfl hs hclos B.kind B.names (thn (hi pins s σ H _ I0 h) fun v s1 h1=>thn h1 fun itv s2 h2=>?_)
 obtain ⟨it,fp,tn,J,H2,rfl,I,T,st2,f2,W,⟨m0,w0⟩,turn⟩:=h2
 refine wpAny_newList ?_
 refine wpAny_newFunctionEnv B.nocell (by intro y hy;simp at hy) (fun h₁ hns₁ hsb₁=>?_) B.kind
 dsimp only at hns₁ hsb₁ ⊢
 generalize hP:s2.heap.push { cls:=.type "list",dict:=none,data:=.seq ([]:List Value).toArray }=P at hns₁ hsb₁ ⊢
 have hC:P.objs.size=s2.heap.objs.size+1:=by rw [← hP,Heap.size_push]
 have hDC:s2.heap.objs.size≠P.objs.size:=by rw [hC];exact Nat.ne_of_lt (Nat.lt_succ_self _)
 have hCle:s2.heap.objs.size≤P.objs.size:=by rw [hC];exact Nat.le_succ _
 have old:∀ b o,s2.heap.get? b=some o→h₁.get? b=some o:=fun b o e=>by
  refine (hsb₁.2 b ?_).trans (Heap.get?_push_of_some _ (hP ▸ Heap.get?_push_of_some _ e))
  exact Nat.ne_of_lt (Nat.lt_of_lt_of_le (Heap.lt_size e) hCle)
 have hD:h₁.get? s2.heap.objs.size=some { cls:=.type "list",data:=.seq ([]:List Value).toArray 0 }:=by
  refine (hsb₁.2 _ hDC).trans (Heap.get?_push_of_some _ ?_)
  rw [← hP]
  exact Heap.get?_push_size _ rfl
 have hfs:∀ b∈fp,∃ o,s2.heap.get? b=some o:=fun b hb=>let ⟨o,e,_⟩:=T.obj _ _ st2 b hb;⟨o,e⟩
 have st4:tn 0 h₁:=T.keep _ _ _ st2 fun b _ o e=>old b o e
 generalize htk:s2.toks+([]:List (Str × Value)).length=tk4
 have I4:=B.start (C:=P.objs.size) (tk:=tk4) I f2 hfs hCle old hns₁
 have fOk:∀ {H':Hp} {b:Addr} {ob:Obj},b∈fp→H' b=none→jz (cxB X NB own scope P.objs.size fp s2 H2) [(s2.heap.objs.size,ob)] H' b:=fun {H' b ob} hb hn=>by
  obtain ⟨o,e⟩:=hfs b hb
  refine ⟨hn,(I4.ok.exf b hb).1,I4.ok.exfs b hb,.inl hb,(I4.ok.exf b hb).2,fun p hp=>?_⟩
  have ep:p=(s2.heap.objs.size,ob):=List.mem_singleton.mp (show p∈[(s2.heap.objs.size,ob)] from hp)
  rw [ep]
  exact fun z=>absurd (Heap.lt_size e) (by rw [← z];exact Nat.lt_irrefl _)
 have dnf:s2.heap.objs.size∉frs X.stack:=fun z=>by
  rcases List.mem_cons.mp (I.stkSub _ z) with z | z
  ·exact absurd I.lt (by rw [← z];exact Nat.lt_irrefl _)
  ·exact I.nofs (Nat.le_refl _) z
 have I3D:∀ {σ3:St} {H3:Hp} {s3:Shared} {its:List Value} {k:Nat},Inv (cxB X NB own scope P.objs.size fp s2 H2) [] σ3 H3 s3→s3.heap.get? s2.heap.objs.size=some { cls:=.type "list",data:=.seq its.toArray k }→H3 s2.heap.objs.size=none →
   Inv (cxB X NB own scope P.objs.size fp s2 H2) [(s2.heap.objs.size,{ cls:=.type "list",data:=.seq its.toArray k })] σ3 H3 s3:=fun I3 e n=>I3.pins_of fun p hp=>by
  have ep:=List.mem_singleton.mp hp
  subst ep
  exact ⟨e,n,hDC,dnf,fun v z=>by cases z⟩
 have ndf:s2.heap.objs.size∉fp:=fun z=>by
  obtain ⟨o,e⟩:=hfs _ z
  exact absurd (Heap.lt_size e) (Nat.lt_irrefl _)
 have nCD:∀ x c,(cxB X NB own scope P.objs.size fp s2 H2).env.cells.lookup x=some c→c≠s2.heap.objs.size:=fun x c e z=>by
  obtain ⟨v,o,ho,_⟩:=I.cell x c (B.cells I.ok e).1
  rw [z] at ho
  exact absurd (Heap.lt_size ho) (Nat.lt_irrefl _)
 have loop:∀ s₃:Shared,s₃ = { s2 with heap:=h₁,toks:=tk4 }→codeAny (model X.prog X.w) X.A (.compLoop (.ListComp elt [⟨tg,iter,ifs,0⟩] scope pos) 0 (.ref it) (.ref s2.heap.objs.size) (cxB X NB own scope P.objs.size fp s2 H2).env)
   (compPost (model X.prog X.w) X.A X.xe none (EP X pins σ Q) (.ref s2.heap.objs.size) P.objs.size) s₃:=by
  rintro s₃ rfl
  refine gR (fun n s'=>∃ i σB H' ys its k,Inv (cxB X NB own scope P.objs.size fp s2 H2) [] σB H' s'∧tn i s'.heap∧(∀ b∈fp,H' b=none)∧s'.heap.get? s2.heap.objs.size=some { cls:=.type "list",data:=.seq (its:List Value).toArray k }∧aY ys its∧H' s2.heap.objs.size=none∧W i n ys σB H') ?_ m0
   ⟨0,stB own cap σ,H2,[],[],0,I4,st4,fun b hb=>(f2 b hb).1,hD,.nil,I.hok.fresh (Nat.le_refl _),w0⟩
  rintro n s3 ⟨i,σ3,H3,ys,its,k,I3,st3,fr3,hD3,rv,hn3,w3⟩
  rcases turn i n ys σ3 H3 w3 with ⟨stop,hz,q⟩ | ⟨go,hz,step⟩
  ·refine thn (T.done (cxB X NB own scope P.objs.size fp s2 H2) rfl rfl rfl hc i _ s3 σ3 H3 noE (I3D I3 hD3 hn3) (fun b hb=>fOk hb (fr3 b hb)) st3 stop) fun r s4 zq1=>?_
   obtain ⟨hr,I4'⟩:=zq1
   subst hr
   have hD4:s4.heap.get? s2.heap.objs.size=some { cls:=.type "list",data:=.seq (its:List Value).toArray k }:=(I4'.pin (s2.heap.objs.size,_) (List.mem_append_right _ (List.mem_singleton.mpr rfl))).1
   have I5:Inv (cxB X NB own scope P.objs.size fp s2 H2) [] σ3 H3 s4:=I4'.pins_of fun p hp=>absurd (show p∈([]:List (Addr × Obj)) from hp) (by simp)
   obtain ⟨mC,hnC,_⟩:=I5.loc
   exact ⟨mC,hnC,fun h'' sb=>⟨.ref s2.heap.objs.size,_,B.done I f2 hCle (Nat.le_refl _) hDC I5 hn3 hD4 rv hz sb,rfl,q _ hn3⟩⟩
  ·refine thn (T.item (cxB X NB own scope P.objs.size fp s2 H2) rfl rfl rfl hc i _ s3 σ3 H3 noE (I3D I3 hD3 hn3) (fun b hb=>fOk hb (fr3 b hb)) st3 go) fun r s4 zq2=>?_
   obtain ⟨u,hr,h4⟩:=zq2
   subst hr
   refine thn h4 fun _ s5 zq3=>?_
   obtain ⟨x,H5,I5,r5,y5,st5,fr5⟩:=zq3
   have I5':=I5.pinned (fun b hb=>fOk hb (fr5 b hb)) (T.obj _ _ st5)
   refine thn (hg _ fp s2 H2 _ s5 σ3 H5 x u _ I5' r5 (step x H5 y5)) fun _ s6 zq4=>?_
   obtain ⟨σ6,H6,I6,q6⟩:=zq4
   refine thn (ht _ fp s2 H2 _ s6 σ6 H6 _ I6 q6) fun b s7 zq5=>?_
   obtain ⟨H7,I7,q7⟩:=zq5
   have pinned:∀ {σ8:St} {H8:Hp} {s8:Shared},Inv (cxB X NB own scope P.objs.size fp s2 H2) ([(s2.heap.objs.size,{ cls:=.type "list",data:=.seq (its:List Value).toArray k })]++fg fp s5.heap) σ8 H8 s8 →
     tn (i+1) s8.heap∧(∀ b∈fp,H8 b=none)∧s8.heap.get? s2.heap.objs.size=some { cls:=.type "list",data:=.seq (its:List Value).toArray k }∧H8 s2.heap.objs.size=none:=fun {σ8 H8 s8} I8=>by
    refine ⟨T.keep _ _ _ st5 fun b hb o e=>(I8.pin (b,o) (List.mem_append_right _ (List.mem_append_right _ (bz hb e)))).1,fun b hb=>?_,?_,?_⟩
    ·obtain ⟨o,e,d⟩:=T.obj _ _ st5 b hb
     exact (I8.pin (b,o) (List.mem_append_right _ (List.mem_append_right _ (bz hb e)))).2.1
    ·exact (I8.pin (s2.heap.objs.size,_) (List.mem_append_right _ (List.mem_append_left _ (List.mem_singleton.mpr rfl)))).1
    ·exact (I8.pin (s2.heap.objs.size,_) (List.mem_append_right _ (List.mem_append_left _ (List.mem_singleton.mpr rfl)))).2.1
   have nopin:∀ {pp:List (Addr × Obj)} {σ8:St} {H8:Hp} {s8:Shared},Inv (cxB X NB own scope P.objs.size fp s2 H2) pp σ8 H8 s8→Inv (cxB X NB own scope P.objs.size fp s2 H2) [] σ8 H8 s8:=fun I8=>I8.pins_of fun p hp=>absurd (show p∈([]:List (Addr × Obj)) from hp) (by simp)
   cases b with
   | false =>
    rw [if_neg Bool.false_ne_true] at q7 ⊢
    obtain ⟨m',hm,w7⟩:=q7
    obtain ⟨p1,p2,p3,p4⟩:=pinned I7
    exact ⟨m',hm,i+1,σ6,H7,ys,its,k,nopin I7,p1,p2,p3,rv,p4,w7⟩
   | true =>
    rw [if_pos rfl] at q7 ⊢
    refine thn (he _ fp s2 H2 _ s7 σ6 H7 _ I7 q7) fun yv s8 zq6=>?_
    obtain ⟨y,H8,I8,r8,m',hm,w8⟩:=zq6
    obtain ⟨p1,p2,p3,p4⟩:=pinned I8
    refine call_meets F.slot_list_append ⟨_,p3,rfl⟩ F.entry_list_append (F.args_list_append_2 _ _) (PySem.list_append s2.heap.objs.size its.toArray k yv (by rw [List.size_toArray,← rv.length];omega)) ⟨p3,?_⟩
    have q:=PySem.IsL.update p3 fun a=>a.push yv
    have ea:its.toArray.push yv=(its++[yv]).toArray:=by simp
    rw [ea] at q
    have I9:Inv (cxB X NB own scope P.objs.size fp s2 H2) [] σ6 H8 { s8 with heap:=s8.heap.update s2.heap.objs.size (Obj.mapSeq fun a=>a.push yv),toks:=s8.toks } :=
     (nopin I8).turned (it:=s2.heap.objs.size) (fun b o hb e=>(Heap.get?_update_other s8.heap _ (Ne.symm hb)).trans e) p4 hDC (.inr (Nat.le_refl _)) (fun x c e=>nCD x c e) fun p hp=>absurd (show p∈([]:List (Addr × Obj)) from hp) (by simp)
    refine ⟨m',hm,i+1,σ6,H8,ys++[y],its++[yv],_,I9,?_,p2,q,rv.append (.cons r8 .nil),p4,w8⟩
    refine T.keep _ _ _ p1 fun b hb o e=>(Heap.get?_update_other s8.heap _ ?_).trans e
    intro z
    rw [z] at ndf
    exact ndf hb
 exact codeAny_compStart_list (loop _ rfl) (T.self X.A 0 _ _ _ st4 (loop _ rfl))
theorem c_ {own:List Str}{cap:List Nat}{J:It}{g:TG}{ti:TT}{te:TE}{σ:St}{H:Hp}{Q:VK}(n:Nat)(Pv:Nat→List V→St→Hp→Prop)(h0:Pv 0 [] (stB own cap σ) H)(hz:∀ i ys σ H,i≤n→Pv i ys σ H→ys.length≤i)(hn:n≤sizeLine)
  (hgo:∀ i ys σ H,i < n→Pv i ys σ H→J.go i H) (hst:∀ ys σ H,Pv n ys σ H→J.stop n H)
  (hs:∀ i ys σ H x H' (N:List V→St→Hp→Prop),i < n→Pv i ys σ H→J.yld i H x H'→(∀ ys' σ' H'',Pv (i+1) ys' σ' H''→N ys' σ' H'')→g x σ H' fun σ2 H2=>ti σ2 H2 fun b H3=>if b=true then te σ2 H3 fun y H4=>N (ys++[y]) σ2 H4 else N ys σ2 H3)
  (hd:∀ ys σ H D,Pv n ys σ H→H D=none→Q (.ref D) (upd H D (.lst ys))) :
  px own cap g ti te Q σ J H:=by
 refine ⟨fun i m ys σ H=>m=n - i∧i≤n∧Pv i ys σ H,⟨n,by simp,Nat.zero_le _,h0⟩,?_⟩
 rintro i m ys σ H ⟨rfl,hi,p⟩
 have hl:=hz i ys σ H hi p
 by_cases hlt:i < n
 ·refine .inr ⟨hgo i ys σ H hlt p,by omega,fun x H' y=>?_⟩
  exact hs i ys σ H x H' (fun ys' σ' H''=>∃ m',m' < n - i∧m'=n - (i+1)∧i+1≤n∧Pv (i+1) ys' σ' H'') hlt p y fun ys' σ' H'' q=>⟨n - (i+1),by omega,rfl,hlt,q⟩
 ·have e:i=n:=by omega
  subst e
  exact .inl ⟨hst ys σ H p,by omega,fun D hD=>hd ys σ H D p hD⟩
def Its (z:Str):It:=⟨fun i _=>i < z.cps.size,fun i H x H'=>H'=H∧∃ c,z.cps[i]? = some c∧x = .str ⟨#[c]⟩,fun i _=>i=z.cps.size⟩
theorem bS {P:Program}{w:World}{K:PySem.W.Frag}{tg:Expr}{it n:Nat}{Pv:Nat→Value→Prop}{st:Nat→Heap→Prop}{J:It}{T:String}{fl:Nat→Array Value}
  (W:∀ A:Around,A.handled=none→Walks P w A it [it] [it] n Pv st) (hst:∀ i h,st i h→∃ o,h.get? it=some o∧o.cls = .type T∧o.data = .fields (fl i))
  (hT:["enumerate","zip","dict_itemiterator","dict_reverseitemiterator","odict_iterator","itertools.zip_longest","itertools.pairwise"].contains T=false)
  (hgo:∀ i H,J.go i H→i < n) (hstop:∀ i H,J.stop i H→i=n) (hy:∀ i H u,J.go i H→Pv i u→∃ x,bc x u∧J.yld i H x H)
  (hself:∀ (A:Around) (i:Nat) (s:Shared) (Q:Value→Shared→Prop) (E:Value→Shared→Prop),st i s.heap→Q (.ref it) s→wpAny (model P w) A (pyIter (.ref it)) Q E s):qI P w K tg J [it] it st where
 mem:=by simp
 obj:=fun i h s b hb=>by
  have e:b=it:=by simpa using hb
  subst e
  obtain ⟨o,e,c,d⟩:=hst i h s
  exact ⟨o,e,fun v z=>by rw [d] at z;cases z⟩
 keep:=fun i h h' s k=>(W {} rfl).frame i h h' s k
 item:=by
  intro X hP hw hK hc i pins s σ H E I hf s0 hg
  subst hP hw hK
  obtain ⟨f0,f1,f2,f3,f4,f5⟩:=hf it (by simp)
  refine (W X.A (I.ok.hd hc)).item i s _ _ (hgo i H hg) s0 fun v h' tk hv st' kk=>?_
  have I1:Inv X pins σ H { s with heap:=h',toks:=tk }:=I.turned (fun b o hb e=>kk b o (by simpa using hb) e) f0 f1 f3 f4 f5
  obtain ⟨o,e,c,d⟩:=hst _ _ st'
  obtain ⟨x,rx,yx⟩:=hy i H v hg hv
  exact ⟨v,rfl,oU (s:={ s with heap:=h',toks:=tk }) e c d hT ⟨x,H,I1,rx,yx,st',fun b hb=>(hf b hb).1⟩⟩
 done:=by
  intro X hP hw hK hc i pins s σ H E I hf s0 hg
  subst hP hw hK
  obtain ⟨f0,f1,f2,f3,f4,f5⟩:=hf it (by simp)
  have e:=hstop i H hg
  subst e
  exact (W X.A (I.ok.hd hc)).done s _ _ s0 fun h' tk kk=>⟨rfl,I.turned (fun b o hb e=>kk b o (by simpa using hb) e) f0 f1 f3 f4 f5⟩
 self:=hself
section
variable {X:Cx} {tg:Expr}
def yK (tl:TE):TI:=fun σ H R=>tl σ H fun x H1=>∃ z,x = .str z∧R (Its z) H1
theorem mh {z:Str}{i:Nat}{H:Hp}{u:Value}(h:SignAt z i u):∃ x,bc x u∧(Its z).yld i H x H:=by
 obtain ⟨c,t,e,rfl⟩:=h
 exact ⟨.str ⟨#[c]⟩,⟨t,rfl⟩,rfl,c,e,rfl⟩
theorem gT {l:Expr}{tl:TE}(hl:PE X l tl):PI X tg l (yK tl):=by
 intro pins s σ H R I h
 refine thn (hl pins s σ H _ I h) fun v s1 zq1=>?_
 obtain ⟨x,H1,I1,r1,q1⟩:=zq1
 obtain ⟨z,rfl,q⟩:=q1
 obtain ⟨t,rfl⟩:=r1
 have fp:∀ b∈[s1.heap.objs.size],jz X pins H1 b:=fun b hb=>by
  have e:b=s1.heap.objs.size:=by simpa using hb
  subst e
  exact I1.fpOk (Nat.le_refl _) (I1.hok.fresh (Nat.le_refl _))
 cases ha:z.cps.all (· < 128)
 ·refine wpAny_pyIter_wide ha ⟨s1.heap.objs.size,[s1.heap.objs.size],_,Its z,H1,rfl,I1.kept (t':=s1.toks) fun b o e=>Heap.get?_push_of_some _ e,
   bS (T:="str_iterator") (fl:=fun i=>#[.str z t,.int i 0]) (fun A hh=>Walks.strWide hh _ z t) (fun i h st=>st) (by decide) (fun i H g=>g) (fun i H g=>g) (fun i H u _ hu=>mh hu) (fun A i s Q E st h=>wpAny_pyIter_striter_wide st h),⟨_,Heap.get?_push_size _ rfl,rfl,rfl⟩,fp,q⟩
 ·refine wpAny_pyIter_ascii ha ⟨s1.heap.objs.size,[s1.heap.objs.size],_,Its z,H1,rfl,I1.kept (t':=s1.toks) fun b o e=>Heap.get?_push_of_some _ e,
   bS (T:="str_ascii_iterator") (fl:=fun i=>#[.str z t,.int i 0]) (fun A hh=>Walks.strAscii hh _ z t) (fun i h st=>st) (by decide) (fun i H g=>g) (fun i H g=>g) (fun i H u _ hu=>mh hu) (fun A i s Q E st h=>wpAny_pyIter_striter_ascii st h),⟨_,Heap.get?_push_size _ rfl,rfl,rfl⟩,fp,q⟩
inductive x9 (x:V)(lo:Option Int)(hi:Option Int)(H:Hp)(Q:VK):Prop
 | mk:∀ z,(x = .str z)→(z.length≤sizeLine)→(Q (.str (Txt.slice z lo hi)) H)→x9 x lo hi H Q
theorem dC:SlR X x9:=by
 intro pins s σ H x v vl vu lo hi sl Q I rx hs pl pu h
 obtain ⟨z,rfl,hz,q⟩:=h
 obtain ⟨t,rfl⟩:=rx
 have fin:∀ (lo hi:Option Int),Q (.str (Txt.slice z lo hi)) H→∀ t' k,EP X pins σ Q (.str (Txt.slice z lo hi) t') { s with toks:=k }:=fun lo hi q t' k=>⟨.str _,H,I.tok _,⟨_,rfl⟩,q⟩
 refine ⟨"str",_,F.slot_str_getitem.lookup,typeIs_str _ _ _,?_⟩
 cases pl with
 | none =>
  cases pu with
  | none=>exact wpAny_getItem_str_slice (l:=none) (u:=none) (st:=none) hs rfl (post_val_or_str ⟨Nat.le_trans (Txt.slice_le z _ _) hz,fun t' k=>fin _ _ q t' k⟩)
  | int j uj=>exact wpAny_getItem_str_slice (l:=none) (u:=some (j,uj)) (st:=none) hs rfl (post_val_or_str ⟨Nat.le_trans (Txt.slice_le z _ _) hz,fun t' k=>fin _ _ q t' k⟩)
 | int i ui =>
  cases pu with
  | none=>exact wpAny_getItem_str_slice (l:=some (i,ui)) (u:=none) (st:=none) hs rfl (post_val_or_str ⟨Nat.le_trans (Txt.slice_le z _ _) hz,fun t' k=>fin _ _ q t' k⟩)
  | int j uj=>exact wpAny_getItem_str_slice (l:=some (i,ui)) (u:=some (j,uj)) (st:=none) hs rfl (post_val_or_str ⟨Nat.le_trans (Txt.slice_le z _ _) hz,fun t' k=>fin _ _ q t' k⟩)
inductive qQ (x:V)(vs:List V)(H:Hp)(Q:VK):Prop
 | mk:∀ z,(x = .str z)→(vs=[])→(z.length≤5592405)→(Q (.str (Txt.upper z)) H)→qQ x vs H Q
inductive qR (x:V)(vs:List V)(H:Hp)(Q:VK):Prop
 | mk:∀ z,(x = .str z)→(vs=[])→(z.length≤5592405)→(Q (.str (Txt.lower z)) H)→qR x vs H Q
theorem jI:MtR X "str.upper" qQ:=by
 intro pins s σ H x vs v us Q I rx rv h
 obtain ⟨z,rfl,rfl,hz,q⟩:=h
 obtain ⟨t,rfl⟩:=rx
 cases rv
 exact SCL.upper hz fun _=>⟨.str _,H,I.tok _,⟨_,rfl⟩,q⟩
theorem jJ:MtR X "str.lower" qR:=by
 intro pins s σ H x vs v us Q I rx rv h
 obtain ⟨z,rfl,rfl,hz,q⟩:=h
 obtain ⟨t,rfl⟩:=rx
 cases rv
 exact SCL.lower hz fun _=>⟨.str _,H,I.tok _,⟨_,rfl⟩,q⟩
theorem fm:∀ {ys:List Str} {us:List Value},aY (ys.map V.str) us→StrsAre us ys
 | [],_,r=>by
  rw [List.map_nil] at r
  cases r
  exact .nil
 | y::ys,us,r=>by
  rw [List.map_cons] at r
  cases r with
  | cons r1 r2 =>
   obtain ⟨t,e⟩:=r1
   subst e
   exact .cons y t (fm r2)
inductive uY (K:PySem.W.Frag)(x:V)(vs:List V)(H:Hp)(Q:VK):Prop
 | mk:∀ z p ys,(x = .str z)→(vs=[.ref p])→(SqL K H p (ys.map V.str))→((ys.map (·.length)).sum+ys.length*z.length≤16777216)→(Q (.str (Txt.join z ys)) H)→uY K x vs H Q
theorem mi:MtR X "str.join" (uY X.K):=by
 intro pins s σ H x vs v us Q I rx rv h
 obtain ⟨z,p,ys,rfl,rfl,hq,hz,q⟩:=h
 obtain ⟨t,rfl⟩:=rx
 obtain ⟨u,rfl,ru⟩:=bW rv
 cases ru
 obtain ⟨its,r,pl,_⟩:=I.list hq
 exact join_list pl.isList (by simpa using fm r) hz fun t' k=>⟨.str _,H,I.tok _,⟨_,rfl⟩,q⟩
inductive dD  (x:V)(y:V)(H:Hp)(Q:VK):Prop
 | mk:∀ z n,(x = .str z)→(y = .int n)→(MulOk z n)→(Q (.str (Txt.mul z n)) H)→dD x y H Q
theorem de:OpR X (binaryOp .Mult) dD:=by
 intro pins s σ H x y v u Q I rx ry h
 obtain ⟨z,n,rfl,rfl,hz,q⟩:=h
 obtain ⟨t,rfl⟩:=rx
 obtain ⟨t',rfl⟩:=ry
 exact SB.mul hz fun t' k=>⟨.str _,H,I.tok _,⟨_,rfl⟩,q⟩
end
theorem fM {z:Str}{g:TG}{tb:TS}{D:gv}{σ:St}{H:Hp}(Pv:Nat→St→Hp→Prop)(h0:Pv 0 σ H)
  (hs:∀ i c σ H,z.cps[i]? = some c→Pv i σ H→g (.str ⟨#[c]⟩) σ H fun σ2 H2=>tb { D with nx:=Pv (i+1),ct:=Pv (i+1),bk:=D.nx } σ2 H2) (hd:∀ σ H,Pv z.cps.size σ H→D.nx σ H) :
  ∃ W:Nat→Nat→St→Hp→Prop,(∃ m,W 0 m σ H)∧∀ i m σ H,W i m σ H →
   ((Its z).stop i H∧D.nx σ H) ∨ ((Its z).go i H∧∃ N:St→Hp→Prop,(∀ σ' H',N σ' H'→∃ m',m' < m∧W (i+1) m' σ' H')∧∀ x H',(Its z).yld i H x H'→g x σ H' fun σ2 H2=>tb { D with nx:=N,ct:=N,bk:=D.nx } σ2 H2):=by
 refine ⟨fun i m σ H=>m=z.cps.size - i∧i≤z.cps.size∧Pv i σ H,⟨z.cps.size,by simp,Nat.zero_le _,h0⟩,?_⟩
 rintro i m σ H ⟨rfl,hi,p⟩
 by_cases hlt:i < z.cps.size
 ·refine .inr ⟨hlt,Pv (i+1),fun σ' H' p'=>⟨z.cps.size - (i+1),by omega,rfl,hlt,p'⟩,fun x H' y=>?_⟩
  obtain ⟨e,c,hc,ex⟩:=y
  subst e ex
  exact hs i c σ _ hc p
 ·have e:i=z.cps.size:=by omega
  subst e
  exact .inl ⟨rfl,hd σ H p⟩
end L2
namespace PySem
open Sem (wp)
open Builtin Builtin.SmallTypes
namespace F
theorem lookup_str_reversed:typeLookup (.type "str") "__reversed__" = pure none:=by rw [typeLookup_type,builtinLookup_eq_fast]; kernel_rfl
theorem fN:Slot "reversed" "__init__" "object.__init__" :=
 .of (owner:="object") (n:="__init__") (by rw [typeLookup_type,builtinLookup_eq_fast];kernel_rfl) (by decide +kernel) (by decide +kernel) (by decide +kernel)
  (by first | exact .inl (by decide +kernel) | exact .inr (by decide +kernel)) (by rw [isSubtype_type];kernel_rfl)
theorem called_rvs:TypeCalled "reversed" "reversed.__new__" "object.__init__" :=
 ⟨by decide +kernel,create_reversed,⟨_,_,mro_reversed⟩,made_reversed,plain_reversed_new,sub_reversed_self,fN⟩
end F
set_option maxHeartbeats 1000000 in
theorem mj (x:Str)(t:Tok):Meets (Builtin.«reversed.__new__» ⟨[.type "reversed",.str x t],[]⟩) (fun _ R s=>¬ (x.length:Int)≥2 ^ 63 ∧
   ∀ tk,R (.ok (.ret (.ref s.heap.objs.size))) { s with heap:=s.heap.push { cls:=.type "reversed",data:=.fields #[.str x t,rawInt ((x.length:Int) - 1)] },toks:=tk }) :=
 .of_wp fun prog w A R s h=>by
  obtain ⟨hx,h⟩:=h
  unfold Builtin.«reversed.__new__»
  refine wpAny_bind (wpAny_of_eq (newClass_reversed _) ?_)
  try dsimp only
  refine wpAny_bind (wpAny_of_eq (a:=()) (by first | rfl | kernel_rfl) ?_)
  refine wpAny_bind (wpAny_of_eq (a:=()) (by first | rfl | kernel_rfl) ?_)
  try dsimp only
  refine wpAny_bind (wpAny_specialOf (typeIs_str s x t) F.lookup_str_reversed ?_)
  try dsimp only
  refine wpAny_bind ?_
  have hl:=F.slot_str_getitem.lookup
  have hT:=typeIs_str s x t
  have hD:isSubtype (.type "str") (.type "dict")=pure false:=by rw [isSubtype_type];kernel_rfl
  repeat (any_goals (first | assumption | refine PySem.P.len_str hx ?_ | wp_step))
  exact ⟨_,rfl,h _⟩
def Heap.IsRvs (h:Heap)(a:Addr)(x:Str)(t:Tok)(i:Int):Prop:=∃ o,h.get? a=some o∧o.cls = .type "reversed"∧o.data = .fields #[.str x t,rawInt i]
theorem Heap.IsRvs.typeIs {s:Shared}{a:Addr}{x:Str}{t:Tok}{i:Int}(y:s.heap.IsRvs a x t i):s.TypeIs (.ref a) "reversed":=let ⟨o,ho,hc,_⟩:=y; ⟨o,ho,hc⟩
namespace F
theorem slot_rvs_next:Slot "reversed" "__next__" "reversed.__next__" :=
 .of (owner:="reversed") (n:="__next__") (by rw [typeLookup_type,builtinLookup_eq_fast];kernel_rfl) (by decide +kernel) (by decide +kernel) (by decide +kernel)
  (by first | exact .inl (by decide +kernel) | exact .inr (by decide +kernel)) (by rw [isSubtype_type];kernel_rfl)
theorem entry_rvs_next:entryFor table "reversed.__next__" = some Builtin.«reversed.__next__»:=entryFor_of_tree (by kernel_rfl)
theorem args_rvs_next (a:Value):argsOk "reversed.__next__" ⟨[a],[]⟩:=by unfold argsOk; kernel_rfl
theorem slot_rvs_iter:Slot "reversed" "__iter__" "reversed.__iter__" :=
 .of (owner:="reversed") (n:="__iter__") (by rw [typeLookup_type,builtinLookup_eq_fast];kernel_rfl) (by decide +kernel) (by decide +kernel) (by decide +kernel)
  (by first | exact .inl (by decide +kernel) | exact .inr (by decide +kernel)) (by rw [isSubtype_type];kernel_rfl)
theorem args_rvs_iter (a:Value):argsOk "reversed.__iter__" ⟨[a],[]⟩:=by unfold argsOk; kernel_rfl
theorem entry_rvs_iter:entryFor table "reversed.__iter__" = some Builtin.«dict_keyiterator.__iter__» :=
 entryFor_alias (id':="dict_keyiterator.__iter__") (by kernel_rfl) rfl (by decide +kernel) (by kernel_rfl)
end F
section
variable {prog:Program} {w:World} {A:Around} {E:Value→Shared→Prop} {s:Shared} {x:Str} {t:Tok}
theorem gU {Q:Value→Shared→Prop}(hx:¬ (x.length:Int)≥2 ^ 63)
  (h:∀ tk,Q (.ref s.heap.objs.size) { s with heap:=s.heap.push { cls:=.type "reversed",data:=.fields #[.str x t,rawInt ((x.length:Int) - 1)] },toks:=tk }):wpAny (model prog w) A (call (.type "reversed") [.str x t]) Q E s :=
 callType_new F.called_rvs (by decide) (F.typeCall_reversed_1 _) (F.newCall_reversed_1 _) (fun obj=>F.args_object_init_2 obj _) F.entry_reversed_new (mj x t) ⟨hx,fun tk=>⟨⟨_,Heap.get?_push_size _ rfl,rfl⟩,h tk⟩⟩
theorem fO {it:Addr}{i:Int}{Q:Value→Shared→Prop}(hit:s.heap.IsRvs it x t i)(h:Q (.ref it) s):wpAny (model prog w) A (pyIter (.ref it)) Q E s:=by
 refine wpAny_pyIter_slot hit.typeIs F.slot_rvs_iter (wpAny_call_entry F.slot_rvs_iter hit.typeIs F.entry_rvs_iter ?_ (F.args_rvs_iter _))
 show wpAny _ _ (ret (.ref it)) _ _ s
 exact wpAny_pure ⟨_,rfl,"reversed",_,hit.typeIs,F.slot_rvs_next.lookup,h⟩
theorem fP {it:Addr}{i:Nat}{c:Nat}{Q:Option Value→Shared→Prop}(hit:s.heap.IsRvs it x t (i:Int))(hx:x.cps[i]? = some c)(h63:(i:Int) < 2 ^ 63)
  (hQ:∀ h' tk u,h'.IsRvs it x t ((i:Int) - 1)→Heap.SameBut it s.heap h'→Q (some (.str ⟨#[c]⟩ u)) { s with heap:=h',toks:=tk }):wpAny (model prog w) A (pyNext (.ref it)) Q E s:=by
 obtain ⟨o,ho,hc,hd⟩:=id hit
 unfold pyNext
 refine wpAny_bind (wpAny_attempt (wpAny_callSpecial?_slot (name:=Str.ofString "__next__") hit.typeIs F.slot_rvs_next
  (wpAny_call_entry F.slot_rvs_next hit.typeIs F.entry_rvs_next ?_ (F.args_rvs_next _))))
 unfold Builtin.«reversed.__next__»
 refine wpAny_bind (wpAny_of_eq (a:=(Value.ref it,[])) rfl ?_)
 try dsimp only
 refine wpAny_bind (wpAny_field ho hd (x:=.str x t) rfl ?_)
 refine wpAny_bind (wpAny_field ho hd (x:=rawInt (i:Int)) rfl ?_)
 show wpAny _ _ (if (i:Int) < 0 then _ else _) _ _ s
 rw [if_neg (by omega)]
 refine wpAny_bind (wpAny_specialOf (typeIs_str s x t) F.slot_str_getitem.lookup ?_)
 show wpAny _ _ (if (some (Value.builtin "str.__getitem__")).isNone=true then _ else _) _ _ s
 rw [if_neg (by decide)]
 refine wpAny_bind (wpAny_mkInt ?_)
 have hlt:i < x.length:=by
  have:=Array.getElem?_eq_some_iff.mp hx
  exact this.1
 refine wpAny_bind (wpAny_attempt (PySem.P.getItem_str (c:=c) ?_ ?_ ?_))
 ·have e1:decide ((i:Int) < -(2 ^ 63:Int))=false:=decide_eq_false (by omega)
  have e2:decide ((i:Int)≥2 ^ 63)=false:=decide_eq_false (by omega)
  rw [e1,e2,Bool.or_false]
 ·rw [PySem.StrLaws.seqIndex_nonneg (by omega) (by omega)]
  simpa using hx
 try dsimp only
 refine wpAny_bind (wpAny_field ho hd (x:=rawInt (i:Int)) rfl ?_)
 show wpAny _ _ (setField (.ref it) 1 (rawInt ((i:Int) - 1)) >>= _) _ _ _
 refine wpAny_bind (wpAny_setField ho hd (by simp) ?_)
 refine wpAny_pure ⟨_,rfl,wpAny_pure (hQ _ _ _ ?_ (Heap.SameBut.update ..))⟩
 exact ⟨_,Heap.get?_update_self _ ho (Obj.isFreed_of_fields (Obj.data_mapFields hd _)),(Obj.cls_mapFields ..).trans hc,by
  rw [Obj.data_mapFields hd];simp⟩
theorem gW {it:Addr}{Q:Option Value→Shared→Prop}(hh:A.handled=none)(hit:s.heap.IsRvs it x t (-1))
  (hQ:∀ h',(∀ b o,b≠it→s.heap.get? b=some o→h'.get? b=some o)→Q none { s with heap:=h' }):wpAny (model prog w) A (pyNext (.ref it)) Q E s:=by
 obtain ⟨o,ho,hc,hd⟩:=id hit
 unfold pyNext
 refine wpAny_bind (wpAny_attempt (wpAny_callSpecial?_slot (name:=Str.ofString "__next__") hit.typeIs F.slot_rvs_next
  (wpAny_call_entry F.slot_rvs_next hit.typeIs F.entry_rvs_next ?_ (F.args_rvs_next _))))
 unfold Builtin.«reversed.__next__»
 refine wpAny_bind (wpAny_of_eq (a:=(Value.ref it,[])) rfl ?_)
 try dsimp only
 refine wpAny_bind (wpAny_field ho hd (x:=.str x t) rfl ?_)
 refine wpAny_bind (wpAny_field ho hd (x:=rawInt (-1)) rfl ?_)
 show wpAny _ _ (if (-1:Int) < 0 then _ else _) _ _ s
 rw [if_pos (by decide)]
 refine wpAny_bind (wpAny_rule ?_)
 refine wpAny_bind ?_
 show wpAny _ _ (setField (.ref it) 1 (rawInt (-1)) >>= fun _=>setField (.ref it) 0 .none) _ _ s
 refine wpAny_bind (wpAny_setField ho hd (by simp) ?_)
 have ho2:=Heap.get?_update_self (Obj.mapFields fun a=>a.setIfInBounds 1 (rawInt (-1))) ho (Obj.isFreed_of_fields (Obj.data_mapFields hd _))
 have hd2:=Obj.data_mapFields hd fun a=>a.setIfInBounds 1 (rawInt (-1))
 refine wpAny_setField ho2 hd2 (by simp) ?_
 generalize hh2:(s.heap.update it _).update it _=h2
 have kk:∀ b o,b≠it→s.heap.get? b=some o→h2.get? b=some o:=fun b o hb e=>by
  rw [← hh2]
  exact (Heap.get?_update_other _ _ (Ne.symm hb)).trans ((Heap.get?_update_other _ _ (Ne.symm hb)).trans e)
 have hz:A.in1.handled=none:=hh
 have sub:=isSubtype_stop
 repeat (any_goals (first | assumption | wp_step))
 unfold raiseNew
 refine wpAny_bind (wpAny_handled ?_)
 rw [hz]
 refine wpAny_bind (wpAny_pure (wpAny_throw ?_))
 refine wpAny_bind (wpAny_isInstance (T:="StopIteration") (b:=true) ?_ sub (wpAny_pure (hQ _ fun b o hb e=>?_)))
 ·exact ⟨_,Heap.get?_push_size _ rfl,rfl⟩
 exact Heap.get?_push_of_some _ (Heap.get?_push_of_some _ (kk b o hb e))
theorem ml (hh:A.handled=none)(it:Addr)(x:Str)(t:Tok)(h63:(x.cps.size:Int) < 2 ^ 63) :
  Walks prog w A it [it] [it] x.cps.size (fun i v=>∃ c u,x.cps[x.cps.size - 1 - i]? = some c∧v = .str ⟨#[c]⟩ u) (fun i h=>i≤x.cps.size∧h.IsRvs it x t ((x.cps.size:Int) - 1 - (i:Int))) where
 sub:=fun _ hb=>hb
 frame:=fun _ _ _ st hk=>let ⟨l,o,ho,r⟩:=st;⟨l,o,hk it (by simp) o ho,r⟩
 item:=fun i s Q E hi y hQ=>by
  have e:(x.cps.size:Int) - 1 - (i:Int)=((x.cps.size - 1 - i:Nat):Int):=by omega
  have hit:=y.2
  rw [e] at hit
  have hx:x.cps[x.cps.size - 1 - i]? = some (x.cps[x.cps.size - 1 - i]'(by omega)):=Array.getElem?_eq_getElem (by omega)
  refine fP hit hx (by omega) fun h' tk u hit' hs'=>?_
  have e2:((x.cps.size - 1 - i:Nat):Int) - 1=(x.cps.size:Int) - 1 - ((i+1:Nat):Int):=by omega
  rw [e2] at hit'
  exact hQ _ h' tk ⟨_,u,hx,rfl⟩ ⟨hi,hit'⟩ fun b o hb eo=>hs'.extBut b o (fun h=>hb (by simp [h])) eo
 done:=fun s Q E y hQ=>by
  have e:(x.cps.size:Int) - 1 - (x.cps.size:Int) = -1:=by omega
  have hit:=y.2
  rw [e] at hit
  exact gW hh hit fun h' he'=>hQ h' s.toks fun b o hb eo=>he' b o (fun h=>hb (by simp [h])) eo
 self:=fun _ _ _ _ y hQ=>fO y.2 hQ
end
end PySem
namespace L2
open PySem PySem.Spec PyProof.Rows
def wV (z:Str):It:=⟨fun i _=>i < z.cps.size,fun i H x H'=>H'=H∧∃ c,z.cps[z.cps.size - 1 - i]? = some c∧x = .str ⟨#[c]⟩,fun i _=>i=z.cps.size⟩
section
variable {X:Cx} {tg:Expr}
def wW (ta:TA):TI:=fun σ H R=>ta σ H fun vs H1=>∃ z,vs=[.str z]∧z.length≤sizeLine∧R (wV z) H1
theorem rY {a:Expr}{ta:TA}{p pos:Pos}(hg:Gl X "reversed")(hm:X.mg "reversed" = none)(hb:bootBuiltins "reversed" = some (.type "reversed"))(ha:PA X [a] ta)(hs:starEach [a] X.env=[(false,eval a X.env)]:=by rfl) :
  PI X tg (.Call (.Name "reversed" p) [a] [] pos) (wW ta):=by
 intro pins s σ H R I h
 refine Call_ (cy I hg hm hb (PyProof.Rows.callWith_type1 (thn (ha pos pins s σ H _ I h) fun us s1 zq1=>?_) hs rfl))
 obtain ⟨vs,H1,I1,r1,q1⟩:=zq1
 obtain ⟨z,rfl,hz,q⟩:=q1
 obtain ⟨u,rfl,t,rfl⟩:=bW r1
 have hn:=dz
 have hsz:z.cps.size=z.length:=rfl
 refine gU (by omega) fun tk=>?_
 have hit:Heap.IsRvs (s1.heap.push { cls:=.type "reversed",data:=.fields #[.str z t,rawInt ((z.length:Int) - 1)] }) s1.heap.objs.size z t ((z.length:Int) - 1):=⟨_,Heap.get?_push_size _ rfl,rfl,rfl⟩
 refine fO (s:={ s1 with heap:=s1.heap.push { cls:=.type "reversed",data:=.fields #[.str z t,rawInt ((z.length:Int) - 1)] },toks:=tk }) hit ?_
 refine ⟨s1.heap.objs.size,[s1.heap.objs.size],_,wV z,H1,rfl,I1.kept (t':=tk) fun b o e=>Heap.get?_push_of_some _ e,
  bS (T:="reversed") (fl:=fun i=>#[.str z t,rawInt ((z.cps.size:Int) - 1 - (i:Int))]) (fun A hh=>ml hh _ z t (by omega)) (fun i h st=>st.2) (by decide) (fun i H g=>g) (fun i H g=>g)
   (fun i H u _ ⟨c,t',e,eu⟩=>⟨.str ⟨#[c]⟩,⟨t',eu⟩,rfl,c,e,rfl⟩) (fun A i s Q E st h=>fO st.2 h),⟨Nat.zero_le _,by simpa [hsz] using hit⟩,fun b hb=>?_,q⟩
 have e:b=s1.heap.objs.size:=by simpa using hb
 subst e
 exact I1.fpOk (Nat.le_refl _) (I1.hok.fresh (Nat.le_refl _))
structure DTx (K:PySem.W.Frag) (w:World) (a:Addr):Prop where
 ob:∃ (es:Array DictEntry) (n:Nat),K.lookup a=some ⟨.type "dict",none,.dict es n,#[]⟩∧PySem.W.KeysLit w.params es.toList
theorem pz {a:Addr}(D:DTx X.K X.w a):IxR X (fun x y H Q=>∃ z z' t,x = .ref a∧y = .str z∧PySem.W.nsIn X.K a z=some (some (.str z' t))∧Q (.str z') H):=by
 intro value slice pins s σ H x y v u Q I rx ry h hs
 obtain ⟨z,z',t',rfl,rfl,e,q⟩:=h
 cases rx
 obtain ⟨t,rfl⟩:=ry
 obtain ⟨es,n,hl,hk⟩:=D.ob
 obtain ⟨m,F⟩:=I.fr
 exact PySem.W.topItem_K F I.ok.mod.kin hl hk e ⟨.str z',H,I.tok _,⟨_,rfl⟩,q⟩ hs
def pA (K:PySem.W.Frag)(a:Addr)(Q:VK):V→Hp→Prop:=fun y H1=>∃ z z' t,y = .str z∧PySem.W.nsIn K a z=some (some (.str z' t))∧Q (.str z') H1
def wX (K:PySem.W.Frag)(a:Addr)(ti:TE):TE:=fun σ H Q=>ti σ H (pA K a Q)
theorem rZ {K:PySem.W.Frag}{w:World}{a:Addr}{x:Str}{i:Expr}{ti:TE}{p pos:Pos}(D:DTx K w a)(hK:X.K=K)(hw:X.w=w)(hg:Gl X x)(hm:X.mg x=some (.ref a))(hi:PE X i ti)(hs:lP i)
  (hd:(x == ("__debug__":Str))=false:=by decide):PE X (.Subscript (.Name x p) i pos) (wX K a ti):=by
 subst hK hw
 intro pins s σ H Q I h
 refine Subscript_ (dX I hg hm (thn (hi pins s σ H _ I h) fun u s2 zq2=>?_) hd)
 obtain ⟨y,H2,I2,ry,z,z',t',e1,e2,q⟩:=zq2
 exact pz D _ _ pins s2 σ H2 (.ref a) y (.ref a) u Q I2 rfl ry ⟨z,z',t',rfl,e1,e2,q⟩ (hs _ _)
end
end L2
namespace Wd
abbrev L:=Fin 12
def inv (x:L):L:=if h:x.val < 6 then ⟨x.val+6,by omega⟩ else ⟨x.val - 6,by omega⟩
theorem df:∀ x:L,inv (inv x)=x:=by decide
theorem uZ:∀ x:L,inv x≠x:=by decide
def bk (w:List L):List L:=(w.map inv).reverse
theorem mn (u v:List L):bk (u++v)=bk v++bk u:=by simp [bk]
theorem bt (w:List L):(bk w).length=w.length:=by simp [bk]
theorem mq (x:L):bk [x]=[inv x]:=rfl
def push (st:List L)(x:L):List L:=match st with
 | []=>[x]
 | y::r=>if y=inv x then r else x::y::r
def act (w:List L)(st:List L):List L:=w.foldl push st
theorem fQ (x:L)(w st:List L):act (x::w) st=act w (push st x):=rfl
theorem dh (u v st:List L):act (u++v) st=act v (act u st):=by simp [act,List.foldl_append]
def Rd:List L→Prop
 | []=>True
 | [_]=>True
 | x::y::r=>y≠inv x∧Rd (y::r)
theorem Rd.tail:∀ {x:L} {r:List L},Rd (x::r)→Rd r
 | _,[],_=>trivial
 | _,_::_,h=>h.2
theorem mw {st:List L}(x:L)(h:Rd st):Rd (push st x):=by
 cases st with
 | nil=>trivial
 | cons y r =>
  show Rd (if y=inv x then r else x::y::r)
  split
  ·exact h.tail
  ·rename_i hn
   exact ⟨hn,h⟩
theorem mx:∀ (w:List L) {st:List L},Rd st→Rd (act w st)
 | [],_,h=>h
 | x::w,st,h=>mx w (mw x h)
theorem my {st:List L}(x:L)(h:Rd st):push (push st x) (inv x)=st:=by
 cases st with
 | nil =>
  show (if x=inv (inv x) then [] else _)=_
  rw [if_pos (df x).symm]
 | cons y r =>
  show push (if y=inv x then r else x::y::r) (inv x)=y::r
  by_cases e:y=inv x
  ·rw [if_pos e]
   subst e
   cases r with
   | nil=>rfl
   | cons z r =>
    show (if z=inv (inv x) then r else inv x::z::r)=_
    rw [if_neg h.1]
  ·rw [if_neg e]
   show (if x=inv (inv x) then y::r else _)=_
   rw [if_pos (df x).symm]
def red (w:List L):List L:=(act w []).reverse
theorem mz:Rd []:=trivial
theorem i5 (st:List L)(x:L):(push st x).length≤st.length+1:=by
 cases st with
 | nil=>simp [push]
 | cons y r =>
  show (if y=inv x then r else x::y::r).length≤_
  split
  ·simp only [List.length_cons];omega
  ·simp
theorem fo:∀ (w st:List L),(act w st).length≤st.length+w.length
 | [],_=>by simp [act]
 | x::w,st=>by
  have:=fo w (push st x)
  have:=i5 st x
  rw [fQ,List.length_cons]
  omega
theorem kF (w:List L):(red w).length≤w.length:=by
 have:=fo w []
 simpa [red] using this
def rep:Nat→List L→List L
 | 0,_=>[]
 | n+1,w=>rep n w++w
theorem jK (w:List L):∀ n,rep n w++w=w++rep n w
 | 0=>by simp [rep]
 | n+1=>by
  show (rep n w++w)++w=w++(rep n w++w)
  rw [← List.append_assoc,← jK w n]
theorem fq (w:List L):∀ n,(rep n w).length=n*w.length
 | 0=>by simp [rep]
 | n+1=>by
  show (rep n w++w).length=_
  rw [List.length_append,fq w n,Nat.succ_mul]
def pw (w:List L)(n:Int):List L:=rep n.natAbs (if n < 0 then bk w else w)
def qS (k:Nat)(w:List L):Prop:=∀ i x y,i+1 < k→w[i]? = some x→w[i+1]? = some y→y≠inv x
theorem r6:∀ {w:List L} {k:Nat},w.length≤k→qS k w→act w []=w.reverse:=by
 have all:∀ (u st:List L),Rd st→(∀ x y,st.head? = some x→u.head? = some y→y≠inv x)→qS u.length u→act u st=u.reverse++st:=by
  intro u
  induction u with
  | nil=>intro st _ _ _;rfl
  | cons x u ih =>
   intro st h hd hr
   have e:push st x=x::st:=by
    cases st with
    | nil=>rfl
    | cons y r =>
     show (if y=inv x then r else _)=_
     rw [if_neg]
     intro e
     have:=hd y x rfl rfl
     rw [e,df] at this
     exact this rfl
   rw [fQ,e,ih (x::st),List.reverse_cons,List.append_assoc]
   ·rfl
   ·rw [← e];exact mw x h
   ·intro a b ha hb
    have ea:a=x:=(Option.some.inj ha).symm
    subst ea
    cases u with
    | nil=>cases hb
    | cons c u =>
     have eb:b=c:=(Option.some.inj hb).symm
     subst eb
     exact hr 0 a b (by simp) rfl rfl
   ·intro i a b hi ha hb
    exact hr (i+1) a b (by simp only [List.length_cons];omega) ha hb
 intro w k hk h
 have:=all w [] mz (fun x y hx=>by cases hx) (fun i x y hi=>h i x y (by omega))
 simpa using this
theorem i6 {w:List L}{k:Nat}(hk:w.length≤k)(h:qS k w):red w=w:=by
 unfold red
 rw [r6 hk h,List.reverse_reverse]
theorem mB {w:List L}{k:Nat}(h:qS (k+1) w)(hn:∀ x y,w[k]? = some x→w[k+1]? = some y→y≠inv x):qS (k+2) w:=by
 intro i x y hi hx hy
 by_cases e:i=k
 ·subst e;exact hn x y hx hy
 ·exact h i x y (by omega) hx hy
theorem pB {w:List L}{k:Nat}(h:qS (k+1) w):qS (k - 1+1) (w.take k++w.drop (k+2)):=by
 intro i x y hi hx hy
 by_cases hk:k=0
 ·omega
 ·have e1:(w.take k++w.drop (k+2))[i]? = w[i]?:=by
   by_cases hl:i < (w.take k).length
   ·rw [List.getElem?_append_left hl,List.getElem?_take_of_lt (by omega)]
   ·rw [List.length_take] at hl
    rw [List.getElem?_eq_none (l:=w) (by omega)]
    rw [List.getElem?_eq_none]
    rw [List.length_append,List.length_take,List.length_drop]
    omega
  have e2:(w.take k++w.drop (k+2))[i+1]? = w[i+1]?:=by
   by_cases hl:i+1 < (w.take k).length
   ·rw [List.getElem?_append_left hl,List.getElem?_take_of_lt (by omega)]
   ·rw [List.length_take] at hl
    rw [List.getElem?_eq_none (l:=w) (by omega)]
    rw [List.getElem?_eq_none]
    rw [List.length_append,List.length_take,List.length_drop]
    omega
  rw [e1] at hx
  rw [e2] at hy
  exact h i x y (by omega) hx hy
theorem r9 {w:List L}{k:Nat}{x:L}(hx:w[k]? = some x)(hy:w[k+1]? = some (inv x)):red (w.take k++w.drop (k+2))=red w:=by
 obtain ⟨h1,e1⟩:=List.getElem?_eq_some_iff.mp hx
 obtain ⟨h2,e2⟩:=List.getElem?_eq_some_iff.mp hy
 have e:w=w.take k++([x,inv x]++w.drop (k+2)):=by
  have a:=(List.take_append_drop k w).symm
  have b:w.drop k=x::inv x::w.drop (k+2):=by
   rw [List.drop_eq_getElem_cons h1,List.drop_eq_getElem_cons h2,e1,e2]
  rw [b] at a
  exact a
 have q:red (w.take k++([x,inv x]++w.drop (k+2)))=red (w.take k++w.drop (k+2)):=by
  unfold red
  rw [dh,dh,dh]
  show (act (w.drop (k+2)) (push (push (act (w.take k) []) x) (inv x))).reverse=_
  rw [my x (mx _ mz)]
 rw [← q,← e]
end Wd
namespace L2
open PySem PySem.Spec PyProof.Rows Wd
def cp (x:L):Nat:=if x.val < 6 then 97+x.val else 59+x.val
theorem r_:∀ x:L,cp x < 128:=by decide
theorem u3:∀ x y:L,cp x=cp y→x=y:=by decide
def toS (w:List L):Str:=⟨(w.map cp).toArray⟩
def tx (w:List L):V:=.str (toS w)
theorem cf (w:List L):(toS w).cps.toList=w.map cp:=by simp [toS]
theorem ai (w:List L):(toS w).length=w.length:=by simp [toS,Str.length]
theorem bq (w:List L):(toS w).cps.size=w.length:=by simp [toS]
theorem cq (u v:List L):toS u++toS v=toS (u++v):=by
 apply Str.ext'
 rw [Str.cps_append]
 simp [toS]
theorem fv:∀ {u v:List L},u.map cp=v.map cp→u=v
 | [],[],_=>rfl
 | [],_::_,h=>by simp at h
 | _::_,[],h=>by simp at h
 | x::u,y::v,h=>by
  simp only [List.map_cons,List.cons.injEq] at h
  rw [u3 x y h.1,fv h.2]
theorem eA {u v:List L}(h:toS u=toS v):u=v:=by
 have:(toS u).cps.toList=(toS v).cps.toList:=by rw [h]
 rw [cf,cf] at this
 exact fv this
theorem qT {u v:List L}(h:tx u=tx v):u=v:=eA (V.str.inj h)
theorem se:toS []=("":Str):=by decide +kernel
theorem mD:tx []=V.str ("":Str):=congrArg V.str se
theorem u4 (u v:List L):decide (tx u=tx v)=decide (u=v):=by
 by_cases h:u=v
 ·subst h;simp
 ·rw [decide_eq_false h,decide_eq_false fun e=>h (qT e)]
theorem pD:toS [0,1,2,3,4,5]=("abcdef":Str):=by decide +kernel
theorem big:toS [6,7,8,9,10,11]=("ABCDEF":Str):=by decide +kernel
theorem cD {w:List L}{i c:Nat}(h:(toS w).cps[i]? = some c):∃ x,w[i]? = some x∧(⟨#[c]⟩:Str)=toS [x]:=by
 have h:((w.map cp).toArray)[i]? = some c:=h
 rw [List.getElem?_toArray,List.getElem?_map] at h
 cases e:w[i]? with
 | none=>rw [e] at h;cases h
 | some x =>
  rw [e] at h
  have:cp x=c:=Option.some.inj h
  exact ⟨x,rfl,by rw [← this];rfl⟩
theorem dj {w:List L}{k:Nat}{x:L}{i:Int}(hk:i=(k:Int))(h:w[k]? = some x):atI (toS w).cps.toList i=some (cp x):=by
 subst hk
 rw [cf]
 obtain ⟨hl,e⟩:=List.getElem?_eq_some_iff.mp h
 unfold atI ixN
 rw [if_pos (by omega),if_pos (by rw [List.length_map];omega)]
 show (w.map cp)[((k:Nat):Int).toNat]? = _
 rw [Int.toNat_natCast,List.getElem?_map,h]
 rfl
def mE (w:List L)(lo hi:Option Int):List L:=(w.drop (HT.sIx w.length 0 lo)).take (HT.sIx w.length w.length hi - HT.sIx w.length 0 lo)
theorem sf (lo hi:Option Int)(n:Nat):Builtin.Str.strSliceIndices lo hi 1 n=(List.range (HT.sIx n n hi - HT.sIx n 0 lo)).map (fun k=>HT.sIx n 0 lo+k):=by
 have cl:∀ v:Int,max (0:Int) (min (if v < 0 then v+(n:Int) else v) (n:Int))=(((if v < 0 then (v+(n:Int)).toNat else min v.toNat n):Nat):Int):=fun v=>by
  by_cases hv:v < 0
  ·simp only [if_pos hv];omega
  ·simp only [if_neg hv];omega
 have fin:∀ a b:Nat,sliceRange (a:Int) (b:Int) 1=(List.range (b - a)).map (fun k=>a+k):=fun a b=>by
  unfold sliceRange
  simp only [show ((1:Int) > 0)=True from by simp,if_true]
  by_cases hlt:(a:Int) < b
  ·have e3:(((b:Int) - a+1 - 1) / 1).toNat=b - a:=by first | omega | (simp;done) | (simp;omega)
   simp only [hlt,if_true,e3]
   exact List.map_congr_left fun k _=>by omega
  ·have:b - a=0:=by omega
   simp [hlt,this]
 unfold Builtin.Str.strSliceIndices
 simp only [show ((1:Int) > 0)=True from by simp,if_true]
 cases lo with
 | none =>
  cases hi with
  | none=>exact fin 0 n
  | some j=>simp only [cl];exact fin 0 _
 | some i =>
  cases hi with
  | none=>simp only [cl];exact fin _ n
  | some j=>simp only [cl];exact fin _ _
theorem aV (w:List L)(lo hi:Option Int):Txt.slice (toS w) lo hi=toS (mE w lo hi):=by
 have h1:=HT.qN w.length 0 (Nat.zero_le _) lo
 have h2:=HT.qN w.length w.length (Nat.le_refl _) hi
 unfold Txt.slice
 rw [sf,ai]
 split
 ·rename_i h
  have hl:HT.sIx w.length w.length hi - HT.sIx w.length 0 lo=w.length:=by simpa using h
  have e:mE w lo hi=w:=by
   unfold mE
   rw [hl]
   have ha:HT.sIx w.length 0 lo=0 ∨ w.length=0:=by omega
   rcases ha with ha | ha
   ·rw [ha,List.drop_zero,List.take_length]
   ·have:w=[]:=List.eq_nil_of_length_eq_zero ha
    subst this
    simp
  rw [e]
 ·apply Str.ext'
  show (List.filterMap _ _).toArray=_
  have e:=StrLaws.picks (w.map cp) (HT.sIx w.length w.length hi - HT.sIx w.length 0 lo) (HT.sIx w.length 0 lo)
  by_cases hle:HT.sIx w.length 0 lo≤HT.sIx w.length w.length hi
  ·have e:=e (by rw [List.length_map];omega)
   have e2:(fun k:Nat=>(toS w).cps[k]?)=fun k:Nat=>(w.map cp)[k]?:=funext fun k=>by simp [toS]
   rw [e2,e]
   simp [toS,mE,List.map_take,List.map_drop]
  ·have z:HT.sIx w.length w.length hi - HT.sIx w.length 0 lo=0:=by omega
   rw [z]
   simp [toS,mE,z]
theorem gX (w:List L){n:Int}(h:0≤n):mE w none (some n)=w.take n.toNat:=by
 obtain ⟨k,rfl⟩:=Int.eq_ofNat_of_zero_le h
 unfold mE
 rw [HT.fD,HT.iW,List.drop_zero,Nat.sub_zero,Int.toNat_natCast]
 by_cases hk:k≤w.length
 ·rw [Nat.min_eq_left hk]
 ·rw [Nat.min_eq_right (by omega),List.take_length,List.take_of_length_le (by omega)]
theorem fR (w:List L){n:Int}(h:0≤n):mE w (some n) none=w.drop n.toNat:=by
 obtain ⟨k,rfl⟩:=Int.eq_ofNat_of_zero_le h
 unfold mE
 rw [HT.fD,HT.iW,Int.toNat_natCast]
 by_cases hk:k≤w.length
 ·rw [Nat.min_eq_left hk,List.take_of_length_le (by rw [List.length_drop];omega)]
 ·rw [Nat.min_eq_right (by omega),List.drop_length,List.drop_eq_nil_of_le (by omega)]
  simp
theorem cu (w:List L)(lo hi:Option Int):(mE w lo hi).length≤w.length:=by
 unfold mE
 rw [List.length_take,List.length_drop]
 omega
theorem mF (w:List L):Txt.upper (toS w)=⟨((w.map cp).map up1).toArray⟩:=by
 rw [upper_ascii fun c hc=>by rw [cf] at hc;obtain ⟨x,_,rfl⟩:=List.mem_map.mp hc;exact r_ x]
 simp [toS]
theorem gY (w:List L):Txt.lower (toS w)=⟨((w.map cp).map lo1).toArray⟩:=by
 rw [lower_ascii fun c hc=>by rw [cf] at hc;obtain ⟨x,_,rfl⟩:=List.mem_map.mp hc;exact r_ x]
 simp [toS]
theorem wY:∀ x:L,x.val < 6→up1 (cp x)=cp (inv x):=by decide
theorem wZ:∀ x:L,¬ x.val < 6→lo1 (cp x)=cp (inv x):=by decide
theorem eB {x:L}(h:x.val < 6):Txt.upper (toS [x])=toS [inv x]:=by
 rw [mF]
 show (⟨#[up1 (cp x)]⟩:Str)=⟨#[cp (inv x)]⟩
 rw [wY x h]
theorem gZ {x:L}(h:¬ x.val < 6):Txt.lower (toS [x])=toS [inv x]:=by
 rw [gY]
 show (⟨#[lo1 (cp x)]⟩:Str)=⟨#[cp (inv x)]⟩
 rw [wZ x h]
theorem ex1:∀ x:L,cp x∈List.map cp [0,1,2,3,4,5]→x.val < 6:=by decide
theorem ex2:∀ x:L,x.val < 6→(List.map cp [0,1,2,3,4,5])[x.val]? = some (cp x):=by decide
theorem jL (x:L):(!(Builtin.Str.occurrences ("abcdef":Str) (toS [x]) 0 ("abcdef":Str).length 1).isEmpty)=decide (x.val < 6):=by
 have h:=StrLaws.found_iff ("abcdef":Str) (toS [x])
 have e:(∃ i,i+(toS [x]).length≤("abcdef":Str).length∧Builtin.Str.subAt ("abcdef":Str) (toS [x]) i=true) ↔ x.val < 6:=by
  have e2:∀ i,(i+(toS [x]).length≤("abcdef":Str).length∧Builtin.Str.subAt ("abcdef":Str) (toS [x]) i=true) ↔ ("abcdef":Str).cps.toList[i]? = some (cp x):=fun i=>StrLaws.subAt_one _ _ _
  rw [show (("abcdef":Str))=toS [0,1,2,3,4,5] from pD.symm] at e2 ⊢
  constructor
  ·rintro ⟨i,hi⟩
   have hi:=(e2 i).mp hi
   rw [cf] at hi
   exact ex1 x (List.mem_of_getElem? hi)
  ·intro hx
   refine ⟨x.val,(e2 x.val).mpr ?_⟩
   rw [cf]
   exact ex2 x hx
 rw [Bool.eq_iff_iff,h,e,decide_eq_true_iff]
theorem pE:∀ w:List L,Txt.join ("":Str) (w.map fun x=>toS [x])=toS w:=by
 intro w
 have e0:("":Str)=Str.empty:=by decide +kernel
 unfold Txt.join
 rw [StrLaws.glued_eq_join,e0]
 induction w with
 | nil=>rfl
 | cons x r ih =>
  cases r with
  | nil=>rfl
  | cons y r =>
   show toS [x]++Str.empty++Str.join Str.empty ((y::r).map fun x=>toS [x])=_
   rw [ih,Str.append_empty,cq]
   rfl
theorem sh (w:List L):((w.map fun x=>toS [x]).map (·.length)).sum=w.length:=by
 induction w with
 | nil=>rfl
 | cons x r ih =>
  simp only [List.map_cons,List.sum_cons,List.length_cons]
  rw [ih,ai]
  simp only [List.length_singleton]
  omega
theorem dE (w:List L):∀ (n:Nat) (acc:Array Nat),(List.replicate n (toS w).cps).foldl (· ++ ·) acc=acc++((rep n w).map cp).toArray
 | 0,acc=>by simp [rep]
 | n+1,acc=>by
  rw [List.replicate_succ,List.foldl_cons,dE w n]
  show _=acc++((rep n w++w).map cp).toArray
  rw [jK]
  simp [toS]
theorem mG:∀ n,rep n ([]:List L)=[]
 | 0=>rfl
 | n+1=>by show rep n []++[]=[];rw [mG n];rfl
theorem mH (w:List L)(n:Int):Txt.mul (toS w) n=toS (rep n.toNat w):=by
 unfold Txt.mul
 by_cases h1:n < 1
 ·rw [if_pos h1]
  have:n.toNat=0:=by omega
  rw [this]
  rfl
 ·rw [if_neg h1]
  split
  ·rename_i h
   rw [ai] at h
   simp only [Bool.or_eq_true,beq_iff_eq] at h
   rcases h with h | h
   ·subst h
    show toS w=toS (rep 1 w)
    show toS w=toS ([]++w)
    rfl
   ·have:w=[]:=List.eq_nil_of_length_eq_zero h
    subst this
    rw [mG]
  ·apply Str.ext'
   show (List.replicate n.toNat (toS w).cps).foldl (· ++ ·) #[]=_
   rw [dE]
   simp [toS]
theorem eC (w:List L){n:Int}(h1:-1000000≤n)(h2:n≤1000)(hw:w.length≤10000):MulOk (toS w) n:=by
 refine ⟨?_,fun hn _=>?_,fun hn _=>?_⟩
 ·have e1:decide (n < -(2 ^ 63:Int))=false:=decide_eq_false (by omega)
  have e2:decide (n≥2 ^ 63)=false:=decide_eq_false (by omega)
  rw [e1,e2,Bool.or_false]
 ·rw [ai]
  have hn1:1≤n:=by omega
  have q:(9223372036854775:Int)≤(2 ^ 63 - 1) / n:=by
   rw [Int.le_ediv_iff_mul_le (by omega)]
   omega
  omega
 ·rw [ai]
  unfold Builtin.Str.tooLong
  have e:sizeLine=16777216:=sizeLine_eq
  obtain ⟨k,rfl⟩:=Int.eq_ofNat_of_zero_le (show 0≤n by omega)
  have hk:k≤1000:=by omega
  rw [Int.toNat_natCast]
  have q:w.length*k≤10000*1000:=Nat.mul_le_mul hw hk
  exact decide_eq_false (by omega)
structure Fnc (P:Program) (w:World) (K:PySem.W.Frag) (mg:Str→Option Value) (base:Heap) (x:Str) (ps:List Str) (k:Nat) (sp:Sp):Prop where
 ex:∃ (f:Addr) (fd:FuncData),mg x=some (.ref f)∧PySem.W.keepIn K (.ref f)=true∧ff K fd ps []∧fj P w K mg base CX0 k f fd ps sp
theorem aO {X:Cx}{x:Str}{ps:List Str}{k j:Nat}{sp:Sp}{e:Expr}{es:List Expr}{t:TA}{p pos:Pos}(F:Fnc X.prog X.w X.K X.mg X.base x ps j sp)(hr:cZ k X.A)(hj:j≤k)(hg:Gl X x)(ha:PA X (e::es) t)
  (hdb:(x == ("__debug__":Str))=false:=by decide) (he:starEach (e::es) X.env=(false,eval e X.env)::starEach es X.env:=by rfl) (hpl:(backTo pos (starEach es X.env)).any (·.1)=false:=by rfl) :
  PE X (.Call (.Name x p) (e::es) [] pos) (rP sp [] E0 t):=by
 obtain ⟨f,fd,hm,hk,hb,F⟩:=F.ex
 exact lL F (hr.mono hj) hg hm hk hb .nil wU ha hdb he hpl
structure Df (K:PySem.W.Frag) (mg:Str→Option Value) (x:Str) (st:Stmt):Prop where
 ex:∃ (f:Addr) (fd:FuncData),mg x=some (.ref f)∧Fun K x x st f fd
theorem Df.ok {P:Program}{w:World}{K:PySem.W.Frag}{mg:Str→Option Value}{base:Heap}{x:Str}{st:Stmt}{N ps:List Str}{k:Nat}{sp:Sp}(D:Df K mg x st)(S:aC N ps (af st))
  (hb:∀ (kV doc pm:Value) (an:Option Addr) (cdv ct:Value) (us:List Value),us.length=ps.length→bindArgs (PySem.W.fnOf x x (ay st) (ax st) (af st) .none kV doc pm an cdv ct) ⟨us,[]⟩=pure (ps.zip us))
  (len:∀ vs H Q E,sp vs H Q E→vs.length=ps.length)
  (hbody:∀ (f:Addr) (cdv:Value) (A:Around) (outer:List Env) (s:Shared) (H:Hp) (vs:List V) (Q:VK) (E:XK),cZ k (A.deeper (envOfC x (af st) s.heap.objs.size f cdv))→sp vs H Q E →
   ∃ t,PSs (jB CX0 P w K mg base N x (af st) f cdv A outer s H E).nox (ax st) t∧t { nx:=fun _ H'=>Q .non H',rt:=Q } (start N vs) H):Fnc P w K mg base x ps (k+1) sp:=by
 obtain ⟨f,fd,hm,F⟩:=D.ex
 exact ⟨f,fd,hm,F.kp,F.binds hb,F.ok S len fun cdv A outer s H vs Q E hr h=>hbody f cdv A outer s H vs Q E hr h⟩
def bX (d:Addr)(H H':Hp):Prop:=∀ b o,b≠d→H b=some o→H' b=some o
theorem bX.trans {d:Addr}{H H1 H2:Hp}(a:bX d H H1)(b:bX d H1 H2):bX d H H2:=fun c o n h=>b c o n (a c o n h)
theorem az.b {d:Addr}{H H':Hp}(a:az H H'):bX d H H':=fun b o _ h=>a b o h
theorem az.new {H:Hp}{a:Addr}{o:HO}(h:H a=none):az H (upd H a o):=fun b u e=>by rw [aq (ao e h)]; exact e
theorem bX.upd {d:Addr}{H:Hp}{o:HO}:bX d H (upd H d o):=fun b u n e=>by rw [aq n]; exact e
theorem az.then {H H1:Hp}{a:Addr}{o:HO}(s:az H H1)(h:H1 a=none):az H (L2.upd H1 a o):=s.trans (az.new h)
def kS (x:Str):Key:=.inr x
def fkv (c:Addr)(i l t:Int):List (Key × V):=[(kS "cells",.ref c),(kS "at",.int i),(kS "left",.int l),(kS "turn",.int t)]
theorem w4:¬ (kS "cells" = kS "at"):=by decide +kernel
theorem w5:¬ (kS "cells" = kS "left"):=by decide +kernel
theorem w6:¬ (kS "cells" = kS "turn"):=by decide +kernel
theorem we:¬ (kS "at" = kS "left"):=by decide +kernel
theorem wg:¬ (kS "at" = kS "turn"):=by decide +kernel
theorem wj:¬ (kS "left" = kS "turn"):=by decide +kernel
theorem dN {κ:Type}[DecidableEq κ]{k:κ}{v:V}{r:List (κ × V)}:bO ((k,v)::r) k=some v:=by unfold bO; simp
theorem bP {κ:Type}[DecidableEq κ]{k k':κ}{v:V}{r:List (κ × V)}(h:¬ k'=k):bO ((k',v)::r) k=bO r k:=by unfold bO; simp [h]
theorem mI (c:Addr)(i l t:Int):bO (fkv c i l t) (kS "cells")=some (.ref c):=dN
theorem x_ (c:Addr)(i l t:Int):bO (fkv c i l t) (kS "at")=some (.int i):=(bP w4).trans dN
theorem g9 (c:Addr)(i l t:Int):bO (fkv c i l t) (kS "left")=some (.int l):=(bP w5).trans ((bP we).trans dN)
theorem mJ (c:Addr)(i l t:Int):bO (fkv c i l t) (kS "turn")=some (.int t):=(bP w6).trans ((bP wg).trans ((bP wj).trans dN))
theorem yL:¬ (kS "turn" = kS "at"):=fun e=>wg e.symm
theorem yM:¬ (kS "left" = kS "at"):=fun e=>we e.symm
theorem yN:¬ (kS "turn" = kS "left"):=fun e=>wj e.symm
theorem yO (c:Addr)(i l t z:Int):bo (fkv c i l t) (kS "at") (.int z)=fkv c z l t:=by simp [bo,fkv,w4,yM,yL]
theorem mK (c:Addr)(i l t z:Int):bo (fkv c i l t) (kS "left") (.int z)=fkv c i z t:=by simp [bo,fkv,w5,we,yN]
theorem u5 (c:Addr)(i l t z:Int):bo (fkv c i l t) (kS "turn") (.int z)=fkv c i l z:=by simp [bo,fkv,w6,wg,wj]
theorem eD (c:Addr)(i l t:Int):(fkv c i l t).length < sizeLine:=by show 4 < sizeLine; decide
theorem w9 (c:Addr)(i l t:Int):d_ [] (fkv c i l t)=fkv c i l t:=by simp [d_,bo,fkv,w4,w5,w6,we,wg,wj]
structure Fd (H:Hp) (d:Addr):Prop where
 ex:∃ (c:Addr) (i l t:Int) (ns:List Int),H d=some (.dK (fkv c i l t))∧H c=some (.lst (ns.map V.int))∧ns≠[]∧ns.length≤64
theorem Fd.same {H H':Hp}{d:Addr}(F:Fd H d)(s:az H H'):Fd H' d:=by
 obtain ⟨c,i,l,t,ns,h1,h2,h3,h4⟩:=F.ex
 exact ⟨c,i,l,t,ns,s _ _ h1,s _ _ h2,h3,h4⟩
theorem Fd.new {H:Hp}{d a:Addr}{o:HO}(F:Fd H d)(h:H a=none):Fd (upd H a o) d:=F.same (az.new h)
theorem Fd.ne {H:Hp}{d a:Addr}(F:Fd H d)(h:H a=none):a≠d:=by
 obtain ⟨c,i,l,t,ns,h1,h2,h3,h4⟩:=F.ex
 exact (ao h1 h).symm
inductive g_ (vs:List V)(H:Hp)(Q:VK)(u3_:XK):Prop
 | mk:∀ (d:Addr) (m:Int),(vs=[.ref d,.int m])→(Fd H d)→(0 < m)→(m < 1000000)→(∀ (r:Int) (H':Hp),0≤r→r < m→Fd H' d→bX d H H'→Q (.int r) H')→g_ vs H Q u3_
inductive mL (K:PySem.W.Frag)(vs:List V)(H:Hp)(Q:VK)(u3_:XK):Prop
 | mk:∀ (a:Addr) (ns:List Int),(vs=[.ref a])→(SqL K H a (ns.map V.int))→(ns.length≤63)→(∀ (d:Addr) (H':Hp),H d=none→Fd H' d→az H H'→Q (.ref d) H')→mL K vs H Q u3_
theorem si {ns:List Int}(h:ns≠[])(i:Int):∃ n:Int,atI (ns.map V.int) (i % ((ns.map V.int).length:Int))=some (.int n):=by
 have hl:0 < ns.length:=List.length_pos_iff.mpr h
 rw [List.length_map]
 have h0:=Int.emod_nonneg i (show (ns.length:Int)≠0 by omega)
 have h1:=Int.emod_lt_of_pos i (show (0:Int) < ns.length by omega)
 obtain ⟨k,hk⟩:=Int.eq_ofNat_of_zero_le h0
 rw [hk] at h1 ⊢
 have hk':k < ns.length:=by omega
 refine ⟨ns[k],?_⟩
 unfold atI ixN
 rw [if_pos (by omega),if_pos (by rw [List.length_map];omega)]
 show (ns.map V.int)[((k:Nat):Int).toNat]? = _
 rw [Int.toNat_natCast,List.getElem?_map,List.getElem?_eq_getElem hk']
 rfl
mutual
inductive Dt (H:Hp):V→PyData→Prop where
 | non:Dt H .non .none
 | bl (b:Bool):Dt H (.bl b) (.bool b)
 | int (i:Int):Dt H (.int i) (.int i)
 | str (x:Str):Dt H (.str x) (.str x)
 | lst {a:Addr} {xs:List V} {ds:List PyData}:H a=some (.lst xs)→Dts H xs ds→Dt H (.ref a) (.list ds)
 | tup {a:Addr} {xs:List V} {ds:List PyData}:H a=some (.tup xs)→Dts H xs ds→Dt H (.ref a) (.tuple ds)
inductive Dts (H:Hp):List V→List PyData→Prop where
 | nil:Dts H [] []
 | cons {v:V} {d:PyData} {vs:List V} {ds:List PyData}:Dt H v d→Dts H vs ds→Dts H (v::vs) (d::ds)
end
section
variable {P:Program} {w:World} {H:Hp} {h:Heap}
mutual
theorem Dt.reads (ok:HOk P w H h):∀ {v:V} {d:PyData},Dt H v d→∀ {u:Value},bc v u→∃ as,Reads h u d as
 | _,_,.non,u,r=>by cases r;exact ⟨_,.none⟩
 | _,_,.bl b,u,r=>by cases r;exact ⟨_,.bool b⟩
 | _,_,.int i,u,r=>by obtain ⟨t,rfl⟩:=r;exact ⟨_,.int i t⟩
 | _,_,.str x,u,r=>by obtain ⟨t,rfl⟩:=r;exact ⟨_,.str x t⟩
 | _,_,.lst e q,u,r=>by
  cases r
  obtain ⟨_,its,n,rv,g⟩:=ok _ _ e
  obtain ⟨as,ra⟩:=Dts.reads ok q rv
  exact ⟨_,.list g rfl rfl (by simpa using ra)⟩
 | _,_,.tup e q,u,r=>by
  cases r
  obtain ⟨_,its,rv,⟨ob,g,c,n,d⟩,_⟩:=ok _ _ e
  obtain ⟨as,ra⟩:=Dts.reads ok q rv
  exact ⟨_,.tuple g c d (by simpa using ra)⟩
theorem Dts.reads (ok:HOk P w H h):∀ {vs:List V} {ds:List PyData},Dts H vs ds→∀ {us:List Value},aY vs us→∃ as,ReadsAll h us ds as
 | _,_,.nil,_,r=>by cases r;exact ⟨_,.nil⟩
 | _,_,.cons q qs,_,r=>by
  cases r with
  | cons r rs =>
   obtain ⟨as,a1⟩:=Dt.reads ok q r
   obtain ⟨bs,a2⟩:=Dts.reads ok qs rs
   exact ⟨_,.cons a1 a2⟩
end
end
section
variable {X:Cx}
end
end L2
set_option maxHeartbeats 0
noncomputable section
def fu:=@PySem.wpAny_bind
def y9:=@PySem.Heap.get?_push_of_some
def y_:=@List.getElem?_eq_getElem
def zc:=@List.mem_singleton
def zd:=@PySem.wpAny_pure
def ze:=@Array.length_toList
def zf:=@List.getElem?_eq_some_iff
def zg:=@PyProof.Rows.wpS_bind
def zh:=@List.append_assoc
def zi:=@List.getD_eq_getElem?_getD
def zj:=@PySem.Heap.get?_push_size
def zk:=@List.length_append
def zl:=@List.length_map
def zm:=@PyProof.Rows.wpS_pure
def zo:=@List.length_take
def zp:=@Bool.false_eq_true
def zr:=@List.mem_append_right
def zt:=@List.mem_cons
def zu:=@Nat.le_refl
def zv:=@List.not_mem_nil
def zw:=@PySem.Heap.lt_size
def zx:=@decide_eq_true
def zy:=@PySem.wpAny_setField_rec
def zA:=@PySem.W.mg_none_of
def zB:=@List.take_of_length_le
def zC:=@decide_eq_false
def zF:=@PySem.wpAny_field
def zG:=@List.getElem?_append_right
def zH:=@List.getElem?_map
def zI:=@List.take_append_drop
def zJ:=@List.mem_append_left
def zK:=@List.mem_map
def zL:=@List.getElem_mem
def zM:=@Array.getElem?_eq_some_iff
def zN:=@List.mem_append
def zO:=@List.mem_of_getElem?
def zP:=@List.mem_cons_self
def zQ:=@List.length_range
def zR:=@PySem.wpAny_seqItems
def zT:=@List.map_append
def zU:=@PySem.Heap.size_push
def zW:=@PySem.boot_len
def zX:=@Array.getElem?_toList
def zY:=@PySem.wpAny_holding
def zZ:=@List.take_add_one
def z3:=@Nat.ne_of_lt
def z9:=@PyProof.Rows.wpS_forRange
def z_:=@List.take_length
def Ab:=@PySem.wpAny_updateSeq_pair
def Ac:=@List.mem_cons_of_mem
def Ad:=@Nat.lt_of_lt_of_le
def Ae:=@List.getElem?_drop
def Af:=@Option.some.inj
def Ag:=@PySem.PassesOwn.never
def Ah:=@List.size_toArray
def Ai:=@PySem.wpAny_callSpecial?_slot
def Aj:=@List.getElem?_of_mem
def Ak:=@List.map_map
def Al:=@PySem.Heap.get?_update_other
def Am:=@PySem.F.plainAttrs_str
def An:=@trivial
def Ao:=@Array.getElem?_eq_getElem
def Ap:=@PyProof.Rows.KeyOrd.kle_refl
def Aq:=@List.getElem?_append_left
def Ar:=@List.length_cons
def As:=@PySem.wpAny_call_entry
def Au:=@List.getElem?_range
def Av:=@PySem.Heap.get?_update_self
def Aw:=@or_false
def Ax:=@PyProof.Rows.callWith_type1
def Ay:=@List.forIn_cons
def Az:=@PySem.wpAny_onRaise
def AA:=@List.append_nil
def AB:=@PySem.wpAny_rule
def AC:=@Array.toList_extract
def AD:=@List.mem_of_mem_take
def AE:=@if_false
def AF:=@Int.toNat_natCast
def AG:=@Nat.zero_le
def AH:=@PySem.wpAny_loadPart_at
def AI:=@List.forIn_nil
def AJ:=@List.Perm.append_left
def AK:=@List.mem_of_mem_drop
def AL:=@Nat.lt_irrefl
def AM:=@PyProof.Rows.wpS_mono
def AN:=@Nat.ne_of_gt
def AO:=@List.mem_range
def AQ:=@PyProof.Rows.F.plain_set_update_loop
def AR:=@PySem.F.slot_zip_next
def AS:=@List.idxOf_lt_length_of_mem
def AU:=@PySem.codeAny_builtin
def AV:=@List.map_congr_left
def AW:=@PySem.F.slot_tuple_iterator_next
def AX:=@Array.perm_iff_toList_perm
def AY:=@List.all_eq_true
def AZ:=@List.zipIdx_cons
def A0:=@List.map_cons
def A2:=@PySem.Obj.isFreed_of_fields
def A3:=@PySem.Obj.data_mapFields
def A4:=@List.perm_append_comm
def A5:=@List.getElem?_take
def A6:=@List.length_singleton
def A7:=@PySem.Around.under_plainId
def A8:=@Array.toList_push
def A9:=@List.getElem?_take_of_lt
def A_:=@List.flatten_cons
def Ba:=@decide_eq_true_eq
def Bb:=@PySem.wpAny_letGo
def Bc:=@Nat.add_sub_cancel_left
def Bd:=@List.flatten_append
def Be:=@PyProof.Rows.KeyOrd.kle_trans
def Bf:=@if_true
def Bg:=@List.pairwise_cons
def Bh:=@List.zipIdx_nil
def Bi:=@PyProof.Rows.KeyOrd.kle_of_klt
def Bj:=@List.nodup_append
def Bk:=@Bool.true_and
def Bl:=@PySem.W.mg_of
def Bm:=@PySem.wpAny_setField
def Bn:=@PySem.wpAny_newTuple
def Bo:=@List.pairwise_iff_getElem
def Bp:=@List.drop_eq_getElem_cons
def Bq:=@PyProof.Rows.F.entry_set_update_loop
def Br:=@Nat.le_add_right
def Bs:=@List.nodup_range
def Bu:=@PySem.sizeLine_eq
def Bv:=@PySem.Heap.SameBut.update
def Bw:=@Nat.le_trans
def Bx:=@PyProof.Rows.wpS_modify
def By:=@Bool.false_ne_true
def Bz:=@PySem.wpAny_pyIter_tuple
def BA:=@PySem.wpAny_attempt
def BB:=@PyProof.Rows.KK_mirror_equal
def BC:=@PySem.Code.quiet_builtin
def BD:=@List.forIn_toArray
def BE:=@Int.emod_lt_of_pos
def BF:=@List.Perm.append_right
def BG:=@List.drop_of_length_le
def BH:=@List.flatten_singleton
def BI:=@PySem.wpAny_pyIter_list
def BJ:=@PySem.wpAny_newObj_type
def BK:=@PySem.wpAny_pyIter_enum
def BL:=@PySem.F.args_zip_next_1
def BM:=@PySem.plainObj_wpAny_Assign_Attribute
def BN:=@List.all_map
def BO:=@Nat.zero_add
def BP:=@List.getElem?_eq_none
def BQ:=@List.length_filter_le
def BR:=@PySem.F.entry_zip_next
def BS:=@List.eq_nil_of_length_eq_zero
def BU:=@List.length_drop
def BV:=@PySem.W.looks_findIn
def BW:=@PySem.codeAny_call_builtin
def BX:=@PySem.wpAny_newList
def BY:=@PySem.F.args_tuple_iterator_next_1
def BZ:=@Bool.not_true
def B0:=@List.length_nil
def B2:=@Nat.le_succ
def B3:=@PySem.F.entry_tuple_iterator_next
def B4:=@Array.toList_append
def B5:=@PySem.wpAny_isSubtype_exc
def B6:=@List.nodup_cons
def B7:=@List.length_zip
def B8:=@Int.emod_nonneg
def B9:=@Array.toList_setIfInBounds
def B_:=@PySem.F.excBase_ValueError
def Ca:=@PySem.codeAny_mono
def Cb:=@decide_eq_true_iff
def Cc:=@Option.toList_some
def Cd:=@PyProof.Rows.wpS_get
def Ce:=@List.Perm.refl
def Cf:=@PySem.Draws.strAscii
def Cg:=@Bool.false_and
def Ci:=@PySem.EqBoolInt.of_rcne
def Cj:=@PySem.Obj.cls_mapFields
def Ck:=@PySem.F.slot_tuple_index
def Cm:=@PySem.F.store_ValueError
def Cn:=@congrArg
def Co:=@List.getLast?_cons_cons
def Cp:=@PySem.plainId_quiet
def Cq:=@List.pairwise_singleton
def Cr:=@List.length_eq_zero_iff
def Cs:=@PyProof.Rows.listUpdate_at
def Ct:=@List.getElem?_cons_succ
def Cu:=@List.getElem?_cons_zero
def Cv:=@PySem.wpAny_isInstance
def Cw:=@PySem.wpAny_pyIter_zip
def Cy:=@List.range'_succ
def Cz:=@beq_self_eq_true
def CA:=@List.map_fst_zip
def CB:=@decide_eq_decide
def CC:=@PySem.F.slot_str_upper
def CD:=@PySem.F.type_str_upper
def CF:=@PySem.F.slot_str_lower
def CG:=@PySem.F.type_str_lower
def CH:=@PySem.codeAny_of_tree
def CI:=@Array.Perm.refl
def CJ:=@Nat.sub_self
def CK:=@Nat.le_of_eq
def CL:=@PyProof.Rows.wpS_lift
def CM:=@PySem.isSubtype_stop
def CN:=@List.take_zero
def CO:=@List.all_cons
def CP:=@Nat.add_assoc
def CQ:=@Bool.and_true
def CS:=@PySem.wpAny_mono
def CU:=@PySem.wpAny_call
def CV:=@PySem.Draws.list
def CW:=@List.map_nil
def CY:=@getElem?_pos
def CZ:=@Bool.or_true
namespace Kx
open PySem PySem.Spec PyProof.Rows L2 Wd
theorem hG:bootBuiltins "list" = some (.type "list"):=by kernel_rfl
theorem sj:bootBuiltins "int" = some (.type "int"):=by kernel_rfl
theorem w_:bootBuiltins "max" = some (.builtin "max"):=by kernel_rfl
theorem jM:bootBuiltins "sorted" = some (.builtin "sorted"):=by kernel_rfl
theorem cg:bootBuiltins "tuple" = some (.type "tuple"):=by kernel_rfl
theorem aM:bootBuiltins "isinstance" = some (.builtin "isinstance"):=by kernel_rfl
theorem u6:bootBuiltins "all" = some (.builtin "all"):=by kernel_rfl
theorem u7:bootBuiltins "zip" = some (.type "zip"):=by kernel_rfl
theorem kG:bootBuiltins "reversed" = some (.type "reversed"):=by kernel_rfl
structure Bt (K:PySem.W.Frag) (w:World) (mg:Str→Option Value) (aB:Addr):Prop where
 len:mg "len" = none
 repr:mg "repr" = none
 abs:mg "abs" = none
 max:mg "max" = none
 int:mg "int" = none
 list:mg "list" = none
 range:mg "range" = none
 reversed:mg "reversed" = none
 min:mg "min" = none
 sorted:mg "sorted" = none
 tuple:mg "tuple" = none
 isinstance:mg "isinstance" = none
 all:mg "all" = none
 str:mg "str" = none
 zip:mg "zip" = none
 mgB:mg "BACKS" = some (.ref aB)
 dB:DTx K w aB
 gB:∀ x:L,∃ t,PySem.W.nsIn K aB (toS [x])=some (some (.str (toS [inv x]) t))
theorem dg {H:Hp}{d:Addr}{kvs:List (Key × V)}{k:Str}{v:V}(h:H d=some (.dK kvs))(e:bO kvs (kS k)=some v):gw H d (.str k) (some v):=by
 have q:=gw.k (k:=kS k) h
 rw [e] at q
 exact q
theorem dp {H:Hp}{d:Addr}{kvs kvs':List (Key × V)}{k:Str}{v:V}(h:H d=some (.dK kvs))(hl:kvs.length < sizeLine)(e:bo kvs (kS k) v=kvs'):oz H d (.str k) v (upd H d (.dK kvs')):=by
 have q:=oz.k (k:=kS k) (v:=v) h hl
 rw [e] at q
 exact q
theorem xf {ns:List Int}(h:ns.length≤63):uc (ns.map V.int) none (some 63)=ns.map V.int:=by
 unfold uc
 have e:HT.sIx (ns.map V.int).length (ns.map V.int).length (some 63)=(ns.map V.int).length:=by
  have:=HT.iW (ns.map V.int).length (ns.map V.int).length 63
  rw [show ((63:Nat):Int)=63 from rfl] at this
  rw [this,zl]
  omega
 rw [e,HT.fD,List.drop_zero,Nat.sub_zero,z_]
def pF (w:List L):List V:=w.map fun x=>tx [x]
theorem jN (w:List L):pF w=(w.map fun x=>toS [x]).map V.str:=by unfold pF; rw [Ak]; rfl
theorem hJ (w:List L)(x:L):pF w++[tx [x]]=pF (w++[x]):=by unfold pF; rw [zT]; rfl
theorem eE (w:List L):(pF w).length=w.length:=by unfold pF; rw [zl]
theorem hU (w:List L):V.str (Txt.join ("":Str) (w.map fun x=>toS [x]))=tx w:=Cn V.str (pE w)
theorem hX (w:List L)(h:w.length≤1000000):((w.map fun x=>toS [x]).map (·.length)).sum+(w.map fun x=>toS [x]).length*("":Str).length≤16777216:=by
 have e:("":Str).length=0:=by decide +kernel
 rw [e,sh]
 omega
theorem bj:sizeLine=16777216:=Bu
inductive sk (vs:List V)(H:Hp)(Q:VK)(u3_:XK):Prop
 | mk:∀ w,(vs=[tx w])→(w.length≤5000)→(∀ H',az H H'→Q (tx (bk w)) H')→sk vs H Q u3_
inductive sq (vs:List V)(H:Hp)(Q:VK)(u3_:XK):Prop
 | mk:∀ w,(vs=[tx w])→(w.length≤5000)→(∀ H',az H H'→Q (tx (red w)) H')→sq vs H Q u3_
theorem dF (u v:List L):V.str (toS u++toS v)=tx (u++v):=Cn V.str (cq u v)
def sg (m:Int):List L:=([0,1,2,3,4,5]:List L).take m.toNat++([6,7,8,9,10,11]:List L).take m.toNat
theorem hZ {m:Int}(h1:1≤m)(h2:m≤6):(sg m).length=2*m.toNat:=by
 unfold sg
 rw [zk,zo,zo]
 simp only [Ar,B0]
 omega
theorem pG {m:Int}(h1:1≤m):V.str (Txt.slice ("abcdef":Str) none (some m)++Txt.slice ("ABCDEF":Str) none (some m))=tx (sg m):=by
 rw [← pD,← big,aV,aV,gX _ (by omega),gX _ (by omega),dF]
 rfl
theorem mM:("abcdef":Str).length=6:=by decide +kernel
theorem qU:("ABCDEF":Str).length=6:=by decide +kernel
theorem u9 (u:List L){i:Nat}{y:L}(hi:i < u.length)(h:u[u.length - 1 - i]? = some y):(bk u)[i]? = some (inv y):=by
 unfold bk
 rw [List.getElem?_reverse (by rw [zl];exact hi),zl,zH,h]
 rfl
theorem cj {u:List L}{i:Nat}{x:L}(h:u[i]? = some x):u.take (i+1)=u.take i++[x]:=by
 obtain ⟨hl,e⟩:=zf.mp h
 rw [zZ,h]
 rfl
theorem iM {c:Bool}{A B:Prop}(hc:c=true)(h:A):if c=true then A else B:=by rw [if_pos hc]; exact h
theorem dH {c:Bool}{A B:Prop}(hc:c=false)(h:B):if c=true then A else B:=by rw [hc]; exact oA h
theorem sm6:∀ j:Fin 6,([0,1,2,3,4,5]:List L)[j.val]? = some ⟨j.val,Nat.lt_trans j.isLt (by decide)⟩:=by decide
end Kx
namespace Wd
def J (u v:List L):Prop:=∀ x y,u.getLast? = some x→v.head? = some y→y≠inv x
theorem h7:∀ (u v:List L),Rd (u++v) ↔ Rd u∧Rd v∧J u v
 | [],v=>by
  constructor
  ·intro h
   exact ⟨An,h,fun x y hx=>by simp at hx⟩
  ·intro h
   exact h.2.1
 | [x],[]=>by
  constructor
  ·intro h
   exact ⟨An,An,fun x y _ hy=>by simp at hy⟩
  ·intro _
   exact An
 | [x],y::v=>by
  constructor
  ·intro h
   refine ⟨An,h.2,fun a b ha hb=>?_⟩
   have ha:x=a:=by simpa using ha
   have hb:y=b:=by simpa using hb
   subst ha hb
   exact h.1
  ·intro h
   exact ⟨h.2.2 x y rfl rfl,h.2.1⟩
 | x::y::u,v=>by
  have ih:=h7 (y::u) v
  constructor
  ·intro h
   have h2:=ih.mp h.2
   refine ⟨⟨h.1,h2.1⟩,h2.2.1,fun a b ha hb=>h2.2.2 a b ?_ hb⟩
   rw [Co] at ha
   exact ha
  ·intro h
   refine ⟨h.1.1,ih.mpr ⟨h.1.2,h.2.1,fun a b ha hb=>h.2.2 a b ?_ hb⟩⟩
   rw [Co]
   exact ha
theorem u_ {x y:L}(h:y=inv x):x=inv y:=by rw [h,df]
theorem qV:∀ {w:List L},Rd w→Rd w.reverse
 | [],_=>An
 | x::w,h=>by
  rw [List.reverse_cons,h7]
  refine ⟨qV h.tail,An,fun a b ha hb=>?_⟩
  have hb:x=b:=by simpa using hb
  subst hb
  cases w with
  | nil=>simp at ha
  | cons y w =>
   have ha:y=a:=by simpa using ha
   subst ha
   intro e
   exact h.1 (u_ e)
theorem va (w:List L):Rd (red w):=qV (mx w mz)
end Wd
namespace L2
open PySem PySem.Spec PyProof.Rows Wd
end L2
namespace Wd
end Wd
namespace L2
open PySem PySem.Spec PyProof.Rows Wd
section
variable {X:Cx} {tg:Expr}
end
section
variable {X:Cx} {o e:Expr} {es:List Expr} {to:TE} {t:TA} {name:Str} {apos cpos:Pos} {T id:String} {r:V→List V→Hp→VK→Prop} {K:PySem.W.Frag}
end
theorem jO:∀ {bs:List Bool} {us:List Value} {i:Nat} {v:Value},aY (bs.map V.bl) us→us[i]? = some v→∃ b,bs[i]? = some b∧v = .bool b
 | [],us,i,v,r,h=>by
  rw [CW] at r
  cases r
  simp at h
 | b::bs,us,i,v,r,h=>by
  rw [A0] at r
  cases r with
  | cons r1 r2 =>
   cases i with
   | zero =>
    simp at h
    subst h
    exact ⟨b,rfl,r1⟩
   | succ i =>
    obtain ⟨b',e1,e2⟩:=jO (i:=i) r2 (by simpa using h)
    exact ⟨b',by simpa using e1,e2⟩
theorem jP:∀ bs:List Bool,((List.range bs.length).all fun i=>bs.getD i true)=bs.all id
 | []=>rfl
 | b::bs=>by
  rw [Ar,List.range_succ_eq_map,CO,BN,CO]
  have ih:=jP bs
  show (b && (List.range bs.length).all fun i=>(b::bs).getD (i+1) true)=_
  have e:(fun i=>(b::bs).getD (i+1) true)=fun i=>bs.getD i true:=by funext i;simp
  rw [e,ih]
  rfl
section
variable {X:Cx}
inductive yd (K:PySem.W.Frag)(xs:List V)(H:Hp)(Q:VK):Prop
 | mk:∀ (l:Addr) (bs:List Bool),(xs=[.ref l])→(SqL K H l (bs.map V.bl))→(Q (.bl (bs.all id)) H)→yd K xs H Q
theorem cB (hc:X.calm=true):b8 X (.builtin "all") (yd X.K):=by
 intro pins s σ H xs us Q I r h
 obtain ⟨l,bs,rfl,hq,q⟩:=h
 obtain ⟨u,rfl,ru⟩:=bW r
 cases ru
 obtain ⟨its,rv,pl,_⟩:=I.list hq
 have hl:=pl.isList
 have hlen:its.length=bs.length:=by rw [← rv.length,zl]
 have hlt:l < s.heap.objs.size:=by obtain ⟨_,e,_⟩:=hl;exact zw e
 refine call_all_walk (BI hl ?_)
 refine ⟨_,_,_,_,_,_,fun i=>bs.getD i true,rfl,Walks.list (A:=X.A.in1) (I.ok.hd hc) _ l (z3 hlt) its.toArray,⟨⟨_,zj _ rfl,rfl,rfl⟩,hl.push _⟩,?_,fun h' tk hk=>?_⟩
 ·intro i v s' Q' E' hP hQ'
  have hP:its[i]? = some v:=by simpa using hP
  obtain ⟨b,hb,e⟩:=jO rv hP
  subst e
  have:bs.getD i true=b:=by rw [zi,hb];rfl
  have hQ':Q' (bs.getD i true) s':=hQ'
  rw [this] at hQ'
  exact wpAny_truthy_bool hQ'
 ·have old:∀ b o,s.heap.get? b=some o→h'.get? b=some o:=fun b o e=>hk b o (fun z=>by rw [zc.mp z] at e;exact absurd (zw e) (AL _)) (y9 _ e)
  refine ⟨.bl _,H,I.kept old,rfl,?_⟩
  have e:((List.range its.toArray.size).all fun i=>bs.getD i true)=bs.all id:=by
   rw [Ah,hlen]
   exact jP bs
  rw [e]
  exact q
inductive bT (K:PySem.W.Frag)(xs:List V)(H:Hp)(Q:VK):Prop
 | mk:∀ x t b n,(xs=[x,.ty n])→(fC K H x t)→(PySem.W.kitOne K t (.type n)=some b)→(Q (.bl b) H)→bT K xs H Q
theorem i7:b8 X (.builtin "isinstance") (bT X.K):=by
 intro pins s σ H xs us Q I r h
 obtain ⟨x,t,b,n,rfl,ty,e,q⟩:=h
 obtain ⟨u,u2,rfl,rx,r2⟩:=o7 r
 cases r2
 exact lK I rx ty e fun tk=>⟨.bl b,H,I.tok _,rfl,q⟩
inductive qW (x:V)(vs:List V)(H:Hp)(Q:VK):Prop
 | mk:∀ z y i rest,(x = .str z)→(vs=[.str y])→(Builtin.Str.occurrences z y 0 z.length 1=i::rest)→(Q (.int (i:Nat)) H)→qW x vs H Q
theorem pH:MtR X "str.index" qW:=by
 intro pins s σ H x vs v us Q I rx rv h
 obtain ⟨z,y,i,rest,rfl,rfl,ho,q⟩:=h
 obtain ⟨t,rfl⟩:=rx
 obtain ⟨u1,rfl,⟨t1,rfl⟩⟩:=bW rv
 exact SC.index ho ⟨.int _,H,I.tok _,⟨_,rfl⟩,q⟩
def yP (z:Str):List V:=z.cps.toList.map fun c=>.str ⟨#[c]⟩
end
end L2
namespace PySem
open Sem (wp)
structure Ap5 (z TI TO i1 i2:Addr):Prop where
 TIz:TI≠z
 TOz:TO≠z
 i1z:i1≠z
 i2z:i2≠z
 TITO:TI≠TO
 TIi1:TI≠i1
 TIi2:TI≠i2
 TOi1:TO≠i1
 TOi2:TO≠i2
 i12:i1≠i2
abbrev ue (h:Heap)(i:Addr)(x:Str)(t:Tok)(k:Nat):Prop:=h.IsStrIter i "str_ascii_iterator" x t k
section
variable {prog:Program} {w:World} {A:Around} {E:Value→Shared→Prop} {s:Shared} {z TI TO i1 i2:Addr} {x y:Str} {t u:Tok} {k c d:Nat} {a b:Value}
end
end PySem
namespace PySem
end PySem
namespace L2
open PySem PySem.Spec PyProof.Rows
theorem Inv.stepT {X:Cx}{pins:List (Addr × Obj)}{σ:St}{H:Hp}{s:Shared}{h':Heap}{t':Nat}{ch:List Addr}{T:Addr}{xs:List V}{its:List Value}(I:Inv X pins σ H s)(hf:∀ b∈ch,jz X pins H b)
  (k:∀ b o,b∉ch→s.heap.get? b=some o→h'.get? b=some o) (hT:s.heap.objs.size≤T) (hz:xs.length≤sizeLine) (rv:aY xs its) (ht:IsTup h' T its.toArray) (hnd:NoD h' T) (there:∀ b∈ch,∃ o,s.heap.get? b=some o):Inv X pins σ (upd H T (.tup xs)) { s with heap:=h',toks:=t' }:=by
 have hn:H T=none:=I.hok.fresh hT
 have ne:∀ {b o},s.heap.get? b=some o→b≠T:=fun e=>z3 (Ad (zw e) hT)
 have nch:∀ {b u},H b=some u→b∉ch:=fun e z=>by rw [(hf _ z).1] at e;cases e
 refine I.step (g':=s.gens) (d':=s.drawn) (ch:=ch) (fun b hb=>?_) (fun b o _ _ hc e _=>k b o hc e) (fun b o _ _ hc e _=>⟨o.slots,k b o hc e⟩) (fun b o _ e n=>by rw [aq (ne e)];exact n) (fun b o hc e=>⟨o,k b o hc e⟩)
  (fun b ys e=>by rw [aq (ao e hn)];exact e) (fun b o u e=>by rw [aq (ao e hn)];exact e) (fun b ps e=>⟨#[],by rw [aq (ao e hn),e];simp⟩) (fun m hm=>?_) (fun b u e=>?_) I.bare
 ·obtain ⟨_,f1,_,f3,f4,f5⟩:=hf b hb
  exact ⟨f3,f1,f4,f5⟩
 ·obtain ⟨o,es,ep,ho,r⟩:=hm
  exact ⟨o,es,ep,k _ o (fun z=>(hf _ z).2.1 rfl) ho,r⟩
 ·by_cases hb:b=T
  ·subst hb
   rw [ae] at e
   cases e
   exact ⟨hz,its,rv,ht,hnd⟩
  ·rw [aq hb] at e
   refine (I.hok b u e).stay (fun c v hc q=>k c v ?_ q) (fun c q=>by rw [aq (ao q hn)];exact q) fun c ys q=>by rw [aq (ao q hn)];exact q
   rcases hc with z | z
   ·rw [z];exact nch e
   ·exact nch z
section
variable {X:Cx}
theorem qX (n:Nat):Ap5 (n+4) (n+2) (n+3) n (n+1):=by
 constructor <;> (intro h;have h:(_:Nat)=_:=h;omega)
end
end L2
namespace L2
open PySem PySem.Spec PyProof.Rows Wd
theorem br {X:Cx}{K:PySem.W.Frag}(hK:X.K=K):b8 X (.builtin "isinstance") (bT K):=by
 subst hK
 exact i7
theorem fC.same {K:PySem.W.Frag}{H H':Hp}{x:V}{t:Value}(s:az H H')(h:fC K H x t)(hc:∀ C,t ≠ .ref C):fC K H' x t:=by
 cases h with
 | non=>exact .non
 | bl x=>exact .bl x
 | int x=>exact .int x
 | str x=>exact .str x
 | flt x=>exact .flt x
 | lst e=>exact .lst (s _ _ e)
 | frz e=>exact .frz (s _ _ e)
 | tup e=>exact .tup (s _ _ e)
 | dK e=>exact .dK (s _ _ e)
 | dT e=>exact .dT (s _ _ e)
 | _=>exact absurd rfl (hc _)
def xg:List Str:=([0,1,2,3,4,5,6,7,8,9,10,11]:List L).map fun x=>toS [x]
end L2
namespace Kx
open PySem PySem.Spec PyProof.Rows L2 Wd
theorem asc (u:List L):(toS u).cps.all (· < 128)=true:=by
 rw [← Array.all_toList,cf,AY]
 intro c hc
 obtain ⟨x,_,rfl⟩:=zK.mp hc
 exact zx (r_ x)
theorem su:∀ {st:List L},Rd st→∀ i x y,st[i]? = some x→st[i+1]? = some y→y≠inv x
 | [],_,i,x,y,h,_=>by simp at h
 | [a],_,i,x,y,_,h=>by simp at h
 | a::b::r,h,i,x,y,h1,h2=>by
  cases i with
  | zero =>
   simp at h1 h2
   subst h1 h2
   exact fun e=>h.1 (by first | exact e | rw [e,df] | exact e.symm)
  | succ i=>exact su h.tail i x y (by simpa using h1) (by simpa using h2)
end Kx
namespace L2
open PySem PySem.Spec PyProof.Rows Wd
section
variable {X:Cx}
inductive qY (x:V)(y:V)(H:Hp)(Q:VK):Prop
 | mk:∀ a b xs,(x = .ref a)→(y = .ref b)→(H a=some (.lst xs))→(H b=some (.lst []))→(Q (.bl (!xs.isEmpty)) H)→qY x y H Q
theorem mN (hu:X.A.units+64 < cLine):OpR X (compareOp .NotEq) qY:=by
 intro pins s σ H x y v u Q I rx ry h
 obtain ⟨a,b,xs,rfl,rfl,ha,hb,q⟩:=h
 cases rx
 cases ry
 obtain ⟨its,n,rv,ea,_⟩:=I.lst ha
 obtain ⟨its2,n2,rv2,eb,_⟩:=I.lst hb
 cases rv2
 have hla:s.heap.IsList a its.toArray:=⟨_,ea,rfl,_,rfl⟩
 have hlb:s.heap.IsList b ([]:List Value).toArray:=⟨_,eb,rfl,_,rfl⟩
 cases xs with
 | nil =>
  cases rv
  refine Ci (SeqAt.RcNeAt.lists (e:=fun _=>true) hla hlb rfl (by omega) (fun j hj=>by simp at hj)) ?_
  exact ⟨.bl false,H,I,rfl,q⟩
 | cons z r =>
  cases rv with
  | cons r1 r2 =>
   refine Ci (SeqAt.RcNeAt.lists_lengths hla hlb (by simp) (by omega)) ?_
   exact ⟨.bl true,H,I,rfl,q⟩
end
theorem dO {K:PySem.W.Frag}:PySem.W.kitOne K (.type "tuple") (.type "tuple")=some true:=by unfold PySem.W.kitOne; rw [if_pos (by rfl)]
end L2
namespace Kx
open PySem PySem.Spec PyProof.Rows L2 Wd
end Kx
namespace L2
open PySem PySem.Spec PyProof.Rows Wd
theorem dP {K:PySem.W.Frag}{a:Addr}{xs:List V}{own:List Str}{cap:List Nat}{g:TG}{ti:TT}{te:TE}{σ:St}{H:Hp}{Q:VK}(Pv:Nat→List V→St→Hp→Prop)(h0:Pv 0 [] (stB own cap σ) H)(hz:∀ i ys σ H,i≤xs.length→Pv i ys σ H→ys.length≤i)(hn:xs.length≤sizeLine)
  (hl:∀ i ys σ H,Pv i ys σ H→SqT K H a xs)
  (hs:∀ i ys σ H x (N:List V→St→Hp→Prop),xs[i]? = some x→Pv i ys σ H→(∀ ys' σ' H'',Pv (i+1) ys' σ' H''→N ys' σ' H'')→g x σ H fun σ2 H2=>ti σ2 H2 fun b H3=>if b=true then te σ2 H3 fun y H4=>N (ys++[y]) σ2 H4 else N ys σ2 H3)
  (hd:∀ ys σ H D,Pv xs.length ys σ H→H D=none→Q (.ref D) (upd H D (.lst ys))) :
  px own cap g ti te Q σ (Itt K a) H:=by
 refine c_ (J:=Itt K a) xs.length Pv h0 hz hn (fun i ys σ H hi p=>⟨xs,xs[i],hl i ys σ H p,y_ hi⟩) (fun ys σ H p=>⟨xs,hl _ ys σ H p,zu _⟩) ?_ hd
 rintro i ys σ H x H' N hi p ⟨rfl,hx⟩ hN
 exact hs i ys σ _ x N (hx xs (hl i ys σ _ p)) p hN
theorem eF {K:PySem.W.Frag}{a:Addr}{xs:List V}{own:List Str}{cap:List Nat}{g:TG}{ti:TT}{te:TE}{σ:St}{H:Hp}{Q:VK}(Pv:Nat→List V→St→Hp→Prop)(h0:Pv 0 [] (stB own cap σ) H)(hz:∀ i ys σ H,i≤xs.length→Pv i ys σ H→ys.length≤i)(hn:xs.length≤sizeLine)
  (hl:∀ i ys σ H,Pv i ys σ H→SqL K H a xs)
  (hs:∀ i ys σ H x (N:List V→St→Hp→Prop),xs[i]? = some x→Pv i ys σ H→(∀ ys' σ' H'',Pv (i+1) ys' σ' H''→N ys' σ' H'')→g x σ H fun σ2 H2=>ti σ2 H2 fun b H3=>if b=true then te σ2 H3 fun y H4=>N (ys++[y]) σ2 H4 else N ys σ2 H3)
  (hd:∀ ys σ H D,Pv xs.length ys σ H→H D=none→Q (.ref D) (upd H D (.lst ys))) :
  px own cap g ti te Q σ (Itl K a) H:=by
 refine c_ (J:=Itl K a) xs.length Pv h0 hz hn (fun i ys σ H hi p=>⟨xs,xs[i],hl i ys σ H p,y_ hi⟩) (fun ys σ H p=>⟨xs,hl _ ys σ H p,zu _⟩) ?_ hd
 rintro i ys σ H x H' N hi p ⟨rfl,hx⟩ hN
 exact hs i ys σ _ x N (hx xs (hl i ys σ _ p)) p hN
theorem pI {α β:Type}{xs:List α}{i:Nat}{x:α}(f:α→β)(h:xs[i]? = some x):(xs.take (i+1)).map f=(xs.take i).map f++[f x]:=by
 rw [zZ,h,zT]
 rfl
theorem vb {X:Cx}{a:Expr}{ta:TE}(ha:PE X a ta)(he:∀ whole,isTrue a X.env whole=(do let v ← whole; standAt a.pos; holding [v] (truthy v))):PT X a (rH ta):=by
 intro pins s σ H Q I h
 refine isTrue_plain (thn (ha pins s σ H _ I h) fun v s1 ⟨x,H1,I1,r1,q1⟩=>qL pins s1 σ H1 x v Q I1 r1 ?_) (he _)
 obtain ⟨k,e,q⟩:=q1
 subst e
 exact ⟨k,rfl,q⟩
theorem none_of {H H1:Hp}{a:Addr}(s:az H H1)(h:H1 a=none):H a=none:=by
 cases e:H a with
 | none=>rfl
 | some o=>rw [s _ _ e] at h;cases h
end L2
namespace L2
open PySem PySem.Spec PyProof.Rows
theorem sv {X:Cx}{i:Nat}{y:Str}{py spos:Pos}{elt iter tg:Expr}{ifs:List Expr}{scope:Scope}{pos:Pos}{NB own:List Str}{cap:List Nat}{wi:TI}{g:TG}{ti:TT}{te:TE}(hN:X.N.Nodup)(hi0:X.N[i]? = some y)(hx:Loc X.env.scope y)(B:Blk X scope NB own cap)(hc:X.calm=true)(hi:PI X tg iter wi)
  (hg:∀ C fp s₀ H₀,PG (cxB X NB own scope C fp s₀ H₀) tg g) (ht:∀ C fp s₀ H₀,PIf (cxB X NB own scope C fp s₀ H₀) ifs ti) (he:∀ C fp s₀ H₀,PE (cxB X NB own scope C fp s₀ H₀) elt te)
  (hs:∀ x,foldedSetIterable iter X.env x=pure x:=by intro _;rfl) (hsw:swapsWith (.ListComp elt [⟨tg,iter,ifs,0⟩] scope pos) (some (.Name y py)) spos.line X.env=pure true:=by rfl) (hf:X.fn y=true ∨ X.env.scope.names.lookup y=some .local:=by first | exact .inl rfl | exact .inr rfl | assumption):PS X (.Assign [.Name y py] (.ListComp elt [⟨tg,iter,ifs,0⟩] scope pos) spos) (wC (uX own cap wi g ti te) (oR i)):=by
 intro pins s σ H DD I0 h
 rw [exec_Assign_Name_used _ _ _ _ hsw]
 refine fu (wpAny_standAt (fu ?_))
 show wpAny _ X.A (do let _ ← comprehension (.ListComp elt [⟨tg,iter,ifs,0⟩] scope pos) scope X.env _ (newList []) false (eval iter X.env) (some (assign (.Name y py) X.env))) _ _ s
 have hclos:=cJ (env:=X.env) (scope:=scope) fun y hy e=>I0.ok.has y.1 (.inl (B.free y hy e))
 refine fu (CS (wpAny_comprehension_free (use:=some (assign (.Name y py) X.env)) (Q:=fun _ s'=>SP X pins DD .next s') rfl hs hclos B.kind B.names (thn (hi pins s σ H _ I0 h) fun v s1 h1=>thn h1 fun itv s2 h2=>?_)) (fun _ s' hq=>zd (zd hq)) fun _ _ e=>e)
 obtain ⟨it,fp,tn,J,H2,rfl,I,T,st2,f2,W,⟨m0,w0⟩,turn⟩:=h2
 refine BX ?_
 refine wpAny_newFunctionEnv B.nocell (by intro y hy;simp at hy) (fun h₁ hns₁ hsb₁=>?_) B.kind
 dsimp only at hns₁ hsb₁ ⊢
 generalize hP:s2.heap.push { cls:=.type "list",dict:=none,data:=.seq ([]:List Value).toArray }=P at hns₁ hsb₁ ⊢
 have hC:P.objs.size=s2.heap.objs.size+1:=by rw [← hP,zU]
 have hDC:s2.heap.objs.size≠P.objs.size:=by rw [hC];exact z3 (Nat.lt_succ_self _)
 have hCle:s2.heap.objs.size≤P.objs.size:=by rw [hC];exact B2 _
 have old:∀ b o,s2.heap.get? b=some o→h₁.get? b=some o:=fun b o e=>by
  refine (hsb₁.2 b ?_).trans (y9 _ (hP ▸ y9 _ e))
  exact z3 (Ad (zw e) hCle)
 have hD:h₁.get? s2.heap.objs.size=some { cls:=.type "list",data:=.seq ([]:List Value).toArray 0 }:=by
  refine (hsb₁.2 _ hDC).trans (y9 _ ?_)
  rw [← hP]
  exact zj _ rfl
 have hfs:∀ b∈fp,∃ o,s2.heap.get? b=some o:=fun b hb=>let ⟨o,e,_⟩:=T.obj _ _ st2 b hb;⟨o,e⟩
 have st4:tn 0 h₁:=T.keep _ _ _ st2 fun b _ o e=>old b o e
 generalize htk:s2.toks+([]:List (Str × Value)).length=tk4
 have I4:=B.start (C:=P.objs.size) (tk:=tk4) I f2 hfs hCle old hns₁
 have fOk:∀ {H':Hp} {b:Addr} {ob:Obj},b∈fp→H' b=none→jz (cxB X NB own scope P.objs.size fp s2 H2) [(s2.heap.objs.size,ob)] H' b:=fun {H' b ob} hb hn=>by
  obtain ⟨o,e⟩:=hfs b hb
  refine ⟨hn,(I4.ok.exf b hb).1,I4.ok.exfs b hb,.inl hb,(I4.ok.exf b hb).2,fun p hp=>?_⟩
  have ep:p=(s2.heap.objs.size,ob):=zc.mp (show p∈[(s2.heap.objs.size,ob)] from hp)
  rw [ep]
  exact fun z=>absurd (zw e) (by rw [← z];exact AL _)
 have dnf:s2.heap.objs.size∉frs X.stack:=fun z=>by
  rcases zt.mp (I.stkSub _ z) with z | z
  ·exact absurd I.lt (by rw [← z];exact AL _)
  ·exact I.nofs (zu _) z
 have I3D:∀ {σ3:St} {H3:Hp} {s3:Shared} {its:List Value} {k:Nat},Inv (cxB X NB own scope P.objs.size fp s2 H2) [] σ3 H3 s3→s3.heap.get? s2.heap.objs.size=some { cls:=.type "list",data:=.seq its.toArray k }→H3 s2.heap.objs.size=none →
   Inv (cxB X NB own scope P.objs.size fp s2 H2) [(s2.heap.objs.size,{ cls:=.type "list",data:=.seq its.toArray k })] σ3 H3 s3:=fun I3 e n=>I3.pins_of fun p hp=>by
  have ep:=zc.mp hp
  subst ep
  exact ⟨e,n,hDC,dnf,fun v z=>by cases z⟩
 have ndf:s2.heap.objs.size∉fp:=fun z=>by
  obtain ⟨o,e⟩:=hfs _ z
  exact absurd (zw e) (AL _)
 have nCD:∀ x c,(cxB X NB own scope P.objs.size fp s2 H2).env.cells.lookup x=some c→c≠s2.heap.objs.size:=fun x c e z=>by
  obtain ⟨v,o,ho,_⟩:=I.cell x c (B.cells I.ok e).1
  rw [z] at ho
  exact absurd (zw ho) (AL _)
 have loop:∀ s₃:Shared,s₃ = { s2 with heap:=h₁,toks:=tk4 }→codeAny (model X.prog X.w) X.A (.compLoop (.ListComp elt [⟨tg,iter,ifs,0⟩] scope pos) 0 (.ref it) (.ref s2.heap.objs.size) (cxB X NB own scope P.objs.size fp s2 H2).env)
   (compPost (model X.prog X.w) X.A X.xe (some (assign (.Name y py) X.env)) (fun _ s'=>SP X pins DD .next s') (.ref s2.heap.objs.size) P.objs.size) s₃:=by
  rintro s₃ rfl
  refine gR (fun n s'=>∃ i σB H' ys its k,Inv (cxB X NB own scope P.objs.size fp s2 H2) [] σB H' s'∧tn i s'.heap∧(∀ b∈fp,H' b=none)∧s'.heap.get? s2.heap.objs.size=some { cls:=.type "list",data:=.seq (its:List Value).toArray k }∧aY ys its∧H' s2.heap.objs.size=none∧W i n ys σB H') ?_ m0
   ⟨0,stB own cap σ,H2,[],[],0,I4,st4,fun b hb=>(f2 b hb).1,hD,.nil,I.hok.fresh (zu _),w0⟩
  rintro n s3 ⟨i,σ3,H3,ys,its,k,I3,st3,fr3,hD3,rv,hn3,w3⟩
  rcases turn i n ys σ3 H3 w3 with ⟨stop,hz,q⟩ | ⟨go,hz,step⟩
  ·refine thn (T.done (cxB X NB own scope P.objs.size fp s2 H2) rfl rfl rfl hc i _ s3 σ3 H3 noE (I3D I3 hD3 hn3) (fun b hb=>fOk hb (fr3 b hb)) st3 stop) fun r s4 zq1=>?_
   obtain ⟨hr,I4'⟩:=zq1
   subst hr
   have hD4:s4.heap.get? s2.heap.objs.size=some { cls:=.type "list",data:=.seq (its:List Value).toArray k }:=(I4'.pin (s2.heap.objs.size,_) (zr _ (zc.mpr rfl))).1
   have I5:Inv (cxB X NB own scope P.objs.size fp s2 H2) [] σ3 H3 s4:=I4'.pins_of fun p hp=>absurd (show p∈([]:List (Addr × Obj)) from hp) (by simp)
   obtain ⟨mC,hnC,_⟩:=I5.loc
   have I6:Inv X pins σ (upd H3 s2.heap.objs.size (.lst ys)) s4:=B.done (h'':=s4.heap) I f2 hCle (zu _) hDC I5 hn3 hD4 rv hz ⟨rfl,fun _ _=>rfl⟩
   obtain ⟨oC,es,ep,hoC,hdC,rC⟩:=hnC
   have hCn:(upd H3 s2.heap.objs.size (.lst ys)) P.objs.size=none:=by rw [aq hDC.symm];exact I5.free
   have nL:P.objs.size≠X.env.locals:=fun z=>absurd I.lt (by rw [← z];exact Nat.not_lt.mpr hCle)
   have I7:Inv X (pins++[(P.objs.size,oC)]) σ (upd H3 s2.heap.objs.size (.lst ys)) s4:=I6.pins_of fun p hp=>by
    rcases zN.mp hp with z | z
    ·exact I6.pin p (zr _ z)
    ·have ep:=zc.mp z
     subst ep
     exact ⟨hoC,hCn,nL,I.nofs hCle,fun v z=>by rw [hdC] at z;cases z⟩
   refine thn (aH (pos:=py) hN hi0 hx hf (pins++[(P.objs.size,oC)]) s4 σ _ (.ref s2.heap.objs.size) (.ref s2.heap.objs.size) (fun σ' H'=>DD.nx σ' H'∧H'=upd H3 s2.heap.objs.size (.lst ys)) I7 rfl ⟨q _ hn3,rfl⟩) fun _ s5 zq2=>?_
   obtain ⟨σ5,H5,I8,q5,e5⟩:=zq2
   subst e5
   have pC:=(I8.pin (P.objs.size,oC) (zr _ (zr _ (zc.mpr rfl)))).1
   refine ⟨mC,⟨oC,es,ep,pC,hdC,rC⟩,fun h'' sb=>⟨σ5,_,?_,q5⟩⟩
   have I9:Inv X pins σ5 (upd H3 s2.heap.objs.size (.lst ys)) s5:=I8.pins_of fun p hp=>I8.pin p (zr _ (zJ _ hp))
   refine I9.turned (t':=s5.toks) (it:=P.objs.size) (fun b o hb e=>(sb.2 b hb).trans e) hCn nL (.inr (Bw I.sz hCle)) (fun x c e z=>?_) fun p hp z=>?_
   ·obtain ⟨v,o,ho,_⟩:=I.cell x c e
    exact absurd (zw ho) (by rw [z];exact Nat.not_lt.mpr hCle)
   ·exact absurd (zw (I.pin p hp).1) (by rw [z];exact Nat.not_lt.mpr hCle)
  ·refine thn (T.item (cxB X NB own scope P.objs.size fp s2 H2) rfl rfl rfl hc i _ s3 σ3 H3 noE (I3D I3 hD3 hn3) (fun b hb=>fOk hb (fr3 b hb)) st3 go) fun r s4 zq3=>?_
   obtain ⟨u,hr,h4⟩:=zq3
   subst hr
   refine thn h4 fun _ s5 zq4=>?_
   obtain ⟨x,H5,I5,r5,y5,st5,fr5⟩:=zq4
   have I5':=I5.pinned (fun b hb=>fOk hb (fr5 b hb)) (T.obj _ _ st5)
   refine thn (hg _ fp s2 H2 _ s5 σ3 H5 x u _ I5' r5 (step x H5 y5)) fun _ s6 zq5=>?_
   obtain ⟨σ6,H6,I6,q6⟩:=zq5
   refine thn (ht _ fp s2 H2 _ s6 σ6 H6 _ I6 q6) fun b s7 zq6=>?_
   obtain ⟨H7,I7,q7⟩:=zq6
   have pinned:∀ {σ8:St} {H8:Hp} {s8:Shared},Inv (cxB X NB own scope P.objs.size fp s2 H2) ([(s2.heap.objs.size,{ cls:=.type "list",data:=.seq (its:List Value).toArray k })]++fg fp s5.heap) σ8 H8 s8 →
     tn (i+1) s8.heap∧(∀ b∈fp,H8 b=none)∧s8.heap.get? s2.heap.objs.size=some { cls:=.type "list",data:=.seq (its:List Value).toArray k }∧H8 s2.heap.objs.size=none:=fun {σ8 H8 s8} I8=>by
    refine ⟨T.keep _ _ _ st5 fun b hb o e=>(I8.pin (b,o) (zr _ (zr _ (bz hb e)))).1,fun b hb=>?_,?_,?_⟩
    ·obtain ⟨o,e,d⟩:=T.obj _ _ st5 b hb
     exact (I8.pin (b,o) (zr _ (zr _ (bz hb e)))).2.1
    ·exact (I8.pin (s2.heap.objs.size,_) (zr _ (zJ _ (zc.mpr rfl)))).1
    ·exact (I8.pin (s2.heap.objs.size,_) (zr _ (zJ _ (zc.mpr rfl)))).2.1
   have nopin:∀ {pp:List (Addr × Obj)} {σ8:St} {H8:Hp} {s8:Shared},Inv (cxB X NB own scope P.objs.size fp s2 H2) pp σ8 H8 s8→Inv (cxB X NB own scope P.objs.size fp s2 H2) [] σ8 H8 s8:=fun I8=>I8.pins_of fun p hp=>absurd (show p∈([]:List (Addr × Obj)) from hp) (by simp)
   cases b with
   | false =>
    rw [if_neg By] at q7 ⊢
    obtain ⟨m',hm,w7⟩:=q7
    obtain ⟨p1,p2,p3,p4⟩:=pinned I7
    exact ⟨m',hm,i+1,σ6,H7,ys,its,k,nopin I7,p1,p2,p3,rv,p4,w7⟩
   | true =>
    rw [if_pos rfl] at q7 ⊢
    refine thn (he _ fp s2 H2 _ s7 σ6 H7 _ I7 q7) fun yv s8 zq7=>?_
    obtain ⟨y,H8,I8,r8,m',hm,w8⟩:=zq7
    obtain ⟨p1,p2,p3,p4⟩:=pinned I8
    refine call_meets F.slot_list_append ⟨_,p3,rfl⟩ F.entry_list_append (F.args_list_append_2 _ _) (PySem.list_append s2.heap.objs.size its.toArray k yv (by rw [Ah,← rv.length];omega)) ⟨p3,?_⟩
    have q:=PySem.IsL.update p3 fun a=>a.push yv
    have ea:its.toArray.push yv=(its++[yv]).toArray:=by simp
    rw [ea] at q
    have I9:Inv (cxB X NB own scope P.objs.size fp s2 H2) [] σ6 H8 { s8 with heap:=s8.heap.update s2.heap.objs.size (Obj.mapSeq fun a=>a.push yv),toks:=s8.toks } :=
     (nopin I8).turned (it:=s2.heap.objs.size) (fun b o hb e=>(Al s8.heap _ (Ne.symm hb)).trans e) p4 hDC (.inr (zu _)) (fun x c e=>nCD x c e) fun p hp=>absurd (show p∈([]:List (Addr × Obj)) from hp) (by simp)
    refine ⟨m',hm,i+1,σ6,H8,ys++[y],its++[yv],_,I9,?_,p2,q,rv.append (.cons r8 .nil),p4,w8⟩
    refine T.keep _ _ _ p1 fun b hb o e=>(Al s8.heap _ ?_).trans e
    intro z
    rw [z] at ndf
    exact ndf hb
 exact codeAny_compStart_list (loop _ rfl) (T.self X.A 0 _ _ _ st4 (loop _ rfl))
end L2
namespace L2
open PySem PySem.Spec PyProof.Rows Wd
section
variable {X:Cx}
theorem mO {i o:Expr}{ty td:TE}{pos:Pos}(hu:X.A.units+1 < cLine)(hi:PE X i ty)(ho:PE X o td)(h1:behindInMarks .NotIn o=false):PT X (.Compare i [.NotIn] [o] pos) (tB (lX ty td)):=qH (lY hu hi ho) h1
theorem vc {i o:Expr}{ty td:TE}{pos:Pos}(hu:X.A.units+1 < cLine)(hi:PE X i ty)(ho:PE X o td)(h1:behindInMarks .In o=false):PT X (.Compare i [.In] [o] pos) (tB (x8 ty td)):=qH (uU hu hi ho) h1
end
end L2
namespace L2
open PySem PySem.Spec PyProof.Rows
section
variable {X:Cx}
end
section
variable {prog:Program} {w:World} {A:Around} {E:Value→Shared→Prop} {s:Shared}
end
section
variable {X:Cx}
end
end L2
namespace PySem
open Sem (wp)
open AutoSeq1 (wpAny_loadPart')
set_option maxHeartbeats 1000000 in
theorem mP (tp:Addr)(its:Array Value)(m:Nat)(dc:Option Addr)(sls:Array (Option Value)) :
  Meets (Builtin.«enumerate.__new__» ⟨[.type "enumerate",.ref tp],[]⟩) (fun _ R s=>s.heap.get? tp=some { cls:=.type "tuple",dict:=dc,data:=.seq its m,slots:=sls } ∧
   R (.ok (.ret (.ref (s.heap.push { cls:=.type "tuple_iterator",data:=.fields #[.ref tp,.int 0 0] }).objs.size)))
    { s with heap:=(s.heap.push { cls:=.type "tuple_iterator",data:=.fields #[.ref tp,.int 0 0] }).push { cls:=.type "enumerate",data:=.fields #[.none,.bool false,.ref s.heap.objs.size,rawInt 0,.none,.none] } }) :=
 .of_wp fun prog w A R s h=>by
  obtain ⟨hp,gg,dd,tk,os⟩:=s;obtain ⟨ht,h⟩:=h
  have hsub:=sub_enumerate
  have hT:Heap.IsTuple (Shared.heap ⟨hp,gg,dd,tk,os⟩) tp its:=⟨_,ht,rfl,m,rfl⟩
  wp_walk using wpAny_loadPart' ht
  refine wpAny_stack_any fun stk=>zd ?_
  split
  ·rename_i cc _ _ _ _ _
   cases (cc == Value.type "enumerate")
   ·(wp_walk using wpAny_loadPart' ht,Bz hT);exact ⟨_,rfl,h⟩
   ·(wp_walk using wpAny_loadPart' ht,Bz hT);exact ⟨_,rfl,h⟩
  ·(wp_walk using wpAny_loadPart' ht,Bz hT);exact ⟨_,rfl,h⟩
section
variable {prog:Program} {w:World} {A:Around} {E:Value→Shared→Prop} {s:Shared}
theorem pJ {tp:Addr}{its:Array Value}{Q:Value→Shared→Prop}(hT:s.heap.IsTuple tp its)
  (h:∀ h',IsEnum h' (s.heap.objs.size+1) s.heap.objs.size 0 .none→h'.IsTupleIter s.heap.objs.size tp 0→(∀ b o,s.heap.get? b=some o→h'.get? b=some o)→Q (.ref (s.heap.objs.size+1)) { s with heap:=h' }) :
  wpAny (model prog w) A (call (.type "enumerate") [.ref tp]) Q E s:=by
 obtain ⟨⟨c,dc,dt,sls⟩,ht,hc,m,hd⟩:=hT
 obtain rfl:c = .type "tuple":=hc
 obtain rfl:dt = .seq its m:=hd
 refine callType_new F.called_enumerate (by decide) (F.typeCall_enumerate_1 _) (F.newCall_enumerate_1 _) (fun ob=>F.args_object_init_2 ob _) F.entry_enumerate_new (mP tp its m dc sls) ⟨ht,?_⟩
 have hz:(s.heap.push { cls:=.type "tuple_iterator",data:=.fields #[.ref tp,.int 0 0] }).objs.size=s.heap.objs.size+1:=zU ..
 show _∧_
 rw [hz]
 have he:=zj (s.heap.push { cls:=.type "tuple_iterator",data:=.fields #[.ref tp,.int 0 0] }) (o:={ cls:=.type "enumerate",data:=.fields #[.none,.bool false,.ref s.heap.objs.size,rawInt 0,.none,.none] }) rfl
 rw [hz] at he
 exact ⟨⟨_,he,rfl⟩,h _ he ⟨_,y9 _ (zj _ rfl),rfl,rfl⟩ fun b o q=>y9 _ (y9 _ q)⟩
theorem kH {it tp:Addr}{k:Nat}{its:Array Value}{v:Value}{Q:Value→Shared→Prop}(hit:s.heap.IsTupleIter it tp k)(ht:s.heap.IsTuple tp its)(hv:its[k]? = some v)
  (hQ:∀ h',h'.IsTupleIter it tp (k+1)→Heap.SameBut it s.heap h'→Q v { s with heap:=h' }):wpAny (model prog w) A (Builtin.SmallTypes.nextOf (.ref it)) Q E s:=by
 obtain ⟨oi,gi,ci,di⟩:=id hit
 obtain ⟨ot,gt,_,nt,dt⟩:=ht
 unfold Builtin.SmallTypes.nextOf
 refine fu (Ai (name:=Str.ofString "__next__") hit.typeIs AW (As AW hit.typeIs B3 ?_ (BY _)))
 show wpAny _ _ (field (.ref it) 0 >>= _) _ _ s
 refine fu (zF gi di (x:=.ref tp) rfl ?_)
 show wpAny _ _ (if (Value.ref tp == Value.none)=true then _ else _) _ _ s
 rw [if_neg (show ¬ ((Value.ref tp == Value.none)=true) from By)]
 show wpAny _ _ (field (.ref it) 1 >>= _) _ _ s
 refine fu (zF gi di (x:=.int k 0) rfl ?_)
 show wpAny _ _ (seqItems? (.ref tp) >>= _) _ _ s
 refine fu (zR gt dt ?_)
 simp only [AF,hv]
 refine fu (Bm gi di (by simp) (zd ⟨v,rfl,zd (hQ _ ?_ (Bv ..))⟩))
 exact ⟨_,Av _ gi (A2 (A3 di _)),(Cj ..).trans ci,by rw [A3 di];simp [rawInt]⟩
theorem h8 {it tp:Addr}{k:Nat}{its:Array Value}{Q:Value→Shared→Prop}(hh:A.handled=none)(hit:s.heap.IsTupleIter it tp k)(ht:s.heap.IsTuple tp its)(hv:its[k]? = none)
  (hE:∀ h' e,Heap.ExtBut it s.heap h'→(∃ o,h'.get? e=some o∧o.cls = .type "StopIteration")→E (.ref e) { s with heap:=h' }):wpAny (model prog w) A (Builtin.SmallTypes.nextOf (.ref it)) Q E s:=by
 obtain ⟨oi,gi,ci,di⟩:=id hit
 obtain ⟨ot,gt,_,nt,dt⟩:=ht
 unfold Builtin.SmallTypes.nextOf
 refine fu (Ai (name:=Str.ofString "__next__") hit.typeIs AW (As AW hit.typeIs B3 ?_ (BY _)))
 show wpAny _ _ (field (.ref it) 0 >>= _) _ _ s
 refine fu (zF gi di (x:=.ref tp) rfl ?_)
 show wpAny _ _ (if (Value.ref tp == Value.none)=true then _ else _) _ _ s
 rw [if_neg (show ¬ ((Value.ref tp == Value.none)=true) from By)]
 show wpAny _ _ (field (.ref it) 1 >>= _) _ _ s
 refine fu (zF gi di (x:=.int k 0) rfl ?_)
 show wpAny _ _ (seqItems? (.ref tp) >>= _) _ _ s
 refine fu (zR gt dt ?_)
 simp only [AF,hv]
 refine fu (AB (fu (Bm gi di (by simp) ?_)))
 show wpAny _ _ (newExc (.type "StopIteration") [] >>= _) _ _ _
 refine fu ?_
 simp only [newExc,newTuple]
 refine fu (BJ ?_ (by size_fits))
 refine fu (m:=firstArgMember _ _) (wpAny_of_eq (a:=Value.none) (by first | rfl | (simp only [firstArgMember];rfl)) (BJ ?_ (by size_fits)))
 simp only [raiseNew]
 refine fu (wpAny_handled ?_)
 first | rw [show A.in1.handled=none from hh] | rw [hh]
 exact fu (zd (wpAny_throw (hE _ _ (((Bv ..).extBut.push _).push _) ⟨_,zj _ rfl,rfl⟩)))
theorem mQ {prog:Program}{w:World}{A:Around}(hh:A.handled=none)(it tp:Addr)(hne:tp≠it)(its:Array Value) :
  Draws prog w A it [it,tp] its.size (fun i x=>its[i]? = some x) (fun i h=>h.IsTupleIter it tp i∧h.IsTuple tp its) where
 live:=fun i h st=>let ⟨⟨o,e,_⟩,_⟩:=st;⟨o,e⟩
 frame:=fun i h h' st kk=>⟨st.1.at fun o e=>kk it (by simp) o e,let ⟨o,e,r⟩:=st.2;⟨o,kk tp (by simp) o e,r⟩⟩
 item:=fun i s Q E hi st hQ=>kH st.1 st.2 (Ao hi) fun h' st' sb=>hQ _ h' s.toks (Ao hi) ⟨st',let ⟨o,e,r⟩:=st.2;⟨o,(sb.2 tp hne).trans e,r⟩⟩ sb
 done:=fun s Q E st hE=>h8 hh st.1 st.2 (Array.getElem?_eq_none (zu _)) hE
end
end PySem
namespace L2
open PySem PySem.Spec PyProof.Rows Wd
def uf (K:PySem.W.Frag)(a:Addr):It:=⟨fun i H=>∃ xs x,SqT K H a xs∧xs[i]? = some x,
 fun i H v H'=>∃ (T:Addr) (x:V),H T=none∧v = .ref T∧(∀ xs,SqT K H a xs→xs[i]? = some x)∧H'=upd H T (.tup [.int i,x]),fun i H=>∃ xs,SqT K H a xs∧xs.length≤i⟩
theorem h9 {X:Cx}{pins:List (Addr × Obj)}{σ:St}{H:Hp}{s:Shared}{E:Value→Shared→Prop}{elts:List Expr}{k:Nat}{pos:Pos}{e it:Addr}{fp:List Addr}{n i:Nat}{Pv:Nat→Value→Prop}{St':Nat→Heap→Prop}{old:Value}{tn:Nat→Heap→Prop}{Y:V→Hp→Prop}{x:V}
  (D:Draws X.prog X.w X.A.in1 it fp n Pv St') (I:Inv X pins σ H s) (hf:∀ b∈[e,it],jz X pins H b) (he:IsEnum s.heap e it i old) (hst:St' i s.heap) (hi:i < n) (hne:e≠it) (hef:e∉fp) (hrel:∀ u,Pv i u→bc x u) (hit:∃ o,s.heap.get? it=some o)
  (hY:∀ T,H T=none→Y (.ref T) (upd H T (.tup [.int i,x]))) (htn:∀ h',St' (i+1) h'→(∃ old,IsEnum h' e it ((i:Int)+1) old)→tn (i+1) h') :
  wpAny (model X.prog X.w) X.A (pyNext (.ref e)) (fun r s1=>∃ u,r=some u ∧
   wpAny (model X.prog X.w) X.A (letOwnedTupleGo (.Tuple elts k pos) (.ref e) u) (fun _ s2=>∃ y H',Inv X pins σ H' s2∧bc y u∧Y y H'∧tn (i+1) s2.heap∧∀ b∈[e,it],H' b=none) E s1) E s:=by
 refine wpAny_pyNext_enum_itemD D he hst hi hne hef fun u h' tk hu b1 b2 b3 b4 b5=>⟨_,rfl,wpAny_letOwnedTupleGo_enum b1 fun h2 c1 e2=>?_⟩
 have hTe:s.heap.objs.size≠e:=AN (zw he)
 have kk:∀ b o,b∉[e,it]→s.heap.get? b=some o→h2.get? b=some o:=fun b o hb q=>by
  simp only [zt,zv,Aw,not_or] at hb
  exact e2.extBut _ _ hb.1 (b5 b o hb.1 hb.2 q)
 have there:∀ b∈[e,it],∃ o,s.heap.get? b=some o:=fun b hb=>by
  simp only [zt,zv,Aw] at hb
  rcases hb with rfl | rfl
  ·exact ⟨_,he⟩
  ·exact hit
 have I2:Inv X pins σ (upd H s.heap.objs.size (.tup [.int i,x])) { s with heap:=h2,toks:=tk+1 } :=
  I.stepT (ch:=[e,it]) (its:=[.int i tk,u]) hf kk (zu _) (by show 2≤sizeLine;decide) (.cons ⟨_,rfl⟩ (.cons (hrel u hu) .nil)) ⟨_,e2.extBut _ _ hTe b3,rfl,_,rfl⟩ ⟨_,e2.extBut _ _ hTe b3,rfl⟩ there
 have hn:H s.heap.objs.size=none:=I.hok.fresh (zu _)
 refine ⟨.ref s.heap.objs.size,_,I2,rfl,hY _ hn,htn h2 (D.frame _ _ _ b2 fun b hb o q=>e2.extBut _ _ (fun z=>hef (z ▸ hb)) q) ⟨_,c1⟩,fun b hb=>?_⟩
 obtain ⟨o,q⟩:=there b hb
 rw [aq (z3 (zw q))]
 exact (hf b hb).1
theorem pK {P:Program}{w:World}{K:PySem.W.Frag}{elts:List Expr}{k:Nat}{pos:Pos}{e it a:Addr}(hne:e≠it) :
  qI P w K (.Tuple elts k pos) (uf K a) [e,it] e (fun i h=>(∃ old,IsEnum h e it i old)∧h.IsTupleIter it a i) where
 mem:=by simp
 obj:=fun i h st b hb=>by
  obtain ⟨⟨old,s1⟩,⟨o,s2,_,d2⟩⟩:=st
  simp only [zt,zv,Aw] at hb
  rcases hb with rfl | rfl
  ·exact ⟨_,s1,fun v q=>by cases q⟩
  ·exact ⟨_,s2,fun v q=>by rw [d2] at q;cases q⟩
 keep:=fun i h h' st kk=>by
  obtain ⟨⟨old,s1⟩,s2⟩:=st
  exact ⟨⟨old,kk e (by simp) _ s1⟩,s2.at fun o q=>kk it (by simp) o q⟩
 item:=by
  intro X hP hw hK hc i pins s σ H E I hf st hg
  subst hP hw hK
  obtain ⟨xs,x,hq,hx⟩:=hg
  obtain ⟨its,rv,p,hz⟩:=I.tuple hq
  obtain ⟨u,hu,ru⟩:=rv.get hx
  obtain ⟨⟨old,s1⟩,s2⟩:=st
  have hu':its.toArray[i]? = some u:=by simpa using hu
  have ha:a≠e:=fun z=>by obtain ⟨o,q,c,_⟩:=p;rw [z,s1] at q;cases q;simp at c
  have hb:a≠it:=fun z=>by obtain ⟨o,q,c,_⟩:=p;obtain ⟨o2,q2,c2,_⟩:=s2;rw [z,q2] at q;cases q;rw [c2] at c;simp at c
  refine h9 (tn:=fun i h=>(∃ old,IsEnum h e it i old)∧h.IsTupleIter it a i) (mQ (by exact I.ok.hd hc) it a hb its.toArray) I hf s1 ⟨s2,p⟩ (zM.mp hu').1 hne (by simp only [zt,zv,Aw,not_or];exact ⟨hne,fun z=>ha z.symm⟩)
   (fun u2 h2=>by rw [show its.toArray[i]? = some u2 from h2] at hu';cases hu';exact ru) (let ⟨o,q,_⟩:=s2;⟨o,q⟩) (fun T hT=>⟨T,x,hT,rfl,fun ys hy=>by rw [I.tuple_inj hy hq];exact hx,rfl⟩) fun h' st' ho=>⟨by simpa using ho,st'.1⟩
 done:=by
  intro X hP hw hK hc i pins s σ H E I hf st hg
  subst hP hw hK
  obtain ⟨xs,hq,hx⟩:=hg
  obtain ⟨its,rv,p,hz⟩:=I.tuple hq
  obtain ⟨⟨old,s1⟩,s2⟩:=st
  obtain ⟨f0,f1,f2,f3,f4,f5⟩:=hf it (by simp)
  have hl:=rv.length
  have hb:a≠it:=fun z=>by obtain ⟨o,q,c,_⟩:=p;obtain ⟨o2,q2,c2,_⟩:=s2;rw [z,q2] at q;cases q;rw [c2] at c;simp at c
  have T:wpAny (model X.prog X.w) X.A (pyNext (.ref e)) (fun r s1=>r=none∧Inv X pins σ H s1) E s:=by
   have hT:s.TypeIs (.ref e) "enumerate":=⟨_,s1,rfl⟩
   unfold pyNext
   refine fu (BA (Ai (name:=Str.ofString "__next__") hT F.slot_enumerate_next (As F.slot_enumerate_next hT F.entry_enumerate_next ?_ (F.args_enumerate_next_1 _))))
   show wpAny _ _ (field (.ref e) 2 >>= _) _ _ _
   refine fu (zF s1 rfl (x:=.ref it) rfl (fu (h8 (by exact I.ok.hd hc) s2 p (by simp;omega) fun h' ex eb hx'=>?_)))
   obtain ⟨o,ho,hcl⟩:=hx'
   exact fu (Cv (T:="StopIteration") (b:=true) ⟨o,ho,hcl⟩ CM (zd ⟨rfl,I.turned (t':=s.toks) (fun b o hb q=>eb b o hb q) f0 f1 f3 f4 f5⟩))
  exact T
 self:=fun _ _ _ _ _ st h=>let ⟨⟨_,s1⟩,_⟩:=st;BK s1 h
section
variable {X:Cx}
def yQ (K:PySem.W.Frag)(ta:TA):TI:=fun σ H R=>ta σ H fun vs H1=>∃ a,vs=[.ref a]∧(∃ xs,SqT K H1 a xs)∧R (uf K a) H1
theorem fp2 {pins:List (Addr × Obj)}{σ:St}{H:Hp}{s:Shared}(I:Inv X pins σ H s):∀ b∈[s.heap.objs.size+1,s.heap.objs.size],jz X pins H b:=fun b hb=>by
 have hge:s.heap.objs.size≤b:=by
  simp only [zt,zv,Aw] at hb
  rcases hb with rfl | rfl <;> omega
 exact I.fpOk hge (I.hok.fresh hge)
theorem qZ {K:PySem.W.Frag}(hK:X.K=K){a:Expr}{ta:TA}{p pos tp:Pos}{elts:List Expr}{k:Nat}(hg:Gl X "enumerate")(hm:X.mg "enumerate" = none)(hb:bootBuiltins "enumerate" = some (.type "enumerate"))(ha:PA X [a] ta)(hs:starEach [a] X.env=[(false,eval a X.env)]:=by rfl) :
  PI X (.Tuple elts k tp) (.Call (.Name "enumerate" p) [a] [] pos) (yQ K ta):=by
 subst hK
 intro pins s σ H R I h
 refine Call_ (cy I hg hm hb (Ax (thn (ha pos pins s σ H _ I h) fun us s1 zq2=>?_) hs rfl))
 obtain ⟨vs,H1,I1,r1,q1⟩:=zq2
 obtain ⟨l,rfl,⟨xs,hq⟩,q⟩:=q1
 obtain ⟨u1,rfl,ru⟩:=bW r1
 cases ru
 obtain ⟨its,rv,pl,hz⟩:=I1.tuple hq
 refine pJ pl fun h' b1 b2 b4=>?_
 have I2:Inv X pins σ H1 { s1 with heap:=h',toks:=s1.toks }:=I1.kept b4
 exact BK (s:={ s1 with heap:=h',toks:=s1.toks }) b1 ⟨s1.heap.objs.size+1,[s1.heap.objs.size+1,s1.heap.objs.size],_,uf X.K l,H1,rfl,I2,pK (Nat.succ_ne_self _),⟨⟨_,b1⟩,b2⟩,fp2 I1,q⟩
end
theorem mR {K:PySem.W.Frag}{a:Addr}{xs:List V}{g:TG}{tb:TS}{D:gv}{σ:St}{H:Hp}(Pv:Nat→St→Hp→Prop)(h0:Pv 0 σ H)(hl:∀ i σ H,i≤xs.length→Pv i σ H→SqT K H a xs)
  (hs:∀ i x σ H T,xs[i]? = some x→Pv i σ H→H T=none→g (.ref T) σ (upd H T (.tup [.int i,x])) fun σ2 H2=>tb { D with nx:=Pv (i+1),ct:=Pv (i+1),bk:=D.nx } σ2 H2) (hd:∀ σ H,Pv xs.length σ H→D.nx σ H) :
  ∃ W:Nat→Nat→St→Hp→Prop,(∃ m,W 0 m σ H)∧∀ i m σ H,W i m σ H →
   ((uf K a).stop i H∧D.nx σ H) ∨ ((uf K a).go i H∧∃ N:St→Hp→Prop,(∀ σ' H',N σ' H'→∃ m',m' < m∧W (i+1) m' σ' H')∧∀ x H',(uf K a).yld i H x H'→g x σ H' fun σ2 H2=>tb { D with nx:=N,ct:=N,bk:=D.nx } σ2 H2):=by
 refine ⟨fun i m σ H=>m=xs.length - i∧i≤xs.length∧Pv i σ H,⟨xs.length,by simp,AG _,h0⟩,?_⟩
 rintro i m σ H ⟨rfl,hi,p⟩
 have q:=hl i σ H hi p
 by_cases hlt:i < xs.length
 ·refine .inr ⟨⟨xs,xs[i],q,by simp [hlt]⟩,Pv (i+1),fun σ' H' p'=>⟨xs.length - (i+1),by omega,rfl,hlt,p'⟩,?_⟩
  rintro v H' ⟨T,x,hT,rfl,hx,rfl⟩
  exact hs i x σ _ T (hx xs q) p hT
 ·obtain rfl:i=xs.length:=by omega
  exact .inl ⟨⟨xs,q,zu _⟩,hd σ H p⟩
end L2
namespace PySem
open Sem (wp)
structure Ap2 (z TO i1 i2:Addr) (fp1 fp2:List Addr):Prop where
 z1:z∉fp1
 z2:z∉fp2
 o1:TO∉fp1
 o2:TO∉fp2
 i12:i1∉fp2
 i21:i2∉fp1
section
variable {prog:Program} {w:World} {A:Around} {E:Value→Shared→Prop} {s:Shared} {z TI TO i1 i2:Addr} {k n1 n2:Nat} {a b:Value} {fp1 fp2:List Addr} {P1 P2:Nat→Value→Prop} {S1 S2:Nat→Heap→Prop}
theorem mS {Q:Value→Shared→Prop}(D1:Draws prog w A i1 fp1 n1 P1 S1)(D2:Draws prog w A i2 fp2 n2 P2 S2)(D:Ap5 z TI TO i1 i2)
  (B:Ap2 z TO i1 i2 fp1 fp2) (hz:IsZip s.heap z TI TO .none) (hTI:IsPair s.heap TI (.ref i1) (.ref i2)) (hTO:IsPair s.heap TO a b) (h1:S1 k s.heap) (h2:S2 k s.heap) (hx:k < n1) (hy:k < n2)
  (hQ:∀ h' tk v1 v2,P1 k v1→P2 k v2→IsZip h' z TI TO (rawInt s.heap.objs.size)→IsPair h' TO v1 v2→S1 (k+1) h'→S2 (k+1) h'→IsPair h' s.heap.objs.size v1 v2 →
   (∀ e o,e≠z→e≠TO→e≠i1→e≠i2→s.heap.get? e=some o→h'.get? e=some o)→Q (.ref s.heap.objs.size) { s with heap:=h',toks:=tk }) :
  wpAny (model prog w) A (Builtin.«zip.__next__» ⟨[.ref z],[]⟩) (fun fin s'=>∃ v,fin = .done (.ret v)∧Q v s') E s:=by
 show wpAny _ _ (field (.ref z) 2 >>= _) _ _ _
 refine fu (zF hz rfl (x:=.bool false) rfl ?_)
 show wpAny _ _ (field (.ref z) 3 >>= _) _ _ _
 refine fu (zF hz rfl (x:=.ref TI) rfl (fu (zR hTI rfl ?_)))
 show wpAny _ _ (Builtin.SmallTypes.ownedTupleIsFree (.ref z) >>= _) _ _ _
 refine fu ?_
 unfold Builtin.SmallTypes.ownedTupleIsFree
 refine fu (zF hz rfl (x:=.none) rfl (zd ?_))
 simp only [Bf]
 refine fu (AB (fu (zF hz rfl (x:=.ref TO) rfl (fu (zy hz (by simp) fun g1 hz1 e1=>?_)))))
 have hz1:IsZip g1 z TI TO .ellipsis:=hz1
 refine fu ?_
 simp only [AZ,Bh,Ay,AI]
 refine fu (fu (Az ?_))
 show wpAny _ _ (Builtin.SmallTypes.nextOf (.ref i1) >>= _) _ _ _
 refine fu (D1.item k _ _ _ hx (D1.frame _ _ _ h1 fun q hq o eq=>e1.extBut _ _ (fun zz=>B.z1 (zz ▸ hq)) eq) fun v1 g2 tk2 p1 j1 e2=>zd ?_)
 have o2:IsPair g2 TO a b:=e2.extBut _ _ D.TOi1 (e1.extBut _ _ D.TOz hTO)
 refine fu (zR o2 rfl (fu (Ab o2 fun g3 o3 e3=>fu (Bb (zd ?_)))))
 have o3:IsPair g3 TO v1 b:=o3
 refine fu (fu (Az ?_))
 show wpAny _ _ (Builtin.SmallTypes.nextOf (.ref i2) >>= _) _ _ _
 refine fu (D2.item k _ _ _ hy (D2.frame _ _ _ h2 fun q hq o eq=>e3.extBut _ _ (fun zz=>B.o2 (zz ▸ hq)) (e2.extBut _ _ (fun zz=>B.i12 (zz ▸ hq)) (e1.extBut _ _ (fun zz=>B.z2 (zz ▸ hq)) eq))) fun v2 g4 tk4 p2 j2 e4=>zd ?_)
 have o4:IsPair g4 TO v1 b:=e4.extBut _ _ D.TOi2 o3
 refine fu (zR o4 rfl (fu (Ab o4 fun g5 o5 e5=>fu (Bb (zd (zd ?_))))))
 have o5:IsPair g5 TO v1 v2:=o5
 refine fu (zR o5 rfl (fu (Bn ?_)))
 have hsz:g5.objs.size=s.heap.objs.size:=by rw [e5.1,e4.1,e3.1,e2.1,e1.1]
 have z5:IsZip g5 z TI TO .ellipsis:=e5.extBut _ _ D.TOz.symm (e4.extBut _ _ D.i2z.symm (e3.extBut _ _ D.TOz.symm (e2.extBut _ _ D.i1z.symm hz1)))
 have kk:∀ e o,e≠z→e≠TO→e≠i1→e≠i2→s.heap.get? e=some o→g5.get? e=some o:=fun e o n1 n2 n3 n4 q=>e5.extBut _ _ n2 (e4.extBut _ _ n4 (e3.extBut _ _ n2 (e2.extBut _ _ n3 (e1.extBut _ _ n1 q))))
 have j1':S1 (k+1) g5:=D1.frame _ _ _ j1 fun q hq o eq=>e5.extBut _ _ (fun zz=>B.o1 (zz ▸ hq)) (e4.extBut _ _ (fun zz=>B.i21 (zz ▸ hq)) (e3.extBut _ _ (fun zz=>B.o1 (zz ▸ hq)) eq))
 have j2':S2 (k+1) g5:=D2.frame _ _ _ j2 fun q hq o eq=>e5.extBut _ _ (fun zz=>B.o2 (zz ▸ hq)) eq
 have zlt:z < g5.objs.size:=zw z5
 show wpAny _ _ (Builtin.SmallTypes.ownedTupleHandOut (.ref z) (.ref g5.objs.size) >>= _) _ _ _
 refine fu ?_
 unfold Builtin.SmallTypes.ownedTupleHandOut
 have z6:IsZip (g5.push { cls:=.type "tuple",data:=.seq #[v1,v2] }) z TI TO .ellipsis:=y9 _ z5
 refine fu (zy z6 (by simp) fun g7 z7 e7=>?_)
 have z7:IsZip g7 z TI TO (rawInt g5.objs.size):=z7
 refine zy z7 (by simp) fun g8 z8 e8=>?_
 have z8:IsZip g8 z TI TO (rawInt g5.objs.size):=z8
 have up:∀ e o,e≠z→g5.get? e=some o→g8.get? e=some o:=fun e o n1 q=>e8.extBut _ _ n1 (e7.extBut _ _ n1 (y9 _ q))
 have T8:IsPair g8 g5.objs.size v1 v2:=e8.extBut _ _ (AN zlt) (e7.extBut _ _ (AN zlt) (zj _ rfl))
 rw [hsz] at z8 T8
 refine zd ⟨_,rfl,?_⟩
 show Q (.ref g5.objs.size) _
 rw [hsz]
 exact hQ g8 _ v1 v2 p1 p2 z8 (up _ _ D.TOz o5) (D1.frame _ _ _ j1' fun q hq o eq=>up q o (fun zz=>B.z1 (zz ▸ hq)) eq) (D2.frame _ _ _ j2' fun q hq o eq=>up q o (fun zz=>B.z2 (zz ▸ hq)) eq) T8 fun e o n1 n2 n3 n4 q=>up e o n1 (kk e o n1 n2 n3 n4 q)
theorem pL {Q:Fin→Shared→Prop}(D1:Draws prog w A i1 fp1 n1 P1 S1)(D2:Draws prog w A i2 fp2 n2 P2 S2)(D:Ap5 z TI TO i1 i2)
  (B:Ap2 z TO i1 i2 fp1 fp2) (hz:IsZip s.heap z TI TO .none) (hTI:IsPair s.heap TI (.ref i1) (.ref i2)) (hTO:IsPair s.heap TO a b) (h1:S1 k s.heap) (h2:S2 k s.heap) (hend:k=n1 ∨ (k < n1∧k=n2))
  (hE:∀ h' tk e,(∀ c o,c≠z→c≠TO→c≠i1→c≠i2→s.heap.get? c=some o→h'.get? c=some o)→(∃ o,h'.get? e=some o∧o.cls = .type "StopIteration")→E (.ref e) { s with heap:=h',toks:=tk }) :
  wpAny (model prog w) A (Builtin.«zip.__next__» ⟨[.ref z],[]⟩) Q E s:=by
 show wpAny _ _ (field (.ref z) 2 >>= _) _ _ _
 refine fu (zF hz rfl (x:=.bool false) rfl ?_)
 show wpAny _ _ (field (.ref z) 3 >>= _) _ _ _
 refine fu (zF hz rfl (x:=.ref TI) rfl (fu (zR hTI rfl ?_)))
 show wpAny _ _ (Builtin.SmallTypes.ownedTupleIsFree (.ref z) >>= _) _ _ _
 refine fu ?_
 unfold Builtin.SmallTypes.ownedTupleIsFree
 refine fu (zF hz rfl (x:=.none) rfl (zd ?_))
 simp only [Bf]
 refine fu (AB (fu (zF hz rfl (x:=.ref TO) rfl (fu (zy hz (by simp) fun g1 hz1 e1=>?_)))))
 have hz1:IsZip g1 z TI TO .ellipsis:=hz1
 refine fu ?_
 simp only [AZ,Bh,Ay,AI]
 refine fu (fu (Az ?_))
 show wpAny _ _ (Builtin.SmallTypes.nextOf (.ref i1) >>= _) _ _ _
 rcases hend with hk | ⟨hk,hk2⟩
 ·subst hk
  refine fu (D1.done _ _ _ (D1.frame _ _ _ h1 fun q hq o eq=>e1.extBut _ _ (fun zz=>B.z1 (zz ▸ hq)) eq) fun g2 ev e2 he=>?_)
  obtain ⟨oe,hoe,hce⟩:=he
  have z2:IsZip g2 z TI TO .ellipsis:=e2 _ _ D.i1z.symm hz1
  have hez:ev≠z:=fun q=>by subst q;rw [z2] at hoe;cases hoe;simp at hce
  exact zy z2 (by simp) fun g3 _ e3=>hE g3 _ ev (fun c o n1 _ n3 _ q=>e3.extBut _ _ n1 (e2 _ _ n3 (e1.extBut _ _ n1 q))) ⟨oe,e3.extBut _ _ hez hoe,hce⟩
 ·refine fu (D1.item k _ _ _ hk (D1.frame _ _ _ h1 fun q hq o eq=>e1.extBut _ _ (fun zz=>B.z1 (zz ▸ hq)) eq) fun v1 g2 tk2 p1 j1 e2=>zd ?_)
  have o2:IsPair g2 TO a b:=e2.extBut _ _ D.TOi1 (e1.extBut _ _ D.TOz hTO)
  refine fu (zR o2 rfl (fu (Ab o2 fun g3 o3 e3=>fu (Bb (zd ?_)))))
  refine fu (fu (Az ?_))
  show wpAny _ _ (Builtin.SmallTypes.nextOf (.ref i2) >>= _) _ _ _
  have h2':=D2.frame _ _ _ h2 fun q hq o eq=>e3.extBut _ _ (fun zz=>B.o2 (zz ▸ hq)) (e2.extBut _ _ (fun zz=>B.i12 (zz ▸ hq)) (e1.extBut _ _ (fun zz=>B.z2 (zz ▸ hq)) eq))
  rw [hk2] at h2'
  refine fu (D2.done _ _ _ h2' fun g4 ev e4 he=>?_)
  obtain ⟨oe,hoe,hce⟩:=he
  have z4:IsZip g4 z TI TO .ellipsis:=e4 _ _ D.i2z.symm (e3.extBut _ _ D.TOz.symm (e2.extBut _ _ D.i1z.symm hz1))
  have hez:ev≠z:=fun q=>by subst q;rw [z4] at hoe;cases hoe;simp at hce
  exact zy z4 (by simp) fun g5 _ e5=>hE g5 _ ev (fun c o n1 n2 n3 n4 q=>e5.extBut _ _ n1 (e4 _ _ n4 (e3.extBut _ _ n2 (e2.extBut _ _ n3 (e1.extBut _ _ n1 q))))) ⟨oe,e5.extBut _ _ hez hoe,hce⟩
theorem kJ {Q:Option Value→Shared→Prop}(D1:Draws prog w A.in1 i1 fp1 n1 P1 S1)(D2:Draws prog w A.in1 i2 fp2 n2 P2 S2)(D:Ap5 z TI TO i1 i2)
  (B:Ap2 z TO i1 i2 fp1 fp2) (hz:IsZip s.heap z TI TO .none) (hTI:IsPair s.heap TI (.ref i1) (.ref i2)) (hTO:IsPair s.heap TO a b) (h1:S1 k s.heap) (h2:S2 k s.heap) (hx:k < n1) (hy:k < n2)
  (hQ:∀ h' tk v1 v2,P1 k v1→P2 k v2→IsZip h' z TI TO (rawInt s.heap.objs.size)→IsPair h' TO v1 v2→S1 (k+1) h'→S2 (k+1) h'→IsPair h' s.heap.objs.size v1 v2 →
   (∀ e o,e≠z→e≠TO→e≠i1→e≠i2→s.heap.get? e=some o→h'.get? e=some o)→Q (some (.ref s.heap.objs.size)) { s with heap:=h',toks:=tk }) :
  wpAny (model prog w) A (pyNext (.ref z)) Q E s:=by
 have hT:s.TypeIs (.ref z) "zip":=⟨_,hz,rfl⟩
 unfold pyNext
 exact fu (BA (Ai (name:=Str.ofString "__next__") hT AR (As AR hT BR
  (mS D1 D2 D B hz hTI hTO h1 h2 hx hy fun h' tk v1 v2 q1 q2 b1 b2 b3 b4 b5 b6=>zd (hQ h' tk v1 v2 q1 q2 b1 b2 b3 b4 b5 b6)) (BL _))))
theorem mT {Q:Option Value→Shared→Prop}(D1:Draws prog w A.in1 i1 fp1 n1 P1 S1)(D2:Draws prog w A.in1 i2 fp2 n2 P2 S2)(D:Ap5 z TI TO i1 i2)
  (B:Ap2 z TO i1 i2 fp1 fp2) (hz:IsZip s.heap z TI TO .none) (hTI:IsPair s.heap TI (.ref i1) (.ref i2)) (hTO:IsPair s.heap TO a b) (h1:S1 k s.heap) (h2:S2 k s.heap) (hend:k=n1 ∨ (k < n1∧k=n2))
  (hQ:∀ h' tk,(∀ c o,c≠z→c≠TO→c≠i1→c≠i2→s.heap.get? c=some o→h'.get? c=some o)→Q none { s with heap:=h',toks:=tk }):wpAny (model prog w) A (pyNext (.ref z)) Q E s:=by
 have hT:s.TypeIs (.ref z) "zip":=⟨_,hz,rfl⟩
 unfold pyNext
 refine fu (BA (Ai (name:=Str.ofString "__next__") hT AR (As AR hT BR
  (pL D1 D2 D B hz hTI hTO h1 h2 hend fun h' tk e hk he=>?_) (BL _))))
 obtain ⟨o,ho,hc⟩:=he
 refine fu (Cv (T:="StopIteration") (b:=true) ⟨o,ho,hc⟩ CM ?_)
 exact zd (hQ _ _ hk)
end
end PySem
namespace PySem
end PySem
namespace L2
open PySem PySem.Spec PyProof.Rows Wd
section
variable {X:Cx}
end
end L2
namespace Kx
open PySem PySem.Spec PyProof.Rows L2 Wd
def Gd (c:Nat):Prop:=(48≤c∧c≤57) ∨ 65≤c
end Kx
namespace L2
open PySem PySem.Spec PyProof.Rows Wd
section
variable {X:Cx} {tg:Expr}
end
end L2
namespace Kx
open PySem PySem.Spec PyProof.Rows L2 Wd
def dV:V→PyData
 | .int i=>.int i
 | .str z=>.str z
 | _=>.none
end Kx
namespace Wd
end Wd
namespace Kx
open PySem PySem.Spec PyProof.Rows L2 Wd
theorem none_of {H H':Hp}{a:Addr}(s:az H H')(h:H' a=none):H a=none:=by
 cases e:H a with
 | none=>rfl
 | some o=>exact absurd (s _ _ e) (by rw [h];intro z;cases z)
theorem sm_at {i:Nat}(h:i < 6):atI ("abcdef":Str).cps.toList (i:Int)=some (cp ⟨i,by omega⟩):=by
 rw [← pD]
 exact dj (k:=i) rfl (sm6 ⟨i,h⟩)
end Kx
namespace Wd
theorem idx_lt {u:List L}{x:L}(h:x∈u):u.idxOf x < u.length:=AS h
def rfI (u:List L)(a b:L):Int:=((u.idxOf b:Int) - (u.idxOf a:Int)) % (u.length:Int)
def ic (u:List L)(x z:L):Int:=if rfI u x z < rfI u x (inv x) then 1 else 0
def sd (u:List L)(x y:L):Int:=ic u x y - ic u x (inv y)
def lt6 (j:Nat):L:=if h:j < 12 then ⟨j,h⟩ else 0
end Wd
namespace L2
open PySem PySem.Spec PyProof.Rows
section
variable {X:Cx}
end
end L2
namespace Kx
open PySem PySem.Spec PyProof.Rows L2 Wd
def y8 (k:Nat):List L:=(List.range k).map lt6++bk ((List.range k).map lt6)
end Kx
namespace Wd
open PySem L2
def lcp:List L→List L→List L
 | x::u,y::v=>if x=y then x::lcp u v else []
 | _,_=>[]
def yR (t o:List L):Bool:=decide (o≠t) && decide (t.length≤6*(lcp t o).length)
end Wd
namespace HT
open PySem PySem.Spec PyProof.Rows
section
variable {prog:Program} {w:World} {A:Around} {E:Value→Shared→Prop} {s:Shared}
end
end HT
namespace L2
open PySem PySem.Spec PyProof.Rows Wd
end L2
namespace Kx
open PySem PySem.Spec PyProof.Rows L2 Wd
theorem nl:¬ ("letter":Str) = "number":=by decide +kernel
theorem nt:¬ ("turn":Str) = "number":=by decide +kernel
theorem tl:¬ ("turn":Str) = "letter":=by decide +kernel
end Kx
namespace Wd
open PySem L2
end Wd
namespace Kx
open PySem L2 Wd
end Kx
namespace PySem
open Sem (wp)
section
variable {prog:Program} {w:World} {A:Around} {E:Value→Shared→Prop} {s:Shared}
section
variable {R:Result→Shared→Prop} {I:Addr} {fp wr:List Addr} {G:Array GenState→Array GenState→Prop} {n:Nat} {P:Nat→Value→Prop} {St:Nat→Shared→Prop}
end
abbrev sob (led:Bool):Obj:={ cls:=.type "set",dict:=none,data:=.set #[] 0 (.fresh 0 0 led) }
end
abbrev ldr (w:World):Bool:=!w.params.followText "set-order"
theorem kK {t:SetTable}{es:Array (Int × Value)}{h:Int}{x:Value}:(layNew t es h x).2.1.led=t.led:=by
 unfold layNew
 split
 ·dsimp only
  unfold SetTable.orStandIn
  split
  ·rfl
  ·rfl
 ·rfl
theorem kL {t t':SetTable}{hs:Array Int}{w:Nat}{order:Array Nat}(h:t.relaid hs w=some (t',order)):t'.led=t.led:=by
 unfold SetTable.relaid SetTable.laid at h
 cases hq:SetTable.layClean (SetTable.sizeAbove w - 1) hs with
 | none=>rw [hq] at h;cases h
 | some o=>rw [hq] at h;cases h;rfl
theorem h_ {t:SetTable}{es:Array (Int × Value)}{w:Nat}:(relayAll t es w).2.1.led=t.led:=by
 unfold relayAll
 split
 ·rename_i t' order he
  dsimp only
  split
  ·exact kL he
  ·rfl
 ·rfl
section
variable {prog:Program} {w:World} {A:Around} {E:Value→Shared→Prop} {s:Shared}
section
variable {R:Result→Shared→Prop} {I:Addr} {fp wr:List Addr} {G:Array GenState→Array GenState→Prop} {n:Nat} {P:Nat→Value→Prop} {St:Nat→Shared→Prop}
end
theorem fS (a:Value){Q₁:Value→Shared→Prop}(q:Q₁ (.ref s.heap.objs.size) { s with heap:=s.heap.push (sob (ldr w)) }) :
  codeAny (model prog w) A (.call (.builtin "set.__new__") ⟨[.type "set",a],[]⟩) (wants Q₁ E) s:=by
 refine CH ?_
 show wpAny _ A.in1 (do checkBuiltinCall "set.__new__" ⟨[.type "set",a],[]⟩;again (.builtin "set.__new__" ⟨[.type "set",a],[]⟩)) _ _ s
 refine fu (wpAny_of_eq (F.newCall_set_1 a) (zd ⟨Cp F.plain_set_new _,AU F.entry_set_new ?_⟩))
 rw [A7 F.plain_set_new _]
 unfold Builtin.«set.__new__» Builtin.Frozenset.newClass
 have hsub:=sub_set_self
 obtain ⟨hp,gn,dr,tk,os⟩:=s
 dsimp only
 wp_walk
 refine wpAny_askSetting (zd ?_)
 dsimp only
 simp only [newObj]
 exact fu (wpAny_alloc (zd (zd q)))
end
end PySem
namespace Ts
open PySem PyProof.Rows
theorem au {σ:Type}{M:Model}{A:Around}{E:Value→Shared→Prop}{s:Shared}{α:Type}{c:Prop}[Decidable c]{x y:StateT σ Sem α}{Q:α→σ→Prop}{st:σ}(h:c)(p:wpS M A E s x Q st):wpS M A E s (if c then x else y) Q st:=by
 rw [if_pos h];exact p
theorem av {σ:Type}{M:Model}{A:Around}{E:Value→Shared→Prop}{s:Shared}{α:Type}{c:Prop}[Decidable c]{x y:StateT σ Sem α}{Q:α→σ→Prop}{st:σ}(h:¬ c)(p:wpS M A E s y Q st):wpS M A E s (if c then x else y) Q st:=by
 rw [if_neg h];exact p
def kof (κ:KeyKind)(p:Keyed):κ.α:=(κ.keyOf p.1).getD κ.dflt
def Gd (κ:KeyKind)(p:Keyed):Prop:=∃ a,κ.keyOf p.1=some a
theorem Gd.eq {κ:KeyKind}{p:Keyed}(h:Gd κ p):κ.keyOf p.1=some (kof κ p):=by
 obtain ⟨a,e⟩:=h
 unfold kof
 rw [e]
 rfl
structure TB (st:SortSt):Prop where
 kind:kindOf st=oneType'
 failed:failedOf st=none
def gal:Bool→Keyed→Array Keyed→Nat→Nat→Nat→StateT SortSt Sem (Option Nat):=sortPriv% PySem.Builtin.gallop
def gbd (lf:Bool)(key:Keyed)(arr:Array Keyed)(b i:Nat):StateT SortSt Sem (Option Bool):=do
 let it ← elem' arr (b+i)
 if lf then lt' it key else return (← lt' key it).map (!·)
def wk (lf:Bool)(key:Keyed)(arr:Array Keyed)(b n d0 u0:Nat):StateT SortSt Sem (Option Nat):=do
 let mut dn:=d0
 let mut up:=u0
 for _ in [0:n] do
  if dn≥up then break
  let md:=dn+(up - dn) / 2
  let some mr ← gbd lf key arr b md | return none
  if mr then dn:=md+1 else up:=md
 return some up
theorem vd (lf:Bool)(key:Keyed)(arr:Array Keyed)(b n h:Nat):gal lf key arr b n h=(do
 let mut la:=0
 let mut of:=1
 let some rt ← gbd lf key arr b h | return none
 if rt then
  for _ in [0:n] do
   if of≥n - h then break
   let some mr ← gbd lf key arr b (h+of) | return none
   if !mr then break
   la:=of
   of:=2*of+1
  wk lf key arr b n (h+la+1) (h+min of (n - h))
 else
  for _ in [0:n] do
   if of≥h+1 then break
   let some fd ← gbd lf key arr b (h - of) | return none
   if fd then break
   la:=of
   of:=2*of+1
  wk lf key arr b n (h+1 - min of (h+1)) (h - la)):=rfl
section
variable {prog:Program} {w:World} {A:Around} {E:Value→Shared→Prop} {s:Shared} {κ:KeyKind}
theorem jQ {st:SortSt}{x y:Keyed}{Q:Option Bool→SortSt→Prop}(hO:κ.OneLt)(hB:TB st)(hx:Gd κ x)(hy:Gd κ y)(h:Q (some (κ.blt (kof κ x) (kof κ y))) st):wpS (model prog w) A E s (lt' x y) Q st:=by
 rw [lt'_eq]
 refine zg (Cd ?_)
 rw [hB.kind,keyLt'_oneType]
 refine zg (CL (BA (hO prog w A _ s x.1 y.1 _ _ hx.eq hy.eq ⟨rfl,?_⟩)))
 exact zm h
def bdB (κ:KeyKind)(lf:Bool)(key:κ.α)(x:κ.α):Bool:=if lf then κ.blt x key else !κ.blt key x
theorem sC {st:SortSt}{lf:Bool}{key p:Keyed}{arr:Array Keyed}{b i:Nat}{Q:Option Bool→SortSt→Prop}(hO:κ.OneLt)(hB:TB st)(hk:Gd κ key)(e:arr[b+i]? = some p)(hp:Gd κ p)
  (h:Q (some (bdB κ lf (kof κ key) (kof κ p))) st):wpS (model prog w) A E s (gbd lf key arr b i) Q st:=by
 unfold gbd
 rw [elem'_eq,e]
 refine zg (zm ?_)
 unfold bdB at h
 cases lf with
 | true=>exact jQ hO hB hp hk h
 | false=>exact zg (jQ hO hB hk hp (zm h))
theorem i8 {st:SortSt}{lf:Bool}{key:Keyed}{arr:Array Keyed}{b n h:Nat}{Q:Option Nat→SortSt→Prop}(hO:κ.OneLt)(hB:TB st)(hk:Gd κ key)(B:Nat→Bool)(hh:h < n)
  (at_:∀ i,i < n→∃ p,arr[b+i]? = some p∧Gd κ p∧bdB κ lf (kof κ key) (kof κ p)=B i) (mono:∀ i j,i≤j→j < n→B j=true→B i=true)
  (hq:∀ k,k≤n→(∀ i,i < k→B i=true)→(∀ i,k≤i→i < n→B i=false)→Q (some k) st):wpS (model prog w) A E s (gal lf key arr b n h) Q st:=by
 have ask:∀ {i:Nat} {R:Option Bool→SortSt→Prop},i < n→R (some (B i)) st→wpS (model prog w) A E s (gbd lf key arr b i) R st:=fun {i R} hi r=>by
  obtain ⟨p,e,g,eb⟩:=at_ i hi
  exact sC hO hB hk e g (by rw [eb];exact r)
 have no:∀ i j,i≤j→j < n→B i=false→B j=false:=fun i j hij hj e=>by
  cases ej:B j with
  | false=>rfl
  | true=>rw [mono i j hij hj ej] at e;cases e
 -- the last part
 have fin:∀ dn up,dn≤up→up≤n→(∀ i,i < dn→B i=true)→(∀ i,up≤i→i < n→B i=false)→wpS (model prog w) A E s (wk lf key arr b n dn up) Q st:=by
  intro dn up h1 h2 h3 h4
  unfold wk
  refine zg (AM (z9 (I:=fun x c st'=>st'=st∧∃ dn up,c=(none,dn,up)∧dn≤up∧up≤n∧up - dn≤n - x∧(∀ i,i < dn→B i=true)∧(∀ i,up≤i→i < n→B i=false))
   (Q:=fun c st'=>st'=st∧∃ k,c=(none,k,k)∧k≤n∧(∀ i,i < k→B i=true)∧(∀ i,k≤i→i < n→B i=false)) ?step ?fin ⟨rfl,dn,up,rfl,h1,h2,by omega,h3,h4⟩) ?post)
  case post =>
   rintro c st' ⟨rfl,k,rfl,a1,a2,a3⟩
   exact zm (hq k a1 a2 a3)
  case fin =>
   rintro c st' ⟨rfl,dn,up,rfl,a1,a2,a3,a4,a5⟩
   have:dn=up:=by omega
   subst this
   exact ⟨rfl,dn,rfl,a2,a4,a5⟩
  case step =>
   rintro x c st' _ hx ⟨rfl,dn,up,rfl,a1,a2,a3,a4,a5⟩
   dsimp only
   by_cases hd:dn≥up
   ·refine au hd ?_
    have:dn=up:=by omega
    subst this
    exact zm ⟨rfl,dn,rfl,a2,a4,a5⟩
   ·refine av hd ?_
    refine zg (ask (by omega) ?_)
    cases eb:B (dn+(up - dn) / 2) with
    | true =>
     simp only [Bf]
     exact zm ⟨rfl,dn+(up - dn) / 2+1,up,rfl,by omega,a2,by omega,fun i hi=>mono i _ (by omega) (by omega) eb,a5⟩
    | false =>
     simp only [zp,AE]
     exact zm ⟨rfl,dn,dn+(up - dn) / 2,rfl,by omega,by omega,by omega,a4,fun i hi1 hi2=>no _ i (by omega) hi2 eb⟩
 rw [vd]
 refine zg (ask hh ?_)
 cases eh:B h with
 | true =>
  dsimp only
  refine au rfl ?_
  refine zg (AM (z9 (I:=fun x c st'=>st'=st∧∃ la of,c=(none,la,of)∧la < of∧x+1≤of∧h+la < n∧B (h+la)=true)
   (Q:=fun c st'=>st'=st∧∃ la of,c=(none,la,of)∧la < of∧h+la < n∧B (h+la)=true∧(of≥n - h ∨ (h+of < n∧B (h+of)=false))) ?step ?fin ⟨rfl,0,1,rfl,by omega,by omega,by omega,eh⟩) ?post)
  case post =>
   rintro c st' ⟨rfl,la,of,rfl,a1,a2,a3,a4⟩
   dsimp only
   refine fin (h+la+1) (h+min of (n - h)) (by omega) (by omega) (fun i hi=>mono i _ (by omega) a2 a3) fun i hi1 hi2=>?_
   rcases a4 with a4 | ⟨a4,a5⟩
   ·omega
   ·exact no _ i (by omega) hi2 a5
  case fin =>
   rintro c st' ⟨rfl,la,of,rfl,a1,a2,a3,a4⟩
   exact ⟨rfl,la,of,rfl,a1,a3,a4,.inl (by omega)⟩
  case step =>
   rintro x c st' _ hx ⟨rfl,la,of,rfl,a1,a2,a3,a4⟩
   dsimp only
   by_cases ho:of≥n - h
   ·refine au ho ?_
    exact zm ⟨rfl,la,of,rfl,a1,a3,a4,.inl ho⟩
   ·refine av ho ?_
    refine zg (ask (by omega) ?_)
    cases eb:B (h+of) with
    | true =>
     simp only [BZ,zp,AE]
     exact zm ⟨rfl,of,2*of+1,rfl,by omega,by omega,by omega,eb⟩
    | false =>
     simp only [Bool.not_false,Bf]
     exact zm ⟨rfl,la,of,rfl,a1,a3,a4,.inr ⟨by omega,eb⟩⟩
 | false =>
  dsimp only
  refine av By ?_
  refine zg (AM (z9 (I:=fun x c st'=>st'=st∧∃ la of,c=(none,la,of)∧la < of∧x+1≤of∧la≤h∧B (h - la)=false)
   (Q:=fun c st'=>st'=st∧∃ la of,c=(none,la,of)∧la < of∧la≤h∧B (h - la)=false∧(of≥h+1 ∨ (of≤h∧B (h - of)=true))) ?step ?fin ⟨rfl,0,1,rfl,by omega,by omega,by omega,eh⟩) ?post)
  case post =>
   rintro c st' ⟨rfl,la,of,rfl,a1,a2,a3,a4⟩
   dsimp only
   refine fin (h+1 - min of (h+1)) (h - la) (by omega) (by omega) (fun i hi=>?_) fun i hi1 hi2=>no _ i hi1 hi2 a3
   rcases a4 with a4 | ⟨a4,a5⟩
   ·omega
   ·exact mono i _ (by omega) (by omega) a5
  case fin =>
   rintro c st' ⟨rfl,la,of,rfl,a1,a2,a3,a4⟩
   exact ⟨rfl,la,of,rfl,a1,a3,a4,.inl (by omega)⟩
  case step =>
   rintro x c st' _ hx ⟨rfl,la,of,rfl,a1,a2,a3,a4⟩
   dsimp only
   by_cases ho:of≥h+1
   ·refine au ho ?_
    exact zm ⟨rfl,la,of,rfl,a1,a3,a4,.inl ho⟩
   ·refine av ho ?_
    refine zg (ask (by omega) ?_)
    cases eb:B (h - of) with
    | false =>
     simp only [zp,AE]
     exact zm ⟨rfl,of,2*of+1,rfl,by omega,by omega,by omega,eb⟩
    | true =>
     simp only [Bf]
     exact zm ⟨rfl,la,of,rfl,a1,a3,a4,.inr ⟨by omega,eb⟩⟩
end
def mlo:Array Keyed→Array Keyed→StateT SortSt Sem (Array Keyed):=sortPriv% PySem.Builtin.mergeLo
def smg:Nat→StateT SortSt Sem Unit:=sortPriv% PySem.Builtin.setMinGallop
abbrev mDn (a b o:Array Keyed)(i j:Nat):Array Keyed:=o++a.extract i a.size++b.extract j b.size
abbrev mLa (a b o:Array Keyed)(i j:Nat):Array Keyed:=o++b.extract j b.size++a.extract i a.size
theorem ve (a b:Array Keyed):mlo a b=(do
 rule "list.sort.merge-lo"
 let mut o:Array Keyed:=#[← elem' b 0]
 let mut i:=0
 let mut j:=1
 if j == b.size then return mDn a b o i j
 if i+1 == a.size then return mLa a b o i j
 let mut g:=gallopOf (← get)
 for _ in [0:a.size+b.size] do
  let mut p:=0
  let mut q:=0
  for _ in [0:a.size+b.size] do
   let some w ← lt' (← elem' b j) (← elem' a i) | return mDn a b o i j
   if w then
    o:=o.push (← elem' b j)
    j:=j+1
    q:=q+1
    p:=0
    if j == b.size then return mDn a b o i j
    if q≥g then break
   else
    o:=o.push (← elem' a i)
    i:=i+1
    p:=p+1
    q:=0
    if i+1 == a.size then return mLa a b o i j
    if p≥g then break
  rule "list.sort.gallop"
  g:=g+1
  for _ in [0:a.size+b.size] do
   if g > 1 then g:=g - 1
   smg g
   let some k ← gal false (← elem' b j) a i (a.size - i) 0 | return mDn a b o i j
   p:=k
   if k > 0 then
    o:=o++a.extract i (i+k)
    i:=i+k
    if i+1 == a.size then return mLa a b o i j
    if i == a.size then return mDn a b o i j
   o:=o.push (← elem' b j)
   j:=j+1
   if j == b.size then return mDn a b o i j
   let some k ← gal true (← elem' a i) b j (b.size - j) 0 | return mDn a b o i j
   q:=k
   if k > 0 then
    o:=o++b.extract j (j+k)
    j:=j+k
    if j == b.size then return mDn a b o i j
   o:=o.push (← elem' a i)
   i:=i+1
   if i+1 == a.size then return mLa a b o i j
   if p < 7 && q < 7 then break
  g:=g+1
  smg g
 unsupported "internal:list.sort.merge-bound"):=rfl
end Ts
namespace Ts
open PySem PyProof.Rows
variable {κ:KeyKind}
def lek (κ:KeyKind)(x y:Keyed):Prop:=κ.kle (kof κ x) (kof κ y)
theorem cK {x y z:Keyed}(h:lek κ x y)(g:lek κ y z):lek κ x z:=Be h g
theorem pM (x:Keyed):lek κ x x:=Ap _
def Srt (κ:KeyKind)(l:List Keyed):Prop:=l.Pairwise (lek κ)
theorem Srt.drop {l:List Keyed}(h:Srt κ l)(i:Nat):Srt κ (l.drop i):=List.Pairwise.sublist (List.drop_sublist i l) h
theorem Srt.take {l:List Keyed}(h:Srt κ l)(i:Nat):Srt κ (l.take i):=List.Pairwise.sublist (List.take_sublist i l) h
def Lel (κ:KeyKind)(l m:List Keyed):Prop:=∀ x∈l,∀ y∈m,lek κ x y
theorem aZ {l m:List Keyed}:Srt κ (l++m) ↔ Srt κ l∧Srt κ m∧Lel κ l m:=List.pairwise_append
theorem Srt.at {l:List Keyed}(h:Srt κ l){i j:Nat}{x y:Keyed}(hij:i≤j)(hx:l[i]? = some x)(hy:l[j]? = some y):lek κ x y:=by
 by_cases e:i=j
 ·subst e
  rw [hx] at hy
  cases hy
  exact pM _
 ·obtain ⟨h1,e1⟩:=zf.mp hx
  obtain ⟨h2,e2⟩:=zf.mp hy
  have:=Bo.mp h i j h1 h2 (by omega)
  rw [e1,e2] at this
  exact this
theorem bD {l:List Keyed}{i:Nat}{x:Keyed}(h:l[i]? = some x):l.drop i=x::l.drop (i+1):=by
 obtain ⟨h1,e1⟩:=zf.mp h
 rw [Bp h1,e1]
theorem aX {l:List Keyed}{i:Nat}{x:Keyed}(h:l[i]? = some x):l.take (i+1)=l.take i++[x]:=by
 rw [zZ,h]
 rfl
structure Mc (κ:KeyKind) (A B O:List Keyed) (i j:Nat):Prop where
 pm:O.Perm (A.take i++B.take j)
 so:Srt κ O
 la:Lel κ O (A.drop i)
 lb:Lel κ O (B.drop j)
 hi:i≤A.length
 hj:j≤B.length
theorem Mc.pushA {A B O:List Keyed}{i j:Nat}(M:Mc κ A B O i j)(sA:Srt κ A){x:Keyed}(h:A[i]? = some x)(hx:Lel κ [x] (B.drop j)):Mc κ A B (O++[x]) (i+1) j:=by
 have ed:=bD h
 have sd:=sA.drop i
 rw [ed] at sd
 have sd':=Bg.mp sd
 refine ⟨?_,aZ.mpr ⟨M.so,Cq _ _,fun o ho y hy=>?_⟩,fun o ho y hy=>?_,fun o ho y hy=>?_,(zf.mp h).1,M.hj⟩
 ·rw [aX h]
  refine (M.pm.append_right [x]).trans ?_
  rw [zh,zh]
  exact AJ _ A4
 ·rw [zc] at hy
  subst hy
  exact M.la o ho _ (by rw [ed];exact zP)
 ·rcases zN.mp ho with ho | ho
  ·exact M.la o ho y (by rw [ed];exact Ac _ hy)
  ·rw [zc] at ho
   subst ho
   exact sd'.1 y hy
 ·rcases zN.mp ho with ho | ho
  ·exact M.lb o ho y hy
  ·exact hx o ho y hy
theorem Mc.pushB {A B O:List Keyed}{i j:Nat}(M:Mc κ A B O i j)(sB:Srt κ B){x:Keyed}(h:B[j]? = some x)(hx:Lel κ [x] (A.drop i)):Mc κ A B (O++[x]) i (j+1):=by
 have ed:=bD h
 have sd:=sB.drop j
 rw [ed] at sd
 have sd':=Bg.mp sd
 refine ⟨?_,aZ.mpr ⟨M.so,Cq _ _,fun o ho y hy=>?_⟩,fun o ho y hy=>?_,fun o ho y hy=>?_,M.hi,(zf.mp h).1⟩
 ·rw [aX h]
  refine (M.pm.append_right [x]).trans ?_
  rw [zh]
 ·rw [zc] at hy
  subst hy
  exact M.lb o ho _ (by rw [ed];exact zP)
 ·rcases zN.mp ho with ho | ho
  ·exact M.la o ho y hy
  ·exact hx o ho y hy
 ·rcases zN.mp ho with ho | ho
  ·exact M.lb o ho y (by rw [ed];exact Ac _ hy)
  ·rw [zc] at ho
   subst ho
   exact sd'.1 y hy
theorem Mc.pushAs {A B O:List Keyed}{i j:Nat}(M:Mc κ A B O i j)(sA:Srt κ A):∀ k,i+k≤A.length→Lel κ ((A.drop i).take k) (B.drop j)→Mc κ A B (O++(A.drop i).take k) (i+k) j
 | 0,_,_=>by simpa using M
 | k+1,hk,hl=>by
  have hlt:i+k < A.length:=by omega
  have e:(A.drop i)[k]? = some A[i+k]:=by rw [Ae,y_ hlt]
  have et:(A.drop i).take (k+1)=(A.drop i).take k++[A[i+k]]:=aX e
  rw [et] at hl ⊢
  have ih:=Mc.pushAs M sA k (by omega) fun x hx=>hl x (zJ _ hx)
  have:=ih.pushA sA (y_ hlt) fun x hx=>hl x (zr _ hx)
  rw [zh] at this
  exact this
theorem Mc.pushBs {A B O:List Keyed}{i j:Nat}(M:Mc κ A B O i j)(sB:Srt κ B):∀ k,j+k≤B.length→Lel κ ((B.drop j).take k) (A.drop i)→Mc κ A B (O++(B.drop j).take k) i (j+k)
 | 0,_,_=>by simpa using M
 | k+1,hk,hl=>by
  have hlt:j+k < B.length:=by omega
  have e:(B.drop j)[k]? = some B[j+k]:=by rw [Ae,y_ hlt]
  have et:(B.drop j).take (k+1)=(B.drop j).take k++[B[j+k]]:=aX e
  rw [et] at hl ⊢
  have ih:=Mc.pushBs M sB k (by omega) fun x hx=>hl x (zJ _ hx)
  have:=ih.pushB sB (y_ hlt) fun x hx=>hl x (zr _ hx)
  rw [zh] at this
  exact this
def Mg (κ:KeyKind)(A B R:List Keyed):Prop:=R.Perm (A++B)∧Srt κ R
theorem Mc.perm {A B O:List Keyed}{i j:Nat}(M:Mc κ A B O i j):(O++(A.drop i++B.drop j)).Perm (A++B):=by
 have h1:(O++(A.drop i++B.drop j)).Perm ((A.take i++B.take j)++(A.drop i++B.drop j)):=M.pm.append_right _
 refine h1.trans ?_
 have h2:((A.take i++B.take j)++(A.drop i++B.drop j)).Perm ((A.take i++A.drop i)++(B.take j++B.drop j)):=by
  rw [zh,zh]
  refine AJ _ ?_
  rw [← zh,← zh]
  exact BF _ A4
 rw [zI,zI] at h2
 exact h2
theorem Mc.done {A B O:List Keyed}{i j:Nat}(M:Mc κ A B O i j)(sA:Srt κ A)(sB:Srt κ B)(h:i=A.length ∨ j=B.length):Mg κ A B (O++A.drop i++B.drop j):=by
 refine ⟨by rw [zh];exact M.perm,?_⟩
 rw [zh]
 refine aZ.mpr ⟨M.so,aZ.mpr ⟨sA.drop i,sB.drop j,fun x hx y hy=>?_⟩,fun o ho y hy=>?_⟩
 ·rcases h with h | h
  ·subst h;rw [List.drop_length] at hx;cases hx
  ·subst h;rw [List.drop_length] at hy;cases hy
 ·rcases zN.mp hy with hy | hy
  ·exact M.la o ho y hy
  ·exact M.lb o ho y hy
theorem Mc.last {A B O:List Keyed}{i j:Nat}(M:Mc κ A B O i j)(sA:Srt κ A)(sB:Srt κ B)(h:i+1=A.length)(hl:∀ z,A[A.length - 1]? = some z→Lel κ B [z]):Mg κ A B (O++B.drop j++A.drop i):=by
 have hlt:i < A.length:=by omega
 have ed:A.drop i=[A[i]]:=by rw [bD (y_ hlt),BG (by omega)]
 refine ⟨?_,?_⟩
 ·refine List.Perm.trans ?_ M.perm
  rw [zh]
  exact AJ _ A4
 ·rw [zh]
  refine aZ.mpr ⟨M.so,aZ.mpr ⟨sB.drop j,sA.drop i,fun x hx y hy=>?_⟩,fun o ho y hy=>?_⟩
  ·rw [ed] at hy
   exact hl A[i] (by rw [show A.length - 1=i by omega];exact y_ hlt) x (AK hx) y hy
  ·rcases zN.mp hy with hy | hy
   ·exact M.lb o ho y hy
   ·exact M.la o ho y hy
theorem jR (a b o:Array Keyed)(i j:Nat):(mDn a b o i j).toList=o.toList++a.toList.drop i++b.toList.drop j:=by
 simp [mDn,AC,zB]
theorem jS (a b o:Array Keyed)(i j:Nat):(mLa a b o i j).toList=o.toList++b.toList.drop j++a.toList.drop i:=by
 simp [mLa,AC,zB]
theorem jT (a:Array Keyed)(i k:Nat):(a.extract i (i+k)).toList=(a.toList.drop i).take k:=by
 simp [AC,List.take_drop]
theorem jU {lf:Bool}{key x y:κ.α}(h:κ.kle x y)(hb:bdB κ lf key y=true):bdB κ lf key x=true:=by
 unfold bdB at hb ⊢
 cases lf with
 | true=>exact KeyOrd.klt_of_kle_of_klt h hb
 | false =>
  have hb:(!κ.blt key y)=true:=hb
  have hy:κ.kle y key:=by show κ.blt key y=false;simpa using hb
  have:=Be h hy
  show (!κ.blt key x)=true
  have this:κ.blt key x=false:=this
  rw [this]
  rfl
end Ts
namespace Ts
open PySem PyProof.Rows
section
variable {prog:Program} {w:World} {A:Around} {E:Value→Shared→Prop} {s:Shared} {κ:KeyKind}
structure Ok (st st':SortSt):Prop where
 tb:TB st'
 ar:arrOf st'=arrOf st
 pd:pendingOf st'=pendingOf st
theorem Ok.refl {st:SortSt}(h:TB st):Ok st st:=⟨h,rfl,rfl⟩
theorem fT {st st':SortSt}{g:Nat}{Q:Unit→SortSt→Prop}(h:Ok st st')(q:∀ st'',Ok st st''→Q () st''):wpS (model prog w) A E s (smg g) Q st':=by
 refine Bx (q _ ⟨⟨h.tb.kind,h.tb.failed⟩,h.ar,h.pd⟩)
theorem aJ {st:SortSt}{arr:Array Keyed}{i:Nat}{x:Keyed}{Q:Keyed→SortSt→Prop}(e:arr.toList[i]? = some x)(h:Q x st):wpS (model prog w) A E s (elem' arr i) Q st:=by
 have e':arr[i]? = some x:=by simpa using e
 rw [elem'_eq,e']
 exact zm h
theorem jV {st:SortSt}{lf:Bool}{key:Keyed}{arr:Array Keyed}{i:Nat}{Q:Option Nat→SortSt→Prop}(hO:κ.OneLt)(hB:TB st)(hk:Gd κ key)(hg:∀ x∈arr.toList,Gd κ x)(sa:Srt κ arr.toList)(hi:i < arr.size)
  (hq:∀ k,i+k≤arr.size→(∀ x∈(arr.toList.drop i).take k,bdB κ lf (kof κ key) (kof κ x)=true)→(∀ x∈arr.toList.drop (i+k),bdB κ lf (kof κ key) (kof κ x)=false)→Q (some k) st) :
  wpS (model prog w) A E s (gal lf key arr i (arr.size - i) 0) Q st:=by
 have hl:arr.toList.length=arr.size:=ze
 refine i8 hO hB hk (fun t=>match arr.toList[i+t]? with | some p=>bdB κ lf (kof κ key) (kof κ p) | none=>false) (by omega) (fun t ht=>?_) (fun t u htu hu hb=>?_) (fun k hk' h1 h2=>hq k (by omega) (fun x hx=>?_) fun x hx=>?_)
 ·have hlt:i+t < arr.toList.length:=by omega
  have e:=y_ hlt
  refine ⟨arr.toList[i+t],by simpa using e,hg _ (zL hlt),?_⟩
  rw [e]
 ·have h1:i+t < arr.toList.length:=by omega
  have h2:i+u < arr.toList.length:=by omega
  have e1:=y_ h1
  have e2:=y_ h2
  rw [e2] at hb
  rw [e1]
  exact jU (sa.at (by omega) e1 e2) hb
 ·obtain ⟨t,e⟩:=Aj hx
  have ht:t < k:=by
   have:=(zf.mp e).1
   rw [zo] at this
   omega
  rw [A5,if_pos ht,Ae] at e
  have:=h1 t ht
  rw [e] at this
  exact this
 ·obtain ⟨t,e⟩:=Aj hx
  rw [Ae] at e
  have hlt:=(zf.mp e).1
  have:=h2 (k+t) (by omega) (by omega)
  rw [show i+(k+t)=i+k+t by omega,e] at this
  exact this
theorem not_lt {x y:Keyed}(h:κ.blt (kof κ x) (kof κ y)=false):lek κ y x:=h
theorem pN {x y:Keyed}(h:κ.blt (kof κ x) (kof κ y)=true):lek κ x y:=Bi h
theorem eG {l:List Keyed}(sl:Srt κ l){i:Nat}{x y:Keyed}(e:l[i]? = some y)(h:lek κ x y):Lel κ [x] (l.drop i):=fun z hz t ht=>by
 rw [zc] at hz
 subst hz
 rw [bD e] at ht
 rcases zt.mp ht with rfl | ht
 ·exact h
 ·have sd:=sl.drop i
  rw [bD e] at sd
  exact cK h ((Bg.mp sd).1 t ht)
abbrev MSt:=Option (Array Keyed) × Array Keyed × Nat × Nat × Nat × Nat × Nat
def jp3 (a b:Array Keyed)(i g p q:Nat)(o:Array Keyed)(j:Nat):StateT SortSt Sem (ForInStep MSt):=do
 let e ← elem' a i
 if (i+1+1 == a.size)=true then pure (.done (some (mLa a b (o.push e) (i+1) j),o.push e,i+1,j,g,p,q))
 else if (decide (p < 7) && decide (q < 7))=true then pure (.done (none,o.push e,i+1,j,g,p,q)) else pure (.yield (none,o.push e,i+1,j,g,p,q))
def jp2 (a b:Array Keyed)(j g p q:Nat)(o:Array Keyed)(i:Nat):StateT SortSt Sem (ForInStep MSt):=do
 let e ← elem' b j
 if (j+1 == b.size)=true then pure (.done (some (mDn a b (o.push e) i (j+1)),o.push e,i,j+1,g,p,q))
 else do
  let f ← elem' a i
  let y ← gal true f b (j+1) (b.size - (j+1)) 0
  match y with
  | some k=>if k > 0 then (if (j+1+k == b.size)=true then pure (.done (some (mDn a b (o.push e++b.extract (j+1) (j+1+k)) i (j+1+k)),o.push e++b.extract (j+1) (j+1+k),i,j+1+k,g,p,k)) else jp3 a b i g p k (o.push e++b.extract (j+1) (j+1+k)) (j+1+k)) else jp3 a b i g p k (o.push e) (j+1)
  | _=>pure (.done (some (mDn a b (o.push e) i (j+1)),o.push e,i,j+1,g,p,q))
def jp1 (a b:Array Keyed)(o:Array Keyed)(i j p q g:Nat):StateT SortSt Sem (ForInStep MSt):=do
 smg g
 let e ← elem' b j
 let y ← gal false e a i (a.size - i) 0
 match y with
 | some k=>if k > 0 then (if (i+k+1 == a.size)=true then pure (.done (some (mLa a b (o++a.extract i (i+k)) (i+k) j),o++a.extract i (i+k),i+k,j,g,k,q)) else if (i+k == a.size)=true then pure (.done (some (mDn a b (o++a.extract i (i+k)) (i+k) j),o++a.extract i (i+k),i+k,j,g,k,q)) else jp2 a b j g k q (o++a.extract i (i+k)) (i+k)) else jp2 a b j g k q o i
 | _=>pure (.done (some (mDn a b o i j),o,i,j,g,p,q))
def Pst (κ:KeyKind)(a b:Array Keyed)(x:Nat)(st:SortSt)(r:ForInStep MSt)(st':SortSt):Prop:=match r with
 | .done c=>((∃ r z,c=(some r,z)∧Mg κ a.toList b.toList r.toList) ∨ ∃ o i j g p q,c=(none,o,i,j,g,p,q)∧Mc κ a.toList b.toList o.toList i j∧i+1 < a.size∧j < b.size∧x+2≤i+j)∧Ok st st'
 | .yield c=>∃ o i j g p q,c=(none,o,i,j,g,p,q)∧Mc κ a.toList b.toList o.toList i j∧i+1 < a.size∧j < b.size∧x+2≤i+j∧Ok st st'
structure Two (κ:KeyKind) (a b:Array Keyed):Prop where
 ga:∀ x∈a.toList,Gd κ x
 gb:∀ x∈b.toList,Gd κ x
 sa:Srt κ a.toList
 sb:Srt κ b.toList
 hl:∀ z,a.toList[a.size - 1]? = some z→Lel κ b.toList [z]
theorem Two.atA {a b:Array Keyed}(T:Two κ a b){i:Nat}(hi:i < a.size):∃ x,a.toList[i]? = some x∧Gd κ x:=⟨a.toList[i]'(by rw [ze]; exact hi),y_ (by rw [ze]; exact hi),T.ga _ (zL _)⟩
theorem Two.atB {a b:Array Keyed}(T:Two κ a b){i:Nat}(hi:i < b.size):∃ x,b.toList[i]? = some x∧Gd κ x:=⟨b.toList[i]'(by rw [ze]; exact hi),y_ (by rw [ze]; exact hi),T.gb _ (zL _)⟩
theorem Two.dn {a b:Array Keyed}(T:Two κ a b){o:Array Keyed}{i j:Nat}(M:Mc κ a.toList b.toList o.toList i j)(h:i=a.size ∨ j=b.size):Mg κ a.toList b.toList (mDn a b o i j).toList:=by
 rw [jR]
 exact M.done T.sa T.sb (by rw [ze,ze];exact h)
theorem Two.ls {a b:Array Keyed}(T:Two κ a b){o:Array Keyed}{i j:Nat}(M:Mc κ a.toList b.toList o.toList i j)(h:i+1=a.size):Mg κ a.toList b.toList (mLa a b o i j).toList:=by
 rw [jS]
 exact M.last T.sa T.sb (by rw [ze];exact h) (by rw [ze];exact T.hl)
theorem mU {st st':SortSt}{a b o:Array Keyed}{i j g p q x:Nat}{xa:Keyed}(T:Two κ a b)(M:Mc κ a.toList b.toList o.toList i j)(hi:i+1 < a.size)(hj:j < b.size)(hx:x+2≤i+j)(ok:Ok st st')(exa:a.toList[i]? = some xa)(hle:Lel κ [xa] (b.toList.drop j)) :
  wpS (model prog w) A E s (jp3 a b i g p q o j) (Pst κ a b x st) st':=by
 unfold jp3
 refine zg (aJ exa ?_)
 have M':Mc κ a.toList b.toList (o.push xa).toList (i+1) j:=by rw [A8];exact M.pushA T.sa exa hle
 by_cases hia:i+1+1=a.size
 ·refine au (by simpa using hia) ?_
  exact zm ⟨.inl ⟨_,_,rfl,T.ls M' hia⟩,ok⟩
 ·refine av (by simpa using hia) ?_
  by_cases hpq:(decide (p < 7) && decide (q < 7))=true
  ·refine au hpq ?_
   exact zm ⟨.inr ⟨_,_,_,_,_,_,rfl,M',by omega,hj,by omega⟩,ok⟩
  ·refine av hpq ?_
   exact zm ⟨_,_,_,_,_,_,rfl,M',by omega,hj,by omega,ok⟩
theorem dQ {x y:Keyed}:bdB κ false (kof κ x) (kof κ y)=true→lek κ y x:=fun h=>by
 unfold bdB at h
 have h:(!κ.blt (kof κ x) (kof κ y))=true:=h
 show κ.blt (kof κ x) (kof κ y)=false
 simpa using h
theorem eI {x y:Keyed}:bdB κ false (kof κ x) (kof κ y)=false→lek κ x y:=fun h=>by
 unfold bdB at h
 have h:(!κ.blt (kof κ x) (kof κ y))=false:=h
 exact pN (by simpa using h)
theorem i9 {x y:Keyed}:bdB κ true (kof κ x) (kof κ y)=true→lek κ y x:=fun h=>pN h
theorem fU {x y:Keyed}:bdB κ true (kof κ x) (kof κ y)=false→lek κ x y:=fun h=>h
theorem mV {st st':SortSt}{a b o:Array Keyed}{i j g p q x:Nat}{xb:Keyed}(hO:κ.OneLt)(T:Two κ a b)(M:Mc κ a.toList b.toList o.toList i j)(hi:i+1 < a.size)(hj:j < b.size)(hx:x+2≤i+j)(ok:Ok st st')(exb:b.toList[j]? = some xb)(hle:Lel κ [xb] (a.toList.drop i)) :
  wpS (model prog w) A E s (jp2 a b j g p q o i) (Pst κ a b x st) st':=by
 have la:a.toList.length=a.size:=ze
 have lb:b.toList.length=b.size:=ze
 unfold jp2
 refine zg (aJ exb ?_)
 have M':Mc κ a.toList b.toList (o.push xb).toList i (j+1):=by rw [A8];exact M.pushB T.sb exb hle
 by_cases hjb:j+1=b.size
 ·refine au (by simpa using hjb) ?_
  exact zm ⟨.inl ⟨_,_,rfl,T.dn M' (.inr hjb)⟩,ok⟩
 refine av (by simpa using hjb) ?_
 obtain ⟨xa,exa,gxa⟩:=T.atA (i:=i) (by omega)
 refine zg (aJ exa (zg (jV hO ok.tb gxa T.gb T.sb (by omega) fun k hk t1 t2=>?_)))
 dsimp only
 have MB:Mc κ a.toList b.toList ((o.push xb).toList++(b.toList.drop (j+1)).take k) i (j+1+k):=M'.pushBs T.sb k (by omega) fun z hz=>eG T.sa exa (i9 (t1 z hz)) z (zc.mpr rfl)
 have rest:Lel κ [xa] (b.toList.drop (j+1+k)):=fun z hz y hy=>by
  rw [zc] at hz
  subst hz
  exact fU (t2 y hy)
 by_cases hk0:k > 0
 ·refine au hk0 ?_
  have MB':Mc κ a.toList b.toList (o.push xb++b.extract (j+1) (j+1+k)).toList i (j+1+k):=by rw [B4,jT];exact MB
  by_cases hje:j+1+k=b.size
  ·refine au (by simpa using hje) ?_
   exact zm ⟨.inl ⟨_,_,rfl,T.dn MB' (.inr hje)⟩,ok⟩
  ·refine av (by simpa using hje) ?_
   exact mU T MB' hi (by omega) (by omega) ok exa rest
 ·refine av hk0 ?_
  have:k=0:=by omega
  subst this
  exact mU T M' hi (by omega) (by omega) ok exa rest
theorem mW {st st':SortSt}{a b o:Array Keyed}{i j g p q x:Nat}(hO:κ.OneLt)(T:Two κ a b)(M:Mc κ a.toList b.toList o.toList i j)(hi:i+1 < a.size)(hj:j < b.size)(hx:x+2≤i+j)(ok:Ok st st') :
  wpS (model prog w) A E s (jp1 a b o i j p q g) (Pst κ a b x st) st':=by
 have la:a.toList.length=a.size:=ze
 have lb:b.toList.length=b.size:=ze
 unfold jp1
 refine zg (fT ok fun st3 ok3=>?_)
 obtain ⟨xb,exb,gxb⟩:=T.atB hj
 refine zg (aJ exb (zg (jV hO ok3.tb gxb T.ga T.sa (by omega) fun k hk t1 t2=>?_)))
 dsimp only
 have MA:Mc κ a.toList b.toList (o.toList++(a.toList.drop i).take k) (i+k) j:=M.pushAs T.sa k (by omega) fun z hz=>eG T.sb exb (dQ (t1 z hz)) z (zc.mpr rfl)
 have rest:Lel κ [xb] (a.toList.drop (i+k)):=fun z hz y hy=>by
  rw [zc] at hz
  subst hz
  exact eI (t2 y hy)
 by_cases hk0:k > 0
 ·refine au hk0 ?_
  have MA':Mc κ a.toList b.toList (o++a.extract i (i+k)).toList (i+k) j:=by rw [B4,jT];exact MA
  by_cases h1:i+k+1=a.size
  ·refine au (by simpa using h1) ?_
   exact zm ⟨.inl ⟨_,_,rfl,T.ls MA' h1⟩,ok3⟩
  ·refine av (by simpa using h1) ?_
   by_cases h2:i+k=a.size
   ·refine au (by simpa using h2) ?_
    exact zm ⟨.inl ⟨_,_,rfl,T.dn MA' (.inl h2)⟩,ok3⟩
   ·refine av (by simpa using h2) ?_
    exact mV hO T MA' (by omega) hj (by omega) ok3 exb rest
 ·refine av hk0 ?_
  have:k=0:=by omega
  subst this
  exact mV hO T M hi hj hx ok3 exb rest
theorem sD {st:SortSt}{a b:Array Keyed}{Q:Array Keyed→SortSt→Prop}(hO:κ.OneLt)(hB:TB st)(ga:∀ x∈a.toList,Gd κ x)(gb:∀ x∈b.toList,Gd κ x)(sa:Srt κ a.toList)(sb:Srt κ b.toList)(h0:0 < a.size)(h1:0 < b.size)
  (hf:∀ x y,a.toList[0]? = some x→b.toList[0]? = some y→lek κ y x) (hl:∀ z,a.toList[a.size - 1]? = some z→Lel κ b.toList [z])
  (hq:∀ r st',Ok st st'→Mg κ a.toList b.toList r.toList→Q r st'):wpS (model prog w) A E s (mlo a b) Q st:=by
 have la:a.toList.length=a.size:=ze
 have lb:b.toList.length=b.size:=ze
 have hl:∀ z,a.toList[a.toList.length - 1]? = some z→Lel κ b.toList [z]:=by rw [la];exact hl
 have atA:∀ {i:Nat},i < a.size→∃ x,a.toList[i]? = some x∧Gd κ x:=fun {i} hi=>⟨a.toList[i]'(by omega),y_ (by omega),ga _ (zL _)⟩
 have atB:∀ {i:Nat},i < b.size→∃ x,b.toList[i]? = some x∧Gd κ x:=fun {i} hi=>⟨b.toList[i]'(by omega),y_ (by omega),gb _ (zL _)⟩
 rw [ve]
 refine zg (CL (AB ⟨rfl,?_⟩))
 obtain ⟨y0,ey0,gy0⟩:=atB h1
 obtain ⟨x0,ex0,gx0⟩:=atA h0
 refine zg (aJ ey0 ?_)
 have M0:Mc κ a.toList b.toList [y0] 0 1:=by
  have:Mc κ a.toList b.toList ([]++[y0]) 0 (0+1):=Mc.pushB (O:=[]) (i:=0) (j:=0) ⟨Ce _,.nil,(fun x hx=>by cases hx),(fun x hx=>by cases hx),AG _,AG _⟩ sb ey0 (eG sa ex0 (hf _ _ ex0 ey0))
  exact this
 have dn:∀ {o:Array Keyed} {i j:Nat},Mc κ a.toList b.toList o.toList i j→(i=a.size ∨ j=b.size)→Mg κ a.toList b.toList (mDn a b o i j).toList:=fun M h=>by rw [jR];exact M.done sa sb (by rw [la,lb];exact h)
 have ls:∀ {o:Array Keyed} {i j:Nat},Mc κ a.toList b.toList o.toList i j→i+1=a.size→Mg κ a.toList b.toList (mLa a b o i j).toList:=fun M h=>by rw [jS];exact M.last sa sb (by rw [la];exact h) hl
 dsimp only
 by_cases hb1:1=b.size
 ·refine au (by simpa using hb1) ?_
  exact zm (hq _ _ (.refl hB) (dn (o:=#[y0]) M0 (.inr hb1)))
 refine av (by simpa using hb1) ?_
 by_cases ha1:0+1=a.size
 ·refine au (by simpa using ha1) ?_
  exact zm (hq _ _ (.refl hB) (ls (o:=#[y0]) M0 ha1))
 refine av (by simpa using ha1) ?_
 refine zg (Cd ?_)
 refine zg (AM (z9 (I:=fun x c st'=>∃ o i j g,c=(none,o,i,j,g)∧Mc κ a.toList b.toList o.toList i j∧i+1 < a.size∧j < b.size∧x+1≤i+j∧Ok st st')
  (Q:=fun c st'=>∃ r z,c=(some r,z)∧Mg κ a.toList b.toList r.toList∧Ok st st') ?step ?fin ⟨#[y0],0,1,_,rfl,M0,by omega,by omega,by omega,.refl hB⟩) ?post)
 case post =>
  rintro c st' ⟨r,z,rfl,m,ok⟩
  exact zm (hq _ _ ok m)
 case fin =>
  rintro c st' ⟨o,i,j,g,rfl,M,hi,hj,hx,ok⟩
  omega
 case step =>
  rintro x c st1 _ hx ⟨o,i,j,g,rfl,M,hi,hj,hij,ok1⟩
  dsimp only
  refine zg (AM (z9 (I:=fun y c st'=>st'=st1∧∃ o i j p q,c=(none,o,i,j,p,q)∧Mc κ a.toList b.toList o.toList i j∧i+1 < a.size∧j < b.size∧x+1+y≤i+j)
   (Q:=fun c st'=>st'=st1∧((∃ r z,c=(some r,z)∧Mg κ a.toList b.toList r.toList) ∨ ∃ o i j p q,c=(none,o,i,j,p,q)∧Mc κ a.toList b.toList o.toList i j∧i+1 < a.size∧j < b.size∧x+2≤i+j)) ?step1 ?fin1 ⟨rfl,o,i,j,0,0,rfl,M,hi,hj,by omega⟩) ?post1)
  case fin1 =>
   rintro c st' ⟨rfl,o,i,j,p,q,rfl,M,hi,hj,hy⟩
   exact ⟨rfl,.inr ⟨o,i,j,p,q,rfl,M,hi,hj,by omega⟩⟩
  case step1 =>
   rintro y c st' _ hy ⟨rfl,o,i,j,p,q,rfl,M,hi,hj,hij⟩
   dsimp only
   obtain ⟨xb,exb,gxb⟩:=atB hj
   obtain ⟨xa,exa,gxa⟩:=atA (i:=i) (by omega)
   refine zg (aJ exb (zg (aJ exa (zg (jQ hO ok1.tb gxb gxa ?_)))))
   cases eb:κ.blt (kof κ xb) (kof κ xa) with
   | true =>
    simp only [Bf]
    refine zg (aJ exb ?_)
    have M':Mc κ a.toList b.toList (o.push xb).toList i (j+1):=by rw [A8];exact M.pushB sb exb (eG sa exa (pN eb))
    by_cases hjb:j+1=b.size
    ·refine au (by simpa using hjb) ?_
     exact zm ⟨rfl,.inl ⟨_,_,rfl,dn M' (.inr hjb)⟩⟩
    ·refine av (by simpa using hjb) ?_
     by_cases hqg:q+1≥g
     ·refine au hqg ?_
      exact zm ⟨rfl,.inr ⟨_,_,_,_,_,rfl,M',hi,by omega,by omega⟩⟩
     ·refine av hqg ?_
      exact zm ⟨rfl,_,_,_,_,_,rfl,M',hi,by omega,by omega⟩
   | false =>
    simp only [zp,AE]
    refine zg (aJ exa ?_)
    have M':Mc κ a.toList b.toList (o.push xa).toList (i+1) j:=by rw [A8];exact M.pushA sa exa (eG sb exb (not_lt eb))
    by_cases hia:i+1+1=a.size
    ·refine au (by simpa using hia) ?_
     exact zm ⟨rfl,.inl ⟨_,_,rfl,ls M' hia⟩⟩
    ·refine av (by simpa using hia) ?_
     by_cases hpg:p+1≥g
     ·refine au hpg ?_
      exact zm ⟨rfl,.inr ⟨_,_,_,_,_,rfl,M',by omega,hj,by omega⟩⟩
     ·refine av hpg ?_
      exact zm ⟨rfl,_,_,_,_,_,rfl,M',by omega,hj,by omega⟩
  case post1 =>
   rintro c st' ⟨rfl,⟨r,z,rfl,m⟩ | ⟨o,i,j,p,q,rfl,M,hi,hj,hij⟩⟩
   ·exact zm ⟨r,_,rfl,m,ok1⟩
   dsimp only
   refine zg (CL (AB ⟨rfl,?_⟩))
   refine zg (AM (z9 (I:=fun y c st'=>∃ o i j g p q,c=(none,o,i,j,g,p,q)∧Mc κ a.toList b.toList o.toList i j∧i+1 < a.size∧j < b.size∧x+2≤i+j∧Ok st st')
    (Q:=fun c st'=>((∃ r z,c=(some r,z)∧Mg κ a.toList b.toList r.toList) ∨ ∃ o i j g p q,c=(none,o,i,j,g,p,q)∧Mc κ a.toList b.toList o.toList i j∧i+1 < a.size∧j < b.size∧x+2≤i+j)∧Ok st st') ?step2 ?fin2 ⟨o,i,j,_,p,q,rfl,M,hi,hj,hij,ok1⟩) ?post2)
   case fin2 =>
    rintro c st' ⟨o,i,j,g,p,q,rfl,M,hi,hj,hij,ok⟩
    exact ⟨.inr ⟨o,i,j,g,p,q,rfl,M,hi,hj,hij⟩,ok⟩
   case post2 =>
    rintro c st' ⟨⟨r,z,rfl,m⟩ | ⟨o,i,j,g,p,q,rfl,M,hi,hj,hij⟩,ok⟩
    ·exact zm ⟨r,_,rfl,m,ok⟩
    ·dsimp only
     exact zg (fT ok fun st'' ok'=>zm ⟨o,i,j,_,rfl,M,hi,hj,by omega,ok'⟩)
   case step2 =>
    rintro y c st2 _ hy ⟨o,i,j,g,p,q,rfl,M,hi,hj,hij,ok2⟩
    dsimp only
    change wpS _ _ _ _ (if g > 1 then jp1 a b o i j p q (g - 1) else jp1 a b o i j p q g) _ _
    refine AM (Q:=Pst κ a b x st) ?_ fun r st' h=>?_
    rotate_left
    ·cases r with
     | done c=>exact h
     | yield c=>exact h
    by_cases hg:g > 1
    ·refine au hg ?_
     exact mW hO ⟨ga,gb,sa,sb,by rw [← la];exact hl⟩ M hi hj hij ok2
    ·refine av hg ?_
     exact mW hO ⟨ga,gb,sa,sb,by rw [← la];exact hl⟩ M hi hj hij ok2
end
end Ts
namespace Ts
open PySem PyProof.Rows
def mhi:Array Keyed→Array Keyed→StateT SortSt Sem (Array Keyed):=sortPriv% PySem.Builtin.mergeHi
abbrev hDn (a b o:Array Keyed)(i j:Nat):Array Keyed:=a.extract 0 i++b.extract 0 j++o.reverse
abbrev hFb (a b o:Array Keyed)(i j:Nat):Array Keyed:=b.extract 0 j++a.extract 0 i++o.reverse
theorem vf (a b:Array Keyed):mhi a b=(do
 rule "list.sort.merge-hi"
 let mut i:=a.size - 1
 let mut j:=b.size
 let mut o:Array Keyed:=#[← elem' a i]
 if i == 0 then return hDn a b o i j
 if j == 1 then return hFb a b o i j
 let mut g:=gallopOf (← get)
 for _ in [0:a.size+b.size] do
  let mut p:=0
  let mut q:=0
  for _ in [0:a.size+b.size] do
   let some w ← lt' (← elem' b (j - 1)) (← elem' a (i - 1)) | return hDn a b o i j
   if w then
    i:=i - 1
    o:=o.push (← elem' a i)
    p:=p+1
    q:=0
    if i == 0 then return hDn a b o i j
    if p≥g then break
   else
    j:=j - 1
    o:=o.push (← elem' b j)
    q:=q+1
    p:=0
    if j == 1 then return hFb a b o i j
    if q≥g then break
  rule "list.sort.gallop"
  g:=g+1
  for _ in [0:a.size+b.size] do
   if g > 1 then g:=g - 1
   smg g
   let some t ← gal false (← elem' b (j - 1)) a 0 i (i - 1) | return hDn a b o i j
   let k:=i - t
   p:=k
   if k > 0 then
    o:=o++(a.extract t i).reverse
    i:=t
    if i == 0 then return hDn a b o i j
   j:=j - 1
   o:=o.push (← elem' b j)
   if j == 1 then return hFb a b o i j
   let some t ← gal true (← elem' a (i - 1)) b 0 j (j - 1) | return hDn a b o i j
   let k:=j - t
   q:=k
   if k > 0 then
    o:=o++(b.extract t j).reverse
    j:=t
    if j == 1 then return hFb a b o i j
    if j == 0 then return hDn a b o i j
   i:=i - 1
   o:=o.push (← elem' a i)
   if i == 0 then return hDn a b o i j
   if p < 7 && q < 7 then break
  g:=g+1
  smg g
 unsupported "internal:list.sort.merge-bound"):=rfl
variable {κ:KeyKind}
structure Mh (κ:KeyKind) (A B R:List Keyed) (i j:Nat):Prop where
 pm:R.Perm (A.drop i++B.drop j)
 so:Srt κ R
 la:Lel κ (A.take i) R
 lb:Lel κ (B.take j) R
 hi:i≤A.length
 hj:j≤B.length
theorem Mh.pushA {A B R:List Keyed}{i j:Nat}(M:Mh κ A B R (i+1) j)(sA:Srt κ A){x:Keyed}(h:A[i]? = some x)(hx:Lel κ (B.take j) [x]):Mh κ A B (x::R) i j:=by
 have et:=aX h
 have st:=sA.take (i+1)
 rw [et] at st
 have st':=aZ.mp st
 refine ⟨?_,Bg.mpr ⟨fun y hy=>M.la x (by rw [et];simp) y hy,M.so⟩,fun y hy z hz=>?_,fun y hy z hz=>?_,by have:=M.hi;omega,M.hj⟩
 ·rw [bD h,List.cons_append]
  exact M.pm.cons x
 ·rcases zt.mp hz with rfl | hz
  ·exact st'.2.2 y hy _ (by simp)
  ·exact M.la y (by rw [et];exact zJ _ hy) z hz
 ·rcases zt.mp hz with rfl | hz
  ·exact hx y hy _ (by simp)
  ·exact M.lb y hy z hz
theorem Mh.pushB {A B R:List Keyed}{i j:Nat}(M:Mh κ A B R i (j+1))(sB:Srt κ B){x:Keyed}(h:B[j]? = some x)(hx:Lel κ (A.take i) [x]):Mh κ A B (x::R) i j:=by
 have et:=aX h
 have st:=sB.take (j+1)
 rw [et] at st
 have st':=aZ.mp st
 refine ⟨?_,Bg.mpr ⟨fun y hy=>M.lb x (by rw [et];simp) y hy,M.so⟩,fun y hy z hz=>?_,fun y hy z hz=>?_,M.hi,by have:=M.hj;omega⟩
 ·rw [bD h]
  exact (M.pm.cons x).trans List.perm_middle.symm
 ·rcases zt.mp hz with rfl | hz
  ·exact hx y hy _ (by simp)
  ·exact M.la y hy z hz
 ·rcases zt.mp hz with rfl | hz
  ·exact st'.2.2 y hy _ (by simp)
  ·exact M.lb y (by rw [et];exact zJ _ hy) z hz
theorem Mh.pushAs {A B R:List Keyed}{t j:Nat}(sA:Srt κ A):∀ k,Mh κ A B R (t+k) j→Lel κ (B.take j) ((A.drop t).take k)→Mh κ A B ((A.drop t).take k++R) t j
 | 0,M,_=>by simpa using M
 | k+1,M,hl=>by
  have hlt:t+k < A.length:=by have:=M.hi;omega
  have e:(A.drop t)[k]? = some A[t+k]:=by rw [Ae,y_ hlt]
  have et:(A.drop t).take (k+1)=(A.drop t).take k++[A[t+k]]:=aX e
  rw [et] at hl ⊢
  have M1:Mh κ A B (A[t+k]::R) (t+k) j:=Mh.pushA M sA (y_ hlt) fun y hy z hz=>hl y hy z (zr _ hz)
  have:=Mh.pushAs sA k M1 fun y hy z hz=>hl y hy z (zJ _ hz)
  rw [zh]
  exact this
theorem Mh.pushBs {A B R:List Keyed}{t i:Nat}(sB:Srt κ B):∀ k,Mh κ A B R i (t+k)→Lel κ (A.take i) ((B.drop t).take k)→Mh κ A B ((B.drop t).take k++R) i t
 | 0,M,_=>by simpa using M
 | k+1,M,hl=>by
  have hlt:t+k < B.length:=by have:=M.hj;omega
  have e:(B.drop t)[k]? = some B[t+k]:=by rw [Ae,y_ hlt]
  have et:(B.drop t).take (k+1)=(B.drop t).take k++[B[t+k]]:=aX e
  rw [et] at hl ⊢
  have M1:Mh κ A B (B[t+k]::R) i (t+k):=Mh.pushB M sB (y_ hlt) fun y hy z hz=>hl y hy z (zr _ hz)
  have:=Mh.pushBs sB k M1 fun y hy z hz=>hl y hy z (zJ _ hz)
  rw [zh]
  exact this
theorem Mh.perm {A B R:List Keyed}{i j:Nat}(M:Mh κ A B R i j):(A.take i++B.take j++R).Perm (A++B):=by
 have h1:(A.take i++B.take j++R).Perm (A.take i++B.take j++(A.drop i++B.drop j)):=M.pm.append_left _
 refine h1.trans ?_
 have h2:((A.take i++B.take j)++(A.drop i++B.drop j)).Perm ((A.take i++A.drop i)++(B.take j++B.drop j)):=by
  rw [zh,zh]
  refine AJ _ ?_
  rw [← zh,← zh]
  exact BF _ A4
 rw [zI,zI] at h2
 exact h2
theorem Mh.done {A B R:List Keyed}{i j:Nat}(M:Mh κ A B R i j)(sA:Srt κ A)(sB:Srt κ B)(h:i=0 ∨ j=0):Mg κ A B (A.take i++B.take j++R):=by
 refine ⟨M.perm,aZ.mpr ⟨aZ.mpr ⟨sA.take i,sB.take j,fun x hx y hy=>?_⟩,M.so,fun o ho y hy=>?_⟩⟩
 ·rcases h with h | h
  ·subst h;simp at hx
  ·subst h;simp at hy
 ·rcases zN.mp ho with ho | ho
  ·exact M.la o ho y hy
  ·exact M.lb o ho y hy
theorem Mh.first {A B R:List Keyed}{i j:Nat}(M:Mh κ A B R i j)(sA:Srt κ A)(sB:Srt κ B)(h:j=1)(hf:∀ z,B[0]? = some z→Lel κ [z] A):Mg κ A B (B.take j++A.take i++R):=by
 refine ⟨List.Perm.trans (BF _ A4) M.perm,aZ.mpr ⟨aZ.mpr ⟨sB.take j,sA.take i,fun x hx y hy=>?_⟩,M.so,fun o ho y hy=>?_⟩⟩
 ·subst h
  cases B with
  | nil=>simp at hx
  | cons z B =>
   have hx:x=z:=by simpa using hx
   subst hx
   exact hf x rfl x (by simp) y (AD hy)
 ·rcases zN.mp ho with ho | ho
  ·exact M.lb o ho y hy
  ·exact M.la o ho y hy
theorem pO (a b o:Array Keyed)(i j:Nat):(hDn a b o i j).toList=a.toList.take i++b.toList.take j++o.toList.reverse:=by
 simp [hDn,AC]
theorem pP (a b o:Array Keyed)(i j:Nat):(hFb a b o i j).toList=b.toList.take j++a.toList.take i++o.toList.reverse:=by
 simp [hFb,AC]
theorem mX (a:Array Keyed)(t i:Nat):((a.extract t i).reverse).toList.reverse=(a.toList.drop t).take (i - t):=by
 simp [AC]
section
variable {prog:Program} {w:World} {A:Around} {E:Value→Shared→Prop} {s:Shared}
theorem jW {st:SortSt}{lf:Bool}{key:Keyed}{arr:Array Keyed}{n:Nat}{Q:Option Nat→SortSt→Prop}(hO:κ.OneLt)(hB:TB st)(hk:Gd κ key)(hg:∀ x∈arr.toList,Gd κ x)(sa:Srt κ arr.toList)(hn:0 < n)(hna:n≤arr.size)
  (hq:∀ k,k≤n→(∀ x∈arr.toList.take k,bdB κ lf (kof κ key) (kof κ x)=true)→(∀ x∈(arr.toList.drop k).take (n - k),bdB κ lf (kof κ key) (kof κ x)=false)→Q (some k) st) :
  wpS (model prog w) A E s (gal lf key arr 0 n (n - 1)) Q st:=by
 have hl:arr.toList.length=arr.size:=ze
 refine i8 hO hB hk (fun t=>match arr.toList[t]? with | some p=>bdB κ lf (kof κ key) (kof κ p) | none=>false) (by omega) (fun t ht=>?_) (fun t u htu hu hb=>?_) (fun k hk' h1 h2=>hq k (by omega) (fun x hx=>?_) fun x hx=>?_)
 ·have hlt:t < arr.toList.length:=by omega
  have e:=y_ hlt
  refine ⟨arr.toList[t],by rw [BO];simpa using e,hg _ (zL hlt),?_⟩
  rw [e]
 ·have h1:t < arr.toList.length:=by omega
  have h2:u < arr.toList.length:=by omega
  have e1:=y_ h1
  have e2:=y_ h2
  rw [e2] at hb
  rw [e1]
  exact jU (sa.at (by omega) e1 e2) hb
 ·obtain ⟨t,e⟩:=Aj hx
  have ht:t < k:=by
   have:=(zf.mp e).1
   rw [zo] at this
   omega
  rw [A5,if_pos ht] at e
  have:=h1 t ht
  rw [e] at this
  exact this
 ·obtain ⟨t,e⟩:=Aj hx
  have ht:t < n - k:=by
   have:=(zf.mp e).1
   rw [zo] at this
   omega
  rw [A5,if_pos ht,Ae] at e
  have:=h2 (k+t) (by omega) (by omega)
  rw [e] at this
  exact this
theorem fV {l:List Keyed}(sl:Srt κ l){i:Nat}{x y:Keyed}(e:l[i]? = some y)(h:lek κ y x):Lel κ (l.take (i+1)) [x]:=fun z hz t ht=>by
 rw [zc] at ht
 subst ht
 rw [aX e] at hz
 rcases zN.mp hz with hz | hz
 ·have st:=sl.take (i+1)
  rw [aX e] at st
  exact cK ((aZ.mp st).2.2 z hz y (by simp)) h
 ·rw [zc] at hz
  subst hz
  exact h
structure lh (κ:KeyKind) (a b:Array Keyed):Prop where
 ga:∀ x∈a.toList,Gd κ x
 gb:∀ x∈b.toList,Gd κ x
 sa:Srt κ a.toList
 sb:Srt κ b.toList
 hf:∀ z,b.toList[0]? = some z→Lel κ [z] a.toList
theorem lh.atA {a b:Array Keyed}(T:lh κ a b){i:Nat}(hi:i < a.size):∃ x,a.toList[i]? = some x∧Gd κ x:=⟨a.toList[i]'(by rw [ze]; exact hi),y_ (by rw [ze]; exact hi),T.ga _ (zL _)⟩
theorem lh.atB {a b:Array Keyed}(T:lh κ a b){i:Nat}(hi:i < b.size):∃ x,b.toList[i]? = some x∧Gd κ x:=⟨b.toList[i]'(by rw [ze]; exact hi),y_ (by rw [ze]; exact hi),T.gb _ (zL _)⟩
theorem lh.dn {a b:Array Keyed}(T:lh κ a b){o:Array Keyed}{i j:Nat}(M:Mh κ a.toList b.toList o.toList.reverse i j)(h:i=0 ∨ j=0):Mg κ a.toList b.toList (hDn a b o i j).toList:=by
 rw [pO]
 exact M.done T.sa T.sb h
theorem lh.fb {a b:Array Keyed}(T:lh κ a b){o:Array Keyed}{i j:Nat}(M:Mh κ a.toList b.toList o.toList.reverse i j)(h:j=1):Mg κ a.toList b.toList (hFb a b o i j).toList:=by
 rw [pP]
 exact M.first T.sa T.sb h T.hf
theorem dR (o:Array Keyed)(x:Keyed):(o.push x).toList.reverse=x::o.toList.reverse:=by simp
theorem mY (o:Array Keyed)(a:Array Keyed)(t i:Nat):(o++(a.extract t i).reverse).toList.reverse=(a.toList.drop t).take (i - t)++o.toList.reverse:=by
 rw [B4,List.reverse_append,mX]
abbrev HSt:=Option (Array Keyed) × Nat × Nat × Array Keyed × Nat × Nat × Nat
def hq3 (a b:Array Keyed)(i g p q j:Nat)(o:Array Keyed):StateT SortSt Sem (ForInStep HSt):=do
 let e ← elem' a (i - 1)
 if (i - 1 == 0)=true then pure (.done (some (hDn a b (o.push e) (i - 1) j),i - 1,j,o.push e,g,p,q))
 else if (decide (p < 7) && decide (q < 7))=true then pure (.done (none,i - 1,j,o.push e,g,p,q)) else pure (.yield (none,i - 1,j,o.push e,g,p,q))
def hq2 (a b:Array Keyed)(j g p q i:Nat)(o:Array Keyed):StateT SortSt Sem (ForInStep HSt):=do
 let e ← elem' b (j - 1)
 if (j - 1 == 1)=true then pure (.done (some (hFb a b (o.push e) i (j - 1)),i,j - 1,o.push e,g,p,q))
 else do
  let f ← elem' a (i - 1)
  let y ← gal true f b 0 (j - 1) (j - 1 - 1)
  match y with
  | some t=>if j - 1 - t > 0 then (if (t == 1)=true then pure (.done (some (hFb a b (o.push e++(b.extract t (j - 1)).reverse) i t),i,t,o.push e++(b.extract t (j - 1)).reverse,g,p,j - 1 - t)) else if (t == 0)=true then pure (.done (some (hDn a b (o.push e++(b.extract t (j - 1)).reverse) i t),i,t,o.push e++(b.extract t (j - 1)).reverse,g,p,j - 1 - t)) else hq3 a b i g p (j - 1 - t) t (o.push e++(b.extract t (j - 1)).reverse)) else hq3 a b i g p (j - 1 - t) (j - 1) (o.push e)
  | _=>pure (.done (some (hDn a b (o.push e) i (j - 1)),i,j - 1,o.push e,g,p,q))
def hq1 (a b:Array Keyed)(i j:Nat)(o:Array Keyed)(p q g:Nat):StateT SortSt Sem (ForInStep HSt):=do
 smg g
 let e ← elem' b (j - 1)
 let y ← gal false e a 0 i (i - 1)
 match y with
 | some t=>if i - t > 0 then (if (t == 0)=true then pure (.done (some (hDn a b (o++(a.extract t i).reverse) t j),t,j,o++(a.extract t i).reverse,g,i - t,q)) else hq2 a b j g (i - t) q t (o++(a.extract t i).reverse)) else hq2 a b j g (i - t) q i o
 | _=>pure (.done (some (hDn a b o i j),i,j,o,g,p,q))
def Hst (κ:KeyKind)(a b:Array Keyed)(x:Nat)(st:SortSt)(r:ForInStep HSt)(st':SortSt):Prop:=match r with
 | .done c=>((∃ r z,c=(some r,z)∧Mg κ a.toList b.toList r.toList) ∨ ∃ i j o g p q,c=(none,i,j,o,g,p,q)∧Mh κ a.toList b.toList o.toList.reverse i j∧0 < i∧1 < j∧x+2+i+j≤a.size+b.size)∧Ok st st'
 | .yield c=>∃ i j o g p q,c=(none,i,j,o,g,p,q)∧Mh κ a.toList b.toList o.toList.reverse i j∧0 < i∧1 < j∧x+2+i+j≤a.size+b.size∧Ok st st'
theorem mZ {st st':SortSt}{a b o:Array Keyed}{i j g p q x:Nat}{xa:Keyed}(T:lh κ a b)(M:Mh κ a.toList b.toList o.toList.reverse i j)(hi:0 < i)(hj:1 < j)(hx:x+2+i+j≤a.size+b.size)(ok:Ok st st')(exa:a.toList[i - 1]? = some xa)(hle:Lel κ (b.toList.take j) [xa]) :
  wpS (model prog w) A E s (hq3 a b i g p q j o) (Hst κ a b x st) st':=by
 unfold hq3
 refine zg (aJ exa ?_)
 have M':Mh κ a.toList b.toList (o.push xa).toList.reverse (i - 1) j:=by
  rw [dR]
  exact Mh.pushA (by rw [show i - 1+1=i by omega];exact M) T.sa exa hle
 by_cases h0:i - 1=0
 ·refine au (by simpa using h0) ?_
  exact zm ⟨.inl ⟨_,_,rfl,T.dn M' (.inl h0)⟩,ok⟩
 ·refine av (by simpa using h0) ?_
  by_cases hpq:(decide (p < 7) && decide (q < 7))=true
  ·refine au hpq ?_
   exact zm ⟨.inr ⟨_,_,_,_,_,_,rfl,M',by omega,hj,by omega⟩,ok⟩
  ·refine av hpq ?_
   exact zm ⟨_,_,_,_,_,_,rfl,M',by omega,hj,by omega,ok⟩
theorem m4 {st st':SortSt}{a b o:Array Keyed}{i j g p q x:Nat}{xb:Keyed}(hO:κ.OneLt)(T:lh κ a b)(M:Mh κ a.toList b.toList o.toList.reverse i j)(hi:0 < i)(hj:1 < j)(hx:x+2+i+j≤a.size+b.size)(ok:Ok st st')(exb:b.toList[j - 1]? = some xb)(hle:Lel κ (a.toList.take i) [xb]) :
  wpS (model prog w) A E s (hq2 a b j g p q i o) (Hst κ a b x st) st':=by
 have la:a.toList.length=a.size:=ze
 have lb:b.toList.length=b.size:=ze
 have hia:=M.hi
 have hjb:=M.hj
 unfold hq2
 refine zg (aJ exb ?_)
 have M':Mh κ a.toList b.toList (o.push xb).toList.reverse i (j - 1):=by
  rw [dR]
  exact Mh.pushB (by rw [show j - 1+1=j by omega];exact M) T.sb exb hle
 by_cases h1:j - 1=1
 ·refine au (by simpa using h1) ?_
  exact zm ⟨.inl ⟨_,_,rfl,T.fb M' h1⟩,ok⟩
 refine av (by simpa using h1) ?_
 obtain ⟨xa,exa,gxa⟩:=T.atA (i:=i - 1) (by omega)
 refine zg (aJ exa (zg (jW hO ok.tb gxa T.gb T.sb (by omega) (by omega) fun t ht t1 t2=>?_)))
 dsimp only
 have up:Lel κ (b.toList.take t) [xa]:=fun z hz y hy=>by
  rw [zc] at hy
  subst hy
  exact i9 (t1 z hz)
 have MB:Mh κ a.toList b.toList ((b.toList.drop t).take (j - 1 - t)++(o.push xb).toList.reverse) i t:=Mh.pushBs T.sb (j - 1 - t) (by rw [show t+(j - 1 - t)=j - 1 by omega];exact M') fun y hy z hz=>by
  have:=fV T.sa exa (fU (t2 z hz))
  rw [show i - 1+1=i by omega] at this
  exact this y hy z (by simp)
 by_cases hk0:j - 1 - t > 0
 ·refine au hk0 ?_
  have MB':Mh κ a.toList b.toList (o.push xb++(b.extract t (j - 1)).reverse).toList.reverse i t:=by rw [mY];exact MB
  by_cases ht1:t=1
  ·refine au (by simpa using ht1) ?_
   exact zm ⟨.inl ⟨_,_,rfl,T.fb MB' ht1⟩,ok⟩
  ·refine av (by simpa using ht1) ?_
   by_cases ht0:t=0
   ·refine au (by simpa using ht0) ?_
    exact zm ⟨.inl ⟨_,_,rfl,T.dn MB' (.inr ht0)⟩,ok⟩
   ·refine av (by simpa using ht0) ?_
    exact mZ T MB' hi (by omega) (by omega) ok exa up
 ·refine av hk0 ?_
  have:t=j - 1:=by omega
  subst this
  exact mZ T M' hi (by omega) (by omega) ok exa up
theorem m5 {st st':SortSt}{a b o:Array Keyed}{i j g p q x:Nat}(hO:κ.OneLt)(T:lh κ a b)(M:Mh κ a.toList b.toList o.toList.reverse i j)(hi:0 < i)(hj:1 < j)(hx:x+2+i+j≤a.size+b.size)(ok:Ok st st') :
  wpS (model prog w) A E s (hq1 a b i j o p q g) (Hst κ a b x st) st':=by
 have la:a.toList.length=a.size:=ze
 have lb:b.toList.length=b.size:=ze
 have hia:=M.hi
 have hjb:=M.hj
 unfold hq1
 refine zg (fT ok fun st3 ok3=>?_)
 obtain ⟨xb,exb,gxb⟩:=T.atB (i:=j - 1) (by omega)
 refine zg (aJ exb (zg (jW hO ok3.tb gxb T.ga T.sa hi (by omega) fun t ht t1 t2=>?_)))
 dsimp only
 have up:Lel κ (a.toList.take t) [xb]:=fun z hz y hy=>by
  rw [zc] at hy
  subst hy
  exact dQ (t1 z hz)
 have MA:Mh κ a.toList b.toList ((a.toList.drop t).take (i - t)++o.toList.reverse) t j:=Mh.pushAs T.sa (i - t) (by rw [show t+(i - t)=i by omega];exact M) fun y hy z hz=>by
  have:=fV T.sb exb (eI (t2 z hz))
  rw [show j - 1+1=j by omega] at this
  exact this y hy z (by simp)
 by_cases hk0:i - t > 0
 ·refine au hk0 ?_
  have MA':Mh κ a.toList b.toList (o++(a.extract t i).reverse).toList.reverse t j:=by rw [mY];exact MA
  by_cases ht0:t=0
  ·refine au (by simpa using ht0) ?_
   exact zm ⟨.inl ⟨_,_,rfl,T.dn MA' (.inl ht0)⟩,ok3⟩
  ·refine av (by simpa using ht0) ?_
   exact m4 hO T MA' (by omega) hj (by omega) ok3 exb up
 ·refine av hk0 ?_
  have:t=i:=by omega
  subst this
  exact m4 hO T M hi hj hx ok3 exb up
theorem sE {st:SortSt}{a b:Array Keyed}{Q:Array Keyed→SortSt→Prop}(hO:κ.OneLt)(hB:TB st)(T:lh κ a b)(h0:0 < a.size)(h1:0 < b.size)
  (hl:∀ z,a.toList[a.size - 1]? = some z→Lel κ b.toList [z])
  (hq:∀ r st',Ok st st'→Mg κ a.toList b.toList r.toList→Q r st'):wpS (model prog w) A E s (mhi a b) Q st:=by
 have la:a.toList.length=a.size:=ze
 have lb:b.toList.length=b.size:=ze
 rw [vf]
 refine zg (CL (AB ⟨rfl,?_⟩))
 dsimp only
 obtain ⟨z0,ez0,gz0⟩:=T.atA (i:=a.size - 1) (by omega)
 refine zg (aJ ez0 ?_)
 have M0:Mh κ a.toList b.toList (#[z0]:Array Keyed).toList.reverse (a.size - 1) b.size:=by
  have:Mh κ a.toList b.toList [z0] (a.size - 1) b.size:=Mh.pushA (R:=[]) (by
   rw [show a.size - 1+1=a.size by omega]
   refine ⟨?_,.nil,(fun x hx y hy=>by cases hy),(fun x hx y hy=>by cases hy),by omega,by omega⟩
   rw [BG (by omega),BG (by omega)]
   exact Ce _) T.sa ez0 (by rw [zB (by omega)];exact hl _ ez0)
  exact this
 by_cases ha1:a.size - 1=0
 ·refine au (by simpa using ha1) ?_
  exact zm (hq _ _ (.refl hB) (T.dn M0 (.inl ha1)))
 refine av (by simpa using ha1) ?_
 by_cases hb1:b.size=1
 ·refine au (by simpa using hb1) ?_
  exact zm (hq _ _ (.refl hB) (T.fb M0 hb1))
 refine av (by simpa using hb1) ?_
 refine zg (Cd ?_)
 refine zg (AM (z9 (I:=fun x c st'=>∃ i j o g,c=(none,i,j,o,g)∧Mh κ a.toList b.toList o.toList.reverse i j∧0 < i∧1 < j∧x+1+i+j≤a.size+b.size∧Ok st st')
  (Q:=fun c st'=>∃ r z,c=(some r,z)∧Mg κ a.toList b.toList r.toList∧Ok st st') ?step ?fin ⟨_,_,_,_,rfl,M0,by omega,by omega,by omega,.refl hB⟩) ?post)
 case post =>
  rintro c st' ⟨r,z,rfl,m,ok⟩
  exact zm (hq _ _ ok m)
 case fin =>
  rintro c st' ⟨i,j,o,g,rfl,M,hi,hj,hx,ok⟩
  omega
 case step =>
  rintro x c st1 _ hx ⟨i,j,o,g,rfl,M,hi,hj,hij,ok1⟩
  dsimp only
  refine zg (AM (z9 (I:=fun y c st'=>st'=st1∧∃ i j o p q,c=(none,i,j,o,p,q)∧Mh κ a.toList b.toList o.toList.reverse i j∧0 < i∧1 < j∧x+1+y+i+j≤a.size+b.size)
   (Q:=fun c st'=>st'=st1∧((∃ r z,c=(some r,z)∧Mg κ a.toList b.toList r.toList) ∨ ∃ i j o p q,c=(none,i,j,o,p,q)∧Mh κ a.toList b.toList o.toList.reverse i j∧0 < i∧1 < j∧x+2+i+j≤a.size+b.size)) ?step1 ?fin1 ⟨rfl,i,j,o,0,0,rfl,M,hi,hj,by omega⟩) ?post1)
  case fin1 =>
   rintro c st' ⟨rfl,i,j,o,p,q,rfl,M,hi,hj,hy⟩
   exact ⟨rfl,.inr ⟨i,j,o,p,q,rfl,M,hi,hj,by omega⟩⟩
  case step1 =>
   rintro y c st' _ hy ⟨rfl,i,j,o,p,q,rfl,M,hi,hj,hij⟩
   dsimp only
   have hia:=M.hi
   have hjb:=M.hj
   obtain ⟨xb,exb,gxb⟩:=T.atB (i:=j - 1) (by omega)
   obtain ⟨xa,exa,gxa⟩:=T.atA (i:=i - 1) (by omega)
   refine zg (aJ exb (zg (aJ exa (zg (jQ hO ok1.tb gxb gxa ?_)))))
   cases eb:κ.blt (kof κ xb) (kof κ xa) with
   | true =>
    simp only [Bf]
    refine zg (aJ exa ?_)
    have M':Mh κ a.toList b.toList (o.push xa).toList.reverse (i - 1) j:=by
     rw [dR]
     refine Mh.pushA (by rw [show i - 1+1=i by omega];exact M) T.sa exa ?_
     have:=fV T.sb exb (pN eb)
     rwa [show j - 1+1=j by omega] at this
    by_cases hi0:i - 1=0
    ·refine au (by simpa using hi0) ?_
     exact zm ⟨rfl,.inl ⟨_,_,rfl,T.dn M' (.inl hi0)⟩⟩
    ·refine av (by simpa using hi0) ?_
     by_cases hpg:p+1≥g
     ·refine au hpg ?_
      exact zm ⟨rfl,.inr ⟨_,_,_,_,_,rfl,M',by omega,hj,by omega⟩⟩
     ·refine av hpg ?_
      exact zm ⟨rfl,_,_,_,_,_,rfl,M',by omega,hj,by omega⟩
   | false =>
    simp only [zp,AE]
    refine zg (aJ exb ?_)
    have M':Mh κ a.toList b.toList (o.push xb).toList.reverse i (j - 1):=by
     rw [dR]
     refine Mh.pushB (by rw [show j - 1+1=j by omega];exact M) T.sb exb ?_
     have:=fV T.sa exa (not_lt eb)
     rwa [show i - 1+1=i by omega] at this
    by_cases hj1:j - 1=1
    ·refine au (by simpa using hj1) ?_
     exact zm ⟨rfl,.inl ⟨_,_,rfl,T.fb M' hj1⟩⟩
    ·refine av (by simpa using hj1) ?_
     by_cases hqg:q+1≥g
     ·refine au hqg ?_
      exact zm ⟨rfl,.inr ⟨_,_,_,_,_,rfl,M',hi,by omega,by omega⟩⟩
     ·refine av hqg ?_
      exact zm ⟨rfl,_,_,_,_,_,rfl,M',hi,by omega,by omega⟩
  case post1 =>
   rintro c st' ⟨rfl,⟨r,z,rfl,m⟩ | ⟨i,j,o,p,q,rfl,M,hi,hj,hij⟩⟩
   ·exact zm ⟨r,_,rfl,m,ok1⟩
   dsimp only
   refine zg (CL (AB ⟨rfl,?_⟩))
   refine zg (AM (z9 (I:=fun y c st'=>∃ i j o g p q,c=(none,i,j,o,g,p,q)∧Mh κ a.toList b.toList o.toList.reverse i j∧0 < i∧1 < j∧x+2+i+j≤a.size+b.size∧Ok st st')
    (Q:=fun c st'=>((∃ r z,c=(some r,z)∧Mg κ a.toList b.toList r.toList) ∨ ∃ i j o g p q,c=(none,i,j,o,g,p,q)∧Mh κ a.toList b.toList o.toList.reverse i j∧0 < i∧1 < j∧x+2+i+j≤a.size+b.size)∧Ok st st') ?step2 ?fin2 ⟨i,j,o,_,p,q,rfl,M,hi,hj,hij,ok1⟩) ?post2)
   case fin2 =>
    rintro c st' ⟨i,j,o,g,p,q,rfl,M,hi,hj,hij,ok⟩
    exact ⟨.inr ⟨i,j,o,g,p,q,rfl,M,hi,hj,hij⟩,ok⟩
   case post2 =>
    rintro c st' ⟨⟨r,z,rfl,m⟩ | ⟨i,j,o,g,p,q,rfl,M,hi,hj,hij⟩,ok⟩
    ·exact zm ⟨r,_,rfl,m,ok⟩
    ·dsimp only
     exact zg (fT ok fun st'' ok'=>zm ⟨i,j,o,_,rfl,M,hi,hj,by omega,ok'⟩)
   case step2 =>
    rintro y c st2 _ hy ⟨i,j,o,g,p,q,rfl,M,hi,hj,hij,ok2⟩
    dsimp only
    change wpS _ _ _ _ (if g > 1 then hq1 a b i j o p q (g - 1) else hq1 a b i j o p q g) _ _
    refine AM (Q:=Hst κ a b x st) ?_ fun r st' h=>?_
    rotate_left
    ·cases r with
     | done c=>exact h
     | yield c=>exact h
    by_cases hg:g > 1
    ·refine au hg ?_
     exact m5 hO T M hi hj hij ok2
    ·refine av hg ?_
     exact m5 hO T M hi hj hij ok2
end
end Ts
namespace Ts
open PySem PyProof.Rows
variable {κ:KeyKind}
def SrI (κ:KeyKind)(xs:Array Keyed)(lo hi:Nat):Prop:=∀ i j,lo≤i→i≤j→j < hi→κ.kle (KK κ xs i) (KK κ xs j)
def NiI (κ:KeyKind)(xs:Array Keyed)(lo hi:Nat):Prop:=∀ i j,lo≤i→i≤j→j < hi→κ.kle (KK κ xs j) (KK κ xs i)
structure Rp (lo hi:Nat) (xs ys:Array Keyed):Prop where
 pm:ys.Perm xs
 out:∀ k,(k < lo ∨ hi≤k)→ys[k]? = xs[k]?
theorem Rp.refl (lo hi:Nat)(xs:Array Keyed):Rp lo hi xs xs:=⟨CI _,fun _ _=>rfl⟩
theorem Rp.trans {lo hi:Nat}{xs ys zs:Array Keyed}(h:Rp lo hi xs ys)(g:Rp lo hi ys zs):Rp lo hi xs zs:=⟨g.pm.trans h.pm,fun k hk=>(g.out k hk).trans (h.out k hk)⟩
theorem Rp.size {lo hi:Nat}{xs ys:Array Keyed}(h:Rp lo hi xs ys):ys.size=xs.size:=h.pm.size_eq
theorem Rp.mirror {lo hi i j:Nat}{xs:Array Keyed}(h1:lo≤i)(h2:j≤hi)(hj:j≤xs.size):Rp lo hi xs (mirror xs i j ((j - i) / 2)):=by
 refine ⟨mirror_perm _ _ _ _,fun k hk=>?_⟩
 rw [getElem?_mirror_all hj,if_neg (by omega)]
theorem Rp.bubble {lo hi src d:Nat}{xs:Array Keyed}(h1:lo+d≤src)(h2:src < hi)(hs:src < xs.size):Rp lo hi xs (bubble xs src d):=by
 refine ⟨bubble_perm _ _ _,fun k hk=>?_⟩
 rw [getElem?_bubble hs d (by omega),if_neg (by omega),if_neg (by omega)]
structure Rs (κ:KeyKind) (lo hi:Nat) (st st':SortSt):Prop where
 tb:TB st'
 pd:pendingOf st'=pendingOf st
 gd:∀ x∈(arrOf st').toList,Gd κ x
 rp:Rp lo hi (arrOf st) (arrOf st')
theorem Rs.refl {lo hi:Nat}{st:SortSt}(h:TB st)(g:∀ x∈(arrOf st).toList,Gd κ x):Rs κ lo hi st st:=⟨h,rfl,g,.refl _ _ _⟩
theorem Rs.arr {lo hi:Nat}{st st':SortSt}(h:Rs κ lo hi st st'){ys:Array Keyed}(r:Rp lo hi (arrOf st') ys):Rs κ lo hi st (setArr st' ys) :=
 ⟨⟨h.tb.kind,h.tb.failed⟩,h.pd,fun x hx=>h.gd x ((AX.mp r.pm).mem_iff.mp hx),h.rp.trans r⟩
theorem vg {xs:Array Keyed}(g:∀ x∈xs.toList,Gd κ x){i:Nat}(hi:i < xs.size):∃ x p,xs[i]? = some (x,p)∧κ.keyOf x=some (KK κ xs i):=by
 have e:xs[i]? = some xs[i]:=CY xs i hi
 refine ⟨xs[i].1,xs[i].2,e,?_⟩
 have:=(g xs[i] (by simp)).eq
 rw [this]
 unfold KK kof
 rw [e]
section
variable {prog:Program} {w:World} {A:Around} {E:Value→Shared→Prop} {s:Shared}
theorem dk {st:SortSt}{i j:Nat}{Q:Option Bool→SortSt→Prop}(hO:κ.OneLt)(hB:TB st)(g:∀ x∈(arrOf st).toList,Gd κ x)(hi:i < (arrOf st).size)(hj:j < (arrOf st).size)
  (h:Q (some (κ.blt (KK κ (arrOf st) i) (KK κ (arrOf st) j))) st):wpS (model prog w) A E s (ltAt' i j) Q st:=by
 obtain ⟨x,p,e1,k1⟩:=vg g hi
 obtain ⟨y,q,e2,k2⟩:=vg g hj
 exact wpS_ltAtK hO hB.kind e1 e2 k1 k2 h
def xh (lo a nr:Nat):StateT SortSt Sem (Option Nat):=do
 let mut n:=a
 for _ in [a:nr] do
  let some sm ← ltAt' (lo+n) (lo+n - 1) | return none
  if sm then break
  n:=n+1
 return some n
def sF (lo a nr:Nat):StateT SortSt Sem (Option Nat):=do
 reverseSlice' lo (lo+a)
 xh lo a nr
def xi (lo a nr:Nat):StateT SortSt Sem (Option Nat):=do
 rule "list.sort.descending-run"
 let mut n:=a+1
 let mut e:=0
 for _ in [a+1:nr] do
  let some sm ← ltAt' (lo+n) (lo+n - 1) | return none
  if sm then
   if e > 0 then reverseSlice' (lo+n - (e+1)) (lo+n)
   e:=0
  else
   let some lg ← ltAt' (lo+n - 1) (lo+n) | return none
   if lg then break
   e:=e+1
  n:=n+1
 if e > 0 then reverseSlice' (lo+n - (e+1)) (lo+n)
 sF lo n nr
theorem m7 {xs:Array Keyed}{lo x:Nat}(a1:SrI κ xs lo (lo+x))(h1:1≤x)(e:κ.blt (KK κ xs (lo+x)) (KK κ xs (lo+x - 1))=false):SrI κ xs lo (lo+(x+1)):=fun i j hi hij hj=>by
 by_cases q:j < lo+x
 ·exact a1 i j hi hij q
 ·have:j=lo+x:=by omega
  subst this
  by_cases q2:i=lo+x
  ·subst q2;exact Ap _
  ·exact Be (a1 i (lo+x - 1) hi (by omega) (by omega)) e
theorem pQ {st:SortSt}{lo a nr:Nat}{Q:Option Nat→SortSt→Prop}(hO:κ.OneLt)(hB:TB st)(g:∀ x∈(arrOf st).toList,Gd κ x)(h1:1≤a)(h2:a≤nr)(h3:lo+nr≤(arrOf st).size)(hs:SrI κ (arrOf st) lo (lo+a))
  (h:∀ n,a≤n→n≤nr→SrI κ (arrOf st) lo (lo+n)→Q (some n) st):wpS (model prog w) A E s (xh lo a nr) Q st:=by
 unfold xh
 refine zg (AM (z9 (I:=fun x c st'=>st'=st∧c=(none,x)∧SrI κ (arrOf st) lo (lo+x))
  (Q:=fun c st'=>st'=st∧∃ n,c=(none,n)∧a≤n∧n≤nr∧SrI κ (arrOf st) lo (lo+n)∧(n=nr ∨ κ.klt (KK κ (arrOf st) (lo+n)) (KK κ (arrOf st) (lo+n - 1)))) ?step ?fin ⟨rfl,rfl,hs⟩) ?post)
 case fin =>
  rintro c st' ⟨rfl,rfl,a1⟩
  have e:max a nr=nr:=by omega
  rw [e] at a1 ⊢
  exact ⟨rfl,nr,rfl,by omega,zu _,a1,.inl rfl⟩
 case step =>
  rintro x c st' hx1 hx2 ⟨rfl,rfl,a1⟩
  dsimp only
  refine zg (dk hO hB g (by omega) (by omega) ?_)
  cases e:κ.blt (KK κ (arrOf st') (lo+x)) (KK κ (arrOf st') (lo+x - 1)) with
  | true =>
   simp only [Bf]
   exact zm ⟨rfl,x,rfl,hx1,by omega,a1,.inr e⟩
  | false =>
   simp only [zp,AE]
   exact zm ⟨rfl,rfl,m7 a1 (by omega) e⟩
 case post =>
  rintro c st' ⟨rfl,n,rfl,a1,a2,a3,a4⟩
  exact zm (h n a1 a2 a3)
theorem ia {st st':SortSt}{lo a nr:Nat}{Q:Option Nat→SortSt→Prop}(hO:κ.OneLt)(R:Rs κ lo (lo+nr) st st')(h1:1≤a)(h2:a≤nr)(h3:lo+nr≤(arrOf st).size)(hs:NiI κ (arrOf st') lo (lo+a))
  (h:∀ n st'',1≤n→n≤nr→Rs κ lo (lo+nr) st st''→SrI κ (arrOf st'') lo (lo+n)→Q (some n) st''):wpS (model prog w) A E s (sF lo a nr) Q st':=by
 have hz:=R.rp.size
 unfold sF
 refine zg (wpS_reverse ?_)
 have R':Rs κ lo (lo+nr) st (setArr st' (mirror (arrOf st') lo (lo+a) ((lo+a - lo) / 2))):=R.arr (Rp.mirror (zu _) (by omega) (by omega))
 refine pQ hO R'.tb R'.gd h1 h2 (by rw [R'.rp.size];exact h3) (fun i j hi hij hj=>?_) fun n a1 a2 a3=>h n _ (by omega) a2 R' a3
 show κ.kle (KK κ (mirror (arrOf st') lo (lo+a) ((lo+a - lo) / 2)) i) (KK κ (mirror (arrOf st') lo (lo+a) ((lo+a - lo) / 2)) j)
 rw [KK_mirror (by omega),KK_mirror (by omega),if_pos (by omega),if_pos (by omega)]
 exact hs _ _ (by omega) (by omega) (by omega)
theorem jX {st st':SortSt}{lo a nr:Nat}{Q:Option Nat→SortSt→Prop}(hO:κ.OneLt)(R:Rs κ lo (lo+nr) st st')(h2:a+1≤nr)(h3:lo+nr≤(arrOf st).size)(hs:NiI κ (arrOf st') lo (lo+(a+1)))
  (h:∀ n st'',1≤n→n≤nr→Rs κ lo (lo+nr) st st''→SrI κ (arrOf st'') lo (lo+n)→Q (some n) st''):wpS (model prog w) A E s (xi lo a nr) Q st':=by
 unfold xi
 refine zg (CL (AB ⟨rfl,?_⟩))
 dsimp only
 refine zg (AM (z9 (I:=fun x c st''=>∃ e,c=(none,x,e)∧Rs κ lo (lo+nr) st st''∧NiI κ (arrOf st'') lo (lo+x)∧e+1≤x∧∀ i,lo+x - (e+1)≤i→i < lo+x→KK κ (arrOf st'') i=KK κ (arrOf st'') (lo+x - 1))
  (Q:=fun c st''=>∃ x e,c=(none,x,e)∧a+1≤x∧x≤nr∧Rs κ lo (lo+nr) st st''∧NiI κ (arrOf st'') lo (lo+x)∧e+1≤x∧∀ i,lo+x - (e+1)≤i→i < lo+x→KK κ (arrOf st'') i=KK κ (arrOf st'') (lo+x - 1)) ?step ?fin ⟨0,rfl,R,hs,by omega,fun i h1 h2=>by congr 1;omega⟩) ?post)
 case fin =>
  rintro c st'' ⟨e,rfl,R,hs,he,hk⟩
  have ex:max (a+1) nr=nr:=by omega
  rw [ex] at hs he hk ⊢
  exact ⟨nr,e,rfl,h2,zu _,R,hs,he,hk⟩
 case post =>
  rintro c st'' ⟨x,e,rfl,hx1,hx2,R,hs,he,hk⟩
  have hz:=R.rp.size
  dsimp only
  by_cases h0:e > 0
  ·refine au h0 ?_
   refine zg (wpS_reverse ?_)
   refine ia hO (R.arr (Rp.mirror (by omega) (by omega) (by omega))) (by omega) hx2 h3 (fun i j hi hij hj=>?_) h
   show κ.kle (KK κ (mirror (arrOf st'') _ _ _) j) (KK κ (mirror (arrOf st'') _ _ _) i)
   rw [BB (by omega) hk,BB (by omega) hk]
   exact hs i j hi hij hj
  ·refine av h0 ?_
   exact ia hO R (by omega) hx2 h3 hs h
 case step =>
  rintro x c st'' hx1 hx2 ⟨e,rfl,R,hs,he,hk⟩
  have hz:=R.rp.size
  dsimp only
  refine zg (dk hO R.tb R.gd (by omega) (by omega) ?_)
  cases e1:κ.blt (KK κ (arrOf st'') (lo+x)) (KK κ (arrOf st'') (lo+x - 1)) with
  | true =>
   simp only [Bf]
   have nx:∀ xs:Array Keyed,(∀ k,KK κ xs k=KK κ (arrOf st'') k)→NiI κ xs lo (lo+(x+1)):=fun xs ek i j hi hij hj=>by
    rw [ek,ek]
    by_cases q:j < lo+x
    ·exact hs i j hi hij q
    ·have:j=lo+x:=by omega
     subst this
     by_cases q2:i=lo+x
     ·subst q2;exact Ap _
     ·exact Be (Bi e1) (hs i (lo+x - 1) hi (by omega) (by omega))
   by_cases h0:e > 0
   ·refine au h0 ?_
    exact zg (wpS_reverse (zm ⟨0,rfl,R.arr (Rp.mirror (by omega) (by omega) (by omega)),nx _ (BB (by omega) hk),by omega,fun i h1 h2=>by congr 1;omega⟩))
   ·refine av h0 ?_
    exact zm ⟨0,rfl,R,nx _ fun _=>rfl,by omega,fun i h1 h2=>by congr 1;omega⟩
  | false =>
   simp only [zp,AE]
   refine zg (dk hO R.tb R.gd (by omega) (by omega) ?_)
   cases e2:κ.blt (KK κ (arrOf st'') (lo+x - 1)) (KK κ (arrOf st'') (lo+x)) with
   | true =>
    simp only [Bf]
    exact zm ⟨x,e,rfl,hx1,by omega,R,hs,he,hk⟩
   | false =>
    simp only [zp,AE]
    have ee:KK κ (arrOf st'') (lo+x)=KK κ (arrOf st'') (lo+x - 1):=KeyOrd.kle_antisymm e2 e1
    refine zm ⟨e+1,rfl,R,fun i j hi hij hj=>?_,by omega,fun i h1 h2=>?_⟩
    ·by_cases q:j < lo+x
     ·exact hs i j hi hij q
     ·have:j=lo+x:=by omega
      subst this
      by_cases q2:i=lo+x
      ·subst q2;exact Ap _
      ·rw [ee];exact hs i (lo+x - 1) hi (by omega) (by omega)
    ·rw [show lo+(x+1) - 1=lo+x by omega]
     by_cases q:i=lo+x
     ·subst q;rfl
     ·rw [ee];exact hk i (by omega) (by omega)
theorem pR {st:SortSt}{lo nr:Nat}{Q:Option Nat→SortSt→Prop}(hO:κ.OneLt)(hB:TB st)(g:∀ x∈(arrOf st).toList,Gd κ x)(h1:1≤nr)(h3:lo+nr≤(arrOf st).size)
  (h:∀ n st',1≤n→n≤nr→Rs κ lo (lo+nr) st st'→SrI κ (arrOf st') lo (lo+n)→Q (some n) st'):wpS (model prog w) A E s (countRun' lo nr) Q st:=by
 have R:Rs κ lo (lo+nr) st st:=.refl hB g
 rw [countRun'_eq]
 change wpS _ _ _ _ (do
  let mut n:=1
  for _ in [1:nr] do
   let some sm ← ltAt' (lo+n) (lo+n - 1) | return none
   if sm then break
   n:=n+1
  if n == nr then return some n
  if n > 1 then
   let some rs ← ltAt' lo (lo+n - 1) | return none
   if rs then return some n
   reverseSlice' lo (lo+n)
  xi lo n nr) _ _
 refine zg (AM (z9 (I:=fun x c st'=>st'=st∧c=(none,x)∧SrI κ (arrOf st) lo (lo+x))
  (Q:=fun c st'=>st'=st∧∃ n,c=(none,n)∧1≤n∧n≤nr∧SrI κ (arrOf st) lo (lo+n)∧(n=nr ∨ κ.klt (KK κ (arrOf st) (lo+n)) (KK κ (arrOf st) (lo+n - 1)))) ?step ?fin ⟨rfl,rfl,fun i j hi hij hj=>by have:i=j:=(by omega);subst this;exact Ap _⟩) ?post)
 case fin =>
  rintro c st' ⟨rfl,rfl,a1⟩
  have e:max 1 nr=nr:=by omega
  rw [e] at a1 ⊢
  exact ⟨rfl,nr,rfl,by omega,zu _,a1,.inl rfl⟩
 case step =>
  rintro x c st' hx1 hx2 ⟨rfl,rfl,a1⟩
  dsimp only
  refine zg (dk hO hB g (by omega) (by omega) ?_)
  cases e:κ.blt (KK κ (arrOf st') (lo+x)) (KK κ (arrOf st') (lo+x - 1)) with
  | true =>
   simp only [Bf]
   exact zm ⟨rfl,x,rfl,hx1,by omega,a1,.inr e⟩
  | false =>
   simp only [zp,AE]
   exact zm ⟨rfl,rfl,m7 a1 (by omega) e⟩
 rintro c st' ⟨rfl,n,rfl,a1,a2,a3,a4⟩
 dsimp only
 by_cases hn:n=nr
 ·refine au (by simpa using hn) ?_
  exact zm (h n st' a1 a2 R a3)
 ·refine av (by simpa using hn) ?_
  have lt:κ.klt (KK κ (arrOf st') (lo+n)) (KK κ (arrOf st') (lo+n - 1)):=a4.resolve_left hn
  by_cases hg:n > 1
  ·refine au hg ?_
   refine zg (dk hO hB g (by omega) (by omega) ?_)
   cases e:κ.blt (KK κ (arrOf st') lo) (KK κ (arrOf st') (lo+n - 1)) with
   | true =>
    simp only [Bf]
    exact zm (h n st' a1 a2 R a3)
   | false =>
    simp only [zp,AE]
    refine zg (wpS_reverse ?_)
    have same:∀ i,lo≤i→i < lo+n→KK κ (arrOf st') i=KK κ (arrOf st') (lo+n - 1):=fun i hi1 hi2=>by
     have b1:=a3 i (lo+n - 1) hi1 (by omega) (by omega)
     have b2:=a3 lo i (zu _) hi1 hi2
     exact KeyOrd.kle_antisymm b1 (Be e b2)
    refine jX hO (R.arr (Rp.mirror (zu _) (by omega) (by omega))) (by omega) h3 (fun i j hi hij hj=>?_) h
    show κ.kle (KK κ (mirror (arrOf st') _ _ _) j) (KK κ (mirror (arrOf st') _ _ _) i)
    rw [BB (by omega) same,BB (by omega) same]
    by_cases q:j < lo+n
    ·rw [same i hi (by omega),same j (by omega) q]
     exact Ap _
    ·have:j=lo+n:=by omega
     subst this
     by_cases q2:i=lo+n
     ·subst q2;exact Ap _
     ·rw [same i hi (by omega)]
      exact Bi lt
  ·refine av hg ?_
   have:n=1:=by omega
   subst this
   refine jX hO R (by omega) h3 (fun i j hi hij hj=>?_) h
   by_cases q2:i=j
   ·subst q2;exact Ap _
   ·have e1:i=lo:=by omega
    have e2:j=lo+1:=by omega
    subst e1 e2
    exact Bi lt
end
end Ts
namespace Ts
open PySem PyProof.Rows
variable {κ:KeyKind}
section
variable {prog:Program} {w:World} {A:Around} {E:Value→Shared→Prop} {s:Shared}
theorem pS {st:SortSt}{lo n ok:Nat}{Q:Bool→SortSt→Prop}(hO:κ.OneLt)(hB:TB st)(g:∀ x∈(arrOf st).toList,Gd κ x)(hn:lo+n≤(arrOf st).size)(hok:ok≤n)(hs:SrI κ (arrOf st) lo (lo+ok))
  (h:∀ st',Rs κ lo (lo+n) st st'→SrI κ (arrOf st') lo (lo+n)→Q true st'):wpS (model prog w) A E s (binarySort' lo n ok) Q st:=by
 rw [binarySort'_eq]
 refine zg (AM (z9 (I:=fun y c st'=>c=(none,())∧Rs κ lo (lo+n) st st'∧SrI κ (arrOf st') lo (lo+min y n))
  (Q:=fun c st'=>c=(none,())∧Rs κ lo (lo+n) st st'∧SrI κ (arrOf st') lo (lo+n)) ?step ?fin ?init) ?post)
 case post =>
  rintro c st' ⟨rfl,R,hs'⟩
  exact zm (h st' R hs')
 case init =>
  refine ⟨rfl,.refl hB g,fun i j hi hij hj=>?_⟩
  by_cases e:i=j
  ·subst e;exact Ap _
  ·exact hs i j hi hij (by omega)
 case fin =>
  rintro c st' ⟨hc,R,hs'⟩
  rw [show min (max (max ok 1) n) n=n by omega] at hs'
  exact ⟨hc,R,hs'⟩
 case step =>
  rintro y c st' hy1 hy2 ⟨rfl,R,hs'⟩
  have hz:=R.rp.size
  rw [show min y n=y by omega] at hs'
  refine zg (AM (z9 (I:=fun x c st''=>st''=st'∧∃ l r,c=(none,l,r)∧l≤r∧r≤y∧r - l≤y - x ∧
    (∀ i,lo≤i→i < lo+l→κ.kle (KK κ (arrOf st') i) (KK κ (arrOf st') (lo+y)))∧(∀ i,lo+r≤i→i < lo+y→κ.klt (KK κ (arrOf st') (lo+y)) (KK κ (arrOf st') i)))
   (Q:=fun c st''=>st''=st'∧∃ l r,c=(none,l,r)∧l≤y ∧
    (∀ i,lo≤i→i < lo+l→κ.kle (KK κ (arrOf st') i) (KK κ (arrOf st') (lo+y)))∧(∀ i,lo+l≤i→i < lo+y→κ.klt (KK κ (arrOf st') (lo+y)) (KK κ (arrOf st') i))) ?istep ?ifin ?iinit) ?ipost)
  case iinit=>exact ⟨rfl,0,y,rfl,by omega,by omega,by omega,fun i h1 h2=>by omega,fun i h1 h2=>by omega⟩
  case ifin =>
   rintro c st'' ⟨rfl,l,r,rfl,q1,q2,q3,q4,q5⟩
   have:l=r:=by omega
   subst this
   exact ⟨rfl,l,l,rfl,q2,q4,q5⟩
  case istep =>
   rintro x c st'' _ hx ⟨rfl,l,r,rfl,q1,q2,q3,q4,q5⟩
   dsimp only
   by_cases hge:l≥r
   ·refine au hge ?_
    have:l=r:=by omega
    subst this
    exact zm ⟨rfl,l,l,rfl,q2,q4,q5⟩
   ·refine av hge ?_
    refine zg (dk hO R.tb R.gd (by omega) (by omega) ?_)
    cases e:κ.blt (KK κ (arrOf st'') (lo+y)) (KK κ (arrOf st'') (lo+(l+r) / 2)) with
    | true =>
     simp only [Bf]
     refine zm ⟨rfl,l,(l+r) / 2,rfl,by omega,by omega,by omega,q4,fun i h1 h2=>?_⟩
     exact KeyOrd.klt_of_klt_of_kle e (hs' _ _ (by omega) h1 h2)
    | false =>
     simp only [zp,AE]
     refine zm ⟨rfl,(l+r) / 2+1,r,rfl,by omega,by omega,by omega,fun i h1 h2=>?_,q5⟩
     exact Be (hs' i (lo+(l+r) / 2) h1 (by omega) (by omega)) (show κ.kle _ _ from e)
  case ipost =>
   rintro c st'' ⟨rfl,l,r,rfl,hl,q4,q5⟩
   show wpS _ _ _ _ (do moveDown' (lo+y) (lo+l);pure (ForInStep.yield (none,()))) _ _
   rw [moveDown'_eq]
   have hk:lo+y < (arrOf st'').size:=by omega
   refine zg (Bx (zm ⟨rfl,R.arr (Rp.bubble (by omega) (by omega) hk),?_⟩))
   rw [show min (y+1) n=y+1 by omega]
   intro i j hi hij hj
   show κ.kle (KK κ (bubble (arrOf st'') (lo+y) (lo+y - (lo+l))) i) (KK κ (bubble (arrOf st'') (lo+y) (lo+y - (lo+l))) j)
   rw [KK_bubble hk (by omega),KK_bubble hk (by omega),show lo+y - (lo+y - (lo+l))=lo+l by omega]
   repeat' split
   all_goals first
    | (exfalso;omega)
    | exact Ap _
    | exact q4 _ (by omega) (by omega)
    | exact Bi (q5 _ (by omega) (by omega))
    | exact hs' _ _ (by omega) (by omega) (by omega)
end
theorem m8:∀ (r:List Keyed) (z b:Nat) (arr:Array Keyed) (X Y Z:List Keyed),arr.toList=X++(Y++Z)→X.length=z+b→Y.length=r.length →
  ((r.zipIdx b).foldl (fun a (p,j)=>a.setIfInBounds (z+j) p) arr).toList=X++(r++Z)
 | [],z,b,arr,X,Y,Z,e,h1,h2=>by
  rw [Cr.mp h2] at e
  exact e
 | p::r,z,b,arr,X,Y,Z,e,h1,h2=>by
  cases Y with
  | nil=>simp at h2
  | cons y Y =>
   rw [AZ,List.foldl_cons]
   have:=m8 r z (b+1) (arr.setIfInBounds (z+b) p) (X++[p]) Y Z (by
    rw [B9,e,← h1,List.set_append_right _ _ (zu _),CJ]
    simp) (by simp [h1];omega) (by simpa using h2)
   rw [this]
   simp
def mAt (i:Nat):StateT SortSt Sem Bool:=do
 let u ← get
 let (some (za,la,pw),some (zb,lb,_)):=((pendingOf u)[i]?,(pendingOf u)[i+1]?) | unsupported "internal:list.sort.pending"
 set (setPending u (((pendingOf u).setIfInBounds i (za,la+lb,pw)).eraseIdxIfInBounds (i+1)))
 let some c ← gal false (← elem' (arrOf u) zb) (arrOf u) za la 0 | return false
 let (za,la):=(za+c,la - c)
 if la == 0 then return true
 let some lb ← gal true (← elem' (arrOf u) (za+la - 1)) (arrOf u) zb lb (lb - 1) | return false
 if lb == 0 then return true
 let x:=(arrOf u).extract za zb
 let y:=(arrOf u).extract zb (zb+lb)
 let out ← if la≤lb then mlo x y else mhi x y
 modify fun v=>setArr v (out.toList.zipIdx.foldl (fun a (p,j)=>a.setIfInBounds (za+j) p) (arrOf v))
 return (failedOf (← get)).isNone
theorem vh (i:Nat):mergeAt' i=mAt i:=rfl
end Ts
namespace Ts
open PySem PyProof.Rows
variable {κ:KeyKind}
theorem Lel.sym_take {l:List Keyed}(h:Srt κ l)(i:Nat):Lel κ (l.take i) (l.drop i):=by
 have:Srt κ (l.take i++l.drop i):=by rw [zI];exact h
 exact (aZ.mp this).2.2
theorem Lel.memL {l l' m:List Keyed}(h:Lel κ l m)(hs:∀ x∈l',x∈l):Lel κ l' m:=fun x hx y hy=>h x (hs x hx) y hy
theorem Lel.memR {l m m':List Keyed}(h:Lel κ l m)(hs:∀ x∈m',x∈m):Lel κ l m':=fun x hx y hy=>h x hx y (hs y hy)
theorem Lel.mid {l m:List Keyed}{x:Keyed}(h:Lel κ l [x])(g:Lel κ [x] m):Lel κ l m:=fun a ha b hb=>cK (h a ha x (zc.mpr rfl)) (g x (zc.mpr rfl) b hb)
theorem fW {l:List Keyed}{x:Keyed}(h:Srt κ l)(e:l[0]? = some x):Lel κ [x] l:=fun a ha y hy=>by
 rw [zc] at ha
 subst ha
 obtain ⟨i,hi⟩:=Aj hy
 exact h.at (AG _) e hi
theorem m9 {l:List Keyed}{x:Keyed}(h:Srt κ l)(e:l[l.length - 1]? = some x):Lel κ l [x]:=fun a ha y hy=>by
 rw [zc] at hy
 subst hy
 obtain ⟨i,hi⟩:=Aj ha
 have:=(zf.mp hi).1
 exact h.at (by omega) hi e
theorem sG {l m n:List Keyed}:Lel κ (l++m) n ↔ Lel κ l n∧Lel κ m n :=
 ⟨fun h=>⟨h.memL fun x hx=>zJ _ hx,h.memL fun x hx=>zr _ hx⟩,fun h x hx=>(zN.mp hx).elim (h.1 x) (h.2 x)⟩
theorem jY {l m n:List Keyed}:Lel κ l (m++n) ↔ Lel κ l m∧Lel κ l n :=
 ⟨fun h=>⟨h.memR fun x hx=>zJ _ hx,h.memR fun x hx=>zr _ hx⟩,fun h x hx y hy=>(zN.mp hy).elim (h.1 x hx y) (h.2 x hx y)⟩
theorem vi {A B r:List Keyed}{c m:Nat}{b0 al:Keyed}(sA:Srt κ A)(sB:Srt κ B)(e0:B[0]? = some b0)(el:A[A.length - 1]? = some al)
  (h1:Lel κ (A.take c) [b0]) (h2:Lel κ [al] (B.drop m)) (M:Mg κ (A.drop c) (B.take m) r):Mg κ A B (A.take c++(r++B.drop m)):=by
 have mm:∀ x,x∈r ↔ x∈A.drop c++B.take m:=fun x=>M.1.mem_iff
 refine ⟨?_,aZ.mpr ⟨sA.take c,aZ.mpr ⟨M.2,sB.drop m,?_⟩,jY.mpr ⟨?_,?_⟩⟩⟩
 ·have:(A.take c++(r++B.drop m)).Perm (A.take c++((A.drop c++B.take m)++B.drop m)):=AJ _ (M.1.append_right _)
  refine this.trans (List.Perm.of_eq ?_)
  rw [zh,← zh,zI,zI]
 ·refine Lel.memL (l:=A.drop c++B.take m) (sG.mpr ⟨?_,Lel.sym_take sB m⟩) fun x hx=>(mm x).mp hx
  exact Lel.mid ((m9 sA el).memL fun x hx=>AK hx) h2
 ·refine Lel.memR (m:=A.drop c++B.take m) (jY.mpr ⟨Lel.sym_take sA c,?_⟩) fun x hx=>(mm x).mp hx
  exact Lel.mid h1 ((fW sB e0).memR fun x hx=>AD hx)
 ·exact Lel.mid h1 ((fW sB e0).memR fun x hx=>AK hx)
section
variable {prog:Program} {w:World} {A:Around} {E:Value→Shared→Prop} {s:Shared}
theorem sH {st u:SortSt}{Q:PUnit→SortSt→Prop}(h:Q ⟨⟩ u):wpS (model prog w) A E s (set u:StateT SortSt Sem PUnit) Q st:=by
 unfold wpS
 rw [StateT.run_set]
 exact zd ⟨rfl,h⟩
theorem jZ {st:SortSt}{lf:Bool}{key:Keyed}{arr:Array Keyed}{P M S:List Keyed}{z n h:Nat}{Q:Option Nat→SortSt→Prop}(hO:κ.OneLt)(hB:TB st)(hk:Gd κ key)(hg:∀ x∈arr.toList,Gd κ x)(ea:arr.toList=P++(M++S))(lp:P.length=z)(ln:M.length=n)(sa:Srt κ M)(hh:h < n)
  (hq:∀ k,k≤n→(∀ x∈M.take k,bdB κ lf (kof κ key) (kof κ x)=true)→(∀ x∈M.drop k,bdB κ lf (kof κ key) (kof κ x)=false)→Q (some k) st) :
  wpS (model prog w) A E s (gal lf key arr z n h) Q st:=by
 have ga:∀ i,i < n→arr[z+i]? = M[i]?:=fun i hi=>by
  rw [← zX,ea,zG (by omega),Aq (by omega)]
  congr 1
  omega
 have gm:∀ x∈M,Gd κ x:=fun x hx=>hg x (by rw [ea];exact zr _ (zJ _ hx))
 refine i8 hO hB hk (fun t=>match M[t]? with | some p=>bdB κ lf (kof κ key) (kof κ p) | none=>false) hh (fun t ht=>?_) (fun t u htu hu hb=>?_) (fun k hk' h1 h2=>hq k hk' (fun x hx=>?_) fun x hx=>?_)
 ·have hlt:t < M.length:=by omega
  have e:=y_ hlt
  exact ⟨M[t],by rw [ga t ht,e],gm _ (zL _),by rw [e]⟩
 ·have e1:=y_ (l:=M) (i:=t) (by omega)
  have e2:=y_ (l:=M) (i:=u) (by omega)
  rw [e1]
  rw [e2] at hb
  have le:=sa.at htu e1 e2
  dsimp only at hb ⊢
  cases lf with
  | true=>exact KeyOrd.klt_of_kle_of_klt le hb
  | false =>
   have le2:=cK le (dQ hb)
   show (!κ.blt _ _)=true
   rw [show κ.blt (kof κ key) (kof κ M[t])=false from le2]
   rfl
 ·obtain ⟨i,hi⟩:=Aj hx
  have l1:=(zf.mp hi).1
  rw [zo] at l1
  rw [A9 (by omega)] at hi
  have:=h1 i (by omega)
  rw [hi] at this
  exact this
 ·obtain ⟨i,hi⟩:=Aj hx
  rw [Ae] at hi
  have l1:=(zf.mp hi).1
  have:=h2 (k+i) (by omega) (by omega)
  rw [hi] at this
  exact this
theorem m_ {arr:Array Keyed}{P M S:List Keyed}{i j:Nat}(e:arr.toList=P++(M++S))(h1:P.length=i)(h2:j=i+M.length):(arr.extract i j).toList=M:=by
 rw [AC,e,List.extract_eq_drop_take,← h1,List.drop_left,h2,← h1,Bc,List.take_left]
theorem sI {st:SortSt}{i z na nb pw pw2:Nat}{P Aa B S:List Keyed}{Q:Bool→SortSt→Prop}(hO:κ.OneLt)(hB:TB st)(g:∀ x∈(arrOf st).toList,Gd κ x)(e1:(pendingOf st)[i]? = some (z,na,pw))(e2:(pendingOf st)[i+1]? = some (z+na,nb,pw2))
  (ea:(arrOf st).toList=P++(Aa++(B++S))) (lp:P.length=z) (la:Aa.length=na) (lb:B.length=nb) (h0:0 < na) (h1:0 < nb) (sA:Srt κ Aa) (sB:Srt κ B)
  (h:∀ st' R,TB st'→pendingOf st'=((pendingOf st).setIfInBounds i (z,na+nb,pw)).eraseIdxIfInBounds (i+1)→(arrOf st').toList=P++(R++S)→Mg κ Aa B R→Q true st'):wpS (model prog w) A E s (mergeAt' i) Q st:=by
 have eb:(arrOf st).toList=(P++Aa)++(B++S):=by rw [ea,zh]
 rw [vh]
 unfold mAt
 refine zg (Cd ?_)
 rw [e1,e2]
 dsimp only
 refine zg (sH ?_)
 have hB':TB (setPending st (((pendingOf st).setIfInBounds i (z,na+nb,pw)).eraseIdxIfInBounds (i+1))):=⟨hB.kind,hB.failed⟩
 generalize hst':setPending st (((pendingOf st).setIfInBounds i (z,na+nb,pw)).eraseIdxIfInBounds (i+1))=st' at hB' ⊢
 have hp':pendingOf st'=((pendingOf st).setIfInBounds i (z,na+nb,pw)).eraseIdxIfInBounds (i+1):=by rw [← hst']
 have har:arrOf st'=arrOf st:=by rw [← hst']
 obtain ⟨b0,eb0⟩:∃ b0,B[0]? = some b0:=⟨_,y_ (by omega)⟩
 obtain ⟨al,eal⟩:∃ al,Aa[Aa.length - 1]? = some al:=⟨_,y_ (by omega)⟩
 have gA:∀ x∈Aa,Gd κ x:=fun x hx=>g x (by rw [ea];simp [hx])
 have gB:∀ x∈B,Gd κ x:=fun x hx=>g x (by rw [ea];simp [hx])
 have x0:(arrOf st).toList[z+na]? = some b0:=by
  rw [eb,zG (by simp;omega),Aq (by simp;omega)]
  rw [show z+na - (P++Aa).length=0 by simp;omega]
  exact eb0
 have xl:(arrOf st).toList[z+na - 1]? = some al:=by
  rw [ea,zG (by omega),Aq (by omega)]
  rw [show z+na - 1 - P.length=Aa.length - 1 by omega]
  exact eal
 refine zg (aJ x0 ?_)
 refine zg (jZ hO hB' (gB b0 (zO eb0)) g ea lp la sA h0 fun c hc t1 t2=>?_)
 dsimp only
 have k1:Lel κ (Aa.take c) [b0]:=fun x hx y hy=>by
  rw [zc] at hy
  subst hy
  exact dQ (t1 x hx)
 have k2:Lel κ [b0] (Aa.drop c):=fun x hx y hy=>by
  rw [zc] at hx
  subst hx
  exact eI (t2 y hy)
 by_cases hc0:na - c=0
 ·refine au (by simpa using hc0) ?_
  have:Aa.take c=Aa:=zB (by omega)
  rw [this] at k1
  exact zm (h st' (Aa++B) hB' hp' (by rw [har,ea,zh]) ⟨Ce _,aZ.mpr ⟨sA,sB,k1.mid (fW sB eb0)⟩⟩)
 ·refine av (by simpa using hc0) ?_
  rw [show z+c+(na - c) - 1=z+na - 1 by omega]
  refine zg (aJ xl ?_)
  refine zg (jZ hO hB' (gA al (zO eal)) g eb (by simp;omega) lb sB (by omega) fun m hm u1 u2=>?_)
  dsimp only
  have k3:Lel κ (B.take m) [al]:=fun x hx y hy=>by
   rw [zc] at hy
   subst hy
   exact i9 (u1 x hx)
  have k4:Lel κ [al] (B.drop m):=fun x hx y hy=>by
   rw [zc] at hx
   subst hx
   exact fU (u2 y hy)
  by_cases hm0:m=0
  ·refine au (by simpa using hm0) ?_
   subst hm0
   exact zm (h st' (Aa++B) hB' hp' (by rw [har,ea,zh]) ⟨Ce _,aZ.mpr ⟨sA,sB,(m9 sA eal).mid k4⟩⟩)
  ·refine av (by simpa using hm0) ?_
   have ec:(arrOf st).toList=(P++Aa.take c)++(Aa.drop c++(B++S)):=by
    rw [ea]
    conv=>lhs;rw [← zI c Aa]
    simp only [zh]
   have ed:(arrOf st).toList=(P++Aa)++(B.take m++(B.drop m++S)):=by
    rw [eb]
    conv=>lhs;rw [← zI m B]
    simp only [zh]
   have ex:((arrOf st).extract (z+c) (z+na)).toList=Aa.drop c:=m_ ec (by simp;omega) (by simp;omega)
   have ey:((arrOf st).extract (z+na) (z+na+m)).toList=B.take m:=m_ ed (by simp;omega) (by simp;omega)
   have sx:((arrOf st).extract (z+c) (z+na)).size=na - c:=by rw [← ze,ex];simp;omega
   have sy:((arrOf st).extract (z+na) (z+na+m)).size=m:=by rw [← ze,ey];simp;omega
   generalize (arrOf st).extract (z+c) (z+na)=x at ex sx ⊢
   generalize (arrOf st).extract (z+na) (z+na+m)=y at ey sy ⊢
   have ga:∀ t∈x.toList,Gd κ t:=fun t ht=>gA t (by rw [ex] at ht;exact AK ht)
   have gb:∀ t∈y.toList,Gd κ t:=fun t ht=>gB t (by rw [ey] at ht;exact AD ht)
   have sx':Srt κ x.toList:=by rw [ex];exact sA.drop c
   have sy':Srt κ y.toList:=by rw [ey];exact sB.take m
   have y0:y.toList[0]? = some b0:=by rw [ey,A9 (by omega)];exact eb0
   have xn:x.toList[x.size - 1]? = some al:=by
    rw [ex,Ae,sx,show c+(na - c - 1)=Aa.length - 1 by omega]
    exact eal
   have fin:∀ (r:Array Keyed) (st2:SortSt),Ok st' st2→Mg κ x.toList y.toList r.toList→wpS (model prog w) A E s (do
     modify fun v=>setArr v (r.toList.zipIdx.foldl (fun a (p,j)=>a.setIfInBounds (z+c+j) p) (arrOf v))
     return (failedOf (← get)).isNone:StateT SortSt Sem Bool) Q st2:=fun r st2 ok M=>by
    rw [ex,ey] at M
    have lr:r.toList.length=(Aa.drop c++B.take m).length:=M.1.length_eq
    refine zg (Bx ?_)
    refine zg (Cd ?_)
    refine zm ?_
    have hf:failedOf (setArr st2 (r.toList.zipIdx.foldl (fun a (p,j)=>a.setIfInBounds (z+c+j) p) (arrOf st2)))=none:=ok.tb.failed
    rw [hf]
    refine h _ (Aa.take c++(r.toList++B.drop m)) ⟨ok.tb.kind,ok.tb.failed⟩ (ok.pd.trans hp') ?_ (vi sA sB eb0 eal k1 k4 M)
    show (r.toList.zipIdx.foldl (fun a (p,j)=>a.setIfInBounds (z+c+j) p) (arrOf st2)).toList=_
    rw [m8 r.toList (z+c) 0 (arrOf st2) (P++Aa.take c) (Aa.drop c++B.take m) (B.drop m++S) (by
     rw [ok.ar,har,ea]
     conv=>lhs;rw [← zI c Aa,← zI m B]
     simp only [zh]) (by simp;omega) lr.symm]
    simp only [zh]
   by_cases hle:na - c≤m
   ·refine au hle ?_
    refine zg (sD hO hB' ga gb sx' sy' (by omega) (by omega) (fun p q hp hq=>?_) (fun t ht=>?_) fun r st2 ok M=>fin r st2 ok M)
    ·rw [y0] at hq
     cases hq
     rw [ex] at hp
     exact k2 _ (zc.mpr rfl) _ (zO hp)
    ·rw [xn] at ht
     cases ht
     rw [ey]
     exact k3
   ·refine av hle ?_
    refine zg (sE hO hB' ⟨ga,gb,sx',sy',fun t ht=>?_⟩ (by omega) (by omega) (fun t ht=>?_) fun r st2 ok M=>fin r st2 ok M)
    ·rw [y0] at ht
     cases ht
     rw [ex]
     exact k2
    ·rw [xn] at ht
     cases ht
     rw [ey]
     exact k3
end
end Ts
namespace Ts
open PySem PyProof.Rows
variable {κ:KeyKind}
def PdL (κ:KeyKind):Nat→List (Nat × Nat × Nat)→List (List Keyed)→Prop
 | _,[],[]=>True
 | z,p::ps,r::rs=>p.1=z∧p.2.1=r.length∧0 < r.length∧Srt κ r∧PdL κ (z+r.length) ps rs
 | _,_,_=>False
theorem PdL.app:∀ {p q:List (Nat × Nat × Nat)} {z:Nat} {rs:List (List Keyed)},PdL κ z (p++q) rs→∃ r1 r2,rs=r1++r2∧r1.length=p.length∧PdL κ z p r1∧PdL κ (z+r1.flatten.length) q r2
 | [],q,z,rs,h=>⟨[],rs,rfl,rfl,An,h⟩
 | _::_,q,z,[],h=>h.elim
 | _::p,q,z,r::rs,h=>by
  obtain ⟨a1,a2,a3,a4,a5⟩:=h
  obtain ⟨r1,r2,e,l,b1,b2⟩:=PdL.app a5
  refine ⟨r::r1,r2,by rw [e];rfl,by simp [l],⟨a1,a2,a3,a4,b1⟩,?_⟩
  rw [A_,zk,← CP]
  exact b2
theorem PdL.join:∀ {p q:List (Nat × Nat × Nat)} {z:Nat} {r1 r2:List (List Keyed)},PdL κ z p r1→PdL κ (z+r1.flatten.length) q r2→PdL κ z (p++q) (r1++r2)
 | [],q,z,[],r2,_,h=>h
 | [],q,z,_::_,r2,h,_=>h.elim
 | _::_,q,z,[],r2,h,_=>h.elim
 | _::p,q,z,r::r1,r2,h,g=>by
  obtain ⟨a1,a2,a3,a4,a5⟩:=h
  rw [A_,zk,← CP] at g
  exact ⟨a1,a2,a3,a4,PdL.join a5 g⟩
theorem PdL.len:∀ {p:List (Nat × Nat × Nat)} {z:Nat} {rs:List (List Keyed)},PdL κ z p rs→p.length≤rs.flatten.length
 | [],z,[],_=>AG _
 | [],z,_::_,h=>h.elim
 | _::_,z,[],h=>h.elim
 | _::p,z,r::rs,h=>by
  obtain ⟨a1,a2,a3,a4,a5⟩:=h
  have:=PdL.len a5
  rw [A_,zk,Ar]
  omega
theorem PdL.same:∀ {p q:List (Nat × Nat × Nat)} {z:Nat} {rs:List (List Keyed)},PdL κ z p rs→q.map (fun t=>(t.1,t.2.1))=p.map (fun t=>(t.1,t.2.1))→PdL κ z q rs
 | [],[],z,rs,h,_=>h
 | [],_::_,z,rs,_,e=>by simp at e
 | _::_,[],z,rs,_,e=>by simp at e
 | _::_,_::_,z,[],h,_=>h.elim
 | x::p,y::q,z,r::rs,h,e=>by
  obtain ⟨a1,a2,a3,a4,a5⟩:=h
  simp only [A0,List.cons.injEq,Prod.mk.injEq] at e
  exact ⟨e.1.1.trans a1,e.1.2.trans a2,a3,a4,PdL.same a5 e.2⟩
theorem nc {f:Nat × Nat × Nat→Nat × Nat × Nat}(hf:∀ t,(f t).1=t.1∧(f t).2.1=t.2.1):∀ (l:List (Nat × Nat × Nat)) (i:Nat),(l.modify i f).map (fun t=>(t.1,t.2.1))=l.map (fun t=>(t.1,t.2.1))
 | [],i=>by cases i <;> rfl
 | x::l,0=>by
  show ((f x).1,(f x).2.1)::_=_
  rw [(hf x).1,(hf x).2]
  rfl
 | x::l,i+1=>by
  show (x.1,x.2.1)::(l.modify i f).map _=_
  rw [nc hf l i]
  rfl
theorem ng {xs:Array Keyed}{i:Nat}{x:Keyed}(h:xs.toList[i]? = some x):KK κ xs i=kof κ x:=by
 rw [zX] at h
 unfold KK kof
 rw [h]
structure Iv (κ:KeyKind) (a0:Array Keyed) (st:SortSt) (lo:Nat):Prop where
 tb:TB st
 pm:(arrOf st).Perm a0
 ex:∃ rs T,(arrOf st).toList=rs.flatten++T∧rs.flatten.length=lo∧PdL κ 0 (pendingOf st).toList rs
theorem Iv.gd {a0:Array Keyed}{st:SortSt}{lo:Nat}(I:Iv κ a0 st lo)(h0:KeysOf κ a0):∀ x∈(arrOf st).toList,Gd κ x:=fun x hx=>h0 x ((AX.mp I.pm).mem_iff.mp hx)
theorem Iv.part {a0:Array Keyed}{st st':SortSt}{lo hi:Nat}(I:Iv κ a0 st lo)(R:Rs κ lo hi st st'):Iv κ a0 st' lo:=by
 obtain ⟨rs,T,e,l,p⟩:=I.ex
 refine ⟨R.tb,R.rp.pm.trans I.pm,rs,(arrOf st').toList.drop lo,?_,l,by rw [R.pd];exact p⟩
 have:(arrOf st').toList.take lo=rs.flatten:=by
  have e2:(arrOf st).toList.take lo=rs.flatten:=by rw [e,← l,List.take_left]
  rw [← e2]
  apply List.ext_getElem?
  intro k
  by_cases hk:k < lo
  ·rw [A9 hk,A9 hk,zX,zX,R.rp.out k (.inl hk)]
  ·rw [BP (by rw [zo];omega),BP (by rw [zo];omega)]
 rw [← this,zI]
theorem Iv.mod {a0:Array Keyed}{st:SortSt}{lo i:Nat}(I:Iv κ a0 st lo){f:Nat × Nat × Nat→Nat × Nat × Nat}(hf:∀ t,(f t).1=t.1∧(f t).2.1=t.2.1):Iv κ a0 (setPending st ((pendingOf st).modify i f)) lo:=by
 obtain ⟨rs,T,e,l,p⟩:=I.ex
 refine ⟨⟨I.tb.kind,I.tb.failed⟩,I.pm,rs,T,e,l,?_⟩
 show PdL κ 0 ((pendingOf st).modify i f).toList rs
 rw [Array.toList_modify]
 exact p.same (nc hf _ _)
theorem Iv.push {a0:Array Keyed}{st:SortSt}{lo n w:Nat}(I:Iv κ a0 st lo)(hn:0 < n)(hz:lo+n≤(arrOf st).size)(hs:SrI κ (arrOf st) lo (lo+n)):Iv κ a0 (setPending st ((pendingOf st).push (lo,n,w))) (lo+n):=by
 obtain ⟨rs,T,e,l,p⟩:=I.ex
 have lT:lo+T.length=(arrOf st).size:=by rw [← ze,e,zk,l]
 have ln:(T.take n).length=n:=by rw [zo];omega
 have at_:∀ i x,T[i]? = some x→KK κ (arrOf st) (lo+i)=kof κ x:=fun i x hx=>ng (by rw [e,zG (by omega),← l,Bc];exact hx)
 refine ⟨⟨I.tb.kind,I.tb.failed⟩,I.pm,rs++[T.take n],T.drop n,?_,?_,?_⟩
 ·show (arrOf st).toList=_
  rw [e,Bd,BH,zh,zI]
 ·rw [Bd,BH,zk,l,ln]
 ·show PdL κ 0 ((pendingOf st).push (lo,n,w)).toList _
  rw [A8]
  refine PdL.join p ⟨by rw [l];omega,ln.symm,by omega,?_,An⟩
  refine Bo.mpr fun i j hi hj hij=>?_
  rw [zo] at hi hj
  rw [List.getElem_take,List.getElem_take]
  have:=hs (lo+i) (lo+j) (by omega) (by omega) (by omega)
  rw [at_ i _ (y_ (by omega)),at_ j _ (y_ (by omega))] at this
  exact this
theorem vj {l:List (Nat × Nat × Nat)}{i:Nat}(h:i+1 < l.length):∃ p x y q,l=p++x::y::q∧p.length=i:=by
 refine ⟨l.take i,l[i],l[i+1],l.drop (i+2),?_,by rw [zo];omega⟩
 conv=>lhs;rw [← zI i l]
 rw [Bp (by omega),Bp h]
section
variable {prog:Program} {w:World} {A:Around} {E:Value→Shared→Prop} {s:Shared}
theorem eJ {a0:Array Keyed}{st:SortSt}{lo i:Nat}{Q:Bool→SortSt→Prop}(hO:κ.OneLt)(h0:KeysOf κ a0)(I:Iv κ a0 st lo)(hi:i+1 < (pendingOf st).size)
  (h:∀ st',Iv κ a0 st' lo→(pendingOf st').size+1=(pendingOf st).size→(∀ k,lo≤k→(arrOf st')[k]? = (arrOf st)[k]?)→Q true st'):wpS (model prog w) A E s (mergeAt' i) Q st:=by
 obtain ⟨rs,T,e,l,p⟩:=I.ex
 obtain ⟨p1,x,y,p2,ep,lp⟩:=vj (l:=(pendingOf st).toList) (i:=i) (by rw [ze];exact hi)
 rw [ep] at p
 obtain ⟨r1,r2,er,_,P1,P2⟩:=p.app
 match r2,P2,er with
 | A1::B1::r2,P2,er =>
  obtain ⟨x1,x2,x3,x4,y1,y2,y3,y4,P3⟩:=P2
  obtain ⟨xa,xb,xc⟩:=x
  obtain ⟨ya,yb,yc⟩:=y
  dsimp only at x1 x2 y1 y2
  subst er
  have ea:(arrOf st).toList=r1.flatten++(A1++(B1++(r2.flatten++T))):=by
   rw [e]
   simp only [Bd,A_,zh]
  have e1:(pendingOf st)[i]? = some (r1.flatten.length,A1.length,xc):=by
   rw [← zX,ep,zG (by omega),lp,CJ,x1,x2,BO]
   rfl
  have e2:(pendingOf st)[i+1]? = some (r1.flatten.length+A1.length,B1.length,yc):=by
   rw [← zX,ep,zG (by omega),lp,Bc,y1,y2,BO]
   rfl
  refine sI hO I.tb (I.gd h0) e1 e2 ea rfl rfl rfl x3 y3 x4 y4 fun st' R t1 t2 t3 M=>?_
  have lR:R.length=A1.length+B1.length:=by rw [M.1.length_eq,zk]
  have ep':(pendingOf st').toList=p1++(r1.flatten.length,A1.length+B1.length,xc)::p2:=by
   rw [t2,Array.toList_eraseIdxIfInBounds,B9,ep,List.set_append_right _ _ (by omega),List.eraseIdx_append_of_length_le (by omega),lp,CJ,Bc]
   rfl
  have eT:(arrOf st').toList=(r1++R::r2).flatten++T:=by
   rw [t3]
   simp only [Bd,A_,zh]
  have lT:(r1++R::r2).flatten.length=lo:=by
   rw [← l]
   simp only [Bd,A_,zk,lR]
   omega
  refine h st' ⟨t1,?_,r1++R::r2,T,eT,lT,?_⟩ ?_ fun k hk=>?_
  ·refine Array.Perm.trans (AX.mpr ?_) I.pm
   rw [t3,ea,← zh A1]
   exact AJ _ (M.1.append_right _)
  ·rw [ep']
   refine PdL.join P1 ⟨by omega,lR.symm,by omega,M.2,?_⟩
   rw [lR,← CP]
   exact P3
  ·rw [← ze,← ze,ep',ep]
   simp only [zk,Ar]
   omega
  ·rw [← zX,← zX,eT,e,zG (by omega),zG (by omega),lT,l]
theorem Iv.done {a0:Array Keyed}{st:SortSt}(I:Iv κ a0 st a0.size)(h:(pendingOf st).size≤1):SortedToK κ (arrOf st) a0.size:=by
 obtain ⟨rs,T,e,l,p⟩:=I.ex
 have hz:(arrOf st).toList.length=a0.size:=by rw [ze];exact I.pm.size_eq
 have hT:T=[]:=Cr.mp (by rw [e,zk,l] at hz;omega)
 subst hT
 rw [AA] at e
 rw [← ze] at h
 have sr:Srt κ (arrOf st).toList:=by
  rw [e]
  match (pendingOf st).toList,rs,p,h with
  | [],[],_,_=>exact List.Pairwise.nil
  | [_],[r],p,_=>rw [BH];exact p.2.2.2.1
  | _::_::_,_,_,h=>simp at h
 intro i j hij hj
 have e1:=y_ (l:=(arrOf st).toList) (i:=i) (by omega)
 have e2:=y_ (l:=(arrOf st).toList) (i:=j) (by omega)
 rw [ng e1,ng e2]
 exact sr.at hij e1 e2
theorem pT {a0:Array Keyed}{st:SortSt}{Q:Unit→SortSt→Prop}(hO:κ.OneLt)(h0:KeysOf κ a0)(hB:SBase a0 st)
  (h:∀ st',(arrOf st').Perm a0→failedOf st'=none→SortedToK κ (arrOf st') a0.size→Q () st'):wpS (model prog w) A E s sortRuns' Q st:=by
 rw [sortRuns'_eq]
 refine zg (Cd ?_)
 dsimp only
 simp only [hB.size]
 refine zg (AM (z9
  (I:=fun x c st'=>∃ lo,c=(none,lo)∧x≤lo∧lo≤a0.size∧Iv κ a0 st' lo)
  (Q:=fun c st'=>c=(none,a0.size)∧Iv κ a0 st' a0.size) ?step ?fin ⟨0,rfl,zu _,AG _,⟨hB.kind,hB.failed⟩,hB.perm,[],(arrOf st).toList,rfl,rfl,by rw [hB.pend];exact An⟩) ?post)
 case fin =>
  rintro c st' ⟨lo,rfl,h1,h2,I⟩
  have:lo=a0.size:=by omega
  subst this
  exact ⟨rfl,I⟩
 case step =>
  rintro x c st' hx1 hx2 ⟨lo,rfl,h1,h2,I⟩
  have hz:(arrOf st').size=a0.size:=I.pm.size_eq
  dsimp only
  by_cases hge:lo≥a0.size
  ·refine au hge ?_
   have:lo=a0.size:=by omega
   subst this
   exact zm ⟨rfl,I⟩
  ·refine av hge ?_
   refine zg (pR hO I.tb (I.gd h0) (by omega) (by omega) fun n st2 n1 n2 R s2=>?_)
   have I2:=I.part R
   have hz2:(arrOf st2).size=a0.size:=I2.pm.size_eq
   dsimp only
   by_cases hm:n < minRun' a0.size a0.size 0
   ·refine au hm ?_
    refine zg (CL (AB ⟨rfl,?_⟩))
    refine zg (pS hO I2.tb (I2.gd h0) (by omega) (by omega) s2 fun st3 R3 s3=>?_)
    simp only [BZ,zp,AE]
    have M1:1≤(min (a0.size - lo) (minRun' a0.size a0.size 0)):=by omega
    have M2:lo+(min (a0.size - lo) (minRun' a0.size a0.size 0))≤a0.size:=by omega
    have IX:=I2.part R3
    have S3:=s3
    refine zg (Cd ?_)
    cases (pendingOf st3).back? with
    | none=>exact zg (Bx (zm ⟨lo+(min (a0.size - lo) (minRun' a0.size a0.size 0)),rfl,by omega,M2,IX.push M1 (by rw [IX.pm.size_eq];exact M2) S3⟩))
    | some t =>
     obtain ⟨a,b,c⟩:=t
     dsimp only
     refine zg (AM (z9 (I:=fun _ c st3'=>c=(none,())∧Iv κ a0 st3' lo∧∀ k,lo≤k→(arrOf st3')[k]? = (arrOf st3)[k]?)
      (Q:=fun c st3'=>c=(none,())∧Iv κ a0 st3' lo∧∀ k,lo≤k→(arrOf st3')[k]? = (arrOf st3)[k]?) ?step1 (fun _ _ h=>h) ⟨rfl,IX,fun _ _=>rfl⟩) ?post1)
     case step1 =>
      rintro y c st3' _ _ ⟨rfl,Iw,kw⟩
      refine zg (Cd ?_)
      by_cases hz:(pendingOf st3').size > 1
      ·rw [if_pos hz]
       cases e:(pendingOf st3')[(pendingOf st3').size - 2]? with
       | none=>exact zm ⟨rfl,Iw,kw⟩
       | some t =>
        obtain ⟨a',b',c'⟩:=t
        dsimp only
        by_cases hp:c'≤power' a0.size (2*a+b) (2*a+b+b+(min (a0.size - lo) (minRun' a0.size a0.size 0))) a0.size
        ·refine au hp ?_
         exact zm ⟨rfl,Iw,kw⟩
        ·refine av hp ?_
         refine zg (eJ hO h0 Iw (by omega) fun stq Iq _ k2=>?_)
         simp only [BZ,zp,AE]
         exact zm ⟨rfl,Iq,fun k hk=>(k2 k hk).trans (kw k hk)⟩
      ·rw [if_neg hz]
       exact zm ⟨rfl,Iw,kw⟩
     case post1 =>
      rintro c st3' ⟨rfl,Iw,kw⟩
      dsimp only
      refine zg (Bx ?_)
      have J2:=Iw.mod (i:=(pendingOf st3').size - 1) (f:=fun t=>(t.1,t.2.1,power' a0.size (2*a+b) (2*a+b+b+(min (a0.size - lo) (minRun' a0.size a0.size 0))) a0.size)) fun t=>⟨rfl,rfl⟩
      refine zg (Bx (zm ⟨lo+(min (a0.size - lo) (minRun' a0.size a0.size 0)),rfl,by omega,M2,J2.push M1 (by rw [J2.pm.size_eq];exact M2) fun i j hi hij hj=>?_⟩))
      show κ.kle (KK κ (arrOf st3') i) (KK κ (arrOf st3') j)
      rw [KK_congr (kw i (by omega)),KK_congr (kw j (by omega))]
      exact S3 i j hi hij hj
   ·refine av hm ?_
    have M1:1≤n:=by omega
    have M2:lo+n≤a0.size:=by omega
    have IX:=I2
    have S3:=s2
    refine zg (Cd ?_)
    cases (pendingOf st2).back? with
    | none=>exact zg (Bx (zm ⟨lo+n,rfl,by omega,M2,IX.push M1 (by rw [IX.pm.size_eq];exact M2) S3⟩))
    | some t =>
     obtain ⟨a,b,c⟩:=t
     dsimp only
     refine zg (AM (z9 (I:=fun _ c st2'=>c=(none,())∧Iv κ a0 st2' lo∧∀ k,lo≤k→(arrOf st2')[k]? = (arrOf st2)[k]?)
      (Q:=fun c st2'=>c=(none,())∧Iv κ a0 st2' lo∧∀ k,lo≤k→(arrOf st2')[k]? = (arrOf st2)[k]?) ?step2 (fun _ _ h=>h) ⟨rfl,IX,fun _ _=>rfl⟩) ?post2)
     case step2 =>
      rintro y c st2' _ _ ⟨rfl,Iw,kw⟩
      refine zg (Cd ?_)
      by_cases hz:(pendingOf st2').size > 1
      ·rw [if_pos hz]
       cases e:(pendingOf st2')[(pendingOf st2').size - 2]? with
       | none=>exact zm ⟨rfl,Iw,kw⟩
       | some t =>
        obtain ⟨a',b',c'⟩:=t
        dsimp only
        by_cases hp:c'≤power' a0.size (2*a+b) (2*a+b+b+n) a0.size
        ·refine au hp ?_
         exact zm ⟨rfl,Iw,kw⟩
        ·refine av hp ?_
         refine zg (eJ hO h0 Iw (by omega) fun stq Iq _ k2=>?_)
         simp only [BZ,zp,AE]
         exact zm ⟨rfl,Iq,fun k hk=>(k2 k hk).trans (kw k hk)⟩
      ·rw [if_neg hz]
       exact zm ⟨rfl,Iw,kw⟩
     case post2 =>
      rintro c st2' ⟨rfl,Iw,kw⟩
      dsimp only
      refine zg (Bx ?_)
      have J2:=Iw.mod (i:=(pendingOf st2').size - 1) (f:=fun t=>(t.1,t.2.1,power' a0.size (2*a+b) (2*a+b+b+n) a0.size)) fun t=>⟨rfl,rfl⟩
      refine zg (Bx (zm ⟨lo+n,rfl,by omega,M2,J2.push M1 (by rw [J2.pm.size_eq];exact M2) fun i j hi hij hj=>?_⟩))
      show κ.kle (KK κ (arrOf st2') i) (KK κ (arrOf st2') j)
      rw [KK_congr (kw i (by omega)),KK_congr (kw j (by omega))]
      exact S3 i j hi hij hj
 case post =>
  rintro c st' ⟨rfl,I⟩
  dsimp only
  refine zg (AM (z9 (I:=fun x c st''=>c=(none,())∧Iv κ a0 st'' a0.size∧((pendingOf st'').size+x≤a0.size ∨ (pendingOf st'').size≤1))
   (Q:=fun c st''=>c=(none,())∧Iv κ a0 st'' a0.size∧(pendingOf st'').size≤1) ?_ ?_ ⟨rfl,I,?_⟩) ?_)
  ·rintro x c st'' _ hx ⟨rfl,I',hp⟩
   refine zg (Cd ?_)
   by_cases h1:(pendingOf st'').size≤1
   ·refine au h1 ?_
    exact zm ⟨rfl,I',h1⟩
   ·refine av h1 ?_
    refine zg (eJ hO h0 I' (have pick:∀ (b:Bool) (n:Nat),1 < n→(if b=true then n - 2 - 1 else n - 2)+1 < n:=(fun b n hn=>by cases b <;> simp <;> omega);pick _ _ (by omega)) fun st2 I2 z2 _=>?_)
    simp only [BZ,zp,AE]
    exact zm ⟨rfl,I2,.inl (by omega)⟩
  ·rintro c st'' ⟨rfl,I',hp⟩
   exact ⟨rfl,I',by omega⟩
  ·obtain ⟨rs,T,e,l,p⟩:=I.ex
   have:=p.len
   rw [ze,l] at this
   exact .inl (by omega)
  ·rintro c st'' ⟨rfl,I',hp⟩
   exact zm (h st'' I'.pm I'.tb.failed (I'.done hp))
end
end Ts
namespace Ts
open PySem PyProof.Rows
variable {κ:KeyKind}
section
variable {prog:Program} {w:World} {A:Around} {E:Value→Shared→Prop} {s:Shared}
theorem j0 (hO:κ.OneLt){a:Addr}{its:List Value}{m:Nat}{P:Fin→Shared→Prop}(at_:s.heap.get? a=some (seqObj "list" its.toArray m))(g:KeysOf κ (pairsOf its))
  (one:∀ x y r,its=x::y::r→keyKind' (x::y::r).toArray=pure oneType') (lim:its.length≤sizeLine)
  (q:∀ st:SortSt,(arrOf st).Perm (pairsOf its)→SortedToK κ (arrOf st) (pairsOf its).size→P (.done (.ret .none)) { s with heap:=sortedHeap s.heap a its ((arrOf st).map (·.2)) }) :
  wpAny (model prog w) A (Builtin.«list.sort» ⟨[.ref a],[]⟩) P E s:=by
 have la:=zw at_
 have lz:its.toArray.size=its.length:=by simp
 rw [list_sort_plain]
 refine fu (listItems_at at_ rfl (fu (Cs at_ rfl ?_ (by rw [lz];exact lim))))
 obtain ⟨n1,at1⟩:∃ n1,(s.heap.update a (Obj.mapSeq fun _=>#[])).get? a=some (seqObj "list" #[] n1):=⟨_,get?_update_seq at_ fun _=>#[]⟩
 refine fu (seqEpoch_at at1 rfl (fu (Bn (fu (BX (zY ?_))))))
 have at2:(((s.heap.update a (Obj.mapSeq fun _=>#[])).push (seqObj "tuple" its.toArray 0)).push (seqObj "list" #[] 0)).get? a=some (seqObj "list" #[] n1) :=
  y9 _ (y9 _ at1)
 show wpAny (model prog w) A _ P E { s with heap:=((s.heap.update a (Obj.mapSeq fun _=>#[])).push (seqObj "tuple" its.toArray 0)).push (seqObj "list" #[] 0) }
 dsimp only
 by_cases two:its.toArray.size < 2
 ·rw [if_pos two,if_pos two]
  refine fu (zd ?_)
  rw [StateT.run_pure]
  refine fu (zd ?_)
  dsimp only
  have zz:((its.toArray.zip its.toArray).map (·.2)).size≤sizeLine+1:=by
   rw [Array.size_map]
   show (pairsOf its).size≤_
   rw [pairsOf_size]
   omega
  refine fu (seqEpoch_at at2 rfl (fu (Cs at2 rfl ?_ (hsz2:=zz))))
  simp only [bne_self_eq_false,zp,AE]
  refine zd (q (SortSt.mk' general' (its.toArray.zip its.toArray) #[] 7 none) (CI _) fun i j hij hj=>?_)
  rw [pairsOf_size] at hj
  have:i=j:=by omega
  subst this
  exact Ap _
 ·rw [if_neg two,if_neg two]
  obtain ⟨x,y,r,rfl⟩:∃ x y r,its=x::y::r:=by
   match its,lz,two with
   | [],_,t=>exact absurd (by simp) t
   | [_],_,t=>exact absurd (by simp) t
   | x::y::r,_,_=>exact ⟨x,y,r,rfl⟩
  rw [one _ _ _ rfl]
  refine fu (zd (fu (CS (pT (κ:=κ) hO (a0:=pairsOf (x::y::r)) (st:=SortSt.mk' oneType' ((x::y::r).toArray.zip (x::y::r).toArray) #[] 7 none)
   (Q:=fun _ st=>(arrOf st).Perm (pairsOf (x::y::r))∧failedOf st=none∧SortedToK κ (arrOf st) (pairsOf (x::y::r)).size) g ⟨CI _,rfl,rfl,rfl⟩ fun st c1 c2 c3=>⟨c1,c2,c3⟩) ?_ fun _ _ e=>e)))
  rintro ⟨⟨⟩,st⟩ s2 ⟨rfl,c1,c2,c3⟩
  dsimp only
  have zz:((arrOf st).map (·.2)).size≤sizeLine+1:=by
   rw [Array.size_map,c1.size_eq,pairsOf_size]
   omega
  refine fu (seqEpoch_at at2 rfl (fu (Cs at2 rfl ?_ (hsz2:=zz))))
  rw [c2]
  simp only [bne_self_eq_false,zp,AE]
  exact zd (q st c1 c3)
end
end Ts
namespace Wd
section
variable {α:Type}
end
end Wd
namespace PySem
abbrev zu1 (h:Heap)(x:Str)(t:Tok):Heap:=h.push { cls:=.type "str_ascii_iterator",data:=.fields #[.str x t,.int 0 0] }
abbrev zu2 (h:Heap)(x:Str)(t:Tok)(q:Addr):Heap:=(zu1 h x t).push { cls:=.type "tuple_iterator",data:=.fields #[.ref q,.int 0 0] }
abbrev zu3 (h:Heap)(x:Str)(t:Tok)(q:Addr):Heap:=(zu2 h x t q).push { cls:=.type "tuple",data:=.seq #[.ref h.objs.size,.ref (zu1 h x t).objs.size] }
abbrev zu4 (h:Heap)(x:Str)(t:Tok)(q:Addr):Heap:=(zu3 h x t q).push { cls:=.type "tuple",data:=.seq #[.none,.none] }
abbrev zu5 (h:Heap)(x:Str)(t:Tok)(q:Addr):Heap:=(zu4 h x t q).push { cls:=.type "zip",data:=.fields #[.none,.bool false,.bool false,.ref (zu2 h x t q).objs.size,.ref (zu3 h x t q).objs.size] }
set_option maxHeartbeats 2000000 in
theorem i_ (x:Str)(t:Tok)(q:Addr)(ys:Array Value)(hx:x.cps.all (· < 128)=true):Meets (Builtin.«zip.__new__» ⟨[.type "zip",.str x t,.ref q],[]⟩) (fun _ R s=>s.heap.IsTuple q ys∧R (.ok (.ret (.ref (zu4 s.heap x t q).objs.size))) { s with heap:=zu5 s.heap x t q }) :=
 .of_wp fun prog w A R s h=>by
  obtain ⟨hp,gg,dd,tk,os⟩:=s
  obtain ⟨t2,h⟩:=h
  have hsub:=sub_zip
  have T2:Heap.IsTuple (Shared.heap ⟨hp.push { cls:=.type "str_ascii_iterator",data:=.fields #[.str x t,.int 0 0] },gg,dd,tk,os⟩) q ys:=by
   obtain ⟨o,e,r⟩:=t2
   exact ⟨o,y9 _ e,r⟩
  wp_walk using wpAny_pyIter_ascii hx,Bz T2
  exact ⟨_,rfl,h⟩
theorem kM {prog:Program}{w:World}{A:Around}{E:Value→Shared→Prop}{s:Shared}{x:Str}{t:Tok}{q:Addr}{ys:Array Value}{Q:Value→Shared→Prop}(hx:x.cps.all (· < 128)=true)(hy:s.heap.IsTuple q ys)
  (h:∀ h',IsZip h' (s.heap.objs.size+4) (s.heap.objs.size+2) (s.heap.objs.size+3) .none→IsPair h' (s.heap.objs.size+2) (.ref s.heap.objs.size) (.ref (s.heap.objs.size+1))→IsPair h' (s.heap.objs.size+3) .none .none →
   ue h' s.heap.objs.size x t 0→h'.IsTupleIter (s.heap.objs.size+1) q 0→(∀ c o,s.heap.get? c=some o→h'.get? c=some o)→Q (.ref (s.heap.objs.size+4)) { s with heap:=h' }) :
  wpAny (model prog w) A (call (.type "zip") [.str x t,.ref q]) Q E s:=by
 refine callType_new F.called_zip (by decide) (F.typeCall_zip_2 _ _) (F.newCall_zip_2 _ _) (fun obj=>F.args_object_init_3 obj _ _) F.entry_zip_new (i_ x t q ys hx) ⟨hy,?_⟩
 have n1:(zu1 s.heap x t).objs.size=s.heap.objs.size+1:=zU ..
 have n2:(zu2 s.heap x t q).objs.size=s.heap.objs.size+2:=by rw [zU,n1]
 have n3:(zu3 s.heap x t q).objs.size=s.heap.objs.size+3:=by rw [zU,n2]
 have n4:(zu4 s.heap x t q).objs.size=s.heap.objs.size+4:=by rw [zU,n3]
 have g5:(zu5 s.heap x t q).get? (zu4 s.heap x t q).objs.size=some _:=zj _ rfl
 have g4:(zu5 s.heap x t q).get? (zu3 s.heap x t q).objs.size=some _:=y9 _ (zj _ rfl)
 have g3:(zu5 s.heap x t q).get? (zu2 s.heap x t q).objs.size=some _:=y9 _ (y9 _ (zj _ rfl))
 have g2:(zu5 s.heap x t q).get? (zu1 s.heap x t).objs.size=some _:=y9 _ (y9 _ (y9 _ (zj _ rfl)))
 have g1:(zu5 s.heap x t q).get? s.heap.objs.size=some _:=y9 _ (y9 _ (y9 _ (y9 _ (zj _ rfl))))
 show _∧_
 rw [n2,n3,n4] at g5
 rw [n1,n2] at g3
 rw [n3] at g4
 rw [n1] at g2
 rw [n4]
 exact ⟨⟨_,g5,rfl⟩,h _ g5 g3 g4 ⟨_,g1,rfl,rfl⟩ ⟨_,g2,rfl,rfl⟩ fun c o q=>y9 _ (y9 _ (y9 _ (y9 _ (y9 _ q))))⟩
end PySem
namespace L2
open PySem PySem.Spec PyProof.Rows Wd
def ug (K:PySem.W.Frag)(x:Str)(q:Addr):It:=⟨fun i H=>∃ ys y,SqT K H q ys∧i < x.cps.size∧ys[i]? = some y,
 fun i H v H'=>∃ (T:Addr) (c:Nat) (y:V),H T=none∧v = .ref T∧x.cps[i]? = some c∧(∀ ys,SqT K H q ys→ys[i]? = some y)∧H'=upd H T (.tup [.str ⟨#[c]⟩,y]),
 fun i H=>∃ ys,SqT K H q ys∧i=min x.cps.size ys.length⟩
theorem vk {s:Shared}{z TI TO i1 i2 q:Addr}{a c:Value}{i:Nat}{x:Str}{t:Tok}{ys:Array Value}(D:Ap5 z TI TO i1 i2)(s1:IsZip s.heap z TI TO .none)(s3:IsPair s.heap TO a c)(s4:ue s.heap i1 x t i)(s5:s.heap.IsTupleIter i2 q i)
  (p2:IsTup s.heap q ys) (hTO:q≠TO):q≠i2∧Ap2 z TO i1 i2 [i1] [i2,q]:=by
 obtain ⟨o1,g1,c1,_⟩:=s4
 obtain ⟨o2,g2,c2,_⟩:=s5
 obtain ⟨o4,g4,c4,_⟩:=p2
 have n2:q≠i2:=fun e=>by rw [e,g2] at g4;cases g4;rw [c2] at c4;simp at c4
 have n4:q≠z:=fun e=>by rw [e,s1] at g4;cases g4;simp at c4
 have n6:q≠i1:=fun e=>by rw [e,g1] at g4;cases g4;rw [c1] at c4;simp at c4
 refine ⟨n2,?_,?_,?_,?_,?_,?_⟩ <;> simp only [zt,zv,Aw,not_or]
 ·exact D.i1z.symm
 ·exact ⟨D.i2z.symm,n4.symm⟩
 ·exact D.TOi1
 ·exact ⟨D.TOi2,hTO.symm⟩
 ·exact ⟨D.i12,n6.symm⟩
 ·exact D.i12.symm
theorem kO {P:Program}{w:World}{K:PySem.W.Frag}{elts:List Expr}{k:Nat}{pos:Pos}{z TI TO i1 i2:Addr}{x:Str}{t:Tok}{q:Addr}(D:Ap5 z TI TO i1 i2)(hTO:q≠TO) :
  qI P w K (.Tuple elts k pos) (ug K x q) [z,TI,TO,i1,i2] z (fun i h=>IsZip h z TI TO .none∧IsPair h TI (.ref i1) (.ref i2)∧(∃ a b,IsPair h TO a b)∧ue h i1 x t i∧h.IsTupleIter i2 q i) where
 mem:=by simp
 obj:=fun i h st b hb=>by
  obtain ⟨s1,s2,⟨a,c,s3⟩,⟨o1,s4,_,d4⟩,⟨o2,s5,_,d5⟩⟩:=st
  simp only [zt,zv,Aw] at hb
  rcases hb with rfl | rfl | rfl | rfl | rfl
  ·exact ⟨_,s1,fun v q=>by cases q⟩
  ·exact ⟨_,s2,fun v q=>by cases q⟩
  ·exact ⟨_,s3,fun v q=>by cases q⟩
  ·exact ⟨_,s4,fun v q=>by rw [d4] at q;cases q⟩
  ·exact ⟨_,s5,fun v q=>by rw [d5] at q;cases q⟩
 keep:=fun i h h' st kk=>by
  obtain ⟨s1,s2,⟨a,c,s3⟩,⟨o1,s4,r4⟩,⟨o2,s5,r5⟩⟩:=st
  exact ⟨kk z (by simp) _ s1,kk TI (by simp) _ s2,⟨a,c,kk TO (by simp) _ s3⟩,⟨o1,kk i1 (by simp) _ s4,r4⟩,⟨o2,kk i2 (by simp) _ s5,r5⟩⟩
 item:=by
  intro X hP hw hK hc i pins s σ H E I hf st hg
  subst hP hw hK
  obtain ⟨ys,vy,hq2,hx,hy⟩:=hg
  obtain ⟨its2,rv2,p2,hz2⟩:=I.tuple hq2
  obtain ⟨u2,hu2,ru2⟩:=rv2.get hy
  obtain ⟨s1,s2,⟨a,c,s3⟩,s4,s5⟩:=st
  have hu2':its2.toArray[i]? = some u2:=by simpa using hu2
  obtain ⟨np1,np2⟩:=vk D s1 s3 s4 s5 p2 hTO
  refine kJ (Cf (by exact I.ok.hd hc) i1 x t) (mQ (by exact I.ok.hd hc) i2 q np1 its2.toArray) D np2 s1 s2 s3 s4 ⟨s5,p2⟩ hx (zM.mp hu2').1 fun h' tk v1 v2 w1 w2 b1 b2 b3 b4 b5 b6=>⟨_,rfl,?_⟩
  obtain ⟨cc,uu,hcc,rfl⟩:=w1
  obtain rfl:u2=v2:=by rw [show its2.toArray[i]? = some v2 from w2] at hu2';exact (Af hu2').symm
  refine wpAny_letOwnedTupleGo_zip b1 fun h2 c1' e2=>?_
  have there:∀ b∈[z,TI,TO,i1,i2],∃ o,s.heap.get? b=some o:=fun b hb=>by
   obtain ⟨o1,q4,_⟩:=s4
   obtain ⟨o2,q5,_⟩:=s5
   simp only [zt,zv,Aw] at hb
   rcases hb with rfl | rfl | rfl | rfl | rfl
   ·exact ⟨_,s1⟩
   ·exact ⟨_,s2⟩
   ·exact ⟨_,s3⟩
   ·exact ⟨_,q4⟩
   ·exact ⟨_,q5⟩
  have kk:∀ b o,b∉[z,TI,TO,i1,i2]→s.heap.get? b=some o→h2.get? b=some o:=fun b o hb e=>by
   simp only [zt,zv,Aw,not_or] at hb
   exact e2.extBut _ _ hb.1 (b6 b o hb.1 hb.2.2.1 hb.2.2.2.1 hb.2.2.2.2 e)
  have hTz:s.heap.objs.size≠z:=AN (zw s1)
  have I2:Inv X pins σ (upd H s.heap.objs.size (.tup [.str ⟨#[cc]⟩,vy])) { s with heap:=h2,toks:=tk } :=
   I.stepT (ch:=[z,TI,TO,i1,i2]) (its:=[.str ⟨#[cc]⟩ uu,u2]) hf kk (zu _) (by show 2≤sizeLine;decide) (.cons ⟨_,rfl⟩ (.cons ru2 .nil)) ⟨_,e2.extBut _ _ hTz b5,rfl,_,rfl⟩ ⟨_,e2.extBut _ _ hTz b5,rfl⟩ there
  have hnT:H s.heap.objs.size=none:=I.hok.fresh (zu _)
  have sTI:IsPair h2 TI (.ref i1) (.ref i2):=e2.extBut _ _ D.TIz (b6 _ _ D.TIz D.TITO D.TIi1 D.TIi2 s2)
  refine ⟨.ref s.heap.objs.size,_,I2,rfl,⟨s.heap.objs.size,cc,vy,hnT,rfl,hcc,fun zs hz=>by rw [I.tuple_inj hz hq2];exact hy,rfl⟩,
   ⟨c1',sTI,⟨_,_,e2.extBut _ _ D.TOz b2⟩,b3.extBut e2.extBut D.i1z,b4.1.at fun o q=>e2.extBut _ _ D.i2z q⟩,fun b hb=>?_⟩
  obtain ⟨o,q⟩:=there b hb
  rw [aq (z3 (zw q))]
  exact (hf b hb).1
 done:=by
  intro X hP hw hK hc i pins s σ H E I hf st hg
  subst hP hw hK
  obtain ⟨ys,hq2,hi⟩:=hg
  obtain ⟨its2,rv2,p2,hz2⟩:=I.tuple hq2
  have hl2:=rv2.length
  obtain ⟨s1,s2,⟨a,c,s3⟩,s4,s5⟩:=st
  obtain ⟨np1,np2⟩:=vk D s1 s3 s4 s5 p2 hTO
  refine mT (Cf (by exact I.ok.hd hc) i1 x t) (mQ (by exact I.ok.hd hc) i2 q np1 its2.toArray) D np2 s1 s2 s3 s4 ⟨s5,p2⟩ ?_ fun h' tk kk=>⟨rfl,?_⟩
  ·simp only [Ah]
   omega
  ·have nch:∀ {b u},H b=some u→b∉[z,TI,TO,i1,i2]:=fun e q=>by rw [(hf _ q).1] at e;cases e
   have k2:∀ b o,b∉[z,TI,TO,i1,i2]→s.heap.get? b=some o→h'.get? b=some o:=fun b o hb e=>by
    simp only [zt,zv,Aw,not_or] at hb
    exact kk b o hb.1 hb.2.2.1 hb.2.2.2.1 hb.2.2.2.2 e
   refine I.step (g':=s.gens) (d':=s.drawn) (ch:=[z,TI,TO,i1,i2]) (fun b hb=>?_) (fun b o _ _ hc e _=>k2 b o hc e) (fun b o _ _ hc e _=>⟨o.slots,k2 b o hc e⟩) (fun _ _ _ _ n=>n) (fun b o hc e=>⟨o,k2 b o hc e⟩)
    (fun _ _ e=>e) (fun _ _ _ e=>e) (fun b ps e=>⟨#[],by rw [e];simp⟩) (fun m hm=>?_) (fun b u e=>?_) I.bare
   ·obtain ⟨_,f1,_,f3,f4,f5⟩:=hf b hb
    exact ⟨f3,f1,f4,f5⟩
   ·obtain ⟨o,es,ep,ho,r⟩:=hm
    exact ⟨o,es,ep,k2 _ o (fun q=>(hf _ q).2.1 rfl) ho,r⟩
   ·refine (I.hok b u e).stay (fun c v hc q=>k2 c v ?_ q) (fun _ q=>q) fun _ _ q=>q
    rcases hc with q | q
    ·rw [q];exact nch e
    ·exact nch q
 self:=fun _ _ _ _ _ st h=>Cw st.1 h
section
variable {X:Cx}
def vm (K:PySem.W.Frag)(ta:TA):TI:=fun σ H R=>ta σ H fun vs H1=>∃ x q,vs=[.str x,.ref q]∧x.cps.all (· < 128)=true∧(∃ ys,SqT K H1 q ys)∧R (ug K x q) H1
theorem pU {K:PySem.W.Frag}(hK:X.K=K){a b:Expr}{ta:TA}{p pos tp:Pos}{elts:List Expr}{k:Nat}(hg:Gl X "zip")(hm:X.mg "zip" = none)(hb:bootBuiltins "zip" = some (.type "zip"))(ha:PA X [a,b] ta)(hs:starEach [a,b] X.env=(false,eval a X.env)::starEach [b] X.env:=by rfl)(hs2:(backTo pos (starEach [b] X.env)).any (·.1)=false:=by rfl) :
  PI X (.Tuple elts k tp) (.Call (.Name "zip" p) [a,b] [] pos) (vm K ta):=by
 subst hK
 intro pins s σ H R I h
 refine Call_ (cy I hg hm hb (Ax (thn (ha pos pins s σ H _ I h) fun us s1 zq1=>?_) hs hs2))
 obtain ⟨vs,H1,I1,r1,q1⟩:=zq1
 obtain ⟨x,l2,rfl,hx,⟨ys,hy⟩,q⟩:=q1
 obtain ⟨u1,u2,rfl,r3,r4⟩:=o7 r1
 obtain ⟨tt,rfl⟩:=r3
 cases r4
 obtain ⟨its2,rv2,p2,hz2⟩:=I1.tuple hy
 refine kM hx p2 fun h' b1 b2 b3 b4 b5 b6=>?_
 have I2:Inv X pins σ H1 { s1 with heap:=h',toks:=s1.toks }:=I1.kept b6
 have hlt:l2 < s1.heap.objs.size:=by obtain ⟨o,e,_⟩:=p2;exact zw e
 refine Cw (s:={ s1 with heap:=h',toks:=s1.toks }) b1 ?_
 refine ⟨s1.heap.objs.size+4,[s1.heap.objs.size+4,s1.heap.objs.size+2,s1.heap.objs.size+3,s1.heap.objs.size,s1.heap.objs.size+1],_,ug X.K x l2,H1,rfl,I2,
  kO (t:=tt) (qX s1.heap.objs.size) (z3 (Ad hlt (Br _ _))),⟨b1,b2,⟨_,_,b3⟩,b4,b5⟩,fun b hb=>?_,q⟩
 have hge:s1.heap.objs.size≤b:=by
  simp only [zt,zv,Aw] at hb
  rcases hb with rfl | rfl | rfl | rfl | rfl <;> omega
 exact I1.fpOk hge (I1.hok.fresh hge)
end
theorem nh {K:PySem.W.Frag}{z:Str}{q:Addr}{ys:List V}{g:TG}{tb:TS}{D:gv}{σ:St}{H:Hp}(Pv:Nat→St→Hp→Prop)(h0:Pv 0 σ H)(hl:∀ i σ H,Pv i σ H→SqT K H q ys)
  (hs:∀ i c y σ H T,z.cps[i]? = some c→ys[i]? = some y→Pv i σ H→H T=none→g (.ref T) σ (upd H T (.tup [.str ⟨#[c]⟩,y])) fun σ2 H2=>tb { D with nx:=Pv (i+1),ct:=Pv (i+1),bk:=D.nx } σ2 H2) (hd:∀ σ H,Pv (min z.cps.size ys.length) σ H→D.nx σ H) :
  ∃ W:Nat→Nat→St→Hp→Prop,(∃ m,W 0 m σ H)∧∀ i m σ H,W i m σ H →
   ((ug K z q).stop i H∧D.nx σ H) ∨ ((ug K z q).go i H∧∃ N:St→Hp→Prop,(∀ σ' H',N σ' H'→∃ m',m' < m∧W (i+1) m' σ' H')∧∀ x H',(ug K z q).yld i H x H'→g x σ H' fun σ2 H2=>tb { D with nx:=N,ct:=N,bk:=D.nx } σ2 H2):=by
 refine ⟨fun i m σ H=>m=min z.cps.size ys.length - i∧i≤min z.cps.size ys.length∧Pv i σ H,⟨min z.cps.size ys.length,by simp,AG _,h0⟩,?_⟩
 rintro i m σ H ⟨rfl,hi,pv⟩
 have q2:=hl i σ H pv
 by_cases hlt:i < min z.cps.size ys.length
 ·refine .inr ⟨⟨ys,ys[i],q2,by omega,y_ (by omega)⟩,Pv (i+1),fun σ' H' p'=>⟨min z.cps.size ys.length - (i+1),by omega,rfl,hlt,p'⟩,?_⟩
  rintro v H' ⟨T,c,y,hT,rfl,hx,hy,rfl⟩
  exact hs i c y σ _ T hx (hy ys q2) pv hT
 ·obtain rfl:i=min z.cps.size ys.length:=by omega
  exact .inl ⟨⟨ys,q2,rfl⟩,hd σ H pv⟩
section
variable {X:Cx}
end
end L2
namespace Wd
def img (ws:List (List L))(x:L):List L:=if x.val < 6 then ws.getD x.val [] else bk (ws.getD (x.val - 6) [])
def sub (ws:List (List L))(u:List L):List L:=u.flatMap (img ws)
theorem ja (x:L):(inv x).val=if x.val < 6 then x.val+6 else x.val - 6:=by unfold inv; split <;> rfl
def InM (n:Nat)(u:List L):Prop:=∀ x∈u,x.val % 6 < n
theorem InM.bk {n:Nat}{u:List L}(h:InM n u):InM n (bk u):=by
 intro x hx
 unfold Wd.bk at hx
 rw [List.mem_reverse,zK] at hx
 obtain ⟨y,hy,rfl⟩:=hx
 have h1:=h y hy
 have:=y.isLt
 rw [ja]
 split <;> omega
theorem nj:∀ (u st:List L) (x:L),x∈act u st→x∈u ∨ x∈st
 | [],st,x,h=>.inr h
 | y::u,st,x,h=>by
  rw [fQ] at h
  rcases nj u _ x h with h | h
  ·exact .inl (Ac _ h)
  ·cases st with
   | nil =>
    have h:x∈[y]:=h
    rw [zc] at h
    exact .inl (h ▸ zP)
   | cons z r =>
    have h:x∈(if z=inv y then r else y::z::r):=h
    split at h
    ·exact .inr (Ac _ h)
    ·rcases zt.mp h with h | h
     ·exact .inl (h ▸ zP)
     ·exact .inr h
theorem sJ {u:List L}{x:L}(h:x∈red u):x∈u:=by
 unfold red at h
 rw [List.mem_reverse] at h
 rcases nj u [] x h with h | h
 ·exact h
 ·cases h
end Wd
namespace PySem
section
variable {prog:Program} {w:World} {A:Around} {E:Value→Shared→Prop}
end
end PySem
namespace L2
open PySem PySem.Spec PyProof.Rows Wd
section
variable {X:Cx} {pos:Pos}
inductive xj (x:V)(y:V)(H:Hp)(Q:VK):Prop
 | mk:∀ da db,(Dt H x da)→(Dt H y db)→(da.canLay0=true)→(db.canLay0=true)→(da.depth≤10)→(Q (.bl (!PyData.eqv da db)) H)→xj x y H Q
theorem ib (hu:X.A.units+64 < cLine):OpR X (compareOp .NotEq) xj:=by
 intro pins s σ H x y v u Q I rx ry h
 obtain ⟨da,db,ha,hb,la,lb,dp,q⟩:=h
 obtain ⟨as,ra⟩:=ha.reads I.hok rx
 obtain ⟨bs,rb⟩:=hb.reads I.hok ry
 exact Ci (SeqAt.rcNeAt_reads ra rb la lb (by omega)) ⟨.bl _,H,I,rfl,q⟩
end
section
variable {X:Cx}
theorem j3 {K:PySem.W.Frag}(hK:X.K=K):IxR X (wc K):=by subst hK; exact iZ
theorem nk {K:PySem.W.Frag}(hK:X.K=K):IxR X (wd K):=by subst hK; exact bC
end
theorem vn:∀ i:_root_.Fin 6,("abcdef":Str).cps[i.val]? = some (cp ⟨i.val,by omega⟩):=by decide +kernel
theorem sm_at {i c:Nat}(h:("abcdef":Str).cps[i]? = some c):∃ x:L,x.val=i∧i < 6∧c=cp x:=by
 have hl:i < 6:=by
  obtain ⟨h1,_⟩:=zM.mp h
  have:("abcdef":Str).cps.size=6:=by decide +kernel
  omega
 have:=vn ⟨i,hl⟩
 rw [this] at h
 exact ⟨⟨i,by omega⟩,rfl,hl,(Af h).symm⟩
end L2
namespace Kx
open PySem PySem.Spec PyProof.Rows L2 Wd
inductive jb (vs:List V)(H:Hp)(Q:VK)(u3_:XK):Prop
 | mk:∀ (d:Addr) (m n:Int),(vs=[.ref d,.int m,.int n])→(Fd H d)→(1≤m)→(m≤6)→(0≤n)→(n≤60)→(∀ (u:List L) (H':Hp),u.length≤n.toNat→InM m.toNat u→Fd H' d→bX d H H'→Q (tx u) H')→jb vs H Q u3_
theorem xk {m:Int}(h1:1≤m)(h2:m≤6):InM m.toNat (sg m):=by
 have:m=1 ∨ m=2 ∨ m=3 ∨ m=4 ∨ m=5 ∨ m=6:=by omega
 rcases this with rfl | rfl | rfl | rfl | rfl | rfl <;> (unfold InM;decide)
theorem InM.snoc {n:Nat}{u:List L}{x:L}(h:InM n u)(hx:x.val % 6 < n):InM n (u++[x]):=fun y hy=>by
 rcases zN.mp hy with hy | hy
 ·exact h y hy
 ·rw [zc] at hy;exact hy ▸ hx
theorem InM.nil {n:Nat}:InM n []:=fun y hy=>by cases hy
end Kx
namespace Wd
structure yS (n:Nat) (u:List L):Prop where
 len:u.length=2*n
 nd:u.Nodup
 ins:InM n u
theorem row_perm {n:Nat}{u:List L}(h1:1≤n)(h6:n≤6)(p:u.Perm (([0,1,2,3,4,5]:List L).take n++([6,7,8,9,10,11]:List L).take n)):yS n u:=by
 have q:∀ n:Fin 7,(([0,1,2,3,4,5]:List L).take n.val++([6,7,8,9,10,11]:List L).take n.val).length=2*n.val∧(([0,1,2,3,4,5]:List L).take n.val++([6,7,8,9,10,11]:List L).take n.val).Nodup∧∀ x∈([0,1,2,3,4,5]:List L).take n.val++([6,7,8,9,10,11]:List L).take n.val,x.val % 6 < n.val:=by decide
 obtain ⟨a,b,c⟩:=q ⟨n,by omega⟩
 exact ⟨by rw [p.length_eq,a],p.nodup_iff.mpr b,fun x hx=>c x (p.mem_iff.mp hx)⟩
end Wd
namespace L2
open PySem PySem.Spec PyProof.Rows Wd
section
variable {X:Cx}
inductive ye (x:V)(y:V)(H:Hp)(Q:VK):Prop
 | mk:∀ da db,(Dt H x da)→(Dt H y db)→(da.canLay0=true)→(db.canLay0=true)→(da.depth≤10)→(Q (.bl (PyData.eqv da db)) H)→ye x y H Q
theorem nq (hu:X.A.units+64 < cLine):OpR X (compareOp .Eq) ye:=by
 intro pins s σ H x y v u Q I rx ry h
 obtain ⟨da,db,ha,hb,la,lb,dp,q⟩:=h
 obtain ⟨as,ra⟩:=ha.reads I.hok rx
 obtain ⟨bs,rb⟩:=hb.reads I.hok ry
 exact SeqAt.rcAt_reads ra rb la lb (by omega) _ _ _ _ ⟨.bl _,H,I,rfl,q⟩
end
end L2
namespace Kx
open PySem PySem.Spec PyProof.Rows L2 Wd
end Kx
namespace L2
open PySem PySem.Spec PyProof.Rows Wd
section
variable {X:Cx}
end
end L2
namespace L2
open PySem PySem.Spec PyProof.Rows
section
variable {prog:Program} {w:World} {A:Around} {E:Value→Shared→Prop} {s:Shared}
end
section
variable {X:Cx}
end
end L2
namespace L2
open PySem PySem.Spec PyProof.Rows Wd
section
variable {X:Cx}
end
end L2
namespace Kx
open PySem PySem.Spec PyProof.Rows L2 Wd
theorem q8:bootBuiltins "bool" = some (.type "bool"):=by kernel_rfl
end Kx
namespace L2
open PySem PySem.Spec PyProof.Rows Wd
section
variable {X:Cx}
inductive j4  (x:V)(y:V)(H:Hp)(Q:VK):Prop
 | mk:∀ a b,(x = .bl a)→(y = .bl b)→(Q (.bl (a == b)) H)→j4 x y H Q
theorem vo:OpR X (compareOp .Is) j4:=by
 intro pins s σ H x y v u Q I rx ry h
 obtain ⟨a,b,rfl,rfl,q⟩:=h
 cases rx
 cases ry
 refine wpAny_is_plain (by cases a <;> cases b <;> rfl) ⟨.bl _,H,I,?_,q⟩
 cases a <;> cases b <;> rfl
end
end L2
namespace Wd
def nm (N:List L)(x:L):L:=if x.val < 6 then N.getD x.val 0 else inv (N.getD (x.val - 6) 0)
end Wd
namespace L2
open PySem PySem.Spec PyProof.Rows Wd
section
variable {X:Cx}
end
end L2
namespace Kx
open PySem PySem.Spec PyProof.Rows L2 Wd
end Kx
namespace L2
open PySem PySem.Spec PyProof.Rows
section
variable {prog:Program} {w:World} {A:Around} {E:Value→Shared→Prop} {s:Shared}
end
section
variable {X:Cx}
end
section
variable {prog:Program} {w:World} {A:Around} {E:Value→Shared→Prop} {s:Shared}
end
section
variable {X:Cx}
end
end L2
namespace PySem
open Sem (wp)
abbrev dJ (h:Heap)(z TI TO:Addr)(f0:Value)(fb:Bool):Prop :=
 h.get? z=some { cls:=.type "zip",dict:=none,data:=.fields #[f0,.bool fb,.bool false,.ref TI,.ref TO],slots:=#[] }
section
variable {prog:Program} {w:World} {A:Around} {E:Value→Shared→Prop} {s:Shared} {z TI TO i1 i2:Addr} {x y:Str} {t u:Tok} {k c d:Nat} {a b:Value}
theorem eK {a:Nat}{Q:Option Obj→Shared→Prop}(h:Q (s.heap.get? a) s):wpAny (model prog w) A (loadIfAlive a) Q E s:=fun _ _ _=>by
 show Sem.wp _ _ (Sem.loadIfAlive a Sem.pure) _ _ _ _
 rw [Sem.wp_loadIfAlive,Sem.wp_pure]
 exact h
end
end PySem
namespace L2
open PySem PySem.Spec PyProof.Rows
section
variable {X:Cx}
end
end L2
namespace PySem
end PySem
namespace L2
open PySem PySem.Spec PyProof.Rows Wd
section
variable {X:Cx}
end
end L2
namespace HT
open PySem PySem.Spec PyProof.Rows
section
variable {prog:Program} {w:World} {A:Around} {E:Value→Shared→Prop} {s:Shared}
end
end HT
namespace L2
open PySem PySem.Spec PyProof.Rows Wd
section
variable {X:Cx}
end
theorem fX {X:Cx}{K:PySem.W.Frag}(hK:X.K=K):b8 X (.builtin "len") (bL K):=by
 subst hK
 exact aE
section
variable {X:Cx}
inductive eL  (xs:List V)(H:Hp)(Q:VK):Prop
 | mk:∀ (j:Int),(xs=[.int j])→(∀ p,H p=none→Q (.ref p) (upd H p (.rng 0 j)))→eL xs H Q
theorem cL:b8 X (.type "range") eL:=by
 intro pins s σ H xs us Q I r h
 obtain ⟨j,rfl,q⟩:=h
 obtain ⟨u,rfl,t,rfl⟩:=bW r
 refine call_range_1 ⟨.ref s.heap.objs.size,_,I.laid (o:=.rng 0 j) (fun b ob q=>y9 _ q) (zu _) ⟨_,_,_,zj _ rfl⟩,rfl,q _ (I.hok.fresh (zu _))⟩
inductive ck  (xs:List V)(H:Hp)(Q:VK):Prop
 | mk:∀ (p:Addr) (n:Nat),(xs=[.ref p])→(H p=some (.rng 0 (n:Int)))→(n≤16777216)→(∀ l,H l=none→Q (.ref l) (upd H l (.lst ((List.range n).map fun i:Nat=>V.int (i:Int)))))→ck xs H Q
theorem bx (hc:X.calm=true):b8 X (.type "list") ck:=by
 intro pins s σ H xs us Q I r h
 obtain ⟨p,n,rfl,hp,hn,q⟩:=h
 obtain ⟨u,rfl,rx⟩:=bW r
 cases rx
 obtain ⟨t,u,v,e⟩:=(show a_ X.prog X.w H s.heap p (.rng 0 (n:Int)) from I.hok p _ hp)
 refine call_list_range (n:=n) (I.ok.hd hc) e (small_one (by omega) (by omega) (by omega) (by omega)) (by rw [rangeSize_one];split <;> omega) (by omega) fun h' tk acc' c' kp e hI=>?_
 have hv:aY ((List.range n).map fun i:Nat=>V.int (i:Int)) acc'.toList:=by
  have all:∀ (m:Nat) (us:List Value) (k:Nat),us.length=m→(∀ (j:Nat) (v:Value),us[j]? = some v→∃ t,v = .int ((k:Int)+(j:Int)) t)→aY ((List.range' k m).map fun i:Nat=>V.int (i:Int)) us:=by
   intro m
   induction m with
   | zero =>
    intro us k hl _
    have:us=[]:=BS hl
    subst this
    exact .nil
   | succ m ih =>
    intro us k hl hj
    cases us with
    | nil=>cases hl
    | cons a us =>
     rw [Cy,A0]
     obtain ⟨t,rfl⟩:=hj 0 a rfl
     refine .cons ⟨t,by simp⟩ (ih us (k+1) (by simpa using hl) fun j v e=>?_)
     obtain ⟨t,rfl⟩:=hj (j+1) v (by simpa using e)
     exact ⟨t,by congr 1;omega⟩
  rw [List.range_eq_range']
  refine all n acc'.toList 0 (by rw [ze];exact hI.1) fun j v e=>?_
  obtain ⟨t,rfl⟩:=hI.2 j v (by simpa using e)
  exact ⟨t,by congr 1;omega⟩
 refine ⟨.ref s.heap.objs.size,_,I.laid kp (zu _) (show a_ X.prog X.w _ h' _ (.lst _) from ⟨?_,acc'.toList,c',hv,by simpa using e⟩),rfl,q _ (I.hok.fresh (zu _))⟩
 rw [zl,zQ,Bu]
 exact hn
end
end L2
namespace HT
open PySem PySem.Spec PyProof.Rows PySem.SeqAt
theorem jc {M:Model}{A:Around}{E:Value→Shared→Prop}{s:Shared}{β:Type}(f:Nat→β→Sem (ForInStep β))(I:Nat→β→Shared→Prop)(Q:β→Shared→Prop)(m:Nat)
  (turn:∀ i b s,i < m→I i b s→wpAny M A (f i b) (fun r s'=>match r with | .yield b'=>I (i+1) b' s' | .done b'=>Q b' s') E s)
  (fin:∀ b s,I m b s→Q b s) (b:β) (h:I 0 b s):wpAny M A (forIn [0:m] b f) Q E s:=by
 rw [Std.Legacy.Range.forIn_eq_forIn_range']
 have hsz:([0:m]:Std.Legacy.Range).size=m:=by simp [Std.Legacy.Range.size]
 show wpAny M A (forIn (List.range' 0 ([0:m]:Std.Legacy.Range).size 1) b f) Q E s
 rw [hsz]
 refine wpAny_forIn_list f (fun l b s=>∃ i,i≤m∧l=List.range' i (m - i) 1∧I i b s) Q ?_ ?_ _ b ⟨0,AG _,rfl,h⟩
 ·rintro x rest b s ⟨i,hi,hl,hI⟩
  have hlt:i < m:=by
   rcases Nat.lt_or_ge i m with h' | h'
   ·exact h'
   ·rw [show m - i=0 by omega] at hl;simp at hl
  obtain ⟨k,hk⟩:∃ k,m - i=k+1:=⟨m - i - 1,by omega⟩
  rw [hk,Cy] at hl
  obtain ⟨rfl,rfl⟩:=List.cons.inj hl
  refine CS (turn x b s hlt hI) (fun r s' h'=>?_) fun _ _ e=>e
  cases r with
  | done b'=>exact h'
  | yield b'=>exact ⟨x+1,by omega,by congr 1;omega,h'⟩
 ·rintro b s ⟨i,hi,hl,hI⟩
  have:i=m:=by
   rcases Nat.lt_or_ge i m with h' | h'
   ·obtain ⟨k,hk⟩:∃ k,m - i=k+1:=⟨m - i - 1,by omega⟩
    rw [hk,Cy] at hl;simp at hl
   ·omega
  subst this;exact fin _ _ hI
theorem fY (l:Addr)(items:Array Value)(n:Nat)(dd:Option Addr)(sl:Array (Option Value))(x:Value)(e:Value→Bool)(j:Nat)(hj:j < items.size)
  (hit:e items[j]=true) (hno:∀ m (hm:m < items.size),m < j→e items[m]=false) :
  Meets (Builtin.«tuple.index» ⟨[.ref l,x],[]⟩)
   (fun A R s=>s.heap.get? l=some { cls:=.type "tuple",dict:=dd,data:=.seq items n,slots:=sl }∧(∀ y,y∈items→EqAt A.in1 s y x (e y))∧R (.ok (.ret (.int j s.toks))) { s with toks:=s.toks+1 }):=by
 intro prog w A R s h
 obtain ⟨hp,g,d,tk,os⟩:=s;obtain ⟨hl,he,h⟩:=h
 wp_walk using wpAny_loadPart' hl
 refine jc (fun i (__s:Option Fin × Unit) =>
      match items[i]? with
      | some y=>do
       let __do_lift ← eqBool y x
       if __do_lift=true then do
         let __do_lift ← retInt ↑i
         pure (ForInStep.done (some __do_lift,()))
        else pure (ForInStep.yield (none,()))
      | x=>pure (ForInStep.yield (none,()))) (fun i b s=>i≤j∧b=(none,())∧s={ heap:=hp,gens:=g,drawn:=d,toks:=tk,os:=os }) _ (min items.size items.size) ?_ ?_ _ ⟨AG _,rfl,rfl⟩
 ·rintro i b s hi ⟨hij,rfl,rfl⟩
  have hlt:i < items.size:=by omega
  have ei:items[i]? = some items[i]:=CY items i hlt
  rw [ei]
  refine fu (he _ (Array.getElem_mem hlt) prog w _ _ ?_)
  by_cases hij':i=j
  ·subst hij'
   rw [hit]
   wp_walk
   exact h
  ·rw [hno i hlt (by omega)]
   wp_walk
   exact ⟨by omega,rfl,rfl⟩
 ·rintro b s ⟨hij,rfl,rfl⟩
  omega
end HT
namespace L2
open PySem PySem.Spec PyProof.Rows Wd
section
variable {X:Cx}
inductive vq (x:V)(vs:List V)(H:Hp)(Q:VK):Prop
 | mk:∀ (p:Addr) (ns:List Int) (i:Int),(x = .ref p)→(vs=[.int i])→(H p=some (.tup (ns.map V.int)))→(i∈ns)→(Q (.int (ns.idxOf i:Nat)) H)→vq x vs H Q
theorem nu:MtR X "tuple.index" vq:=by
 intro pins s σ H x vs v us Q I rx rv h
 obtain ⟨p,ns,i,rfl,rfl,hp,hm,q⟩:=h
 cases rx
 obtain ⟨u,rfl,t,rfl⟩:=bW rv
 obtain ⟨its,r,⟨ob,ho,hc,n,hd⟩,hz⟩:=I.tuple (SqT.of (K:=X.K) hp)
 have hl:=r.length
 rw [zl] at hl
 have hk:ns.idxOf i < ns.length:=AS hm
 have at_:∀ (k:Nat) (hk:k < its.toArray.size),∃ t,its.toArray[k] = .int (ns.getD k 0) t:=fun k hk=>by
  have hk':k < ns.length:=by rw [Ah] at hk;omega
  obtain ⟨u,eu,ru⟩:=r.get (i:=k) (x:=.int (ns.getD k 0)) (by rw [zH,zi,y_ hk'];rfl)
  obtain ⟨t,rfl⟩:=ru
  refine ⟨t,?_⟩
  obtain ⟨h1,h2⟩:=zf.mp eu
  simpa using h2
 obtain ⟨cls,dd,data,sl⟩:=ob
 simp only at hc hd
 subst hc hd
 have e:Value→Bool:=fun v=>match v with | .int k _=>k == i | _=>false
 refine call_meets Ck ⟨_,ho,rfl⟩ PySem.F.entry_tuple_index (PySem.F.args_tuple_index_2 _ _) (HT.fY p its.toArray n dd sl (.int i t) (fun v=>match v with | .int k _=>k == i | _=>false) (ns.idxOf i) (by rw [Ah];omega) ?_ ?_) ⟨ho,?_,?_⟩
 ·obtain ⟨t,et⟩:=at_ (ns.idxOf i) (by rw [Ah];omega)
  rw [et,zi,y_ hk]
  show (ns[ns.idxOf i] == i)=true
  rw [List.getElem_idxOf hk]
  simp
 ·intro m hm' hlt
  obtain ⟨t,et⟩:=at_ m hm'
  rw [et]
  show (ns.getD m 0 == i)=false
  have hm2:m < ns.length:=by omega
  rw [zi,y_ hm2]
  show (ns[m] == i)=false
  have:=List.not_of_lt_findIdx hlt
  simpa using this
 ·intro y hy
  obtain ⟨m,hm',rfl⟩:=Array.getElem_of_mem hy
  obtain ⟨t,et⟩:=at_ m hm'
  rw [et]
  intro prog w E Q h
  exact wpAny_eqBool_int h
 ·exact ⟨.int _,H,I.tok _,⟨_,rfl⟩,q⟩
end
theorem nv:bootBuiltins "enumerate" = some (.type "enumerate"):=by kernel_rfl
theorem sL {n k:Nat}(h:k < n):ixN n (k:Int)=some k:=by
 unfold ixN
 rw [if_pos (by omega),if_pos (by omega),AF]
end L2
namespace Wd
def PN (n:Nat)(r:List Nat):Prop:=r.Perm (List.range n)
theorem PN.len {n:Nat}{r:List Nat}(h:PN n r):r.length=n:=by rw [h.length_eq,zQ]
theorem PN.nd {n:Nat}{r:List Nat}(h:PN n r):r.Nodup:=h.nodup_iff.mpr Bs
theorem PN.mem {n:Nat}{r:List Nat}(h:PN n r){x:Nat}:x∈r ↔ x < n:=by rw [h.mem_iff,AO]
theorem PN.get_lt {n:Nat}{r:List Nat}(h:PN n r){i:Nat}(hi:i < n):r.getD i 0 < n:=by
 have hl:i < r.length:=by rw [h.len];exact hi
 rw [zi,y_ hl]
 exact h.mem.mp (zL hl)
theorem PN.idx_lt {n:Nat}{r:List Nat}(h:PN n r){j:Nat}(hj:j < n):r.idxOf j < n:=by
 have:=AS (h.mem.mpr hj)
 rwa [h.len] at this
theorem PN.get_idx {n:Nat}{r:List Nat}(h:PN n r){j:Nat}(hj:j < n):r.getD (r.idxOf j) 0=j:=by
 have hl:=AS (h.mem.mpr hj)
 rw [zi,y_ hl]
 exact List.getElem_idxOf hl
theorem PN.idx_get {n:Nat}{r:List Nat}(h:PN n r){i:Nat}(hi:i < n):r.idxOf (r.getD i 0)=i:=by
 have hl:i < r.length:=by rw [h.len];exact hi
 rw [zi,y_ hl]
 exact h.nd.idxOf_getElem i hl
theorem PN.idx_of {n:Nat}{r:List Nat}(h:PN n r){i j:Nat}(hi:i < n)(e:r.getD i 0=j):r.idxOf j=i:=by rw [← e]; exact h.idx_get hi
def stp (t:List (List Nat))(s:Nat)(x:L):Nat:=if x.val < 6 then (t.getD x.val []).getD s 0 else (t.getD (x.val - 6) []).idxOf s
def ledN (t:List (List Nat))(s:Nat)(w:List L):Nat:=w.foldl (stp t) s
structure Tb (m n:Nat) (t:List (List Nat)):Prop where
 len:t.length=m
 row:∀ r∈t,PN n r
theorem Tb.at {m n:Nat}{t:List (List Nat)}(T:Tb m n t){j:Nat}(hj:j < m):PN n (t.getD j []):=by
 have hl:j < t.length:=by rw [T.len];exact hj
 rw [zi,y_ hl]
 exact T.row _ (zL hl)
theorem vw {m n:Nat}{t:List (List Nat)}(T:Tb m n t){x:L}(hx:x.val % 6 < m){s:Nat}(hs:s < n):stp t s x < n:=by
 unfold stp
 have:=x.isLt
 by_cases h:x.val < 6
 ·rw [if_pos h]
  exact (T.at (by omega)).get_lt hs
 ·rw [if_neg h]
  exact (T.at (by omega)).idx_lt hs
theorem j5 {m n:Nat}{t:List (List Nat)}(T:Tb m n t):∀ {w:List L},InM m w→∀ {s:Nat},s < n→ledN t s w < n
 | [],_,s,hs=>hs
 | x::w,h,s,hs=>j5 T (w:=w) (fun y hy=>h y (Ac _ hy)) (vw T (h x zP) hs)
theorem dS (t:List (List Nat))(s:Nat)(w:List L)(x:L):ledN t s (w++[x])=stp t (ledN t s w) x:=by
 unfold ledN;rw [List.foldl_append];rfl
def pV (n:Nat)(t:List (List Nat))(ws:List (List L)):Prop:=∀ v∈ws,∀ i,i < n→ledN t i v=i
end Wd
namespace Kx
open PySem PySem.Spec PyProof.Rows L2 Wd
def whV:V→Bool
 | .int _=>true
 | _=>false
inductive Wh (K:PySem.W.Frag)(H:Hp):V→Prop
 | mk {x:V} {n:String} {b1 b2:Bool} (ty:fC K H x (.type n)) (e1:PySem.W.kitOne K (.type n) (.type "int")=some b1) (e2:PySem.W.kitOne K (.type n) (.type "bool")=some b2) (h:whV x=(b1 && !b2)):Wh K H x
theorem xm {K:PySem.W.Frag}:PySem.W.kitOne K (.type "int") (.type "int")=some true:=by unfold PySem.W.kitOne; rw [if_pos (by rfl)]
theorem xo {K:PySem.W.Frag}:PySem.W.kitOne K (.type "int") (.type "bool")=some false:=by kernel_rfl
theorem xq {K:PySem.W.Frag}:PySem.W.kitOne K (.type "bool") (.type "int")=some true:=by kernel_rfl
theorem xr {K:PySem.W.Frag}:PySem.W.kitOne K (.type "bool") (.type "bool")=some true:=by unfold PySem.W.kitOne; rw [if_pos (by rfl)]
theorem xt {K:PySem.W.Frag}:PySem.W.kitOne K (.type "NoneType") (.type "int")=some false:=by kernel_rfl
theorem xu {K:PySem.W.Frag}:PySem.W.kitOne K (.type "NoneType") (.type "bool")=some false:=by kernel_rfl
theorem xv {K:PySem.W.Frag}:PySem.W.kitOne K (.type "str") (.type "int")=some false:=by kernel_rfl
theorem xw {K:PySem.W.Frag}:PySem.W.kitOne K (.type "str") (.type "bool")=some false:=by kernel_rfl
theorem xx {K:PySem.W.Frag}:PySem.W.kitOne K (.type "list") (.type "int")=some false:=by kernel_rfl
theorem xy {K:PySem.W.Frag}:PySem.W.kitOne K (.type "list") (.type "bool")=some false:=by kernel_rfl
theorem xA {K:PySem.W.Frag}:PySem.W.kitOne K (.type "tuple") (.type "int")=some false:=by kernel_rfl
theorem xB {K:PySem.W.Frag}:PySem.W.kitOne K (.type "tuple") (.type "bool")=some false:=by kernel_rfl
inductive fZ (K:PySem.W.Frag)(vs:List V)(H:Hp)(Q:VK)(u3_:XK):Prop
 | mk:∀ x,(vs=[x])→(Wh K H x)→(Q (.bl (whV x)) H)→fZ K vs H Q u3_
def fst (c:Option (Int × Int)):Int:=match c with | some (i,_)=>i | none=>0
def iv (r:List Nat):List V:=r.map fun i:Nat=>V.int (i:Int)
theorem aA (r:List Nat):(iv r).length=r.length:=by unfold iv; rw [zl]
theorem j6 (a b:List Nat):iv (a++b)=iv a++iv b:=by unfold iv; rw [zT]
theorem ny {r:List Nat}{i:Nat}(h:i < r.length):atI (iv r) (i:Int)=some (.int ((r.getD i 0:Nat):Int)):=by
 unfold atI ixN
 rw [if_pos (by omega),if_pos (by rw [aA];omega)]
 show (iv r)[_]? = _
 rw [AF]
 unfold iv
 rw [zH,y_ h,zi,y_ h]
 rfl
structure Lk {α:Type} (P:V→α→Prop) (xs:List V) (ys:List α):Prop where
 len:xs.length=ys.length
 at_:∀ (i:Nat) (x:V),xs[i]? = some x→∃ y,ys[i]? = some y∧P x y
theorem Lk.nil {α:Type}{P:V→α→Prop}:Lk P [] []:=⟨rfl,fun i x e=>by simp at e⟩
theorem Lk.imp {α:Type}{P Q:V→α→Prop}{xs:List V}{ys:List α}(h:Lk P xs ys)(f:∀ x y,P x y→Q x y):Lk Q xs ys:=⟨h.len,fun i x e=>let ⟨y,h1,h2⟩:=h.at_ i x e; ⟨y,h1,f _ _ h2⟩⟩
theorem Lk.app {α:Type}{P:V→α→Prop}{xs zs:List V}{ys ws:List α}(h:Lk P xs ys)(g:Lk P zs ws):Lk P (xs++zs) (ys++ws):=by
 refine ⟨by rw [zk,zk,h.len,g.len],fun i x e=>?_⟩
 by_cases hi:i < xs.length
 ·rw [Aq hi] at e
  rw [Aq (by rw [← h.len];exact hi)]
  exact h.at_ i x e
 ·rw [zG (by omega)] at e
  rw [zG (by rw [← h.len];omega),← h.len]
  exact g.at_ _ x e
theorem Lk.one {α:Type}{P:V→α→Prop}{x:V}{y:α}(h:P x y):Lk P [x] [y]:=⟨rfl,fun i z e=>by
 cases i with
 | zero=>cases e;exact ⟨y,rfl,h⟩
 | succ i=>simp at e⟩
theorem Lk.get {α:Type}{P:V→α→Prop}{xs:List V}{ys:List α}(h:Lk P xs ys){i:Nat}{y:α}(e:ys[i]? = some y):∃ x,xs[i]? = some x∧P x y:=by
 have hi:i < xs.length:=by rw [h.len];exact (zf.mp e).1
 obtain ⟨z,h1,h2⟩:=h.at_ i _ (y_ hi)
 rw [e] at h1
 cases h1
 exact ⟨_,y_ hi,h2⟩
def uh (H:Hp)(x:V)(r:List Nat):Prop:=∃ a,x = .ref a∧H a=some (.tup (iv r))
theorem uh.same {H H':Hp}(s:az H H'){x:V}{r:List Nat}(h:uh H x r):uh H' x r:=let ⟨a,e,q⟩:=h; ⟨a,e,s _ _ q⟩
def kP (H:Hp)(x:V)(t:List (List Nat)):Prop:=∃ a xs,x = .ref a∧H a=some (.tup xs)∧Lk (uh H) xs t
theorem kP.same {H H':Hp}(s:az H H'){x:V}{t:List (List Nat)}(h:kP H x t):kP H' x t:=let ⟨a,xs,e,q,r⟩:=h; ⟨a,xs,e,s _ _ q,r.imp fun _ _ z=>z.same s⟩
theorem Lk.atI {α:Type}[Inhabited α]{P:V→α→Prop}{xs:List V}{ys:List α}(h:Lk P xs ys){i:Nat}(hi:i < ys.length):∃ x,L2.atI xs (i:Int)=some x∧P x (ys[i]'hi):=by
 obtain ⟨x,h1,h2⟩:=h.get (y_ hi)
 refine ⟨x,?_,h2⟩
 unfold L2.atI ixN
 rw [if_pos (by omega),if_pos (by rw [h.len];omega)]
 show xs[_]? = _
 rw [AF]
 exact h1
def q9 (n:Nat)(r:List Nat):List Nat:=(List.range n).map fun k=>r.idxOf k
theorem pW (n:Nat)(r:List Nat):(q9 n r).length=n:=by unfold q9; rw [zl,zQ]
theorem pX {n:Nat}{r:List Nat}{k:Nat}(h:k < n):(q9 n r).getD k 0=r.idxOf k:=by
 unfold q9
 rw [zi,zH,Au h]
 rfl
def iN (n:Nat)(r:List Nat)(i:Nat):List Nat:=(List.range n).map fun k=>if r.idxOf k < i then r.idxOf k else 0
theorem nz (n:Nat)(r:List Nat):iN n r 0=List.replicate n 0:=by
 unfold iN
 rw [show (fun k=>if r.idxOf k < 0 then r.idxOf k else 0)=fun _=>0 from funext fun k=>by rw [if_neg (by omega)]]
 rw [List.map_const',zQ]
theorem pY {n:Nat}{r:List Nat}(h:PN n r):iN n r n=q9 n r:=by
 unfold iN q9
 refine AV fun k hk=>?_
 rw [if_pos (h.idx_lt (AO.mp hk))]
theorem j7 (n:Nat)(r:List Nat)(i:Nat):(iN n r i).length=n:=by unfold iN; rw [zl,zQ]
theorem pZ {n:Nat}{r:List Nat}(h:PN n r){i:Nat}(hi:i < n):(iN n r i).set (r.getD i 0) i=iN n r (i+1):=by
 apply List.ext_getElem?
 intro k
 rw [List.getElem?_set]
 have hl:=j7 n r i
 have hv:=h.get_lt hi
 by_cases e:r.getD i 0=k
 ·rw [if_pos e,if_pos (by rw [hl];exact hv)]
  subst e
  unfold iN
  rw [zH,Au hv]
  dsimp only [Option.map]
  rw [h.idx_get hi,if_pos (by omega)]
 ·rw [if_neg e]
  unfold iN
  rw [zH,zH]
  by_cases hk:k < n
  ·rw [Au hk]
   show some _=some _
   have ne:r.idxOf k≠i:=fun q=>e (by rw [← q,h.get_idx hk])
   congr 1
   dsimp only
   by_cases q:r.idxOf k < i
   ·rw [if_pos q,if_pos (by omega)]
   ·rw [if_neg q,if_neg (by omega)]
  ·rw [BP (by rw [zQ];omega)]
   rfl
theorem vx (r:List Nat)(k v:Nat):(iv r).set k (.int (v:Int))=iv (r.set k v):=by unfold iv; rw [List.map_set]
inductive nA (vs:List V)(H:Hp)(Q:VK)(u3_:XK):Prop
 | mk:∀ (a:Addr) (n:Nat) (r:List Nat),(vs=[.ref a])→(H a=some (.tup (iv r)))→(PN n r)→(n≤1001)→(∀ (l:Addr) (H':Hp),H l=none→H' l=some (.lst (iv (q9 n r)))→az H H'→Q (.ref l) H')→nA vs H Q u3_
structure Rwd (H:Hp) (g:Addr) (m n:Nat) (t:List (List Nat)):Prop where
 ex:∃ kvs:List (Key × V),H g=some (.dK kvs)∧kvs.length≤2*m∧∀ x:L,x.val % 6 < m→∃ b,bO kvs (kS (toS [x]))=some (.ref b)∧((x.val < 6∧H b=some (.tup (iv (t.getD x.val [])))) ∨ (¬ x.val < 6∧H b=some (.lst (iv (q9 n (t.getD (x.val - 6) []))))))
theorem Rwd.same {H H':Hp}{g:Addr}{m n:Nat}{t:List (List Nat)}(s:az H H')(h:Rwd H g m n t):Rwd H' g m n t:=by
 obtain ⟨kvs,h1,h2,h3⟩:=h.ex
 refine ⟨kvs,s _ _ h1,h2,fun x hx=>?_⟩
 obtain ⟨b,e,q⟩:=h3 x hx
 exact ⟨b,e,q.elim (fun z=>.inl ⟨z.1,s _ _ z.2⟩) fun z=>.inr ⟨z.1,s _ _ z.2⟩⟩
inductive dU (vs:List V)(H:Hp)(Q:VK)(u3_:XK):Prop
 | mk:∀ (x:V) (m n:Nat) (t:List (List Nat)),(vs=[x])→(kP H x t)→(Tb m n t)→(m≤6)→(n≤1001)→(∀ (g:Addr) (H':Hp),H g=none→Rwd H' g m n t→az H H'→Q (.ref g) H')→dU vs H Q u3_
theorem Rwd.at {H:Hp}{g:Addr}{m n:Nat}{t:List (List Nat)}(R:Rwd H g m n t)(T:Tb m n t){x:L}(hx:x.val % 6 < m) :
  ∃ b,gw H g (.str (toS [x])) (some (.ref b))∧∀ (s:Nat),s < n→∀ (K:PySem.W.Frag) (Q:VK),Q (.int ((stp t s x:Nat):Int)) H→(wc K (.ref b) (.int (s:Int)) H Q ∨ wd K (.ref b) (.int (s:Int)) H Q):=by
 obtain ⟨kvs,h1,_,h3⟩:=R.ex
 obtain ⟨b,e,z⟩:=h3 x hx
 have:=x.isLt
 refine ⟨b,?_,fun s hs K Q q=>?_⟩
 ·have:=gw.k (k:=kS (toS [x])) h1
  rw [e] at this
  exact this
 ·unfold stp at q
  rcases z with ⟨h6,hb⟩ | ⟨h6,hb⟩
  ·rw [if_pos h6] at q
   have P:=T.at (j:=x.val) (by omega)
   exact .inr ⟨b,_,_,_,rfl,rfl,SqT.of hb,ny (by rw [P.len];exact hs),q⟩
  ·rw [if_neg h6] at q
   have P:=T.at (j:=x.val - 6) (by omega)
   refine .inl ⟨b,_,_,_,rfl,rfl,SqL.of hb,ny (by rw [pW];exact hs),?_⟩
   rw [pX hs]
   exact q
inductive p5 (vs:List V)(H:Hp)(Q:VK)(u3_:XK):Prop
 | mk:∀ (x:V) (m n s:Nat) (t:List (List Nat)) (w:List L),(vs=[x,.int (s:Int),tx w])→(kP H x t)→(Tb m n t)→(m≤6)→(n≤1001)→(s < n)→(InM m w)→(w.length≤5000)→(∀ H',az H H'→Q (.int ((ledN t s w:Nat):Int)) H')→p5 vs H Q u3_
def q_:Sp:=p5
def mvd (n:Nat)(t:List (List Nat))(w:List L):List Nat:=(List.range n).filter fun s=>decide (ledN t s w≠s)
def dis (r:List Nat):List PyData:=r.map fun i:Nat=>.int (i:Int)
theorem nB {H:Hp}:∀ r:List Nat,Dts H (iv r) (dis r)
 | []=>.nil
 | i::r=>.cons (.int _) (nB r)
theorem nC:∀ r:List Nat,PyData.canLayAll0 (dis r)=true
 | []=>rfl
 | i::r=>by
  have e:dis (i::r) = .int (i:Int)::dis r:=rfl
  rw [e,PyData.canLayAll0,nC r]
  simp [PyData.canLay0]
theorem ie:∀ r:List Nat,PyData.depthAll (dis r)=0
 | []=>rfl
 | i::r=>by
  show max (PyData.depth (.int (i:Int))) (PyData.depthAll (dis r))=0
  rw [ie r]
  rfl
theorem nD:∀ r q:List Nat,PyData.eqvAll (dis r) (dis q)=decide (r=q)
 | [],[]=>rfl
 | [],_::_=>rfl
 | _::_,[]=>rfl
 | i::r,j::q=>by
  show (PyData.eqv (.int (i:Int)) (.int (j:Int)) && PyData.eqvAll (dis r) (dis q))=_
  rw [nD r q]
  show (((i:Int) == (j:Int)) && decide (r=q))=decide (i::r=j::q)
  by_cases e:i=j
  ·subst e
   simp
  ·have:((i:Int) == (j:Int))=false:=by simpa using fun h:(i:Int)=(j:Int)=>e (by omega)
   rw [this]
   simp [e]
theorem nE (r:List Nat):(PyData.list (dis r)).canLay0=true:=by
 unfold PyData.canLay0
 exact nC r
theorem sM {H:Hp}{p q:Addr}{Q:VK}{r t:List Nat}(h1:H p=some (.lst (iv r)))(h2:H q=some (.lst (iv t)))(h:Q (.bl (!decide (r=t))) H):xj (.ref p) (.ref q) H Q:=by
 refine ⟨_,_,.lst h1 (nB r),.lst h2 (nB t),nE r,nE t,?_,?_⟩
 ·show PyData.depthAll (dis r)+1≤10
  rw [ie]
  decide
 ·show Q (.bl (!PyData.eqvAll (dis r) (dis t))) H
  rw [nD]
  exact h
def iO (n:Nat)(t:List (List Nat))(v:List L):List Nat:=(List.range n).map fun i=>ledN t i v
theorem p7 (n:Nat)(t:List (List Nat)):iO n t []=List.range n:=by
 unfold iO
 rw [show (fun i=>ledN t i [])=id from rfl,List.map_id]
theorem j8 {n:Nat}{t:List (List Nat)}{v:List L}:iO n t v=List.range n ↔ ∀ i,i < n→ledN t i v=i:=by
 unfold iO
 constructor
 ·intro e i hi
  have:=Cn (fun l=>l[i]?) e
  rw [zH,Au hi] at this
  exact Af this
 ·intro h
  have:(List.range n).map (fun i=>ledN t i v)=(List.range n).map id:=AV fun i hi=>h i (AO.mp hi)
  rw [this,List.map_id]
theorem dW (n:Nat)(t:List (List Nat))(v:List L):(iO n t v).length=n:=by unfold iO; rw [zl,zQ]
theorem sN {m n:Nat}{t:List (List Nat)}(T:Tb m n t){v:List L}(hv:InM m v):∀ s∈iO n t v,s < n:=fun s hs=>by
 obtain ⟨i,hi,rfl⟩:=zK.mp hs
 exact j5 T hv (AO.mp hi)
theorem nF (n:Nat)(t:List (List Nat))(v:List L)(x:L):iO n t (v++[x])=(iO n t v).map fun s=>stp t s x:=by
 unfold iO
 rw [Ak]
 refine AV fun i _=>dS t i v x
theorem p8 (n:Nat)(t:List (List Nat)):pV n t []:=fun v h=>by cases h
theorem sO {r:List Nat}{i:Nat}{x:V}(h:(iv r)[i]? = some x):∃ s,r[i]? = some s∧x = .int (s:Int):=by
 unfold iv at h
 rw [zH] at h
 cases e:r[i]? with
 | none=>rw [e] at h;cases h
 | some s=>rw [e] at h;exact ⟨s,rfl,(Af h).symm⟩
theorem sP:∀ x:L,Builtin.Str.occurrences ("abcdef":Str) (Txt.lower (toS [x])) 0 ("abcdef":Str).length 1=[x.val % 6]:=by
 have q:∀ x:L,Builtin.Str.occurrences ("abcdef":Str) (⟨(([x].map cp).map lo1).toArray⟩:Str) 0 ("abcdef":Str).length 1=[x.val % 6]:=by decide +kernel
 intro x
 rw [gY]
 exact q x
theorem nG (r:List Nat):iv r=(r.map fun i:Nat=>(i:Int)).map V.int:=by unfold iv; rw [Ak]; rfl
theorem p9 (r:List Nat)(i:Nat):(r.map fun i:Nat=>(i:Int)).idxOf (i:Int)=r.idxOf i:=by
 induction r with
 | nil=>rfl
 | cons a r ih =>
  rw [A0,List.idxOf_cons,List.idxOf_cons,ih]
  by_cases e:a=i
  ·subst e;simp
  ·have h1:((a:Int) == (i:Int))=false:=by simpa using fun h:(a:Int)=(i:Int)=>e (by omega)
   have h2:(a == i)=false:=by simpa using e
   rw [h1,h2]
theorem xC:bootBuiltins "set" = some (.type "set"):=by kernel_rfl
end Kx
namespace L2
open PySem PySem.Spec PyProof.Rows
theorem j9 {h:Heap}{T:Addr}{o:Obj}{f:Obj→Obj}(ho:h.get? T=some o)(hf:f o=o)(b:Addr):(h.update T f).get? b=h.get? b:=by
 by_cases e:T=b
 ·subst e
  have:=Av f ho (by rw [hf];exact (Heap.get?_some_iff.mp ho).2)
  rw [this,hf,ho]
 ·exact Al _ _ e
theorem j_ {oT:Obj}{ts:Array Value}{i:Nat}{v:Value}(hd:oT.data = .fields ts)(h3:ts[i]? = some v):Obj.mapFields (·.setIfInBounds i v) oT=oT:=by
 obtain ⟨c,d,dt,sl⟩:=oT
 simp only at hd
 subst hd
 obtain ⟨hi,hv⟩:=zM.mp h3
 have:ts.setIfInBounds i v=ts:=by
  apply Array.ext
  ·simp
  ·intro j h1 h2
   by_cases hj:i=j
   ·subst hj;simp [hv]
   ·rw [Array.getElem_setIfInBounds_ne _ hj]
 simp only [Obj.mapFields,this]
def wm (T:Addr)(h:Heap)(a:Addr)(fl:Value):Prop :=
 ∃ oe vs oT ts,h.get? a=some oe∧oe.data = .fields vs∧vs[1]? = some (.ref T)∧T≠a∧h.get? T=some oT∧oT.data = .fields ts∧ts[3]? = some fl
def Flt (h:Heap)(a:Addr)(fl:Value):Prop:=∃ T,wm T h a fl
structure Nts (fs:List Addr) (a:Addr) (fl:Value) (h h':Heap):Prop where
 keep:∀ b o,b∉fs→b≠a→h.get? b=some o→h'.get? b=some o
 slot:∀ b o,b∈fs→h.get? b=some o→∃ sl,h'.get? b=some { o with slots:=sl }
 exc:∀ oe vs,h.get? a=some oe→oe.data = .fields vs→∃ oe' vs',h'.get? a=some oe'∧oe'.cls=oe.cls∧oe'.dict=oe.dict∧oe'.data = .fields vs'∧vs'.size=vs.size
 fly:∃ T,h.objs.size≤T∧wm T h' a fl
section
variable {M:Model} {A:Around} {E:Value→Shared→Prop} {s:Shared}
set_option maxHeartbeats 1600000 in
theorem rf {base:Heap}{env:Env}{outer:List Env}{L e:Addr}{oe:Obj}{vs:Array Value}{head:Value}{hadNext:Bool}{Q:Unit→Shared→Prop}
  (hfr:A.frames=some (env::outer)) (hl:s.heap.FunFrames base (env::outer)) (hf:env.frame=some L)
  (he:s.heap.get? e=some oe) (hd:oe.data = .fields vs) (hsz:1 < vs.size)
  (h:∀ h',Nts (frs (env::outer)) e (rawInt L) s.heap h'→Q () { s with heap:=h' }) :
  wpAny M A (do let a ← frameOf env;let pl ← entryPlaceOf L hadNext;let b ← EntryCells.newEntry head a .none (rawInt L) .none pl;setField (.ref e) 1 b) Q E s:=by
 have hene:e∉frs (env::outer):=fun hm=>by
  obtain ⟨_,o,ho,hnf⟩:=hl.mem hm
  rw [he] at ho;injection ho with ho;subst ho;exact hnf vs hd
 refine fu (wpAny_frameOf_fun hfr hl hf fun h₁ hs₁=>?_)
 refine fu (wpAny_entryPlaceOf fun pl hpl=>?_)
 unfold EntryCells.newEntry newFields
 refine fu (BJ ?_ (hpl.sizeOk5 _ _ _ _ _))
 generalize hN:({ cls:=.type "traceback",dict:=none,data:=.fields ([head,.ref L,.none,rawInt L,.none]++(if pl.isEmpty then List.replicate 6 Value.none else pl)).toArray }:Obj)=oN
 have hNd:oN.data = .fields ([head,.ref L,.none,rawInt L,.none]++(if pl.isEmpty then List.replicate 6 Value.none else pl)).toArray:=by rw [← hN]
 have hNf:oN.isFreed=false:=by rw [← hN];rfl
 have he₁:h₁.get? e=some oe:=(hs₁.2.1 e hene).trans he
 have he₂:=y9 (h:=h₁) oN he₁
 refine Bm he₂ hd hsz (h _ ?_)
 have hTe:h₁.objs.size≠e:=AN (zw he₁)
 have hd₃:=A3 hd (·.setIfInBounds 1 (Value.ref h₁.objs.size))
 have he₃:=Av (Obj.mapFields (·.setIfInBounds 1 (Value.ref h₁.objs.size))) he₂ (A2 hd₃)
 have hT₃:=(Al (h₁.push oN) (Obj.mapFields (·.setIfInBounds 1 (Value.ref h₁.objs.size))) (Ne.symm hTe)).trans (zj h₁ hNf)
 have keep:∀ b o,b≠e→h₁.get? b=some o→((h₁.push oN).update e (Obj.mapFields (·.setIfInBounds 1 (Value.ref h₁.objs.size)))).get? b=some o:=fun b o hbe hb=>by
  rw [Al _ _ (Ne.symm hbe)]
  exact y9 _ hb
 refine ⟨fun b o hb hbe q=>keep b o hbe ((hs₁.2.1 b hb).trans q),fun b o hb q=>?_,fun oe' vs' q qd=>?_,?_⟩
 ·obtain ⟨sl,q'⟩:=hs₁.2.2 b o q
  exact ⟨sl,keep b _ (fun z=>hene (z ▸ hb)) q'⟩
 ·rw [he] at q;cases q
  rw [hd] at qd;cases qd
  refine ⟨_,_,he₃,Cj _ _,?_,hd₃,by simp⟩
  obtain ⟨c,d,dt,sl⟩:=oe
  cases dt <;> rfl
 ·refine ⟨h₁.objs.size,CK hs₁.1.symm,_,_,oN,_,he₃,hd₃,by simp [hsz],hTe,hT₃,hNd,?_⟩
  first | (simp;done) | (rcases hpl with rfl | ⟨_,_,_,_,_,_,_,rfl⟩ <;> simp)
theorem xD {base:Heap}{env:Env}{outer:List Env}{L e:Addr}{oe:Obj}{vs:Array Value}{Q:Unit→Shared→Prop}
  (hfr:A.frames=some (env::outer)) (hl:s.heap.FunFrames base (env::outer)) (hf:env.frame=some L)
  (he:s.heap.get? e=some oe) (hd:oe.data = .fields vs) (h1:vs[1]? = some .none ∨ Flt s.heap e .none)
  (h:∀ h',Nts (frs (env::outer)) e (rawInt L) s.heap h'→Q () { s with heap:=h' }):wpAny M A (noteFrame (.ref e) env) Q E s:=by
 unfold noteFrame
 simp only [hf]
 rcases h1 with h1 | ⟨T,oe',vs',oT,ts,he',hd',h1,hTe,hT,hdT,h3⟩
 ·refine fu (zF he hd h1 ?_)
  rw [if_neg (by decide)]
  exact rf hfr hl hf he hd (zM.mp h1).1 h
 ·rw [he] at he';cases he'
  rw [hd] at hd';cases hd'
  refine fu (zF he hd h1 ?_)
  rw [if_pos (show (Value.ref T != Value.none)=true from by simp)]
  refine fu (zF hT hdT h3 ?_)
  rw [if_neg (show ¬ ((Value.none == rawInt L)=true) from by simp [rawInt])]
  refine fu (Bm hT hdT (zM.mp h3).1 ?_)
  have idle:=j9 (f:=Obj.mapFields (·.setIfInBounds 3 Value.none)) hT (j_ hdT h3)
  refine rf hfr (hl.of_keeps fun b o hb _=>⟨o,(idle b).trans hb,rfl⟩) hf ((idle e).trans he) hd (zM.mp h1).1 fun h' N=>h h' ?_
  obtain ⟨k1,k2,k3,k4⟩:=N
  refine ⟨fun b o hb hbe q=>k1 b o hb hbe ((idle b).trans q),fun b o hb q=>k2 b o hb ((idle b).trans q),fun o v q d=>k3 o v ((idle e).trans q) d,?_⟩
  obtain ⟨T',b1,b2⟩:=k4
  exact ⟨T',Bw (CK (Heap.size_after_update ..).symm) b1,b2⟩
theorem sQ {T e:Addr}{fl:Value}{Q:Unit→Shared→Prop}(hF:wm T s.heap e fl)
  (h:∀ h',wm T h' e .none→(∀ b o,b≠T→s.heap.get? b=some o→h'.get? b=some o)→(∀ b,(∃ o,s.heap.get? b=some o)→∃ o,h'.get? b=some o)→(fl = .none→∀ b,h'.get? b=s.heap.get? b)→Q () { s with heap:=h' }) :
  wpAny M A (setFlight (.ref e) none) Q E s:=by
 obtain ⟨oe,vs,oT,ts,he,hd,h1,hTe,hT,hdT,h3⟩:=hF
 have hsz3:3 < ts.size:=(zM.mp h3).1
 have other:∀ b,b≠T→(s.heap.update T (Obj.mapFields (·.setIfInBounds 3 ((none:Option Addr).elim Value.none fun f=>rawInt f)))).get? b=s.heap.get? b :=
  fun b hb=>Al _ _ (Ne.symm hb)
 have hT':=Av (Obj.mapFields (·.setIfInBounds 3 ((none:Option Addr).elim Value.none fun f=>rawInt f))) hT (A2 (A3 hdT _))
 unfold setFlight
 refine fu (zF he hd h1 ?_)
 rw [if_pos (show (Value.ref T != Value.none)=true from by simp)]
 refine Bm hT hdT hsz3 (h _ ⟨oe,vs,_,_,(other e (Ne.symm hTe)).trans he,hd,h1,hTe,hT',A3 hdT _,by simp [hsz3]⟩ (fun b o hb q=>(other b hb).trans q) (fun b ⟨o,q⟩=>?_) fun z b=>?_)
 ·by_cases z:b=T
  ·subst z;exact ⟨_,hT'⟩
  ·exact ⟨o,(other b z).trans q⟩
 ·subst z
  exact j9 hT (j_ hdT h3) b
theorem vz {base:Heap}{env:Env}{outer:List Env}{L e:Addr}{oe:Obj}{vs:Array Value}{Q:Unit→Shared→Prop}
  (hfr:A.frames=some (env::outer)) (hl:s.heap.FunFrames base (env::outer)) (hf:env.frame=some L)
  (he:s.heap.get? e=some oe) (hd:oe.data = .fields vs) (h1:vs[1]? = some .none ∨ Flt s.heap e .none)
  (h:∀ h',Nts (frs (env::outer)) e .none s.heap h'→Q () { s with heap:=h' }):wpAny M A (leaving env (.ref e)) Q E s:=by
 unfold leaving
 refine fu (xD hfr hl hf he hd h1 fun h₁ N=>?_)
 obtain ⟨k1,k2,k3,T,hT,k4⟩:=N
 refine sQ (s:={ s with heap:=h₁ }) k4 fun h₂ f1 f2 f3 _=>h h₂ ⟨fun b o hb hbe q=>f2 b o (fun z=>?_) (k1 b o hb hbe q),fun b o hb q=>?_,fun oe vs q qd=>?_,T,hT,f1⟩
 ·exact absurd (Ad (zw q) (z ▸ hT)) (AL _)
 ·obtain ⟨sl,q'⟩:=k2 b o hb q
  exact ⟨sl,f2 b _ (fun z=>absurd (Ad (zw q) (z ▸ hT)) (AL _)) q'⟩
 ·obtain ⟨oe',vs',q1,q2⟩:=k3 oe vs q qd
  exact ⟨oe',vs',f2 e _ (fun z=>absurd (Ad (zw q) (z ▸ hT)) (AL _)) q1,q2⟩
end
def exo (a C:Addr)(d:Option Addr)(b:Bool):Heap→Prop:=fun h =>
 ∃ oe vs,h.get? a=some oe∧oe.cls = .ref C∧oe.dict=d∧oe.data = .fields vs∧vs.size=6∧(b=true→vs[1]? = some .none)
abbrev Exo (a C:Addr)(d:Option Addr)(b:Bool):HO:=.ext (exo a C d b)
theorem p_ {a C:Addr}{d:Option Addr}{b:Bool}{h1 h2:Heap}(x:exo a C d b h1)(k:∀ o,h1.get? a=some o→h2.get? a=some o):exo a C d b h2 :=
 let ⟨oe,vs,q,r⟩:=x;⟨oe,vs,k _ q,r⟩
theorem ka {P:Program}{w:World}{H:Hp}{h:Heap}{a C:Addr}{d:Option Addr}{b:Bool}(x:exo a C d b h):a_ P w H h a (Exo a C d b) :=
 ⟨x,let ⟨oe,_,q,_⟩:=x;⟨oe,q⟩,fun _ _ y k=>p_ y k⟩
theorem kc {H:Hp}{a:Addr}{o:HO}(h:H a=some o):upd H a o=H:=by
 funext b
 by_cases e:b=a
 ·subst e;rw [ae,h]
 ·rw [aq e]
def CXe (P:Program)(w:World):CXT:=fun outer H s E e s' =>
 ∃ a C d H',e = .ref a∧s'.os=s.os∧AllBare s'.gens∧Un (frs outer) [] H H' s.heap s'.heap∧HOk P w H' s'.heap∧H' a=some (Exo a C d false)∧Flt s'.heap a .none∧E (.ref a) none H'
theorem fj.cx {P:Program}{w:World}{K:PySem.W.Frag}{mg:Str→Option Value}{base:Heap}{CX:CXT}{k:Nat}{f:Addr}{fd:FuncData}{ps:List Str}{sp:Sp}(F:fj P w K mg base CX0 k f fd ps sp):fj P w K mg base CX k f fd ps sp :=
 ⟨F.len,fun A outer s H args us vs Q E hr he hb hv hs=>Ca (F.run A outer s H args us vs Q E hr he hb hv hs) fun r s' h=>by
  cases r with
  | ok fl=>cases fl <;> exact h
  | error e=>exact h.elim⟩
section
variable {P:Program} {w:World} {H:Hp} {h h':Heap} {fs:List Addr} {e C:Addr} {d:Option Addr} {b:Bool} {fl:Value}
theorem vA (ok:HOk P w H h)(he:H e=some (Exo e C d b))(hfs:∀ c∈fs,H c=none)(N:Nts fs e fl h h') :
  Un fs [] H (upd H e (Exo e C d false)) h h'∧HOk P w (upd H e (Exo e C d false)) h':=by
 obtain ⟨⟨oe,vs,g1,g2,g3,g4,g5,g6⟩,_,_⟩:=ok e _ he
 obtain ⟨oe',vs',n1,n2,n3,n4,n5⟩:=N.exc oe vs g1 g4
 have hx:exo e C d false h':=⟨oe',vs',n1,n2.trans g2,n3.trans g3,n4,n5.trans g5,fun z=>by cases z⟩
 have ne:∀ c,H c=none→c≠e:=fun c n z=>by rw [z,he] at n;cases n
 have ne':∀ c u,H c=some u→u≠Exo e C d b→c≠e:=fun c u q n z=>by rw [z,he] at q;cases q;exact n rfl
 refine ⟨⟨fun c o q n hc _=>N.keep c o hc (ne c n) q,fun c o q n hc _=>N.slot c o hc q,fun c o q n _=>by rw [aq (ne c n)];exact n,fun c o q _=>?_,
  fun c xs q=>by rw [aq (ne' c _ q (by intro z;cases z))];exact q,fun c o u q=>by rw [aq (ne' c _ q (by intro z;cases z))];exact q,fun c ps q=>⟨#[],by rw [aq (ne' c _ q (by intro z;cases z)),q];simp⟩⟩,fun c u q=>?_⟩
 ·by_cases z:c=e
  ·subst z;exact ⟨_,n1⟩
  ·by_cases y:c∈fs
   ·obtain ⟨sl,r⟩:=N.slot c o y q
    exact ⟨_,r⟩
   ·exact ⟨o,N.keep c o y z q⟩
 ·by_cases z:c=e
  ·subst z;rw [ae] at q;cases q;exact ka hx
  ·rw [aq z] at q
   refine (ok c u q).stay (fun x v hx q'=>?_) (fun x hx=>by rw [aq (ne' x _ hx (by intro z;cases z))];exact hx) fun x xs hx=>by rw [aq (ne' x _ hx (by intro z;cases z))];exact hx
   have nx:x≠e:=by
    rcases hx with rfl | hx
    ·exact z
    ·exact ne' x _ hx (by intro z;cases z)
   refine N.keep x v (fun y=>?_) nx q'
   have:=hfs x y
   rcases hx with rfl | hx
   ·rw [this] at q;cases q
   ·rw [this] at hx;cases hx
end
def rh (X:Cx)(E:XK):Prop:=∀ (pins:List (Addr × Obj)) (σ:St) (H:Hp) (s:Shared) (a C:Addr) (d:Option Addr),Inv X pins σ H s→H a=some (Exo a C d true)→E (.ref a) none (upd H a (Exo a C d false))→X.xe (.ref a) s
section
variable {P:Program} {w:World} {K:PySem.W.Frag} {mg:Str→Option Value} {base:Heap} {N:List Str} {qual:Str} {scope:Scope} {f:Addr} {cd:Value} {A:Around} {outer:List Env} {s:Shared} {H:Hp} {E:XK}
theorem ig {pins:List (Addr × Obj)}{σ:St}{H1:Hp}{s1:Shared}{a C:Addr}{d:Option Addr}{b:Bool}(I:Inv (jB (CXe P w) P w K mg base N qual scope f cd A outer s H E) pins σ H1 s1)
  (ha:H1 a=some (Exo a C d b)) (hf:b=true ∨ Flt s1.heap a .none) (hE:E (.ref a) none (upd H1 a (Exo a C d false))):(jB (CXe P w) P w K mg base N qual scope f cd A outer s H E).xe (.ref a) s1:=by
 obtain ⟨⟨oe,vs,g1,g2,g3,g4,g5,g6⟩,_,_⟩:=I.hok a _ ha
 refine vz (base:=base) (outer:=outer) I.ok.frames I.stack rfl g1 g4 (hf.imp (fun z=>g6 z) id) fun h' Nt=>?_
 obtain ⟨un,hok⟩:=vA I.hok ha I.stkFree Nt
 have J:=I.call' (s':={ s1 with heap:=h' }) rfl un hok I.bare (fun b z=>absurd z (by simp))
 obtain ⟨T,_,hT⟩:=Nt.fly
 exact ⟨a,C,d,_,rfl,J.os,J.bare,J.base,J.hok,ae ..,⟨T,hT⟩,hE⟩
theorem dm:rh (jB (CXe P w) P w K mg base N qual scope f cd A outer s H E) E:=fun pins σ H1 s1 a C d I ha hE=>ig I ha (.inl rfl) hE
theorem fw:gE (CXe P w) (jB (CXe P w) P w K mg base N qual scope f cd A outer s H E) E:=by
 intro pins σ H1 s1 e s' I ⟨a,C,d,H',he,os,bare,un,hok,ha,hf,hE⟩
 subst he
 have J:=I.call' os un hok bare (fun b z=>absurd z (by simp))
 exact ig J ha (.inr hf) (by rw [kc ha];exact hE)
end
abbrev bmV:List Value:=[.type "ValueError",.type "Exception",.type "BaseException",.type "object"]
structure XCl (K:PySem.W.Frag) (C:Addr) (bm:List Value):Prop where
 obj:∃ dd cd k0 k1 k2 k3 k5,K.lookup C=some ⟨.type "type",dd,.cls cd,#[k0,k1,k2,k3,some (.builtin "ValueError.__new__"),k5]⟩∧cd.mro = .ref C::bm∧cd.hasDel=false∧cd.hasDict=true
 tl:PySem.W.tailIn K bmV bm=true
 kp:PySem.W.keepIn K (.ref C)=true
abbrev ke (us:List Value):Obj:={ cls:=.type "tuple",data:=.seq us.toArray }
abbrev oB (C t:Addr):Obj:={ cls:=.ref C,data:=.fields #[.ref t,.none,.none,.none,.bool false,.none] }
theorem XCl.at {K:PySem.W.Frag}{C:Addr}{bm:List Value}{h:Heap}(x:XCl K C bm)(X:K.In h):OwnTail h bmV bm∧∃ nm q N bs sn sub ab col dd k0 k1 k2 k3 k5,h.get? C=some (excClassObj nm q C N bs bm true sn sub ab col dd k0 k1 k2 k3 k5 "ValueError.__new__"):=by
 refine ⟨PySem.W.tail_of_in X x.tl,?_⟩
 obtain ⟨dd,cd,k0,k1,k2,k3,k5,hl,hm,hd,hh⟩:=x.obj
 obtain ⟨nm,bs,mro,ns,qn,hdc,sn,sub,ab,col,del⟩:=cd
 dsimp only at hm hd hh
 subst hm hd hh
 exact ⟨nm,qn,ns,bs,sn,sub,ab,col,dd,k0,k1,k2,k3,k5,X _ _ hl⟩
section
variable {prog:Program} {w:World} {A:Around} {E:Value→Shared→Prop} {h:Heap} {g:Array GenState} {d:Drawn} {t:Nat} {os:OsState} {K:PySem.W.Frag} {C fI:Addr} {bm:List Value}
set_option maxHeartbeats 1600000 in
theorem jd {rest:List Value}{Q:Fin→Shared→Prop}(X:K.In h)(x:XCl K C bm)(hi:PySem.W.findIn K (.ref C) "__init__" = some (some (.ref fI)))(hf:PySem.W.isFn K (.ref fI)=true)
  (hq:wpAny (model prog w) A (call (.ref fI) (.ref (h.objs.size+1)::rest)) (fun r s'=>r = .none∧Q (.done (.ret (.ref (h.objs.size+1)))) s') E ⟨(h.push (ke rest)).push (oB C h.objs.size),g,d,t,os⟩) (hrest:rest.length≤sizeLine) :
  wpAny (model prog w) A (Builtin.«type.__call__» ⟨.ref C::rest,[]⟩) Q E ⟨h,g,d,t,os⟩:=by
 obtain ⟨T,nm,q,N,bs,sn,sub,ab,col,dd,k0,k1,k2,k3,k5,hC⟩:=x.at X
 have F:=B_
 repeat (first | with_reducible refine AH hC ?_ | with_reducible refine wpAny_madeBy_exc hC ?_ | wp_step)
 refine codeAny_call_builtin_code (BC _ F.quiet) (wpAny_check_new_subT F T hC ?_)
 refine codeAny_exc_new_subT F T hC ?_ hrest
 show wpAny _ _ _ _ _ _
 have k1:∀ b o,h.get? b=some o→((h.push (ke rest)).push (oB C h.objs.size)).get? b=some o:=fun b o e=>y9 _ (y9 _ e)
 have hC₁:=k1 _ _ hC
 have X₁:K.In ((h.push (ke rest)).push (oB C h.objs.size)):=fun b o e=>k1 b o (X b o e)
 have hget:((h.push (ke rest)).push (oB C h.objs.size)).get? (h.objs.size+1)=some (oB C h.objs.size):=by heap_get
 have hcC:(Value.ref C::bm).contains (.ref C)=true:=by simp
 unfold isInstance
 repeat (first | with_reducible refine AH hget ?_ | (with_reducible refine B5 hC₁ ?_;rw [hcC]) | wp_step)
 show wpAny _ _ (typeLookup (.ref C) _) _ _ _
 refine (BV (M:=model prog w) X₁ hi).at ?_
 refine zY (fu ?_)
 unfold bindSpecial
 have L:=PySem.W.looks_typeIn (M:=model prog w) X₁ (beq_iff_eq.mp hf)
 refine fu (L.at ?_)
 rw [if_pos (by decide)]
 refine zd (fu (CS hq (fun r s' hr=>?_) fun _ _ x=>x))
 obtain ⟨rfl,hQ⟩:=hr
 wp_walk
 exact hQ
theorem vB {rest:List Value}{Q:Value→Shared→Prop}(X:K.In h)(x:XCl K C bm)(hi:PySem.W.findIn K (.ref C) "__init__" = some (some (.ref fI)))(hf:PySem.W.isFn K (.ref fI)=true)
  (hq:wpAny (model prog w) (A.under (.builtin "type.__call__" ⟨.ref C::rest,[]⟩)) (call (.ref fI) (.ref (h.objs.size+1)::rest)) (fun r s'=>r = .none∧Q (.ref (h.objs.size+1)) s') E ⟨(h.push (ke rest)).push (oB C h.objs.size),g,d,t,os⟩) (hrest:rest.length≤sizeLine) :
  wpAny (model prog w) A (call (.ref C) rest) Q E ⟨h,g,d,t,os⟩:=by
 obtain ⟨T,nm,q,N,bs,sn,sub,ab,col,dd,k0,k1,k2,k3,k5,hC⟩:=x.at X
 have f1:=tc_lookup
 have f2:=tc_bind (.ref C)
 have hT:(⟨h,g,d,t,os⟩:Shared).TypeIs (.ref C) "type":=⟨_,hC,rfl⟩
 refine CU (CH ?_)
 show wpAny _ _ (callAny (.ref C) _) _ _ _
 repeat (any_goals (first | assumption | with_reducible refine AH hC ?_ | wp_step))
 refine ⟨rfl,?_⟩
 exact codeAny_call_builtin_at (BC _ (by decide +kernel)) entry_typeCall (wpAny_check_type_call_sub hC (jd X x hi hf hq hrest))
end
section
variable {X:Cx} {k:Nat} {f C:Addr} {fd:FuncData} {ps:List Str} {sp:Sp} {x:Str} {p pos:Pos} {e:Expr} {es:List Expr} {t:TA} {bm:List Value}
theorem Inv.madeX {pins:List (Addr × Obj)}{σ:St}{H:Hp}{s:Shared}(I:Inv X pins σ H s)(us:List Value):Inv X pins σ (upd H (s.heap.objs.size+1) (Exo (s.heap.objs.size+1) C none true)) { s with heap:=(s.heap.push (ke us)).push (oB C s.heap.objs.size) }:=by
 have I1:=I.kept (h':=s.heap.push (ke us)) (t':=s.toks) (fun b u q=>y9 _ q)
 refine I1.laid (a:=s.heap.objs.size+1) (t':=s.toks) (fun b u q=>y9 _ q) (CK (zU _ _)) (ka ⟨oB C s.heap.objs.size,_,?_,rfl,rfl,rfl,rfl,fun _=>rfl⟩)
 have:=zj (s.heap.push (ke us)) (o:=oB C s.heap.objs.size) rfl
 rwa [zU] at this
theorem nH {pins:List (Addr × Obj)}{σ:St}{H:Hp}{s:Shared}{Q:VK}{us:List Value}{vs:List V}(M:XCl X.K C bm)(hi:PySem.W.findIn X.K (.ref C) "__init__" = some (some (.ref f)))(hf:PySem.W.isFn X.K (.ref f)=true)
  (F:fj X.prog X.w X.K X.mg X.base CX0 k f fd ps sp) (hr:cZ (k+1) X.A) (hb:ff X.K fd ps []) (I:Inv X pins σ H s) (r:aY vs us)
  (h:vs.length≤1000∧∀ x,H x=none→sp (.ref x::vs) (upd H x (Exo x C none true)) (fun v H2=>v = .non∧Q (.ref x) H2) E0):wpAny (model X.prog X.w) X.A (call (.ref C) us) (EP X pins σ Q) X.xe s:=by
 obtain ⟨hl0,h⟩:=h
 have hq:=h (s.heap.objs.size+1) (I.hok.fresh (B2 _))
 have I2:=Inv.madeX (C:=C) I us
 have r2:aY (V.ref (s.heap.objs.size+1)::vs) (Value.ref (s.heap.objs.size+1)::us):=.cons rfl r
 have hl:(Value.ref (s.heap.objs.size+1)::us++[]).length=ps.length:=by
  have e:=r2.length
  rw [F.len _ _ _ _ hq] at e
  rw [AA]
  exact e.symm
 obtain ⟨hh,g,d,tk,os⟩:=s
 refine vB I.kIn M hi hf (CU ?_) (by rw [← r.length,Bu];omega)
 have hb':=hb ⟨(hh.push (ke us)).push (oB C hh.objs.size),g,d,tk,os⟩ (Value.ref (hh.objs.size+1)::us) I2.kIn hl
 rw [AA] at hb'
 refine Ca (F.run _ X.stack _ _ ⟨Value.ref (hh.objs.size+1)::us,[]⟩ (Value.ref (hh.objs.size+1)::us) _ _ E0 (hr.make C us []) (I2.env0.make C us []) hb' r2 hq) fun r s' hq'=>?_
 cases r with
 | error e=>exact hq'.elim
 | ok fl =>
  cases fl with
  | ret u =>
   obtain ⟨v,H',I3,rv,ev,q3⟩:=I2.after hq'
   subst ev
   exact ⟨rv,⟨V.ref (hh.objs.size+1),H',I3,rfl,q3⟩⟩
  | next=>exact False.elim hq'
  | brk=>exact False.elim hq'
  | cont=>exact False.elim hq'
end
end L2
namespace L2
open PySem PySem.Spec PyProof.Rows Builtin Builtin.ObjectAttr
section
variable {prog:Program} {w:World} {A:Around} {E:Value→Shared→Prop} {h:Heap} {g:Array GenState} {d:Drawn} {t:Nat} {os:OsState} {K:PySem.W.Frag} {C e:Addr} {bm:List Value} {oe:Obj} {vs:Array Value}
theorem vC {rest:List Value}{R:Result→Shared→Prop}(X:K.In h)(x:XCl K C bm)(he:h.get? e=some oe)(hcls:oe.cls = .ref C)(hd:oe.data = .fields vs)(hsz:vs.size=6)(hrest:rest.length≤sizeLine)
  (hq:R (.ok (.ret .none)) ⟨(h.push (ke rest)).update e (Obj.mapFields (·.setIfInBounds 0 (.ref h.objs.size))),g,d,t,os⟩) :
  codeAny (model prog w) A (.call (.builtin "ValueError.__init__") ⟨.ref e::rest,[]⟩) R ⟨h,g,d,t,os⟩:=by
 obtain ⟨T,nm,q,N,bs,sn,sub,ab,col,dd,k0,k1,k2,k3,k5,hC⟩:=x.at X
 have F:=B_
 refine BW F.init.plain F.initEntry (wpAny_check_init_subT F T hC he hcls ?_)
 unfold Builtin.«BaseException.__init__»
 refine fu (m:=newTuple rest) ?_
 unfold newTuple
 refine BJ ?_ (by show rest.toArray.size≤sizeLine;rw [Ah];exact hrest)
 have he₁:=y9 (h:=h) (ke rest) he
 have h0:∃ a0,vs[0]? = some a0:=⟨vs[0],Ao (by omega)⟩
 obtain ⟨a0,h0⟩:=h0
 unfold BaseException.bexcPut
 refine fu (fu (zF he₁ hd h0 (fu (Bm he₁ hd (by omega) ?_))))
 cases a0 <;> first | exact Bb (zd hq) | exact zd (zd hq)
theorem je {bm:List Value}{self:Value}(T:OwnTail h bmV bm):refuseLoop self "__setattr__" bm=pure ():=by
 induction T with
 | base=>exact Cm.passes self
 | own _ _ _ _ ih=>rw [refuseLoop_ref];exact ih
structure yf (h h':Heap) (e:Addr) (oe:Obj) (name:Str) (v:Value) (mA:Str→Option Value) (dx:Addr):Prop where
 ns:h'.Ns1 dx fun y=>if y=name then some v else mA y
 exc:h'.get? e=some { oe with dict:=some dx }
 keep:∀ b o,b≠e→b≠dx→h.get? b=some o→h'.get? b=some o
section
variable {name:Str} {v:Value} {mA:Str→Option Value}
set_option maxHeartbeats 1600000 in
theorem kQ {tk:Tok}{Q:Fin→Shared→Prop}{ns:List Str}(X:K.In h)(x:XCl K C bm)(hna:PySem.W.findIn K (.ref C) name=some none)
  (hx:h.get? e=some oe) (hc:oe.cls = .ref C) (hnc:oe.data = .fields vs) (hd:(oe.dict=none∧∀ n,mA n=none) ∨ ∃ dx,oe.dict=some dx∧dx≠e∧h.Ns1 dx mA)
  (hq:∀ h' tk' dx,yf h h' e oe name v mA dx→(oe.dict=none→dx=h.objs.size)→(∀ dy,oe.dict=some dy→dx=dy)→Q (.done (.ret .none)) ⟨h',g,d,tk',os⟩) (hw:Within mA ns) (hsz:ns.length≤1000) :
  wpAny (model prog w) A (Builtin.«object.__setattr__» ⟨[.ref e,.str name tk,v],[]⟩) Q E ⟨h,g,d,t,os⟩:=by
 obtain ⟨T,nm,q,N,bs,sn,sub,ab,col,dd,k0,k1,k2,k3,k5,hC⟩:=x.at X
 have hpass:=je (self:=.ref e) T
 have L:=BV (M:=model prog w) X hna
 unfold Builtin.«object.__setattr__»
 repeat (first | rw [refuse_eq] | (rw [refuseLoop_ref,hpass]) | (with_reducible refine AH hx ?_;rw [hc]) | with_reducible refine wpAny_mroOf_exc hC ?_ | with_reducible refine L.at ?_ | wp_step)
 rcases hd with ⟨hdn,hmA⟩ | ⟨dx,hdx,hne,hns⟩
 ·rw [hdn,if_neg (by simp [typeHasDict])]
  split
  ·rename_i hcd
   cases hcd
  split
  ·rename_i c hcd
   rw [hnc] at hcd;cases hcd
  ·have hx₁:(h.push { cls:=.type "dict",data:=.dict #[] }).get? e=some oe:=y9 _ hx
   have hxs:e≠h.objs.size:=z3 (zw hx)
   refine fu (wpAny_alloc' ?_)
   refine fu (wpAny_update' hx₁ ?_)
   refine zd ?_
   have hgd:((h.push { cls:=.type "dict",data:=.dict #[] }).update e fun o=>{ cls:=o.cls,dict:=some h.objs.size,data:=o.data,slots:=o.slots }).get? h.objs.size
     = some { cls:=.type "dict",data:=.dict #[] } :=
    (Heap.get?_update_ne _ _ _ _ hxs.symm).trans (Heap.get?_push_at rfl rfl)
   have hnd:((h.push { cls:=.type "dict",data:=.dict #[] }).update e fun o=>{ cls:=o.cls,dict:=some h.objs.size,data:=o.data,slots:=o.slots }).Ns h.objs.size (fun _=>none) :=
    ⟨_,#[],_,hgd,rfl,fun e he=>absurd he (by simp),fun _=>rfl⟩
   show wpAny _ _ (storeInDict h.objs.size (.str name tk) name v) _ _ _
   unfold storeInDict newKeyGuard
   refine fu (zd (fu (wpAny_nsSet1 (Heap.Ns1.of_empty hnd) fun h' hn' hs=>?_)))
   obtain ⟨oD,esD,epD,hoD,hdD,hcD⟩:=hn'.count (Within.cons name v Within.nil)
   refine fu (wpAny_lookBehind hoD (by rw [hdD];exact pastItsLine_dict (Bw hcD (by rw [Ar,B0,Bu];omega))) ?_)
   wp_walk
   refine hq h' _ h.objs.size ⟨?_,?_,fun b o hbx _ hb=>?_⟩ (fun _=>rfl) fun dy q=>by rw [hdn] at q;cases q
   ·obtain ⟨o',es,ep,e1,e2,e3,eu,e4⟩:=hn'
    exact ⟨o',es,ep,e1,e2,e3,eu,fun y=>by rw [e4 y];by_cases hy:y=name <;> simp [hy,hmA]⟩
   ·exact (hs.2 e hxs).trans (Av _ hx₁ (A2 hnc))
   ·exact (hs.2 b (z3 (zw hb))).trans ((Heap.get?_update_ne _ _ _ _ hbx).trans (y9 _ hb))
 ·rw [hdx]
  refine zd ?_
  show wpAny _ _ (storeInDict dx (.str name tk) name v) _ _ _
  unfold storeInDict newKeyGuard
  refine fu (zd (fu (wpAny_nsSet1 hns fun h' hn' hs=>?_)))
  obtain ⟨oD,esD,epD,hoD,hdD,hcD⟩:=hn'.count (Within.cons name v hw)
  refine fu (wpAny_lookBehind hoD (by rw [hdD];exact pastItsLine_dict (Bw hcD (by rw [Ar,Bu];omega))) ?_)
  wp_walk
  refine hq h' _ dx ⟨hn',?_,fun b ob _ hbd hb=>(hs.2 b hbd).trans hb⟩ (fun q=>by rw [hdx] at q;cases q) fun dy q=>by rw [hdx] at q;cases q;rfl
  rw [(hs.2 e hne.symm).trans hx]
  obtain ⟨c,dd,dt,sl⟩:=oe
  simp only at hdx
  subst hdx
  rfl
theorem nJ {M:Model}{nameV:Value}{Q:Unit→Shared→Prop}(X:K.In h)(x:XCl K C bm)(hx:h.get? e=some oe)(hc:oe.cls = .ref C)(hq:Q () ⟨h,g,d,t,os⟩) :
  wpAny M A (checkBuiltinCall "object.__setattr__" ⟨[.ref e,nameV,v],[]⟩) Q E ⟨h,g,d,t,os⟩:=by
 obtain ⟨T,nm,q,N,bs,sn,sub,ab,col,dd,k0,k1,k2,k3,k5,hC⟩:=x.at X
 have SF:=Cm
 have hcB:(Value.ref C::bm).contains (.type "object")=true:=by rw [List.contains_cons,T.hasType SF.hasOwner,CZ]
 have ha:=SF.args (.ref e) nameV v
 simp only [checkBuiltinCall,SF.kind,SF.split]
 refine fu ?_
 unfold isInstance
 repeat (first | (with_reducible refine AH hx ?_;rw [hc]) | (with_reducible refine B5 hC ?_;rw [hcB]) | wp_step)
 exact hq
theorem vD {Q:Unit→Shared→Prop}{ns:List Str}(X:K.In h)(x:XCl K C bm)(hsa:PySem.W.findIn K (.ref C) "__setattr__" = some (some (.builtin "object.__setattr__")))(hna:PySem.W.findIn K (.ref C) name=some none)
  (hx:h.get? e=some oe) (hc:oe.cls = .ref C) (hnc:oe.data = .fields vs) (hd:(oe.dict=none∧∀ n,mA n=none) ∨ ∃ dx,oe.dict=some dx∧dx≠e∧h.Ns1 dx mA)
  (hq:∀ h' tk' dx,yf h h' e oe name v mA dx→(oe.dict=none→dx=h.objs.size)→(∀ dy,oe.dict=some dy→dx=dy)→Q () ⟨h',g,d,tk',os⟩) (hw:Within mA ns) (hsz:ns.length≤1000) :
  wpAny (model prog w) A (setAttr (.ref e) name v) Q E ⟨h,g,d,t,os⟩:=by
 obtain ⟨T,nm,q,N,bs,sn,sub,ab,col,dd,k0,k1,k2,k3,k5,hC⟩:=id (x.at X)
 have SF:=Cm
 have f3:=SF.slot.bind (.ref e)
 have L:=BV (M:=model prog w) X hsa
 unfold setAttr callSpecial? specialOf
 repeat (any_goals (first | assumption | (with_reducible refine AH hx ?_;rw [hc]) | with_reducible refine L.at ?_ | wp_step))
 refine BW SF.slot.plain SF.entry (nJ X x hx hc (kQ X x hna hx hc hnc hd (fun h' tk' dx a b c=>?_) hw hsz))
 repeat (any_goals (first | assumption | wp_step))
 exact hq h' tk' dx a b c
end
end
end L2
namespace L2
open PySem PySem.Spec PyProof.Rows
def xdt (d:Addr)(fs:List (Str × V)):Heap→Prop:=fun h=>∃ mA,h.Ns1 d mA∧(∀ f,jv (fs.lookup f) (mA f))∧PySem.Within mA (fs.map (·.1))
abbrev Xdt (d:Addr)(fs:List (Str × V)):HO:=.ext (xdt d fs)
theorem rj {P:Program}{w:World}{H:Hp}{h:Heap}{d:Addr}{fs:List (Str × V)}(x:xdt d fs h):a_ P w H h d (Xdt d fs) :=
 ⟨x,let ⟨_,⟨o,_,_,q,_⟩,_⟩:=x;⟨o,q⟩,fun _ _ y k=>let ⟨mA,n,r⟩:=y;⟨mA,n.at k,r⟩⟩
structure XAt (K:PySem.W.Frag) (C:Addr):Prop where
 cl:∃ bm,XCl K C bm
 sa:PySem.W.findIn K (.ref C) "__setattr__" = some (some (.builtin "object.__setattr__"))
 ga:PySem.W.findIn K (.ref C) "__getattribute__" = some (some (.builtin "BaseException.__getattribute__"))
 gn:PySem.W.findIn K (.ref C) "__getattr__" = some none
section
variable {X:Cx} {pins:List (Addr × Obj)} {σ:St} {H:Hp} {s:Shared} {A:Around} {E:Value→Shared→Prop} {a C:Addr} {b:Bool} {f:Str} {y:V} {u:Value} {Q:Unit→Shared→Prop}
theorem f_ {P:Program}{w:World}{h:Heap}{d:Option Addr}(ok:HOk P w H h)(e:H a=some (Exo a C d b)):exo a C d b h:=(ok a _ e).1
theorem sR {P:Program}{w:World}{h:Heap}{d:Addr}{fs:List (Str × V)}(ok:HOk P w H h)(e:H d=some (Xdt d fs)):xdt d fs h:=(ok d _ e).1
theorem qa (I:Inv X pins σ H s)(ea:H a=some (Exo a C none b))(x:XAt X.K C)(hna:PySem.W.findIn X.K (.ref C) f=some none)(ry:bc y u)
  (h:∀ s' dx,H dx=none→dx≠a→Inv X pins σ (upd (upd H a (Exo a C (some dx) b)) dx (Xdt dx [(f,y)])) s'→Q () s'):wpAny (model X.prog X.w) A (setAttr (.ref a) f u) Q E s:=by
 obtain ⟨oe,vs,g1,g2,g3,g4,g5,g6⟩:=f_ I.hok ea
 obtain ⟨bm,xc⟩:=x.cl
 obtain ⟨hh,g,dr,tk,os⟩:=s
 refine vD (mA:=fun _=>none) (ns:=[]) I.kIn xc x.sa hna g1 g2 g4 (.inl ⟨g3,fun _=>rfl⟩) (fun h' tk' dx S d1 _=>?_) (fun n hn=>absurd rfl hn) (by simp)
 have hdx:dx=hh.objs.size:=d1 g3
 have hfr:H dx=none:=I.hok.fresh (CK hdx.symm)
 have nea:dx≠a:=fun z=>by rw [z,ea] at hfr;cases hfr
 have nin:∀ c o,hh.get? c=some o→c≠dx:=fun c o q z=>absurd (zw q) (by rw [z,hdx];exact AL _)
 have neA:∀ c,H c=none→c≠a:=fun c n z=>by rw [z,ea] at n;cases n
 have neA':∀ c v,H c=some v→v≠Exo a C none b→c≠a:=fun c v q n z=>by rw [z,ea] at q;cases q;exact n rfl
 have neD:∀ c v,H c=some v→c≠dx:=fun c v q z=>by rw [z,hfr] at q;cases q
 have same:∀ c v,H c=some v→v≠Exo a C none b→upd (upd H a (Exo a C (some dx) b)) dx (Xdt dx [(f,y)]) c=some v:=fun c v q n=>by rw [aq (neD c v q),aq (neA' c v q n)];exact q
 refine h _ dx hfr nea (I.un (t':=tk') ⟨fun c o q n _ _=>S.keep c o (neA c n) (nin c o q) q,fun c o q n _ _=>⟨o.slots,S.keep c o (neA c n) (nin c o q) q⟩,
  fun c o q n _=>by rw [aq (nin c o q),aq (neA c n)];exact n,fun c o q _=>?_,fun c xs q=>same c _ q (by intro z;cases z),fun c o v q=>same c _ q (by intro z;cases z),fun c ps q=>⟨#[],by rw [same c _ q (by intro z;cases z)];simp⟩⟩ fun c v q=>?_)
 ·by_cases z:c=a
  ·subst z;exact ⟨_,S.exc⟩
  ·exact ⟨o,S.keep c o z (nin c o q) q⟩
 ·by_cases z:c=dx
  ·subst z
   rw [ae] at q;cases q
   refine rj ⟨_,S.ns,fun n=>?_,fun n hn=>?_⟩
   ·show jv (List.lookup n [(f,y)]) (if n=f then some u else none)
    by_cases z:n=f
    ·subst z;rw [if_pos rfl,List.lookup_cons,Cz];exact ry
    ·rw [if_neg z,List.lookup_cons,beq_eq_false_iff_ne.mpr z];exact True.intro
   ·by_cases z:n=f
    ·subst z;exact zP
    ·exact absurd (show (if n=f then some u else none)=none by rw [if_neg z]) hn
  ·rw [aq z] at q
   by_cases y':c=a
   ·subst y'
    rw [ae] at q;cases q
    exact ka ⟨_,vs,S.exc,g2,rfl,g4,g5,g6⟩
   ·rw [aq y'] at q
    have hc:=I.hok c v q
    refine hc.stay (fun p o hp r=>S.keep p o ?_ (nin p o r) r) (fun p hp=>same p _ hp (by intro z;cases z)) fun p xs hp=>same p _ hp (by intro z;cases z)
    rcases hp with rfl | hp
    ·exact y'
    ·exact neA' p _ hp (by intro z;cases z)
theorem qb {dx:Addr}{fs:List (Str × V)}(I:Inv X pins σ H s)(ea:H a=some (Exo a C (some dx) b))(ed:H dx=some (Xdt dx fs))(hl:fs.length≤900)(x:XAt X.K C)(hna:PySem.W.findIn X.K (.ref C) f=some none)(ry:bc y u)(hda:dx≠a)
  (h:∀ s',Inv X pins σ (upd H dx (Xdt dx (ku f y fs))) s'→Q () s'):wpAny (model X.prog X.w) A (setAttr (.ref a) f u) Q E s:=by
 obtain ⟨oe,vs,g1,g2,g3,g4,g5,g6⟩:=f_ I.hok ea
 obtain ⟨mA,n1,n2,n3⟩:=sR I.hok ed
 obtain ⟨bm,xc⟩:=x.cl
 obtain ⟨hh,g,dr,tk,os⟩:=s
 refine vD (mA:=mA) (ns:=fs.map (·.1)) I.kIn xc x.sa hna g1 g2 g4 (.inr ⟨dx,g3,hda,n1⟩) (fun h' tk' dy S _ d2=>?_) n3 (by rw [zl];omega)
 obtain rfl:dy=dx:=d2 dx g3
 refine h _ (I.write (t':=tk') (x:=dy) (e:=dy) (by rw [ed];exact True.intro) (.inl rfl) (fun c o hc q=>?_) ?_ (rj ⟨_,S.ns,fun n=>?_,fun n hn=>?_⟩))
 ·by_cases z:c=a
  ·subst z
   rw [g1] at q;cases q
   rw [S.exc]
   obtain ⟨c1,c2,c3,c4⟩:=oe
   simp only at g3
   subst g3
   rfl
  ·exact S.keep c o z hc q
 ·obtain ⟨o,_,_,e,_⟩:=S.ns;exact ⟨o,e⟩
 ·show jv ((ku f y fs).lookup n) (if n=f then some u else mA n)
  rw [d8]
  by_cases z:n=f
  ·rw [if_pos z,if_pos z];exact ry
  ·rw [if_neg z,if_neg z];exact n2 n
 ·by_cases z:n=f
  ·rw [z];exact (d9 f y fs).1
  ·refine (d9 f y fs).2 n (n3 n fun w=>hn ?_)
   show (if n=f then some u else mA n)=none
   rw [if_neg z];exact w
end
def yT (K:PySem.W.Frag)(ta tv:TE)(f:Str):TS:=fun D σ H=>tv σ H fun y H1=>ta σ H1 fun x H2=>∃ a C b,x = .ref a∧H2 a=some (Exo a C none b)∧XAt K C∧PySem.W.findIn K (.ref C) f=some none ∧
 ∀ dx,H2 dx=none→dx≠a→D.nx σ (upd (upd H2 a (Exo a C (some dx) b)) dx (Xdt dx [(f,y)]))
def yU (K:PySem.W.Frag)(ta tv:TE)(f:Str):TS:=fun D σ H=>tv σ H fun y H1=>ta σ H1 fun x H2=>∃ a C b dx fs,x = .ref a∧H2 a=some (Exo a C (some dx) b)∧H2 dx=some (Xdt dx fs)∧fs.length≤900∧XAt K C∧PySem.W.findIn K (.ref C) f=some none∧dx≠a ∧
 D.nx σ (upd H2 dx (Xdt dx (ku f y fs)))
section
variable {X:Cx} {o e value:Expr} {es:List Expr} {f x:Str} {p pos pos' apos:Pos} {ta tv te:TE} {t:TA} {R:Addr} {E:XK}
theorem vE (ha:PE X o ta)(hv:PE X value tv)(hs:swapsWith value (some (.Attribute o f pos')) pos.line X.env=pure false):PS X (.Assign [.Attribute o f pos'] value pos) (yT X.K ta tv f):=by
 intro pins s σ H D I h
 refine BM (thn (hv pins s σ H _ I h) fun u s1 ⟨y,H1,I1,ry,q⟩=>thn (ha pins s1 σ H1 _ I1 q) fun ov s2 zq1=>?_) hs
 obtain ⟨z,H2,I2,rx,a,C,b,ex,ea,c,n,q2⟩:=zq1
 subst ex
 obtain rfl:ov=Value.ref a:=rx
 exact qa I2 ea c n ry fun s3 dx h1 h2 I3=>⟨σ,_,I3,q2 dx h1 h2⟩
theorem vF (ha:PE X o ta)(hv:PE X value tv)(hs:swapsWith value (some (.Attribute o f pos')) pos.line X.env=pure false):PS X (.Assign [.Attribute o f pos'] value pos) (yU X.K ta tv f):=by
 intro pins s σ H D I h
 refine BM (thn (hv pins s σ H _ I h) fun u s1 ⟨y,H1,I1,ry,q⟩=>thn (ha pins s1 σ H1 _ I1 q) fun ov s2 zq2=>?_) hs
 obtain ⟨z,H2,I2,rx,a,C,b,dx,fs,ex,ea,ed,l,c,n,da,q2⟩:=zq2
 subst ex
 obtain rfl:ov=Value.ref a:=rx
 exact qb I2 ea ed l c n ry da fun s3 I3=>⟨σ,_,I3,q2⟩
def vG (K:PySem.W.Frag)(t:TA):TE:=fun σ H Q=>t σ H fun vs H1=>∃ a C d b rest,vs = .ref a::rest∧rest.length≤1000∧H1 a=some (Exo a C d b)∧XAt K C∧Q .non H1
structure sS (K:PySem.W.Frag) (R:Addr):Prop where
 rd:PySem.W.readsIn K R (.type "type")=true
 at_:PySem.W.findCls K (.ref R) (.type "type") "__init__" = some (.val (.builtin "ValueError.__init__"))
 ga:PySem.W.specialIn K (.ref R) "__getattribute__" = some (some (.builtin "type.__getattribute__"))
 hd:PySem.W.handedIn (.builtin "ValueError.__init__")=true
theorem qc {pins:List (Addr × Obj)}{σ:St}{H:Hp}{s:Shared}{A:Around}{F:Value→Shared→Prop}{Q:Value→Shared→Prop}{a C:Addr}{d:Option Addr}{b:Bool}{rest:List Value}(I:Inv X pins σ H s)(ea:H a=some (Exo a C d b))(x:XAt X.K C)(hl:rest.length≤1000)
  (h:∀ s',Inv X pins σ H s'→Q .none s'):wpAny (model X.prog X.w) A (call (.builtin "ValueError.__init__") (.ref a::rest)) Q F s:=by
 obtain ⟨oe,vs,g1,g2,g3,g4,g5,g6⟩:=f_ I.hok ea
 obtain ⟨bm,xc⟩:=x.cl
 obtain ⟨hh,g,dr,tk,os⟩:=s
 refine CU (vC I.kIn xc g1 g2 g4 g5 (by rw [Bu];omega) (h _ ?_))
 have I1:=I.kept (h':=hh.push (ke rest)) (t':=tk) (fun b u q=>y9 _ q)
 have g1':=y9 (h:=hh) (ke rest) g1
 have hd':=A3 g4 (·.setIfInBounds 0 (Value.ref hh.objs.size))
 have e':=Av (Obj.mapFields (·.setIfInBounds 0 (Value.ref hh.objs.size))) g1' (A2 hd')
 have I2:=I1.write (t':=tk) (x:=a) (e:=a) (h':=(hh.push (ke rest)).update a (Obj.mapFields (·.setIfInBounds 0 (Value.ref hh.objs.size)))) (o:=Exo a C d b) (by rw [ea];exact True.intro) (.inl rfl) (fun c o hc q=>(Al _ _ (Ne.symm hc)).trans q) ⟨_,e'⟩
  (ka ⟨_,_,e',(Cj _ _).trans g2,by
   rw [← g3]
   obtain ⟨c1,c2,c3,c4⟩:=oe
   cases c3 <;> rfl,hd',by rw [Array.size_setIfInBounds];exact g5,fun z=>by rw [Array.getElem?_setIfInBounds_ne (by decide)];exact g6 z⟩)
 rwa [kc ea] at I2
theorem qe {pl:Sem Bool}(B:sS X.K R)(hg:Gl X x)(hm:X.mg x=some (.ref R))(ha:PA X (e::es) t)(hdb:(x == ("__debug__":Str))=false:=by decide)
  (hst:starEach (e::es) X.env=(false,eval e X.env)::starEach es X.env:=by rfl) (hpl:(backTo pos (starEach es X.env)).any (·.1)=false:=by rfl)
  (ht:eval (.Call (.Attribute (.Name x p) "__init__" apos) (e::es) [] pos) X.env=(do
   let ov ← eval (.Name x p) X.env
   standAt apos.atName
   let (f,first) ← holding [ov] (getMethod ov "__init__" pl)
   callWith pos f first (backTo pos (starEach (e::es) X.env)) (backToKw pos (keywordEach [] X.env))):=by rfl) :
  PE X (.Call (.Attribute (.Name x p) "__init__" apos) (e::es) [] pos) (vG X.K t):=by
 intro pins s σ H Q I h
 refine PySem.W.methodCall_KW (pl:=pl) (dX I hg hm ?_ hdb) ht
 refine PySem.W.method_cls I.kIn B.ga (PySem.W.cls_value I.kIn B.rd B.at_ B.hd ?_)
 refine PyProof.Rows.callWith_builtin1 (thn (ha pos pins _ σ H _ (I.tok _) h) fun us s2 zq3=>?_) hst hpl
 obtain ⟨vs,H2,I2,r,a,C,d,b,rest,ev,hl,ea,xa,q2⟩:=zq3
 subst ev
 cases r with
 | cons r1 r2 =>
  obtain rfl:_=Value.ref a:=r1
  exact qc I2 ea xa (by rw [← r2.length];exact hl) fun s3 I3=>⟨.non,H2,I3,rfl,q2⟩
def vH (K:PySem.W.Frag)(te:TE)(E:XK):TS:=fun D σ H=>te σ H fun v H1=>∃ a C d,v = .ref a∧H1 a=some (Exo a C d true)∧XAt K C∧E (.ref a) none (upd H1 a (Exo a C d false))
theorem eM (hx:rh X E)(hc:X.calm=true)(he:PE X e te):PS X (.Raise (some e) none pos) (vH X.K te E):=by
 intro pins s σ H D I h
 rw [arm_exec_Raise]
 refine fu (wpAny_standAt ?_)
 unfold raiseStmt
 refine fu (fu (thn (he pins s σ H _ I h) fun v s1 ⟨y,H1,I1,ry,a,C,d,ey,ea,xa,q⟩=>fu (wpAny_standAt (zd ?_))))
 subst ey
 obtain rfl:v=Value.ref a:=ry
 have fin:=hx pins σ H1 s1 a C d I1 ea q
 obtain ⟨⟨oc,od,odt,osl⟩,vs,g1,g2,g3,g4,g5,g6⟩:=f_ I1.hok ea
 simp only at g2 g3 g4
 subst g2 g3 g4
 obtain ⟨bm,xc⟩:=xa.cl
 obtain ⟨T,nm,q,N,bs,sn,sub,ab,col,dd,k0,k1,k2,k3,k5,hC⟩:=xc.at I1.kIn
 have hcB:(Value.ref C::bm).contains (.type "BaseException")=true:=by rw [List.contains_cons,T.hasType B_.hasBase,CZ]
 have hh:=I1.ok.hd hc
 obtain ⟨hp,g,dr,tk,os⟩:=s1
 repeat (first | with_reducible refine AH g1 ?_ | with_reducible refine AH hC ?_ | (with_reducible refine B5 hC ?_;rw [hcB]) | wp_step)
 rw [g6 rfl]
 refine zd ?_
 rw [if_neg (by decide)]
 exact zd (wpAny_raiseNew_none hh fin)
end
section
variable {prog:Program} {w:World} {A:Around} {E:Value→Shared→Prop} {s:Shared} {K:PySem.W.Frag} {C a:Addr} {bm:List Value} {oe:Obj} {od:Option Obj} {name:Str} {fill expr:Bool} {tk:Tok}
end
structure XCa (K:PySem.W.Frag) (C:Addr):Prop where
 at_:XAt K C
 ca:PySem.W.findIn K (.ref C) "__class__" = some (some (.builtin "object.__class__"))
 gt:PySem.W.specialIn K (.builtin "object.__class__") "__get__" = some (some (.builtin "getset_descriptor.__get__"))
 tk:PySem.W.takesIn K (.builtin "object.__class__")=some true
section
variable {X:Cx} {pins:List (Addr × Obj)} {σ:St} {H:Hp} {s:Shared} {A:Around} {E:Value→Shared→Prop} {a C dx:Addr} {b:Bool} {fs:List (Str × V)} {f:Str} {v:V}
end
section
variable {X:Cx} {e:Expr} {f:Str} {pos:Pos} {ta:TE}
end
section
variable {X:Cx} {pins:List (Addr × Obj)} {σ:St} {H:Hp} {s:Shared}
end
section
variable {M:Model} {A:Around} {E:Value→Shared→Prop} {s:Shared}
end
structure oE (P:Program) (w:World) (K:PySem.W.Frag) (mg:Str→Option Value) (base:Heap) (x:Str) (ps:List Str) (k:Nat) (sp:Sp):Prop where
 ex:∃ (f:Addr) (fd:FuncData),mg x=some (.ref f)∧PySem.W.keepIn K (.ref f)=true∧ff K fd ps []∧fj P w K mg base (CXe P w) k f fd ps sp
theorem Fnc.x {P:Program}{w:World}{K:PySem.W.Frag}{mg:Str→Option Value}{base:Heap}{x:Str}{ps:List Str}{k:Nat}{sp:Sp}(F:Fnc P w K mg base x ps k sp):oE P w K mg base x ps k sp :=
 let ⟨f,fd,a,b,c,d⟩:=F.ex;⟨f,fd,a,b,c,d.cx⟩
theorem Df.okX {P:Program}{w:World}{K:PySem.W.Frag}{mg:Str→Option Value}{base:Heap}{x:Str}{st:Stmt}{N ps:List Str}{k:Nat}{sp:Sp}(D:Df K mg x st)(S:aC N ps (af st))
  (hb:∀ (kV doc pm:Value) (an:Option Addr) (cdv ct:Value) (us:List Value),us.length=ps.length→bindArgs (PySem.W.fnOf x x (ay st) (ax st) (af st) .none kV doc pm an cdv ct) ⟨us,[]⟩=pure (ps.zip us))
  (len:∀ vs H Q E,sp vs H Q E→vs.length=ps.length)
  (hbody:∀ (f:Addr) (cdv:Value) (A:Around) (outer:List Env) (s:Shared) (H:Hp) (vs:List V) (Q:VK) (E:XK),cZ k (A.deeper (envOfC x (af st) s.heap.objs.size f cdv))→sp vs H Q E →
   ∃ t,PSs (jB (CXe P w) P w K mg base N x (af st) f cdv A outer s H E) (ax st) t∧t { nx:=fun _ H'=>Q .non H',rt:=Q } (start N vs) H):oE P w K mg base x ps (k+1) sp:=by
 obtain ⟨f,fd,hm,F⟩:=D.ex
 refine ⟨f,fd,hm,F.kp,F.binds hb,?_⟩
 obtain ⟨oc,od,kV,doc,pm,an,cdv,ct,osl,rfl,lk,hcd⟩:=F.ex
 exact uJ lk hcd S len fun A outer s H vs Q E hr hsp=>hbody f cdv A outer s H vs Q E hr hsp
section
variable {X:Cx} {E:XK} {x:Str} {ps:List Str} {k j:Nat} {sp:Sp} {e a b:Expr} {es:List Expr} {t:TA} {te tb:TE} {tt:TT} {p pos pos':Pos}
theorem rm (F:oE X.prog X.w X.K X.mg X.base x ps j sp)(hr:cZ k X.A)(hj:j≤k)(hx:gE (CXe X.prog X.w) X E)(hg:Gl X x)(ha:PA X (e::es) t)
  (hdb:(x == ("__debug__":Str))=false:=by decide) (he:starEach (e::es) X.env=(false,eval e X.env)::starEach es X.env:=by rfl) (hpl:(backTo pos (starEach es X.env)).any (·.1)=false:=by rfl) :
  PE X (.Call (.Name x p) (e::es) [] pos) (rP sp [] E t):=by
 obtain ⟨f,fd,hm,hk,hb,F⟩:=F.ex
 exact lL F (hr.mono hj) hg hm hk hb .nil hx ha hdb he hpl
end
section
variable {K:PySem.W.Frag} {C R N:Addr} {dd d0:Option Addr} {c0 oc:Value} {cd cdR:ClassData} {k0 k1 k2 k3 k5:Option Value} {sl sl':Array (Option Value)} {es:Array DictEntry} {n:Nat} {bm bm':List Value}
theorem ij:PySem.W.tailIn K bmV bmV=true:=by
 unfold PySem.W.tailIn
 rw [Cz];rfl
theorem sT (l:K.lookup N=some ⟨oc,d0,.dict es n,sl'⟩)(h:(es.toList.all fun e=>match e.key with | .str _ _=>true | _=>false)=true):PySem.W.nsOkIn K N=true:=by
 unfold PySem.W.nsOkIn;rw [l];dsimp only;rw [← Array.all_toList];exact h
theorem qf (l:K.lookup R=some ⟨c0,d0,.cls cdR,sl⟩)(ok:PySem.W.nsOkIn K cdR.ns=true)(ni:PySem.W.nsIn K cdR.ns "__init__" = some none)(t:PySem.W.tailIn K bmV bm=true):PySem.W.tailIn K bmV (.ref R::bm)=true:=by
 unfold PySem.W.tailIn
 simp only [l,ok,ni,t,Cz,Bool.and_self,CZ]
theorem rn (l:K.lookup C=some ⟨.type "type",dd,.cls cd,#[k0,k1,k2,k3,some (.builtin "ValueError.__new__"),k5]⟩)(m:cd.mro = .ref C::bm)(h1:cd.hasDel=false)(h2:cd.hasDict=true)(t:PySem.W.tailIn K bmV bm=true)(kp:PySem.W.keepIn K (.ref C)=true):XCl K C bm :=
 ⟨⟨dd,cd,k0,k1,k2,k3,k5,l,m,h1,h2⟩,t,kp⟩
end
def qg:List (Str × V)→List (Str × V)→List (Str × V)
 | acc,[]=>acc
 | acc,(f,y)::r=>qg (ku f y acc) r
inductive nK (names:List Str)(C:Addr)(vs:List V)(H:Hp)(Q:VK)(E:XK):Prop
 | mk:∀ a ys b,(vs = .ref a::ys)→(ys.length=names.length)→(H a=some (Exo a C none b))→(∀ dx,H dx=none→dx≠a→Q .non (upd (upd H a (Exo a C (some dx) b)) dx (Xdt dx (qg [] (names.zip ys)))))→nK names C vs H Q E
structure XMk (P:Program) (w:World) (K:PySem.W.Frag) (mg:Str→Option Value) (base:Heap) (x:Str) (C:Addr) (names:List Str) (k:Nat):Prop where
 at_:mg x=some (.ref C)
 ca:XCa K C
 no:∀ f∈names,PySem.W.findIn K (.ref C) f=some none
 ex:∃ (f:Addr) (fd:FuncData) (bm:List Value),XCl K C bm∧PySem.W.findIn K (.ref C) "__init__" = some (some (.ref f))∧PySem.W.isFn K (.ref f)=true∧ff K fd ("self" :: names) []∧fj P w K mg base CX0 k f fd ("self" :: names) (nK names C)
def xE (C:Addr)(names:List Str)(t:TA):TE:=fun σ H Q=>t σ H fun ys H1=>ys.length=names.length∧names.length≤900∧∀ a dx,H1 a=none→H1 dx=none→dx≠a →
 Q (.ref a) (upd (upd H1 a (Exo a C (some dx) true)) dx (Xdt dx (qg [] (names.zip ys))))
section
variable {X:Cx} {x:Str} {C:Addr} {names:List Str} {k j:Nat} {e:Expr} {es:List Expr} {t:TA} {p pos:Pos}
theorem sU (M:XMk X.prog X.w X.K X.mg X.base x C names j)(hr:cZ k X.A)(hj:j+1≤k)(hg:Gl X x)(ha:PA X (e::es) t)
  (hdb:(x == ("__debug__":Str))=false:=by decide) (he:starEach (e::es) X.env=(false,eval e X.env)::starEach es X.env:=by rfl) (hpl:(backTo pos (starEach es X.env)).any (·.1)=false:=by rfl) :
  PE X (.Call (.Name x p) (e::es) [] pos) (xE C names t):=by
 obtain ⟨f,fd,bm,xc,hi,hf,hb,F⟩:=M.ex
 intro pins s σ H Q I h
 refine wpAny_Call_Name_kw (dX I hg M.at_ ?_ hdb)
 refine PySem.W.callWith_K (h₀:=X.base) I.ok.mod.kin xc.kp (thn (ha pos pins s σ H _ I h) fun us s1 ⟨vs,H1,I1,r,hl,hn,q⟩=>⟨I1.kIn,?_⟩) he hpl
 refine nH (k:=j) xc hi hf F (hr.mono hj) hb I1 r ⟨by omega,fun a h0=>⟨a,vs,true,rfl,hl,ae ..,fun dx hdx ne=>⟨rfl,?_⟩⟩⟩
 rw [cW]
 exact q a dx h0 (by rw [aq ne] at hdx;exact hdx) ne
end
section
variable {K:PySem.W.Frag} {C dx a:Addr} {b:Bool} {H:Hp}
end
section
variable {X:Cx} {K:PySem.W.Frag} {e:Expr} {f:Str} {pos:Pos} {ta:TE}
end
section
variable {X:Cx} {E:XK} {e a b c:Expr} {te ta tb:TE} {tA:TT} {pos:Pos}
end
end L2
namespace Kx
open PySem PySem.Spec PyProof.Rows L2 Wd
end Kx
namespace L2
open PySem PySem.Spec PyProof.Rows Wd
section
variable {X:Cx}
end
end L2
namespace Kx
open PySem PySem.Spec PyProof.Rows L2 Wd
def oL (o:Option (List L)):List V:=o.toList.map tx
theorem at1 {α:Type}(a b:α)(t:List α):atI (a::b::t) (1:Int)=some b:=lO (j:=1) rfl
theorem at2 {α:Type}(a b c:α)(t:List α):atI (a::b::c::t) (2:Int)=some c:=lO (j:=2) rfl
end Kx
namespace Ts
open PySem PyProof.Rows
@[reducible] def intK:KeyKind where
 α:=Int
 blt a b:=decide (a < b)
 irrefl a:=by simp
 trans a b c h1 h2:=by simp only [Ba] at *;omega
 negTrans a b c h:=by simp only [Ba] at *;omega
 total a b h1 h2:=by simp only [decide_eq_false_iff_not] at *;omega
 keyOf v:=match v with | .int x _=>some x | _=>none
 dflt:=0
theorem fx:intK.OneLt:=by
 intro prog w A E s x y a b Q ha hb h
 cases x <;> simp only [intK,reduceCtorEq,Option.some.injEq] at ha
 cases y <;> simp only [intK,reduceCtorEq,Option.some.injEq] at hb
 cases ha;cases hb
 exact oneLt_int h
def iOf:Value→Int
 | .int x _=>x
 | _=>0
theorem cM:∀ {vs:List Value} {ns:List Int},IntsAre vs ns→∀ v,v∈vs→∃ x t,v = .int x t
 | _,_,.nil,v,hv=>by simp at hv
 | _,_,.cons x t h,v,hv=>by
  rcases zt.mp hv with rfl | hv
  ·exact ⟨x,t,rfl⟩
  ·exact cM h v hv
theorem nM:∀ {vs:List Value} {ns:List Int},IntsAre vs ns→vs.map iOf=ns
 | _,_,.nil=>rfl
 | _,_,.cons x t h=>by rw [A0,nM h];rfl
theorem kf:∀ (vs:List Value),(∀ v,v∈vs→∃ x t,v = .int x t)→IntsAre vs (vs.map iOf)
 | [],_=>.nil
 | v::vs,h=>by
  obtain ⟨x,t,rfl⟩:=h v (zP ..)
  exact .cons x t (kf vs fun u hu=>h u (Ac _ hu))
theorem ik {vs:List Value}{ns:List Int}(hI:IntsAre vs ns):KeysOf intK (pairsOf vs):=by
 intro p hp
 rw [pairsOf_toList] at hp
 obtain ⟨x,t,e⟩:=cM hI _ (mem_zip_self hp).2
 exact ⟨x,by rw [e]⟩
theorem rq {xs:Array Keyed}{i:Nat}(hi:i < xs.size){x:Int}{t:Tok}{q:Value}(hx:xs[i]=(.int x t,q)):KK intK xs i=x:=by
 unfold KK;rw [CY xs i hi,hx];rfl
theorem eN {vs:List Value}{ns:List Int}(hI:IntsAre vs ns){xs:Array Keyed}(hp:xs.Perm (pairsOf vs))(hs:SortedToK intK xs (pairsOf vs).size) :
  ∃ ms,IntsAre (xs.map (·.2)).toList ms∧ms.Perm ns∧ms.Pairwise (· ≤ ·):=by
 have hl:xs.toList.Perm (vs.zip vs):=by rw [← pairsOf_toList];exact AX.mp hp
 have hmem:∀ p,p∈xs.toList→p.1=p.2∧p.1∈vs:=fun p hp'=>mem_zip_self (hl.mem_iff.mp hp')
 refine ⟨xs.toList.map (fun p=>iOf p.1),?_,?_,?_⟩
 ·have e:(xs.map (·.2)).toList=xs.toList.map (·.1):=by
   rw [Array.toList_map];exact AV fun p hp'=>(hmem p hp').1.symm
  rw [e]
  have h1:=kf (xs.toList.map (·.1)) (by
   intro v hv
   obtain ⟨p,hp',rfl⟩:=zK.mp hv
   exact cM hI _ (hmem p hp').2)
  rwa [Ak] at h1
 ·have h1:=hl.map (fun p=>iOf p.1)
  have e2:(vs.zip vs).map (fun p=>iOf p.1)=ns:=by
   have:(vs.zip vs).map (fun p=>iOf p.1)=((vs.zip vs).map Prod.fst).map iOf:=by rw [Ak];rfl
   rw [this,CA (zu _),nM hI]
  rwa [e2] at h1
 ·rw [Bo]
  intro i j hi hj hij
  have hi':i < xs.size:=by simpa using hi
  have hj':j < xs.size:=by simpa using hj
  have h1:=hs i j (Nat.le_of_lt hij) (by rw [← hp.size_eq];exact hj')
  obtain ⟨x,t,ex⟩:=cM hI _ (hmem xs[i] (by simp)).2
  obtain ⟨y,u,ey⟩:=cM hI _ (hmem xs[j] (by simp)).2
  rw [rq hi' (x:=x) (t:=t) (q:=xs[i].2) (Prod.ext ex rfl),rq hj' (x:=y) (t:=u) (q:=xs[j].2) (Prod.ext ey rfl)] at h1
  change decide (y < x)=false at h1
  simp only [List.getElem_map,Array.getElem_toList]
  rw [show iOf xs[i].1=x by rw [ex];rfl,show iOf xs[j].1=y by rw [ey];rfl]
  simpa using h1
end Ts
namespace L2
open PySem PySem.Spec PyProof.Rows Wd Ts
section
variable {prog:Program} {w:World} {A:Around} {E:Value→Shared→Prop} {s:Shared}
theorem jf {l:Addr}{vs:List Value}{Q:List Value→Shared→Prop}(hl:s.heap.IsTuple l vs.toArray)
  (h:Q vs { s with heap:=(s.heap.push (seqObj "list" #[] 0)).update s.heap.objs.size (Obj.mapSeq (· ++ vs.toArray)) }) (hsz:vs.length≤sizeLine:=by size_fits) :
  wpAny (model prog w) A (collect (.ref l)) Q E s:=by
 obtain ⟨o,ho,hc,n,hd⟩:=id hl
 unfold collect
 refine fu (wpAny_runValue (AU entry_proto_collect' ?_))
 show wpAny _ _ (do again (.builtin "list.__iadd__" ⟨[← newList [],.ref l],[]⟩)) _ _ s
 refine fu (BX (zd ⟨BC _ (by decide +kernel),AU entry_list_iadd' ?_⟩))
 show wpAny _ _ (Builtin.List.listExtendWith (.ref s.heap.objs.size) (.ref l) (.ref s.heap.objs.size)) _ _ { s with heap:=s.heap.push (seqObj "list" #[] 0) }
 unfold Builtin.List.listExtendWith
 have ho':(s.heap.push (seqObj "list" #[] 0)).get? l=some o:=y9 _ ho
 refine fu (wpAny_typeOf (T:="tuple") ⟨o,ho',hc⟩ ?_)
 have ht:(Value.type "tuple" == Value.type "tuple")=true:=by rfl
 rw [if_pos (by rw [ht];simp)]
 refine fu (listItems_at ho' hd ?_)
 refine fu (listItems_at (xs:=#[]) (n:=0) (zj _ rfl) rfl ?_)
 rw [if_neg (by simp)]
 refine fu (Cs (xs:=#[]) (n:=0) (zj _ rfl) rfl ?_ (AG _) (by show (#[]++vs.toArray).size≤sizeLine+1;simp only [Array.size_append,Ah,B0];omega))
 refine zd ?_
 show wpAny (model prog w) A (do
   let o ← load s.heap.objs.size
   match o.data with
   | .seq xs _=>pure xs.toList
   | _=>unsupported "internal:collect") Q E { s with heap:=(s.heap.push (seqObj "list" #[] 0)).update s.heap.objs.size (Obj.mapSeq (· ++ vs.toArray)) }
 refine fu (wpAny_load (get?_update_seq (zj _ rfl) _) ?_)
 show wpAny _ _ (pure ((#[]:Array Value)++vs.toArray).toList) Q E _
 rw [show ((#[]:Array Value)++vs.toArray).toList=vs by simp]
 exact zd h
theorem il {l:Addr}{vs:List Value}{ns:List Int}{Q:Value→Shared→Prop}(hl:s.heap.IsList l vs.toArray ∨ s.heap.IsTuple l vs.toArray)(hI:IntsAre vs ns)(lim:vs.length≤sizeLine)
  (q:∀ (out:Array Value) (zs:List Int),IntsAre out.toList zs→zs.Perm ns→zs.Pairwise (· ≤ ·)→Q (.ref (s.heap.objs.size+1)) { s with heap:=sortedAll s.heap vs out }) :
  wpAny (model prog w) A (call (.builtin "sorted") [.ref l]) Q E s:=by
 refine Calls.call_function_entry kind_sorted plain_sorted entry_sorted (args_sorted1 _) ?_
 unfold Builtin.«sorted»
 rcases hl with hl | hl
 ·refine fu (m:=checkCount "sorted" 1 1 _) (zd (fu (collect_list hl (fu (BX ?_)) (hsz:=lim))))
  have z1:((s.heap.push (seqObj "list" #[] 0)).update s.heap.objs.size (Obj.mapSeq (· ++ vs.toArray))).objs.size=s.heap.objs.size+1:=(Heap.size_update ..).trans (size_push' ..)
  have g:(((s.heap.push (seqObj "list" #[] 0)).update s.heap.objs.size (Obj.mapSeq (· ++ vs.toArray))).push (seqObj "list" vs.toArray 0)).get? (s.heap.objs.size+1)=some (seqObj "list" vs.toArray 0):=z1 ▸ zj _ rfl
  show wpAny _ _ _ _ _ { s with heap:=((s.heap.push (seqObj "list" #[] 0)).update s.heap.objs.size (Obj.mapSeq (· ++ vs.toArray))).push (seqObj "list" vs.toArray 0) }
  rw [z1]
  refine fu (zY (As slot_list_sort ⟨_,g,rfl⟩ entry_list_sort (Ts.j0 fx g (ik hI) (fun x y r e=>keyKind_ints (by rw [← e];exact hI)) lim fun st a1 a2=>⟨_,rfl,?_⟩) (args_list_sort _)))
  obtain ⟨zs,h1,h2,h3⟩:=eN hI a1 a2
  exact zd ⟨_,rfl,q _ zs h1 h2 h3⟩
 ·refine fu (m:=checkCount "sorted" 1 1 _) (zd (fu (jf hl (fu (BX ?_)) (hsz:=lim))))
  have z1:((s.heap.push (seqObj "list" #[] 0)).update s.heap.objs.size (Obj.mapSeq (· ++ vs.toArray))).objs.size=s.heap.objs.size+1:=(Heap.size_update ..).trans (size_push' ..)
  have g:(((s.heap.push (seqObj "list" #[] 0)).update s.heap.objs.size (Obj.mapSeq (· ++ vs.toArray))).push (seqObj "list" vs.toArray 0)).get? (s.heap.objs.size+1)=some (seqObj "list" vs.toArray 0):=z1 ▸ zj _ rfl
  show wpAny _ _ _ _ _ { s with heap:=((s.heap.push (seqObj "list" #[] 0)).update s.heap.objs.size (Obj.mapSeq (· ++ vs.toArray))).push (seqObj "list" vs.toArray 0) }
  rw [z1]
  refine fu (zY (As slot_list_sort ⟨_,g,rfl⟩ entry_list_sort (Ts.j0 fx g (ik hI) (fun x y r e=>keyKind_ints (by rw [← e];exact hI)) lim fun st a1 a2=>⟨_,rfl,?_⟩) (args_list_sort _)))
  obtain ⟨zs,h1,h2,h3⟩:=eN hI a1 a2
  exact zd ⟨_,rfl,q _ zs h1 h2 h3⟩
end
section
variable {X:Cx}
theorem ip:∀ {ns:List Int} {us:List Value},aY (ns.map V.int) us→IntsAre us ns
 | [],_,.nil=>.nil
 | n::ns,_,.cons r t=>by
  obtain ⟨t',rfl⟩:=r
  exact .cons n t' (ip t)
theorem dG:∀ {us:List Value} {ns:List Int},IntsAre us ns→aY (ns.map V.int) us
 | _,_,.nil=>.nil
 | _,_,.cons n t h=>.cons ⟨t,rfl⟩ (dG h)
inductive bI (K:PySem.W.Frag)(xs:List V)(H:Hp)(Q:VK):Prop
 | mk:∀ (l:Addr) (ys:List Int),(xs=[.ref l])→((SqL K H l (ys.map V.int) ∨ SqT K H l (ys.map V.int)))→(∀ (p:Addr) (zs:List Int),H p=none→zs.Perm ys→zs.Pairwise (· ≤ ·)→Q (.ref p) (upd H p (.lst (zs.map V.int))))→bI K xs H Q
theorem bV {K:PySem.W.Frag}(hK:X.K=K):b8 X (.builtin "sorted") (bI K):=by
 subst hK
 intro pins s σ H xs us Q I r h
 obtain ⟨l,ys,rfl,hq,q⟩:=h
 obtain ⟨u,rfl,ru⟩:=bW r
 cases ru
 obtain ⟨its,rv,pl,hz⟩:∃ its,aY (ys.map V.int) its∧(s.heap.IsList l its.toArray ∨ s.heap.IsTuple l its.toArray)∧(ys.map V.int).length≤sizeLine:=by
  rcases hq with hq | hq
  ·obtain ⟨its,rv,pl,hz⟩:=I.list hq
   exact ⟨its,rv,.inl pl.isList,hz⟩
  ·obtain ⟨its,rv,pl,hz⟩:=I.tuple hq
   exact ⟨its,rv,.inr pl,hz⟩
 have hS:=ip rv
 have hlen:its.length=ys.length:=by rw [← rv.length,zl]
 rw [zl] at hz
 refine il pl hS (by omega) fun out zs hO hp hs=>?_
 obtain ⟨e,he⟩:=sortedAll_at s.heap its out
 have I2:Inv X pins σ (upd H (s.heap.objs.size+1) (.lst (zs.map V.int))) { s with heap:=sortedAll s.heap its out,toks:=s.toks } :=
  I.laid (fun b o e=>sortedAll_old e) (B2 _) ⟨by rw [zl,hp.length_eq];exact hz,out.toList,e,dG hO,by simpa [seqObj] using he⟩
 exact ⟨.ref (s.heap.objs.size+1),_,I2,rfl,q _ zs (I.hok.fresh (B2 _)) hp hs⟩
end
end L2
namespace PySem
open Sem (wp)
def ddi (val:Nat→Int):Nat→List Int
 | 0=>[]
 | i+1=>if val i∈ddi val i then ddi val i else ddi val i++[val i]
theorem nN (val:Nat→Int):∀ i,(ddi val i).length≤i
 | 0=>zu _
 | i+1=>by
  have ih:=nN val i
  unfold ddi
  split
  ·omega
  ·rw [zk,A6];omega
theorem eO (val:Nat→Int):∀ i,(ddi val i).Nodup
 | 0=>by unfold ddi;exact List.nodup_nil
 | i+1=>by
  unfold ddi
  split
  ·exact eO val i
  ·rename_i h
   exact Bj.mpr ⟨eO val i,B6.mpr ⟨zv,List.nodup_nil⟩,fun a ha b hb e=>h (by rw [zc] at hb;subst hb;subst e;exact ha)⟩
theorem nO (val:Nat→Int)(z:Int):∀ i,z∈ddi val i ↔ ∃ j,j < i∧val j=z
 | 0=>by unfold ddi;simp
 | i+1=>by
  have ih:=nO val z i
  unfold ddi
  split
  ·rename_i h
   rw [ih]
   constructor
   ·rintro ⟨j,hj,e⟩;exact ⟨j,by omega,e⟩
   ·rintro ⟨j,hj,e⟩
    by_cases q:j=i
    ·subst q
     rw [← e]
     rw [e] at h ⊢
     exact ih.mp h
    ·exact ⟨j,by omega,e⟩
  ·rw [zN,ih,zc]
   constructor
   ·rintro (⟨j,hj,e⟩ | e)
    ·exact ⟨j,by omega,e⟩
    ·exact ⟨i,by omega,e.symm⟩
   ·rintro ⟨j,hj,e⟩
    by_cases q:j=i
    ·subst q;exact .inr e.symm
    ·exact .inl ⟨j,by omega,e⟩
section
variable {prog:Program} {w:World} {A:Around} {E:Value→Shared→Prop} {s:Shared}
def iq (prog:Program)(w:World)(h:Heap)(a:Addr)(dl:List Int):Prop :=
 ∃ o es ep t,h.get? a=some o∧o.ExactSet∧o.data = .set es ep t∧ElemsOf (intKind prog w) es.toList∧(∀ k,k∈dl ↔ ∃ e∈es.toList,(intKind prog w).is k e.2=true)∧es.size < scanBound∧t.fits es.size=true∧es.size=dl.length∧t.led=ldr w
theorem yg {a:Addr}{o:Obj}{es es1:Array (Int × Value)}{ep:Nat}{t t2:SetTable}{dl:List Int}(ho:s.heap.get? a=some o)(hex:o.ExactSet)(hd:o.data = .set es ep t)(hel:ElemsOf (intKind prog w) es1.toList)
  (hm:∀ k,k∈dl ↔ ∃ e∈es1.toList,(intKind prog w).is k e.2=true) (hb:es1.size < scanBound) (hf:t2.fits es1.size=true) (hn:es1.size=dl.length) (hld:t2.led=ldr w) :
  (s.heap.update a (Obj.putSet es1 t2)).get? a=some { o with data:=.set es1 (ep+1) t2 }∧iq prog w (s.heap.update a (Obj.putSet es1 t2)) a dl:=by
 have hg:(s.heap.update a (Obj.putSet es1 t2)).get? a=some { o with data:=.set es1 (ep+1) t2 }:=by
  have q:=Av (Obj.putSet es1 t2) ho (by rw [putSet_of es1 t2 hd];rfl)
  rwa [putSet_of es1 t2 hd] at q
 exact ⟨hg,_,es1,ep+1,t2,hg,hex,rfl,hel,hm,hb,hf,hn,hld⟩
theorem yV {a:Addr}{dl:List Int}{z:Int}{u:Tok}{Q:Bool→Shared→Prop}(hS:iq prog w s.heap a dl)(hroom:dl.length+1 < scanBound)
  (h:∀ h' b,Heap.SameBut a s.heap h'→iq prog w h' a (if z∈dl then dl else dl++[z])→Q b { s with heap:=h' }) :
  wpAny (model prog w) A (setAddHashed a (.int z u) ((intKind prog w).hash z)) Q E s:=by
 obtain ⟨o,es,ep,t,ho,hex,hd,hel,hm,hb,hf,hn,hld⟩:=hS
 have hkey:(intKind prog w).is z (.int z u)=true:=intKind_is prog w z u
 have hsc:(Value.int z u).scannable=true:=rfl
 unfold setAddHashed setAddHashedIn
 refine zY (fu (wpAny_setState_of ho hd hf ?_))
 dsimp only
 rw [byScan_of (knd:=intKind prog w) hsc hb hel]
 simp only [↓reduceIte]
 unfold setAddByScan
 refine fu (fu (AB (fu (wpAny_setScan_of (knd:=intKind prog w) hkey ho hd hf hel ?_))))
 cases hr:List.findIdx? (fun e=>(intKind prog w).is z e.2) es.toList with
 | some j =>
  dsimp only
  obtain ⟨hj,hpj,_⟩:=List.findIdx?_eq_some_iff_getElem.mp hr
  have hz:z∈dl:=(hm z).mpr ⟨es.toList[j],zL hj,hpj⟩
  refine zd (zd ?_)
  have q:=h s.heap false (Heap.SameBut.refl a s.heap) (by rw [if_pos hz];exact ⟨o,es,ep,t,ho,hex,hd,hel,hm,hb,hf,hn,hld⟩)
  have e:s={ s with heap:=s.heap }:=by cases s;rfl
  rw [e];exact q
 | none =>
  dsimp only
  have hz:z∉dl:=fun hz=>by
   obtain ⟨e,he,hp⟩:=(hm z).mp hz
   have q:=List.findIdx?_eq_none_iff.mp hr e he
   rw [hp] at q
   cases q
  have hq:∀ h',Heap.SameBut a s.heap h'→iq prog w h' a (dl++[z])→Q true { s with heap:=h' }:=fun h' sb hs=>h h' true sb (by rw [if_neg hz];exact hs)
  have hperm:=layNew_perm t es ((intKind prog w).hash z) (.int z u)
  have hfits:=layNew_fits t es ((intKind prog w).hash z) (.int z u)
  have hl1:(layNew t es ((intKind prog w).hash z) (.int z u)).2.1.led=ldr w:=kK.trans hld
  generalize hL:layNew t es ((intKind prog w).hash z) (.int z u)=L at hperm hfits hl1 ⊢
  obtain ⟨es1,t1,wasDummy,gave⟩:=L
  dsimp only at hperm hfits hl1 ⊢
  rw [A8] at hperm
  have hel1:ElemsOf (intKind prog w) es1.toList:=(hel.push hkey hsc).perm hperm
  have hm1:∀ k,k∈dl++[z] ↔ ∃ e∈es1.toList,(intKind prog w).is k e.2=true:=fun k=>by
   rw [← mem_push_iff (knd:=intKind prog w) (S:=fun k=>decide (k∈dl)) hkey (fun k=>by rw [Cb];exact hm k) hperm k]
   simp
  have hsz1:es1.size=(dl++[z]).length:=by rw [← ze,hperm.length_eq,zk,ze,hn,zk];rfl
  have hb1:es1.size < scanBound:=by rw [hsz1,zk];exact hroom
  have tail:∀ t2:SetTable,t2.led=ldr w→t2.fits es1.size=true→wpAny (model prog w) A (do
    storeSet a es1 t2
    if (!wasDummy && t2.tooFull)=true then do
      (match (relayAll t2 es1 (SetTable.grown es1.size)).2.2 with | true=>rule "set.scan.the-table-gave-way" | false=>pure ())
      storeSet a (relayAll t2 es1 (SetTable.grown es1.size)).1 (relayAll t2 es1 (SetTable.grown es1.size)).2.1
      pure (some true)
     else pure (some true)) (fun r s'=>wpAny (model prog w) A (match r with | some added=>pure added | none=>setAddHashedIn a (.int z u) ((intKind prog w).hash z) 99999) Q E s') E s:=fun t2 hd2 hf2=>by
   refine fu (wpAny_storeSet_of ho hd ?_ (fits_of_scanBound hb1))
   obtain ⟨ho1,hS1⟩:=yg ho hex hd hel1 hm1 hb1 hf2 hsz1 hd2
   have hsb1:=Bv s.heap a (Obj.putSet es1 t2)
   split
   ·have hp:=relayAll_perm t2 es1 (SetTable.grown es1.size)
    have hfr:=relayAll_fits t2 es1 (SetTable.grown es1.size)
    have hof2:=(h_ (t:=t2) (es:=es1) (w:=SetTable.grown es1.size)).trans hd2
    generalize relayAll t2 es1 (SetTable.grown es1.size)=Rl at hp hfr hof2 ⊢
    obtain ⟨es2,t3,gave2⟩:=Rl
    dsimp only at hp hfr hof2 ⊢
    have hsz:es2.size=es1.size:=by rw [← ze,hp.length_eq,ze]
    have go:wpAny (model prog w) A (storeSet a es2 t3 >>= fun _=>pure (some true)) (fun r s'=>wpAny (model prog w) A (match r with | some added=>pure added | none=>setAddHashedIn a (.int z u) ((intKind prog w).hash z) 99999) Q E s') E { s with heap:=s.heap.update a (Obj.putSet es1 t2) }:=by
     refine fu (wpAny_storeSet_of ho1 rfl ?_ (fits_of_scanBound (by rw [hsz];exact hb1)))
     obtain ⟨_,hS2⟩:=yg (s:={ s with heap:=s.heap.update a (Obj.putSet es1 t2) }) ho1 hex rfl (hel1.perm hp) (fun k=>(hm1 k).trans ⟨fun zq2=>(by obtain ⟨e,he,q⟩:=zq2;exact ⟨e,hp.mem_iff.mpr he,q⟩),fun zq1=>(by obtain ⟨e,he,q⟩:=zq1;exact ⟨e,hp.mem_iff.mp he,q⟩)⟩) (by rw [hsz];exact hb1) hfr (hsz.trans hsz1) hof2
     exact zd (zd (hq _ (hsb1.trans (Bv _ a _)) hS2))
    cases gave2
    ·exact fu (zd go)
    ·exact fu (AB go)
   ·exact zd (zd (hq _ hsb1 hS1))
  have rest:wpAny (model prog w) A (do
    let byValue ← if t1.plain=true then hashByValue 8 (.int z u) else pure true
    storeSet a es1 (if byValue=true then t1 else { t1 with plain:=false })
    if (!wasDummy && (if byValue=true then t1 else { t1 with plain:=false }:SetTable).tooFull)=true then do
      (match (relayAll (if byValue=true then t1 else { t1 with plain:=false }) es1 (SetTable.grown es1.size)).2.2 with | true=>rule "set.scan.the-table-gave-way" | false=>pure ())
      storeSet a (relayAll (if byValue=true then t1 else { t1 with plain:=false }) es1 (SetTable.grown es1.size)).1 (relayAll (if byValue=true then t1 else { t1 with plain:=false }) es1 (SetTable.grown es1.size)).2.1
      pure (some true)
     else pure (some true)) (fun r s'=>wpAny (model prog w) A (match r with | some added=>pure added | none=>setAddHashedIn a (.int z u) ((intKind prog w).hash z) 99999) Q E s') E s:=by
   by_cases hp1:t1.plain=true
   ·rw [if_pos hp1]
    refine fu ?_
    rw [hashByValue_scannable 8 hsc]
    refine zd ?_
    exact tail t1 hl1 hfits
   ·rw [if_neg hp1]
    refine fu (zd ?_)
    exact tail t1 hl1 hfits
  cases gave
  ·exact fu (zd rest)
  ·exact fu (AB rest)
theorem iq.at {h h':Heap}{a:Addr}{dl:List Int}(hS:iq prog w h a dl)(k:∀ o,h.get? a=some o→h'.get? a=some o):iq prog w h' a dl:=by
 obtain ⟨o,es,ep,t,ho,r⟩:=hS
 exact ⟨o,es,ep,t,k o ho,r⟩
section
variable {R:Result→Shared→Prop} {I:Addr} {fp wr:List Addr} {G:Array GenState→Array GenState→Prop} {n:Nat} {P:Nat→Value→Prop} {St:Nat→Shared→Prop}
theorem yW (W:WalksS prog w A.in1 I fp wr G n P St)(S:Addr)(hSf:S∉fp)(val:Nat→Int)(hval:∀ i v,P i v→∃ t,v = .int (val i) t)(hb:n+1 < scanBound) :
  ∀ (k i:Nat) (s:Shared),n - i=k→i≤n→St i s→iq prog w s.heap S (ddi val i)→(∀ s',Moved (S::wr) G s s'→iq prog w s'.heap S (ddi val n)→R (.ok (.ret .none)) s') →
   codeAny (model prog w) A (.builtin "set.update.loop" ⟨[.ref S,.ref I],[]⟩) R s:=by
 have nw:S∉wr:=fun q=>hSf (W.sub _ q)
 have sub:∀ b∈wr,b∈S::wr:=fun b q=>Ac _ q
 intro k
 induction k with
 | zero =>
  intro i s hk hi st hS hR
  obtain rfl:i=n:=by omega
  refine AU Bq ?_
  rw [A7 AQ _]
  show wpAny _ A.in1 (pyNext (.ref I) >>= _) _ _ s
  refine fu (W.done s _ _ st fun s' mv=>?_)
  show wpAny _ A.in1 (ret Value.none) _ _ s'
  exact zd (hR s' (mv.mono sub) (hS.at fun o q=>mv.heap S o nw q))
 | succ k ih =>
  intro i s hk hi st hS hR
  have hlt:i < n:=by omega
  refine AU Bq ?_
  rw [A7 AQ _]
  show wpAny _ A.in1 (pyNext (.ref I) >>= _) _ _ s
  refine fu (W.item i s _ _ hlt st fun v s' hP st' mv=>?_)
  obtain ⟨u,rfl⟩:=hval i v hP
  have hS':iq prog w s'.heap S (ddi val i):=hS.at fun o q=>mv.heap S o nw q
  show wpAny _ A.in1 (holding [Value.int (val i) u] (setAdd S (.int (val i) u)) >>= _) _ _ s'
  refine fu (zY ?_)
  unfold setAdd
  refine zY (fu ((intKind prog w).pyHash (k:=val i) (intKind_is _ _ _ _) ?_))
  have hl:=nN val i
  refine yV (s:={ s' with toks:=s'.toks+1 }) hS' (by omega) fun h' b sb hS2=>?_
  refine zd ⟨Cp AQ _,ih (i+1) _ (by omega) hlt (W.frame _ s' _ _ st' (B2 _) fun c hc o q=>?_) (by unfold ddi;exact hS2) fun s'' mv2 hS3=>?_⟩
  ·rw [sb.2 c (fun e:c=S=>hSf (e ▸ hc))];exact q
  ·refine hR s'' (Moved.trans W.gtrans ((mv.mono sub).then_heap (B2 _) fun c o hc q=>?_) mv2) hS3
   rw [sb.2 c (fun e:c=S=>hc (e ▸ zP))];exact q
end
set_option maxHeartbeats 3200000 in
theorem nP {l:Addr}{its:Array Value}{val:Nat→Int}{Q:Value→Shared→Prop}(hh:A.handled=none)(hl:s.heap.IsList l its)(hval:∀ (i:Nat) (v:Value),its[i]? = some v→∃ t,v = .int (val i) t)(hb:its.size+1 < scanBound)
  (h:∀ (h':Heap) (tk:Nat),iq prog w h' s.heap.objs.size (ddi val its.size)→(∀ b o,b < s.heap.objs.size→s.heap.get? b=some o→h'.get? b=some o)→Q (.ref s.heap.objs.size) { s with heap:=h',toks:=tk }) :
  wpAny (model prog w) A (call (.type "set") [.ref l]) Q E s:=by
 obtain ⟨c,tl,hmro⟩:=F.called_set.mro
 have hmade:=F.called_set.made
 have hsub:=F.called_set.sub
 refine CU (CH ?_)
 show wpAny _ _ (callAny (.type "set") _) _ _ _
 refine zd ⟨BC _ (by decide +kernel),AU F.entry_type_call ?_⟩
 rw [Around.under_plain (weight_type_call_type "set" [.ref l] []) rfl]
 have x1:=F.called_set.notType
 have x2:=F.called_set.canCreate
 have x3:=F.typeCall_set_1 (.ref l)
 repeat (any_goals (first | assumption | wp_step))
 refine Ca (fS (.ref l) (E:=E) (Q₁:=fun ob s1=>ob = .ref s.heap.objs.size∧s1={ s with heap:=s.heap.push (sob (ldr w)) }) ⟨rfl,rfl⟩) fun r s1 hr=>?_
 cases r with
 | error e=>exact hr
 | ok fl =>
  cases fl with
  | ret ob =>
   obtain ⟨rfl,rfl⟩:=hr
   have gS:(s.heap.push (sob (ldr w))).get? s.heap.objs.size=some (sob (ldr w)):=zj _ rfl
   have hT:Shared.TypeIs { s with heap:=s.heap.push (sob (ldr w)) } (.ref s.heap.objs.size) "set":=⟨_,gS,rfl⟩
   have x4:=F.called_set.init.lookup
   have x5:=F.called_set.init.bind (.ref s.heap.objs.size)
   repeat (any_goals (first | assumption | wp_step))
   refine Ca (BW (R:=wants (fun r s2=>r = .none∧∃ h' tk,s2={ s with heap:=h',toks:=tk }∧iq prog w h' s.heap.objs.size (ddi val its.size)∧(∀ b o,b < s.heap.objs.size→s.heap.get? b=some o→h'.get? b=some o)) E) F.called_set.init.plain F.entry_set_init (check_set_init_1 hT ?_)) fun r2 s2 hr2=>?_
   ·obtain ⟨⟨oc,od,odt,osl⟩,gl,hc,nl,hd⟩:=hl
    simp only at hc hd
    subst hc;subst hd
    have gl':(s.heap.push (sob (ldr w))).get? l=some { cls:=.type "list",dict:=od,data:=.seq its nl,slots:=osl }:=y9 _ gl
    have y1:=F.sub_list_set
    have y2:=F.sub_list_frozenset
    have y3:(Value.type "list" == Value.type "dict")=false:=by decide
    have L1:(s.heap.push (sob (ldr w))).IsList l its:=⟨_,gl',rfl,nl,rfl⟩
    unfold Builtin.«set.__init__» noKeywords Builtin.Frozenset.updateFrom
    generalize hPI:pyIter=PI
    wp_walk
    subst hPI
    refine BI L1 (fu (wpAny_runValue ?_))
    have llt:l < s.heap.objs.size:=zw gl
    have z1:(s.heap.push (sob (ldr w))).objs.size=s.heap.objs.size+1:=zU ..
    have nI:l≠(s.heap.push (sob (ldr w))).objs.size:=by rw [z1];exact z3 (Nat.lt_succ_of_lt llt)
    have nf:s.heap.objs.size∉[(s.heap.push (sob (ldr w))).objs.size,l]:=by
     rw [z1];simp only [zt,zc,zv,Aw,not_or]
     exact ⟨z3 (Nat.lt_succ_self _),AN llt⟩
    refine yW ((Walks.list (by simp [hh]) _ l nI its).toS) s.heap.objs.size nf val hval hb (its.size - 0) 0 _ (by omega) (AG _) ⟨⟨_,zj _ rfl,rfl,rfl⟩,L1.push _⟩ ?s0 ?rr
    case s0=>exact ⟨_,#[],0,_,y9 _ gS,⟨rfl,rfl,rfl⟩,rfl,fun e he=>by simp at he,fun k=>by simp [ddi],by decide,by rfl,rfl,rfl⟩
    case rr =>
     intro s' mv hS'
     obtain ⟨h',g',d',tk',os'⟩:=s'
     obtain rfl:g'=s.gens:=mv.gens
     obtain rfl:d'=s.drawn:=mv.drawn
     obtain rfl:os'=s.os:=mv.os
     show wpAny _ _ _ _ _ _
     refine zd ?_
     show wpAny _ _ (ret Value.none) _ _ _
     refine zd ⟨rfl,h',tk',rfl,hS',fun b o hlt e=>mv.heap b o ?_ (y9 _ (y9 _ e))⟩
     simp only [zt,zc,zv,Aw,not_or]
     exact ⟨z3 hlt,by rw [z1];exact z3 (Nat.lt_succ_of_lt hlt)⟩
   ·cases r2 with
    | error e=>exact hr2
    | ok fl2 =>
     cases fl2 with
     | ret r =>
      obtain ⟨rfl,h',tk,rfl,hS',hk'⟩:=hr2
      repeat (any_goals (first | assumption | wp_step))
      exact h _ _ hS' hk'
     | _=>exact hr2.elim
  | _=>exact hr.elim
end
end PySem
namespace L2
open PySem PySem.Spec PyProof.Rows Wd
section
variable {X:Cx}
def SiO (P:Program)(w:World)(a:Addr)(dl:List Int):HO:=.ext fun h=>iq P w h a dl
theorem iq.lay {P:Program}{w:World}{H:Hp}{h:Heap}{a:Addr}{dl:List Int}(x:iq P w h a dl):a_ P w H h a (SiO P w a dl):=by
 refine ⟨x,?_,fun h1 h2 y k=>y.at k⟩
 obtain ⟨o,_,_,_,e,_⟩:=x
 exact ⟨o,e⟩
inductive cm (K:PySem.W.Frag)(P:PySem.Program)(w:PySem.World)(xs:List V)(H:Hp)(Q:VK):Prop
 | mk:∀ (l:Addr) (ys:List Int),(xs=[.ref l])→(SqL K H l (ys.map V.int))→(ys.length≤4000)→(∀ (p:Addr) (dl:List Int),H p=none→dl.Nodup→(∀ z,z∈dl ↔ z∈ys)→Q (.ref p) (upd H p (SiO P w p dl)))→cm K P w xs H Q
theorem gc (hc:X.calm=true):b8 X (.type "set") (cm X.K X.prog X.w):=by
 intro pins s σ H xs us Q I r h
 obtain ⟨l,ys,rfl,hq,hz,q⟩:=h
 obtain ⟨u,rfl,ru⟩:=bW r
 cases ru
 obtain ⟨its,rv,pl,_⟩:=I.list hq
 have hlen:its.length=ys.length:=by rw [← rv.length,zl]
 have hat:∀ (i:Nat) (v:Value),its.toArray[i]? = some v→∃ t,v = .int (ys.getD i 0) t:=fun i v e=>by
  rw [List.getElem?_toArray] at e
  have hi:i < ys.length:=by
   have:=(zf.mp e).1
   omega
  obtain ⟨u,eu,t,rfl⟩:=rv.get (i:=i) (x:=.int ys[i]) (by rw [zH,y_ hi];rfl)
  rw [e] at eu
  cases eu
  exact ⟨t,by rw [zi,y_ hi];rfl⟩
 refine nP (I.ok.hd hc) pl.isList hat (by rw [Ah,hlen];show _ < 4096;omega) fun h' tk hS k=>?_
 refine ⟨.ref s.heap.objs.size,_,I.laid (fun b o e=>k b o (zw e) e) (zu _) (iq.lay hS),rfl,q _ _ (I.hok.fresh (zu _)) (eO _ _) fun z=>?_⟩
 rw [nO,Ah,hlen]
 constructor
 ·rintro ⟨j,hj,rfl⟩
  rw [zi,y_ hj]
  exact zL _
 ·intro hm
  obtain ⟨j,hj,e⟩:=List.mem_iff_getElem.mp hm
  exact ⟨j,hj,by rw [zi,y_ hj];exact e⟩
inductive cN (P:PySem.Program)(w:PySem.World)(xs:List V)(H:Hp)(Q:VK):Prop
 | mk:∀ (a:Addr) (dl:List Int),(xs=[.ref a])→(H a=some (SiO P w a dl))→(Q (.int (dl.length:Int)) H)→cN P w xs H Q
theorem jg:b8 X (.builtin "len") (cN X.prog X.w):=by
 intro pins s σ H xs us Q I r h
 obtain ⟨a,dl,rfl,ha,q⟩:=h
 obtain ⟨u,rfl,ru⟩:=bW r
 cases ru
 have hS:iq X.prog X.w s.heap a dl:=(I.hok a _ ha).1
 obtain ⟨o,es,ep,t,ho,hex,hd,hel,hm,hb,hf,hn,hld⟩:=hS
 have hb:es.size < 4096:=hb
 refine call_len_set ho hex hd hf (by omega) ?_
 rw [hn]
 exact ⟨.int (dl.length:Int),H,(I.tok _).tok _,⟨_,rfl⟩,q⟩
end
end L2
namespace PySem
open Sem (wp)
open AutoSeq1 (wpAny_loadPart')
section
variable {prog:Program} {w:World} {A:Around} {E:Value→Shared→Prop} {s:Shared}
end
end PySem
namespace L2
open PySem PySem.Spec PyProof.Rows Wd
section
variable {X:Cx}
end
end L2
namespace Kx
open PySem PySem.Spec PyProof.Rows L2 Wd
inductive Nd (H:Hp)(N:Nat):V→Prop
 | flat {x:V} (f:wL x=true):Nd H N x
 | tup {a:Addr} {xs:List V} (h:H a=some (.tup xs)) (hl:xs.length≤N) (p:∀ y∈xs,Nd H N y):Nd H N (.ref a)
 | lst {a:Addr} {xs:List V} (h:H a=some (.lst xs)) (hl:xs.length≤N) (p:∀ y∈xs,Nd H N y):Nd H N (.ref a)
theorem Nd.mono {H H':Hp}{N:Nat}(st:∀ a xs,H a=some (.tup xs)→H' a=some (.tup xs))(sl:∀ a xs,H a=some (.lst xs)→H' a=some (.lst xs)){x:V}(h:Nd H N x):Nd H' N x:=by
 induction h with
 | flat f=>exact .flat f
 | tup h hl p ih=>exact .tup (st _ _ h) hl ih
 | lst h hl p ih=>exact .lst (sl _ _ h) hl ih
theorem Nd.same {H H':Hp}{N:Nat}(s:az H H'){x:V}(h:Nd H N x):Nd H' N x:=h.mono (fun _ _ e=>s _ _ e) fun _ _ e=>s _ _ e
theorem Nd.wh {K:PySem.W.Frag}{H:Hp}{N:Nat}{x:V}(h:Nd H N x):Wh K H x:=by
 cases h with
 | flat f =>
  cases x with
  | non=>exact .mk .non xt xu rfl
  | bl b=>exact .mk (.bl b) xq xr rfl
  | int i=>exact .mk (.int i) xm xo rfl
  | str z=>exact .mk (.str z) xv xw rfl
  | _=>cases f
 | tup h hl p=>exact .mk (.tup h) xA xB rfl
 | lst h hl p=>exact .mk (.lst h) xx xy rfl
inductive Rl (K:PySem.W.Frag)(H:Hp):V→Option (List V)→Prop
 | tup {a:Addr} {xs:List V} (h:H a=some (.tup xs)) (hl:xs.length≤2000) (p:∀ y∈xs,Nd H 2000 y):Rl K H (.ref a) (some xs)
 | oth {x:V} {n:String} (ty:fC K H x (.type n)) (e:PySem.W.kitOne K (.type n) (.type "tuple")=some false):Rl K H x none
theorem Rl.same {K:PySem.W.Frag}{H H':Hp}(s:az H H'){x:V}{o:Option (List V)}(h:Rl K H x o):Rl K H' x o:=by
 cases h with
 | tup h hl p=>exact .tup (s _ _ h) hl fun y hy=>(p y hy).same s
 | oth ty e=>exact .oth (ty.same s fun C=>by intro z;cases z) e
def vI:V→Int
 | .int i=>i
 | _=>0
def rng (n:Nat):List Int:=(List.range n).map fun i:Nat=>(i:Int)
def vJ (xs:List V):Bool:=decide (1≤xs.length) && (decide (xs.length≤1001) && (xs.all whV && decide ((xs.map vI).Perm (rng xs.length))))
def kR:Option (List V)→Bool
 | some xs=>vJ xs
 | none=>false
def lenO:Option (List V)→Nat
 | some xs=>xs.length
 | none=>0
theorem whs {xs:List V}(h:xs.all whV=true):xs=(xs.map vI).map V.int:=by
 rw [Ak]
 conv=>lhs;rw [← List.map_id xs]
 refine AV fun y hy=>?_
 have:=AY.mp h y hy
 cases y with
 | int i=>rfl
 | _=>cases this
theorem jh {a b:List Int}(ha:a.Pairwise (· ≤ ·))(hb:b.Pairwise (· ≤ ·))(p:a.Perm b):a=b :=
 p.eq_of_pairwise (fun x y _ _ h1 h2=>Int.le_antisymm h1 h2) ha hb
theorem vK (n:Nat):(rng n).Pairwise (· ≤ ·):=by
 unfold rng
 rw [List.pairwise_map]
 refine List.Pairwise.imp (R:=fun a b=>a < b) (fun h=>by omega) List.pairwise_lt_range
theorem fy {zs ys:List Int}{n:Nat}(p:zs.Perm ys)(u:zs.Pairwise (· ≤ ·)):decide (zs=rng n)=decide (ys.Perm (rng n)):=CB.mpr ⟨fun e=>by rw [← e]; exact p.symm,fun q=>jh u (vK n) (p.trans q)⟩
def dI (ns:List Int):List PyData:=ns.map .int
theorem eP {H:Hp}:∀ ns:List Int,Dts H (ns.map V.int) (dI ns)
 | []=>.nil
 | n::ns=>.cons (.int n) (eP ns)
theorem eQ:∀ ns:List Int,PyData.canLayAll0 (dI ns)=true
 | []=>rfl
 | n::ns=>eQ ns
theorem ji:∀ ns:List Int,PyData.depthAll (dI ns)=0
 | []=>rfl
 | n::ns=>by show max 0 (PyData.depthAll (dI ns))=0;rw [ji ns];rfl
theorem nQ:∀ a b:List Int,PyData.eqv (.list (dI a)) (.list (dI b))=decide (a=b):=by
 have all:∀ a b:List Int,PyData.eqvAll (dI a) (dI b)=decide (a=b):=by
  intro a
  induction a with
  | nil=>intro b;cases b <;> simp [dI,PyData.eqvAll]
  | cons x a ih =>
   intro b
   cases b with
   | nil=>simp [dI,PyData.eqvAll]
   | cons y b =>
    show (PyData.eqv (.int x) (.int y) && PyData.eqvAll (dI a) (dI b))=_
    rw [ih b]
    show ((x == y) && decide (a=b))=_
    rw [Bool.eq_iff_iff,Bool.and_eq_true,beq_iff_eq,Ba,Ba,List.cons.injEq]
 intro a b
 show PyData.eqvAll (dI a) (dI b)=_
 exact all a b
def vL (m:Nat)(os:List (Option (List V))):Bool:=decide (os.length=m) && (os.all kR && os.all fun o=>decide (lenO o=lenO (os.headD none)))
inductive Tq (K:PySem.W.Frag)(H:Hp):V→(Nat→Bool)→Prop
 | tup {a:Addr} {xs:List V} {os:List (Option (List V))} (h:H a=some (.tup xs)) (hl:xs.length≤2000) (r:Lk (Rl K H) xs os):Tq K H (.ref a) (fun m=>vL m os)
 | oth {x:V} {n:String} (ty:fC K H x (.type n)) (e:PySem.W.kitOne K (.type n) (.type "tuple")=some false):Tq K H x (fun _=>false)
inductive jj (K:PySem.W.Frag)(vs:List V)(H:Hp)(Q:VK)(u3_:XK):Prop
 | mk:∀ x o,(vs=[x])→(Rl K H x o)→(∀ H',az H H'→Q (.bl (kR o)) H')→jj K vs H Q u3_
inductive jk (K:PySem.W.Frag)(vs:List V)(H:Hp)(Q:VK)(u3_:XK):Prop
 | mk:∀ (m:Nat) (x:V) (b:Nat→Bool),(vs=[.int (m:Int),x])→(1≤m)→(Tq K H x b)→(∀ H',az H H'→Q (.bl (b m)) H')→jk K vs H Q u3_
theorem sV {dl ls:List Int}(nd:dl.Nodup)(m:∀ z,z∈dl ↔ z∈ls){x:Int}{r:List Int}(e:ls=x::r):decide (dl.length=1)=ls.all fun y=>decide (y=x):=by
 have hx:x∈dl:=(m x).mpr (by rw [e];exact zP)
 rw [Bool.eq_iff_iff,Ba,AY]
 constructor
 ·intro h y hy
  obtain ⟨z,hz⟩:=List.length_eq_one_iff.mp h
  have h1:=(m y).mpr hy
  rw [hz,zc] at h1 hx
  rw [h1,← hx]
  simp
 ·intro h
  have all:∀ y∈dl,y=x:=fun y hy=>by have:=h y ((m y).mp hy);simpa using this
  match dl,nd,hx,all with
  | [],_,hx,_=>cases hx
  | [_],_,_,_=>rfl
  | a::b::t,nd,_,all =>
   have e1:=all a (by simp)
   have e2:=all b (by simp)
   exact absurd (by rw [e1,e2];simp) (B6.mp nd).1
structure FdC (H:Hp) (d c:Addr):Prop where
 ex:∃ (i l t:Int) (ns:List Int),H d=some (.dK (fkv c i l t))∧H c=some (.lst (ns.map V.int))∧ns≠[]∧ns.length≤64
theorem FdC.fd {H:Hp}{d c:Addr}(F:FdC H d c):Fd H d:=let ⟨i,l,t,ns,h1,h2,h3,h4⟩:=F.ex; ⟨c,i,l,t,ns,h1,h2,h3,h4⟩
theorem yX {H:Hp}{d:Addr}(F:Fd H d):∃ c,FdC H d c:=let ⟨c,i,l,t,ns,h1,h2,h3,h4⟩:=F.ex; ⟨c,i,l,t,ns,h1,h2,h3,h4⟩
inductive jl (vs:List V)(H:Hp)(Q:VK)(u3_:XK):Prop
 | mk:∀ (d:Addr) (m:Int) (c:Addr),(vs=[.ref d,.int m])→(FdC H d c)→(0 < m)→(m < 1000000)→(∀ (r:Int) (H':Hp),0≤r→r < m→FdC H' d c→bX d H H'→Q (.int r) H')→jl vs H Q u3_
theorem jm {P:Program}{w:World}{K:PySem.W.Frag}{mg:Str→Option Value}{base:Heap}{ps:List Str}{k:Nat}(h:Fnc P w K mg base "_law_draw" ps k jl):Fnc P w K mg base "_law_draw" ps k g_:=by
 obtain ⟨f,fd,h1,h2,h3,h4⟩:=h.ex
 refine ⟨f,fd,h1,h2,h3,h4.imp fun vs H Q E q=>?_⟩
 obtain ⟨d,m,e,F,m0,m1,k⟩:=q
 obtain ⟨c,Fc⟩:=yX F
 exact ⟨d,m,c,e,Fc,m0,m1,fun r H' h0 h1 F' s'=>k r H' h0 h1 F'.fd s'⟩
inductive nR (vs:List V)(H:Hp)(Q:VK)(u3_:XK):Prop
 | mk:∀ (a:Addr) (y:V) (m n:Nat) (t:List (List Nat)) (ws:List (List L)),(vs=[.ref a,y])→(H a=some (.tup (ws.map tx)))→(kP H y t)→(Tb m n t)→(1≤m)→(m≤6)→(n≤1001)→((∀ v∈ws,InM m v∧v.length≤5000))→((∀ H',az H H'→Wd.pV n t ws→Q .non H'))→((∀ (k:Nat) (v:List L) H',az H H'→Wd.pV n t (ws.take k)→ws[k]? = some v→¬ Wd.pV n t [v]→Q (.int (k:Int)) H'))→nR vs H Q u3_
def oD:Option Nat→PyData
 | some k=>.int (k:Int)
 | none=>.none
inductive gf (vs:List V)(H:Hp)(Q:VK)(u3_:XK):Prop
 | mk:∀ (d:Addr) (m n:Int),(vs=[.ref d,.int m,.int n])→(Fd H d)→(1≤m)→(m≤6)→(4≤n)→(n≤40)→(∀ (u:List L) (H':Hp),u.length≤60→InM m.toNat u→Fd H' d→bX d H H'→Q (tx u) H')→gf vs H Q u3_
theorem nS {q:Int}(h0:0≤q)(h6:q < 6):∃ x:L,x.val=q.toNat∧atI ("abcdef":Str).cps.toList q=some (cp x):=by
 have hk:q.toNat < 6:=by omega
 refine ⟨⟨q.toNat,by omega⟩,rfl,?_⟩
 rw [← pD]
 refine dj (k:=q.toNat) (by omega) ?_
 exact sm6 ⟨q.toNat,hk⟩
theorem qh:∀ x:L,(inv x).val % 6=x.val % 6:=by decide
theorem sW (x:L){q:Int}(h0:0≤q)(h2:q < 2):∃ y:L,y.val % 6=x.val % 6∧atI [tx [x],tx [inv x]] q=some (tx [y]):=by
 have:q=0 ∨ q=1:=by omega
 rcases this with rfl | rfl
 ·exact ⟨x,rfl,rfl⟩
 ·exact ⟨inv x,qh x,rfl⟩
end Kx
namespace Wd
theorem InM.app9 {n:Nat}{u v:List L}(h:InM n u)(g:InM n v):InM n (u++v):=fun y hy=>by
 rcases zN.mp hy with q | q
 ·exact h y q
 ·exact g y q
theorem InM.one9 {n:Nat}{x:L}(h:x.val % 6 < n):InM n [x]:=fun z hz=>by rw [zc] at hz; subst hz; exact h
theorem InM.take9 {n k:Nat}{u:List L}(h:InM n u):InM n (u.take k):=fun x hx=>h x (AD hx)
theorem InM.drop9 {n k:Nat}{u:List L}(h:InM n u):InM n (u.drop k):=fun x hx=>h x (AK hx)
theorem InM.rep9 {n:Nat}{u:List L}(h:InM n u):∀ k,InM n (rep k u)
 | 0=>fun x hx=>by cases hx
 | k+1=>fun x hx=>by
  rcases zN.mp hx with q | q
  ·exact h.rep9 k x q
  ·exact h x q
end Wd
namespace L2
open PySem PySem.Spec PyProof.Rows Wd
section
variable {X:Cx}
end
def uk:Sp:=fun _ _ _ _=>False
theorem Df.never {P:Program}{w:World}{K:PySem.W.Frag}{mg:Str→Option Value}{base:Heap}{x:Str}{st:Stmt}{ps:List Str}{k:Nat}(D:Df K mg x st)
  (hb:∀ (kV doc pm:Value) (an:Option Addr) (cdv ct:Value) (us:List Value),us.length=ps.length→bindArgs (PySem.W.fnOf x x (ay st) (ax st) (af st) .none kV doc pm an cdv ct) ⟨us,[]⟩=pure (ps.zip us)):Fnc P w K mg base x ps k uk:=by
 obtain ⟨f,fd,hm,F⟩:=D.ex
 exact ⟨f,fd,hm,F.kp,F.binds hb,⟨fun _ _ _ _ h=>h.elim,fun _ _ _ _ _ _ _ _ _ _ _ _ _ h=>h.elim⟩⟩
end L2
namespace Kx
open PySem PySem.Spec PyProof.Rows L2 Wd
theorem du {n:Nat}(h:n≤16777216):n≤sizeLine:=by rw [bj]; exact h
theorem wo {t u:TS}{D:gv}{σ:L2.St}{H:Hp}(h:t D σ H):iU t u D σ true H:=pk h
theorem qi {t u:TS}{D:gv}{σ:L2.St}{H:Hp}(h:u D σ H):iU t u D σ false H:=oA h
theorem yh {u:TT}{σ:L2.St}{Q:Bool→Hp→Prop}{H:Hp}(h:Q true H):ly u σ Q true H:=pk h
theorem sX {u:TT}{σ:L2.St}{Q:Bool→Hp→Prop}{H:Hp}(h:u σ H Q):ly u σ Q false H:=oA h
theorem xF {u:TT}{σ:L2.St}{Q:Bool→Hp→Prop}{H:Hp}(h:u σ H Q):iS u σ Q true H:=pk h
theorem xG {u:TT}{σ:L2.St}{Q:Bool→Hp→Prop}{H:Hp}(h:Q false H):iS u σ Q false H:=oA h
def sY (n:Nat)(t:List (List Nat)):List (List L)→Nat→Option Nat
 | [],_=>none
 | v::r,k=>if mvd n t v=[] then sY n t r (k+1) else some k
theorem jn {n:Nat}{t:List (List Nat)}{v:List L}:mvd n t v=[] ↔ Wd.pV n t [v]:=by
 unfold mvd
 rw [List.filter_eq_nil_iff]
 constructor
 ·intro h u hu i hi
  rw [zc] at hu
  subst hu
  have:=h i (AO.mpr hi)
  simpa using this
 ·intro h i hi
  have:=h v (zc.mpr rfl) i (AO.mp hi)
  simpa using this
theorem ir {n:Nat}{t:List (List Nat)}:∀ {ws:List (List L)} {k:Nat},Wd.pV n t ws→sY n t ws k=none
 | [],_,_=>rfl
 | v::r,k,h=>by
  unfold sY
  rw [if_pos (jn.mpr fun u hu=>h u (by rw [zc] at hu;rw [hu];exact zP))]
  exact ir fun u hu=>h u (Ac _ hu)
theorem ix {n:Nat}{t:List (List Nat)}:∀ {ws:List (List L)} {j k:Nat} {v:List L},Wd.pV n t (ws.take k)→ws[k]? = some v→¬ Wd.pV n t [v]→sY n t ws j=some (j+k)
 | [],_,_,_,_,e,_=>by simp at e
 | v::r,j,0,u,_,e,h=>by
  simp at e
  subst e
  unfold sY
  rw [if_neg fun q=>h (jn.mp q)]
  rfl
 | v::r,j,k+1,u,F,e,h=>by
  unfold sY
  rw [if_pos (jn.mpr fun u hu=>F u (by rw [zc] at hu;rw [hu,List.take_succ_cons];exact zP))]
  rw [ix (k:=k) (fun u hu=>F u (by rw [List.take_succ_cons];exact Ac _ hu)) (by simpa using e) h]
  congr 1
  omega
def bU (n:Nat)(t:List (List Nat))(ws:List (List L))(w:List L)(s:Nat):Option (Str × Nat) :=
 match sY n t ws 0 with
 | some k=>some ("ring",k)
 | none=>if ledN t s w=s then some ("seat",0) else none
def bJ (n:Nat)(t:List (List Nat))(ws:List (List L))(w:List L)(s:Nat):Option (Str × Nat):=if n≤1001 then bU n t ws w s else some ("shape",0)
theorem vM {K:PySem.W.Frag}{H:Hp}{x:V}{n:Nat}{r:List Nat}(h:uh H x r)(P:PN n r)(hn:n≤2000):Rl K H x (some (iv r)):=by
 obtain ⟨a,rfl,ha⟩:=h
 refine .tup ha (by rw [aA,P.len];exact hn) fun y hy=>?_
 unfold iv at hy
 obtain ⟨i,_,rfl⟩:=zK.mp hy
 exact .flat rfl
theorem vN {n:Nat}{r:List Nat}(P:PN n r)(h1:1≤n):kR (some (iv r))=decide (n≤1001):=by
 show vJ (iv r)=_
 unfold vJ
 rw [aA,P.len,zx h1,Bk]
 have hw:(iv r).all whV=true:=by
  rw [AY]
  intro y hy
  unfold iv at hy
  obtain ⟨i,_,rfl⟩:=zK.mp hy
  rfl
 have hp:decide (((iv r).map vI).Perm (rng n))=true:=by
  refine zx ?_
  unfold iv rng
  rw [Ak]
  exact List.Perm.map _ P
 rw [hw,hp,CQ,CQ]
theorem xH {K:PySem.W.Frag}{H:Hp}{x:V}{m n:Nat}{t:List (List Nat)}(h:kP H x t)(T:Tb m n t)(m1:1≤m)(m6:m≤6)(n1:1≤n)(n2:n≤2000):∃ b,Tq K H x b∧b m=decide (n≤1001):=by
 obtain ⟨a,xs,rfl,ha,rs⟩:=h
 have hl:xs.length=t.length:=rs.len
 have lk:Lk (Rl K H) xs (t.map fun r=>some (iv r)):=⟨by rw [zl,hl],fun i x e=>by
  obtain ⟨r,h1,h2⟩:=rs.at_ i x e
  exact ⟨some (iv r),by rw [zH,h1];rfl,vM h2 (T.row r (zO h1)) n2⟩⟩
 refine ⟨_,.tup ha (by rw [hl,T.len];omega) lk,?_⟩
 show vL m (t.map fun r=>some (iv r))=_
 unfold vL
 rw [zl,T.len,zx rfl,Bk]
 have e0:∀ r∈t,kR (some (iv r))=decide (n≤1001):=fun r hr=>vN (T.row r hr) n1
 cases t with
 | nil=>have:=T.len;simp at this;omega
 | cons r0 t' =>
  have e1:(((r0::t').map fun r=>some (iv r)).all kR)=decide (n≤1001):=by
   rw [BN]
   by_cases h:n≤1001
   ·rw [zx h,AY]
    intro r hr
    show kR (some (iv r))=true
    rw [e0 r hr,zx h]
   ·rw [zC h,CO]
    show (kR (some (iv r0)) && _)=false
    rw [e0 r0 zP,zC h,Cg]
  have e2:(((r0::t').map fun r=>some (iv r)).all fun o=>decide (lenO o=lenO (((r0::t').map fun r=>some (iv r)).headD none)))=true:=by
   rw [BN,AY]
   intro r hr
   show decide ((iv r).length=(iv r0).length)=true
   rw [aA,aA,(T.row r hr).len,(T.row r0 zP).len]
   exact zx rfl
  rw [e1,e2,CQ]
inductive gh (vs:List V)(H:Hp)(Q:VK)(u3_:XK):Prop
 | mk:∀ (a:Addr) (x y z:V),(vs=[.ref a])→(H a=some (.tup [x,y,z]))→(Q (.bl false) H)→gh vs H Q u3_
inductive gj (vs:List V)(H:Hp)(Q:VK)(u3_:XK):Prop
 | mk:∀ (a:Addr) (y:V) (m n s:Nat) (t:List (List Nat)),(vs=[.int (m:Int),.ref a])→(H a=some (.tup [.str "seats",y,.int (s:Int)]))→(kP H y t)→(Tb m n t)→(1≤m)→(m≤6)→(n≤1002)→(s < n)→(∀ H',az H H'→Q (.bl (decide (n≤1001))) H')→gj vs H Q u3_
def XP (C:Addr)(H:Hp)(a:Addr)(z:Str)(k:Nat):Prop:=∃ dx,H a=some (Exo a C (some dx) false)∧H dx=some (Xdt dx [("word",.str z),("at",.int (k:Nat))])
inductive jo (C:Addr)(vs:List V)(H:Hp)(Q:VK)(E:XK):Prop
 | mk:∀ (r:Addr) (y:V) (m n s:Nat) (t:List (List Nat)) (ws:List (List L)) (w:List L),(vs=[.ref r,tx w,y,.int (s:Int)])→(H r=some (.tup (ws.map tx)))→(kP H y t)→(Tb m n t)→(1≤m)→(m≤6)→(n≤1001)→(s < n)→(InM m w)→(w.length≤5000)→((∀ v∈ws,InM m v∧v.length≤5000)) →
   (bU n t ws w s=none→∀ H',az H H'→Q .non H')→(∀ z k,bU n t ws w s=some (z,k)→∀ a H',XP C H' a z k→az H H'→E (.ref a) none H')→jo C vs H Q E
inductive jq (C:Addr)(vs:List V)(H:Hp)(Q:VK)(E:XK):Prop
 | mk:∀ (r a:Addr) (y:V) (m n s:Nat) (t:List (List Nat)) (ws:List (List L)) (w:List L),(vs=[.int (m:Int),.ref r,tx w,.ref a])→(H a=some (.tup [.str "seats",y,.int (s:Int)]))→(H r=some (.tup (ws.map tx)))→(kP H y t)→(Tb m n t)→(1≤m)→(m≤6)→(n≤1002)→(s < n)→(InM m w)→(w.length≤5000)→((∀ v∈ws,InM m v∧v.length≤5000)) →
   (bJ n t ws w s=none→∀ H',az H H'→Q (.bl true) H')→(∀ z k,bJ n t ws w s=some (z,k)→∀ a H',XP C H' a z k→az H H'→E (.ref a) none H')→jq C vs H Q E
end Kx
namespace L2
open PySem PySem.Spec PyProof.Rows Wd
def um (z:Str):It:=⟨fun i _=>i < z.cps.size,fun i H v H'=>∃ (T:Addr) (c:Nat),H T=none∧v = .ref T∧z.cps[i]? = some c∧H'=upd H T (.tup [.int i,.str ⟨#[c]⟩]),fun i _=>i=z.cps.size⟩
theorem qj {P:Program}{w:World}{K:PySem.W.Frag}{elts:List Expr}{k:Nat}{pos:Pos}{e it:Addr}{z:Str}{t:Tok}(hne:e≠it) :
  qI P w K (.Tuple elts k pos) (um z) [e,it] e (fun i h=>(∃ old,IsEnum h e it i old)∧ue h it z t i) where
 mem:=by simp
 obj:=fun i h st b hb=>by
  obtain ⟨⟨old,s1⟩,⟨o,s2,_,d2⟩⟩:=st
  simp only [zt,zv,Aw] at hb
  rcases hb with rfl | rfl
  ·exact ⟨_,s1,fun v q=>by cases q⟩
  ·exact ⟨_,s2,fun v q=>by rw [d2] at q;cases q⟩
 keep:=fun i h h' st kk=>by
  obtain ⟨⟨old,s1⟩,⟨o2,s2,r2⟩⟩:=st
  exact ⟨⟨old,kk e (by simp) _ s1⟩,⟨o2,kk it (by simp) _ s2,r2⟩⟩
 item:=by
  intro X hP hw hK hc i pins s σ H E I hf st hg
  subst hP hw hK
  have hg:i < z.cps.size:=hg
  obtain ⟨⟨old,s1⟩,s2⟩:=st
  refine h9 (x:=.str ⟨#[z.cps[i]]⟩) (tn:=fun i h=>(∃ old,IsEnum h e it i old)∧ue h it z t i) (Cf (by exact I.ok.hd hc) it z t) I hf s1 s2 hg hne (by simp only [zt,zv,Aw];exact hne)
   (fun u2 h2=>?_) (let ⟨o,q,_⟩:=s2;⟨o,q⟩) (fun T hT=>⟨T,z.cps[i],hT,rfl,by simp [hg],rfl⟩) fun h' st' ho=>⟨by simpa using ho,st'⟩
  obtain ⟨c,u,hc2,rfl⟩:=h2
  rw [Ao hg] at hc2
  cases hc2
  exact ⟨_,rfl⟩
 done:=by
  intro X hP hw hK hc i pins s σ H E I hf st hg
  subst hP hw hK
  have hg:i=z.cps.size:=hg
  subst hg
  obtain ⟨⟨old,s1⟩,s2⟩:=st
  obtain ⟨f0,f1,f2,f3,f4,f5⟩:=hf it (by simp)
  exact wpAny_pyNext_enum_endD (Cf (by exact I.ok.hd hc) it z t) s1 s2 fun h' eb=>⟨rfl,I.turned (t':=s.toks) (fun b o hb q=>eb b o hb q) f0 f1 f3 f4 f5⟩
 self:=fun _ _ _ _ _ st h=>let ⟨⟨_,s1⟩,_⟩:=st;BK s1 h
section
variable {X:Cx}
inductive rz (R:It→Hp→Prop)(vs:List V)(H1:Hp):Prop
 | mk:∀ z:Str,vs=[.str z]→z.cps.all (· < 128)=true→R (um z) H1→rz R vs H1
def yY (ta:TA):TI:=fun σ H R=>ta σ H (rz R)
theorem vO {a:Expr}{ta:TA}{p pos tp:Pos}{elts:List Expr}{k:Nat}(hg:Gl X "enumerate")(hm:X.mg "enumerate" = none)(hb:bootBuiltins "enumerate" = some (.type "enumerate"))(ha:PA X [a] ta)(hs:starEach [a] X.env=[(false,eval a X.env)]:=by rfl) :
  PI X (.Tuple elts k tp) (.Call (.Name "enumerate" p) [a] [] pos) (yY ta):=by
 intro pins s σ H R I h
 refine Call_ (cy I hg hm hb (Ax (thn (ha pos pins s σ H _ I h) fun us s1 zq1=>?_) hs rfl))
 obtain ⟨vs,H1,I1,r1,q1⟩:=zq1
 obtain ⟨z,rfl,za,q⟩:=q1
 obtain ⟨u1,rfl,ru⟩:=bW r1
 obtain ⟨t,rfl⟩:=ru
 refine call_enumerate_str fun h' b1 b2 b3 b4=>?_
 have I2:Inv X pins σ H1 { s1 with heap:=h',toks:=s1.toks }:=I1.kept b4
 have b2':ue h' s1.heap.objs.size z t 0:=by
  unfold strIterType at b2
  rw [za] at b2
  exact b2
 exact BK (s:={ s1 with heap:=h',toks:=s1.toks }) b1 ⟨s1.heap.objs.size+1,[s1.heap.objs.size+1,s1.heap.objs.size],_,um z,H1,rfl,I2,qj (Nat.succ_ne_self _),⟨⟨_,b1⟩,b2'⟩,fp2 I1,q⟩
end
theorem sZ {z:Str}{g:TG}{tb:TS}{D:gv}{σ:St}{H:Hp}(Pv:Nat→St→Hp→Prop)(h0:Pv 0 σ H)
  (hs:∀ i c σ H T,z.cps[i]? = some c→Pv i σ H→H T=none→g (.ref T) σ (upd H T (.tup [.int i,.str ⟨#[c]⟩])) fun σ2 H2=>tb { D with nx:=Pv (i+1),ct:=Pv (i+1),bk:=D.nx } σ2 H2) (hd:∀ σ H,Pv z.cps.size σ H→D.nx σ H) :
  ∃ W:Nat→Nat→St→Hp→Prop,(∃ m,W 0 m σ H)∧∀ i m σ H,W i m σ H →
   ((um z).stop i H∧D.nx σ H) ∨ ((um z).go i H∧∃ N:St→Hp→Prop,(∀ σ' H',N σ' H'→∃ m',m' < m∧W (i+1) m' σ' H')∧∀ x H',(um z).yld i H x H'→g x σ H' fun σ2 H2=>tb { D with nx:=N,ct:=N,bk:=D.nx } σ2 H2):=by
 refine ⟨fun i m σ H=>m=z.cps.size - i∧i≤z.cps.size∧Pv i σ H,⟨z.cps.size,by simp,AG _,h0⟩,?_⟩
 rintro i m σ H ⟨rfl,hi,p⟩
 by_cases hlt:i < z.cps.size
 ·refine .inr ⟨hlt,Pv (i+1),fun σ' H' p'=>⟨z.cps.size - (i+1),by omega,rfl,hlt,p'⟩,?_⟩
  rintro v H' ⟨T,c,hT,rfl,hx,rfl⟩
  exact hs i c σ _ T hx p hT
 ·obtain rfl:i=z.cps.size:=by omega
  exact .inl ⟨rfl,hd σ H p⟩
end L2
namespace PySem
open Sem (wp)
section
variable {prog:Program} {w:World} {A:Around} {E:Value→Shared→Prop} {s:Shared} {z TI TO i1 i2:Addr} {k n1 n2:Nat} {a b:Value} {fp1 fp2:List Addr} {P1 P2:Nat→Value→Prop} {S1 S2:Nat→Heap→Prop} {f0:Value} {fb:Bool}
theorem nU {Q:Value→Shared→Prop}(D1:Draws prog w A i1 fp1 n1 P1 S1)(D2:Draws prog w A i2 fp2 n2 P2 S2)(D:Ap5 z TI TO i1 i2)(B:Ap2 z TO i1 i2 fp1 fp2)(hf:f0 = .none ∨ ∃ n:Nat,f0=rawInt n)
  (hz:dJ s.heap z TI TO f0 fb) (hTI:IsPair s.heap TI (.ref i1) (.ref i2)) (hTO:IsPair s.heap TO a b) (h1:S1 k s.heap) (h2:S2 k s.heap) (hx:k < n1) (hy:k < n2)
  (hQ:∀ h' tk v1 v2 f0' fb',P1 k v1→P2 k v2→(f0'=Value.none ∨ ∃ n:Nat,f0'=rawInt n)→dJ h' z TI TO f0' fb'→(∃ a b,IsPair h' TO a b)→S1 (k+1) h'→S2 (k+1) h'→IsPair h' s.heap.objs.size v1 v2 →
   (∀ e o,e≠z→e≠TO→e≠i1→e≠i2→s.heap.get? e=some o→h'.get? e=some o)→h'.objs.size=s.heap.objs.size+1→Q (.ref s.heap.objs.size) { s with heap:=h',toks:=tk }) :
  wpAny (model prog w) A (Builtin.«zip.__next__» ⟨[.ref z],[]⟩) (fun fin s'=>∃ v,fin = .done (.ret v)∧Q v s') E s:=by
 show wpAny _ _ (field (.ref z) 2 >>= _) _ _ _
 refine fu (zF hz rfl (x:=.bool false) rfl ?_)
 show wpAny _ _ (field (.ref z) 3 >>= _) _ _ _
 refine fu (zF hz rfl (x:=.ref TI) rfl (fu (zR hTI rfl ?_)))
 show wpAny _ _ (Builtin.SmallTypes.ownedTupleIsFree (.ref z) >>= _) _ _ _
 refine fu ?_
 unfold Builtin.SmallTypes.ownedTupleIsFree
 rcases hf with rfl | ⟨n,rfl⟩
 ·refine fu (zF hz rfl (x:=.none) rfl (zd ?_))
  simp only [Bf]
  refine fu (AB (fu (zF hz rfl (x:=.ref TO) rfl (fu (zy hz (by simp) fun g1 hz1 e1=>?_)))))
  have hz1:dJ g1 z TI TO .ellipsis fb:=hz1
  refine fu ?_
  simp only [AZ,Bh,Ay,AI]
  refine fu (fu (Az ?_))
  show wpAny _ _ (Builtin.SmallTypes.nextOf (.ref i1) >>= _) _ _ _
  refine fu (D1.item k _ _ _ hx (D1.frame _ _ _ h1 fun q hq o eq=>e1.extBut _ _ (fun zz=>B.z1 (zz ▸ hq)) eq) fun v1 g2 tk2 p1 j1 e2=>zd ?_)
  have o2:IsPair g2 TO a b:=e2.extBut _ _ D.TOi1 (e1.extBut _ _ D.TOz hTO)
  refine fu (zR o2 rfl (fu (Ab o2 fun g3 o3 e3=>fu (Bb (zd ?_)))))
  have o3:IsPair g3 TO v1 b:=o3
  refine fu (fu (Az ?_))
  show wpAny _ _ (Builtin.SmallTypes.nextOf (.ref i2) >>= _) _ _ _
  refine fu (D2.item k _ _ _ hy (D2.frame _ _ _ h2 fun q hq o eq=>e3.extBut _ _ (fun zz=>B.o2 (zz ▸ hq)) (e2.extBut _ _ (fun zz=>B.i12 (zz ▸ hq)) (e1.extBut _ _ (fun zz=>B.z2 (zz ▸ hq)) eq))) fun v2 g4 tk4 p2 j2 e4=>zd ?_)
  have o4:IsPair g4 TO v1 b:=e4.extBut _ _ D.TOi2 o3
  refine fu (zR o4 rfl (fu (Ab o4 fun g5 o5 e5=>fu (Bb (zd (zd ?_))))))
  have o5:IsPair g5 TO v1 v2:=o5
  refine fu (zR o5 rfl (fu (Bn ?_)))
  have hsz:g5.objs.size=s.heap.objs.size:=by rw [e5.1,e4.1,e3.1,e2.1,e1.1]
  have z5:dJ g5 z TI TO .ellipsis fb:=e5.extBut _ _ D.TOz.symm (e4.extBut _ _ D.i2z.symm (e3.extBut _ _ D.TOz.symm (e2.extBut _ _ D.i1z.symm hz1)))
  have kk:∀ e o,e≠z→e≠TO→e≠i1→e≠i2→s.heap.get? e=some o→g5.get? e=some o:=fun e o n1 n2 n3 n4 q=>e5.extBut _ _ n2 (e4.extBut _ _ n4 (e3.extBut _ _ n2 (e2.extBut _ _ n3 (e1.extBut _ _ n1 q))))
  have j1':S1 (k+1) g5:=D1.frame _ _ _ j1 fun q hq o eq=>e5.extBut _ _ (fun zz=>B.o1 (zz ▸ hq)) (e4.extBut _ _ (fun zz=>B.i21 (zz ▸ hq)) (e3.extBut _ _ (fun zz=>B.o1 (zz ▸ hq)) eq))
  have j2':S2 (k+1) g5:=D2.frame _ _ _ j2 fun q hq o eq=>e5.extBut _ _ (fun zz=>B.o2 (zz ▸ hq)) eq
  have zlt:z < g5.objs.size:=zw z5
  show wpAny _ _ (Builtin.SmallTypes.ownedTupleHandOut (.ref z) (.ref g5.objs.size) >>= _) _ _ _
  refine fu ?_
  unfold Builtin.SmallTypes.ownedTupleHandOut
  have z6:dJ (g5.push { cls:=.type "tuple",data:=.seq #[v1,v2] }) z TI TO .ellipsis fb:=y9 _ z5
  refine fu (zy z6 (by simp) fun g7 z7 e7=>?_)
  have z7:dJ g7 z TI TO (rawInt g5.objs.size) fb:=z7
  refine zy z7 (by simp) fun g8 z8 e8=>?_
  have z8:dJ g8 z TI TO (rawInt g5.objs.size) false:=z8
  have up:∀ e o,e≠z→g5.get? e=some o→g8.get? e=some o:=fun e o n1 q=>e8.extBut _ _ n1 (e7.extBut _ _ n1 (y9 _ q))
  have T8:IsPair g8 g5.objs.size v1 v2:=e8.extBut _ _ (AN zlt) (e7.extBut _ _ (AN zlt) (zj _ rfl))
  rw [hsz] at z8 T8
  refine zd ⟨_,rfl,?_⟩
  show Q (.ref g5.objs.size) _
  rw [hsz]
  exact hQ g8 _ v1 v2 _ _ p1 p2 (.inr ⟨_,rfl⟩) z8 ⟨_,_,up _ _ D.TOz o5⟩ (D1.frame _ _ _ j1' fun q hq o eq=>up q o (fun zz=>B.z1 (zz ▸ hq)) eq) (D2.frame _ _ _ j2' fun q hq o eq=>up q o (fun zz=>B.z2 (zz ▸ hq)) eq) T8 (fun e o n1 n2 n3 n4 q=>up e o n1 (kk e o n1 n2 n3 n4 q)) (by rw [e8.1,e7.1,zU,hsz])
 ·refine fu (zF hz rfl (x:=rawInt n) rfl ?_)
  dsimp only [rawInt]
  refine fu (eK ?_)
  cases al:s.heap.get? (n:Int).toNat with
  | none =>
   simp only [Option.isNone_none,Bf]
   refine zd ?_
   simp only [Bf]
   refine fu (AB (fu (zF hz rfl (x:=.ref TO) rfl (fu (zy hz (by simp) fun g1 hz1 e1=>?_)))))
   have hz1:dJ g1 z TI TO .ellipsis fb:=hz1
   refine fu ?_
   simp only [AZ,Bh,Ay,AI]
   refine fu (fu (Az ?_))
   show wpAny _ _ (Builtin.SmallTypes.nextOf (.ref i1) >>= _) _ _ _
   refine fu (D1.item k _ _ _ hx (D1.frame _ _ _ h1 fun q hq o eq=>e1.extBut _ _ (fun zz=>B.z1 (zz ▸ hq)) eq) fun v1 g2 tk2 p1 j1 e2=>zd ?_)
   have o2:IsPair g2 TO a b:=e2.extBut _ _ D.TOi1 (e1.extBut _ _ D.TOz hTO)
   refine fu (zR o2 rfl (fu (Ab o2 fun g3 o3 e3=>fu (Bb (zd ?_)))))
   have o3:IsPair g3 TO v1 b:=o3
   refine fu (fu (Az ?_))
   show wpAny _ _ (Builtin.SmallTypes.nextOf (.ref i2) >>= _) _ _ _
   refine fu (D2.item k _ _ _ hy (D2.frame _ _ _ h2 fun q hq o eq=>e3.extBut _ _ (fun zz=>B.o2 (zz ▸ hq)) (e2.extBut _ _ (fun zz=>B.i12 (zz ▸ hq)) (e1.extBut _ _ (fun zz=>B.z2 (zz ▸ hq)) eq))) fun v2 g4 tk4 p2 j2 e4=>zd ?_)
   have o4:IsPair g4 TO v1 b:=e4.extBut _ _ D.TOi2 o3
   refine fu (zR o4 rfl (fu (Ab o4 fun g5 o5 e5=>fu (Bb (zd (zd ?_))))))
   have o5:IsPair g5 TO v1 v2:=o5
   refine fu (zR o5 rfl (fu (Bn ?_)))
   have hsz:g5.objs.size=s.heap.objs.size:=by rw [e5.1,e4.1,e3.1,e2.1,e1.1]
   have z5:dJ g5 z TI TO .ellipsis fb:=e5.extBut _ _ D.TOz.symm (e4.extBut _ _ D.i2z.symm (e3.extBut _ _ D.TOz.symm (e2.extBut _ _ D.i1z.symm hz1)))
   have kk:∀ e o,e≠z→e≠TO→e≠i1→e≠i2→s.heap.get? e=some o→g5.get? e=some o:=fun e o n1 n2 n3 n4 q=>e5.extBut _ _ n2 (e4.extBut _ _ n4 (e3.extBut _ _ n2 (e2.extBut _ _ n3 (e1.extBut _ _ n1 q))))
   have j1':S1 (k+1) g5:=D1.frame _ _ _ j1 fun q hq o eq=>e5.extBut _ _ (fun zz=>B.o1 (zz ▸ hq)) (e4.extBut _ _ (fun zz=>B.i21 (zz ▸ hq)) (e3.extBut _ _ (fun zz=>B.o1 (zz ▸ hq)) eq))
   have j2':S2 (k+1) g5:=D2.frame _ _ _ j2 fun q hq o eq=>e5.extBut _ _ (fun zz=>B.o2 (zz ▸ hq)) eq
   have zlt:z < g5.objs.size:=zw z5
   show wpAny _ _ (Builtin.SmallTypes.ownedTupleHandOut (.ref z) (.ref g5.objs.size) >>= _) _ _ _
   refine fu ?_
   unfold Builtin.SmallTypes.ownedTupleHandOut
   have z6:dJ (g5.push { cls:=.type "tuple",data:=.seq #[v1,v2] }) z TI TO .ellipsis fb:=y9 _ z5
   refine fu (zy z6 (by simp) fun g7 z7 e7=>?_)
   have z7:dJ g7 z TI TO (rawInt g5.objs.size) fb:=z7
   refine zy z7 (by simp) fun g8 z8 e8=>?_
   have z8:dJ g8 z TI TO (rawInt g5.objs.size) false:=z8
   have up:∀ e o,e≠z→g5.get? e=some o→g8.get? e=some o:=fun e o n1 q=>e8.extBut _ _ n1 (e7.extBut _ _ n1 (y9 _ q))
   have T8:IsPair g8 g5.objs.size v1 v2:=e8.extBut _ _ (AN zlt) (e7.extBut _ _ (AN zlt) (zj _ rfl))
   rw [hsz] at z8 T8
   refine zd ⟨_,rfl,?_⟩
   show Q (.ref g5.objs.size) _
   rw [hsz]
   exact hQ g8 _ v1 v2 _ _ p1 p2 (.inr ⟨_,rfl⟩) z8 ⟨_,_,up _ _ D.TOz o5⟩ (D1.frame _ _ _ j1' fun q hq o eq=>up q o (fun zz=>B.z1 (zz ▸ hq)) eq) (D2.frame _ _ _ j2' fun q hq o eq=>up q o (fun zz=>B.z2 (zz ▸ hq)) eq) T8 (fun e o n1 n2 n3 n4 q=>up e o n1 (kk e o n1 n2 n3 n4 q)) (by rw [e8.1,e7.1,zU,hsz])
  | some ob =>
   simp only [Option.isNone_some,zp,AE]
   refine fu (zF hz rfl (x:=.bool fb) rfl ?_)
   cases fb with
   | true =>
    rw [if_neg (by simp)]
    refine zd ?_
    simp only [zp,AE]
    refine fu ?_
    simp only [BD,Ay,AI]
    refine fu (fu (zY ?_))
    show wpAny _ _ (Builtin.SmallTypes.nextOf (.ref i1) >>= _) _ _ _
    refine fu (D1.item k _ _ _ hx h1 fun v1 g2 tk2 p1 j1 e2=>zd (zd ?_))
    refine fu (fu (zY ?_))
    show wpAny _ _ (Builtin.SmallTypes.nextOf (.ref i2) >>= _) _ _ _
    refine fu (D2.item k _ _ _ hy (D2.frame _ _ _ h2 fun q hq o eq=>e2.extBut _ _ (fun zz=>B.i12 (zz ▸ hq)) (eq)) fun v2 g3 tk3 p2 j2 e3=>zd (zd (zd ?_)))
    refine fu (Bn (zd ⟨_,rfl,?_⟩) (by show 2≤sizeLine;decide))
    have hsz:g3.objs.size=s.heap.objs.size:=by rw [e3.1,e2.1]
    show Q (.ref g3.objs.size) _
    have T4:IsPair (g3.push { cls:=.type "tuple",data:=.seq #[v1,v2] }) g3.objs.size v1 v2:=zj _ rfl
    rw [hsz] at T4 ⊢
    have kk:∀ e o,e≠z→e≠i1→e≠i2→s.heap.get? e=some o→(g3.push { cls:=.type "tuple",data:=.seq #[v1,v2] }).get? e=some o:=fun e o n1 n3 n4 q=>y9 _ (e3.extBut _ _ n4 (e2.extBut _ _ n3 (q)))
    exact hQ _ _ v1 v2 (rawInt n) true p1 p2 (.inr ⟨n,rfl⟩) (y9 _ (e3.extBut _ _ D.i2z.symm (e2.extBut _ _ D.i1z.symm hz))) ⟨_,_,kk _ _ D.TOz D.TOi1 D.TOi2 hTO⟩ (D1.frame _ _ _ j1 fun q hq o eq=>y9 _ (e3.extBut _ _ (fun zz=>B.i21 (zz ▸ hq)) eq)) (D2.frame _ _ _ j2 fun q hq o eq=>y9 _ eq) T4 (fun e o n1 _ n3 n4 q=>kk e o n1 n3 n4 q) (by rw [zU,hsz])
   | false =>
    rw [if_pos (by decide)]
    refine fu (zy hz (by simp) fun g0 z0 e0=>zd ?_)
    have z0:dJ g0 z TI TO (rawInt n) true:=z0
    simp only [zp,AE]
    refine fu ?_
    simp only [BD,Ay,AI]
    refine fu (fu (zY ?_))
    show wpAny _ _ (Builtin.SmallTypes.nextOf (.ref i1) >>= _) _ _ _
    refine fu (D1.item k _ _ _ hx (D1.frame _ _ _ h1 fun q hq o eq=>e0.extBut _ _ (fun zz=>B.z1 (zz ▸ hq)) eq) fun v1 g2 tk2 p1 j1 e2=>zd (zd ?_))
    refine fu (fu (zY ?_))
    show wpAny _ _ (Builtin.SmallTypes.nextOf (.ref i2) >>= _) _ _ _
    refine fu (D2.item k _ _ _ hy (D2.frame _ _ _ h2 fun q hq o eq=>e2.extBut _ _ (fun zz=>B.i12 (zz ▸ hq)) (e0.extBut _ _ (fun zz=>B.z2 (zz ▸ hq)) eq)) fun v2 g3 tk3 p2 j2 e3=>zd (zd (zd ?_)))
    refine fu (Bn (zd ⟨_,rfl,?_⟩) (by show 2≤sizeLine;decide))
    have hsz:g3.objs.size=s.heap.objs.size:=by rw [e3.1,e2.1,e0.1]
    show Q (.ref g3.objs.size) _
    have T4:IsPair (g3.push { cls:=.type "tuple",data:=.seq #[v1,v2] }) g3.objs.size v1 v2:=zj _ rfl
    rw [hsz] at T4 ⊢
    have kk:∀ e o,e≠z→e≠i1→e≠i2→s.heap.get? e=some o→(g3.push { cls:=.type "tuple",data:=.seq #[v1,v2] }).get? e=some o:=fun e o n1 n3 n4 q=>y9 _ (e3.extBut _ _ n4 (e2.extBut _ _ n3 (e0.extBut _ _ n1 q)))
    exact hQ _ _ v1 v2 (rawInt n) true p1 p2 (.inr ⟨n,rfl⟩) (y9 _ (e3.extBut _ _ D.i2z.symm (e2.extBut _ _ D.i1z.symm z0))) ⟨_,_,kk _ _ D.TOz D.TOi1 D.TOi2 hTO⟩ (D1.frame _ _ _ j1 fun q hq o eq=>y9 _ (e3.extBut _ _ (fun zz=>B.i21 (zz ▸ hq)) eq)) (D2.frame _ _ _ j2 fun q hq o eq=>y9 _ eq) T4 (fun e o n1 _ n3 n4 q=>kk e o n1 n3 n4 q) (by rw [zU,hsz])
theorem qk {Q:Fin→Shared→Prop}(D1:Draws prog w A i1 fp1 n1 P1 S1)(D2:Draws prog w A i2 fp2 n2 P2 S2)(D:Ap5 z TI TO i1 i2)(B:Ap2 z TO i1 i2 fp1 fp2)(hf:f0 = .none ∨ ∃ n:Nat,f0=rawInt n)
  (hz:dJ s.heap z TI TO f0 fb) (hTI:IsPair s.heap TI (.ref i1) (.ref i2)) (hTO:IsPair s.heap TO a b) (h1:S1 k s.heap) (h2:S2 k s.heap) (hend:k=n1 ∨ (k < n1∧k=n2))
  (hE:∀ h' tk e,(∀ c o,c≠z→c≠TO→c≠i1→c≠i2→s.heap.get? c=some o→h'.get? c=some o)→(∃ o,h'.get? e=some o∧o.cls = .type "StopIteration")→E (.ref e) { s with heap:=h',toks:=tk }) :
  wpAny (model prog w) A (Builtin.«zip.__next__» ⟨[.ref z],[]⟩) Q E s:=by
 show wpAny _ _ (field (.ref z) 2 >>= _) _ _ _
 refine fu (zF hz rfl (x:=.bool false) rfl ?_)
 show wpAny _ _ (field (.ref z) 3 >>= _) _ _ _
 refine fu (zF hz rfl (x:=.ref TI) rfl (fu (zR hTI rfl ?_)))
 show wpAny _ _ (Builtin.SmallTypes.ownedTupleIsFree (.ref z) >>= _) _ _ _
 refine fu ?_
 unfold Builtin.SmallTypes.ownedTupleIsFree
 rcases hf with rfl | ⟨n,rfl⟩
 ·refine fu (zF hz rfl (x:=.none) rfl (zd ?_))
  simp only [Bf]
  refine fu (AB (fu (zF hz rfl (x:=.ref TO) rfl (fu (zy hz (by simp) fun g1 hz1 e1=>?_)))))
  have hz1:dJ g1 z TI TO .ellipsis fb:=hz1
  refine fu ?_
  simp only [AZ,Bh,Ay,AI]
  refine fu (fu (Az ?_))
  show wpAny _ _ (Builtin.SmallTypes.nextOf (.ref i1) >>= _) _ _ _
  rcases hend with hk | ⟨hk,hk2⟩
  ·subst hk
   refine fu (D1.done _ _ _ (D1.frame _ _ _ h1 fun q hq o eq=>e1.extBut _ _ (fun zz=>B.z1 (zz ▸ hq)) eq) fun g2 ev e2 he=>?_)
   obtain ⟨oe,hoe,hce⟩:=he
   have z2:dJ g2 z TI TO .ellipsis fb:=e2 _ _ D.i1z.symm hz1
   have hez:ev≠z:=fun q=>by subst q;rw [z2] at hoe;cases hoe;simp at hce
   exact zy z2 (by simp) fun g3 _ e3=>hE g3 _ ev (fun c o n1 _ n3 _ q=>e3.extBut _ _ n1 (e2 _ _ n3 (e1.extBut _ _ n1 q))) ⟨oe,e3.extBut _ _ hez hoe,hce⟩
  ·refine fu (D1.item k _ _ _ hk (D1.frame _ _ _ h1 fun q hq o eq=>e1.extBut _ _ (fun zz=>B.z1 (zz ▸ hq)) eq) fun v1 g2 tk2 p1 j1 e2=>zd ?_)
   have o2:IsPair g2 TO a b:=e2.extBut _ _ D.TOi1 (e1.extBut _ _ D.TOz hTO)
   refine fu (zR o2 rfl (fu (Ab o2 fun g3 o3 e3=>fu (Bb (zd ?_)))))
   refine fu (fu (Az ?_))
   show wpAny _ _ (Builtin.SmallTypes.nextOf (.ref i2) >>= _) _ _ _
   have h2':=D2.frame _ _ _ h2 fun q hq o eq=>e3.extBut _ _ (fun zz=>B.o2 (zz ▸ hq)) (e2.extBut _ _ (fun zz=>B.i12 (zz ▸ hq)) (e1.extBut _ _ (fun zz=>B.z2 (zz ▸ hq)) eq))
   rw [hk2] at h2'
   refine fu (D2.done _ _ _ h2' fun g4 ev e4 he=>?_)
   obtain ⟨oe,hoe,hce⟩:=he
   have z4:dJ g4 z TI TO .ellipsis fb:=e4 _ _ D.i2z.symm (e3.extBut _ _ D.TOz.symm (e2.extBut _ _ D.i1z.symm hz1))
   have hez:ev≠z:=fun q=>by subst q;rw [z4] at hoe;cases hoe;simp at hce
   exact zy z4 (by simp) fun g5 _ e5=>hE g5 _ ev (fun c o n1 n2 n3 n4 q=>e5.extBut _ _ n1 (e4 _ _ n4 (e3.extBut _ _ n2 (e2.extBut _ _ n3 (e1.extBut _ _ n1 q))))) ⟨oe,e5.extBut _ _ hez hoe,hce⟩
 ·refine fu (zF hz rfl (x:=rawInt n) rfl ?_)
  dsimp only [rawInt]
  refine fu (eK ?_)
  cases al:s.heap.get? (n:Int).toNat with
  | none =>
   simp only [Option.isNone_none,Bf]
   refine zd ?_
   simp only [Bf]
   refine fu (AB (fu (zF hz rfl (x:=.ref TO) rfl (fu (zy hz (by simp) fun g1 hz1 e1=>?_)))))
   have hz1:dJ g1 z TI TO .ellipsis fb:=hz1
   refine fu ?_
   simp only [AZ,Bh,Ay,AI]
   refine fu (fu (Az ?_))
   show wpAny _ _ (Builtin.SmallTypes.nextOf (.ref i1) >>= _) _ _ _
   rcases hend with hk | ⟨hk,hk2⟩
   ·subst hk
    refine fu (D1.done _ _ _ (D1.frame _ _ _ h1 fun q hq o eq=>e1.extBut _ _ (fun zz=>B.z1 (zz ▸ hq)) eq) fun g2 ev e2 he=>?_)
    obtain ⟨oe,hoe,hce⟩:=he
    have z2:dJ g2 z TI TO .ellipsis fb:=e2 _ _ D.i1z.symm hz1
    have hez:ev≠z:=fun q=>by subst q;rw [z2] at hoe;cases hoe;simp at hce
    exact zy z2 (by simp) fun g3 _ e3=>hE g3 _ ev (fun c o n1 _ n3 _ q=>e3.extBut _ _ n1 (e2 _ _ n3 (e1.extBut _ _ n1 q))) ⟨oe,e3.extBut _ _ hez hoe,hce⟩
   ·refine fu (D1.item k _ _ _ hk (D1.frame _ _ _ h1 fun q hq o eq=>e1.extBut _ _ (fun zz=>B.z1 (zz ▸ hq)) eq) fun v1 g2 tk2 p1 j1 e2=>zd ?_)
    have o2:IsPair g2 TO a b:=e2.extBut _ _ D.TOi1 (e1.extBut _ _ D.TOz hTO)
    refine fu (zR o2 rfl (fu (Ab o2 fun g3 o3 e3=>fu (Bb (zd ?_)))))
    refine fu (fu (Az ?_))
    show wpAny _ _ (Builtin.SmallTypes.nextOf (.ref i2) >>= _) _ _ _
    have h2':=D2.frame _ _ _ h2 fun q hq o eq=>e3.extBut _ _ (fun zz=>B.o2 (zz ▸ hq)) (e2.extBut _ _ (fun zz=>B.i12 (zz ▸ hq)) (e1.extBut _ _ (fun zz=>B.z2 (zz ▸ hq)) eq))
    rw [hk2] at h2'
    refine fu (D2.done _ _ _ h2' fun g4 ev e4 he=>?_)
    obtain ⟨oe,hoe,hce⟩:=he
    have z4:dJ g4 z TI TO .ellipsis fb:=e4 _ _ D.i2z.symm (e3.extBut _ _ D.TOz.symm (e2.extBut _ _ D.i1z.symm hz1))
    have hez:ev≠z:=fun q=>by subst q;rw [z4] at hoe;cases hoe;simp at hce
    exact zy z4 (by simp) fun g5 _ e5=>hE g5 _ ev (fun c o n1 n2 n3 n4 q=>e5.extBut _ _ n1 (e4 _ _ n4 (e3.extBut _ _ n2 (e2.extBut _ _ n3 (e1.extBut _ _ n1 q))))) ⟨oe,e5.extBut _ _ hez hoe,hce⟩
  | some ob =>
   simp only [Option.isNone_some,zp,AE]
   refine fu (zF hz rfl (x:=.bool fb) rfl ?_)
   cases fb with
   | true =>
    rw [if_neg (by simp)]
    refine zd ?_
    simp only [zp,AE]
    refine fu ?_
    simp only [BD,Ay,AI]
    refine fu (fu (zY ?_))
    show wpAny _ _ (Builtin.SmallTypes.nextOf (.ref i1) >>= _) _ _ _
    rcases hend with hk | ⟨hk,hk2⟩
    ·subst hk
     refine fu (D1.done _ _ _ h1 fun g2 ev e2 he=>?_)
     exact hE g2 _ ev (fun c o n1 _ n3 _ q=>e2 _ _ n3 (q)) he
    ·refine fu (D1.item k _ _ _ hk h1 fun v1 g2 tk2 p1 j1 e2=>zd (zd ?_))
     refine fu (fu (zY ?_))
     show wpAny _ _ (Builtin.SmallTypes.nextOf (.ref i2) >>= _) _ _ _
     have h2':=D2.frame _ _ _ h2 fun q hq o eq=>e2.extBut _ _ (fun zz=>B.i12 (zz ▸ hq)) (eq)
     rw [hk2] at h2'
     refine fu (D2.done _ _ _ h2' fun g3 ev e3 he=>?_)
     exact hE g3 _ ev (fun c o n1 _ n3 n4 q=>e3 _ _ n4 (e2.extBut _ _ n3 (q))) he
   | false =>
    rw [if_pos (by decide)]
    refine fu (zy hz (by simp) fun g0 z0 e0=>zd ?_)
    have z0:dJ g0 z TI TO (rawInt n) true:=z0
    simp only [zp,AE]
    refine fu ?_
    simp only [BD,Ay,AI]
    refine fu (fu (zY ?_))
    show wpAny _ _ (Builtin.SmallTypes.nextOf (.ref i1) >>= _) _ _ _
    rcases hend with hk | ⟨hk,hk2⟩
    ·subst hk
     refine fu (D1.done _ _ _ (D1.frame _ _ _ h1 fun q hq o eq=>e0.extBut _ _ (fun zz=>B.z1 (zz ▸ hq)) eq) fun g2 ev e2 he=>?_)
     exact hE g2 _ ev (fun c o n1 _ n3 _ q=>e2 _ _ n3 (e0.extBut _ _ n1 q)) he
    ·refine fu (D1.item k _ _ _ hk (D1.frame _ _ _ h1 fun q hq o eq=>e0.extBut _ _ (fun zz=>B.z1 (zz ▸ hq)) eq) fun v1 g2 tk2 p1 j1 e2=>zd (zd ?_))
     refine fu (fu (zY ?_))
     show wpAny _ _ (Builtin.SmallTypes.nextOf (.ref i2) >>= _) _ _ _
     have h2':=D2.frame _ _ _ h2 fun q hq o eq=>e2.extBut _ _ (fun zz=>B.i12 (zz ▸ hq)) (e0.extBut _ _ (fun zz=>B.z2 (zz ▸ hq)) eq)
     rw [hk2] at h2'
     refine fu (D2.done _ _ _ h2' fun g3 ev e3 he=>?_)
     exact hE g3 _ ev (fun c o n1 _ n3 n4 q=>e3 _ _ n4 (e2.extBut _ _ n3 (e0.extBut _ _ n1 q))) he
end
namespace F
theorem entry_zip_ga:entryFor table "zip.__getattribute__" = some Builtin.«object.__getattribute__» :=
 entryFor_alias (id':="object.__getattribute__") (by kernel_rfl) (by first | rfl | decide +kernel) (by decide +kernel) (by kernel_rfl)
theorem lk_zip_keys:typeLookup (.type "zip") "keys" = pure none:=by rw [typeLookup_type,builtinLookup_eq_fast]; kernel_rfl
theorem lk_zip_gat:typeLookup (.type "zip") "__getattr__" = pure none:=by rw [typeLookup_type,builtinLookup_eq_fast]; kernel_rfl
end F
section
variable {prog:Program} {w:World} {A:Around} {E:Value→Shared→Prop} {s:Shared} {a:Addr} {fs:Array Value}
abbrev yi (fs:Array Value):Obj:={ cls:=.type "zip",dict:=none,data:=.fields fs,slots:=#[] }
theorem ql {tk:Tok}{Q:Fin→Shared→Prop}(hx:s.heap.get? a=some (yi fs))(hh:A.handled=none)(hE:∀ h' tk e,Heap.NewAttrErr s.heap h' e (.ref a) "keys"→E (.ref e) { s with heap:=h',toks:=tk }) :
  wpAny (model prog w) A (Builtin.«object.__getattribute__» ⟨[.ref a,.str "keys" tk],[]⟩) Q E s:=by
 obtain ⟨h,g,d,t,os⟩:=s
 have hT:(⟨h,g,d,t,os⟩:Shared).TypeIs (.ref a) "zip":=⟨_,hx,rfl⟩
 have f4:=F.lk_zip_keys
 repeat (any_goals (first | assumption | wp_step))
 exact wpAny_raiseAttrError hh hE (attrMsg_fits (by decide +kernel) (by size_fits))
theorem kT {Q:Option Value→Shared→Prop}(hx:s.heap.get? a=some (yi fs))(hh:A.handled=none)(hQ:∀ h' tk,(∀ b o,s.heap.get? b=some o→h'.get? b=some o)→Q none { s with heap:=h',toks:=tk }) :
  wpAny (model prog w) A (getAttr? (.ref a) "keys") Q E s:=by
 obtain ⟨h,g,d,t,os⟩:=s
 have hT:(⟨h,g,d,t,os⟩:Shared).TypeIs (.ref a) "zip":=⟨_,hx,rfl⟩
 have f1:=sub_AttributeError
 have f3:=F.slot_zip_getattribute.lookup
 have f4:=F.slot_zip_getattribute.bind (.ref a)
 have f5:=F.lk_zip_gat
 unfold getAttr? getAttrBy? getAttrBy
 repeat (any_goals (first | assumption | ((with_reducible show wpAny _ _ (call (Value.builtin "zip.__getattribute__") _ _) _ _ _);refine As F.slot_zip_getattribute ⟨_,hx,rfl⟩ F.entry_zip_ga (ql hx hh fun h' tk' e hxx=>?_) (F.args_zip_getattribute_2 _ _)) | wp_step))
 obtain ⟨t',u',he⟩:=hxx.there
 repeat (any_goals (first | assumption | wp_step))
 all_goals skip
 all_goals exact hQ _ _ hxx.keeps
end
end PySem
namespace PySem
theorem iy:entryFor table "dict.update.loop" = some Builtin.«dict.update.loop»:=entryFor_of_tree (by kernel_rfl)
theorem cO:plainId "dict.update.loop" = true:=by decide +kernel
end PySem
namespace L2
open PySem PySem.Spec PyProof.Rows Wd
structure ZL (h:Heap) (z TI TO i1 i2 l1 l2:Addr) (its1 its2:Array Value) (k:Nat):Prop where
 zq:∃ f0 fb,(f0=Value.none ∨ ∃ n:Nat,f0=rawInt n)∧dJ h z TI TO f0 fb
 ti:IsPair h TI (.ref i1) (.ref i2)
 to:∃ a b,IsPair h TO a b
 a1:h.IsListIter i1 l1 k∧h.IsList l1 its1
 a2:h.IsListIter i2 l2 k∧h.IsList l2 its2
section
variable {P:Program} {w:World} {A:Around} {E:Value→Shared→Prop} {s:Shared} {z TI TO i1 i2 l1 l2:Addr} {its1 its2:Array Value} {k:Nat}
theorem ZL.far {h:Heap}(Z:ZL h z TI TO i1 i2 l1 l2 its1 its2 k)(D:Ap5 z TI TO i1 i2):(l1≠i1∧l2≠i2)∧Ap2 z TO i1 i2 [i1,l1] [i2,l2]:=by
 obtain ⟨⟨f0,fb,hf,s1⟩,s2,⟨a,b,s3⟩,⟨⟨o1,g1,c1,_⟩,⟨o3,g3,c3,_⟩⟩,⟨⟨o2,g2,c2,_⟩,⟨o4,g4,c4,_⟩⟩⟩:=Z
 have n1:l1≠i1:=fun e=>by rw [e,g1] at g3;cases g3;rw [c1] at c3;simp at c3
 have n2:l2≠i2:=fun e=>by rw [e,g2] at g4;cases g4;rw [c2] at c4;simp at c4
 have n3:l1≠z:=fun e=>by rw [e,s1] at g3;cases g3;simp at c3
 have n4:l2≠z:=fun e=>by rw [e,s1] at g4;cases g4;simp at c4
 have n5:l2≠TO:=fun e=>by rw [e,s3] at g4;cases g4;simp at c4
 have n8:l1≠TO:=fun e=>by rw [e,s3] at g3;cases g3;simp at c3
 have n6:l2≠i1:=fun e=>by rw [e,g1] at g4;cases g4;rw [c1] at c4;simp at c4
 have n7:l1≠i2:=fun e=>by rw [e,g2] at g3;cases g3;rw [c2] at c3;simp at c3
 refine ⟨⟨n1,n2⟩,?_,?_,?_,?_,?_,?_⟩ <;> simp only [zt,zv,Aw,not_or]
 ·exact ⟨D.i1z.symm,n3.symm⟩
 ·exact ⟨D.i2z.symm,n4.symm⟩
 ·exact ⟨D.TOi1,n8.symm⟩
 ·exact ⟨D.TOi2,n5.symm⟩
 ·exact ⟨D.i12,n6.symm⟩
 ·exact ⟨D.i12.symm,n7.symm⟩
theorem ZL.at {h h':Heap}(Z:ZL h z TI TO i1 i2 l1 l2 its1 its2 k)(kk:∀ b,b∈[z,TI,TO,i1,i2,l1,l2]→∀ o,h.get? b=some o→h'.get? b=some o):ZL h' z TI TO i1 i2 l1 l2 its1 its2 k:=by
 obtain ⟨⟨f0,fb,hf,s1⟩,s2,⟨a,b,s3⟩,⟨⟨o1,g1,c1⟩,⟨o3,g3,c3⟩⟩,⟨⟨o2,g2,c2⟩,⟨o4,g4,c4⟩⟩⟩:=Z
 exact ⟨⟨f0,fb,hf,kk _ (by simp) _ s1⟩,kk _ (by simp) _ s2,⟨a,b,kk _ (by simp) _ s3⟩,⟨⟨o1,kk _ (by simp) _ g1,c1⟩,⟨o3,kk _ (by simp) _ g3,c3⟩⟩,⟨⟨o2,kk _ (by simp) _ g2,c2⟩,⟨o4,kk _ (by simp) _ g4,c4⟩⟩⟩
theorem kU {v1 v2:Value}{Q:Option Value→Shared→Prop}(hh:A.handled=none)(D:Ap5 z TI TO i1 i2)(Z:ZL s.heap z TI TO i1 i2 l1 l2 its1 its2 k)(hx:its1[k]? = some v1)(hy:its2[k]? = some v2)
  (hQ:∀ h' tk,ZL h' z TI TO i1 i2 l1 l2 its1 its2 (k+1)→IsPair h' s.heap.objs.size v1 v2→(∀ e o,e≠z→e≠TO→e≠i1→e≠i2→s.heap.get? e=some o→h'.get? e=some o)→h'.objs.size=s.heap.objs.size+1→Q (some (.ref s.heap.objs.size)) { s with heap:=h',toks:=tk }) :
  wpAny (model P w) A (pyNext (.ref z)) Q E s:=by
 obtain ⟨⟨n1,n2⟩,B⟩:=Z.far D
 obtain ⟨⟨f0,fb,hf,s1⟩,s2,⟨a,b,s3⟩,a1,a2⟩:=Z
 have hT:s.TypeIs (.ref z) "zip":=⟨_,s1,rfl⟩
 unfold pyNext
 refine fu (BA (Ai (name:=Str.ofString "__next__") hT AR (As AR hT BR
  (nU (CV (by exact hh) i1 l1 n1 its1) (CV (by exact hh) i2 l2 n2 its2) D B hf s1 s2 s3 a1 a2 (zM.mp hx).1 (zM.mp hy).1 fun h' tk u1 u2 f0' fb' p1 p2 hf' b1 b2 b3 b4 b5 b6 b7=>zd ?_) (BL _))))
 obtain rfl:v1=u1:=by rw [hx] at p1;exact Af p1
 obtain rfl:v2=u2:=by rw [hy] at p2;exact Af p2
 exact hQ h' tk ⟨⟨f0',fb',hf',b1⟩,b6 _ _ D.TIz D.TITO D.TIi1 D.TIi2 s2,b2,b3,b4⟩ b5 b6 b7
theorem nV {Q:Option Value→Shared→Prop}(hh:A.handled=none)(D:Ap5 z TI TO i1 i2)(Z:ZL s.heap z TI TO i1 i2 l1 l2 its1 its2 k)(hend:k=min its1.size its2.size)
  (hQ:∀ h' tk,(∀ e o,e≠z→e≠TO→e≠i1→e≠i2→s.heap.get? e=some o→h'.get? e=some o)→Q none { s with heap:=h',toks:=tk }) :
  wpAny (model P w) A (pyNext (.ref z)) Q E s:=by
 obtain ⟨⟨n1,n2⟩,B⟩:=Z.far D
 obtain ⟨⟨f0,fb,hf,s1⟩,s2,⟨a,b,s3⟩,a1,a2⟩:=Z
 have hT:s.TypeIs (.ref z) "zip":=⟨_,s1,rfl⟩
 unfold pyNext
 refine fu (BA (Ai (name:=Str.ofString "__next__") hT AR (As AR hT BR
  (qk (CV (by exact hh) i1 l1 n1 its1) (CV (by exact hh) i2 l2 n2 its2) D B hf s1 s2 s3 a1 a2 (by omega) fun h' tk e kk he=>?_) (BL _))))
 obtain ⟨o,ho,hcl⟩:=he
 exact fu (Cv (T:="StopIteration") (b:=true) ⟨o,ho,hcl⟩ CM (zd (hQ h' tk kk)))
def bE (ps:List (Key × V)):List (Key × V):=ps.foldl (fun a p=>bo a p.1 p.2) []
theorem eR (ps:List (Key × V))(p:Key × V):bE (ps++[p])=bo (bE ps) p.1 p.2:=by unfold bE; rw [List.foldl_append]; rfl
theorem fz (ps:List (Key × V)):(bE ps).length≤ps.length:=by
 unfold bE
 have:∀ (ps acc:List (Key × V)),(ps.foldl (fun a p=>bo a p.1 p.2) acc).length≤acc.length+ps.length:=fun ps=>by
  induction ps with
  | nil=>intro acc;exact zu _
  | cons p ps ih =>
   intro acc
   have h1:=ih (bo acc p.1 p.2)
   have h2:=bp acc p.1 p.2
   rw [List.foldl_cons,Ar]
   omega
 have:=this ps []
 simpa using this
theorem yZ {R:Result→Shared→Prop}(hh:A.handled=none)(D:Ap5 z TI TO i1 i2){d:Addr}(hd:d∉[z,TI,TO,i1,i2,l1,l2]){ks:List Key}{ys:List V}(r1:aY (ks.map kV) its1.toList)(r2:aY ys its2.toList)(hn:ks.length+2≤sizeLine) :
  ∀ (m k:Nat) (s:Shared) (vs:List (Key × Value)),min its1.size its2.size - k=m→k≤min its1.size its2.size→ZL s.heap z TI TO i1 i2 l1 l2 its1 its2 k→s.heap.DictOf (aN P w) d vs→KV (bE ((ks.zip ys).take k)) vs →
   (∀ (s':Shared) (vs':List (Key × Value)),s'.gens=s.gens→s'.drawn=s.drawn→s'.os=s.os→(∀ b o,b∉[z,TO,i1,i2,d]→s.heap.get? b=some o→s'.heap.get? b=some o)→s'.heap.DictOf (aN P w) d vs'→KV (bE (ks.zip ys)) vs'→R (.ok (.ret .none)) s') →
   codeAny (model P w) A (.builtin "dict.update.loop" ⟨[.ref d,.ref z,rawInt k,.none],[]⟩) R s:=by
 have e1:its1.size=ks.length:=by rw [← ze,← r1.length,zl]
 have e2:its2.size=ys.length:=by rw [← ze,← r2.length]
 intro m
 induction m with
 | zero =>
  intro k s vs hk hle Z hD hV hR
  have hk:k=min its1.size its2.size:=by omega
  refine AU iy ?_
  rw [A7 cO _]
  show wpAny _ A.in1 (pyNext (.ref z) >>= _) _ _ s
  refine fu (nV (by exact hh) D Z hk fun h' tk kk=>?_)
  show wpAny _ A.in1 (Builtin.Dict.addKeywords d [] >>= _) _ _ _
  refine fu (zd (zd ?_))
  refine hR _ vs rfl rfl rfl (fun b o hb q=>?_) ?_ ?_
  ·simp only [zt,zv,Aw,not_or] at hb
   exact kk b o hb.1 hb.2.1 hb.2.2.1 hb.2.2.2.1 q
  ·obtain ⟨o,es,ep,ho,r⟩:=hD
   simp only [zt,zv,Aw,not_or] at hd
   exact ⟨o,es,ep,kk _ _ hd.1 hd.2.2.1 hd.2.2.2.1 hd.2.2.2.2.1 ho,r⟩
  ·rw [zB (by rw [B7];omega)] at hV
   exact hV
 | succ m ih =>
  intro k s vs hk hle Z hD hV hR
  have hx:=Ao (xs:=its1) (i:=k) (by omega)
  have hy:=Ao (xs:=its2) (i:=k) (by omega)
  have kx:=y_ (l:=ks) (i:=k) (by omega)
  have ky:=y_ (l:=ys) (i:=k) (by omega)
  obtain ⟨u1,hu1,ru1⟩:=r1.get (i:=k) (x:=kV ks[k]) (by rw [zH,kx];rfl)
  obtain ⟨u2,hu2,ru2⟩:=r2.get (i:=k) (x:=ys[k]) ky
  rw [zX,hx] at hu1
  rw [zX,hy] at hu2
  cases hu1
  cases hu2
  refine AU iy ?_
  rw [A7 cO _]
  show wpAny _ A.in1 (pyNext (.ref z) >>= _) _ _ s
  refine fu (kU (by exact hh) D Z hx hy fun h' tk Z' hT kk hz=>?_)
  show wpAny _ A.in1 (holding [Value.ref s.heap.objs.size] (do
   let pair ← (Builtin.Dict.pairItems (.ref s.heap.objs.size)).tryCatch _
   _) >>= _) _ _ _
  refine fu (zY (fu (wpAny_tryCatch ?_)))
  unfold Builtin.Dict.pairItems
  have hTT:Shared.TypeIs { s with heap:=h',toks:=tk } (.ref s.heap.objs.size) "tuple":=⟨_,hT,rfl⟩
  refine fu (wpAny_typeOf hTT ?_)
  rw [if_pos (by decide)]
  refine fu (zR hT rfl (zd ?_))
  show wpAny _ _ (holding [its1[k],its2[k]] (dictSet d its1[k] its2[k])) _ _ _
  have hD':h'.DictOf (aN P w) d vs:=by
   obtain ⟨o,es,ep,ho,r⟩:=hD
   have hd:=hd
   simp only [zt,zv,Aw,not_or] at hd
   exact ⟨o,es,ep,kk _ _ hd.1 hd.2.2.1 hd.2.2.2.1 hd.2.2.2.2.1 ho,r⟩
  have hvl:vs.length≤sizeLine:=by
   have h1:=fz ((ks.zip ys).take k)
   have h2:=hV.length
   rw [zo,B7] at h1
   omega
  refine zY (wpAny_dictSet_pairs (s:={ s with heap:=h',toks:=tk }) (hsz:=hvl) (i0 ru1) hD' fun h2 hD2 sb=>?_)
  have et:bE ((ks.zip ys).take (k+1))=bo (bE ((ks.zip ys).take k)) ks[k] ys[k]:=by
   rw [zZ,y_ (by rw [B7];omega),Cc,eR,List.getElem_zip]
  refine zd ⟨Cp cO _,ih (k+1) _ _ (by omega) (by omega) (Z'.at fun b hb o q=>(sb.2 b (fun e=>hd (e ▸ hb))).trans q) hD2 (by rw [et];exact hV.put _ ru2) fun s' vs' q1 q2 q3 q4 q5 q6=>hR s' vs' q1 q2 q3 (fun b o hb q=>q4 b o hb ?_) q5 q6⟩
  simp only [zt,zv,Aw,not_or] at hb
  exact (sb.2 b hb.2.2.2.2).trans (kk b o hb.1 hb.2.1 hb.2.2.1 hb.2.2.2.1 q)
end
end L2
namespace PySem
abbrev zl1 (h:Heap)(p:Addr):Heap:=h.push { cls:=.type "list_iterator",data:=.fields #[.ref p,.int 0 0] }
abbrev zl2 (h:Heap)(p q:Addr):Heap:=(zl1 h p).push { cls:=.type "list_iterator",data:=.fields #[.ref q,.int 0 0] }
abbrev zl3 (h:Heap)(p q:Addr):Heap:=(zl2 h p q).push { cls:=.type "tuple",data:=.seq #[.ref h.objs.size,.ref (zl1 h p).objs.size] }
abbrev zl4 (h:Heap)(p q:Addr):Heap:=(zl3 h p q).push { cls:=.type "tuple",data:=.seq #[.none,.none] }
abbrev zl5 (h:Heap)(p q:Addr):Heap:=(zl4 h p q).push { cls:=.type "zip",data:=.fields #[.none,.bool false,.bool false,.ref (zl2 h p q).objs.size,.ref (zl3 h p q).objs.size] }
theorem jr (p q:Addr)(xs ys:Array Value):Meets (Builtin.«zip.__new__» ⟨[.type "zip",.ref p,.ref q],[]⟩) (fun _ R s=>s.heap.IsList p xs∧s.heap.IsList q ys∧R (.ok (.ret (.ref (zl4 s.heap p q).objs.size))) { s with heap:=zl5 s.heap p q }) :=
 .of_wp fun prog w A R s h=>by
  obtain ⟨hp,gg,dd,tk,os⟩:=s
  obtain ⟨t1,t2,h⟩:=h
  have hsub:=sub_zip
  have T1:Heap.IsList (Shared.heap ⟨hp,gg,dd,tk,os⟩) p xs:=t1
  have T2:Heap.IsList (Shared.heap ⟨hp.push { cls:=.type "list_iterator",data:=.fields #[.ref p,.int 0 0] },gg,dd,tk,os⟩) q ys:=Heap.IsList.push t2 _
  wp_walk using BI T1,BI T2
  exact ⟨_,rfl,h⟩
theorem kW {prog:Program}{w:World}{A:Around}{E:Value→Shared→Prop}{s:Shared}{p q:Addr}{xs ys:Array Value}{Q:Value→Shared→Prop}(hx:s.heap.IsList p xs)(hy:s.heap.IsList q ys)
  (h:∀ h',h'.objs.size=s.heap.objs.size+5→dJ h' (s.heap.objs.size+4) (s.heap.objs.size+2) (s.heap.objs.size+3) .none false→IsPair h' (s.heap.objs.size+2) (.ref s.heap.objs.size) (.ref (s.heap.objs.size+1))→IsPair h' (s.heap.objs.size+3) .none .none →
   h'.IsListIter s.heap.objs.size p 0→h'.IsListIter (s.heap.objs.size+1) q 0→(∀ c o,s.heap.get? c=some o→h'.get? c=some o)→Q (.ref (s.heap.objs.size+4)) { s with heap:=h' }) :
  wpAny (model prog w) A (call (.type "zip") [.ref p,.ref q]) Q E s:=by
 refine callType_new F.called_zip (by decide) (F.typeCall_zip_2 _ _) (F.newCall_zip_2 _ _) (fun obj=>F.args_object_init_3 obj _ _) F.entry_zip_new (jr p q xs ys) ⟨hx,hy,?_⟩
 have n1:(zl1 s.heap p).objs.size=s.heap.objs.size+1:=zU ..
 have n2:(zl2 s.heap p q).objs.size=s.heap.objs.size+2:=by rw [zU,n1]
 have n3:(zl3 s.heap p q).objs.size=s.heap.objs.size+3:=by rw [zU,n2]
 have n4:(zl4 s.heap p q).objs.size=s.heap.objs.size+4:=by rw [zU,n3]
 have n5:(zl5 s.heap p q).objs.size=s.heap.objs.size+5:=by rw [zU,n4]
 have g5:(zl5 s.heap p q).get? (zl4 s.heap p q).objs.size=some _:=zj _ rfl
 have g4:(zl5 s.heap p q).get? (zl3 s.heap p q).objs.size=some _:=y9 _ (zj _ rfl)
 have g3:(zl5 s.heap p q).get? (zl2 s.heap p q).objs.size=some _:=y9 _ (y9 _ (zj _ rfl))
 have g2:(zl5 s.heap p q).get? (zl1 s.heap p).objs.size=some _:=y9 _ (y9 _ (y9 _ (zj _ rfl)))
 have g1:(zl5 s.heap p q).get? s.heap.objs.size=some _:=y9 _ (y9 _ (y9 _ (y9 _ (zj _ rfl))))
 show _∧_
 rw [n2,n3,n4] at g5
 rw [n1,n2] at g3
 rw [n3] at g4
 rw [n1] at g2
 rw [n4]
 exact ⟨⟨_,g5,rfl⟩,h _ n5 g5 g3 g4 ⟨_,g1,rfl,rfl⟩ ⟨_,g2,rfl,rfl⟩ fun c o q=>y9 _ (y9 _ (y9 _ (y9 _ (y9 _ q))))⟩
end PySem
namespace L2
open PySem PySem.Spec PyProof.Rows Wd
section
variable {P:Program} {w:World} {A:Around} {E:Value→Shared→Prop} {s:Shared} {z TI TO i1 i2 l1 l2:Addr} {its1 its2:Array Value}
theorem kX {ks:List Key}{ys:List V}{Q:Value→Shared→Prop}(hh:A.handled=none)(D:Ap5 z TI TO i1 i2)(hz0:dJ s.heap z TI TO .none false)(Z:ZL s.heap z TI TO i1 i2 l1 l2 its1 its2 0)(r1:aY (ks.map kV) its1.toList)(r2:aY ys its2.toList)(hn:ks.length+2≤sizeLine)
  (h:∀ (s':Shared) (vs':List (Key × Value)),s'.gens=s.gens→s'.drawn=s.drawn→s'.os=s.os→(∀ b o,b∉[z,TO,i1,i2]→s.heap.get? b=some o→s'.heap.get? b=some o)→s'.heap.DictOf (aN P w) s.heap.objs.size vs'→KV (bE (ks.zip ys)) vs'→Q (.ref s.heap.objs.size) s') :
  wpAny (model P w) A (call (.type "dict") [.ref z]) Q E s:=by
 refine callType_codes (Q₁:=fun obj s₁=>obj = .ref s.heap.objs.size∧s₁ = { s with heap:=s.heap.push { cls:=.type "dict",data:=.dict #[] } }) F.kt_called_dict (F.kt_typeCall_dict_1 _) F.entry_dict_init (kt_code_dict_new _ ⟨rfl,rfl⟩) ?_
 rintro obj s₁ ⟨rfl,rfl⟩
 have hnew:(s.heap.push { cls:=.type "dict",data:=.dict #[] }).DictOf (aN P w) s.heap.objs.size []:=Heap.DictOf.new s.heap
 refine ⟨hnew.typeIs,F.args_dict_init_2 _ _,?_⟩
 unfold Builtin.«dict.__init__»
 refine fu ?_
 unfold Builtin.Dict.selfAndRest
 refine fu (wpAny_notOrdered_dict hnew.typeIs ?_)
 show wpAny _ _ (pure (s.heap.objs.size,[Value.ref z])) _ _ _
 refine zd ?_
 show wpAny _ _ (Builtin.Dict.updateFrom "dict.__init__" s.heap.objs.size (.ref z) [] .none) _ _ _
 unfold Builtin.Dict.updateFrom
 have Z1:ZL (s.heap.push { cls:=.type "dict",data:=.dict #[] }) z TI TO i1 i2 l1 l2 its1 its2 0:=Z.at fun b hb o q=>y9 _ q
 have hz:dJ (s.heap.push { cls:=.type "dict",data:=.dict #[] }) z TI TO .none false:=y9 _ hz0
 have hT:Shared.TypeIs { s with heap:=s.heap.push { cls:=.type "dict",data:=.dict #[] } } (.ref z) "zip":=⟨_,hz,rfl⟩
 refine fu (wpAny_typeOf hT ?_)
 rw [if_pos (by decide)]
 refine fu ?_
 refine kT (s:={ s with heap:=s.heap.push { cls:=.type "dict",data:=.dict #[] } }) hz (by exact hh) fun h2 tk2 k2=>?_
 rw [if_pos (by decide)]
 refine fu (AB ?_)
 have hz2:IsZip h2 z TI TO .none:=k2 _ _ hz
 refine fu (Cw (s:={ s with heap:=h2,toks:=tk2 }) hz2 ?_)
 refine zd ⟨Cp cO _,?_⟩
 have zlt:∀ b∈[z,TI,TO,i1,i2,l1,l2],b < s.heap.objs.size:=fun b hb=>by
  obtain ⟨⟨_,_,_,s1⟩,s2,⟨_,_,s3⟩,⟨⟨o1,g1,_⟩,⟨o3,g3,_⟩⟩,⟨⟨o2,g2,_⟩,⟨o4,g4,_⟩⟩⟩:=Z
  simp only [zt,zv,Aw] at hb
  rcases hb with rfl | rfl | rfl | rfl | rfl | rfl | rfl
  ·exact zw s1
  ·exact zw s2
  ·exact zw s3
  ·exact zw g1
  ·exact zw g2
  ·exact zw g3
  ·exact zw g4
 have hD2:h2.DictOf (aN P w) s.heap.objs.size []:=by
  obtain ⟨o,es,ep,ho,r⟩:=hnew
  exact ⟨o,es,ep,k2 _ _ ho,r⟩
 refine yZ (by exact hh) D (fun hb=>absurd (zlt _ hb) (AL _)) r1 r2 hn _ 0 _ [] rfl (AG _) (Z1.at fun b hb o q=>k2 _ _ q) hD2 (by rw [CN];exact .nil) fun s' vs' q1 q2 q3 q4 q5 q6=>?_
 refine ⟨rfl,h s' vs' q1 q2 q3 (fun b o hb q=>q4 b o ?_ (k2 _ _ (y9 _ q))) q5 q6⟩
 have:=zw q
 simp only [zt,zv,Aw,not_or] at hb ⊢
 exact ⟨hb.1,hb.2.1,hb.2.2.1,hb.2.2.2,z3 this⟩
end
section
variable {X:Cx}
inductive rDZ (K:PySem.W.Frag)(Q:VK)(vs:List V)(H:Hp):Prop
 | mk:∀ (a b:Addr) (ks:List Key) (ys:List V),vs=[.ref a,.ref b]→SqL K H a (ks.map kV)→SqL K H b ys→ks.length≤4000→(∀ p,H p=none→Q (.ref p) (upd H p (.dK (bE (ks.zip ys)))))→rDZ K Q vs H
def tDZ (K:PySem.W.Frag)(ta:TA):TE:=fun σ H Q=>ta σ H (rDZ K Q)
theorem xI {K:PySem.W.Frag}(hK:X.K=K)(hc:X.calm=true){a b:Expr}{ta:TA}{p p2 pos pos2:Pos}(hg:Gl X "dict")(hm:X.mg "dict" = none)(hb:bootBuiltins "dict" = some (.type "dict"))(hg2:Gl X "zip")(hm2:X.mg "zip" = none)(hb2:bootBuiltins "zip" = some (.type "zip"))(ha:PA X [a,b] ta)
  (hs:starEach [a,b] X.env=(false,eval a X.env)::starEach [b] X.env:=by rfl) (hs2:(backTo pos2 (starEach [b] X.env)).any (·.1)=false:=by rfl)
  (hs3:starEach [.Call (.Name "zip" p2) [a,b] [] pos2] X.env=[(false,eval (.Call (.Name "zip" p2) [a,b] [] pos2) X.env)]:=by rfl) :
  PE X (.Call (.Name "dict" p) [.Call (.Name "zip" p2) [a,b] [] pos2] [] pos) (tDZ K ta):=by
 subst hK
 intro pins s σ H Q I h
 refine Call_ (cy I hg hm hb (Ax ?_ hs3 rfl))
 rw [hs3]
 show wpAny _ _ (spliced ((false,eval (.Call (.Name "zip" p2) [a,b] [] pos2) X.env)::[])) _ _ s
 refine Calls.spliced_cons ?_
 refine Call_ (cy I hg2 hm2 hb2 (Ax (thn (ha pos2 pins s σ H _ I h) fun us s1 zq1=>?_) hs hs2))
 obtain ⟨vs,H1,I1,r1,q1⟩:=zq1
 obtain ⟨l1,l2,ks,ys,rfl,hx,hy,hn,q⟩:=q1
 obtain ⟨u1,u2,rfl,ru1,ru2⟩:=o7 r1
 cases ru1
 cases ru2
 obtain ⟨its1,rv1,p1,hz1⟩:=I1.list hx
 obtain ⟨its2,rv2,p2',hz2⟩:=I1.list hy
 have l16:sizeLine=16777216:=Bu
 refine kW p1.isList p2'.isList fun h' hsz b1 b2 b3 b4 b5 b6=>zd ?_
 have a5:=qX s1.heap.objs.size
 have kp:∀ {l:Addr} {xs:Array Value},s1.heap.IsList l xs→h'.IsList l xs:=fun e=>let ⟨o,ho,r⟩:=e;⟨o,b6 _ _ ho,r⟩
 refine kX (s:={ s1 with heap:=h' }) (its1:=its1.toArray) (its2:=its2.toArray) (by exact I1.ok.hd hc) a5 b1 ⟨⟨_,_,.inl rfl,b1⟩,b2,⟨_,_,b3⟩,⟨b4,kp p1.isList⟩,⟨b5,kp p2'.isList⟩⟩ rv1 rv2 (by omega) fun s' vs' q1 q2 q3 q4 q5 q6=>?_
 obtain ⟨h2,g2,d2,t2,o2⟩:=s'
 obtain rfl:g2=s1.gens:=q1
 obtain rfl:d2=s1.drawn:=q2
 obtain rfl:o2=s1.os:=q3
 have keep:∀ b o,s1.heap.get? b=some o→h2.get? b=some o:=fun b o e=>q4 b o (by
  have lt:b < s1.heap.objs.size:=zw e
  simp only [zt,zv,Aw,not_or]
  exact ⟨z3 (Ad lt (Br _ _)),z3 (Ad lt (Br _ _)),z3 lt,z3 (Ad lt (Br _ _))⟩) (b6 _ _ e)
 have hlen:(bE (ks.zip ys)).length≤sizeLine:=by
  have:=fz (ks.zip ys)
  rw [B7] at this
  omega
 have hge:s1.heap.objs.size≤h'.objs.size:=by rw [hsz];exact Br _ _
 have hds:(h'.objs.size == sysModules)=false:=by
  have h1:=I1.big
  rw [beq_eq_false_iff_ne]
  exact AN (Ad h1 hge)
 exact ⟨.ref h'.objs.size,_,I1.laid (t':=t2) keep hge (lV hlen hds q6 q5),rfl,q _ (I1.hok.fresh hge)⟩
end
end L2
namespace Kx
open PySem PySem.Spec PyProof.Rows L2 Wd
def plO (x y:L)(i:Nat):List (Nat × Nat):=if y=x then [(i,i+1)] else if y=inv x then [(i+1,i)] else []
def plW (x:L):Nat→List L→List (Nat × Nat)
 | _,[]=>[]
 | i,y::r=>plO x y i++plW x (i+1) r
theorem kg (x y:L):∀ (u:List L) (i:Nat),plW x i (u++[y])=plW x i u++plO x y (i+u.length)
 | [],i=>by simp [plW]
 | z::u,i=>by
  rw [List.cons_append,plW,plW,kg x y u (i+1),zh,Ar,show i+1+u.length=i+(u.length+1) by omega]
theorem nW {x:L}:∀ {u:List L} {i:Nat} {p:Nat × Nat},p∈plW x i u ↔ ∃ j,(u[j]? = some x∧p=(i+j,i+j+1)) ∨ (u[j]? = some (inv x)∧p=(i+j+1,i+j))
 | [],i,p=>by simp [plW]
 | y::u,i,p=>by
  rw [plW,zN,nW (u:=u)]
  have ne:=uZ x
  constructor
  ·rintro (h | ⟨j,h⟩)
   ·refine ⟨0,?_⟩
    unfold plO at h
    by_cases e:y=x
    ·rw [if_pos e,zc] at h
     exact .inl ⟨by rw [e];rfl,h⟩
    ·rw [if_neg e] at h
     by_cases e2:y=inv x
     ·rw [if_pos e2,zc] at h
      exact .inr ⟨by rw [e2];rfl,h⟩
     ·rw [if_neg e2] at h
      cases h
   ·refine ⟨j+1,?_⟩
    rw [Ct,show i+(j+1)=i+1+j by omega]
    exact h
  ·rintro ⟨j,h⟩
   cases j with
   | zero =>
    left
    unfold plO
    rcases h with ⟨h1,h2⟩ | ⟨h1,h2⟩
    ·rw [Cu] at h1
     rw [if_pos (Af h1),zc]
     exact h2
    ·rw [Cu] at h1
     have e:=Af h1
     rw [if_neg (fun z=>ne (e.symm.trans z)),if_pos e,zc]
     exact h2
   | succ j =>
    right
    refine ⟨j,?_⟩
    rw [Ct,show i+(j+1)=i+1+j by omega] at h
    exact h
abbrev pl (x:L)(w:List L):List (Nat × Nat):=plW x 0 w
theorem kh {x:L}{u:List L}{p:Nat × Nat}:p∈pl x u ↔ ∃ j,(u[j]? = some x∧p=(j,j+1)) ∨ (u[j]? = some (inv x)∧p=(j+1,j)):=by
 rw [nW]
 simp only [BO]
theorem js {x:L}{w:List L}{i:Nat}{y:L}(h:w[i]? = some y):pl x (w.take (i+1))=pl x (w.take i)++plO x y i:=by
 have hi:=(zf.mp h).1
 show plW x 0 _=plW x 0 _++_
 rw [zZ,h,Cc,kg,BO,zo,Nat.min_eq_left (by omega)]
theorem rA {x:L}{w:List L}(rd:Wd.Rd w){i:Nat}{y:L}(h:w[i]? = some y){p:Nat × Nat}(hp:p∈plO x y i):(∀ q∈pl x (w.take i),q.1≠p.1)∧∀ q∈pl x (w.take i),q.2≠p.2:=by
 have key:∀ q∈pl x (w.take i),q.1≠p.1∧q.2≠p.2:=fun q hq=>by
  obtain ⟨j,hj⟩:=kh.mp hq
  have lt:j < i∧(w[j]? = some x∧q=(j,j+1) ∨ w[j]? = some (inv x)∧q=(j+1,j)):=by
   rcases hj with ⟨h1,h2⟩ | ⟨h1,h2⟩
   ·have l:=(zf.mp h1).1
    rw [zo] at l
    rw [A5,if_pos (by omega)] at h1
    exact ⟨by omega,.inl ⟨h1,h2⟩⟩
   ·have l:=(zf.mp h1).1
    rw [zo] at l
    rw [A5,if_pos (by omega)] at h1
    exact ⟨by omega,.inr ⟨h1,h2⟩⟩
  obtain ⟨lt,hj⟩:=lt
  have to:j+1=i→∀ a,w[j]? = some a→y≠inv a:=fun e a ha=>su rd j a y ha (by rw [e];exact h)
  unfold plO at hp
  by_cases e:y=x
  ·rw [if_pos e,zc] at hp
   subst hp
   rcases hj with ⟨h1,rfl⟩ | ⟨h1,rfl⟩
   ·exact ⟨by show j≠i;omega,by show j+1≠i+1;omega⟩
   ·refine ⟨fun z=>?_,by show j≠i+1;omega⟩
    have z:j+1=i:=z
    exact to z _ h1 (by rw [df];exact e)
  ·rw [if_neg e] at hp
   by_cases e2:y=inv x
   ·rw [if_pos e2,zc] at hp
    subst hp
    rcases hj with ⟨h1,rfl⟩ | ⟨h1,rfl⟩
    ·refine ⟨by show j≠i+1;omega,fun z=>?_⟩
     have z:j+1=i:=z
     exact to z _ h1 e2
    ·exact ⟨by show j+1≠i+1;omega,by show j≠i;omega⟩
   ·rw [if_neg e2] at hp
    cases hp
 exact ⟨fun q hq=>(key q hq).1,fun q hq=>(key q hq).2⟩
theorem s_ (x y:L)(i:Nat):plO x y i=[] ∨ ∃ p,plO x y i=[p]:=by
 unfold plO
 split
 ·exact .inr ⟨_,rfl⟩
 ·split
  ·exact .inr ⟨_,rfl⟩
  ·exact .inl rfl
theorem kY {x:L}{w:List L}(rd:Wd.Rd w):∀ i,i≤w.length→((pl x (w.take i)).map Prod.fst).Nodup∧((pl x (w.take i)).map Prod.snd).Nodup
 | 0,_=>by simp [plW]
 | i+1,hi=>by
  obtain ⟨h1,h2⟩:=kY rd i (by omega)
  have hy:=y_ (show i < w.length by omega)
  rw [js hy]
  rcases s_ x w[i] i with e | ⟨p,e⟩
  ·rw [e,AA]
   exact ⟨h1,h2⟩
  ·obtain ⟨n1,n2⟩:=rA (x:=x) rd hy (p:=p) (by rw [e];exact zc.mpr rfl)
   rw [e,zT,zT]
   refine ⟨Bj.mpr ⟨h1,by simp,?_⟩,Bj.mpr ⟨h2,by simp,?_⟩⟩
   ·intro a ha b hb z
    obtain ⟨q,hq,rfl⟩:=zK.mp ha
    simp only [A0,CW,zc] at hb
    exact n1 q hq (z.trans hb)
   ·intro a ha b hb z
    obtain ⟨q,hq,rfl⟩:=zK.mp ha
    simp only [A0,CW,zc] at hb
    exact n2 q hq (z.trans hb)
theorem kZ {x:L}{w:List L}{p:Nat × Nat}(h:p∈pl x w):p.1 < w.length+1∧p.2 < w.length+1:=by
 obtain ⟨j,h⟩:=kh.mp h
 rcases h with ⟨h1,rfl⟩ | ⟨h1,rfl⟩
 ·have:=(zf.mp h1).1
  exact ⟨by show j < _;omega,by show j+1 < _;omega⟩
 ·have:=(zf.mp h1).1
  exact ⟨by show j+1 < _;omega,by show j < _;omega⟩
def rest (N:Nat)(l:List Nat):List Nat:=(List.range N).filter fun s=>decide (s∉l)
theorem eS {N:Nat}{l:List Nat}(nd:l.Nodup)(lt:∀ s∈l,s < N):(l++rest N l).Perm (List.range N):=by
 have hm:∀ a,a∈rest N l ↔ a < N∧a∉l:=fun a=>by unfold rest;rw [List.mem_filter,AO,Cb]
 refine (List.perm_ext_iff_of_nodup ?_ Bs).mpr fun a=>?_
 ·refine Bj.mpr ⟨nd,Bs.filter _,fun a ha b hb e=>?_⟩
  exact ((hm b).mp hb).2 (e ▸ ha)
 ·rw [zN,hm,AO]
  constructor
  ·rintro (h | h)
   ·exact lt a h
   ·exact h.1
  ·intro h
   by_cases q:a∈l
   ·exact .inl q
   ·exact .inr ⟨h,q⟩
theorem cP {N:Nat}{l:List Nat}(nd:l.Nodup)(lt:∀ s∈l,s < N):l.length+(rest N l).length=N:=by
 have:=(eS nd lt).length_eq
 rw [zk,zQ] at this
 exact this
def dv (x:L)(w:List L):List (Nat × Nat):=pl x w++(rest (w.length+1) ((pl x w).map Prod.fst)).zip (rest (w.length+1) ((pl x w).map Prod.snd))
theorem cv {x:L}{w:List L}(rd:Wd.Rd w):((dv x w).map Prod.fst).Perm (List.range (w.length+1))∧((dv x w).map Prod.snd).Perm (List.range (w.length+1)):=by
 obtain ⟨n1,n2⟩:=kY (x:=x) rd w.length (zu _)
 rw [z_] at n1 n2
 have l1:∀ s∈(pl x w).map Prod.fst,s < w.length+1:=fun s hs=>by obtain ⟨p,hp,rfl⟩:=zK.mp hs;exact (kZ hp).1
 have l2:∀ s∈(pl x w).map Prod.snd,s < w.length+1:=fun s hs=>by obtain ⟨p,hp,rfl⟩:=zK.mp hs;exact (kZ hp).2
 have r1:=cP n1 l1
 have r2:=cP n2 l2
 rw [zl] at r1 r2
 unfold dv
 rw [zT,zT,CA (by omega),List.map_snd_zip (by omega)]
 exact ⟨eS n1 l1,eS n2 l2⟩
theorem row_perm {Q:List (Nat × Nat)}{N:Nat}{g:Nat→Nat}(h1:(Q.map Prod.fst).Perm (List.range N))(h2:(Q.map Prod.snd).Perm (List.range N))(hg:∀ p∈Q,g p.1=p.2):PN N ((List.range N).map g):=by
 have e:(Q.map Prod.fst).map g=Q.map Prod.snd:=by rw [Ak];exact AV fun p hp=>hg p hp
 refine ((h1.symm.map g).trans ?_).trans h2
 rw [e]
structure qm (x:L) (w:List L) (r:List Nat):Prop where
 pn:PN (w.length+1) r
 up:∀ p,w[p]? = some x→r.getD p 0=p+1
 dn:∀ p,w[p]? = some (inv x)→r.getD (p+1) 0=p
theorem xJ {x:L}{w:List L}(rd:Wd.Rd w){g:Nat→Nat}(hg:∀ p∈dv x w,g p.1=p.2):qm x w ((List.range (w.length+1)).map g):=by
 obtain ⟨h1,h2⟩:=cv (x:=x) rd
 have at_:∀ s v,(s,v)∈pl x w→((List.range (w.length+1)).map g).getD s 0=v:=fun s v h=>by
  have hs:=(kZ h).1
  rw [zi,zH,Au hs]
  exact hg (s,v) (zJ _ h)
 exact ⟨row_perm h1 h2 hg,fun p hp=>at_ _ _ (kh.mpr ⟨p,.inl ⟨hp,rfl⟩⟩),fun p hp=>at_ _ _ (kh.mpr ⟨p,.inr ⟨hp,rfl⟩⟩)⟩
theorem tf:∀ (y:L),¬ y.val < 6→∀ h:y.val - 6 < 12,y=inv ⟨y.val - 6,h⟩:=by decide
theorem ki {t:List (List Nat)}{w:List L}{m:Nat}(hl:t.length=m)(hw:InM m w)(hr:∀ i,i < m→∀ h:i < 12,qm ⟨i,h⟩ w (t.getD i []))(m6:m≤6):∀ i,i≤w.length→ledN t 0 (w.take i)=i
 | 0,_=>rfl
 | i+1,hi=>by
  have ih:=ki hl hw hr m6 i (by omega)
  have hy:=y_ (show i < w.length by omega)
  have hin:=hw w[i] (zL _)
  have h12:=(w[i]).isLt
  rw [zZ,hy,Cc,dS,ih]
  unfold stp
  by_cases h:(w[i]).val < 6
  ·rw [if_pos h]
   have hm:(w[i]).val < m:=by rw [Nat.mod_eq_of_lt h] at hin;exact hin
   exact (hr _ hm (by omega)).up i (by rw [hy])
  ·rw [if_neg h]
   have hm:(w[i]).val - 6 < m:=by omega
   have R:=hr _ hm (by omega)
   refine R.pn.idx_of (by omega) (R.dn i ?_)
   rw [hy]
   congr 1
   exact tf _ h _
theorem cQ {ps:List (Key × L2.V)}{k:Key}(h:k∉ps.map Prod.fst):bO ps k=none:=by
 unfold bO
 rw [List.find?_eq_none.mpr]
 ·rfl
 ·intro p hp e
  exact h (zK.mpr ⟨p,hp,of_decide_eq_true e⟩)
theorem valV_in:∀ {ps:List (Key × L2.V)} {p:Key × L2.V},(ps.map Prod.fst).Nodup→p∈ps→bO ps p.1=some p.2
 | [],p,_,h=>by cases h
 | q::ps,p,nd,h=>by
  rw [A0,B6] at nd
  rcases zt.mp h with rfl | h
  ·exact ba rfl
  ·rw [bb fun e=>nd.1 (by rw [e];exact zK.mpr ⟨p,h,rfl⟩)]
   exact valV_in nd.2 h
theorem nX {ps:List (Key × L2.V)}(nd:(ps.map Prod.fst).Nodup):bE ps=ps:=by
 have go:∀ (qs:List (Key × L2.V)),(∃ rs,ps=qs++rs)→bE qs=qs:=fun qs=>by
  generalize hn:qs.length=n
  induction n generalizing qs with
  | zero=>intro _;rw [BS hn];rfl
  | succ n ih =>
   rintro ⟨rs,e⟩
   obtain ⟨us,u,rfl⟩:∃ us u,qs=us++[u]:=⟨qs.dropLast,qs.getLast (fun z=>by rw [z] at hn;cases hn),(List.dropLast_concat_getLast _).symm⟩
   have hu:=ih us (by rw [zk] at hn;simpa using hn) ⟨u::rs,by rw [e,zh];rfl⟩
   rw [L2.eR,hu]
   refine fF _ (cQ fun hm=>?_)
   rw [e,zh,zT,Bj] at nd
   exact nd.2.2 _ hm _ (by simp) rfl
 exact go ps ⟨[],(AA _).symm⟩
def kE (p:Nat × Nat):Key × L2.V:=(.inl (p.1:Int),.int (p.2:Int))
def tE (p:Nat × Nat):Key × L2.V:=(.inl (p.2:Int),.bl true)
theorem iz (ps:List (Nat × Nat)):(ps.map kE).map Prod.fst=(ps.map Prod.fst).map fun n:Nat=>(Sum.inl (n:Int):Key):=by rw [Ak,Ak]; rfl
theorem nY (ps:List (Nat × Nat)):(ps.map tE).map Prod.fst=(ps.map Prod.snd).map fun n:Nat=>(Sum.inl (n:Int):Key):=by rw [Ak,Ak]; rfl
theorem kj {l:List Nat}(h:l.Nodup):(l.map fun n:Nat=>(Sum.inl (n:Int):Key)).Nodup:=List.Pairwise.map _ (fun a b n e=>n (by have:=Sum.inl.inj e; omega)) h
theorem gp {l:List Nat}{s:Nat}:(Sum.inl (s:Int):Key)∈(l.map fun n:Nat=>(Sum.inl (n:Int):Key)) ↔ s∈l:=by
 rw [zK]
 constructor
 ·rintro ⟨a,ha,e⟩
  have:=Sum.inl.inj e
  obtain rfl:a=s:=by omega
  exact ha
 ·intro h
  exact ⟨s,h,rfl⟩
theorem xK {x y:L}{w:List L}{i:Nat}{p:Nat × Nat}(rd:Wd.Rd w)(hy:w[i]? = some y)(e:plO x y i=[p]):bo ((pl x (w.take i)).map kE) (.inl (p.1:Int)) (.int (p.2:Int))=(pl x (w.take (i+1))).map kE∧bo ((pl x (w.take i)).map tE) (.inl (p.2:Int)) (.bl true)=(pl x (w.take (i+1))).map tE:=by
 obtain ⟨n1,n2⟩:=rA (x:=x) rd hy (p:=p) (by rw [e];exact zc.mpr rfl)
 rw [js hy,e,zT,zT]
 constructor
 ·refine fF _ (cQ fun hm=>?_)
  rw [iz,gp] at hm
  obtain ⟨q,hq,z⟩:=zK.mp hm
  exact n1 q hq z
 ·refine fF _ (cQ fun hm=>?_)
  rw [nY,gp] at hm
  obtain ⟨q,hq,z⟩:=zK.mp hm
  exact n2 q hq z
def lkN (ps:List (Nat × Nat))(s:Nat):Nat:=((ps.find? fun p=>decide (p.1=s)).map Prod.snd).getD 0
theorem km:∀ {ps:List (Nat × Nat)} {p:Nat × Nat},(ps.map Prod.fst).Nodup→p∈ps→lkN ps p.1=p.2
 | [],p,_,h=>by cases h
 | q::ps,p,nd,h=>by
  rw [A0,B6] at nd
  unfold lkN
  rcases zt.mp h with rfl | h
  ·rw [List.find?_cons_of_pos (by simp)];rfl
  ·rw [List.find?_cons_of_neg (by simp;exact fun e=>nd.1 (by rw [e];exact zK.mpr ⟨p,h,rfl⟩))]
   exact km nd.2 h
def spr (x:L)(w:List L):List (Nat × Nat):=(rest (w.length+1) ((pl x w).map Prod.fst)).zip (rest (w.length+1) ((pl x w).map Prod.snd))
theorem jt {x:L}{w:List L}(rd:Wd.Rd w):(spr x w).map Prod.fst=rest (w.length+1) ((pl x w).map Prod.fst):=by
 obtain ⟨n1,n2⟩:=kY (x:=x) rd w.length (zu _)
 rw [z_] at n1 n2
 have r1:=cP n1 fun s hs=>by obtain ⟨p,hp,rfl⟩:=zK.mp hs;exact (kZ hp).1
 have r2:=cP n2 fun s hs=>by obtain ⟨p,hp,rfl⟩:=zK.mp hs;exact (kZ hp).2
 rw [zl] at r1 r2
 unfold spr
 rw [CA (by omega)]
theorem nZ {N:Nat}{l:List Nat}:(rest N l).Nodup:=Bs.filter _
theorem tj {x:L}{w:List L}(rd:Wd.Rd w):bE (((rest (w.length+1) ((pl x w).map Prod.fst)).map fun n:Nat=>(Sum.inl (n:Int):Key)).zip (iv (rest (w.length+1) ((pl x w).map Prod.snd))))=(spr x w).map kE:=by
 have e:((rest (w.length+1) ((pl x w).map Prod.fst)).map fun n:Nat=>(Sum.inl (n:Int):Key)).zip (iv (rest (w.length+1) ((pl x w).map Prod.snd)))=(spr x w).map kE:=by
  unfold iv spr
  rw [List.zip_map]
  rfl
 rw [e]
 refine nX ?_
 rw [iz,jt rd]
 exact kj nZ
theorem n9 {x:L}{w:List L}(rd:Wd.Rd w){s:Nat}(h:s∈(pl x w).map Prod.fst):bO ((pl x w).map kE) (.inl (s:Int))=some (.int ((lkN (dv x w) s:Nat):Int)):=by
 obtain ⟨p,hp,rfl⟩:=zK.mp h
 have n1:=(kY (x:=x) rd w.length (zu _)).1
 rw [z_] at n1
 have np:((dv x w).map Prod.fst).Nodup:=(cv rd).1.nodup_iff.mpr Bs
 rw [km np (zJ _ hp)]
 exact valV_in (p:=kE p) (by rw [iz];exact kj n1) (zK.mpr ⟨p,hp,rfl⟩)
theorem qo {x:L}{w:List L}{s:Nat}(h:s∉(pl x w).map Prod.fst):bO ((pl x w).map kE) (.inl (s:Int))=none:=cQ (by rw [iz,gp]; exact h)
theorem tm {x:L}{w:List L}(rd:Wd.Rd w){s:Nat}:(bO ((pl x w).map tE) (.inl (s:Int))).isSome=decide (s∈(pl x w).map Prod.snd):=by
 have n2:=(kY (x:=x) rd w.length (zu _)).2
 rw [z_] at n2
 by_cases h:s∈(pl x w).map Prod.snd
 ·rw [zx h]
  obtain ⟨p,hp,rfl⟩:=zK.mp h
  have e:bO ((pl x w).map tE) (.inl (p.2:Int))=some (.bl true):=valV_in (p:=tE p) (by rw [nY];exact kj n2) (zK.mpr ⟨p,hp,rfl⟩)
  rw [e]
  rfl
 ·rw [zC h,cQ (by rw [nY,gp];exact h)]
  rfl
theorem n_ {x:L}{w:List L}(rd:Wd.Rd w){s:Nat}:(bO ((pl x w).map kE) (.inl (s:Int))).isSome=decide (s∈(pl x w).map Prod.fst):=by
 by_cases h:s∈(pl x w).map Prod.fst
 ·rw [zx h,n9 rd h];rfl
 ·rw [zC h,qo h];rfl
theorem tq {x:L}{w:List L}(rd:Wd.Rd w){s:Nat}(hs:s < w.length+1)(h:s∉(pl x w).map Prod.fst):bO ((spr x w).map kE) (.inl (s:Int))=some (.int ((lkN (dv x w) s:Nat):Int)):=by
 have hm:s∈(spr x w).map Prod.fst:=by
  rw [jt rd]
  unfold rest
  rw [List.mem_filter,AO,Cb]
  exact ⟨hs,h⟩
 obtain ⟨p,hp,rfl⟩:=zK.mp hm
 have np:((dv x w).map Prod.fst).Nodup:=(cv rd).1.nodup_iff.mpr Bs
 rw [km np (zr _ hp)]
 exact valV_in (p:=kE p) (by rw [iz,jt rd];exact kj nZ) (zK.mpr ⟨p,hp,rfl⟩)
theorem cR {N j:Nat}{l:List Nat}:((List.range N).take (j+1)).filter (fun s=>decide (s∉l))=((List.range N).take j).filter (fun s=>decide (s∉l))++(if j < N∧j∉l then [j] else []):=by
 by_cases hj:j < N
 ·rw [zZ,Au hj,List.filter_append]
  congr 1
  by_cases h:j∈l <;> simp [h,hj]
 ·rw [if_neg (fun z=>hj z.1),AA,zB (by rw [zQ];omega),zB (by rw [zQ];omega)]
theorem vP:bootBuiltins "dict" = some (.type "dict"):=by kernel_rfl
theorem k_ {P:Program}{w:World}{K:PySem.W.Frag}{mg:Str→Option Value}{base:Heap}{x:Str}{ps:List Str}{k:Nat}{sp sp':Sp}(F:oE P w K mg base x ps k sp)(h:∀ vs H Q E,sp' vs H Q E→sp vs H Q E0):Fnc P w K mg base x ps k sp' :=
 let ⟨f,fd,a,b,c,d⟩:=F.ex
 ⟨f,fd,a,b,c,⟨fun vs H Q E q=>d.len vs H Q E0 (h _ _ _ _ q),fun A outer s H args us vs Q E hr he hb hv hs=>Ca (d.run A outer s H args us vs Q E0 hr he hb hv (h _ _ _ _ hs)) fun r s' z=>by
  cases r with
  | ok fl=>cases fl <;> exact z
  | error e=>obtain ⟨_,_,_,_,_,_,_,_,_,_,_,z⟩:=z;exact z.elim⟩⟩
inductive gq (vs:List L2.V)(H:Hp)(Q:VK)(E:XK):Prop
 | mk:∀ (r a:Addr) (y:L2.V) (m n s:Nat) (t:List (List Nat)) (w:List L),vs=[.int (m:Int),.ref r,tx w,.ref a]→H a=some (.tup [.str "seats",y,.int (s:Int)])→H r=some (.tup [])→kP H y t→Tb m n t→1≤m→m≤6→n≤1001→s < n→InM m w→w.length≤5000→ledN t s w≠s→(∀ H',az H H'→Q (.bl true) H')→gq vs H Q E
theorem tu {P:Program}{w:World}{K:PySem.W.Frag}{mg:Str→Option Value}{base:Heap}{C:Addr}{x:Str}{ps:List Str}{k:Nat}(F:oE P w K mg base x ps k (jq C)):Fnc P w K mg base x ps k gq:=by
 refine k_ F fun vs H Q E h=>?_
 obtain ⟨r,a,y,m,n,s,t,w,rfl,ha,hr,ht,Tt,m1,m6,n1,sn,hw,wl,hl,k⟩:=h
 have e:bJ n t [] w s=none:=by unfold bJ bU;rw [if_pos n1];show (if ledN t s w=s then _ else _)=none;rw [if_neg hl]
 exact ⟨r,a,y,m,n,s,t,[],w,rfl,ha,hr,ht,Tt,m1,m6,by omega,sn,hw,wl,(fun v hv=>by cases hv),fun _=>k,fun z j q=>by rw [e] at q;cases q⟩
inductive oa (vs:List L2.V)(H:Hp)(Q:VK)(E:XK):Prop
 | mk:∀ (x:L) (w:List L),vs=[tx [x],tx w]→Wd.Rd w→w.length≤1000→(∀ (p:Addr) (r:List Nat) (H':Hp),qm x w r→H' p=some (.tup (iv r))→az H H'→Q (.ref p) H')→oa vs H Q E
inductive ju (vs:List L2.V)(H:Hp)(Q:VK)(E:XK):Prop
 | mk:∀ (m:Nat) (w:List L),vs=[.int (m:Int),tx w]→1≤m→m≤6→InM m w→Wd.Rd w→w.length≤1000→(∀ (x:L2.V) (t:List (List Nat)) (H':Hp),kP H' x t→Tb m (w.length+1) t→ledN t 0 w=w.length→az H H'→Q x H')→ju vs H Q E
inductive gr (vs:List L2.V)(H:Hp)(Q:VK)(E:XK):Prop
 | mk:∀ (x:L2.V) (m n:Nat) (t:List (List Nat)),vs=[.int (m:Int),.int (n:Int),x]→kP H x t→Tb m n t→m≤6→1≤n→n≤1001→(∀ H',az H H'→Q (.bl true) H')→gr vs H Q E
inductive eU (vs:List L2.V)(H:Hp)(Q:VK)(E:XK):Prop
 | mk:∀ (m:Nat) (w:List L),vs=[.int (m:Int),tx w]→1≤m→m≤6→InM m w→Wd.Rd w→w≠[]→w.length≤1000→(∀ H',az H H'→Q (.bl true) H')→eU vs H Q E
theorem nkT {Q:Bool→Hp→Prop}{H:Hp}(h:Q false H):lA Q true H:=h
def sma (m:Nat):List L:=([0,1,2,3,4,5]:List L).take m
theorem og (m:Nat):Txt.slice ("abcdef":Str) none (some (m:Int))=toS (sma m):=by
 have e:("abcdef":Str)=toS [0,1,2,3,4,5]:=by decide +kernel
 rw [e,aV,gX _ (by omega),AF]
 rfl
theorem tw {m:Nat}(h:m≤6):(sma m).length=m:=by
 unfold sma
 rw [zo]
 show min m 6=m
 omega
theorem vQ {m i:Nat}{x:L}(h:(sma m)[i]? = some x):∃ hi:i < 12,x=⟨i,hi⟩:=by
 unfold sma at h
 rw [A5] at h
 split at h
 ·have d:∀ j:Nat,j < 6→∀ x:L,([0,1,2,3,4,5]:List L)[j]? = some x→x.val=j:=by decide
  have hl:=(zf.mp h).1
  have hl:i < 6:=hl
  have:=d i hl x h
  exact ⟨by omega,Fin.ext this⟩
 ·cases h
def top (i:Nat):Stmt:=PySem.Challenge.pw_ringwords_k20_lines_of_seats.main.body.getD i (.Pass ⟨0,0,0,0⟩)
theorem oF {α:Type}{us:List α}(h:us.length=1):∃ a0,us=[a0]:=by
 cases us with
 | nil=>cases h
 | cons a0 us =>
  cases us with
  | nil=>exact ⟨a0,rfl⟩
  | cons b us=>cases h
theorem tD {α:Type}{us:List α}(h:us.length=2):∃ a0 a1,us=[a0,a1]:=by
 cases us with
 | nil=>cases h
 | cons a0 us =>
  cases us with
  | nil=>cases h
  | cons a1 us =>
   cases us with
   | nil=>exact ⟨a0,a1,rfl⟩
   | cons b us=>cases h
theorem uo {α:Type}{us:List α}(h:us.length=3):∃ a0 a1 a2,us=[a0,a1,a2]:=by
 cases us with
 | nil=>cases h
 | cons a0 us =>
  cases us with
  | nil=>cases h
  | cons a1 us =>
   cases us with
   | nil=>cases h
   | cons a2 us =>
    cases us with
    | nil=>exact ⟨a0,a1,a2,rfl⟩
    | cons b us=>cases h
theorem yj {α:Type}{us:List α}(h:us.length=4):∃ a0 a1 a2 a3,us=[a0,a1,a2,a3]:=by
 cases us with
 | nil=>cases h
 | cons a0 us =>
  cases us with
  | nil=>cases h
  | cons a1 us =>
   cases us with
   | nil=>cases h
   | cons a2 us =>
    cases us with
    | nil=>cases h
    | cons a3 us =>
     cases us with
     | nil=>exact ⟨a0,a1,a2,a3,rfl⟩
     | cons b us=>cases h
section
variable {P:Program} {w:World} {K:PySem.W.Frag} {mg:Str→Option Value} {base:Heap} {aB:Addr}
abbrev iA:Stmt:=top 58
theorem tF:aC ["_law_feed_here","_law_many","_law_cell","_law_mixed","_law_found"] ["_law_feed_here","_law_many"] (af iA):=⟨rfl,rfl,rfl,by decide +kernel,rfl,by decide +kernel,by decide +kernel⟩
theorem vR (D:Df K mg "_law_draw" iA)(T:Bt K w mg aB):Fnc P w K mg base "_law_draw" ["_law_feed_here","_law_many"] 1 jl:=by
 have sc:=tF
 refine D.ok sc (fun _ _ _ _ _ _ us hl=>by obtain ⟨_,_,rfl⟩:=tD hl;rfl) (fun vs H Q E h=>?_) (fun f cdv A outer s H vs Q E hr h=>?_)
 ·obtain ⟨d,m,c,rfl,_⟩:=h
  rfl
 ·obtain ⟨d,m,c,rfl,F,m0,m1,k⟩:=h
  have hu:=kD hr
  refine ⟨_,(@ah _ _ _ _ _ (@bM _ _ _ _ _ _ _ _ _ hu (pv 0) aD (@aG _ _ _ _ _ _ _ _ bf (@bh _ _ _ _ _ _ hu (pv 0) aD (fun _ _=>rfl)) ak) rfl) (@ah _ _ _ _ _ (@bA _ _ _ _ _ _ _ _ (@aK _ _ _ _ _ _ _ _ cC (@bh _ _ _ _ _ _ hu (pv 0) aD (fun _ _=>rfl)) ak (aP _)) (@ah _ _ _ _ _ (@aF _ _ (2) _ _ _ _ sc.nd rfl (Or.inl rfl) (@bB _ _ _ _ _ _ _ iZ (@bh _ _ _ _ _ _ hu (pv 0) aD (fun _ _=>rfl)) (@aG _ _ _ _ _ _ _ _ d3 (@bh _ _ _ _ _ _ hu (pv 0) aD (fun _ _=>rfl)) (@aw _ _ _ _ _ _ _ _ _ aE (by rfl) T.len zW (@aa _ _ _ _ _ (@bh _ _ _ _ _ _ hu (pv 0) aD (fun _ _=>rfl)) ag (by rfl)) (by decide) (by decide) (by rfl) (by rfl))) (fun _ _=>rfl)) (by rfl) (by first | exact .inl rfl | exact .inr rfl | assumption)) (@ah _ _ _ _ _ (@bM _ _ _ _ _ _ _ _ _ hu (pv 0) aD (@aG _ _ _ _ _ _ _ _ bf (@bh _ _ _ _ _ _ hu (pv 0) aD (fun _ _=>rfl)) ak) rfl) (@ah _ _ _ _ _ (@bA _ _ _ _ _ _ _ _ (@aK _ _ _ _ _ _ _ _ oX (pv 2) (@aG _ _ _ _ _ _ _ _ uH ak ak) (aP _)) (@ah _ _ _ _ _ (@aF _ _ (3) _ _ _ _ sc.nd rfl (Or.inl rfl) (@aG _ _ _ _ _ _ _ _ d3 (@aG _ _ _ _ _ _ _ _ fh (@aG _ _ _ _ _ _ _ _ bf (@aG _ _ _ _ _ _ _ _ d3 (pv 2) ak) (@aG _ _ _ _ _ _ _ _ fh ak (@bh _ _ _ _ _ _ hu (pv 0) aD (fun _ _=>rfl)))) ak) ak) (by rfl) (by first | exact .inl rfl | exact .inr rfl | assumption)) (@ah _ _ _ _ _ (@aF _ _ (3) _ _ _ _ sc.nd rfl (Or.inl rfl) (@aG _ _ _ _ _ _ _ _ d3 (@aG _ _ _ _ _ _ _ _ fh (@aG _ _ _ _ _ _ _ _ bf (@aG _ _ _ _ _ _ _ _ cX (pv 3) ak) (@aG _ _ _ _ _ _ _ _ fh ak (@bh _ _ _ _ _ _ hu (pv 0) aD (fun _ _=>rfl)))) ak) ak) (by rfl) (by first | exact .inl rfl | exact .inr rfl | assumption)) (@aj _ _ _ (@aI _ _ _ _ (@aG _ _ _ _ _ _ _ _ d3 (@aG _ _ _ _ _ _ _ _ cX (pv 3) ak) (pv 1)))))) aU) (@aj _ _ _ (@bM _ _ _ _ _ _ _ _ _ hu (pv 0) aD (pv 2) rfl))))) aU) (@ah _ _ _ _ _ (@aF _ _ (4) _ _ _ _ sc.nd rfl (Or.inl rfl) (@aG _ _ _ _ _ _ _ _ d3 (@bh _ _ _ _ _ _ hu (pv 0) aD (fun _ _=>rfl)) (pv 1)) (by rfl) (by first | exact .inl rfl | exact .inr rfl | assumption)) (@ah _ _ _ _ _ (@bM _ _ _ _ _ _ _ _ _ hu (pv 0) aD (@aG _ _ _ _ _ _ _ _ cX (@bh _ _ _ _ _ _ hu (pv 0) aD (fun _ _=>rfl)) (pv 1)) rfl) (@aj _ _ _ (@aI _ _ _ _ (pv 4))))))),?_⟩
  obtain ⟨i,l,t,ns,hd,hc,hne,h64⟩:=F.ex
  have dc:c≠d:=oG hc hd (by intro z;cases z)
  have fin:∀ (r i' l' t':Int),0≤r→r < m→Q (.int r) (upd H d (.dK (fkv c i' l' t'))):=fun r i' l' t' h0 h1 =>
   k r _ h0 h1 ⟨i',l',t',ns,ae,by rw [aq dc];exact hc,hne,h64⟩ bX.upd
  have c1:∀ o,(upd H d o) c=some (.lst (ns.map V.int)):=fun o=>by rw [aq dc];exact hc
  have hl0:(0:Int) < ((ns.map V.int).length:Int):=by
   rw [zl]
   have:=List.length_pos_iff.mpr hne
   omega
  refine ⟨_,rfl,d,_,rfl,dg hd (mJ c i l t),_,_,rfl,rfl,_,rfl,d,_,rfl,dp hd (eD c i l t) (u5 c i l t _),?_⟩
  refine ⟨_,rfl,d,_,rfl,dg ae (g9 c i l _),rfl,_,rfl,?_⟩
  refine ud (fun _=>?_) (fun _=>?_)
  rotate_left
  ·refine ⟨_,rfl,d,_,rfl,dg ae (g9 c _ _ _),_,rfl,_,_,rfl,rfl,m0,?_⟩
   refine ⟨_,rfl,d,_,rfl,dg ae (g9 c _ _ _),_,rfl,_,_,rfl,rfl,⟨m0,by omega⟩,_,rfl,d,_,rfl,dp ae (eD c _ _ _) (mK c _ _ _ _),?_⟩
   refine ⟨_,rfl,?_⟩
   rw [cW]
   exact fin _ _ _ _ (B8 _ (by omega)) (BE _ m0)
  obtain ⟨n,hn⟩:=si hne i
  refine ⟨_,rfl,d,_,rfl,dg ae (mI c i l _),_,rfl,d,_,rfl,dg ae (x_ c i l _),_,rfl,d,_,rfl,dg ae (mI c i l _),c,_,rfl,.inl (SqL.of (c1 _)),_,_,rfl,rfl,hl0,c,_,_,_,rfl,rfl,SqL.of (c1 _),hn,?_⟩
  refine ⟨_,rfl,d,_,rfl,dg ae (x_ c i l _),_,_,rfl,rfl,_,rfl,d,_,rfl,dp ae (eD c i l _) (yO c i l _ _),?_⟩
  rw [cW]
  refine ⟨_,rfl,_,_,rfl,rfl,⟨by decide,by decide,by decide⟩,_,_,rfl,rfl,_,rfl,?_⟩
  refine ud (fun _=>?_) (fun _=>?_)
  ·refine ⟨_,rfl,_,_,rfl,rfl,(by show (0:Int) < 2147483629;decide),_,rfl,d,_,rfl,dg ae (mJ c _ l _),_,_,rfl,rfl,.inl ⟨by decide,by decide⟩,_,_,rfl,rfl,_,_,rfl,rfl,.inr ⟨by decide,by decide⟩,_,_,rfl,rfl,(by show (0:Int) < 2147483647;decide),?_⟩
   refine ⟨_,rfl,_,_,rfl,rfl,⟨by decide,by decide⟩,_,rfl,d,_,rfl,dg ae (mJ c _ l _),_,_,rfl,rfl,.inl ⟨by decide,by decide⟩,_,_,rfl,rfl,_,_,rfl,rfl,.inr ⟨by decide,by decide⟩,_,_,rfl,rfl,(by show (0:Int) < 2147483587;decide),?_⟩
   refine ⟨_,rfl,_,_,rfl,rfl,⟨by decide,by decide⟩,_,rfl,_,_,rfl,rfl,m0,?_⟩
   exact fin _ _ _ _ (B8 _ (by omega)) (BE _ m0)
  ·refine ⟨_,rfl,_,rfl,d,_,rfl,dp ae (eD c _ l _) (mK c _ l _ _),?_⟩
   rw [cW]
   refine ⟨_,rfl,d,_,rfl,dg ae (g9 c _ _ _),_,rfl,_,_,rfl,rfl,m0,?_⟩
   refine ⟨_,rfl,d,_,rfl,dg ae (g9 c _ _ _),_,rfl,_,_,rfl,rfl,⟨m0,by omega⟩,_,rfl,d,_,rfl,dp ae (eD c _ _ _) (mK c _ _ _ _),?_⟩
   refine ⟨_,rfl,?_⟩
   rw [cW]
   exact fin _ _ _ _ (B8 _ (by omega)) (BE _ m0)
abbrev iB:Stmt:=top 57
theorem tG:aC ["_law_script"] ["_law_script"] (af iB):=⟨rfl,rfl,rfl,by decide +kernel,rfl,by decide +kernel,by decide +kernel⟩
theorem vS (D:Df K mg "_law_feed" iB)(T:Bt K w mg aB):Fnc P w K mg base "_law_feed" ["_law_script"] 1 (mL K):=by
 have sc:=tG
 refine D.ok sc (fun _ _ _ _ _ _ us hl=>by obtain ⟨_,rfl⟩:=oF hl;rfl) (fun vs H Q E h=>?_) (fun f cdv A outer s H vs Q E hr h=>?_)
 ·obtain ⟨a,ns,rfl,_⟩:=h
  rfl
 ·obtain ⟨a,ns,rfl,hS,hlen,k⟩:=h
  have hu:=kD hr
  refine ⟨_,(@aj _ _ _ (@aI _ _ _ _ (@rX _ _ _ _ _ (@dM _ _ _ _ _ _ _ _ _ aD (@aG _ _ _ _ _ _ _ _ uR (@aQ _ _ _ _ _ _ _ _ _ gL (by rfl) T.list hG (@aa _ _ _ _ _ (@bw _ _ _ _ _ _ _ _ _ _ rR (pv 0) bQ (@bR _ _ _ ak)) ag (by rfl)) (by decide) (by decide) (by rfl) (by rfl)) (@aG _ _ _ _ _ _ _ _ qP (@jA _ _ _ _ (@aa _ _ _ _ _ ak ag (by rfl))) (@aQ _ _ _ _ _ _ _ _ _ lI (by rfl) T.int sj (@aa _ _ _ _ _ (@cY _ _ _ _ _ _ _ _ cC (@aw _ _ _ _ _ _ _ _ _ aE (by rfl) T.len zW (@aa _ _ _ _ _ (pv 0) ag (by rfl)) (by decide) (by decide) (by rfl) (by rfl)) ak (aP _)) ag (by rfl)) (by decide) (by decide) (by rfl) (by rfl)))) (@dM _ _ _ _ _ _ _ _ _ aD ak (@dM _ _ _ _ _ _ _ _ _ aD ak (@dM _ _ _ _ _ _ _ _ _ aD ak rW)))) rfl rfl (by simp) (by decide)))),?_⟩
  intro p hp
  have s1:az H (upd H p (.dK [])):=az.new hp
  have p1:(upd H p (.dK [])) p=some (.dK []):=ae
  generalize upd H p (.dK [])=H1 at s1 p1
  refine ⟨_,rfl,_,rfl,a,_,rfl,s1.seq hS,fun q1 hq1=>?_⟩
  rw [xf hlen]
  have s2:az H1 (upd H1 q1 (.lst (ns.map V.int))):=az.new hq1
  have l2:(upd H1 q1 (.lst (ns.map V.int))) q1=some (.lst (ns.map V.int)):=ae
  generalize upd H1 q1 (.lst (ns.map V.int))=H2 at s2 l2 ⊢
  refine ⟨q1,_,rfl,.inl (SqL.of l2),fun q2 hq2=>?_⟩
  have s3:az H2 (upd H2 q2 (.lst (ns.map V.int))):=az.new hq2
  have l3:(upd H2 q2 (.lst (ns.map V.int))) q2=some (.lst (ns.map V.int)):=ae
  generalize upd H2 q2 (.lst (ns.map V.int))=H3 at s3 l3 ⊢
  refine ⟨(by show 1≤sizeLine;decide),fun q4 hq4=>?_⟩
  have s4:az H3 (upd H3 q4 (.lst [V.int 0])):=az.new hq4
  have l4:(upd H3 q4 (.lst [V.int 0])) q4=some (.lst [V.int 0]):=ae
  generalize upd H3 q4 (.lst [V.int 0])=H4 at s4 l4 ⊢
  have s14:az H H4:=((s1.trans s2).trans s3).trans s4
  refine ⟨_,rfl,a,_,rfl,.inl (s14.seq hS),rfl,.inr ⟨_,rfl,q4,_,_,rfl,rfl,l4,?_,?_,?_,fun q5 hq5=>?_⟩⟩
  ·split <;> decide
  ·split <;> decide
  ·split <;> decide
  have s5:az H4 (upd H4 q5 (.lst (List.replicate ((if decide (V.int ((ns.map V.int).length:Int)=V.int 0)=true then 1 else 0:Int)).toNat [V.int 0]).flatten)):=az.new hq5
  have l5:(upd H4 q5 (.lst (List.replicate ((if decide (V.int ((ns.map V.int).length:Int)=V.int 0)=true then 1 else 0:Int)).toNat [V.int 0]).flatten)) q5=_:=ae
  generalize upd H4 q5 (.lst (List.replicate ((if decide (V.int ((ns.map V.int).length:Int)=V.int 0)=true then 1 else 0:Int)).toNat [V.int 0]).flatten)=H5 at s5 l5 ⊢
  refine ⟨q2,q5,_,_,rfl,rfl,s5 _ _ (s4 _ _ l3),l5,?_,fun q6 hq6=>?_⟩
  ·have e:(List.replicate ((if decide (V.int ((ns.map V.int).length:Int)=V.int 0)=true then 1 else 0:Int)).toNat [V.int 0]).flatten.length≤1:=by split <;> decide
   have e2:sizeLine=16777216:=Bu
   have e3:(ns.map V.int).length=ns.length:=zl ..
   omega
  have el:ns.map V.int++(List.replicate ((if decide (V.int ((ns.map V.int).length:Int)=V.int 0)=true then 1 else 0:Int)).toNat [V.int 0]).flatten=(if ns=[] then [0] else ns).map V.int:=by
   cases ns with
   | nil=>rfl
   | cons n r =>
    have en:¬ (decide (V.int (((n::r).map V.int).length:Int)=V.int 0)=true):=by
     rw [zl,Ar]
     simp only [V.int.injEq,Ba]
     omega
    rw [if_neg en,if_neg (by simp)]
    simp
  rw [el]
  have s6:az H5 (upd H5 q6 (.lst ((if ns=[] then [0] else ns).map V.int))):=az.new hq6
  have l6:(upd H5 q6 (.lst ((if ns=[] then [0] else ns).map V.int))) q6=_:=ae
  generalize upd H5 q6 (.lst ((if ns=[] then [0] else ns).map V.int))=H6 at s6 l6 ⊢
  have p6:H6 p=some (.dK []):=s6 _ _ (s5 _ _ (s4 _ _ (s3 _ _ (s2 _ _ p1))))
  have pq:q6≠p:=oG l6 p6 (by intro z;cases z)
  refine ⟨p6,fkv q6 0 0 0,rfl,(by show 4≤15;decide),?_⟩
  rw [w9]
  refine k p _ hp ⟨q6,0,0,0,(if ns=[] then [0] else ns),ae,by rw [aq pq];exact l6,?_,?_⟩ fun b o e=>?_
  ·split
   ·simp
   ·assumption
  ·split
   ·decide
   ·omega
  ·rw [aq (ao e hp)]
   exact s6 _ _ (s5 _ _ (s14 _ _ e))
abbrev iC:Stmt:=top 7
theorem tH:aC ["word"] ["word"] (af iC):=⟨rfl,rfl,rfl,by decide +kernel,rfl,by decide +kernel,by decide +kernel⟩
theorem vT (D:Df K mg "back" iC)(T:Bt K w mg aB):Fnc P w K mg base "back" ["word"] 1 sk:=by
 have sc:=tH
 refine D.ok sc (fun _ _ _ _ _ _ us hl=>by obtain ⟨_,rfl⟩:=oF hl;rfl) (fun vs H Q E h=>?_) (fun f cdv A outer s H vs Q E hr h=>?_)
 ·obtain ⟨u,rfl,_⟩:=h
  rfl
 ·obtain ⟨u,rfl,hu,k⟩:=h
  have l16:=bj
  refine ⟨_,(@aj _ _ _ (@aI _ _ _ _ (@pf _ _ _ _ _ _ _ _ _ _ _ _ Am PySem.F.slot_str_join PySem.F.type_str_join mi aD (@aa _ _ _ _ _ (@bN _ _ _ _ _ _ _ (["letter"]) (["letter"]) ([]) _ _ _ _ (@b_ _ _ _ _ _ _ rfl (by kernel_rfl)) rfl (@rY _ _ _ _ _ _ rfl T.reversed kG (@aa _ _ _ _ _ (pv 0) ag (by rfl)) (by rfl)) (fun _ _ _ _=>@aH _ _ (0) _ (show (["letter"]:List Str).Nodup from by decide +kernel) rfl (Or.inl rfl) (by first | exact .inl rfl | exact .inr rfl | assumption)) (fun _ _ _ _=>bH) (fun _ _ _ _=>by (exact (@rZ _ _ _ _ _ _ _ _ _ T.dB rfl rfl rfl T.mgB (pv 0) (fun _ _=>rfl) (by decide)))) (by intro _ ;rfl)) ag (by rfl)) (by rfl) (by rfl) (by rfl) (by rfl) (by rfl)))),?_⟩
  refine ⟨rfl,_,rfl,_,rfl,(by rw [ai];omega),?_⟩
  refine c_ (own:=["letter"]) (cap:=[]) (J:=wV (toS u)) u.length (fun i ys σ H'=>H'=H∧ys=pF ((bk u).take i)∧∃ v,σ = [v]) ⟨rfl,rfl,none,rfl⟩ (fun i ys σ H' hi ⟨_,e,_⟩=>?_) (by omega) (fun i ys σ H' hi _=>?_) (fun ys σ H' _=>?_) ?_ ?_
  ·rw [e,eE,zo];omega
  ·show i < (toS u).cps.size;rw [bq];exact hi
  ·show _=(toS u).cps.size;rw [bq]
  ·rintro i ys σ H1 x H2 N hi ⟨rfl,rfl,v,rfl⟩ ⟨rfl,c,hc,rfl⟩ hN
   rw [bq] at hc
   obtain ⟨y,hy,e⟩:=cD hc
   obtain ⟨t,ht⟩:=T.gB y
   refine ⟨_,rfl,toS [y],toS [inv y],t,by rw [e],ht,hN _ _ _ ⟨rfl,?_,_,rfl⟩⟩
   rw [cj (u9 u hi hy),← hJ]
   rfl
  ·rintro ys σ H1 l ⟨rfl,rfl,v,rfl⟩ hl
   rw [zB (by rw [bt];exact zu _)]
   refine ⟨_,l,(bk u).map fun x=>toS [x],rfl,rfl,SqL.of (by rw [ae,jN]),hX _ (by rw [bt];omega),?_⟩
   rw [hU]
   exact k _ (az.new hl)
abbrev eV:Stmt:=top 10
theorem qp:aC ["thing"] ["thing"] (af eV):=⟨rfl,rfl,rfl,by decide +kernel,rfl,by decide +kernel,by decide +kernel⟩
theorem tI (D:Df K mg "is_whole" eV)(T:Bt K w mg aB)(Tbool:mg "bool" = none):Fnc P w K mg base "is_whole" ["thing"] 1 (fZ K):=by
 have sc:=qp
 refine D.ok sc (fun _ _ _ _ _ _ us hl=>by obtain ⟨_,rfl⟩:=oF hl;rfl) (fun vs H Q E h=>?_) (fun f cdv A outer s H vs Q E hr h=>?_)
 ·obtain ⟨x,rfl,_⟩:=h
  rfl
 ·obtain ⟨x,rfl,⟨ty,e1,e2,hx⟩,k⟩:=h
  rw [hx] at k
  refine ⟨_,(@aj _ _ _ (@aI _ _ _ _ (@dw _ _ _ _ _ _ _ (@aw _ _ _ _ _ _ _ _ _ (@br _ (K) rfl) (by rfl) T.isinstance aM (@aa _ _ _ _ _ (pv 0) (@aa _ _ _ _ _ (@bK _ _ (.ty "int") _ _ rfl T.int sj rfl (by decide) (by decide)) ag (by rfl)) (by rfl)) (by decide) (by decide) (by rfl) (by rfl)) (@gy _ _ _ _ _ (@uz _ _ _ _ (@aw _ _ _ _ _ _ _ _ _ (@br _ (K) rfl) (by rfl) T.isinstance aM (@aa _ _ _ _ _ (pv 0) (@aa _ _ _ _ _ (@bK _ _ (.ty "bool") _ _ rfl Tbool q8 rfl (by decide) (by decide)) ag (by rfl)) (by rfl)) (by decide) (by decide) (by rfl) (by rfl))))))),?_⟩
  refine ⟨_,rfl,_,_,_,_,rfl,ty,e1,_,rfl,?_⟩
  rename_i b1 b2
  cases b1 with
  | false=>exact oA k
  | true=>exact pk ⟨_,rfl,_,_,_,_,rfl,ty,e2,_,rfl,k⟩
abbrev eW:Stmt:=top 14
theorem qq:aC ["thing"] ["thing"] (af eW):=⟨rfl,rfl,rfl,by decide +kernel,rfl,by decide +kernel,by decide +kernel⟩
theorem tJ (D:Df K mg "is_row" eW)(T:Bt K w mg aB)(MT:∃ t,mg "MOST_SEATS" = some (.int 1001 t))(F_whole:Fnc P w K mg base "is_whole" ["thing"] 1 (fZ K)):Fnc P w K mg base "is_row" ["thing"] 2 (jj K):=by
 have sc:=qq
 refine D.ok sc (fun _ _ _ _ _ _ us hl=>by obtain ⟨_,rfl⟩:=oF hl;rfl) (fun vs H Q E h=>?_) (fun f cdv A outer s H vs Q E hr h=>?_)
 ·obtain ⟨x,o,rfl,_⟩:=h
  rfl
 ·obtain ⟨x,o,rfl,hx,k⟩:=h
  have l16:=bj
  obtain ⟨tT,mgT⟩:=MT
  refine ⟨_,(@ah _ _ _ _ _ (@bA _ _ _ _ _ _ _ _ (@PW.pt _ _ _ (@gx _ _ _ _ _ _ _ (@bY _ _ _ _ (@bg _ _ _ (@aw _ _ _ _ _ _ _ _ _ (@br _ (K) rfl) (by rfl) T.isinstance aM (@aa _ _ _ _ _ (pv 0) (@aa _ _ _ _ _ (@bK _ _ (.ty "tuple") _ _ rfl T.tuple cg rfl (by decide) (by decide)) ag (by rfl)) (by rfl)) (by decide) (by decide) (by rfl) (by rfl)) (fun _=>rfl))) (@dY _ _ _ _ (@bY _ _ _ _ (@o6 _ _ _ _ _ _ _ _ _ _ _ _ rF rF ak (@aw _ _ _ _ _ _ _ _ _ aE (by rfl) T.len zW (@aa _ _ _ _ _ (pv 0) ag (by rfl)) (by decide) (by decide) (by rfl) (by rfl)) (@iR _ _ (.int 1001) _ _ rfl mgT ⟨_,rfl⟩ (by decide)) (by with_unfolding_all rfl)))))) (@aj _ _ _ (@aI _ _ _ _ cw)) aU) (@aj _ _ _ (@aI _ _ _ _ (@dw _ _ _ _ _ _ _ (@aw _ _ _ _ _ _ _ _ _ (@cB _ rfl) (by rfl) T.all u6 (@aa _ _ _ _ _ (@bN _ _ _ _ _ _ _ (["seat"]) (["seat"]) ([]) _ _ _ _ (@b_ _ _ _ _ _ _ rfl (by kernel_rfl)) rfl (@gz _ _ _ _ (pv 0)) (fun _ _ _ _=>@aH _ _ (0) _ (show (["seat"]:List Str).Nodup from by decide +kernel) rfl (Or.inl rfl) (by first | exact .inl rfl | exact .inr rfl | assumption)) (fun _ _ _ _=>bH) (fun _ _ _ _=>by (exact (@aO _ _ _ _ _ _ _ _ _ _ _ F_whole hr (by decide) rfl (@aa _ _ _ _ _ (pv 0) ag (by rfl)) (by decide) (by rfl) (by rfl)))) (by intro _ ;rfl)) ag (by rfl)) (by decide) (by decide) (by rfl) (by rfl)) (@gy _ _ _ _ _ (@cY _ _ _ _ _ _ _ _ (@nq _ (by exact hr.units)) (@aw _ _ _ _ _ _ _ _ _ (@bV _ _ rfl) (by rfl) T.sorted jM (@aa _ _ _ _ _ (pv 0) ag (by rfl)) (by decide) (by decide) (by rfl) (by rfl)) (@aQ _ _ _ _ _ _ _ _ _ (@bx _ rfl) (by rfl) T.list hG (@aa _ _ _ _ _ (@aQ _ _ _ _ _ _ _ _ _ cL (by rfl) T.range boot_range (@aa _ _ _ _ _ (@aw _ _ _ _ _ _ _ _ _ aE (by rfl) T.len zW (@aa _ _ _ _ _ (pv 0) ag (by rfl)) (by decide) (by decide) (by rfl) (by rfl)) ag (by rfl)) (by decide) (by decide) (by rfl) (by rfl)) ag (by rfl)) (by decide) (by decide) (by rfl) (by rfl)) (aP _))))))),?_⟩
  cases hx with
  | oth ty e=>exact ⟨_,rfl,_,_,_,_,rfl,ty,e,_,rfl,yh (k _ (az.refl _))⟩
  | @tup a xs h hl p =>
   have k:∀ H',az H H'→Q (.bl (vJ xs)) H':=k
   unfold vJ at k
   refine ⟨_,rfl,_,_,_,_,rfl,.tup h,dO,_,rfl,sX ?_⟩
   refine ⟨_,rfl,a,xs,rfl,.inr (SqT.of h),_,_,rfl,rfl,_,rfl,?_⟩
   by_cases h1:1≤xs.length
   ·rw [zx h1,Bk] at k
    refine iM (zx (by omega)) ⟨_,_,rfl,rfl,_,rfl,?_⟩
    by_cases h2:xs.length≤1001
    ·rw [zx h2,Bk] at k
     refine dH (by rw [zx (by omega)];rfl) ?_
     refine ⟨_,rfl,a,rfl,⟨xs,SqT.of h⟩,?_⟩
     refine dP (xs:=xs) (own:=["seat"]) (cap:=[]) (fun m ys σ H'=>∃ v:Option V,σ = [v]∧ys=((xs.take m).map whV).map V.bl∧az H H') ⟨none,rfl,rfl,az.refl _⟩ (fun m ys σ H' hi ⟨v,_,e,_⟩=>?_) (by omega) (fun m ys σ H' ⟨_,_,_,s1⟩=>SqT.of (s1 _ _ h)) ?_ ?_
     ·rw [e,zl,zl,zo];omega
     ·rintro m ys σ H1 y N hyi ⟨v,rfl,rfl,s1⟩ hN
      have hy:=((p y (zO hyi)).same s1).wh (K:=K)
      refine ⟨_,rfl,y,rfl,hy,hN _ _ _ ⟨_,rfl,by rw [pI whV hyi,zT];rfl,s1⟩⟩
     ·rintro ys σ H1 l ⟨v,rfl,rfl,s1⟩ hl'
      refine ⟨l,_,rfl,SqL.of ae,?_⟩
      rw [zB (zu _),BN]
      have ea:xs.all (id ∘ whV)=xs.all whV:=rfl
      rw [ea]
      have s2:az H (upd H1 l (.lst ((xs.map whV).map V.bl))):=s1.then hl'
      generalize upd H1 l (.lst ((xs.map whV).map V.bl))=H2 at s2 ⊢
      cases hw:xs.all whV with
      | false =>
       rw [hw] at k
       exact ⟨_,rfl,oA (k _ s2)⟩
      | true =>
       rw [hw,Bk] at k
       have hx:=whs hw
       have h':=s2 _ _ h
       rw [hx] at h'
       refine ⟨_,rfl,pk ?_⟩
       refine ⟨_,rfl,a,xs.map vI,rfl,.inr (SqT.of h'),fun q zs hq pm up=>?_⟩
       have s3:=s2.then (o:=.lst (zs.map V.int)) hq
       have f3:(upd H2 q (.lst (zs.map V.int))) q=some (.lst (zs.map V.int)):=ae
       generalize upd H2 q (.lst (zs.map V.int))=H3 at s3 f3 ⊢
       refine ⟨_,rfl,a,_,rfl,.inr (SqT.of (s3 _ _ h)),_,rfl,fun r hrr=>?_⟩
       refine ⟨r,xs.length,rfl,ae,by omega,fun l2 hl2=>?_⟩
       have er:((List.range xs.length).map fun i:Nat=>V.int (i:Int))=(rng xs.length).map V.int:=by unfold rng;rw [Ak];rfl
       rw [er]
       have s4:az H3 (upd (upd H3 r (.rng 0 (xs.length:Int))) l2 (.lst ((rng xs.length).map V.int))):=(az.new hrr).then hl2
       have f4:(upd (upd H3 r (.rng 0 (xs.length:Int))) l2 (.lst ((rng xs.length).map V.int))) l2=some (.lst ((rng xs.length).map V.int)):=ae
       generalize upd (upd H3 r (.rng 0 (xs.length:Int))) l2 (.lst ((rng xs.length).map V.int))=H4 at s4 f4 ⊢
       refine ⟨.list (dI zs),.list (dI (rng xs.length)),.lst (s4 _ _ f3) (eP _),.lst f4 (eP _),eQ _,eQ _,?_,?_⟩
       ·show PyData.depthAll (dI zs)+1≤10
        rw [ji]
        decide
       ·rw [nQ,fy pm up]
        exact k _ (s3.trans s4)
    ·rw [zC h2,Cg] at k
     exact iM (by rw [zC (by omega)];rfl) (k _ (az.refl _))
   ·rw [zC h1,Cg] at k
    exact dH (zC (by omega)) ⟨_,rfl,wo (k _ (az.refl _))⟩
abbrev cE:Stmt:=top 13
theorem qr:aC ["many","thing"] ["many","thing"] (af cE):=⟨rfl,rfl,rfl,by decide +kernel,rfl,by decide +kernel,by decide +kernel⟩
theorem tK (D:Df K mg "is_table" cE)(T:Bt K w mg aB)(Tset:mg "set" = none)(F_isrow:Fnc P w K mg base "is_row" ["thing"] 2 (jj K)):Fnc P w K mg base "is_table" ["many","thing"] 3 (jk K):=by
 have sc:=qr
 refine D.ok sc (fun _ _ _ _ _ _ us hl=>by obtain ⟨_,_,rfl⟩:=tD hl;rfl) (fun vs H Q E h=>?_) (fun f cdv A outer s H vs Q E hr h=>?_)
 ·obtain ⟨m,x,b,rfl,_⟩:=h
  rfl
 ·obtain ⟨m,x,b,rfl,m1,hx,k⟩:=h
  have l16:=bj
  refine ⟨_,(@ah _ _ _ _ _ (@bA _ _ _ _ _ _ _ _ (@PW.pt _ _ _ (@gx _ _ _ _ _ _ _ (@bY _ _ _ _ (@bg _ _ _ (@aw _ _ _ _ _ _ _ _ _ (@br _ (K) rfl) (by rfl) T.isinstance aM (@aa _ _ _ _ _ (pv 1) (@aa _ _ _ _ _ (@bK _ _ (.ty "tuple") _ _ rfl T.tuple cg rfl (by decide) (by decide)) ag (by rfl)) (by rfl)) (by decide) (by decide) (by rfl) (by rfl)) (fun _=>rfl))) (@dY _ _ _ _ (@aK _ _ _ _ _ _ _ _ oW (@aw _ _ _ _ _ _ _ _ _ aE (by rfl) T.len zW (@aa _ _ _ _ _ (pv 1) ag (by rfl)) (by decide) (by decide) (by rfl) (by rfl)) (pv 0) (aP _))))) (@aj _ _ _ (@aI _ _ _ _ cw)) aU) (@aj _ _ _ (@aI _ _ _ _ (@dw _ _ _ _ _ _ _ (@aw _ _ _ _ _ _ _ _ _ (@cB _ rfl) (by rfl) T.all u6 (@aa _ _ _ _ _ (@bN _ _ _ _ _ _ _ (["row"]) (["row"]) ([]) _ _ _ _ (@b_ _ _ _ _ _ _ rfl (by kernel_rfl)) rfl (@gz _ _ _ _ (pv 1)) (fun _ _ _ _=>@aH _ _ (0) _ (show (["row"]:List Str).Nodup from by decide +kernel) rfl (Or.inl rfl) (by first | exact .inl rfl | exact .inr rfl | assumption)) (fun _ _ _ _=>bH) (fun _ _ _ _=>by (exact (@aO _ _ _ _ _ _ _ _ _ _ _ F_isrow hr (by decide) rfl (@aa _ _ _ _ _ (pv 0) ag (by rfl)) (by decide) (by rfl) (by rfl)))) (by intro _ ;rfl)) ag (by rfl)) (by decide) (by decide) (by rfl) (by rfl)) (@gy _ _ _ _ _ (@cY _ _ _ _ _ _ _ _ cC (@aw _ _ _ _ _ _ _ _ _ jg (by rfl) T.len zW (@aa _ _ _ _ _ (@aQ _ _ _ _ _ _ _ _ _ (@gc _ rfl) (by rfl) Tset xC (@aa _ _ _ _ _ (@bN _ _ _ _ _ _ _ (["row"]) (["row"]) ([]) _ _ _ _ (@b_ _ _ _ _ _ _ rfl (by kernel_rfl)) rfl (@gz _ _ _ _ (pv 1)) (fun _ _ _ _=>@aH _ _ (0) _ (show (["row"]:List Str).Nodup from by decide +kernel) rfl (Or.inl rfl) (by first | exact .inl rfl | exact .inr rfl | assumption)) (fun _ _ _ _=>bH) (fun _ _ _ _=>by (exact (@aw _ _ _ _ _ _ _ _ _ (@fX _ (K) rfl) (by rfl) T.len zW (@aa _ _ _ _ _ (pv 0) ag (by rfl)) (by decide) (by decide) (by rfl) (by rfl)))) (by intro _ ;rfl)) ag (by rfl)) (by decide) (by decide) (by rfl) (by rfl)) ag (by rfl)) (by decide) (by decide) (by rfl) (by rfl)) ak (aP _))))))),?_⟩
  cases hx with
  | oth ty e=>exact ⟨_,rfl,_,_,_,_,rfl,ty,e,_,rfl,yh (k _ (az.refl _))⟩
  | @tup a xs os h hl rl =>
   have k:∀ H',az H H'→Q (.bl (vL m os)) H':=k
   unfold vL at k
   have le:=rl.len
   refine ⟨_,rfl,_,_,_,_,rfl,.tup h,dO,_,rfl,sX ?_⟩
   refine ⟨_,rfl,a,xs,rfl,.inr (SqT.of h),_,rfl,rfl,_,rfl,?_⟩
   by_cases hm:os.length=m
   ·rw [zx hm,Bk] at k
    refine dH (by rw [zx (by rw [le,hm])];rfl) ?_
    refine ⟨_,rfl,a,rfl,⟨xs,SqT.of h⟩,?_⟩
    refine dP (xs:=xs) (own:=["row"]) (cap:=[]) (fun j ys σ H'=>∃ v:Option V,σ = [v]∧ys=((os.take j).map kR).map V.bl∧az H H') ⟨none,rfl,rfl,az.refl _⟩ (fun j ys σ H' hi ⟨v,_,e,_⟩=>?_) (by omega) (fun j ys σ H' ⟨_,_,_,s1⟩=>SqT.of (s1 _ _ h)) ?_ ?_
    ·rw [e,zl,zl,zo];omega
    ·rintro j ys σ H1 y N hyi ⟨v,rfl,rfl,s1⟩ hN
     obtain ⟨o,ho,hy⟩:=rl.at_ j y hyi
     refine ⟨_,rfl,y,o,rfl,hy.same s1,fun H2 s2=>hN _ _ _ ⟨_,rfl,by rw [zZ,ho,zT,zT];rfl,s1.trans s2⟩⟩
    ·rintro ys σ H1 l ⟨v,rfl,rfl,s1⟩ hl'
     refine ⟨l,_,rfl,SqL.of ae,?_⟩
     rw [zB (by omega),BN]
     have ea:os.all (id ∘ kR)=os.all kR:=rfl
     rw [ea]
     have s2:az H (upd H1 l (.lst ((os.map kR).map V.bl))):=s1.then hl'
     generalize upd H1 l (.lst ((os.map kR).map V.bl))=H2 at s2 ⊢
     cases hw:os.all kR with
     | false =>
      rw [hw] at k
      exact ⟨_,rfl,oA (k _ s2)⟩
     | true =>
      rw [hw,Bk] at k
      refine ⟨_,rfl,pk ?_⟩
      refine ⟨_,rfl,a,rfl,⟨xs,SqT.of (s2 _ _ h)⟩,?_⟩
      refine dP (xs:=xs) (own:=["row"]) (cap:=[]) (fun j ys σ H'=>∃ v:Option V,σ = [v]∧ys=((os.take j).map fun o=>(lenO o:Int)).map V.int∧az H H') ⟨none,rfl,rfl,s2⟩ (fun j ys σ H' hi ⟨v,_,e,_⟩=>?_) (by omega) (fun j ys σ H' ⟨_,_,_,s1⟩=>SqT.of (s1 _ _ h)) ?_ ?_
      ·rw [e,zl,zl,zo];omega
      ·rintro j ys σ H3 y N hyi ⟨v,rfl,rfl,s3⟩ hN
       obtain ⟨o,ho,hy⟩:=rl.at_ j y hyi
       have hro:=AY.mp hw o (zO ho)
       cases hy with
       | oth ty e=>cases hro
       | @tup b zs hb hbl hbp =>
        refine ⟨_,rfl,b,zs,rfl,.inr (SqT.of (s3 _ _ hb)),hN _ _ _ ⟨_,rfl,by rw [zZ,ho,zT,zT];rfl,s3⟩⟩
      ·rintro ys σ H3 l3 ⟨v,rfl,rfl,s3⟩ hl3
       rw [zB (by omega)]
       refine ⟨l3,_,rfl,SqL.of ae,by rw [zl];omega,fun sp dl hsp nd mem=>?_⟩
       have s5:az H (upd (upd H3 l3 (.lst ((os.map fun o=>(lenO o:Int)).map V.int))) sp (SiO (jB CX0 P w K mg base ["many","thing"] "is_table" (af cE) f cdv A outer s H E).nox.prog (jB CX0 P w K mg base ["many","thing"] "is_table" (af cE) f cdv A outer s H E).nox.w sp dl)):=(s3.then hl3).then hsp
       refine ⟨sp,dl,rfl,ae,rfl,?_⟩
       have k:=k _ s5
       have os0:os≠[]:=fun e=>by rw [e] at hm;simp at hm;omega
       cases ho:os with
       | nil=>exact absurd ho os0
       | cons o0 or =>
        have q1:=sV nd mem (x:=(lenO o0:Int)) (r:=or.map fun o=>(lenO o:Int)) (by rw [ho];rfl)
        have e1:(os.all fun o=>decide (lenO o=lenO (os.headD none)))=decide (dl.length=1):=by
         rw [q1,BN,ho]
         refine Cn (fun p=>List.all (o0::or) p) (funext fun o=>?_)
         exact CB.mpr ⟨fun e=>by show (lenO o:Int)=(lenO o0:Int);rw [e];rfl,fun e=>by have e:(lenO o:Int)=(lenO o0:Int):=e;show lenO o=lenO o0;omega⟩
        rw [e1] at k
        have e2:decide (V.int (dl.length:Int)=V.int 1)=decide (dl.length=1):=CB.mpr ⟨fun e=>by have:=V.int.inj e;omega,fun e=>by rw [e];rfl⟩
        rw [← ho,e2]
        exact k
   ·rw [zC hm,Cg] at k
    exact iM (by rw [zC fun e=>hm (by have:=V.int.inj e;omega)];rfl) (k _ (az.refl _))
abbrev iD:Stmt:=top 17
theorem tL:aC ["row","seats","seat","other"] ["row"] (af iD):=⟨rfl,rfl,rfl,by decide +kernel,rfl,by decide +kernel,by decide +kernel⟩
theorem vU (D:Df K mg "turned_row" iD)(T:Bt K w mg aB)(Te:mg "enumerate" = none):Fnc P w K mg base "turned_row" ["row"] 1 nA:=by
 have sc:=tL
 refine D.ok sc (fun _ _ _ _ _ _ us hl=>by obtain ⟨_,rfl⟩:=oF hl;rfl) (fun vs H Q E h=>?_) (fun f cdv A outer s H vs Q E hr h=>?_)
 ·obtain ⟨a,n,r,rfl,_⟩:=h
  rfl
 ·obtain ⟨a,n,r,rfl,ha,P,hn,k⟩:=h
  have l16:=bj
  have hrl:=P.len
  refine ⟨_,(@ah _ _ _ _ _ (@aF _ _ (1) _ _ _ _ sc.nd rfl (Or.inl rfl) (@aG _ _ _ _ _ _ _ _ qP (@jA _ _ _ _ (@aa _ _ _ _ _ ak ag (by rfl))) (@aw _ _ _ _ _ _ _ _ _ aE (by rfl) T.len zW (@aa _ _ _ _ _ (pv 0) ag (by rfl)) (by decide) (by decide) (by rfl) (by rfl))) (by rfl) (by first | exact .inl rfl | exact .inr rfl | assumption)) (@ah _ _ _ _ _ (@bZ _ _ _ _ _ _ _ _ Ag rfl (@qZ _ _ rfl _ _ _ _ _ _ _ rfl Te nv (@aa _ _ _ _ _ (pv 0) ag (by rfl)) (by rfl)) (@jy _ _ _ _ _ _ rfl (@bF _ _ _ _ _ (@aH _ _ (2) _ sc.nd rfl (Or.inl rfl) (by first | exact .inl rfl | exact .inr rfl | assumption)) (@bF _ _ _ _ _ (@aH _ _ (3) _ sc.nd rfl (Or.inl rfl) (by first | exact .inl rfl | exact .inr rfl | assumption)) fA (by rfl)) (by rfl)) (by rfl) (by rfl)) (@aj _ _ _ (@uC _ _ _ _ _ _ (pv 2) (@uB _ _ _ _ _ _ _ (pv 1) (pv 3) pe (by intro _ ;rfl)) (by rfl) (by rfl) (by rfl))) (by intro _ ;rfl)) (@aj _ _ _ (@aI _ _ _ _ (pv 1))))),?_⟩
  refine ⟨(du (n:=1) (by decide)),fun l0 hl0=>⟨_,rfl,a,_,rfl,.inr (SqT.of ((az.new hl0) _ _ ha)),?_⟩⟩
  refine ⟨l0,_,_,rfl,rfl,ae,(by rw [aA];omega),(by rw [aA];omega),?_,fun l hl=>?_⟩
  ·rw [aA,hrl,AF];show 1*n≤sizeLine;omega
  have e0:(List.replicate ((iv r).length:Int).toNat [V.int 0]).flatten=iv (iN n r 0):=by
   rw [nz,aA,hrl,AF]
   unfold iv
   rw [List.map_replicate,List.flatten_replicate_singleton]
   rfl
  rw [e0]
  have s0:az H (upd H l0 (.lst [.int 0])):=az.new hl0
  have s1:az H (upd (upd H l0 (.lst [.int 0])) l (.lst (iv (iN n r 0)))):=s0.trans (az.new hl)
  have hl':=none_of s0 hl
  have f1:(upd (upd H l0 (.lst [.int 0])) l (.lst (iv (iN n r 0)))) l=some (.lst (iv (iN n r 0))):=ae
  generalize upd (upd H l0 (.lst [.int 0])) l (.lst (iv (iN n r 0)))=H0 at s1 f1 ⊢
  refine ⟨_,rfl,a,rfl,⟨_,SqT.of (s1 _ _ ha)⟩,mR (xs:=iv r) (fun i σ H'=>∃ v1 v2:Option V,σ = [some (.ref a),some (.ref l),v1,v2]∧H' l=some (.lst (iv (iN n r i)))∧az H H') ⟨none,none,rfl,f1,s1⟩ (fun i σ H' _ ⟨_,_,_,_,s2⟩=>SqT.of (s2 _ _ ha)) ?_ ?_⟩
  ·rintro i x σ H1 T1 hx ⟨v1,v2,rfl,h1,s2⟩ hT
   have hi:i < n:=by
    have:=(zf.mp hx).1
    rw [aA] at this
    omega
   have ex:x = .int ((r.getD i 0:Nat):Int):=by
    have hx':=hx
    unfold iv at hx'
    rw [zH,y_ (by omega)] at hx'
    rw [zi,y_ (by omega)]
    exact (Af hx').symm
   subst ex
   have nT:T1≠l:=(ao h1 hT).symm
   refine ⟨T1,_,rfl,SqT.of ae,rfl,_,_,rfl,_,_,rfl,rfl,?_⟩
   have h2:=(az.new (o:=.tup [.int (i:Int),.int ((r.getD i 0:Nat):Int)]) hT) _ _ h1
   have s3:=s2.then (o:=.tup [.int (i:Int),.int ((r.getD i 0:Nat):Int)]) hT
   generalize upd H1 T1 (.tup [.int (i:Int),.int ((r.getD i 0:Nat):Int)])=H2 at h2 s3 ⊢
   refine ⟨_,rfl,_,rfl,_,rfl,l,_,_,_,rfl,rfl,h2,sL (by rw [aA,j7];exact P.get_lt hi),?_⟩
   refine ⟨_,_,rfl,?_,fun b o e=>?_⟩
   ·rw [ae,vx,pZ P hi]
   ·rw [aq (ao e hl')];exact s3 _ _ e
  ·rintro σ H1 ⟨v1,v2,rfl,h1,s2⟩
   rw [aA,hrl,pY P] at h1
   exact ⟨_,rfl,k l _ hl' h1 s2⟩
abbrev iE:Stmt:=top 16
theorem tM:aC ["table","rows","letter","row"] ["table"] (af iE):=⟨rfl,rfl,rfl,by decide +kernel,rfl,by decide +kernel,by decide +kernel⟩
theorem vV (D:Df K mg "rows_of" iE)(T:Bt K w mg aB)(S:∃ t,mg "SMALL" = some (.str "abcdef" t))(F_back:Fnc P w K mg base "back" ["word"] 1 sk)(F_turn:Fnc P w K mg base "turned_row" ["row"] 1 nA):Fnc P w K mg base "rows_of" ["table"] 2 dU:=by
 have sc:=tM
 refine D.ok sc (fun _ _ _ _ _ _ us hl=>by obtain ⟨_,rfl⟩:=oF hl;rfl) (fun vs H Q E h=>?_) (fun f cdv A outer s H vs Q E hr h=>?_)
 ·obtain ⟨x,m,n,t,rfl,_⟩:=h
  rfl
 ·obtain ⟨x,m,n,t,rfl,⟨p,xs,rfl,hp,rs⟩,Tt,m6,n1,k⟩:=h
  have l16:=bj
  have hu:=kD hr
  obtain ⟨tS,mgS⟩:=S
  refine ⟨_,(@ah _ _ _ _ _ (@aF _ _ (1) _ _ _ _ sc.nd rfl (Or.inl rfl) fG (by rfl) (by first | exact .inl rfl | exact .inr rfl | assumption)) (@ah _ _ _ _ _ (@bZ _ _ _ _ _ _ _ _ Ag rfl (@pU _ _ rfl _ _ _ _ _ _ _ _ rfl T.zip u7 (@aa _ _ _ _ _ (@iR _ _ (.str "abcdef") _ _ rfl mgS ⟨_,rfl⟩ (by decide)) (@aa _ _ _ _ _ (pv 0) ag (by rfl)) (by rfl)) (by rfl) (by rfl)) (@jy _ _ _ _ _ _ rfl (@bF _ _ _ _ _ (@aH _ _ (2) _ sc.nd rfl (Or.inl rfl) (by first | exact .inl rfl | exact .inr rfl | assumption)) (@bF _ _ _ _ _ (@aH _ _ (3) _ sc.nd rfl (Or.inl rfl) (by first | exact .inl rfl | exact .inr rfl | assumption)) fA (by rfl)) (by rfl)) (by rfl) (by rfl)) (@ah _ _ _ _ _ (@bM _ _ _ _ _ _ _ _ _ hu (pv 1) (pv 2) (pv 3) rfl) (@aj _ _ _ (@bM _ _ _ _ _ _ _ _ _ hu (pv 1) (@aO _ _ _ _ _ _ _ _ _ _ _ F_back hr (by decide) rfl (@aa _ _ _ _ _ (pv 2) ag (by rfl)) (by decide) (by rfl) (by rfl)) (@aO _ _ _ _ _ _ _ _ _ _ _ F_turn hr (by decide) rfl (@aa _ _ _ _ _ (pv 3) ag (by rfl)) (by decide) (by rfl) (by rfl)) rfl))) (by intro _ ;rfl)) (@aj _ _ _ (@aI _ _ _ _ (pv 1))))),?_⟩
  have asc6:("abcdef":Str).cps.all (· < 128)=true:=by decide +kernel
  have sz6:("abcdef":Str).cps.size=6:=by decide +kernel
  have hxl:xs.length=m:=by rw [rs.len,Tt.len]
  intro d hd
  have keep:∀ {H':Hp} {o:HO},az H H'→az H (upd H' d o):=fun s b o e=>by rw [aq (ao e hd)];exact s b o e
  refine ⟨_,rfl,_,p,rfl,asc6,⟨_,SqT.of ((az.new hd) _ _ hp)⟩,nh (ys:=xs) (fun i σ H'=>∃ (a c:Option V),σ = [some (.ref p),some (.ref d),a,c]∧az H H'∧i≤6∧Rwd H' d i n t)
   ⟨none,none,rfl,az.new hd,by omega,[],ae,by decide,fun x hx=>by omega⟩ (fun i σ H' ⟨_,_,_,s1,_⟩=>SqT.of (s1 _ _ hp)) ?_ ?_⟩
  ·rintro i c y σ H1 T1 hc hy ⟨a,c',rfl,s1,hi6,R⟩ hT
   obtain ⟨x,hxi,hi,rfl⟩:=L2.sm_at hc
   obtain ⟨r,hr',⟨b,rfl,hb⟩⟩:=rs.at_ i y hy
   have Pr:PN n r:=Tt.row r (zO hr')
   obtain ⟨kvs,hk,hkl,hv⟩:=R.ex
   have nT:T1≠d:=(ao hk hT).symm
   refine ⟨T1,_,rfl,SqT.of ae,rfl,_,_,rfl,_,_,rfl,rfl,?_⟩
   have s2':az H1 (upd H1 T1 (.tup [.str ⟨#[cp x]⟩,.ref b])):=az.new hT
   have s2:az H (upd H1 T1 (.tup [.str ⟨#[cp x]⟩,.ref b])):=s1.then hT
   generalize upd H1 T1 (.tup [.str ⟨#[cp x]⟩,.ref b])=H2 at s2 s2' ⊢
   have k2:=s2' _ _ hk
   refine ⟨_,rfl,_,rfl,_,rfl,d,_,rfl,dp k2 (by omega) rfl,?_⟩
   have s3:az H (upd H2 d (.dK (bo kvs (kS ⟨#[cp x]⟩) (.ref b)))):=keep s2
   have sd3:bX d H2 (upd H2 d (.dK (bo kvs (kS ⟨#[cp x]⟩) (.ref b)))):=bX.upd
   have k3:(upd H2 d (.dK (bo kvs (kS ⟨#[cp x]⟩) (.ref b)))) d=some (.dK (bo kvs (kS (toS [x])) (.ref b))):=ae
   generalize upd H2 d (.dK (bo kvs (kS ⟨#[cp x]⟩) (.ref b)))=H3 at s3 k3 sd3 ⊢
   refine ⟨_,rfl,b,n,r,rfl,s3 _ _ hb,Pr,n1,fun q H4 hq0 hq s4=>⟨_,rfl,_,rfl,[x],rfl,(by show 1≤5000;decide),fun H5 s5=>?_⟩⟩
   have s45:=s4.trans s5
   have k5:=s45 _ _ k3
   have hl5:=bp kvs (kS (toS [x])) (.ref b)
   have hl6:=bp (bo kvs (kS (toS [x])) (.ref b)) (kS (toS (bk [x]))) (.ref q)
   refine ⟨d,_,rfl,dp k5 (by omega) rfl,?_⟩
   have sd5:bX d H5 (upd H5 d (.dK (bo (bo kvs (kS (toS [x])) (.ref b)) (kS (toS (bk [x]))) (.ref q)))):=bX.upd
   have s6:az H (upd H5 d (.dK (bo (bo kvs (kS (toS [x])) (.ref b)) (kS (toS (bk [x]))) (.ref q)))):=keep (s3.trans s45)
   have k6:(upd H5 d (.dK (bo (bo kvs (kS (toS [x])) (.ref b)) (kS (toS (bk [x]))) (.ref q)))) d=some (.dK (bo (bo kvs (kS (toS [x])) (.ref b)) (kS (toS (bk [x]))) (.ref q))):=ae
   have db:b≠d:=oG (s1 _ _ hb) hk (by intro z;cases z)
   have dq:q≠d:=(ao k3 hq0).symm
   have hq6:=sd5 _ _ dq (s5 _ _ hq)
   have hb6:=s6 _ _ hb
   generalize upd H5 d (.dK (bo (bo kvs (kS (toS [x])) (.ref b)) (kS (toS (bk [x]))) (.ref q)))=H6 at sd5 s6 k6 hq6 hb6 ⊢
   refine ⟨_,_,rfl,s6,by omega,_,k6,by omega,fun z hz=>?_⟩
   rw [jF,jF,mq]
   have hx6:x.val < 6:=by omega
   have hz12:=z.isLt
   have er:t.getD x.val []=r:=by rw [zi,hxi,hr'];rfl
   by_cases e1:z=inv x
   ·rw [e1,if_pos rfl]
    have hv:(inv x).val=x.val+6:=by rw [ja,if_pos hx6]
    refine ⟨q,rfl,.inr ⟨by omega,?_⟩⟩
    rw [hv,Nat.add_sub_cancel,er]
    exact hq6
   ·rw [if_neg (fun e=>e1 (by have:=eA (Sum.inr.inj e);simpa using this))]
    by_cases e2:z=x
    ·rw [e2,if_pos rfl]
     refine ⟨b,rfl,.inl ⟨hx6,?_⟩⟩
     rw [er]
     exact hb6
    ·rw [if_neg (fun e=>e2 (by have:=eA (Sum.inr.inj e);simpa using this))]
     have n1:z.val≠x.val:=fun e=>e2 (Fin.ext e)
     have n2:z.val≠x.val+6:=fun e=>e1 (Fin.ext (by rw [ja,if_pos hx6];exact e))
     obtain ⟨c,ec,hc'⟩:=hv z (by omega)
     refine ⟨c,ec,?_⟩
     have up:∀ {o:HO},H1 c=some o→(∀ kv,o ≠ .dK kv)→H6 c=some o:=fun {o} ho hn=>by
      have dc:c≠d:=fun e=>by rw [e,hk] at ho;exact hn _ (Af ho).symm
      exact sd5 _ _ dc (s45 _ _ (sd3 _ _ dc (s2' _ _ ho)))
     exact hc'.elim (fun q=>.inl ⟨q.1,up q.2 (by intro kv e;cases e)⟩) fun q=>.inr ⟨q.1,up q.2 (by intro kv e;cases e)⟩
  ·rintro σ H1 ⟨a,c,rfl,s1,hi6,R⟩
   rw [hxl,sz6,Nat.min_eq_right m6] at R
   exact ⟨_,rfl,k d _ hd R s1⟩
abbrev oh:Stmt:=top 15
theorem vW:aC ["table","seat","word","rows","letter"] ["table","seat","word"] (af oh):=⟨rfl,rfl,rfl,by decide +kernel,rfl,by decide +kernel,by decide +kernel⟩
theorem xM (D:Df K mg "led" oh)(F_rows:Fnc P w K mg base "rows_of" ["table"] 2 dU):Fnc P w K mg base "led" ["table","seat","word"] 3 p5:=by
 have sc:=vW
 refine D.ok sc (fun _ _ _ _ _ _ us hl=>by obtain ⟨_,_,_,rfl⟩:=uo hl;rfl) (fun vs H Q E h=>?_) (fun f cdv A outer s H vs Q E hr h=>?_)
 ·obtain ⟨x,m,n,s,t,w,rfl,_⟩:=h
  rfl
 ·obtain ⟨x,m,n,s,t,w,rfl,tb,Tt,m6,n1,sn,hin,hw,k⟩:=h
  have l16:=bj
  have hu:=kD hr
  refine ⟨_,(@ah _ _ _ _ _ (@aF _ _ (3) _ _ _ _ sc.nd rfl (Or.inl rfl) (@aO _ _ _ _ _ _ _ _ _ _ _ F_rows hr (by decide) rfl (@aa _ _ _ _ _ (pv 0) ag (by rfl)) (by decide) (by rfl) (by rfl)) (by rfl) (by first | exact .inl rfl | exact .inr rfl | assumption)) (@ah _ _ _ _ _ (@bZ _ _ _ _ _ _ _ _ Ag rfl (@gT _ _ _ _ (pv 2)) (@aH _ _ (4) _ sc.nd rfl (Or.inl rfl) (by first | exact .inl rfl | exact .inr rfl | assumption)) (@aj _ _ _ (@aF _ _ (1) _ _ _ _ sc.nd rfl (Or.inl rfl) (@bB _ _ _ _ _ _ _ (@IxR.or _ _ _ (@j3 _ (K) rfl) (@nk _ (K) rfl)) (@bh _ _ _ _ _ _ hu (pv 3) (pv 4) (fun _ _=>rfl)) (pv 1) (fun _ _=>rfl)) (by rfl) (by first | exact .inl rfl | exact .inr rfl | assumption))) (by intro _ ;rfl)) (@aj _ _ _ (@aI _ _ _ _ (pv 1))))),?_⟩
  refine ⟨_,rfl,x,m,n,t,rfl,tb,Tt,m6,n1,fun g H1 hg0 R s1=>?_⟩
  refine ⟨_,rfl,_,rfl,fM (z:=toS w) (fun i σ H'=>∃ v:Option V,σ = [some x,some (.int ((ledN t s (w.take i):Nat):Int)),some (tx w),some (.ref g),v]∧H'=H1) ⟨none,rfl,rfl⟩ ?_ ?_⟩
  ·rintro i c σ H2 hc ⟨v,rfl,rfl⟩
   obtain ⟨y,hy,ey⟩:=cD hc
   have hyn:=hin y (zO hy)
   have hlt:ledN t s (w.take i) < n:=j5 Tt (fun z hz=>hin z (AD hz)) sn
   obtain ⟨b,e1,e2⟩:=R.at Tt hyn
   rw [← ey] at e1
   refine ⟨_,rfl,_,rfl,g,_,rfl,e1,_,rfl,e2 _ hlt K _ ⟨some (.str ⟨#[c]⟩),?_,rfl⟩⟩
   rw [cj hy,dS]
   rfl
  ·rintro σ H2 ⟨v,rfl,rfl⟩
   rw [bq,z_]
   exact ⟨_,rfl,k _ s1⟩
abbrev oj:Stmt:=top 18
theorem vX:aC ["rings","table","rows","number","ring","first","seats","letter"] ["rings","table"] (af oj):=⟨rfl,rfl,rfl,by decide +kernel,rfl,by decide +kernel,by decide +kernel⟩
theorem xN (D:Df K mg "unkept" oj)(T:Bt K w mg aB)(Te:mg "enumerate" = none)(F_rows:Fnc P w K mg base "rows_of" ["table"] 2 dU):Fnc P w K mg base "unkept" ["rings","table"] 3 nR:=by
 have sc:=vX
 refine D.ok sc (fun _ _ _ _ _ _ us hl=>by obtain ⟨_,_,rfl⟩:=tD hl;rfl) (fun vs H Q E h=>?_) (fun f cdv A outer s H vs Q E hr h=>?_)
 ·obtain ⟨a,y,m,n,t,ws,rfl,_⟩:=h
  rfl
 ·obtain ⟨a,y,m,n,t,ws,rfl,ha,tb,Tt,m1,m6,n1,hws,kN,kI⟩:=h
  have l16:=bj
  have hu:=kD hr
  refine ⟨_,(@ah _ _ _ _ _ (@aF _ _ (2) _ _ _ _ sc.nd rfl (Or.inr rfl) (@aO _ _ _ _ _ _ _ _ _ _ _ F_rows hr (by decide) rfl (@aa _ _ _ _ _ (pv 1) ag (by rfl)) (by decide) (by rfl) (by rfl)) (by rfl) (by first | exact .inl rfl | exact .inr rfl | assumption)) (@ah _ _ _ _ _ (@bZ _ _ _ _ _ _ _ _ Ag rfl (@qZ _ _ rfl _ _ _ _ _ _ _ rfl Te nv (@aa _ _ _ _ _ (pv 0) ag (by rfl)) (by rfl)) (@jy _ _ _ _ _ _ rfl (@bF _ _ _ _ _ (@aH _ _ (3) _ sc.nd rfl (Or.inl rfl) (by first | exact .inl rfl | exact .inr rfl | assumption)) (@bF _ _ _ _ _ (@aH _ _ (4) _ sc.nd rfl (Or.inl rfl) (by first | exact .inl rfl | exact .inr rfl | assumption)) fA (by rfl)) (by rfl)) (by rfl) (by rfl)) (@ah _ _ _ _ _ (@aF _ _ (5) _ _ _ _ sc.nd rfl (Or.inl rfl) (@aQ _ _ _ _ _ _ _ _ _ (@bx _ rfl) (by rfl) T.list hG (@aa _ _ _ _ _ (@aQ _ _ _ _ _ _ _ _ _ cL (by rfl) T.range boot_range (@aa _ _ _ _ _ (@aw _ _ _ _ _ _ _ _ _ aE (by rfl) T.len zW (@aa _ _ _ _ _ (@bB _ _ _ _ _ _ _ bC (pv 1) ak (fun _ _=>rfl)) ag (by rfl)) (by decide) (by decide) (by rfl) (by rfl)) ag (by rfl)) (by decide) (by decide) (by rfl) (by rfl)) ag (by rfl)) (by decide) (by decide) (by rfl) (by rfl)) (by rfl) (by first | exact .inl rfl | exact .inr rfl | assumption)) (@ah _ _ _ _ _ (@aF _ _ (6) _ _ _ _ sc.nd rfl (Or.inl rfl) (pv 5) (by rfl) (by first | exact .inl rfl | exact .inr rfl | assumption)) (@ah _ _ _ _ _ (@bZ _ _ _ _ _ _ _ _ Ag rfl (@gT _ _ _ _ (pv 4)) (@aH _ _ (7) _ sc.nd rfl (Or.inr rfl) (by first | exact .inl rfl | exact .inr rfl | assumption)) (@aj _ _ _ (@sv _ (6) _ _ _ _ _ _ _ _ _ (["seat","rows","letter"]) (["seat"]) ([2,7]) _ _ _ _ sc.nd rfl (Or.inl rfl) (@b_ _ _ _ _ _ _ rfl (by kernel_rfl)) rfl (@fB _ _ _ _ (pv 6)) (fun _ _ _ _=>@aH _ _ (0) _ (show (["seat","rows","letter"]:List Str).Nodup from by decide +kernel) rfl (Or.inl rfl) (by first | exact .inl rfl | exact .inr rfl | assumption)) (fun _ _ _ _=>bH) (fun _ _ _ _=>by (exact (@bB _ _ _ _ _ _ _ (@IxR.or _ _ _ (@j3 _ (K) rfl) (@nk _ (K) rfl)) (@bh _ _ _ _ _ _ hu (pv 1) (pv 2) (fun _ _=>rfl)) (pv 0) (fun _ _=>rfl)))) (by intro _ ;rfl) (by rfl) (by first | exact .inl rfl | exact .inr rfl | assumption))) (by intro _ ;rfl)) (@aj _ _ _ (@bA _ _ _ _ _ _ _ _ (@aK _ _ _ _ _ _ _ _ (@ib _ (by exact hr.units)) (pv 6) (pv 5) (aP _)) (@aj _ _ _ (@aI _ _ _ _ (pv 3))) aU))))) (by intro _ ;rfl)) (@aj _ _ _ (@aI _ _ _ _ qG)))),?_⟩
  refine ⟨_,rfl,y,m,n,t,rfl,tb,Tt,m6,n1,fun g H1 hg0 R s1=>?_⟩
  have ha1:=s1 _ _ ha
  obtain ⟨p,xs,rfl,hp,rs⟩:=tb.same s1
  refine ⟨_,rfl,a,rfl,⟨_,SqT.of ha1⟩,mR (xs:=ws.map tx) (fun i σ H'=>∃ b1 b2 b3 b4 b5:Option V,σ = [some (.ref a),some (.ref p),some (.ref g),b1,b2,b3,b4,b5]∧az H1 H'∧Wd.pV n t (ws.take i)) ⟨none,none,none,none,none,rfl,az.refl _,p8 n t⟩ (fun i σ H' _ ⟨_,_,_,_,_,_,s2,_⟩=>SqT.of (s2 _ _ ha1)) ?_ ?_⟩
  ·rintro i x σ H2 T1 hx ⟨b1,b2,b3,b4,b5,rfl,s2,ft⟩ hT
   obtain ⟨v,hv,rfl⟩:∃ v,ws[i]? = some v∧x=tx v:=by
    rw [zH] at hx
    cases e:ws[i]? with
    | none=>rw [e] at hx;cases hx
    | some v=>rw [e] at hx;exact ⟨v,rfl,(Af hx).symm⟩
   obtain ⟨hvi,hvl⟩:=hws v (zO hv)
   refine ⟨T1,_,rfl,SqT.of ae,rfl,_,_,rfl,_,_,rfl,rfl,?_⟩
   have s3:=s2.then (o:=.tup [.int (i:Int),tx v]) hT
   generalize upd H2 T1 (.tup [.int (i:Int),tx v])=H3 at s3 ⊢
   obtain ⟨x0,hx0,b0,rfl,hb0⟩:=rs.atI (i:=0) (by rw [Tt.len];omega)
   have hx0:atI xs 0=some (.ref b0):=hx0
   have P0:PN n (t[0]'(by rw [Tt.len];omega)):=Tt.row _ (zL _)
   refine ⟨_,rfl,p,_,_,_,rfl,rfl,SqT.of (s3 _ _ hp),hx0,b0,_,rfl,.inr (SqT.of (s3 _ _ hb0)),?_⟩
   rw [aA,P0.len]
   refine ⟨_,rfl,fun r0 hr0=>⟨r0,n,rfl,ae,by omega,fun l hl=>?_⟩⟩
   have s4:az H1 (upd (upd H3 r0 (.rng 0 (n:Int))) l (.lst ((List.range n).map fun i:Nat=>V.int (i:Int)))):=(s3.then hr0).then hl
   have f4:(upd (upd H3 r0 (.rng 0 (n:Int))) l (.lst ((List.range n).map fun i:Nat=>V.int (i:Int)))) l=some (.lst (iv (List.range n))):=ae
   generalize upd (upd H3 r0 (.rng 0 (n:Int))) l (.lst ((List.range n).map fun i:Nat=>V.int (i:Int)))=H4 at s4 f4 ⊢
   refine ⟨_,rfl,?_⟩
   refine ⟨_,rfl,_,rfl,fM (z:=toS v) (fun j σ H'=>∃ (q:Addr) (b7:Option V),σ = [some (.ref a),some (.ref p),some (.ref g),some (.int (i:Int)),some (tx v),some (.ref l),some (.ref q),b7]∧az H4 H'∧H' q=some (.lst (iv (iO n t (v.take j))))) ⟨l,b5,rfl,az.refl _,by rw [CN,p7];exact f4⟩ ?_ ?_⟩
   ·rintro j c σ H5 hc ⟨q,b7,rfl,s5,hq⟩
    obtain ⟨z,hz,ez⟩:=cD hc
    rw [ez]
    have hzn:=hvi z (zO hz)
    have vt:InM m (v.take j):=fun z hz=>hvi z (AD hz)
    have R5:Rwd H5 g m n t:=(R.same s4).same s5
    obtain ⟨b,e1,e2⟩:=R5.at Tt hzn
    refine ⟨_,rfl,q,rfl,⟨_,SqL.of hq⟩,?_⟩
    refine c_ (own:=["seat"]) (cap:=[2,7]) (J:=Itl K q) n (fun k ys σ H'=>∃ vv:Option V,σ = [vv,some (.ref g),some (.str (toS [z]))]∧ys=iv (((iO n t (v.take j)).take k).map fun s=>stp t s z)∧H'=H5) ⟨none,rfl,rfl,rfl⟩
     (fun k ys σ H' hk ⟨_,_,e,_⟩=>?_) (by omega) (fun k ys σ H' hk ⟨_,_,_,e⟩=>?_) (fun ys σ H' ⟨_,_,_,e⟩=>?_) ?_ ?_
    ·rw [e,aA,zl,zo];omega
    ·rw [e]
     exact ⟨iv (iO n t (v.take j)),V.int (((iO n t (v.take j))[k]'(by rw [dW];exact hk):Nat):Int),SqL.of hq,by unfold iv;rw [zH,y_ (by rw [dW];exact hk)];rfl⟩
    ·rw [e]
     exact ⟨iv (iO n t (v.take j)),SqL.of hq,by rw [aA,dW];exact zu _⟩
    ·rintro k ys σ H6 x6 H7 N hk ⟨vv,rfl,rfl,rfl⟩ ⟨rfl,hx6⟩ hN
     obtain ⟨sx,hsx,rfl⟩:=sO (hx6 _ (SqL.of hq))
     have hsn:=sN Tt vt sx (zO hsx)
     refine ⟨_,rfl,_,rfl,g,_,rfl,e1,_,rfl,e2 sx hsn K _ (hN _ _ _ ⟨_,rfl,?_,rfl⟩)⟩
     rw [zZ,hsx,zT,j6]
     rfl
    ·rintro ys σ H6 q2 ⟨vv,rfl,rfl,rfl⟩ hq2
     refine ⟨q2,_,rfl,s5.then hq2,?_⟩
     rw [ae,zB (by rw [dW];exact zu _),cj hz,nF]
   ·rintro σ H5 ⟨q,b7,rfl,s5,hq⟩
    rw [bq,z_] at hq
    refine ⟨_,rfl,_,rfl,sM hq (s5 _ _ f4) ⟨_,rfl,?_⟩⟩
    by_cases e:iO n t v=List.range n
    ·refine dH (by rw [zx e];rfl) ⟨_,_,_,_,_,rfl,s4.trans s5,?_⟩
     rw [zZ,hv]
     intro u hu' k hk
     rcases zN.mp hu' with hu' | hu'
     ·exact ft u hu' k hk
     ·have:u=v:=by simpa using hu'
      subst this
      exact j8.mp e k hk
    ·refine iM (by rw [zC e];rfl) ⟨_,rfl,kI i v _ (s1.trans (s4.trans s5)) ft hv fun F=>e (j8.mpr fun k hk=>F v zP k hk)⟩
  ·rintro σ H2 ⟨b1,b2,b3,b4,b5,rfl,s2,ft⟩
   rw [zl,z_] at ft
   exact kN _ (s1.trans s2) ft
abbrev gs:Stmt:=top 44
theorem tN (D:Df K mg "are_steps" gs):Fnc P w K mg base "are_steps" ["thing"] 1 uk:=D.never (fun _ _ _ _ _ _ us hl=>by obtain ⟨_,rfl⟩:=oF hl; rfl)
abbrev cS:Stmt:=top 52
theorem om:aC ["thing"] ["thing"] (af cS):=⟨rfl,rfl,rfl,by decide +kernel,rfl,by decide +kernel,by decide +kernel⟩
theorem qt (D:Df K mg "is_short_paper" cS)(T:Bt K w mg aB)(F_steps:Fnc P w K mg base "are_steps" ["thing"] 1 uk):Fnc P w K mg base "is_short_paper" ["thing"] 2 gh:=by
 have sc:=om
 refine D.ok sc (fun _ _ _ _ _ _ us hl=>by obtain ⟨_,rfl⟩:=oF hl;rfl) (fun vs H Q E h=>?_) (fun f cdv A outer s H vs Q E hr h=>?_)
 ·obtain ⟨a,x,y,z,rfl,_⟩:=h
  rfl
 ·obtain ⟨a,x,y,z,rfl,ha,k⟩:=h
  refine ⟨_,(@aj _ _ _ (@aI _ _ _ _ (@dw _ _ _ _ _ _ _ (@aw _ _ _ _ _ _ _ _ _ (@br _ (K) rfl) (by rfl) T.isinstance aM (@aa _ _ _ _ _ (pv 0) (@aa _ _ _ _ _ (@bK _ _ (.ty "tuple") _ _ rfl T.tuple cg rfl (by decide) (by decide)) ag (by rfl)) (by rfl)) (by decide) (by decide) (by rfl) (by rfl)) (@dw _ _ _ _ _ _ _ (@cY _ _ _ _ _ _ _ _ cC (@aw _ _ _ _ _ _ _ _ _ aE (by rfl) T.len zW (@aa _ _ _ _ _ (pv 0) ag (by rfl)) (by decide) (by decide) (by rfl) (by rfl)) ak (aP _)) (@dw _ _ _ _ _ _ _ (@cY _ _ _ _ _ _ _ _ cC (@bB _ _ _ _ _ _ _ bC (pv 0) ak (fun _ _=>rfl)) aD (aP _)) (@gy _ _ _ _ _ (@aO _ _ _ _ _ _ _ _ _ _ _ F_steps hr (by decide) rfl (@aa _ _ _ _ _ (@bB _ _ _ _ _ _ _ bC (pv 0) ak (fun _ _=>rfl)) ag (by rfl)) (by decide) (by rfl) (by rfl)))))))),?_⟩
  refine ⟨_,rfl,_,_,_,_,rfl,.tup ha,dO,_,rfl,pk ?_⟩
  exact ⟨_,rfl,a,_,rfl,.inr (SqT.of ha),rfl,_,rfl,oA k⟩
abbrev cT:Stmt:=top 53
theorem oo:aC ["many","thing"] ["many","thing"] (af cT):=⟨rfl,rfl,rfl,by decide +kernel,rfl,by decide +kernel,by decide +kernel⟩
theorem qu (D:Df K mg "is_seats_paper" cT)(T:Bt K w mg aB)(F_whole:Fnc P w K mg base "is_whole" ["thing"] 1 (fZ K))(F_istab:Fnc P w K mg base "is_table" ["many","thing"] 3 (jk K)):Fnc P w K mg base "is_seats_paper" ["many","thing"] 4 gj:=by
 have sc:=oo
 refine D.ok sc (fun _ _ _ _ _ _ us hl=>by obtain ⟨_,_,rfl⟩:=tD hl;rfl) (fun vs H Q E h=>?_) (fun f cdv A outer s H vs Q E hr h=>?_)
 ·obtain ⟨a,y,m,n,s,t,rfl,_⟩:=h
  rfl
 ·obtain ⟨a,y,m,n,s,t,rfl,ha,ht,Tt,m1,m6,n2,sn,k⟩:=h
  have l16:=bj
  refine ⟨_,(@ah _ _ _ _ _ (@bA _ _ _ _ _ _ _ _ (@PW.pt _ _ _ (@gx _ _ _ _ _ _ _ (@bY _ _ _ _ (@bg _ _ _ (@aw _ _ _ _ _ _ _ _ _ (@br _ (K) rfl) (by rfl) T.isinstance aM (@aa _ _ _ _ _ (pv 1) (@aa _ _ _ _ _ (@bK _ _ (.ty "tuple") _ _ rfl T.tuple cg rfl (by decide) (by decide)) ag (by rfl)) (by rfl)) (by decide) (by decide) (by rfl) (by rfl)) (fun _=>rfl))) (@gx _ _ _ _ _ _ _ (@aK _ _ _ _ _ _ _ _ oW (@aw _ _ _ _ _ _ _ _ _ aE (by rfl) T.len zW (@aa _ _ _ _ _ (pv 1) ag (by rfl)) (by decide) (by decide) (by rfl) (by rfl)) ak (aP _)) (@dY _ _ _ _ (@aK _ _ _ _ _ _ _ _ oW (@bB _ _ _ _ _ _ _ bC (pv 1) ak (fun _ _=>rfl)) aD (aP _)))))) (@aj _ _ _ (@aI _ _ _ _ cw)) aU) (@aj _ _ _ (@aI _ _ _ _ (@dw _ _ _ _ _ _ _ (@aO _ _ _ _ _ _ _ _ _ _ _ F_istab hr (by decide) rfl (@aa _ _ _ _ _ (pv 0) (@aa _ _ _ _ _ (@bB _ _ _ _ _ _ _ bC (pv 1) ak (fun _ _=>rfl)) ag (by rfl)) (by rfl)) (by decide) (by rfl) (by rfl)) (@dw _ _ _ _ _ _ _ (@aO _ _ _ _ _ _ _ _ _ _ _ F_whole hr (by decide) rfl (@aa _ _ _ _ _ (@bB _ _ _ _ _ _ _ bC (pv 1) ak (fun _ _=>rfl)) ag (by rfl)) (by decide) (by rfl) (by rfl)) (@gy _ _ _ _ _ (@oZ _ _ _ _ _ _ _ _ _ _ _ _ rF oX ak (@bB _ _ _ _ _ _ _ bC (pv 1) ak (fun _ _=>rfl)) (@aw _ _ _ _ _ _ _ _ _ aE (by rfl) T.len zW (@aa _ _ _ _ _ (@bB _ _ _ _ _ _ _ bC (@bB _ _ _ _ _ _ _ bC (pv 1) ak (fun _ _=>rfl)) ak (fun _ _=>rfl)) ag (by rfl)) (by decide) (by decide) (by rfl) (by rfl)) (by with_unfolding_all rfl)))))))),?_⟩
  have h0:atI [V.str "seats",y,.int (s:Int)] 0=some (.str "seats"):=rfl
  have h1:atI [V.str "seats",y,.int (s:Int)] 1=some y:=rfl
  have h2:atI [V.str "seats",y,.int (s:Int)] 2=some (.int (s:Int)):=rfl
  refine ⟨_,rfl,_,_,_,_,rfl,.tup ha,dO,_,rfl,sX ?_⟩
  refine ⟨_,rfl,a,_,rfl,.inr (SqT.of ha),rfl,_,rfl,dH (by simp) ?_⟩
  refine ⟨_,rfl,a,_,_,_,rfl,rfl,SqT.of ha,h0,rfl,_,rfl,dH (by simp) ?_⟩
  obtain ⟨b,hb,eb⟩:=xH (K:=K) ht Tt m1 m6 (by omega) (by omega)
  refine ⟨_,rfl,_,rfl,a,_,_,_,rfl,rfl,SqT.of ha,h1,m,y,b,rfl,m1,hb,fun H1 s1=>?_⟩
  rw [eb]
  by_cases hn:n≤1001
  ·rw [zx hn] at k ⊢
   refine ⟨_,rfl,pk ?_⟩
   refine ⟨_,rfl,a,_,_,_,rfl,rfl,SqT.of (s1 _ _ ha),h2,_,rfl,Nd.wh (N:=0) (.flat rfl),?_⟩
   refine ⟨_,rfl,pk ?_⟩
   obtain ⟨p,xs,rfl,hp,rs⟩:=ht.same s1
   obtain ⟨x0,hx0,b0,rfl,hb0⟩:=rs.atI (i:=0) (by rw [Tt.len];omega)
   have hx0:atI xs 0=some (.ref b0):=hx0
   have P0:PN n (t[0]'(by rw [Tt.len];omega)):=Tt.row _ (zL _)
   have ha1:=s1 _ _ ha
   refine ⟨_,rfl,a,_,_,_,rfl,rfl,SqT.of ha1,h2,_,_,rfl,rfl,_,rfl,iM (zx (by omega)) ?_⟩
   refine ⟨_,rfl,a,_,_,_,rfl,rfl,SqT.of ha1,h1,p,_,_,_,rfl,rfl,SqT.of hp,hx0,b0,_,rfl,.inr (SqT.of hb0),_,_,rfl,rfl,?_⟩
   rw [aA,P0.len,zx (show ((s:Nat):Int) < (n:Nat) by omega)]
   exact k _ s1
  ·rw [zC hn] at k ⊢
   exact ⟨_,rfl,oA (k _ s1)⟩
def y6 (st:Stmt)(j:Nat):Stmt:=match st with | .ClassDef (body:=b) ..=>b.getD j (.Pass ⟨0,0,0,0⟩) | _=>.Pass ⟨0,0,0,0⟩
abbrev eX:Stmt:=y6 (top 24) 0
theorem oq:aC ["self","word","at"] ["self","word","at"] (af eX):=⟨rfl,rfl,rfl,by decide +kernel,rfl,by decide +kernel,by decide +kernel⟩
theorem qv {R C f:Addr}{fd:FuncData}(D:Fun K "__init__" "NoPaper.__init__" eX f fd)(B:sS K R)(hR:mg "RingError" = some (.ref R))(x:XAt K C)(n0:PySem.W.findIn K (.ref C) "word" = some none)(n1:PySem.W.findIn K (.ref C) "at" = some none) :
  ff K fd ["self","word","at"] []∧fj P w K mg base CX0 1 f fd ["self","word","at"] (nK ["word","at"] C):=by
 have sc:=oq
 refine ⟨D.binds fun _ _ _ _ _ _ us hl=>match us,hl with | [_,_,_],_=>rfl,D.ok sc (fun vs H Q E h=>?_) (fun cdv A outer s H vs Q E hr h=>?_)⟩
 ·obtain ⟨a,ys,b,rfl,hl,_⟩:=h
  rw [Ar,hl];rfl
 ·obtain ⟨a,ys,b,rfl,hl,ea,k⟩:=h
  match ys,hl with
  | [y,z],_ =>
  refine ⟨_,(@ah _ _ _ _ _ (@iT _ _ _ _ (@qe _ _ _ _ _ _ _ _ _ _ B rfl hR (@aa _ _ _ _ _ (pv 0) (@aa _ _ _ _ _ aD ag (by rfl)) (by rfl)) (by decide) (by rfl) (by rfl) (by rfl)) (by rfl))
   (@ah _ _ _ _ _ (@vE _ _ _ _ _ _ _ _ (pv 0) (pv 1) (by rfl)) (@aj _ _ _ (@vF _ _ _ _ _ _ _ _ (pv 0) (pv 2) (by rfl))))),?_⟩
  refine ⟨_,rfl,a,C,none,b,[_],rfl,by simp,ea,x,?_⟩
  refine ⟨_,rfl,_,rfl,a,C,b,rfl,ea,x,n0,fun dx hdx ne=>?_⟩
  refine ⟨_,rfl,_,rfl,a,C,b,dx,_,rfl,?_,ae ..,(by show (1:Nat)≤900;decide),x,n1,ne,?_⟩
  ·rw [aq (Ne.symm ne),ae]
  ·have q:=k dx hdx ne
   rw [show ∀ o o',upd (upd (upd H a (Exo a C (some dx) b)) dx o) dx o'=upd (upd H a (Exo a C (some dx) b)) dx o' from fun _ _=>cW]
   exact q
abbrev gu:Stmt:=top 54
theorem tO (D:Df K mg "look_at_short" gu):oE P w K mg base "look_at_short" ["rings","word","steps"] 1 uk:=(D.never (fun _ _ _ _ _ _ us hl=>by obtain ⟨_,_,_,rfl⟩:=uo hl; rfl):Fnc P w K mg base "look_at_short" ["rings","word","steps"] 1 uk).x
theorem eY {C:Addr}{H:Hp}{a dx:Addr}{z:Str}{k:Nat}(ha:H a=none)(hd:H dx=none)(ne:dx≠a) :
  XP C (upd (upd (upd H a (Exo a C (some dx) true)) dx (Xdt dx (qg [] ((["word","at"]:List Str).zip [.str z,.int (k:Nat)])))) a (Exo a C (some dx) false)) a z k:=by
 refine ⟨dx,ae,?_⟩
 rw [aq ne,ae]
 rfl
theorem eZ {H:Hp}{a dx:Addr}{o o' o2:HO}(ha:H a=none)(hd:H dx=none):az H (upd (upd (upd H a o) dx o') a o2):=fun b u e=>by
 rw [aq (ao e ha),aq (ao e hd),aq (ao e ha)]
 exact e
abbrev cU:Stmt:=top 55
theorem ou:aC ["rings","word","table","seat","moving"] ["rings","word","table","seat"] (af cU):=⟨rfl,rfl,rfl,by decide +kernel,rfl,by decide +kernel,by decide +kernel⟩
theorem qw {CT:Addr}(D:Df K mg "look_at_seats" cU)(T:Bt K w mg aB)(F_unk:Fnc P w K mg base "unkept" ["rings","table"] 3 nR)(F_led:Fnc P w K mg base "led" ["table","seat","word"] 3 p5)(M_paper:XMk P w K mg base "NoPaper" CT ["word","at"] 1):oE P w K mg base "look_at_seats" ["rings","word","table","seat"] 4 (jo CT):=by
 have sc:=ou
 refine D.okX sc (fun _ _ _ _ _ _ us hl=>by obtain ⟨_,_,_,_,rfl⟩:=yj hl;rfl) (fun vs H Q E h=>?_) (fun f cdv A outer s H vs Q E hr h=>?_)
 ·obtain ⟨r,y,m,n,s,t,ws,w,rfl,_⟩:=h
  rfl
 ·obtain ⟨r,y,m,n,s,t,ws,w,rfl,hr0,ht,Tt,m1,m6,n1,sn,hw,wl,hws,k0,k1⟩:=h
  refine ⟨_,(@ah _ _ _ _ _ (@aF _ _ (4) _ _ _ _ sc.nd rfl (Or.inl rfl) (@aO _ _ _ _ _ _ _ _ _ _ _ F_unk hr (by decide) rfl (@aa _ _ _ _ _ (pv 0) (@aa _ _ _ _ _ (pv 2) ag (by rfl)) (by rfl)) (by decide) (by rfl) (by rfl)) (by rfl) (by first | exact .inl rfl | exact .inr rfl | assumption)) (@ah _ _ _ _ _ (@bA _ _ _ _ _ _ _ _ (@aK _ _ _ _ _ _ _ _ rG (pv 4) qG (aP _)) (@aj _ _ _ (@eM _ _ _ _ _ dm rfl (@sU _ _ _ _ _ _ _ _ _ _ _ M_paper hr (by decide) rfl (@aa _ _ _ _ _ aD (@aa _ _ _ _ _ (pv 4) ag (by rfl)) (by rfl)) (by decide) (by rfl) (by rfl)))) aU) (@aj _ _ _ (@bA _ _ _ _ _ _ _ _ (@aK _ _ _ _ _ _ _ _ cC (@aO _ _ _ _ _ _ _ _ _ _ _ F_led hr (by decide) rfl (@aa _ _ _ _ _ (pv 2) (@aa _ _ _ _ _ (pv 3) (@aa _ _ _ _ _ (pv 1) ag (by rfl)) (by rfl)) (by rfl)) (by decide) (by rfl) (by rfl)) (pv 3) (aP _)) (@aj _ _ _ (@eM _ _ _ _ _ dm rfl (@sU _ _ _ _ _ _ _ _ _ _ _ M_paper hr (by decide) rfl (@aa _ _ _ _ _ aD (@aa _ _ _ _ _ ak ag (by rfl)) (by rfl)) (by decide) (by rfl) (by rfl)))) aU)))),?_⟩
  refine ⟨_,rfl,_,rfl,r,y,m,n,t,ws,rfl,hr0,ht,Tt,m1,m6,n1,hws,fun H1 s1 F1=>?_,fun j v H1 s1 F1 e1 nf=>?_⟩
  ·have eo:bU n t ws w s=if ledN t s w=s then some (("seat":Str),0) else none:=by unfold bU;rw [ir F1]
   refine ⟨_,rfl,rfl,_,rfl,dH rfl ?_⟩
   refine ⟨_,rfl,_,rfl,_,rfl,y,m,n,s,t,w,rfl,ht.same s1,Tt,m6,n1,sn,hw,wl,fun H2 s2=>⟨_,rfl,rfl,_,rfl,?_⟩⟩
   by_cases e:ledN t s w=s
   ·rw [if_pos e] at eo
    refine iM (zx (by rw [e])) ?_
    refine ⟨rfl,by decide,fun a dx ha hd ne=>⟨a,CT,some dx,rfl,by rw [aq ne.symm,ae],M_paper.ca.1,k1 _ _ eo a _ (eY (k:=0) ha hd ne) ((s1.trans s2).trans (eZ ha hd))⟩⟩
   ·rw [if_neg e] at eo
    refine dH (zC fun q=>e (by have:=V.int.inj q;omega)) ?_
    exact k0 eo _ (s1.trans s2)
  ·have eo:bU n t ws w s=some (("ring":Str),j):=by unfold bU;rw [ix F1 e1 nf,BO]
   refine ⟨_,rfl,rfl,_,rfl,iM rfl ?_⟩
   exact ⟨_,rfl,rfl,by decide,fun a dx ha hd ne=>⟨a,CT,some dx,rfl,by rw [aq ne.symm,ae],M_paper.ca.1,k1 _ _ eo a _ (eY ha hd ne) (s1.trans (eZ ha hd))⟩⟩
abbrev iF:Stmt:=top 51
theorem tP:aC ["many","rings","word","thing"] ["many","rings","word","thing"] (af iF):=⟨rfl,rfl,rfl,by decide +kernel,rfl,by decide +kernel,by decide +kernel⟩
theorem vY {CT:Addr}(D:Df K mg "lets_none" iF)(T:Bt K w mg aB)(F_shortp:Fnc P w K mg base "is_short_paper" ["thing"] 2 gh)(F_seatsp:Fnc P w K mg base "is_seats_paper" ["many","thing"] 4 gj)(F_looks:oE P w K mg base "look_at_short" ["rings","word","steps"] 1 uk)(F_lookat:oE P w K mg base "look_at_seats" ["rings","word","table","seat"] 4 (jo CT))(M_paper:XMk P w K mg base "NoPaper" CT ["word","at"] 1):oE P w K mg base "lets_none" ["many","rings","word","thing"] 5 (jq CT):=by
 have sc:=tP
 refine D.okX sc (fun _ _ _ _ _ _ us hl=>by obtain ⟨_,_,_,_,rfl⟩:=yj hl;rfl) (fun vs H Q E h=>?_) (fun f cdv A outer s H vs Q E hr h=>?_)
 ·obtain ⟨r,a,y,m,n,s,t,ws,w,rfl,_⟩:=h
  rfl
 ·obtain ⟨r,a,y,m,n,s,t,ws,w,rfl,ha0,hr0,ht,Tt,m1,m6,n1,sn,hw,wl,hws,k0,k1⟩:=h
  refine ⟨_,(@ah _ _ _ _ _ (@bA _ _ _ _ _ _ _ _ (@bg _ _ _ (@aO _ _ _ _ _ _ _ _ _ _ _ F_shortp hr (by decide) rfl (@aa _ _ _ _ _ (pv 3) ag (by rfl)) (by decide) (by rfl) (by rfl)) (fun _=>rfl)) (@aj _ _ _ (@iT _ _ _ _ (@rm _ _ _ _ _ _ _ _ _ _ _ _ F_looks hr (by decide) fw rfl (@aa _ _ _ _ _ (pv 1) (@aa _ _ _ _ _ (pv 2) (@aa _ _ _ _ _ (@bB _ _ _ _ _ _ _ bC (pv 3) ak (fun _ _=>rfl)) ag (by rfl)) (by rfl)) (by rfl)) (by decide) (by rfl) (by rfl)) (by rfl))) (@aj _ _ _ (@bA _ _ _ _ _ _ _ _ (@bg _ _ _ (@aO _ _ _ _ _ _ _ _ _ _ _ F_seatsp hr (by decide) rfl (@aa _ _ _ _ _ (pv 0) (@aa _ _ _ _ _ (pv 3) ag (by rfl)) (by rfl)) (by decide) (by rfl) (by rfl)) (fun _=>rfl)) (@aj _ _ _ (@iT _ _ _ _ (@rm _ _ _ _ _ _ _ _ _ _ _ _ F_lookat hr (by decide) fw rfl (@aa _ _ _ _ _ (pv 1) (@aa _ _ _ _ _ (pv 2) (@aa _ _ _ _ _ (@bB _ _ _ _ _ _ _ bC (pv 3) ak (fun _ _=>rfl)) (@aa _ _ _ _ _ (@bB _ _ _ _ _ _ _ bC (pv 3) ak (fun _ _=>rfl)) ag (by rfl)) (by rfl)) (by rfl)) (by rfl)) (by decide) (by rfl) (by rfl)) (by rfl))) (@aj _ _ _ (@eM _ _ _ _ _ dm rfl (@sU _ _ _ _ _ _ _ _ _ _ _ M_paper hr (by decide) rfl (@aa _ _ _ _ _ aD (@aa _ _ _ _ _ ak ag (by rfl)) (by rfl)) (by decide) (by rfl) (by rfl))))))) (@aj _ _ _ (@aI _ _ _ _ cw))),?_⟩
  have h1:atI [V.str "seats",y,.int (s:Int)] 1=some y:=rfl
  have h2:atI [V.str "seats",y,.int (s:Int)] 2=some (.int (s:Int)):=rfl
  refine ⟨_,rfl,a,_,_,_,rfl,ha0,_,rfl,dH rfl ?_⟩
  refine ⟨_,rfl,_,rfl,a,y,m,n,s,t,rfl,ha0,ht,Tt,m1,m6,n1,sn,fun H1 s1=>⟨_,rfl,?_⟩⟩
  by_cases hn:n≤1001
  ·have eo:bJ n t ws w s=bU n t ws w s:=by unfold bJ;rw [if_pos hn]
   rw [eo] at k0 k1
   refine iM (zx hn) ?_
   refine ⟨_,rfl,_,rfl,_,rfl,a,_,_,_,rfl,rfl,SqT.of (s1 _ _ ha0),h1,_,rfl,a,_,_,_,rfl,rfl,SqT.of (s1 _ _ ha0),h2,r,y,m,n,s,t,ws,w,rfl,s1 _ _ hr0,ht.same s1,Tt,m1,m6,hn,sn,hw,wl,hws,fun e H2 s2=>?_,fun z j e b H2 xp s2=>k1 z j e b H2 xp (s1.trans s2)⟩
   exact k0 e _ (s1.trans s2)
  ·have eo:bJ n t ws w s=some (("shape":Str),0):=by unfold bJ;rw [if_neg hn]
   refine dH (zC hn) ?_
   exact ⟨rfl,by decide,fun a dx ha hd ne=>⟨a,CT,some dx,rfl,by rw [aq ne.symm,ae],M_paper.ca.1,k1 _ _ eo a _ (eY (k:=0) ha hd ne) (s1.trans (eZ ha hd))⟩⟩
abbrev e6:Stmt:=top 59
theorem qx:aC ["_law_word","_law_found","_law_sign"] ["_law_word"] (af e6):=⟨rfl,rfl,rfl,by decide +kernel,rfl,by decide +kernel,by decide +kernel⟩
theorem tQ (D:Df K mg "_law_back" e6):Fnc P w K mg base "_law_back" ["_law_word"] 1 sk:=by
 have sc:=qx
 refine D.ok sc (fun _ _ _ _ _ _ us hl=>by obtain ⟨_,rfl⟩:=oF hl;rfl) (fun vs H Q E h=>?_) (fun f cdv A outer s H vs Q E hr h=>?_)
 ·obtain ⟨u,rfl,_⟩:=h
  rfl
 ·obtain ⟨u,rfl,hu,k⟩:=h
  have l16:=bj
  refine ⟨_,(@ah _ _ _ _ _ (@aF _ _ (1) _ _ _ _ sc.nd rfl (Or.inl rfl) aD (by rfl) (by first | exact .inl rfl | exact .inr rfl | assumption)) (@ah _ _ _ _ _ (@bZ _ _ _ _ _ _ _ _ Ag rfl (@gT _ _ _ _ (pv 0)) (@aH _ _ (2) _ sc.nd rfl (Or.inl rfl) (by first | exact .inl rfl | exact .inr rfl | assumption)) (@aj _ _ _ (@aF _ _ (1) _ _ _ _ sc.nd rfl (Or.inl rfl) (@aG _ _ _ _ _ _ _ _ aW (@cF _ _ _ _ _ _ _ _ (@aK _ _ _ _ _ _ _ _ gD (pv 2) aD rfl) (@jD _ _ _ _ _ _ _ _ _ Am CC CD jI (pv 2) (by rfl) (by rfl)) (@jD _ _ _ _ _ _ _ _ _ Am CF CG jJ (pv 2) (by rfl) (by rfl))) (pv 1)) (by rfl) (by first | exact .inl rfl | exact .inr rfl | assumption))) (by intro _ ;rfl)) (@aj _ _ _ (@aI _ _ _ _ (pv 1))))),?_⟩
  refine ⟨_,rfl,_,rfl,fM (z:=toS u) (fun i σ H'=>∃ v,σ = [some (tx u),some (tx (bk (u.take i))),v]∧H'=H) ⟨none,(by rw [CN];show _=[some (tx u),some (tx []),none];rw [mD];rfl),rfl⟩ ?_ ?_⟩
  ·rintro i c σ H1 hc ⟨v,rfl,rfl⟩
   obtain ⟨x,hx,e⟩:=cD hc
   rw [e]
   have hi:i < u.length:=(zf.mp hx).1
   have fin:∀ z,z=toS [inv x]→∃ v',[some (tx u),some (V.str (z++toS (bk (u.take i)))),some (V.str (toS [x]))]=[some (tx u),some (tx (bk (u.take (i+1)))),v']∧H1=H1:=fun z ez=>by
    refine ⟨some (V.str (toS [x])),?_,rfl⟩
    rw [ez,dF,cj hx,mn]
    rfl
   have room:∀ z,z=toS [inv x]→z.length+(toS (bk (u.take i))).length≤sizeLine:=fun z ez=>by
    rw [ez,ai,ai,bt,zo]
    simp only [A6]
    omega
   refine ⟨_,rfl,_,_,rfl,rfl,_,rfl,?_⟩
   rw [jL]
   refine ud (fun h=>?_) (fun h=>?_)
   ·have h:x.val < 6:=by simpa using h
    exact ⟨_,rfl,rfl,_,rfl,rfl,(by rw [ai];show 1≤5592405;decide),_,rfl,_,_,rfl,rfl,room _ (eB h),fin _ (eB h)⟩
   ·have h:¬ x.val < 6:=by simpa using h
    exact ⟨_,rfl,rfl,_,rfl,rfl,(by rw [ai];show 1≤5592405;decide),_,rfl,_,_,rfl,rfl,room _ (gZ h),fin _ (gZ h)⟩
  ·rintro σ H1 ⟨v,rfl,rfl⟩
   rw [bq,z_]
   exact ⟨_,rfl,k _ (az.refl _)⟩
abbrev iG:Stmt:=top 60
theorem tR:aC ["_law_word","_law_at"] ["_law_word"] (af iG):=⟨rfl,rfl,rfl,by decide +kernel,rfl,by decide +kernel,by decide +kernel⟩
theorem vZ (D:Df K mg "_law_reduced" iG)(T:Bt K w mg aB)(F_lback:Fnc P w K mg base "_law_back" ["_law_word"] 1 sk):Fnc P w K mg base "_law_reduced" ["_law_word"] 2 sq:=by
 have sc:=tR
 refine D.ok sc (fun _ _ _ _ _ _ us hl=>by obtain ⟨_,rfl⟩:=oF hl;rfl) (fun vs H Q E h=>?_) (fun f cdv A outer s H vs Q E hr h=>?_)
 ·obtain ⟨u,rfl,_⟩:=h
  rfl
 ·obtain ⟨u0,rfl,hu,k⟩:=h
  have l16:=bj
  refine ⟨_,(@ah _ _ _ _ _ (@aF _ _ (1) _ _ _ _ sc.nd rfl (Or.inl rfl) ak (by rfl) (by first | exact .inl rfl | exact .inr rfl | assumption)) (@ah _ _ _ _ _ (@oS _ _ _ _ _ _ Ag (@aK _ _ _ _ _ _ _ _ oX (@aG _ _ _ _ _ _ _ _ bf (pv 1) ak) (@aw _ _ _ _ _ _ _ _ _ bG (by rfl) T.len zW (@aa _ _ _ _ _ (pv 0) ag (by rfl)) (by decide) (by decide) (by rfl) (by rfl)) (aP _)) (@aj _ _ _ (@bA _ _ _ _ _ _ _ _ (@aK _ _ _ _ _ _ _ _ cC (@bB _ _ _ _ _ _ _ gJ (pv 0) (@aG _ _ _ _ _ _ _ _ bf (pv 1) ak) (fun _ _=>rfl)) (@aO _ _ _ _ _ _ _ _ _ _ _ F_lback hr (by decide) rfl (@aa _ _ _ _ _ (@bB _ _ _ _ _ _ _ gJ (pv 0) (pv 1) (fun _ _=>rfl)) ag (by rfl)) (by decide) (by rfl) (by rfl)) (aP _)) (@ah _ _ _ _ _ (@aF _ _ (0) _ _ _ _ sc.nd rfl (Or.inl rfl) (@aG _ _ _ _ _ _ _ _ aW (@bw _ _ _ _ _ _ _ _ _ _ dC (pv 0) bQ (@bR _ _ _ (pv 1))) (@bw _ _ _ _ _ _ _ _ _ _ dC (pv 0) (@bR _ _ _ (@aG _ _ _ _ _ _ _ _ bf (pv 1) ak)) bQ)) (by rfl) (by first | exact .inl rfl | exact .inr rfl | assumption)) (@aj _ _ _ (@aF _ _ (1) _ _ _ _ sc.nd rfl (Or.inl rfl) (@aw _ _ _ _ _ _ _ _ _ (@lH _ rfl) (by rfl) T.max w_ (@aa _ _ _ _ _ ak (@aa _ _ _ _ _ (@aG _ _ _ _ _ _ _ _ uG (pv 1) ak) ag (by rfl)) (by rfl)) (by decide) (by decide) (by rfl) (by rfl)) (by rfl) (by first | exact .inl rfl | exact .inr rfl | assumption)))) (@aj _ _ _ (@aF _ _ (1) _ _ _ _ sc.nd rfl (Or.inl rfl) (@aG _ _ _ _ _ _ _ _ bf (pv 1) ak) (by rfl) (by first | exact .inl rfl | exact .inr rfl | assumption)))))) (@aj _ _ _ (@aI _ _ _ _ (pv 0))))),?_⟩
  refine ⟨fun m σ H'=>∃ (u:List L) (j:Nat),σ = [some (tx u),some (.int j)]∧az H H'∧red u=red u0∧qS (j+1) u∧u.length≤5000∧m=2*u.length - j,⟨_,u0,0,rfl,az.refl _,rfl,(fun i x y hi=>by omega),hu,rfl⟩,?_⟩
  rintro m σ H1 ⟨u,j,rfl,s1,hr0,hrd,hlu,rfl⟩
  refine ⟨_,rfl,_,_,rfl,rfl,_,rfl,_,rfl,(by rw [ai];omega),_,_,rfl,rfl,_,rfl,?_⟩
  rw [ai]
  refine ud (fun h=>?_) (fun h=>?_)
  ·have h:j+1 < u.length:=by
    have h:(j:Int)+1 < (u.length:Int):=by simpa using h
    omega
   have hx:u[j]? = some u[j]:=y_ (by omega)
   have hy:u[j+1]? = some u[j+1]:=y_ h
   generalize u[j]=x at hx
   generalize u[j+1]=y at hy
   refine ⟨_,fun σ' H' q=>q,?_⟩
   refine ⟨_,rfl,_,rfl,_,_,rfl,rfl,_,_,cp y,rfl,rfl,(by rw [ai];omega),dj (k:=j+1) (by omega) hy,?_⟩
   refine ⟨_,rfl,_,rfl,_,_,cp x,rfl,rfl,(by rw [ai];omega),dj (k:=j) rfl hx,[x],rfl,(by show 1≤5000;decide),fun H2 s2=>?_⟩
   refine ⟨rfl,_,rfl,?_⟩
   show if decide (tx [y]=tx (bk [x]))=true then _ else _
   rw [u4,mq]
   refine ud (fun h2=>?_) (fun h2=>?_)
   ·have h2:y=inv x:=by simpa using h2
    subst h2
    refine ⟨_,rfl,_,rfl,_,rfl,_,rfl,(by rw [ai];omega),_,rfl,_,rfl,_,_,rfl,rfl,_,rfl,_,rfl,(by rw [ai];omega),_,_,rfl,rfl,?_,?_⟩
    ·rw [aV,aV,ai,ai]
     have h1:=cu u none (some (j:Int))
     have h2:=cu u (some ((j:Int)+2)) none
     omega
    ·refine ⟨_,rfl,_,_,rfl,rfl,_,_,rfl,?_⟩
     have el:(u.take j++u.drop (j+2)).length=u.length - 2:=by rw [zk,zo,BU];omega
     refine ⟨2*(u.take j++u.drop (j+2)).length - (j - 1),by omega,u.take j++u.drop (j+2),j - 1,?_,s1.trans s2,by rw [r9 hx hy];exact hr0,pB hrd,by omega,rfl⟩
     rw [aV,aV,gX u (by omega),fR u (by omega),dF]
     have e1:((j:Int)).toNat=j:=by omega
     have e2:((j:Int)+2).toNat=j+2:=by omega
     have e3:(if ((j:Int) - 1) > 0 then ((j:Int) - 1) else 0)=((j - 1:Nat):Int):=by split <;> omega
     rw [e1,e2,e3]
     rfl
   ·have h2:¬ y=inv x:=by simpa using h2
    refine ⟨_,rfl,_,_,rfl,rfl,?_⟩
    exact ⟨2*u.length - j - 1,by omega,u,j+1,rfl,s1.trans s2,hr0,mB hrd (fun a b ha hb=>by rw [hx] at ha;rw [hy] at hb;cases ha;cases hb;exact h2),hlu,by omega⟩
  ·have h:¬ j+1 < u.length:=by
    have h:¬ (j:Int)+1 < (u.length:Int):=by simpa using h
    omega
   refine ⟨_,rfl,?_⟩
   have e:red u0=u:=by rw [← hr0,i6 (by omega) hrd]
   rw [← e]
   exact k _ s1
abbrev iH:Stmt:=top 61
theorem tU:aC ["_law_feed_here","_law_many","_law_most","_law_signs"] ["_law_feed_here","_law_many","_law_most"] (af iH):=⟨rfl,rfl,rfl,by decide +kernel,rfl,by decide +kernel,by decide +kernel⟩
theorem v3 (D:Df K mg "_law_some" iH)(T:Bt K w mg aB)(F_draw:Fnc P w K mg base "_law_draw" ["_law_feed_here","_law_many"] 1 g_):Fnc P w K mg base "_law_some" ["_law_feed_here","_law_many","_law_most"] 2 jb:=by
 have sc:=tU
 refine D.ok sc (fun _ _ _ _ _ _ us hl=>by obtain ⟨_,_,_,rfl⟩:=uo hl;rfl) (fun vs H Q E h=>?_) (fun f cdv A outer s H vs Q E hr h=>?_)
 ·obtain ⟨d,m,n,rfl,_⟩:=h
  rfl
 ·obtain ⟨d,m,n,rfl,F,m1,m2,n1,n2,k⟩:=h
  have l16:=bj
  refine ⟨_,(@ah _ _ _ _ _ (@aF _ _ (3) _ _ _ _ sc.nd rfl (Or.inr rfl) (@aG _ _ _ _ _ _ _ _ aW (@bw _ _ _ _ _ _ _ _ _ _ dC aD bQ (@bR _ _ _ (pv 1))) (@bw _ _ _ _ _ _ _ _ _ _ dC aD bQ (@bR _ _ _ (pv 1)))) (by rfl) (by first | exact .inl rfl | exact .inr rfl | assumption)) (@aj _ _ _ (@aI _ _ _ _ (@pf _ _ _ _ _ _ _ _ _ _ _ _ Am PySem.F.slot_str_join PySem.F.type_str_join mi aD (@aa _ _ _ _ _ (@bN _ _ _ _ _ _ _ (["_law_k","_law_signs","_law_feed_here","_law_many"]) (["_law_k"]) ([3,0,1]) _ _ _ _ (@b_ _ _ _ _ _ _ rfl (by kernel_rfl)) rfl (@dZ _ _ _ _ _ _ rfl T.range (@aa _ _ _ _ _ (@aO _ _ _ _ _ _ _ _ _ _ _ F_draw hr (by decide) rfl (@aa _ _ _ _ _ (pv 0) (@aa _ _ _ _ _ (@aG _ _ _ _ _ _ _ _ bf (pv 2) ak) ag (by rfl)) (by rfl)) (by decide) (by rfl) (by rfl)) ag (by rfl)) (by rfl)) (fun _ _ _ _=>@aH _ _ (0) _ (show (["_law_k","_law_signs","_law_feed_here","_law_many"]:List Str).Nodup from by decide +kernel) rfl (Or.inl rfl) (by first | exact .inl rfl | exact .inr rfl | assumption)) (fun _ _ _ _=>bH) (fun _ _ _ _=>by (exact (@bB _ _ _ _ _ _ _ gJ (pv 1) (@aO _ _ _ _ _ _ _ _ _ _ _ F_draw hr (by decide) rfl (@aa _ _ _ _ _ (pv 2) (@aa _ _ _ _ _ (@aG _ _ _ _ _ _ _ _ fh ak (pv 3)) ag (by rfl)) (by rfl)) (by decide) (by rfl) (by rfl)) (fun _ _=>rfl)))) (by intro _ ;rfl)) ag (by rfl)) (by rfl) (by rfl) (by rfl) (by rfl) (by rfl))))),?_⟩
  refine ⟨_,rfl,_,rfl,_,rfl,(by rw [mM];omega),_,rfl,_,rfl,_,rfl,(by rw [qU];omega),_,_,rfl,rfl,?_,?_⟩
  ·have h1:=Txt.slice_le ("abcdef":Str) none (some m)
   have h2:=Txt.slice_le ("ABCDEF":Str) none (some m)
   rw [mM] at h1
   rw [qU] at h2
   omega
  rw [pG m1]
  refine ⟨rfl,_,rfl,_,rfl,_,_,rfl,rfl,d,_,rfl,F,by omega,by omega,fun r H1 r0 r1 F1 sb1=>?_⟩
  refine ⟨_,rfl,by omega,by omega,?_⟩
  refine c_ (own:=["_law_k"]) (cap:=[3,0,1]) (J:=Itr 0 r.toNat) r.toNat (fun i ys σ H'=>∃ (v:Option V) (W:List L),σ = [v,some (tx (sg m)),some (.ref d),some (.int m)]∧ys=pF W∧W.length=i∧InM m.toNat W∧Fd H' d∧bX d H H')
   ⟨none,[],rfl,rfl,rfl,InM.nil,F1,sb1⟩ (fun i ys σ H' hi ⟨v,W,_,e,e2,_⟩=>by rw [e,eE,e2];exact zu _) (by omega) (fun i ys σ H' hi _=>hi) (fun ys σ H' _=>zu _) ?_ ?_
  ·rintro i ys σ H2 x H3 N hi ⟨v,W,rfl,rfl,hW,hI,F2,sb2⟩ ⟨rfl,rfl⟩ hN
   refine ⟨_,rfl,_,rfl,_,rfl,_,_,rfl,rfl,.inl ⟨by decide,by decide⟩,d,_,rfl,F2,by omega,by omega,fun q H4 q0 q1 F4 sb4=>?_⟩
   have hq:q.toNat < (sg m).length:=by rw [hZ m1 m2];omega
   refine ⟨_,_,cp (sg m)[q.toNat],rfl,rfl,(by rw [ai,hZ m1 m2];omega),dj (k:=q.toNat) (by omega) (y_ hq),hN _ _ _ ⟨_,W++[(sg m)[q.toNat]],rfl,(hJ _ _),by rw [zk,hW];rfl,InM.snoc hI (xk m1 m2 _ (zL hq)),F4,sb2.trans sb4⟩⟩
  ·rintro ys σ H2 l ⟨v,W,rfl,rfl,hW,hI,F2,sb2⟩ hl
   refine ⟨_,l,W.map fun x=>toS [x],rfl,rfl,SqL.of (by rw [ae,jN]),hX _ (by omega),?_⟩
   rw [hU]
   exact k _ _ (by omega) hI (F2.new hl) (sb2.trans (az.new hl).b)
abbrev e9:Stmt:=top 62
theorem qy:aC ["_law_feed_here","_law_many","_law_most","_law_way","_law_one","_law_k","_law_at","_law_sign","_law_other"] ["_law_feed_here","_law_many","_law_most"] (af e9):=⟨rfl,rfl,rfl,by decide +kernel,rfl,by decide +kernel,by decide +kernel⟩
theorem tV (D:Df K mg "_law_drawn" e9)(T:Bt K w mg aB)(F_draw:Fnc P w K mg base "_law_draw" ["_law_feed_here","_law_many"] 1 g_)(F_lback:Fnc P w K mg base "_law_back" ["_law_word"] 1 sk)
  (F_some:Fnc P w K mg base "_law_some" ["_law_feed_here","_law_many","_law_most"] 2 jb):Fnc P w K mg base "_law_drawn" ["_law_feed_here","_law_many","_law_most"] 3 gf:=by
 have sc:=qy
 refine D.ok sc (fun _ _ _ _ _ _ us hl=>by obtain ⟨_,_,_,rfl⟩:=uo hl;rfl) (fun vs H Q E h=>?_) (fun f cdv A outer s H vs Q E hr h=>?_)
 ·obtain ⟨d,m,n,rfl,_⟩:=h
  rfl
 ·obtain ⟨d,m,n,rfl,F,m1,m2,n1,n2,k⟩:=h
  have l16:=bj
  refine ⟨_,(@ah _ _ _ _ _ (@aF _ _ (3) _ _ _ _ sc.nd rfl (Or.inl rfl) (@aO _ _ _ _ _ _ _ _ _ _ _ F_draw hr (by decide) rfl (@aa _ _ _ _ _ (pv 0) (@aa _ _ _ _ _ ak ag (by rfl)) (by rfl)) (by decide) (by rfl) (by rfl)) (by rfl) (by first | exact .inl rfl | exact .inr rfl | assumption)) (@ah _ _ _ _ _ (@aF _ _ (4) _ _ _ _ sc.nd rfl (Or.inl rfl) (@aO _ _ _ _ _ _ _ _ _ _ _ F_some hr (by decide) rfl (@aa _ _ _ _ _ (pv 0) (@aa _ _ _ _ _ (pv 1) (@aa _ _ _ _ _ (@cF _ _ _ _ _ _ _ _ (@aK _ _ _ _ _ _ _ _ cC (pv 3) ak (aP _)) (pv 2) (@aG _ _ _ _ _ _ _ _ cX (pv 2) ak)) ag (by rfl)) (by rfl)) (by rfl)) (by decide) (by rfl) (by rfl)) (by rfl) (by first | exact .inl rfl | exact .inr rfl | assumption)) (@ah _ _ _ _ _ (@bA _ _ _ _ _ _ _ _ (@aK _ _ _ _ _ _ _ _ cC (pv 3) ak (aP _)) (@aj _ _ _ (@bZ _ _ _ _ _ _ _ _ Ag rfl (@dZ _ _ _ _ _ _ rfl T.range (@aa _ _ _ _ _ (@aG _ _ _ _ _ _ _ _ bf ak (@aO _ _ _ _ _ _ _ _ _ _ _ F_draw hr (by decide) rfl (@aa _ _ _ _ _ (pv 0) (@aa _ _ _ _ _ (@aG _ _ _ _ _ _ _ _ cX (pv 2) ak) ag (by rfl)) (by rfl)) (by decide) (by rfl) (by rfl))) ag (by rfl)) (by rfl)) (@aH _ _ (5) _ sc.nd rfl (Or.inl rfl) (by first | exact .inl rfl | exact .inr rfl | assumption)) (@ah _ _ _ _ _ (@aF _ _ (6) _ _ _ _ sc.nd rfl (Or.inl rfl) (@aO _ _ _ _ _ _ _ _ _ _ _ F_draw hr (by decide) rfl (@aa _ _ _ _ _ (pv 0) (@aa _ _ _ _ _ (@aG _ _ _ _ _ _ _ _ bf (@aw _ _ _ _ _ _ _ _ _ bG (by rfl) T.len zW (@aa _ _ _ _ _ (pv 4) ag (by rfl)) (by decide) (by decide) (by rfl) (by rfl)) ak) ag (by rfl)) (by rfl)) (by decide) (by rfl) (by rfl)) (by rfl) (by first | exact .inl rfl | exact .inr rfl | assumption)) (@ah _ _ _ _ _ (@aF _ _ (7) _ _ _ _ sc.nd rfl (Or.inl rfl) (@bB _ _ _ _ _ _ _ gJ aD (@aO _ _ _ _ _ _ _ _ _ _ _ F_draw hr (by decide) rfl (@aa _ _ _ _ _ (pv 0) (@aa _ _ _ _ _ (pv 1) ag (by rfl)) (by rfl)) (by decide) (by rfl) (by rfl)) (fun _ _=>rfl)) (by rfl) (by first | exact .inl rfl | exact .inr rfl | assumption)) (@ah _ _ _ _ _ (@aF _ _ (7) _ _ _ _ sc.nd rfl (Or.inl rfl) (@bB _ _ _ _ _ _ _ iZ (@jA _ _ _ _ (@aa _ _ _ _ _ (pv 7) (@aa _ _ _ _ _ (@jD _ _ _ _ _ _ _ _ _ Am CC CD jI (pv 7) (by rfl) (by rfl)) ag (by rfl)) (by rfl))) (@aO _ _ _ _ _ _ _ _ _ _ _ F_draw hr (by decide) rfl (@aa _ _ _ _ _ (pv 0) (@aa _ _ _ _ _ ak ag (by rfl)) (by rfl)) (by decide) (by rfl) (by rfl)) (fun _ _=>rfl)) (by rfl) (by first | exact .inl rfl | exact .inr rfl | assumption)) (@aj _ _ _ (@aF _ _ (4) _ _ _ _ sc.nd rfl (Or.inl rfl) (@aG _ _ _ _ _ _ _ _ aW (@aG _ _ _ _ _ _ _ _ aW (@aG _ _ _ _ _ _ _ _ aW (@bw _ _ _ _ _ _ _ _ _ _ dC (pv 4) bQ (@bR _ _ _ (pv 6))) (pv 7)) (@aO _ _ _ _ _ _ _ _ _ _ _ F_lback hr (by decide) rfl (@aa _ _ _ _ _ (pv 7) ag (by rfl)) (by decide) (by rfl) (by rfl))) (@bw _ _ _ _ _ _ _ _ _ _ dC (pv 4) (@bR _ _ _ (pv 6)) bQ)) (by rfl) (by first | exact .inl rfl | exact .inr rfl | assumption)))))) (by intro _ ;rfl))) aU) (@ah _ _ _ _ _ (@aF _ _ (8) _ _ _ _ sc.nd rfl (Or.inl rfl) (@aO _ _ _ _ _ _ _ _ _ _ _ F_some hr (by decide) rfl (@aa _ _ _ _ _ (pv 0) (@aa _ _ _ _ _ (pv 1) (@aa _ _ _ _ _ (@aG _ _ _ _ _ _ _ _ cX (pv 2) ak) ag (by rfl)) (by rfl)) (by rfl)) (by decide) (by rfl) (by rfl)) (by rfl) (by first | exact .inl rfl | exact .inr rfl | assumption)) (@ah _ _ _ _ _ (@bA _ _ _ _ _ _ _ _ (@aK _ _ _ _ _ _ _ _ cC (pv 3) ak (aP _)) (@aj _ _ _ (@aI _ _ _ _ (@aG _ _ _ _ _ _ _ _ aW (@aG _ _ _ _ _ _ _ _ aW (pv 8) (pv 4)) (@aO _ _ _ _ _ _ _ _ _ _ _ F_lback hr (by decide) rfl (@aa _ _ _ _ _ (pv 8) ag (by rfl)) (by decide) (by rfl) (by rfl))))) aU) (@aj _ _ _ (@aI _ _ _ _ (@cF _ _ _ _ _ _ _ _ (@aK _ _ _ _ _ _ _ _ oX (pv 3) ak (aP _)) (pv 4) (@aG _ _ _ _ _ _ _ _ aW (@aG _ _ _ _ _ _ _ _ de (pv 4) (@aG _ _ _ _ _ _ _ _ bf ak (@aO _ _ _ _ _ _ _ _ _ _ _ F_draw hr (by decide) rfl (@aa _ _ _ _ _ (pv 0) (@aa _ _ _ _ _ ak ag (by rfl)) (by rfl)) (by decide) (by rfl) (by rfl)))) (pv 8)))))))))),?_⟩
  have q4:n / 4≤10:=by omega
  have q1:1≤n / 4:=by omega
  -- the way
  refine ⟨_,rfl,d,_,rfl,F,by decide,by decide,fun way H1 w0 w1 F1 sb1=>?_⟩
  have hw:way=0 ∨ way=1 ∨ way=2 ∨ way=3:=by omega
  rcases hw with rfl | rfl | rfl | rfl
  ·refine ⟨_,rfl,_,rfl,_,rfl,rfl,_,rfl,iM (by decide) ⟨_,rfl,d,m,n,rfl,F1,m1,m2,by omega,by omega,fun u H2 hu iu F2 sb2=>?_⟩⟩
   refine ⟨_,rfl,rfl,_,rfl,dH (by decide) ?_⟩
   refine ⟨_,rfl,_,rfl,_,rfl,_,_,rfl,rfl,⟨by decide,by decide⟩,d,m,n / 4,rfl,F2,m1,m2,by omega,by omega,fun v H8 hv iw F8 sb8=>?_⟩
   refine ⟨_,rfl,rfl,_,rfl,dH (by decide) ?_⟩
   refine ⟨_,rfl,_,_,rfl,rfl,_,rfl,iM (by decide) ⟨_,rfl,?_⟩⟩
   exact k u _ (by omega) iu F8 ((sb1.trans sb2).trans sb8)
  ·refine ⟨_,rfl,_,rfl,_,rfl,rfl,_,rfl,dH (by decide) ⟨_,rfl,_,_,rfl,rfl,⟨by decide,by decide⟩,d,m,n / 4,rfl,F1,m1,m2,by omega,by omega,fun u H2 hu iu F2 sb2=>?_⟩⟩
   refine ⟨_,rfl,rfl,_,rfl,iM (by decide) ?_⟩
   refine ⟨_,rfl,_,rfl,_,_,rfl,rfl,⟨by decide,by decide⟩,d,_,rfl,F2,by omega,by omega,fun r H3 r0 r1 F3 sb3=>⟨_,_,rfl,rfl,_,rfl,by omega,by omega,?_⟩⟩
   refine gC (lo:=0) (n:=(1+r).toNat) (fun i σ H'=>∃ (a b c:Option V) (u:List L),σ = [some (.ref d),some (.int m),some (.int n),some (.int 1),some (tx u),a,b,c,none]∧u.length≤10+2*i∧InM m.toNat u∧Fd H' d∧bX d H H')
    ⟨none,none,none,u,rfl,by omega,iu,F3,(sb1.trans sb2).trans sb3⟩ ?_ ?_
   ·rintro i σ H4 hi ⟨a,b,c,u,rfl,hu,iu,F4,sb4⟩
    refine ⟨_,rfl,_,rfl,_,rfl,(by rw [ai];omega),_,_,rfl,rfl,d,_,rfl,F4,by omega,by rw [ai];omega,fun at' H5 a0 a1 F5 sb5=>?_⟩
    refine ⟨_,rfl,_,rfl,d,_,rfl,F5,by omega,by omega,fun q H6 q0 q1 F6 sb6=>?_⟩
    obtain ⟨x,hxv,hx⟩:=nS q0 (by omega)
    have hx6:x.val < 6:=by omega
    refine ⟨_,_,cp x,rfl,rfl,(by rw [mM];omega),hx,?_⟩
    refine ⟨_,rfl,_,rfl,rfl,_,rfl,rfl,(by show 1≤5592405;decide),(by show 2≤sizeLine;decide),fun l hl=>?_⟩
    have el:V.str (Txt.upper ⟨#[cp x]⟩)=tx [inv x]:=Cn V.str (eB hx6)
    rw [el]
    refine ⟨_,rfl,d,_,rfl,F6.new hl,by decide,by decide,fun q2 H7 p0 p1 F7 sb7=>?_⟩
    obtain ⟨y,hyx,hy⟩:=sW x p0 p1
    have hyM:y.val % 6 < m.toNat:=by rw [hyx];omega
    have hl7:H7 l=some (.lst [tx [x],tx [inv x]]):=sb7 _ _ (F6.ne hl) ae
    refine ⟨l,_,_,_,rfl,rfl,SqL.of hl7,hy,?_⟩
    refine ⟨_,rfl,_,rfl,_,rfl,_,rfl,(by rw [ai];omega),_,rfl,_,_,rfl,rfl,?_,_,rfl,[y],rfl,(by show 1≤5000;decide),fun H8 s8=>?_⟩
    ·rw [aV,ai,ai]
     have h1:=cu u none (some at')
     show _+1≤_
     omega
    rw [aV,gX u a0,dF]
    refine ⟨_,_,rfl,rfl,?_,_,rfl,_,rfl,_,rfl,_,rfl,(by rw [ai];omega),_,_,rfl,rfl,?_,?_⟩
    ·rw [ai,ai,zk,zo,bt]
     simp only [A6]
     omega
    ·rw [aV,cq,ai,ai,zk,zk,zo,bt]
     have h1:=cu u (some at') none
     simp only [A6]
     omega
    ·rw [aV,fR u a0,cq,dF]
     refine ⟨_,_,_,_,rfl,?_,(InM.app9 (InM.app9 (InM.app9 (InM.take9 iu) (InM.one9 hyM)) (InM.bk (InM.one9 hyM))) (InM.drop9 iu)),F7.same s8,((((sb4.trans sb5).trans sb6).trans (az.new hl).b).trans sb7).trans s8.b⟩
     rw [zk,zk,zk,zo,BU,bt]
     simp only [A6]
     omega
   ·rintro σ H2 ⟨a,b,c,u,rfl,hu,iu,F2,sb2⟩
    refine ⟨_,rfl,_,rfl,_,rfl,_,_,rfl,rfl,⟨by decide,by decide⟩,d,m,n / 4,rfl,F2,m1,m2,by omega,by omega,fun v H8 hv iw F8 sb8=>?_⟩
    refine ⟨_,rfl,rfl,_,rfl,dH (by decide) ?_⟩
    refine ⟨_,rfl,_,_,rfl,rfl,_,rfl,iM (by decide) ⟨_,rfl,?_⟩⟩
    exact k u _ (by omega) iu F8 (sb2.trans sb8)
  ·refine ⟨_,rfl,_,rfl,_,rfl,rfl,_,rfl,dH (by decide) ⟨_,rfl,_,_,rfl,rfl,⟨by decide,by decide⟩,d,m,n / 4,rfl,F1,m1,m2,by omega,by omega,fun u H2 hu iu F2 sb2=>?_⟩⟩
   refine ⟨_,rfl,rfl,_,rfl,dH (by decide) ?_⟩
   refine ⟨_,rfl,_,rfl,_,rfl,_,_,rfl,rfl,⟨by decide,by decide⟩,d,m,n / 4,rfl,F2,m1,m2,by omega,by omega,fun v H8 hv iw F8 sb8=>?_⟩
   refine ⟨_,rfl,rfl,_,rfl,iM (by decide) ?_⟩
   refine ⟨_,rfl,_,rfl,_,_,rfl,rfl,(by rw [ai,ai];omega),?_⟩
   rw [dF]
   refine ⟨_,rfl,v,rfl,by omega,fun H9 s9=>⟨_,_,rfl,rfl,(by rw [ai,ai,zk,bt];omega),?_⟩⟩
   rw [dF]
   exact k _ _ (by rw [zk,zk,bt];omega) (InM.app9 (InM.app9 iw iu) (InM.bk iw)) (F8.same s9) (((sb1.trans sb2).trans sb8).trans s9.b)
  ·refine ⟨_,rfl,_,rfl,_,rfl,rfl,_,rfl,dH (by decide) ⟨_,rfl,_,_,rfl,rfl,⟨by decide,by decide⟩,d,m,n / 4,rfl,F1,m1,m2,by omega,by omega,fun u H2 hu iu F2 sb2=>?_⟩⟩
   refine ⟨_,rfl,rfl,_,rfl,dH (by decide) ?_⟩
   refine ⟨_,rfl,_,rfl,_,rfl,_,_,rfl,rfl,⟨by decide,by decide⟩,d,m,n / 4,rfl,F2,m1,m2,by omega,by omega,fun v H8 hv iw F8 sb8=>?_⟩
   refine ⟨_,rfl,rfl,_,rfl,dH (by decide) ?_⟩
   refine ⟨_,rfl,_,_,rfl,rfl,_,rfl,dH (by decide) ?_⟩
   refine ⟨_,rfl,_,rfl,d,_,rfl,F8,by decide,by decide,fun r H9 r0 r1 F9 sb9=>?_⟩
   have er:(rep (1+r).toNat u).length≤30:=by
    rw [fq]
    have:(1+r).toNat*u.length≤3*10:=Nat.mul_le_mul (by omega) (by omega)
    omega
   refine ⟨_,_,rfl,rfl,_,_,rfl,rfl,eC u (by omega) (by omega) (by omega),_,rfl,_,_,rfl,rfl,?_,?_⟩
   ·rw [mH,ai,ai];omega
   rw [mH,dF]
   exact k _ _ (by rw [zk];omega) (InM.app9 (InM.rep9 iu _) iw) F9 (((sb1.trans sb2).trans sb8).trans sb9)
abbrev iI:Stmt:=top 64
theorem tW:aC ["_law_table","_law_seat","_law_word","_law_sign","_law_row"] ["_law_table","_law_seat","_law_word"] (af iI):=⟨rfl,rfl,rfl,by decide +kernel,rfl,by decide +kernel,by decide +kernel⟩
theorem v5 (D:Df K mg "_law_led" iI)(T:Bt K w mg aB):Fnc P w K mg base "_law_led" ["_law_table","_law_seat","_law_word"] 1 q_:=by
 have sc:=tW
 refine D.ok sc (fun _ _ _ _ _ _ us hl=>by obtain ⟨_,_,_,rfl⟩:=uo hl;rfl) (fun vs H Q E h=>?_) (fun f cdv A outer s H vs Q E hr h=>?_)
 ·obtain ⟨x,m,n,s,t,w,rfl,_⟩:=h
  rfl
 ·obtain ⟨x,m,n,s,t,w,rfl,⟨p,xs,rfl,hp,rs⟩,Tt,m6,n1,sn,hin,hw,k⟩:=h
  have l16:=bj
  refine ⟨_,(@ah _ _ _ _ _ (@bZ _ _ _ _ _ _ _ _ Ag rfl (@gT _ _ _ _ (pv 2)) (@aH _ _ (3) _ sc.nd rfl (Or.inl rfl) (by first | exact .inl rfl | exact .inr rfl | assumption)) (@ah _ _ _ _ _ (@aF _ _ (4) _ _ _ _ sc.nd rfl (Or.inl rfl) (@bB _ _ _ _ _ _ _ bC (pv 0) (@pf _ _ _ _ _ _ _ _ _ _ _ _ Am PySem.F.slot_str_index PySem.F.type_str_index pH aD (@aa _ _ _ _ _ (@jD _ _ _ _ _ _ _ _ _ Am CF CG jJ (pv 3) (by rfl) (by rfl)) ag (by rfl)) (by rfl) (by rfl) (by rfl) (by rfl) (by rfl)) (fun _ _=>rfl)) (by rfl) (by first | exact .inl rfl | exact .inr rfl | assumption)) (@aj _ _ _ (@aF _ _ (1) _ _ _ _ sc.nd rfl (Or.inl rfl) (@cF _ _ _ _ _ _ _ _ (@aK _ _ _ _ _ _ _ _ gD (pv 3) aD rfl) (@bB _ _ _ _ _ _ _ bC (pv 4) (pv 1) (fun _ _=>rfl)) (@pf _ _ _ _ _ _ _ _ _ _ _ _ PySem.F.plainAttrs_tuple Ck PySem.F.type_tuple_index nu (pv 4) (@aa _ _ _ _ _ (pv 1) ag (by rfl)) (by rfl) (by rfl) (by rfl) (by rfl) (by rfl))) (by rfl) (by first | exact .inl rfl | exact .inr rfl | assumption)))) (by intro _ ;rfl)) (@aj _ _ _ (@aI _ _ _ _ (pv 1)))),?_⟩
  refine ⟨_,rfl,_,rfl,fM (z:=toS w) (fun i σ H'=>∃ v1 v2:Option V,σ = [some (.ref p),some (.int ((ledN t s (w.take i):Nat):Int)),some (tx w),v1,v2]∧H'=H) ⟨none,none,rfl,rfl⟩ ?_ ?_⟩
  ·rintro i c σ H2 hc ⟨v1,v2,rfl,rfl⟩
   obtain ⟨y,hy,ey⟩:=cD hc
   rw [ey]
   have hyn:=hin y (zO hy)
   have hy12:=y.isLt
   have hlt:ledN t s (w.take i) < n:=j5 Tt (fun z hz=>hin z (AD hz)) sn
   obtain ⟨x0,hx0,b0,rfl,hb0⟩:=rs.atI (i:=y.val % 6) (by rw [Tt.len];omega)
   have Pr:PN n (t[y.val % 6]'(by rw [Tt.len];omega)):=Tt.row _ (zL _)
   have et:t.getD (y.val % 6) []=t[y.val % 6]'(by rw [Tt.len];omega):=by rw [zi,y_ (by rw [Tt.len];omega)];rfl
   refine ⟨_,rfl,rfl,_,rfl,rfl,_,rfl,rfl,(by rw [ai];show 1≤5592405;decide),_,_,_,_,rfl,rfl,sP y,?_⟩
   refine ⟨p,_,_,_,rfl,rfl,SqT.of hp,hx0,?_⟩
   refine ⟨_,rfl,_,_,rfl,rfl,_,rfl,?_⟩
   rw [jL]
   have fin:∀ v,v=stp t (ledN t s (w.take i)) y→∃ v1 v2:Option V,[some (V.ref p),some (V.int ((v:Nat):Int)),some (tx w),some (V.str (toS [y])),some (V.ref b0)]=[some (V.ref p),some (V.int ((ledN t s (w.take (i+1)):Nat):Int)),some (tx w),v1,v2]∧H2=H2:=fun v ev=>by
    refine ⟨some (.str (toS [y])),some (.ref b0),?_,rfl⟩
    rw [ev,cj hy,dS]
   refine ud (fun h=>?_) (fun h=>?_)
   ·have h:y.val < 6:=by simpa using h
    refine ⟨_,rfl,_,rfl,b0,_,_,_,rfl,rfl,SqT.of hb0,ny (by rw [Pr.len];exact hlt),fin _ ?_⟩
    unfold stp
    rw [if_pos h,← et,Nat.mod_eq_of_lt h]
   ·have h:¬ y.val < 6:=by simpa using h
    rw [nG] at hb0
    refine ⟨_,rfl,.inr (.inl ⟨rfl,.inr ⟨_,hb0⟩⟩),_,rfl,b0,_,_,rfl,rfl,hb0,?_,?_⟩
    ·rw [zK]
     exact ⟨_,Pr.mem.mpr hlt,rfl⟩
    ·rw [p9]
     refine fin _ ?_
     unfold stp
     rw [if_neg h,← et,show y.val % 6=y.val - 6 by omega]
  ·rintro σ H2 ⟨v1,v2,rfl,rfl⟩
   rw [bq,z_]
   exact ⟨_,rfl,k _ (az.refl _)⟩
abbrev iJ:Stmt:=top 20
theorem tX:aC ["letter","word","known","taken","place","sign","seats","spare"] ["letter","word"] (af iJ):=⟨rfl,rfl,rfl,by decide +kernel,rfl,by decide +kernel,by decide +kernel⟩
theorem v7 (D:Df K mg "lined_row" iJ)(T:Bt K w mg aB)(Te:mg "enumerate" = none)(Td:mg "dict" = none)(F_back:Fnc P w K mg base "back" ["word"] 1 sk):Fnc P w K mg base "lined_row" ["letter","word"] 2 oa:=by
 have sc:=tX
 refine D.ok sc (fun _ _ _ _ _ _ us hl=>by obtain ⟨_,_,rfl⟩:=tD hl;rfl) (fun vs H Q E h=>?_) (fun f cdv A outer s H vs Q E hr h=>?_)
 ·obtain ⟨x,v,rfl,_⟩:=h
  rfl
 ·obtain ⟨x,v,rfl,rd,hv,k⟩:=h
  have l16:=bj
  have hu:=kD hr
  have lv:=ai v
  refine ⟨_,(@ah _ _ _ _ _ (@aF _ _ (2) _ _ _ _ sc.nd rfl (Or.inr rfl) fG (by rfl) (by first | exact .inl rfl | exact .inr rfl | assumption)) (@ah _ _ _ _ _ (@aF _ _ (3) _ _ _ _ sc.nd rfl (Or.inr rfl) fG (by rfl) (by first | exact .inl rfl | exact .inr rfl | assumption)) (@ah _ _ _ _ _ (@bZ _ _ _ _ _ _ _ _ Ag rfl (@vO _ _ _ _ _ _ _ _ rfl Te nv (@aa _ _ _ _ _ (pv 1) ag (by rfl)) (by rfl)) (@jy _ _ _ _ _ _ rfl (@bF _ _ _ _ _ (@aH _ _ (4) _ sc.nd rfl (Or.inl rfl) (by first | exact .inl rfl | exact .inr rfl | assumption)) (@bF _ _ _ _ _ (@aH _ _ (5) _ sc.nd rfl (Or.inl rfl) (by first | exact .inl rfl | exact .inr rfl | assumption)) fA (by rfl)) (by rfl)) (by rfl) (by rfl)) (@aj _ _ _ (@bA _ _ _ _ _ _ _ _ (@aK _ _ _ _ _ _ _ _ cC (pv 5) (pv 0) (aP _)) (@ah _ _ _ _ _ (@bM _ _ _ _ _ _ _ _ _ hu (pv 2) (pv 4) (@aG _ _ _ _ _ _ _ _ bf (pv 4) ak) rfl) (@aj _ _ _ (@bM _ _ _ _ _ _ _ _ _ hu (pv 3) (@aG _ _ _ _ _ _ _ _ bf (pv 4) ak) cw rfl))) (@aj _ _ _ (@bA _ _ _ _ _ _ _ _ (@aK _ _ _ _ _ _ _ _ cC (pv 5) (@aO _ _ _ _ _ _ _ _ _ _ _ F_back hr (by decide) rfl (@aa _ _ _ _ _ (pv 0) ag (by rfl)) (by decide) (by rfl) (by rfl)) (aP _)) (@ah _ _ _ _ _ (@bM _ _ _ _ _ _ _ _ _ hu (pv 2) (@aG _ _ _ _ _ _ _ _ bf (pv 4) ak) (pv 4) rfl) (@aj _ _ _ (@bM _ _ _ _ _ _ _ _ _ hu (pv 3) (pv 4) cw rfl))) aU)))) (by intro _ ;rfl)) (@ah _ _ _ _ _ (@aF _ _ (6) _ _ _ _ sc.nd rfl (Or.inl rfl) (@aQ _ _ _ _ _ _ _ _ _ (@bx _ rfl) (by rfl) T.list hG (@aa _ _ _ _ _ (@aQ _ _ _ _ _ _ _ _ _ cL (by rfl) T.range boot_range (@aa _ _ _ _ _ (@aG _ _ _ _ _ _ _ _ bf (@aw _ _ _ _ _ _ _ _ _ bG (by rfl) T.len zW (@aa _ _ _ _ _ (pv 1) ag (by rfl)) (by decide) (by decide) (by rfl) (by rfl)) ak) ag (by rfl)) (by decide) (by decide) (by rfl) (by rfl)) ag (by rfl)) (by decide) (by decide) (by rfl) (by rfl)) (by rfl) (by first | exact .inl rfl | exact .inr rfl | assumption)) (@ah _ _ _ _ _ (@aF _ _ (7) _ _ _ _ sc.nd rfl (Or.inr rfl) (@xI _ _ rfl rfl _ _ _ _ _ _ _ rfl Td vP rfl T.zip u7 (@aa _ _ _ _ _ (@bN _ _ _ _ _ _ _ (["seat","known"]) (["seat"]) ([2]) _ _ _ _ (@b_ _ _ _ _ _ _ rfl (by kernel_rfl)) rfl (@fB _ _ _ _ (pv 6)) (fun _ _ _ _=>@aH _ _ (0) _ (show (["seat","known"]:List Str).Nodup from by decide +kernel) rfl (Or.inl rfl) (by first | exact .inl rfl | exact .inr rfl | assumption)) (fun _ _ _ _=>(@fL _ _ _ (by exact (@mO _ _ _ _ _ _ hu (pv 0) (pv 1) rfl)))) (fun _ _ _ _=>by (exact (pv 0))) (by intro _ ;rfl)) (@aa _ _ _ _ _ (@bN _ _ _ _ _ _ _ (["seat","taken"]) (["seat"]) ([3]) _ _ _ _ (@b_ _ _ _ _ _ _ rfl (by kernel_rfl)) rfl (@fB _ _ _ _ (pv 6)) (fun _ _ _ _=>@aH _ _ (0) _ (show (["seat","taken"]:List Str).Nodup from by decide +kernel) rfl (Or.inl rfl) (by first | exact .inl rfl | exact .inr rfl | assumption)) (fun _ _ _ _=>(@fL _ _ _ (by exact (@mO _ _ _ _ _ _ hu (pv 0) (pv 1) rfl)))) (fun _ _ _ _=>by (exact (pv 0))) (by intro _ ;rfl)) ag (by rfl)) (by rfl)) (by rfl) (by rfl) (by rfl)) (by rfl) (by first | exact .inl rfl | exact .inr rfl | assumption)) (@aj _ _ _ (@aI _ _ _ _ (@aQ _ _ _ _ _ _ _ _ _ cG (by rfl) T.tuple cg (@aa _ _ _ _ _ (@bN _ _ _ _ _ _ _ (["seat","known","spare"]) (["seat"]) ([2,7]) _ _ _ _ (@b_ _ _ _ _ _ _ rfl (by kernel_rfl)) rfl (@fB _ _ _ _ (pv 6)) (fun _ _ _ _=>@aH _ _ (0) _ (show (["seat","known","spare"]:List Str).Nodup from by decide +kernel) rfl (Or.inl rfl) (by first | exact .inl rfl | exact .inr rfl | assumption)) (fun _ _ _ _=>bH) (fun _ _ _ _=>by (exact (@cF _ _ _ _ _ _ _ _ (@vc _ _ _ _ _ _ hu (pv 0) (pv 1) rfl) (@bh _ _ _ _ _ _ hu (pv 1) (pv 0) (fun _ _=>rfl)) (@bh _ _ _ _ _ _ hu (pv 2) (pv 0) (fun _ _=>rfl))))) (by intro _ ;rfl)) ag (by rfl)) (by decide) (by decide) (by rfl) (by rfl))))))))),?_⟩
  intro kd hkd
  have s1:=az.new (o:=.dK []) hkd
  have f1:(upd H kd (.dK [])) kd=some (.dK []):=ae
  generalize upd H kd (.dK [])=H1 at s1 f1 ⊢
  intro td htd
  have s2:=s1.then (o:=.dK []) htd
  have f2:(upd H1 td (.dK [])) td=some (.dK []):=ae
  have g2:(upd H1 td (.dK [])) kd=some (.dK []):=az.new htd _ _ f1
  have nkt:kd≠td:=ao f1 htd
  have hkd0:H kd=none:=hkd
  have htd0:H td=none:=s1.free htd
  generalize upd H1 td (.dK [])=H2 at s2 f2 g2 ⊢
  refine ⟨_,rfl,toS v,rfl,asc _,?_⟩
  have sz:(toS v).cps.size=v.length:=bq v
  refine sZ (z:=toS v) (fun i σ H'=>∃ (b4 b5:Option V),σ = [some (tx [x]),some (tx v),some (.ref kd),some (.ref td),b4,b5,none,none]∧H' kd=some (.dK ((pl x (v.take i)).map kE))∧H' td=some (.dK ((pl x (v.take i)).map tE))∧az H H') ⟨none,none,rfl,g2,f2,s2⟩ ?_ ?_
  ·rintro i c σ H3 T3 hc ⟨b4,b5,rfl,gk,gt,s3⟩ hT3
   obtain ⟨y,hy,ey⟩:=cD hc
   have hi:=(zf.mp hy).1
   have n3:=js (x:=x) hy
   have s4:=az.new (o:=.tup [.int (i:Int),.str ⟨#[c]⟩]) hT3
   have gk4:=s4 _ _ gk
   have gt4:=s4 _ _ gt
   have h4:=s3.trans s4
   refine ⟨T3,_,rfl,SqT.of ae,rfl,_,_,rfl,_,_,rfl,rfl,?_⟩
   generalize upd H3 T3 (.tup [.int (i:Int),.str ⟨#[c]⟩])=H4 at s4 gk4 gt4 h4 ⊢
   rw [ey]
   have kl:((pl x (v.take i)).map kE).length < sizeLine:=by
    have h1:=(kY (x:=x) rd i (by omega)).1
    have h2:=cP (N:=v.length+1) h1 (fun z hz=>by obtain ⟨p,hp,rfl⟩:=zK.mp hz;have:=(kZ hp).1;rw [zo] at this;omega)
    rw [zl] at h2 ⊢
    omega
   have tl:((pl x (v.take i)).map tE).length < sizeLine:=by rw [zl] at kl ⊢;exact kl
   have fin:∀ H5,az H4 H5→∀ p,plO x y i=[p]→∃ (b4 b5:Option V),[some (tx [x]),some (tx v),some (V.ref kd),some (V.ref td),some (V.int (i:Int)),some (V.str (toS [y])),none,none]=[some (tx [x]),some (tx v),some (.ref kd),some (.ref td),b4,b5,none,none]∧(upd (upd H5 kd (.dK (bo ((pl x (v.take i)).map kE) (.inl (p.1:Int)) (.int (p.2:Int))))) td (.dK (bo ((pl x (v.take i)).map tE) (.inl (p.2:Int)) (.bl true)))) kd=some (.dK ((pl x (v.take (i+1))).map kE))∧(upd (upd H5 kd (.dK (bo ((pl x (v.take i)).map kE) (.inl (p.1:Int)) (.int (p.2:Int))))) td (.dK (bo ((pl x (v.take i)).map tE) (.inl (p.2:Int)) (.bl true)))) td=some (.dK ((pl x (v.take (i+1))).map tE))∧az H (upd (upd H5 kd (.dK (bo ((pl x (v.take i)).map kE) (.inl (p.1:Int)) (.int (p.2:Int))))) td (.dK (bo ((pl x (v.take i)).map tE) (.inl (p.2:Int)) (.bl true)))):=fun H5 s5 p e=>by
    obtain ⟨e1,e2⟩:=xK rd hy e
    refine ⟨_,_,rfl,by rw [aq nkt,ae,e1],by rw [ae,e2],fun b o q=>?_⟩
    rw [aq (ao q htd0),aq (ao q hkd0)]
    exact s5 _ _ (h4 _ _ q)
   refine ⟨_,rfl,_,rfl,rfl,_,rfl,?_⟩
   by_cases e:y=x
   ·have ep:plO x y i=[(i,i+1)]:=by unfold plO;rw [if_pos e]
    rw [show decide (V.str (toS [y])=tx [x])=true from zx (by rw [e];rfl)]
    refine wo ⟨_,rfl,_,_,rfl,rfl,_,rfl,_,rfl,kd,_,rfl,oz.k (k:=.inl (i:Int)) gk4 kl,?_⟩
    refine ⟨_,rfl,_,rfl,_,_,rfl,rfl,td,_,rfl,oz.k (k:=.inl ((i:Int)+1)) (by rw [aq nkt.symm];exact gt4) tl,?_⟩
    exact fin H4 (az.refl _) _ ep
   ·rw [show decide (V.str (toS [y])=tx [x])=false from zC fun z=>e (by have:=eA (V.str.inj z);simpa using this)]
    refine qi ⟨_,rfl,_,rfl,[x],rfl,(by show 1≤5000;decide),fun H5 s5=>⟨rfl,_,rfl,?_⟩⟩
    rw [mq]
    by_cases e2:y=inv x
    ·have ep:plO x y i=[(i+1,i)]:=by unfold plO;rw [if_neg e,if_pos e2]
     rw [show decide (V.str (toS [y])=tx [inv x])=true from zx (by rw [e2];rfl)]
     refine wo ⟨_,rfl,_,rfl,_,rfl,_,_,rfl,rfl,kd,_,rfl,oz.k (k:=.inl ((i:Int)+1)) (s5 _ _ gk4) kl,?_⟩
     refine ⟨_,rfl,_,rfl,td,_,rfl,oz.k (k:=.inl (i:Int)) (by rw [aq nkt.symm];exact s5 _ _ gt4) tl,?_⟩
     exact fin H5 s5 _ ep
    ·have ep:plO x y i=[]:=by unfold plO;rw [if_neg e,if_neg e2]
     rw [show decide (V.str (toS [y])=tx [inv x])=false from zC fun z=>e2 (by have:=eA (V.str.inj z);simpa using this)]
     refine qi ⟨_,_,rfl,?_,?_,h4.trans s5⟩
     ·rw [n3,ep,AA];exact s5 _ _ gk4
     ·rw [n3,ep,AA];exact s5 _ _ gt4
  ·rintro σ H3 ⟨b4,b5,rfl,gk,gt,s3⟩
   rw [sz,z_] at gk gt
   refine ⟨_,rfl,toS v,rfl,by omega,_,_,rfl,rfl,_,rfl,fun rp hrp=>?_⟩
   have s4:=az.new (o:=.rng 0 (((toS v).length:Int)+1)) hrp
   have f4:(upd H3 rp (.rng 0 (((toS v).length:Int)+1))) rp=some (.rng 0 ((v.length+1:Nat):Int)):=by rw [ae,lv];rfl
   generalize upd H3 rp (.rng 0 (((toS v).length:Int)+1))=H4 at s4 f4 ⊢
   refine ⟨rp,v.length+1,rfl,f4,by omega,fun sl hsl=>?_⟩
   have s5:=s4.then (o:=.lst (iv (List.range (v.length+1)))) hsl
   have f5:(upd H4 sl (.lst (iv (List.range (v.length+1))))) sl=some (.lst (iv (List.range (v.length+1)))):=ae
   show iV _ _ _ _ (upd H4 sl (.lst (iv (List.range (v.length+1)))))
   generalize upd H4 sl (.lst (iv (List.range (v.length+1))))=H5 at s5 f5 ⊢
   have gk5:=s5 _ _ gk
   have gt5:=s5 _ _ gt
   have h5:=s3.trans s5
   have ll:(iv (List.range (v.length+1))).length=v.length+1:=by rw [aA,zQ]
   have ati:∀ {j:Nat} {z:V},(iv (List.range (v.length+1)))[j]? = some z→j < v.length+1∧z = .int (j:Int):=fun {j z} hz=>by
    have hj:=(zf.mp hz).1
    rw [ll] at hj
    unfold iv at hz
    rw [zH,Au hj] at hz
    exact ⟨hj,(Af hz).symm⟩
   clear s4 f4 hrp
   refine ⟨_,rfl,sl,rfl,⟨_,SqL.of f5⟩,?_⟩
   refine eF (xs:=iv (List.range (v.length+1))) (own:=["seat"]) (cap:=[2]) (fun j ys σ H'=>∃ b:Option V,σ = [b,some (.ref kd)]∧ys=iv (((List.range (v.length+1)).take j).filter fun s=>decide (s∉(pl x v).map Prod.fst))∧H'=H5) ⟨none,rfl,rfl,rfl⟩ (fun j ys σ H' hj ⟨_,_,e,_⟩=>by rw [e,aA];exact Bw (BQ _ _) (by rw [zo];omega)) (by rw [ll];omega) (fun j ys σ H' ⟨_,_,_,e⟩=>by rw [e];exact SqL.of f5) ?_ ?_
   ·rintro j ys σ H6 z N hz ⟨_,rfl,rfl,rfl⟩ hN
    obtain ⟨hj,rfl⟩:=ati hz
    refine ⟨_,rfl,_,rfl,kd,_,rfl,gw.k (k:=.inl (j:Int)) gk5,?_⟩
    refine ⟨_,rfl,?_⟩
    rw [n_ rd]
    by_cases h:j∈(pl x v).map Prod.fst
    ·refine dH (by rw [zx h];rfl) (hN _ _ _ ⟨_,rfl,?_,rfl⟩)
     rw [cR,if_neg (fun z=>z.2 h),AA]
    ·refine iM (by rw [zC h];rfl) ⟨_,rfl,hN _ _ _ ⟨_,rfl,?_,rfl⟩⟩
     rw [cR,if_pos ⟨hj,h⟩,j6]
     rfl
   rintro ys σ H6 m1 ⟨_,rfl,rfl,rfl⟩ hm1
   rw [ll,zB (by rw [zQ];omega)]
   have e1:iv ((List.range (v.length+1)).filter fun s=>decide (s∉(pl x v).map Prod.fst))=iv (rest (v.length+1) ((pl x v).map Prod.fst)):=rfl
   rw [e1]
   have s7:=az.new (o:=.lst (iv (rest (v.length+1) ((pl x v).map Prod.fst)))) hm1
   have f7:(upd H6 m1 (.lst (iv (rest (v.length+1) ((pl x v).map Prod.fst))))) m1=some (.lst (iv (rest (v.length+1) ((pl x v).map Prod.fst)))):=ae
   generalize upd H6 m1 (.lst (iv (rest (v.length+1) ((pl x v).map Prod.fst))))=H7 at s7 f7 ⊢
   have f57:=s7 _ _ f5
   have gt7:=s7 _ _ gt5
   have gk7:=s7 _ _ gk5
   refine ⟨_,rfl,sl,rfl,⟨_,SqL.of f57⟩,?_⟩
   refine eF (xs:=iv (List.range (v.length+1))) (own:=["seat"]) (cap:=[3]) (fun j ys σ H'=>∃ b:Option V,σ = [b,some (.ref td)]∧ys=iv (((List.range (v.length+1)).take j).filter fun s=>decide (s∉(pl x v).map Prod.snd))∧H'=H7) ⟨none,rfl,rfl,rfl⟩ (fun j ys σ H' hj ⟨_,_,e,_⟩=>by rw [e,aA];exact Bw (BQ _ _) (by rw [zo];omega)) (by rw [ll];omega) (fun j ys σ H' ⟨_,_,_,e⟩=>by rw [e];exact SqL.of f57) ?_ ?_
   ·rintro j ys σ H8 z N hz ⟨_,rfl,rfl,rfl⟩ hN
    obtain ⟨hj,rfl⟩:=ati hz
    refine ⟨_,rfl,_,rfl,td,_,rfl,gw.k (k:=.inl (j:Int)) gt7,_,rfl,?_⟩
    rw [tm rd]
    by_cases h:j∈(pl x v).map Prod.snd
    ·refine dH (by rw [zx h];rfl) (hN _ _ _ ⟨_,rfl,?_,rfl⟩)
     rw [cR,if_neg (fun z=>z.2 h),AA]
    ·refine iM (by rw [zC h];rfl) ⟨_,rfl,hN _ _ _ ⟨_,rfl,?_,rfl⟩⟩
     rw [cR,if_pos ⟨hj,h⟩,j6]
     rfl
   rintro ys σ H8 m2 ⟨_,rfl,rfl,rfl⟩ hm2
   rw [ll,zB (by rw [zQ];omega)]
   have e2:iv ((List.range (v.length+1)).filter fun s=>decide (s∉(pl x v).map Prod.snd))=iv (rest (v.length+1) ((pl x v).map Prod.snd)):=rfl
   rw [e2]
   have s9:=az.new (o:=.lst (iv (rest (v.length+1) ((pl x v).map Prod.snd)))) hm2
   have f9:(upd H8 m2 (.lst (iv (rest (v.length+1) ((pl x v).map Prod.snd))))) m2=some (.lst (iv (rest (v.length+1) ((pl x v).map Prod.snd)))):=ae
   generalize upd H8 m2 (.lst (iv (rest (v.length+1) ((pl x v).map Prod.snd))))=H9 at s9 f9 ⊢
   have ek:iv (rest (v.length+1) ((pl x v).map Prod.fst))=((rest (v.length+1) ((pl x v).map Prod.fst)).map fun n:Nat=>(Sum.inl (n:Int):Key)).map kV:=by unfold iv;rw [Ak];rfl
   have f79:=s9 _ _ f7
   rw [ek] at f79
   refine ⟨m1,m2,_,_,rfl,SqL.of f79,SqL.of f9,?_,fun sp hsp=>?_⟩
   ·rw [zl]
    unfold rest
    exact Bw (BQ _ _) (by rw [zQ];omega)
   rw [tj rd]
   have s10:=s9.then (o:=.dK ((spr x v).map kE)) hsp
   have f10:(upd H9 sp (.dK ((spr x v).map kE))) sp=some (.dK ((spr x v).map kE)):=ae
   generalize upd H9 sp (.dK ((spr x v).map kE))=H10 at s10 f10 ⊢
   have f510:=s10 _ _ f57
   have gk10:=s10 _ _ gk7
   have h10:=(h5.trans s7).trans s10
   clear s9 f9 f79 f7 hm2 hsp gt7 gk7 gt5 gk5 f57
   refine ⟨_,rfl,sl,rfl,⟨_,SqL.of f510⟩,?_⟩
   refine eF (xs:=iv (List.range (v.length+1))) (own:=["seat"]) (cap:=[2,7]) (fun j ys σ H'=>∃ b:Option V,σ = [b,some (.ref kd),some (.ref sp)]∧ys=iv (((List.range (v.length+1)).take j).map (lkN (dv x v)))∧H'=H10) ⟨none,rfl,rfl,rfl⟩ (fun j ys σ H' hj ⟨_,_,e,_⟩=>by rw [e,aA,zl,zo];omega) (by rw [ll];omega) (fun j ys σ H' ⟨_,_,_,e⟩=>by rw [e];exact SqL.of f510) ?_ ?_
   ·rintro j ys σ H11 z N hz ⟨_,rfl,rfl,rfl⟩ hN
    obtain ⟨hj,rfl⟩:=ati hz
    have et:iv (((List.range (v.length+1)).take (j+1)).map (lkN (dv x v)))=iv (((List.range (v.length+1)).take j).map (lkN (dv x v)))++[V.int ((lkN (dv x v) j:Nat):Int)]:=by
     rw [zZ,Au hj,zT,j6]
     rfl
    refine ⟨_,rfl,_,rfl,kd,_,rfl,gw.k (k:=.inl (j:Int)) gk10,_,rfl,?_⟩
    rw [n_ rd]
    by_cases h:j∈(pl x v).map Prod.fst
    ·refine iM (zx h) ?_
     have g:=gw.k (k:=.inl (j:Int)) gk10
     rw [n9 rd h] at g
     exact ⟨_,rfl,_,rfl,kd,_,rfl,g,hN _ _ _ ⟨_,rfl,et.symm,rfl⟩⟩
    ·refine dH (zC h) ?_
     have g:=gw.k (k:=.inl (j:Int)) f10
     rw [tq rd hj h] at g
     exact ⟨_,rfl,_,rfl,sp,_,rfl,g,hN _ _ _ ⟨_,rfl,et.symm,rfl⟩⟩
   rintro ys σ H11 m3 ⟨_,rfl,rfl,rfl⟩ hm3
   rw [ll,zB (by rw [zQ];omega)]
   refine ⟨m3,_,rfl,.inl ⟨SqL.of ae,fun rg hrg=>?_⟩⟩
   exact k rg _ _ (xJ rd (g:=lkN (dv x v)) fun p hp=>km ((cv rd).1.nodup_iff.mpr Bs) hp) ae ((h10.then hm3).then hrg)
abbrev e_:Stmt:=top 19
theorem qz:aC ["many","word"] ["many","word"] (af e_):=⟨rfl,rfl,rfl,by decide +kernel,rfl,by decide +kernel,by decide +kernel⟩
theorem tY (D:Df K mg "lined" e_)(S:∃ t,mg "SMALL" = some (.str "abcdef" t))(T:Bt K w mg aB)(F_lrow:Fnc P w K mg base "lined_row" ["letter","word"] 2 oa):Fnc P w K mg base "lined" ["many","word"] 3 ju:=by
 have sc:=qz
 refine D.ok sc (fun _ _ _ _ _ _ us hl=>by obtain ⟨_,_,rfl⟩:=tD hl;rfl) (fun vs H Q E h=>?_) (fun f cdv A outer s H vs Q E hr h=>?_)
 ·obtain ⟨m,v,rfl,_⟩:=h
  rfl
 ·obtain ⟨m,v,rfl,m1,m6,hin,rd,hv,k⟩:=h
  obtain ⟨tS,mgS⟩:=S
  have l16:=bj
  have sl:=tw m6
  refine ⟨_,(@aj _ _ _ (@aI _ _ _ _ (@aQ _ _ _ _ _ _ _ _ _ cG (by rfl) T.tuple cg (@aa _ _ _ _ _ (@bN _ _ _ _ _ _ _ (["letter","word"]) (["letter"]) ([1]) _ _ _ _ (@b_ _ _ _ _ _ _ rfl (by kernel_rfl)) rfl (@gT _ _ _ _ (@bw _ _ _ _ _ _ _ _ _ _ dC (@iR _ _ (.str "abcdef") _ _ rfl mgS ⟨_,rfl⟩ (by decide)) bQ (@bR _ _ _ (pv 0)))) (fun _ _ _ _=>@aH _ _ (0) _ (show (["letter","word"]:List Str).Nodup from by decide +kernel) rfl (Or.inl rfl) (by first | exact .inl rfl | exact .inr rfl | assumption)) (fun _ _ _ _=>bH) (fun _ _ _ _=>by (exact (@aO _ _ _ _ _ _ _ _ _ _ _ F_lrow hr (by decide) rfl (@aa _ _ _ _ _ (pv 0) (@aa _ _ _ _ _ (pv 1) ag (by rfl)) (by rfl)) (by decide) (by rfl) (by rfl)))) (by intro _ ;rfl)) ag (by rfl)) (by decide) (by decide) (by rfl) (by rfl)))),?_⟩
  refine ⟨_,rfl,_,rfl,_,rfl,(du (n:=6) (by decide)),?_⟩
  rw [og]
  refine ⟨_,rfl,?_⟩
  refine c_ (own:=["letter"]) (cap:=[1]) (J:=Its (toS (sma m))) (sma m).length (fun i ys σ H'=>∃ (b:Option V) (rs:List (List Nat)),σ = [b,some (tx v)]∧Lk (uh H') ys rs∧rs.length=i∧(∀ j,j < i→∀ h:j < 12,qm ⟨j,h⟩ v (rs.getD j []))∧az H H') ⟨none,[],rfl,Lk.nil,rfl,fun j hj=>by omega,az.refl _⟩ (fun i ys σ H' hi ⟨_,rs,_,e,e2,_⟩=>by rw [e.len,e2];exact zu _) (by omega) (fun i ys σ H' hi _=>?_) (fun ys σ H' _=>?_) ?_ ?_
  ·show i < (toS _).cps.size;rw [bq];exact hi
  ·show _=(toS _).cps.size;rw [bq]
  ·rintro i ys σ H1 z H2 N hi ⟨b,rs,rfl,lk,rl,ok,s1⟩ ⟨rfl,c,hc,rfl⟩ hN
   obtain ⟨x,hx,e⟩:=cD hc
   obtain ⟨hi12,rfl⟩:=vQ hx
   rw [e]
   refine ⟨_,rfl,_,rfl,_,v,rfl,rd,hv,fun p r H3 hr3 hp s3=>hN _ _ _ ⟨_,rs++[r],rfl,(lk.imp fun _ _ q=>q.same s3).app (Lk.one ⟨p,rfl,hp⟩),by rw [zk,rl];rfl,fun j hj h=>?_,s1.trans s3⟩⟩
   by_cases ej:j < i
   ·rw [zi,Aq (by omega),← zi]
    exact ok j ej h
   ·obtain rfl:j=i:=by omega
    rw [zi,zG (by omega),rl,CJ]
    exact hr3
  ·rintro ys σ H1 l ⟨b,rs,rfl,lk,rl,ok,s1⟩ hl
   refine ⟨l,_,rfl,.inl ⟨SqL.of ae,fun t ht=>?_⟩⟩
   rw [sl] at rl ok
   have s3:=(az.new (o:=.lst ys) hl).then (o:=.tup ys) ht
   refine k (.ref t) rs _ ⟨t,ys,rfl,ae,lk.imp fun _ _ q=>q.same s3⟩ ⟨rl,fun r hr'=>?_⟩ ?_ (s1.trans s3)
   ·obtain ⟨j,hj,e⟩:=List.mem_iff_getElem.mp hr'
    have:=(ok j (by omega) (by omega)).pn
    rw [zi,y_ hj] at this
    rw [← e]
    exact this
   ·have:=ki rl hin ok m6 v.length (zu _)
    rw [z_] at this
    exact this
theorem ow {K:PySem.W.Frag}:PySem.W.kitOne K (.type "tuple") (.type "tuple")=some true:=by kernel_rfl
theorem qA {K:PySem.W.Frag}:PySem.W.kitOne K (.type "int") (.type "int")=some true:=by kernel_rfl
theorem qB {K:PySem.W.Frag}:PySem.W.kitOne K (.type "int") (.type "bool")=some false:=by kernel_rfl
abbrev cV:Stmt:=top 63
theorem ox:aC ["_law_many","_law_seats","_law_thing","_law_row"] ["_law_many","_law_seats","_law_thing"] (af cV):=⟨rfl,rfl,rfl,by decide +kernel,rfl,by decide +kernel,by decide +kernel⟩
theorem qC (D:Df K mg "_law_is_table" cV)(T:Bt K w mg aB)(Tbool:mg "bool" = none):Fnc P w K mg base "_law_is_table" ["_law_many","_law_seats","_law_thing"] 2 gr:=by
 have sc:=ox
 refine D.ok sc (fun _ _ _ _ _ _ us hl=>by obtain ⟨_,_,_,rfl⟩:=uo hl;rfl) (fun vs H Q E h=>?_) (fun f cdv A outer s H vs Q E hr h=>?_)
 ·obtain ⟨x,m,n,t,rfl,_⟩:=h
  rfl
 ·obtain ⟨x,m,n,t,rfl,⟨a,xs,rfl,ha,lk⟩,Tt,m6,n1,n2,k⟩:=h
  have l16:=bj
  refine ⟨_,(@ah _ _ _ _ _ (@bA _ _ _ _ _ _ _ _ (@PW.pt _ _ _ (@gx _ _ _ _ _ _ _ (@bY _ _ _ _ (@bg _ _ _ (@aw _ _ _ _ _ _ _ _ _ (@br _ (K) rfl) (by rfl) T.isinstance aM (@aa _ _ _ _ _ (pv 2) (@aa _ _ _ _ _ (@bK _ _ (.ty "tuple") _ _ rfl T.tuple cg rfl (by decide) (by decide)) ag (by rfl)) (by rfl)) (by decide) (by decide) (by rfl) (by rfl)) (fun _=>rfl))) (@dY _ _ _ _ (@aK _ _ _ _ _ _ _ _ oW (@aw _ _ _ _ _ _ _ _ _ aE (by rfl) T.len zW (@aa _ _ _ _ _ (pv 2) ag (by rfl)) (by decide) (by decide) (by rfl) (by rfl)) (pv 0) (aP _))))) (@aj _ _ _ (@aI _ _ _ _ cw)) aU) (@ah _ _ _ _ _ (@bZ _ _ _ _ _ _ _ _ Ag rfl (@gz _ _ _ _ (pv 2)) (@aH _ _ (3) _ sc.nd rfl (Or.inl rfl) (by first | exact .inl rfl | exact .inr rfl | assumption)) (@ah _ _ _ _ _ (@bA _ _ _ _ _ _ _ _ (@bY _ _ _ _ (@bg _ _ _ (@aw _ _ _ _ _ _ _ _ _ (@br _ (K) rfl) (by rfl) T.isinstance aM (@aa _ _ _ _ _ (pv 3) (@aa _ _ _ _ _ (@bK _ _ (.ty "tuple") _ _ rfl T.tuple cg rfl (by decide) (by decide)) ag (by rfl)) (by rfl)) (by decide) (by decide) (by rfl) (by rfl)) (fun _=>rfl))) (@aj _ _ _ (@aI _ _ _ _ cw)) aU) (@ah _ _ _ _ _ (@bA _ _ _ _ _ _ _ _ (@aK _ _ _ _ _ _ _ _ (@mN _ (by exact hr.units)) (@bN _ _ _ _ _ _ _ (["_law_one"]) (["_law_one"]) ([]) _ _ _ _ (@b_ _ _ _ _ _ _ rfl (by kernel_rfl)) rfl (@gz _ _ _ _ (pv 3)) (fun _ _ _ _=>@aH _ _ (0) _ (show (["_law_one"]:List Str).Nodup from by decide +kernel) rfl (Or.inl rfl) (by first | exact .inl rfl | exact .inr rfl | assumption)) (fun _ _ _ _=>(@fL _ _ _ (by exact (@PW.pt _ _ _ (@gx _ _ _ _ _ _ _ (@bY _ _ _ _ (@vb _ _ _ (@aw _ _ _ _ _ _ _ _ _ (@br _ (K) rfl) (by rfl) T.isinstance aM (@aa _ _ _ _ _ (pv 0) (@aa _ _ _ _ _ (@bK _ _ (.ty "int") _ _ rfl T.int sj rfl (by decide) (by decide)) ag (by rfl)) (by rfl)) (by decide) (by decide) (by rfl) (by rfl)) (fun _=>rfl))) (@dY _ _ _ _ (@vb _ _ _ (@aw _ _ _ _ _ _ _ _ _ (@br _ (K) rfl) (by rfl) T.isinstance aM (@aa _ _ _ _ _ (pv 0) (@aa _ _ _ _ _ (@bK _ _ (.ty "bool") _ _ rfl Tbool q8 rfl (by decide) (by decide)) ag (by rfl)) (by rfl)) (by decide) (by decide) (by rfl) (by rfl)) (fun _=>rfl)))))))) (fun _ _ _ _=>by (exact (pv 0))) (by intro _ ;rfl)) (@jA _ _ _ _ ag) (aP _)) (@aj _ _ _ (@aI _ _ _ _ cw)) aU) (@aj _ _ _ (@bA _ _ _ _ _ _ _ _ (@aK _ _ _ _ _ _ _ _ (@ib _ (by exact hr.units)) (@aw _ _ _ _ _ _ _ _ _ (@bV _ _ rfl) (by rfl) T.sorted jM (@aa _ _ _ _ _ (pv 3) ag (by rfl)) (by decide) (by decide) (by rfl) (by rfl)) (@aQ _ _ _ _ _ _ _ _ _ (@bx _ rfl) (by rfl) T.list hG (@aa _ _ _ _ _ (@aQ _ _ _ _ _ _ _ _ _ cL (by rfl) T.range boot_range (@aa _ _ _ _ _ (pv 1) ag (by rfl)) (by decide) (by decide) (by rfl) (by rfl)) ag (by rfl)) (by decide) (by decide) (by rfl) (by rfl)) (aP _)) (@aj _ _ _ (@aI _ _ _ _ cw)) aU)))) (by intro _ ;rfl)) (@aj _ _ _ (@aI _ _ _ _ cw)))),?_⟩
  have xl:xs.length=m:=by rw [lk.len,Tt.len]
  refine ⟨_,rfl,_,_,_,_,rfl,.tup ha,ow,_,rfl,nkT (sX ?_)⟩
  refine ⟨_,rfl,a,xs,rfl,.inr (SqT.of ha),_,rfl,rfl,_,rfl,?_⟩
  rw [show (!decide (V.int (xs.length:Int)=V.int (m:Int)))=false by rw [xl];simp]
  refine qi ?_
  refine ⟨_,rfl,a,rfl,⟨xs,SqT.of ha⟩,?_⟩
  refine rE (xs:=xs) (fun i σ H'=>∃ b:Option V,σ = [some (.int (m:Int)),some (.int (n:Int)),some (.ref a),b]∧az H H') ⟨none,rfl,az.refl _⟩ (fun i σ H' _ ⟨_,_,q⟩=>SqT.of (q _ _ ha)) ?_ ?_
  ·rintro i y σ H1 hy ⟨b,rfl,s1⟩
   obtain ⟨r,hr1,b1,rfl,hb1⟩:=lk.at_ i y hy
   have hb:=s1 _ _ hb1
   have pn:=Tt.row r (zO hr1)
   have rl:=pn.len
   refine ⟨_,rfl,_,_,_,_,rfl,.tup hb,ow,_,rfl,nkT (qi ?_)⟩
   refine ⟨_,rfl,b1,rfl,⟨_,SqT.of hb⟩,?_⟩
   refine dP (xs:=iv r) (own:=["_law_one"]) (cap:=[]) (fun j ys σ H'=>∃ v:Option V,σ = [v]∧ys=[]∧H'=H1) ⟨none,rfl,rfl,rfl⟩ (fun j ys σ H' hi ⟨_,_,e,_⟩=>by rw [e];exact AG _) (by rw [aA];omega) (fun j ys σ H' ⟨_,_,_,e⟩=>by rw [e];exact SqT.of hb) ?_ ?_
   ·rintro j ys σ H2 z N hz ⟨v,rfl,rfl,rfl⟩ hN
    unfold iv at hz
    rw [zH] at hz
    obtain ⟨q,_,rfl⟩:=Option.map_eq_some_iff.mp hz
    refine ⟨_,rfl,_,_,_,_,rfl,.int _,qA,_,rfl,?_⟩
    refine nkT (sX ⟨_,rfl,_,_,_,_,rfl,.int _,qB,_,rfl,?_⟩)
    exact oA (hN _ _ _ ⟨_,rfl,rfl,rfl⟩)
   ·rintro ys σ H2 l ⟨v,rfl,rfl,rfl⟩ hl
    have s2:=az.new (o:=.lst []) hl
    have f2:(upd H2 l (.lst [])) l=some (.lst []):=ae
    generalize upd H2 l (.lst [])=H3 at s2 f2 ⊢
    refine ⟨(du (n:=0) (by decide)),fun z hz=>?_⟩
    have s3:=s2.then (o:=.lst []) hz
    refine ⟨l,z,_,rfl,rfl,az.new hz _ _ f2,ae,_,rfl,?_⟩
    generalize upd H3 z (.lst [])=H4 at s3 ⊢
    refine dH rfl ?_
    have b4:=s3 _ _ hb
    have b5:=b4
    rw [nG] at b5
    refine ⟨_,rfl,b1,_,rfl,.inr (SqT.of b5),fun q ws hq pm up=>?_⟩
    have s5:az H4 (upd H4 q (.lst (ws.map V.int))):=az.new hq
    have f5:(upd H4 q (.lst (ws.map V.int))) q=some (.lst (ws.map V.int)):=ae
    generalize upd H4 q (.lst (ws.map V.int))=H5 at s5 f5 ⊢
    refine ⟨_,rfl,_,rfl,fun r2 hr2=>?_⟩
    refine ⟨r2,n,rfl,ae,by omega,fun l2 hl2=>?_⟩
    have er:((List.range n).map fun i:Nat=>V.int (i:Int))=(rng n).map V.int:=by unfold rng;rw [Ak];rfl
    rw [er]
    have s6:az H5 (upd (upd H5 r2 (.rng 0 (n:Int))) l2 (.lst ((rng n).map V.int))):=(az.new hr2).then hl2
    have f6:(upd (upd H5 r2 (.rng 0 (n:Int))) l2 (.lst ((rng n).map V.int))) l2=some (.lst ((rng n).map V.int)):=ae
    generalize upd (upd H5 r2 (.rng 0 (n:Int))) l2 (.lst ((rng n).map V.int))=H6 at s6 f6 ⊢
    have s7:=((s1.trans s3).trans s5).trans s6
    refine ⟨.list (dI ws),.list (dI (rng n)),.lst (s6 _ _ f5) (eP _),.lst f6 (eP _),eQ _,eQ _,?_,_,rfl,?_⟩
    ·show PyData.depthAll (dI ws)+1≤10
     rw [ji]
     decide
    rw [nQ,fy pm up]
    have hp:(r.map fun i:Nat=>(i:Int)).Perm (rng n):=by unfold rng;exact List.Perm.map _ pn
    exact dH (by rw [zx hp];rfl) ⟨_,rfl,s7⟩
  ·rintro σ H1 ⟨b,rfl,s1⟩
   exact k H1 s1
abbrev fc:Stmt:=top 65
theorem qD:aC ["_law_many","_law_word","_law_found"] ["_law_many","_law_word"] (af fc):=⟨rfl,rfl,rfl,by decide +kernel,rfl,by decide +kernel,by decide +kernel⟩
theorem tZ (D:Df K mg "_law_right" fc)(T:Bt K w mg aB)(F_lined:Fnc P w K mg base "lined" ["many","word"] 3 ju)(F_listab:Fnc P w K mg base "_law_is_table" ["_law_many","_law_seats","_law_thing"] 2 gr)(F_lled:Fnc P w K mg base "_law_led" ["_law_table","_law_seat","_law_word"] 1 q_)(F_lets:Fnc P w K mg base "lets_none" ["many","rings","word","thing"] 5 gq):Fnc P w K mg base "_law_right" ["_law_many","_law_word"] 6 eU:=by
 have sc:=qD
 refine D.ok sc (fun _ _ _ _ _ _ us hl=>by obtain ⟨_,_,rfl⟩:=tD hl;rfl) (fun vs H Q E h=>?_) (fun f cdv A outer s H vs Q E hr h=>?_)
 ·obtain ⟨m,v,rfl,_⟩:=h
  rfl
 ·obtain ⟨m,v,rfl,m1,m6,hin,rd,hne,hv,k⟩:=h
  have l16:=bj
  have lv:=ai v
  have vp:=List.length_pos_iff.mpr hne
  refine ⟨_,(@ah _ _ _ _ _ (@aF _ _ (2) _ _ _ _ sc.nd rfl (Or.inl rfl) (@aO _ _ _ _ _ _ _ _ _ _ _ F_lined hr (by decide) rfl (@aa _ _ _ _ _ (pv 0) (@aa _ _ _ _ _ (pv 1) ag (by rfl)) (by rfl)) (by decide) (by rfl) (by rfl)) (by rfl) (by first | exact .inl rfl | exact .inr rfl | assumption)) (@ah _ _ _ _ _ (@bA _ _ _ _ _ _ _ _ (@PW.pt _ _ _ (@gx _ _ _ _ _ _ _ (@bY _ _ _ _ (@bg _ _ _ (@aO _ _ _ _ _ _ _ _ _ _ _ F_listab hr (by decide) rfl (@aa _ _ _ _ _ (pv 0) (@aa _ _ _ _ _ (@aG _ _ _ _ _ _ _ _ bf (@aw _ _ _ _ _ _ _ _ _ bG (by rfl) T.len zW (@aa _ _ _ _ _ (pv 1) ag (by rfl)) (by decide) (by decide) (by rfl) (by rfl)) ak) (@aa _ _ _ _ _ (pv 2) ag (by rfl)) (by rfl)) (by rfl)) (by decide) (by rfl) (by rfl)) (fun _=>rfl))) (@dY _ _ _ _ (@aK _ _ _ _ _ _ _ _ cC (@aO _ _ _ _ _ _ _ _ _ _ _ F_lled hr (by decide) rfl (@aa _ _ _ _ _ (pv 2) (@aa _ _ _ _ _ ak (@aa _ _ _ _ _ (pv 1) ag (by rfl)) (by rfl)) (by rfl)) (by decide) (by rfl) (by rfl)) ak (aP _))))) (@aj _ _ _ (@aI _ _ _ _ cw)) aU) (@aj _ _ _ (@aI _ _ _ _ (@cY _ _ _ _ _ _ _ _ vo (@aO _ _ _ _ _ _ _ _ _ _ _ F_lets hr (by decide) rfl (@aa _ _ _ _ _ (pv 0) (@aa _ _ _ _ _ (@qM _ _ _ _ _ ag) (@aa _ _ _ _ _ (pv 1) (@aa _ _ _ _ _ (@qM _ _ _ _ _ (@aa _ _ _ _ _ aD (@aa _ _ _ _ _ (pv 2) (@aa _ _ _ _ _ ak ag (by rfl)) (by rfl)) (by rfl))) ag (by rfl)) (by rfl)) (by rfl)) (by rfl)) (by decide) (by rfl) (by rfl)) cw (aP _)))))),?_⟩
  refine ⟨_,rfl,_,rfl,m,v,rfl,m1,m6,hin,rd,hv,fun x t H1 tb Tt led s1=>?_⟩
  refine ⟨_,rfl,_,rfl,toS v,rfl,by omega,_,_,rfl,rfl,_,rfl,x,m,v.length+1,t,(by rw [lv];rfl),tb,Tt,m6,by omega,by omega,fun H2 s2=>⟨_,rfl,nkT (sX ?_)⟩⟩
  refine ⟨_,rfl,_,rfl,x,m,v.length+1,0,t,v,rfl,tb.same s2,Tt,m6,by omega,by omega,hin,by omega,fun H3 s3=>⟨rfl,_,rfl,?_⟩⟩
  rw [show decide (V.int ((ledN t 0 v:Nat):Int)=V.int 0)=false from zC fun e=>by have:=V.int.inj e;rw [led] at this;omega]
  refine qi ?_
  have s03:=(s1.trans s2).trans s3
  refine ⟨_,rfl,(du (n:=0) (by decide)),fun r hr=>?_⟩
  have s4:=az.new (o:=.tup []) hr
  have f4:(upd H3 r (.tup [])) r=some (.tup []):=ae
  generalize upd H3 r (.tup [])=H4 at s4 f4 ⊢
  refine ⟨_,rfl,_,rfl,(du (n:=3) (by decide)),fun a ha=>?_⟩
  have s5:=s4.then (o:=.tup [V.str (Str.ofString "seats"),x,V.int 0]) ha
  have s6:=s2.trans (s3.trans s5)
  refine ⟨r,a,x,m,v.length+1,0,t,v,rfl,ae,az.new ha _ _ f4,tb.same s6,Tt,m1,m6,by omega,by omega,hin,by omega,by rw [led];omega,fun H6 s7=>?_⟩
  exact ⟨true,true,rfl,rfl,k H6 ((s1.trans s6).trans s7)⟩
end
inductive oy (K:PySem.W.Frag)(vs:List V)(H:Hp)(Q:VK)(u3_:XK):Prop
 | mk:∀ (a:Addr) (ns:List Int),(vs=[.ref a])→(SqL K H a (ns.map V.int))→(ns.length≤63)→(∀ H',Q (.bl true) H')→oy K vs H Q u3_
section
variable {P:Program} {w:World} {K:PySem.W.Frag} {mg:Str→Option Value} {base:Heap} {aB:Addr}
abbrev iK:Stmt:=top 66
theorem v8:aC ["_law_script","_law_feed_here","_law_k","_law_many","_law_word"] ["_law_script"] (af iK):=⟨rfl,rfl,rfl,by decide +kernel,rfl,by decide +kernel,by decide +kernel⟩
theorem fe:∀ {w:List L},(∀ i a b,w[i]? = some a→w[i+1]? = some b→b≠inv a)→Wd.Rd w
 | [],_=>An
 | [x],_=>An
 | x::y::r,h=>⟨h 0 x y rfl rfl,fe fun i a b ha hb=>h (i+1) a b (by simpa using ha) (by simpa using hb)⟩
theorem t_:∀ {w:List L} (n:Nat),Wd.Rd w→Wd.Rd (w.drop n):=fun {w} n h=>fe fun i a b ha hb=>by
 rw [Ae] at ha hb
 exact su h (n+i) a b ha hb
theorem v9 {t u:TS}{D:gv}{σ:L2.St}{H:Hp}(R:L2.St→Hp→Prop)(h1:∀ D':gv,(∀ σ2 H2,R σ2 H2→D'.nx σ2 H2)→t D' σ H)(h2:∀ σ2 H2,R σ2 H2→u D σ2 H2):xQ t u D σ H:=h1 _ h2
theorem xO {q:Int}(h0:0≤q)(h1:q < 12):∃ x:L,x.val=q.toNat∧atI ("abcdefABCDEF":Str).cps.toList q=some (cp x):=by
 have hk:q.toNat < 12:=by omega
 have e:("abcdefABCDEF":Str)=toS [0,1,2,3,4,5,6,7,8,9,10,11]:=by decide +kernel
 rw [e]
 have d:∀ j:Fin 12,∃ x:L,x.val=j.val∧([0,1,2,3,4,5,6,7,8,9,10,11]:List L)[j.val]? = some x:=by decide
 obtain ⟨x,hx1,hx⟩:=d ⟨q.toNat,hk⟩
 exact ⟨x,hx1,dj (k:=q.toNat) (by omega) hx⟩
def iL:List L:=(List.replicate 50 ([0,1]:List L)).flatten++(List.replicate 50 ([0,7]:List L)).flatten
theorem qE:Txt.mul (Str.ofString "ab") 50++Txt.mul (Str.ofString "aB") 50=toS iL:=by decide +kernel
theorem ua:Wd.Rd iL:=by
 refine fe fun i=>?_
 have d:∀ j:Fin 200,(match iL[j.val]?,iL[j.val+1]? with | some a,some b=>decide (b≠inv a) | _,_=>true)=true:=by decide +kernel
 by_cases hi:i < 200
 ·have:=d ⟨i,hi⟩
  intro a b ha hb
  simp only [ha,hb] at this
  exact of_decide_eq_true this
 ·intro a b ha hb
  have:=(zf.mp ha).1
  have l:iL.length=200:=by decide +kernel
  omega
theorem ub:∀ y∈iL,y.val % 6 < 2:=by decide +kernel
theorem v_ {nx:L2.St→Hp→Prop}{rt:VK}{bk ct:L2.St→Hp→Prop}{i:Nat}{σ:L2.St}{x:V}{H:Hp}(h:nx (σ.set i (some x)) H):iV (oR i) ⟨nx,rt,bk,ct⟩ σ x H:=h
theorem xP {f:Addr}{fd:FuncData}(D:Fun K "law" "law" iK f fd)(T:Bt K w mg aB)(F_feed:Fnc P w K mg base "_law_feed" ["_law_script"] 1 (mL K))(F_draw:Fnc P w K mg base "_law_draw" ["_law_feed_here","_law_many"] 1 g_)(F_drawn:Fnc P w K mg base "_law_drawn" ["_law_feed_here","_law_many","_law_most"] 3 gf)(F_lred:Fnc P w K mg base "_law_reduced" ["_law_word"] 2 sq)(F_right:Fnc P w K mg base "_law_right" ["_law_many","_law_word"] 6 eU):fj P w K mg base CX0 10 f fd ["_law_script"] (oy K):=by
 have sc:=v8
 refine D.ok sc (fun vs H Q E h=>?_) (fun cdv A outer s H vs Q E hr h=>?_)
 ·obtain ⟨a,ns,rfl,_⟩:=h
  rfl
 ·obtain ⟨a,ns,rfl,hS,hlen,k⟩:=h
  have l16:=bj
  refine ⟨_,(@ah _ _ _ _ _ (@aF _ _ (1) _ _ _ _ sc.nd rfl (Or.inl rfl) (@aO _ _ _ _ _ _ _ _ _ _ _ F_feed hr (by decide) rfl (@aa _ _ _ _ _ (pv 0) ag (by rfl)) (by decide) (by rfl) (by rfl)) (by rfl) (by first | exact .inl rfl | exact .inr rfl | assumption)) (@ah _ _ _ _ _ (@bZ _ _ _ _ _ _ _ _ Ag rfl (@dZ _ _ _ _ _ _ rfl T.range (@aa _ _ _ _ _ ak ag (by rfl)) (by rfl)) (@aH _ _ (2) _ sc.nd rfl (Or.inl rfl) (by first | exact .inl rfl | exact .inr rfl | assumption)) (@ah _ _ _ _ _ (@aF _ _ (3) _ _ _ _ sc.nd rfl (Or.inl rfl) (@aG _ _ _ _ _ _ _ _ bf ak (@aO _ _ _ _ _ _ _ _ _ _ _ F_draw hr (by decide) rfl (@aa _ _ _ _ _ (pv 1) (@aa _ _ _ _ _ ak ag (by rfl)) (by rfl)) (by decide) (by rfl) (by rfl))) (by rfl) (by first | exact .inl rfl | exact .inr rfl | assumption)) (@ah _ _ _ _ _ (@aF _ _ (4) _ _ _ _ sc.nd rfl (Or.inl rfl) (@aO _ _ _ _ _ _ _ _ _ _ _ F_lred hr (by decide) rfl (@aa _ _ _ _ _ (@aO _ _ _ _ _ _ _ _ _ _ _ F_drawn hr (by decide) rfl (@aa _ _ _ _ _ (pv 1) (@aa _ _ _ _ _ (pv 3) (@aa _ _ _ _ _ ak ag (by rfl)) (by rfl)) (by rfl)) (by decide) (by rfl) (by rfl)) ag (by rfl)) (by decide) (by rfl) (by rfl)) (by rfl) (by first | exact .inl rfl | exact .inr rfl | assumption)) (@ah _ _ _ _ _ (@bA _ _ _ _ _ _ _ _ (@aK _ _ _ _ _ _ _ _ cC (pv 4) aD (aP _)) (@aj _ _ _ (@aF _ _ (4) _ _ _ _ sc.nd rfl (Or.inl rfl) (@bB _ _ _ _ _ _ _ gJ aD (@aG _ _ _ _ _ _ _ _ bf (@aG _ _ _ _ _ _ _ _ d3 (@aO _ _ _ _ _ _ _ _ _ _ _ F_draw hr (by decide) rfl (@aa _ _ _ _ _ (pv 1) (@aa _ _ _ _ _ ak ag (by rfl)) (by rfl)) (by decide) (by rfl) (by rfl)) (pv 3)) (@aG _ _ _ _ _ _ _ _ fh ak (@aO _ _ _ _ _ _ _ _ _ _ _ F_draw hr (by decide) rfl (@aa _ _ _ _ _ (pv 1) (@aa _ _ _ _ _ ak ag (by rfl)) (by rfl)) (by decide) (by rfl) (by rfl)))) (fun _ _=>rfl)) (by rfl) (by first | exact .inl rfl | exact .inr rfl | assumption))) aU) (@aj _ _ _ (@bA _ _ _ _ _ _ _ _ (@PW.pt _ _ _ (@gx _ _ _ _ _ _ _ (@bY _ _ _ _ (@bg _ _ _ (@aO _ _ _ _ _ _ _ _ _ _ _ F_right hr (by decide) rfl (@aa _ _ _ _ _ (pv 3) (@aa _ _ _ _ _ (pv 4) ag (by rfl)) (by rfl)) (by decide) (by rfl) (by rfl)) (fun _=>rfl))) (@dY _ _ _ _ (@bY _ _ _ _ (@bg _ _ _ (@aO _ _ _ _ _ _ _ _ _ _ _ F_right hr (by decide) rfl (@aa _ _ _ _ _ (pv 3) (@aa _ _ _ _ _ (pv 4) ag (by rfl)) (by rfl)) (by decide) (by rfl) (by rfl)) (fun _=>rfl)))))) (@aj _ _ _ (@aI _ _ _ _ cw)) aU))))) (by intro _ ;rfl)) (@ah _ _ _ _ _ (@bA _ _ _ _ _ _ _ _ (@PW.pt _ _ _ (@uy _ _ _ _ _ _ _ (@aK _ _ _ _ _ _ _ _ cC (@aO _ _ _ _ _ _ _ _ _ _ _ F_draw hr (by decide) rfl (@aa _ _ _ _ _ (pv 1) (@aa _ _ _ _ _ ak ag (by rfl)) (by rfl)) (by decide) (by rfl) (by rfl)) ak (aP _)) (@rD _ _ _ _ (@bY _ _ _ _ (@bg _ _ _ (@aO _ _ _ _ _ _ _ _ _ _ _ F_right hr (by decide) rfl (@aa _ _ _ _ _ ak (@aa _ _ _ _ _ (@bw _ _ _ _ _ _ _ _ _ _ dC (@aG _ _ _ _ _ _ _ _ aW (@aG _ _ _ _ _ _ _ _ de aD ak) (@aG _ _ _ _ _ _ _ _ de aD ak)) (@bR _ _ _ (@aO _ _ _ _ _ _ _ _ _ _ _ F_draw hr (by decide) rfl (@aa _ _ _ _ _ (pv 1) (@aa _ _ _ _ _ ak ag (by rfl)) (by rfl)) (by decide) (by rfl) (by rfl))) bQ) ag (by rfl)) (by rfl)) (by decide) (by rfl) (by rfl)) (fun _=>rfl)))))) (@aj _ _ _ (@aI _ _ _ _ cw)) aU) (@aj _ _ _ (@aI _ _ _ _ cw))))),?_⟩
  refine ⟨_,rfl,a,ns,rfl,hS,hlen,fun d G0 _ F0 _=>?_⟩
  refine ⟨_,rfl,by decide,by decide,gC (lo:=0) (n:=5) (fun i σ H'=>∃ (b2 b3 b4:Option V),σ = [some (.ref a),some (.ref d),b2,b3,b4]∧Fd H' d) ⟨none,none,none,rfl,F0⟩ ?_ ?_⟩
  ·rintro i σ H1 hi ⟨b2,b3,b4,rfl,F1⟩
   refine ⟨_,rfl,d,_,rfl,F1,by decide,by decide,fun r H2 r0 r1 F2 sb2=>⟨_,_,rfl,rfl,?_⟩⟩
   obtain ⟨m0,rfl⟩:=Int.eq_ofNat_of_zero_le r0
   refine ⟨_,rfl,_,rfl,d,1+(m0:Int),40,rfl,F2,by omega,by omega,by decide,by decide,fun u H3 hu inu F3 sb3=>?_⟩
   refine ⟨u,rfl,by omega,fun H4 s4=>?_⟩
   have F4:=F3.same s4
   have rl:=kF u
   have rin:InM (1+m0) (red u):=fun y hy=>by have:=inu y (sJ hy);rw [show (1+(m0:Int)).toNat=1+m0 by omega] at this;exact this
   refine v_ ?_
   refine v9 (fun σ2 H2=>∃ v:List L,σ2=[some (.ref a),some (.ref d),some (.int (0+(i:Int))),some (.int (((1+m0:Nat)):Int)),some (tx v)]∧InM (1+m0) v∧Wd.Rd v∧v≠[]∧v.length≤60∧Fd H2 d) (fun D' nx=>?_) ?_
   ·refine ⟨_,rfl,rfl,_,rfl,?_⟩
    by_cases hz:red u=[]
    ·rw [show decide (tx (red u)=V.str (Str.ofString ""))=true from zx (by rw [hz];exact mD)]
     refine wo ⟨_,rfl,d,_,rfl,F4,by decide,by decide,fun q H5 q0 q1 F5 sb5=>?_⟩
     refine ⟨_,rfl,_,_,rfl,rfl,by omega,_,rfl,d,_,rfl,F5,by decide,by decide,fun q2 H6 q20 q21 F6 sb6=>?_⟩
     have hm0:0≤q % (1+(m0:Int)):=B8 _ (by omega)
     have hm1:q % (1+(m0:Int)) < 1+(m0:Int):=BE _ (by omega)
     obtain ⟨y,hy,ey⟩:=xO (q:=q % (1+(m0:Int))+6*q2) (by omega) (by omega)
     refine ⟨_,_,rfl,rfl,.inl ⟨by decide,by decide⟩,_,_,rfl,rfl,_,_,_,rfl,rfl,(du (n:=12) (by decide)),ey,?_⟩
     refine nx _ _ ⟨[y],rfl,fun z hz=>?_,An,by simp,(by show 1≤60;decide),F6⟩
     rw [zc.mp hz]
     omega
    ·rw [show decide (tx (red u)=V.str (Str.ofString ""))=false from zC fun e=>hz (qT (e.trans mD.symm))]
     refine qi (nx _ _ ⟨red u,rfl,rin,va u,hz,by omega,F4⟩)
   rintro σ H5 ⟨v,rfl,iv5,rd,vne,vl,F5⟩
   refine ⟨_,rfl,_,rfl,1+m0,v,rfl,by omega,by omega,iv5,rd,vne,by omega,fun H6 s6=>⟨_,rfl,nkT (sX ?_)⟩⟩
   refine ⟨_,rfl,_,rfl,1+m0,v,rfl,by omega,by omega,iv5,rd,vne,by omega,fun H7 s7=>⟨_,rfl,nkT (qi ?_)⟩⟩
   exact ⟨_,_,_,rfl,F5.same (s6.trans s7)⟩
  ·rintro σ H1 ⟨b2,b3,b4,rfl,F1⟩
   refine ⟨_,rfl,d,_,rfl,F1,by decide,by decide,fun r H2 r0 r1 F2 sb2=>⟨rfl,_,rfl,?_⟩⟩
   by_cases h0:r=0
   ·rw [zx (Cn V.int h0)]
    refine xF ?_
    refine ⟨_,_,rfl,rfl,?_,_,_,rfl,rfl,?_,_,_,rfl,rfl,?_,_,rfl,d,_,rfl,F2,by decide,by decide,fun q H3 q0 q1 F3 sb3=>⟨_,rfl,_,rfl,?_,?_⟩⟩
    ·have e:Str.ofString "ab" = toS [0,1]:=by decide +kernel
     rw [e]
     exact eC _ (by decide) (by decide) (by decide)
    ·have e:Str.ofString "aB" = toS [0,7]:=by decide +kernel
     rw [e]
     exact eC _ (by decide) (by decide) (by decide)
    ·have:(Txt.mul (Str.ofString "ab") 50).length+(Txt.mul (Str.ofString "aB") 50).length=200:=by decide +kernel
     omega
    ·have:(Txt.mul (Str.ofString "ab") 50++Txt.mul (Str.ofString "aB") 50).length=200:=by decide +kernel
     omega
    have wl:iL.length=200:=by decide +kernel
    rw [qE,aV,fR _ q0]
    refine ⟨2,iL.drop q.toNat,rfl,by decide,by decide,fun y hy=>ub y (AK hy),t_ _ ua,?_,by rw [BU];omega,fun H4 s4=>⟨_,rfl,nkT (qi (k H4))⟩⟩
    intro e
    have:=Cn List.length e
    rw [BU,wl,B0] at this
    omega
   ·rw [zC fun e=>h0 (V.int.inj e)]
    exact xG (qi (k H2))
end
theorem bu {K:PySem.W.Frag}{h:Heap}{mg:Str→Option Value}{x:Str}{st:Stmt}{f:Addr}{oc:Value}{od an:Option Addr}{osl:Array (Option Value)}{kV doc pm cdv ct:Value}(X:K.In h)(G:h.Ns mainGlobals mg)(a:PySem.W.nsIn K mainGlobals x=some (some (.ref f)))
  (l:K.lookup f=some ⟨oc,od,.func (PySem.W.fnOf x x (ay st) (ax st) (af st) .none kV doc pm an cdv ct),osl⟩) (c:PySem.W.codeIn K cdv x=true) (k:PySem.W.keepIn K (.ref f)=true):Df K mg x st:=⟨f,_,Bl X G a,mf l c k⟩
theorem wa {l:PySem.W.OpenLaw}{w:World}{K:PySem.W.Frag}{h:Heap}{mg:Str→Option Value}{fa:Addr}(X:K.In h)(G:h.Ns mainGlobals mg)(hfa:mg "law" = some (.ref fa))
  {f0:Addr} {od0 an0:Option Addr} {sl0:Array (Option Value)} {oc0 kV0 dc0 pm0 cd0 ct0:Value} {f1:Addr} {od1 an1:Option Addr} {sl1:Array (Option Value)} {oc1 kV1 dc1 pm1 cd1 ct1:Value} {f2:Addr} {od2 an2:Option Addr} {sl2:Array (Option Value)} {oc2 kV2 dc2 pm2 cd2 ct2:Value} {f3:Addr} {od3 an3:Option Addr} {sl3:Array (Option Value)} {oc3 kV3 dc3 pm3 cd3 ct3:Value} {f4:Addr} {od4 an4:Option Addr} {sl4:Array (Option Value)} {oc4 kV4 dc4 pm4 cd4 ct4:Value} {f5:Addr} {od5 an5:Option Addr} {sl5:Array (Option Value)} {oc5 kV5 dc5 pm5 cd5 ct5:Value} {f6:Addr} {od6 an6:Option Addr} {sl6:Array (Option Value)} {oc6 kV6 dc6 pm6 cd6 ct6:Value} {f7:Addr} {od7 an7:Option Addr} {sl7:Array (Option Value)} {oc7 kV7 dc7 pm7 cd7 ct7:Value} {f8:Addr} {od8 an8:Option Addr} {sl8:Array (Option Value)} {oc8 kV8 dc8 pm8 cd8 ct8:Value} {f9:Addr} {od9 an9:Option Addr} {sl9:Array (Option Value)} {oc9 kV9 dc9 pm9 cd9 ct9:Value} {f10:Addr} {od10 an10:Option Addr} {sl10:Array (Option Value)} {oc10 kV10 dc10 pm10 cd10 ct10:Value} {f11:Addr} {od11 an11:Option Addr} {sl11:Array (Option Value)} {oc11 kV11 dc11 pm11 cd11 ct11:Value} {f12:Addr} {od12 an12:Option Addr} {sl12:Array (Option Value)} {oc12 kV12 dc12 pm12 cd12 ct12:Value} {f13:Addr} {od13 an13:Option Addr} {sl13:Array (Option Value)} {oc13 kV13 dc13 pm13 cd13 ct13:Value} {f14:Addr} {od14 an14:Option Addr} {sl14:Array (Option Value)} {oc14 kV14 dc14 pm14 cd14 ct14:Value} {f15:Addr} {od15 an15:Option Addr} {sl15:Array (Option Value)} {oc15 kV15 dc15 pm15 cd15 ct15:Value} {f16:Addr} {od16 an16:Option Addr} {sl16:Array (Option Value)} {oc16 kV16 dc16 pm16 cd16 ct16:Value} {f17:Addr} {od17 an17:Option Addr} {sl17:Array (Option Value)} {oc17 kV17 dc17 pm17 cd17 ct17:Value} {f18:Addr} {od18 an18:Option Addr} {sl18:Array (Option Value)} {oc18 kV18 dc18 pm18 cd18 ct18:Value} {f19:Addr} {od19 an19:Option Addr} {sl19:Array (Option Value)} {oc19 kV19 dc19 pm19 cd19 ct19:Value} {f20:Addr} {od20 an20:Option Addr} {sl20:Array (Option Value)} {oc20 kV20 dc20 pm20 cd20 ct20:Value} {f21:Addr} {od21 an21:Option Addr} {sl21:Array (Option Value)} {oc21 kV21 dc21 pm21 cd21 ct21:Value} {f22:Addr} {od22 an22:Option Addr} {sl22:Array (Option Value)} {oc22 kV22 dc22 pm22 cd22 ct22:Value} {f23:Addr} {od23 an23:Option Addr} {sl23:Array (Option Value)} {oc23 kV23 dc23 pm23 cd23 ct23:Value} {f24:Addr} {od24 an24:Option Addr} {sl24:Array (Option Value)} {oc24 kV24 dc24 pm24 cd24 ct24:Value} {f25:Addr} {od25 an25:Option Addr} {sl25:Array (Option Value)} {oc25 kV25 dc25 pm25 cd25 ct25:Value} {aB:Addr} {es:Array DictEntry} {en:Nat} {tS tT:Tok}      {CR:Addr} {ddCR:Option Addr} {cdCR:ClassData} {sCR0 sCR1 sCR2 sCR3 sCR5:Option Value}         {nsCR:Addr} {onCR:Value} {dnCR:Option Addr} {esCR:Array DictEntry} {nnCR:Nat} {snCR:Array (Option Value)}         {CT:Addr} {ddCT:Option Addr} {cdCT:ClassData} {sCT0 sCT1 sCT2 sCT3 sCT5:Option Value}           {fCT:Addr} {ocCT kVCT dcCT pmCT cvCT ctCT:Value} {odCT anCT:Option Addr} {slCT:Array (Option Value)}     {t0 t1 t2 t3 t4 t5 t6 t7 t8 t9 t10 t11:Tok}
  (a0:PySem.W.nsIn K mainGlobals "back" = some (some (.ref f0)))
  (l0:K.lookup f0=some ⟨oc0,od0,.func (PySem.W.fnOf "back" "back" (ay iC) (ax iC) (af iC) .none kV0 dc0 pm0 an0 cd0 ct0),sl0⟩)
  (c0:PySem.W.codeIn K cd0 "back" = true)
  (k0:PySem.W.keepIn K (.ref f0)=true)
  (a1:PySem.W.nsIn K mainGlobals "is_whole" = some (some (.ref f1)))
  (l1:K.lookup f1=some ⟨oc1,od1,.func (PySem.W.fnOf "is_whole" "is_whole" (ay eV) (ax eV) (af eV) .none kV1 dc1 pm1 an1 cd1 ct1),sl1⟩)
  (c1:PySem.W.codeIn K cd1 "is_whole" = true)
  (k1:PySem.W.keepIn K (.ref f1)=true)
  (a2:PySem.W.nsIn K mainGlobals "is_table" = some (some (.ref f2)))
  (l2:K.lookup f2=some ⟨oc2,od2,.func (PySem.W.fnOf "is_table" "is_table" (ay cE) (ax cE) (af cE) .none kV2 dc2 pm2 an2 cd2 ct2),sl2⟩)
  (c2:PySem.W.codeIn K cd2 "is_table" = true)
  (k2:PySem.W.keepIn K (.ref f2)=true)
  (a3:PySem.W.nsIn K mainGlobals "is_row" = some (some (.ref f3)))
  (l3:K.lookup f3=some ⟨oc3,od3,.func (PySem.W.fnOf "is_row" "is_row" (ay eW) (ax eW) (af eW) .none kV3 dc3 pm3 an3 cd3 ct3),sl3⟩)
  (c3:PySem.W.codeIn K cd3 "is_row" = true)
  (k3:PySem.W.keepIn K (.ref f3)=true)
  (a4:PySem.W.nsIn K mainGlobals "led" = some (some (.ref f4)))
  (l4:K.lookup f4=some ⟨oc4,od4,.func (PySem.W.fnOf "led" "led" (ay oh) (ax oh) (af oh) .none kV4 dc4 pm4 an4 cd4 ct4),sl4⟩)
  (c4:PySem.W.codeIn K cd4 "led" = true)
  (k4:PySem.W.keepIn K (.ref f4)=true)
  (a5:PySem.W.nsIn K mainGlobals "rows_of" = some (some (.ref f5)))
  (l5:K.lookup f5=some ⟨oc5,od5,.func (PySem.W.fnOf "rows_of" "rows_of" (ay iE) (ax iE) (af iE) .none kV5 dc5 pm5 an5 cd5 ct5),sl5⟩)
  (c5:PySem.W.codeIn K cd5 "rows_of" = true)
  (k5:PySem.W.keepIn K (.ref f5)=true)
  (a6:PySem.W.nsIn K mainGlobals "turned_row" = some (some (.ref f6)))
  (l6:K.lookup f6=some ⟨oc6,od6,.func (PySem.W.fnOf "turned_row" "turned_row" (ay iD) (ax iD) (af iD) .none kV6 dc6 pm6 an6 cd6 ct6),sl6⟩)
  (c6:PySem.W.codeIn K cd6 "turned_row" = true)
  (k6:PySem.W.keepIn K (.ref f6)=true)
  (a7:PySem.W.nsIn K mainGlobals "unkept" = some (some (.ref f7)))
  (l7:K.lookup f7=some ⟨oc7,od7,.func (PySem.W.fnOf "unkept" "unkept" (ay oj) (ax oj) (af oj) .none kV7 dc7 pm7 an7 cd7 ct7),sl7⟩)
  (c7:PySem.W.codeIn K cd7 "unkept" = true)
  (k7:PySem.W.keepIn K (.ref f7)=true)
  (a8:PySem.W.nsIn K mainGlobals "lined" = some (some (.ref f8)))
  (l8:K.lookup f8=some ⟨oc8,od8,.func (PySem.W.fnOf "lined" "lined" (ay e_) (ax e_) (af e_) .none kV8 dc8 pm8 an8 cd8 ct8),sl8⟩)
  (c8:PySem.W.codeIn K cd8 "lined" = true)
  (k8:PySem.W.keepIn K (.ref f8)=true)
  (a9:PySem.W.nsIn K mainGlobals "lined_row" = some (some (.ref f9)))
  (l9:K.lookup f9=some ⟨oc9,od9,.func (PySem.W.fnOf "lined_row" "lined_row" (ay iJ) (ax iJ) (af iJ) .none kV9 dc9 pm9 an9 cd9 ct9),sl9⟩)
  (c9:PySem.W.codeIn K cd9 "lined_row" = true)
  (k9:PySem.W.keepIn K (.ref f9)=true)
  (a10:PySem.W.nsIn K mainGlobals "are_steps" = some (some (.ref f10)))
  (l10:K.lookup f10=some ⟨oc10,od10,.func (PySem.W.fnOf "are_steps" "are_steps" (ay gs) (ax gs) (af gs) .none kV10 dc10 pm10 an10 cd10 ct10),sl10⟩)
  (c10:PySem.W.codeIn K cd10 "are_steps" = true)
  (k10:PySem.W.keepIn K (.ref f10)=true)
  (a11:PySem.W.nsIn K mainGlobals "lets_none" = some (some (.ref f11)))
  (l11:K.lookup f11=some ⟨oc11,od11,.func (PySem.W.fnOf "lets_none" "lets_none" (ay iF) (ax iF) (af iF) .none kV11 dc11 pm11 an11 cd11 ct11),sl11⟩)
  (c11:PySem.W.codeIn K cd11 "lets_none" = true)
  (k11:PySem.W.keepIn K (.ref f11)=true)
  (a12:PySem.W.nsIn K mainGlobals "is_short_paper" = some (some (.ref f12)))
  (l12:K.lookup f12=some ⟨oc12,od12,.func (PySem.W.fnOf "is_short_paper" "is_short_paper" (ay cS) (ax cS) (af cS) .none kV12 dc12 pm12 an12 cd12 ct12),sl12⟩)
  (c12:PySem.W.codeIn K cd12 "is_short_paper" = true)
  (k12:PySem.W.keepIn K (.ref f12)=true)
  (a13:PySem.W.nsIn K mainGlobals "is_seats_paper" = some (some (.ref f13)))
  (l13:K.lookup f13=some ⟨oc13,od13,.func (PySem.W.fnOf "is_seats_paper" "is_seats_paper" (ay cT) (ax cT) (af cT) .none kV13 dc13 pm13 an13 cd13 ct13),sl13⟩)
  (c13:PySem.W.codeIn K cd13 "is_seats_paper" = true)
  (k13:PySem.W.keepIn K (.ref f13)=true)
  (a14:PySem.W.nsIn K mainGlobals "look_at_short" = some (some (.ref f14)))
  (l14:K.lookup f14=some ⟨oc14,od14,.func (PySem.W.fnOf "look_at_short" "look_at_short" (ay gu) (ax gu) (af gu) .none kV14 dc14 pm14 an14 cd14 ct14),sl14⟩)
  (c14:PySem.W.codeIn K cd14 "look_at_short" = true)
  (k14:PySem.W.keepIn K (.ref f14)=true)
  (a15:PySem.W.nsIn K mainGlobals "look_at_seats" = some (some (.ref f15)))
  (l15:K.lookup f15=some ⟨oc15,od15,.func (PySem.W.fnOf "look_at_seats" "look_at_seats" (ay cU) (ax cU) (af cU) .none kV15 dc15 pm15 an15 cd15 ct15),sl15⟩)
  (c15:PySem.W.codeIn K cd15 "look_at_seats" = true)
  (k15:PySem.W.keepIn K (.ref f15)=true)
  (a16:PySem.W.nsIn K mainGlobals "_law_feed" = some (some (.ref f16)))
  (l16:K.lookup f16=some ⟨oc16,od16,.func (PySem.W.fnOf "_law_feed" "_law_feed" (ay iB) (ax iB) (af iB) .none kV16 dc16 pm16 an16 cd16 ct16),sl16⟩)
  (c16:PySem.W.codeIn K cd16 "_law_feed" = true)
  (k16:PySem.W.keepIn K (.ref f16)=true)
  (a17:PySem.W.nsIn K mainGlobals "_law_draw" = some (some (.ref f17)))
  (l17:K.lookup f17=some ⟨oc17,od17,.func (PySem.W.fnOf "_law_draw" "_law_draw" (ay iA) (ax iA) (af iA) .none kV17 dc17 pm17 an17 cd17 ct17),sl17⟩)
  (c17:PySem.W.codeIn K cd17 "_law_draw" = true)
  (k17:PySem.W.keepIn K (.ref f17)=true)
  (a18:PySem.W.nsIn K mainGlobals "_law_back" = some (some (.ref f18)))
  (l18:K.lookup f18=some ⟨oc18,od18,.func (PySem.W.fnOf "_law_back" "_law_back" (ay e6) (ax e6) (af e6) .none kV18 dc18 pm18 an18 cd18 ct18),sl18⟩)
  (c18:PySem.W.codeIn K cd18 "_law_back" = true)
  (k18:PySem.W.keepIn K (.ref f18)=true)
  (a19:PySem.W.nsIn K mainGlobals "_law_reduced" = some (some (.ref f19)))
  (l19:K.lookup f19=some ⟨oc19,od19,.func (PySem.W.fnOf "_law_reduced" "_law_reduced" (ay iG) (ax iG) (af iG) .none kV19 dc19 pm19 an19 cd19 ct19),sl19⟩)
  (c19:PySem.W.codeIn K cd19 "_law_reduced" = true)
  (k19:PySem.W.keepIn K (.ref f19)=true)
  (a20:PySem.W.nsIn K mainGlobals "_law_some" = some (some (.ref f20)))
  (l20:K.lookup f20=some ⟨oc20,od20,.func (PySem.W.fnOf "_law_some" "_law_some" (ay iH) (ax iH) (af iH) .none kV20 dc20 pm20 an20 cd20 ct20),sl20⟩)
  (c20:PySem.W.codeIn K cd20 "_law_some" = true)
  (k20:PySem.W.keepIn K (.ref f20)=true)
  (a21:PySem.W.nsIn K mainGlobals "_law_drawn" = some (some (.ref f21)))
  (l21:K.lookup f21=some ⟨oc21,od21,.func (PySem.W.fnOf "_law_drawn" "_law_drawn" (ay e9) (ax e9) (af e9) .none kV21 dc21 pm21 an21 cd21 ct21),sl21⟩)
  (c21:PySem.W.codeIn K cd21 "_law_drawn" = true)
  (k21:PySem.W.keepIn K (.ref f21)=true)
  (a22:PySem.W.nsIn K mainGlobals "_law_is_table" = some (some (.ref f22)))
  (l22:K.lookup f22=some ⟨oc22,od22,.func (PySem.W.fnOf "_law_is_table" "_law_is_table" (ay cV) (ax cV) (af cV) .none kV22 dc22 pm22 an22 cd22 ct22),sl22⟩)
  (c22:PySem.W.codeIn K cd22 "_law_is_table" = true)
  (k22:PySem.W.keepIn K (.ref f22)=true)
  (a23:PySem.W.nsIn K mainGlobals "_law_led" = some (some (.ref f23)))
  (l23:K.lookup f23=some ⟨oc23,od23,.func (PySem.W.fnOf "_law_led" "_law_led" (ay iI) (ax iI) (af iI) .none kV23 dc23 pm23 an23 cd23 ct23),sl23⟩)
  (c23:PySem.W.codeIn K cd23 "_law_led" = true)
  (k23:PySem.W.keepIn K (.ref f23)=true)
  (a24:PySem.W.nsIn K mainGlobals "_law_right" = some (some (.ref f24)))
  (l24:K.lookup f24=some ⟨oc24,od24,.func (PySem.W.fnOf "_law_right" "_law_right" (ay fc) (ax fc) (af fc) .none kV24 dc24 pm24 an24 cd24 ct24),sl24⟩)
  (c24:PySem.W.codeIn K cd24 "_law_right" = true)
  (k24:PySem.W.keepIn K (.ref f24)=true)
  (a25:PySem.W.nsIn K mainGlobals "law" = some (some (.ref f25)))
  (l25:K.lookup f25=some ⟨oc25,od25,.func (PySem.W.fnOf "law" "law" (ay iK) (ax iK) (af iK) .none kV25 dc25 pm25 an25 cd25 ct25),sl25⟩)
  (c25:PySem.W.codeIn K cd25 "law" = true)
  (k25:PySem.W.keepIn K (.ref f25)=true)
  (z_len:PySem.W.nsIn K mainGlobals "len" = some none)
  (z_repr:PySem.W.nsIn K mainGlobals "repr" = some none)
  (z_abs:PySem.W.nsIn K mainGlobals "abs" = some none)
  (z_max:PySem.W.nsIn K mainGlobals "max" = some none)
  (z_int:PySem.W.nsIn K mainGlobals "int" = some none)
  (z_list:PySem.W.nsIn K mainGlobals "list" = some none)
  (z_range:PySem.W.nsIn K mainGlobals "range" = some none)
  (z_reversed:PySem.W.nsIn K mainGlobals "reversed" = some none)
  (z_min:PySem.W.nsIn K mainGlobals "min" = some none)
  (z_sorted:PySem.W.nsIn K mainGlobals "sorted" = some none)
  (z_tuple:PySem.W.nsIn K mainGlobals "tuple" = some none)
  (z_isinstance:PySem.W.nsIn K mainGlobals "isinstance" = some none)
  (z_all:PySem.W.nsIn K mainGlobals "all" = some none)
  (z_str:PySem.W.nsIn K mainGlobals "str" = some none)
  (z_zip:PySem.W.nsIn K mainGlobals "zip" = some none)
  (aBk:PySem.W.nsIn K mainGlobals "BACKS" = some (some (.ref aB)))
  (lB:K.lookup aB=some ⟨.type "dict",none,.dict es en,#[]⟩)
  (kB:PySem.W.KeysLit w.params es.toList)
  (aS:PySem.W.nsIn K mainGlobals "SMALL" = some (some (.str "abcdef" tS)))
  (aT:PySem.W.nsIn K mainGlobals "MOST_SEATS" = some (some (.int 1001 tT)))
  (zE:PySem.W.nsIn K mainGlobals "enumerate" = some none)
  (zS:PySem.W.nsIn K mainGlobals "set" = some none)
  (z_bool:PySem.W.nsIn K mainGlobals "bool" = some none)
  (zV:PySem.W.nsIn K mainGlobals "ValueError" = some none)
  (aCR:PySem.W.nsIn K mainGlobals "RingError" = some (some (.ref CR)))
  (lCR:K.lookup CR=some ⟨.type "type",ddCR,.cls cdCR,#[sCR0,sCR1,sCR2,sCR3,some (.builtin "ValueError.__new__"),sCR5]⟩)
  (mCR:cdCR.mro = .ref CR::bmV)
  (eCR:cdCR.hasDel=false)
  (dCR:cdCR.hasDict=true)
  (kCR:PySem.W.keepIn K (.ref CR)=true)
  (saCR:PySem.W.findIn K (.ref CR) "__setattr__" = some (some (.builtin "object.__setattr__")))
  (gaCR:PySem.W.findIn K (.ref CR) "__getattribute__" = some (some (.builtin "BaseException.__getattribute__")))
  (gnCR:PySem.W.findIn K (.ref CR) "__getattr__" = some (none))
  (caCR:PySem.W.findIn K (.ref CR) "__class__" = some (some (.builtin "object.__class__")))
  (nCR:cdCR.ns=nsCR)
  (oCR:K.lookup nsCR=some ⟨onCR,dnCR,.dict esCR nnCR,snCR⟩)
  (pCR:(esCR.toList.all fun e=>match e.key with | .str _ _=>true | _=>false)=true)
  (qCR:PySem.W.nsIn K nsCR "__init__" = some none)
  (rdCR:PySem.W.readsIn K CR (.type "type")=true)
  (atCR:PySem.W.findCls K (.ref CR) (.type "type") "__init__" = some (.val (.builtin "ValueError.__init__")))
  (gtCR:PySem.W.specialIn K (.ref CR) "__getattribute__" = some (some (.builtin "type.__getattribute__")))
  (hdI:PySem.W.handedIn (.builtin "ValueError.__init__")=true)
  (cgt:PySem.W.specialIn K (.builtin "object.__class__") "__get__" = some (some (.builtin "getset_descriptor.__get__")))
  (ctk:PySem.W.takesIn K (.builtin "object.__class__")=some true)
  (aCT:PySem.W.nsIn K mainGlobals "NoPaper" = some (some (.ref CT)))
  (lCT:K.lookup CT=some ⟨.type "type",ddCT,.cls cdCT,#[sCT0,sCT1,sCT2,sCT3,some (.builtin "ValueError.__new__"),sCT5]⟩)
  (mCT:cdCT.mro = .ref CT :: .ref CR::bmV)
  (eCT:cdCT.hasDel=false)
  (dCT:cdCT.hasDict=true)
  (kCT:PySem.W.keepIn K (.ref CT)=true)
  (saCT:PySem.W.findIn K (.ref CT) "__setattr__" = some (some (.builtin "object.__setattr__")))
  (gaCT:PySem.W.findIn K (.ref CT) "__getattribute__" = some (some (.builtin "BaseException.__getattribute__")))
  (gnCT:PySem.W.findIn K (.ref CT) "__getattr__" = some (none))
  (caCT:PySem.W.findIn K (.ref CT) "__class__" = some (some (.builtin "object.__class__")))
  (xCT0:PySem.W.findIn K (.ref CT) "word" = some none)
  (xCT1:PySem.W.findIn K (.ref CT) "at" = some none)
  (iCT:PySem.W.findIn K (.ref CT) "__init__" = some (some (.ref fCT)))
  (uCT:K.lookup fCT=some ⟨ocCT,odCT,.func (PySem.W.fnOf "__init__" "NoPaper.__init__" (ay eX) (ax eX) (af eX) .none kVCT dcCT pmCT anCT cvCT ctCT),slCT⟩)
  (vCT:PySem.W.codeIn K cvCT "NoPaper.__init__" = true)
  (wCT:PySem.W.keepIn K (.ref fCT)=true)
  (jCT:PySem.W.isFn K (.ref fCT)=true)
  (zD:PySem.W.nsIn K mainGlobals "dict" = some none)
  (gl0:PySem.W.nsIn K aB "a" = some (some (.str "A" t0)))
  (gl1:PySem.W.nsIn K aB "b" = some (some (.str "B" t1)))
  (gl2:PySem.W.nsIn K aB "c" = some (some (.str "C" t2)))
  (gl3:PySem.W.nsIn K aB "d" = some (some (.str "D" t3)))
  (gl4:PySem.W.nsIn K aB "e" = some (some (.str "E" t4)))
  (gl5:PySem.W.nsIn K aB "f" = some (some (.str "F" t5)))
  (gl6:PySem.W.nsIn K aB "A" = some (some (.str "a" t6)))
  (gl7:PySem.W.nsIn K aB "B" = some (some (.str "b" t7)))
  (gl8:PySem.W.nsIn K aB "C" = some (some (.str "c" t8)))
  (gl9:PySem.W.nsIn K aB "D" = some (some (.str "d" t9)))
  (gl10:PySem.W.nsIn K aB "E" = some (some (.str "e" t10)))
  (gl11:PySem.W.nsIn K aB "F" = some (some (.str "f" t11))) :
  ∃ fd:FuncData,(∀ (s:Shared) (v:Value),BindsTo s fd ⟨[v],[]⟩ [("_law_script",v)])∧∀ base:Heap,K.In base→base.Ns mainGlobals mg→fj l.prog w K mg base CX0 10 fa fd ["_law_script"] (oy K):=by
 have e:=hfa.symm.trans (Bl X G a25)
 cases e
 have gB:∀ x:L,∃ t,PySem.W.nsIn K aB (toS [x])=some (some (.str (toS [inv x]) t)):=by
  have q:∀ (x:L) (u v:Str) (t:Tok),PySem.W.nsIn K aB u=some (some (.str v t))→toS [x]=u→toS [inv x]=v→∃ t,PySem.W.nsIn K aB (toS [x])=some (some (.str (toS [inv x]) t)):=fun x u v t g e1 e2=>⟨t,by rw [e1,e2];exact g⟩
  intro x
  match x with
  | ⟨0,_⟩=>exact q 0 "a" "A" _ gl0 (by decide +kernel) (by decide +kernel)
  | ⟨1,_⟩=>exact q 1 "b" "B" _ gl1 (by decide +kernel) (by decide +kernel)
  | ⟨2,_⟩=>exact q 2 "c" "C" _ gl2 (by decide +kernel) (by decide +kernel)
  | ⟨3,_⟩=>exact q 3 "d" "D" _ gl3 (by decide +kernel) (by decide +kernel)
  | ⟨4,_⟩=>exact q 4 "e" "E" _ gl4 (by decide +kernel) (by decide +kernel)
  | ⟨5,_⟩=>exact q 5 "f" "F" _ gl5 (by decide +kernel) (by decide +kernel)
  | ⟨6,_⟩=>exact q 6 "A" "a" _ gl6 (by decide +kernel) (by decide +kernel)
  | ⟨7,_⟩=>exact q 7 "B" "b" _ gl7 (by decide +kernel) (by decide +kernel)
  | ⟨8,_⟩=>exact q 8 "C" "c" _ gl8 (by decide +kernel) (by decide +kernel)
  | ⟨9,_⟩=>exact q 9 "D" "d" _ gl9 (by decide +kernel) (by decide +kernel)
  | ⟨10,_⟩=>exact q 10 "E" "e" _ gl10 (by decide +kernel) (by decide +kernel)
  | ⟨11,_⟩=>exact q 11 "F" "f" _ gl11 (by decide +kernel) (by decide +kernel)
 have T:Bt K w mg aB:=⟨zA X G z_len,zA X G z_repr,zA X G z_abs,zA X G z_max,zA X G z_int,zA X G z_list,zA X G z_range,zA X G z_reversed,zA X G z_min,zA X G z_sorted,zA X G z_tuple,zA X G z_isinstance,zA X G z_all,zA X G z_str,zA X G z_zip,Bl X G aBk,⟨es,en,lB,kB⟩,gB⟩
 have S:∃ t,mg "SMALL" = some (.str "abcdef" t):=⟨_,Bl X G aS⟩
 have MT:∃ t,mg "MOST_SEATS" = some (.int 1001 t):=⟨_,Bl X G aT⟩
 have Te:mg "enumerate" = none:=zA X G zE
 have Tset:mg "set" = none:=zA X G zS
 have XCR:XCl K CR bmV:=rn lCR mCR eCR dCR ij kCR
 have ACR:XAt K CR:=⟨⟨_,XCR⟩,saCR,gaCR,gnCR⟩
 have GCR:mg "RingError" = some (.ref CR):=Bl X G aCR
 have BCR:sS K CR:=⟨rdCR,atCR,gtCR,hdI⟩
 have XCT:XCl K CT (.ref CR::bmV):=rn lCT mCT eCT dCT (qf lCR (by rw [nCR];exact sT oCR pCR) (by rw [nCR];exact qCR) ij) kCT
 have ACT:XAt K CT:=⟨⟨_,XCT⟩,saCT,gaCT,gnCT⟩
 have CCT:XCa K CT:=⟨ACT,caCT,cgt,ctk⟩
 have ICT:=fun base:Heap=>qv (P:=l.prog) (w:=w) (mg:=mg) (base:=base) (mf uCT vCT wCT) BCR GCR ACT xCT0 xCT1
 have MCT:∀ base:Heap,XMk l.prog w K mg base "NoPaper" CT ["word","at"] 1:=fun base=>⟨Bl X G aCT,CCT,by intro f hf;simp only [zt,zv,Aw] at hf;rcases hf with rfl | rfl <;> assumption,⟨_,_,_,XCT,iCT,jCT,(ICT base).1,(ICT base).2⟩⟩
 have Td:mg "dict" = none:=zA X G zD
 refine ⟨PySem.W.fnOf "law" "law" (ay iK) (ax iK) (af iK) .none kV25 dc25 pm25 an25 cd25 ct25,fun s v=>.of_eq rfl,fun base _ _=>?_⟩
 have F_back:=vT (P:=l.prog) (w:=w) (base:=base) (bu X G a0 l0 c0 k0) T
 have F_whole:=tI (P:=l.prog) (w:=w) (base:=base) (bu X G a1 l1 c1 k1) T (zA X G z_bool)
 have F_isrow:=tJ (P:=l.prog) (w:=w) (base:=base) (bu X G a3 l3 c3 k3) T MT F_whole
 have F_istab:=tK (P:=l.prog) (w:=w) (base:=base) (bu X G a2 l2 c2 k2) T Tset F_isrow
 have F_turn:=vU (P:=l.prog) (w:=w) (base:=base) (bu X G a6 l6 c6 k6) T Te
 have F_rows:=vV (P:=l.prog) (w:=w) (base:=base) (bu X G a5 l5 c5 k5) T S F_back F_turn
 have F_led:=xM (P:=l.prog) (w:=w) (base:=base) (bu X G a4 l4 c4 k4) F_rows
 have F_unk:=xN (P:=l.prog) (w:=w) (base:=base) (bu X G a7 l7 c7 k7) T Te F_rows
 have F_steps:=tN (P:=l.prog) (w:=w) (base:=base) (bu X G a10 l10 c10 k10)
 have F_shortp:=qt (P:=l.prog) (w:=w) (base:=base) (bu X G a12 l12 c12 k12) T F_steps
 have F_seatsp:=qu (P:=l.prog) (w:=w) (base:=base) (bu X G a13 l13 c13 k13) T F_whole F_istab
 have F_looks:=tO (P:=l.prog) (w:=w) (base:=base) (bu X G a14 l14 c14 k14)
 have F_lookat:=qw (P:=l.prog) (w:=w) (base:=base) (bu X G a15 l15 c15 k15) T F_unk F_led (MCT _)
 have F_lets:=vY (P:=l.prog) (w:=w) (base:=base) (bu X G a11 l11 c11 k11) T F_shortp F_seatsp F_looks F_lookat (MCT _)
 have F_feed:=vS (P:=l.prog) (w:=w) (base:=base) (bu X G a16 l16 c16 k16) T
 have F_draw:=vR (P:=l.prog) (w:=w) (base:=base) (bu X G a17 l17 c17 k17) T
 have F_lback:=tQ (P:=l.prog) (w:=w) (base:=base) (bu X G a18 l18 c18 k18)
 have F_lred:=vZ (P:=l.prog) (w:=w) (base:=base) (bu X G a19 l19 c19 k19) T F_lback
 have F_some:=v3 (P:=l.prog) (w:=w) (base:=base) (bu X G a20 l20 c20 k20) T (jm F_draw)
 have F_drawn:=tV (P:=l.prog) (w:=w) (base:=base) (bu X G a21 l21 c21 k21) T (jm F_draw) F_lback F_some
 have F_lled:=v5 (P:=l.prog) (w:=w) (base:=base) (bu X G a23 l23 c23 k23) T
 have F_lrow:=v7 (P:=l.prog) (w:=w) (base:=base) (bu X G a9 l9 c9 k9) T Te Td F_back
 have F_lined:=tY (P:=l.prog) (w:=w) (base:=base) (bu X G a8 l8 c8 k8) S T F_lrow
 have F_listab:=qC (P:=l.prog) (w:=w) (base:=base) (bu X G a22 l22 c22 k22) T (zA X G z_bool)
 have F_right:=tZ (P:=l.prog) (w:=w) (base:=base) (bu X G a24 l24 c24 k24) T F_lined F_listab F_lled (tu F_lets)
 exact xP (mf l25 c25 k25) T F_feed (jm F_draw) F_drawn F_lred F_right
theorem y7 {l:PySem.W.OpenLaw}{q:Program}{loose:List Str}{XP:(Str→Option Value)→Heap→Prop}{YP:World→Heap→Prop}{d:DefRec}{K:Params→PySem.W.Frag}(hn:l.most=some 63)(hdf:d.params.defaults=[])
  (hY:∀ (w:World) (h:Heap),YP w h→(K w.params).In h)
  (F:∀ (w:World) (mg:Str→Option Value) (fa:Addr) (h:Heap),(K w.params).In h→h.Ns mainGlobals mg→mg d.name=some (.ref fa) →
   ∃ fd:FuncData,(∀ (s:Shared) (u:Value),BindsTo s fd ⟨[u],[]⟩ [("_law_script",u)])∧∀ base:Heap,(K w.params).In base→base.Ns mainGlobals mg→fj l.prog w (K w.params) mg base CX0 10 fa fd ["_law_script"] (oy (K w.params))) :
  PySem.W.WalkO q loose XP YP l.row.toRowW d [] (fun f vs=>PySem.call f vs) :=
 L2.me (n:=63) (k:=10) (x:="_law_script") (CX:=fun _=>CX0) (sp:=fun w=>oy (K w.params)) hn (by decide) hdf ⟨rfl,by decide,by decide,rfl⟩ hY F (fun _ _ a ns hl _ hS=>⟨a,ns,rfl,hS,hl,fun _=>rfl⟩) fun _ _ _ _ _ z=>z
end Kx
namespace Kx
open PySem
def wb (s:String):Str:=⟨⟨PySem.W.R.mapR Char.toNat (PySem.W.S.toListS s)⟩⟩
theorem qF:Str.ofString=wb:=by
 funext s
 rw [Str.ofString_eq_toList,PySem.W.S.toListS_eq]
 show _=(⟨⟨PySem.W.R.mapR Char.toNat (PySem.W.S.toListS s)⟩⟩:Str)
 rw [← PySem.W.R.mapR_eq]
def apG (G:(String→Str)→Program)(x:String→Str):Program:=G x
def Gs:{ G:(String→Str)→Program // apG G Str.ofString=PySem.Challenge.pw_ringwords_k20_lines_of_seats }:=by
 refine ⟨?G,?h⟩
 case h =>
  delta PySem.Challenge.pw_ringwords_k20_lines_of_seats
  generalize Str.ofString=x
  exact rfl
end Kx
def PySem.W.Fast.tw2421105471941618711:PySem.Program:=Kx.Gs.1 Kx.wb
theorem PySem.W.Fast.te2421105471941618711:PySem.Challenge.pw_ringwords_k20_lines_of_seats=PySem.W.Fast.tw2421105471941618711:=Kx.Gs.2.symm.trans (Cn (Kx.apG Kx.Gs.1) Kx.qF)
theorem PySem.W.Fast.te6416523431042530426:True:=An
theorem PySem.W.Fast.tw13117807046812977760:True:=An
theorem PySem.W.Fast.tw8739084376666851287:True:=An
theorem PySem.W.Fast.tw13858259546832982173:True:=An
theorem PySem.W.Fast.tw12133819314356886883:True:=An
theorem PySem.W.Fast.tw4397519376763960355:True:=An
theorem PySem.W.Fast.tw16735377052194436480:True:=An
theorem PySem.W.Fast.tw14274703510198331546:True:=An
theorem PySem.W.Fast.tw10123934562403860606:True:=An
theorem PySem.W.Fast.tw8038509944314748434:True:=An
theorem PySem.W.Fast.tw4618179389219046332:True:=An
theorem PySem.W.Fast.tw5327102409966544367:True:=An
theorem PySem.W.Fast.tw18112760913043791966:True:=An
theorem PySem.W.Fast.tw4997888672035861087:True:=An
theorem PySem.W.Fast.tw9094563338390903514:True:=An
theorem PySem.W.Fast.tw690727812167342944:True:=An
theorem PySem.W.Fast.tw1672616471316427565:True:=An
theorem PySem.W.Fast.tw11742128045560227281:True:=An
theorem PySem.W.Fast.tw98205556802510336:True:=An
theorem PySem.W.Fast.tw6658531076148689108:True:=An
open PySem PySem.W PyProof.Rows
set_option maxRecDepth 100000 in
set_option maxHeartbeats 0 in
theorem PySem.Challenge.cw_ringwords_k20_lines_of_seats_holds : PySem.Challenge.rw_ringwords_k20_lines_of_seats.Holds := by
 w_on; o_law; k_head; (case hw=>w_witness2)
 k_fill
 refine Kx.y7 (l:=PySem.Challenge.rw_ringwords_k20_lines_of_seats) rfl rfl (fun w h Y=>PySem.W.kIn_of Y) ?F
 case F =>
  intro w mg fa h KX G hmg
  refine' Kx.wa KX G hmg ?a0 ?l0 ?c0 ?k0 ?a1 ?l1 ?c1 ?k1 ?a2 ?l2 ?c2 ?k2 ?a3 ?l3 ?c3 ?k3 ?a4 ?l4 ?c4 ?k4 ?a5 ?l5 ?c5 ?k5 ?a6 ?l6 ?c6 ?k6 ?a7 ?l7 ?c7 ?k7 ?a8 ?l8 ?c8 ?k8 ?a9 ?l9 ?c9 ?k9 ?a10 ?l10 ?c10 ?k10 ?a11 ?l11 ?c11 ?k11 ?a12 ?l12 ?c12 ?k12 ?a13 ?l13 ?c13 ?k13 ?a14 ?l14 ?c14 ?k14 ?a15 ?l15 ?c15 ?k15 ?a16 ?l16 ?c16 ?k16 ?a17 ?l17 ?c17 ?k17 ?a18 ?l18 ?c18 ?k18 ?a19 ?l19 ?c19 ?k19 ?a20 ?l20 ?c20 ?k20 ?a21 ?l21 ?c21 ?k21 ?a22 ?l22 ?c22 ?k22 ?a23 ?l23 ?c23 ?k23 ?a24 ?l24 ?c24 ?k24 ?a25 ?l25 ?c25 ?k25 ?z_len ?z_repr ?z_abs ?z_max ?z_int ?z_list ?z_range ?z_reversed ?z_min ?z_sorted ?z_tuple ?z_isinstance ?z_all ?z_str ?z_zip ?aBk ?lB ?kB ?aS ?aT ?zE ?zS ?z_bool ?zV ?aCR ?lCR ?mCR ?eCR ?dCR ?kCR ?saCR ?gaCR ?gnCR ?caCR ?nCR ?oCR ?pCR ?qCR ?rdCR ?atCR ?gtCR ?hdI ?cgt ?ctk ?aCT ?lCT ?mCT ?eCT ?dCT ?kCT ?saCT ?gaCT ?gnCT ?caCT ?xCT0 ?xCT1 ?iCT ?uCT ?vCT ?wCT ?jCT ?zD ?gl0 ?gl1 ?gl2 ?gl3 ?gl4 ?gl5 ?gl6 ?gl7 ?gl8 ?gl9 ?gl10 ?gl11
  (case a0=>k_is)
  (case l0=>k_is)
  (case c0=>k_is)
  (case k0=>k_is)
  (case a1=>k_is)
  (case l1=>k_is)
  (case c1=>k_is)
  (case k1=>k_is)
  (case a2=>k_is)
  (case l2=>k_is)
  (case c2=>k_is)
  (case k2=>k_is)
  (case a3=>k_is)
  (case l3=>k_is)
  (case c3=>k_is)
  (case k3=>k_is)
  (case a4=>k_is)
  (case l4=>k_is)
  (case c4=>k_is)
  (case k4=>k_is)
  (case a5=>k_is)
  (case l5=>k_is)
  (case c5=>k_is)
  (case k5=>k_is)
  (case a6=>k_is)
  (case l6=>k_is)
  (case c6=>k_is)
  (case k6=>k_is)
  (case a7=>k_is)
  (case l7=>k_is)
  (case c7=>k_is)
  (case k7=>k_is)
  (case a8=>k_is)
  (case l8=>k_is)
  (case c8=>k_is)
  (case k8=>k_is)
  (case a9=>k_is)
  (case l9=>k_is)
  (case c9=>k_is)
  (case k9=>k_is)
  (case a10=>k_is)
  (case l10=>k_is)
  (case c10=>k_is)
  (case k10=>k_is)
  (case a11=>k_is)
  (case l11=>k_is)
  (case c11=>k_is)
  (case k11=>k_is)
  (case a12=>k_is)
  (case l12=>k_is)
  (case c12=>k_is)
  (case k12=>k_is)
  (case a13=>k_is)
  (case l13=>k_is)
  (case c13=>k_is)
  (case k13=>k_is)
  (case a14=>k_is)
  (case l14=>k_is)
  (case c14=>k_is)
  (case k14=>k_is)
  (case a15=>k_is)
  (case l15=>k_is)
  (case c15=>k_is)
  (case k15=>k_is)
  (case a16=>k_is)
  (case l16=>k_is)
  (case c16=>k_is)
  (case k16=>k_is)
  (case a17=>k_is)
  (case l17=>k_is)
  (case c17=>k_is)
  (case k17=>k_is)
  (case a18=>k_is)
  (case l18=>k_is)
  (case c18=>k_is)
  (case k18=>k_is)
  (case a19=>k_is)
  (case l19=>k_is)
  (case c19=>k_is)
  (case k19=>k_is)
  (case a20=>k_is)
  (case l20=>k_is)
  (case c20=>k_is)
  (case k20=>k_is)
  (case a21=>k_is)
  (case l21=>k_is)
  (case c21=>k_is)
  (case k21=>k_is)
  (case a22=>k_is)
  (case l22=>k_is)
  (case c22=>k_is)
  (case k22=>k_is)
  (case a23=>k_is)
  (case l23=>k_is)
  (case c23=>k_is)
  (case k23=>k_is)
  (case a24=>k_is)
  (case l24=>k_is)
  (case c24=>k_is)
  (case k24=>k_is)
  (case a25=>k_is)
  (case l25=>k_is)
  (case c25=>k_is)
  (case k25=>k_is)
  (case z_len=>k_is)
  (case z_repr=>k_is)
  (case z_abs=>k_is)
  (case z_max=>k_is)
  (case z_int=>k_is)
  (case z_list=>k_is)
  (case z_range=>k_is)
  (case z_reversed=>k_is)
  (case z_min=>k_is)
  (case z_sorted=>k_is)
  (case z_tuple=>k_is)
  (case z_isinstance=>k_is)
  (case z_all=>k_is)
  (case z_str=>k_is)
  (case z_zip=>k_is)
  (case aBk=>k_is)
  (case lB=>k_is)
  (case kB=>exact ⟨⟨_,_,rfl,rfl⟩,⟨_,_,rfl,rfl⟩,⟨_,_,rfl,rfl⟩,⟨_,_,rfl,rfl⟩,⟨_,_,rfl,rfl⟩,⟨_,_,rfl,rfl⟩,⟨_,_,rfl,rfl⟩,⟨_,_,rfl,rfl⟩,⟨_,_,rfl,rfl⟩,⟨_,_,rfl,rfl⟩,⟨_,_,rfl,rfl⟩,⟨_,_,rfl,rfl⟩,trivial⟩)
  (case aS=>k_is)
  (case aT=>k_is)
  (case zE=>k_is)
  (case zS=>k_is)
  (case z_bool=>k_is)
  (case zV=>k_is)
  (case aCR=>k_is)
  (case lCR=>k_is)
  (case mCR=>rfl)
  (case eCR=>rfl)
  (case dCR=>rfl)
  (case kCR=>k_is)
  (case saCR=>k_is)
  (case gaCR=>k_is)
  (case gnCR=>k_is)
  (case caCR=>k_is)
  (case nCR=>rfl)
  (case oCR=>k_is)
  (case pCR=>rfl)
  (case qCR=>k_is)
  (case rdCR=>k_is)
  (case atCR=>k_is)
  (case gtCR=>k_is)
  (case hdI=>rfl)
  (case cgt=>k_is)
  (case ctk=>k_is)
  (case aCT=>k_is)
  (case lCT=>k_is)
  (case mCT=>rfl)
  (case eCT=>rfl)
  (case dCT=>rfl)
  (case kCT=>k_is)
  (case saCT=>k_is)
  (case gaCT=>k_is)
  (case gnCT=>k_is)
  (case caCT=>k_is)
  (case xCT0=>k_is)
  (case xCT1=>k_is)
  (case iCT=>k_is)
  (case uCT=>k_is)
  (case vCT=>k_is)
  (case wCT=>k_is)
  (case jCT=>k_is)
  (case zD=>k_is)
  (case gl0=>k_is)
  (case gl1=>k_is)
  (case gl2=>k_is)
  (case gl3=>k_is)
  (case gl4=>k_is)
  (case gl5=>k_is)
  (case gl6=>k_is)
  (case gl7=>k_is)
  (case gl8=>k_is)
  (case gl9=>k_is)
  (case gl10=>k_is)
  (case gl11=>k_is)
end
