import PyProof.Rows.All
import Wide.All
import OpenK.AllK
import Wide.FinOn
import Lean
import PyProof.EqAt
import PyProof.EqKinds
import PyProof.TupleCall
import KE.KRevIter
import PyProof.Rows.SortShellK
import PyProof.FString5
import PyProof.NeData
import PyProof.TupleOfStr
import PyProof.IsRules
import PyProof.ListRange
import PyProof.FactsAll.tuple_3
import PyProof.ExcInit
import PyProof.InstStoreFacts
import PyProof.NsDelKeeps
import PyProof.DictWalks
import PyProof.Rows.DictUnroll
import PyProof.WalkInts
import PySem.Challenge.RW_ringwords_k09_short_words_and_halves
set_option Elab.async false
set_option linter.all false
set_option maxRecDepth 100000
namespace L2
open PySem PySem.Spec PyProof.Rows
abbrev Key:=Sum Int Str
def mE:Key→Value→Bool
 | .inl k,v=>Value.isInt k v
 | .inr x,v=>Value.isStrOf x v
def zc (w:World):Key→Int
 | .inl k=>hashInt k
 | .inr x=>hashStr w x
theorem bf:∀ {k:Key} {v:Value},mE k v=true→(∃ i t,k=Sum.inl i∧v=Value.int i t) ∨ (∃ x t,k=Sum.inr x∧v=Value.str x t)
 | .inl i,v,h=>by
  obtain ⟨t,e⟩:=Value.isInt_shape (k:=i) (v:=v) h
  exact .inl ⟨i,t,rfl,e⟩
 | .inr x,v,h=>by
  obtain ⟨t,e⟩:=Value.isStrOf_shape (x:=x) (v:=v) h
  exact .inr ⟨x,t,rfl,e⟩
theorem ng (i:Int)(t:Tok):mE (.inl i) (.int i t)=true:=by simp [mE,Value.isInt]
theorem nh (x:Str)(t:Tok):mE (.inr x) (.str x t)=true:=by simp [mE,Value.isStrOf]
theorem vw (a b:Int):decide ((Sum.inl a:Key)=Sum.inl b)=(a == b):=by
 by_cases e:a=b
 ·subst e;simp
 ·have h:¬ (Sum.inl a:Key)=Sum.inl b:=fun q=>e (Sum.inl.inj q)
  rw [decide_eq_false h]
  exact (beq_eq_false_iff_ne.mpr e).symm
theorem vx (a b:Str):decide ((Sum.inr a:Key)=Sum.inr b)=decide (a=b):=by
 by_cases e:a=b
 ·subst e;simp
 ·have h:¬ (Sum.inr a:Key)=Sum.inr b:=fun q=>e (Sum.inr.inj q)
  rw [decide_eq_false h,decide_eq_false e]
theorem vy (a:Int)(b:Str):decide ((Sum.inl a:Key)=Sum.inr b)=false:=decide_eq_false (fun q=>nomatch q)
theorem vz (a:Str)(b:Int):decide ((Sum.inr a:Key)=Sum.inl b)=false:=decide_eq_false (fun q=>nomatch q)
def bg (prog:Program)(w:World):PySem.KeyKind prog w Key where
 is:=mE
 hash:=zc w
 inj:=fun v a b ha hb=>by
  rcases bf ha with ⟨i,t,rfl,rfl⟩ | ⟨x,t,rfl,rfl⟩
  ·rcases bf hb with ⟨j,u,rfl,e⟩ | ⟨y,u,rfl,e⟩
   ·injection e with e1 _;rw [e1]
   ·exact nomatch e
  ·rcases bf hb with ⟨j,u,rfl,e⟩ | ⟨y,u,rfl,e⟩
   ·exact nomatch e
   ·injection e with e1 _;rw [e1]
 byValue:=fun k v h=>by
  rcases bf h with ⟨i,t,rfl,rfl⟩ | ⟨x,t,rfl,rfl⟩ <;> rfl
 pyHash:=fun hv h=>by
  rcases bf hv with ⟨i,t,rfl,rfl⟩ | ⟨x,t,rfl,rfl⟩
  ·exact wpAny_pyHash_int h
  ·exact wpAny_pyHash_str h
 eqBool:=fun hu hv h=>by
  rcases bf hu with ⟨i,t,rfl,rfl⟩ | ⟨x,t,rfl,rfl⟩
  ·rcases bf hv with ⟨j,u,rfl,rfl⟩ | ⟨y,u,rfl,rfl⟩
   ·rw [vw] at h;exact wpAny_eqBool_int h
   ·rw [vy] at h;exact SeqAt.EqAt.int_str i t y u _ _ _ _ h
  ·rcases bf hv with ⟨j,u,rfl,rfl⟩ | ⟨y,u,rfl,rfl⟩
   ·rw [vz] at h;exact SeqAt.EqAt.str_int x t j u _ _ _ _ h
   ·rw [vx] at h;exact wpAny_eqBool_str h
 «strs»:=fun k x t v h=>by
  rcases bf h with ⟨i,u,rfl,e⟩ | ⟨y,u,rfl,e⟩
  ·exact nomatch e
  ·injection e with e1 _
   subst e1
   cases v <;> rfl
theorem ke (prog:Program)(w:World)(i:Int)(t:Tok):(bg prog w).is (.inl i) (.int i t)=true:=ng i t
theorem kf (prog:Program)(w:World)(x:Str)(t:Tok):(bg prog w).is (.inr x) (.str x t)=true:=nh x t
inductive V where
 | non | bl (b:Bool) | int (i:Int) | str (x:Str) | byt (b:Array UInt8) | flt (b:UInt64) | ref (a:Addr) | ty (n:String)
 deriving DecidableEq
def bC:V→Value→Prop
 | .non,u=>u=Value.none
 | .bl b,u=>u=Value.bool b
 | .int i,u=>∃ t,u=Value.int i t
 | .str x,u=>∃ t,u=Value.str x t
 | .byt b,u=>∃ t,u=Value.bytes b t
 | .flt b,u=>∃ t,u=Value.float b t
 | .ref a,u=>u=Value.ref a
 | .ty n,u=>u=Value.type n
abbrev bu:List V→List Value→Prop:=Paired bC
theorem bu.length {xs:List V}{us:List Value}(r:bu xs us):xs.length=us.length:=Paired.length r
theorem bu.get:∀ {xs:List V} {us:List Value} {i:Nat} {x:V},bu xs us→xs[i]? = some x→∃ u,us[i]? = some u∧bC x u
 | _,_,_,_,.nil,e=>by simp at e
 | _,_,0,_,.cons r _,e=>by simp at e;subst e;exact ⟨_,rfl,r⟩
 | _,_,i+1,x,.cons _ t,e=>by
  obtain ⟨u,h1,h2⟩:=bu.get (i:=i) (x:=x) t (by simpa using e)
  exact ⟨u,by simpa using h1,h2⟩
theorem bu.append:∀ {xs ys:List V} {us ws:List Value},bu xs us→bu ys ws→bu (xs++ys) (us++ws)
 | _,_,_,_,.nil,s=>s
 | _,_,_,_,.cons r t,s=>.cons r (bu.append t s)
theorem bu.take:∀ {xs:List V} {us:List Value} (n:Nat),bu xs us→bu (xs.take n) (us.take n)
 | _,_,0,_=>.nil
 | _,_,_+1,.nil=>.nil
 | _,_,n+1,.cons r t=>.cons r (bu.take n t)
theorem bu.drop:∀ {xs:List V} {us:List Value} (n:Nat),bu xs us→bu (xs.drop n) (us.drop n)
 | _,_,0,r=>r
 | _,_,_+1,.nil=>.nil
 | _,_,n+1,.cons _ t=>bu.drop n t
def kX:Option V→Option Value→Prop
 | some v,some u=>bC v u
 | none,none=>True
 | _,_=>False
def KV {κ:Type}:List (κ × V)→List (κ × Value)→Prop:=Paired fun (p:κ × V) (q:κ × Value)=>p.1=q.1∧bC p.2 q.2
def kV:Key→V
 | .inl i=>.int i
 | .inr x=>.str x
inductive HO where
 | lst (xs:List V)
 | tup (xs:List V)
 | dK (kvs:List (Key × V)) | dT (kvs:List (List Key × V))
 | set (S:Int→Bool) (n:Nat)
 | ins (C dx:Addr) (fs:List (Str × V))
 | own (x:Addr)
 | xd (fs:List (Str × V))
 | met (f x:Addr)
 | rng (lo hi:Int)
 | frz (o:Obj) (u:HO)
 | tbl (ps:Array Value)
 | ext (φ:Heap→Prop)
abbrev Hp:=Addr→Option HO
def upd (H:Hp)(a:Addr)(o:HO):Hp:=fun b=>if b=a then some o else H b
theorem ah {H:Hp}{a:Addr}{o:HO}:upd H a o a=some o:=by unfold upd; rw [if_pos rfl]
theorem aD {H:Hp}{a b:Addr}{o:HO}(h:b≠a):upd H a o b=H b:=by unfold upd; rw [if_neg h]
theorem fT {H:Hp}{a:Addr}{o u:HO}:upd (upd H a o) a u=upd H a u:=by
 funext b;unfold upd;split <;> rfl
theorem ni {H:Hp}{a b:Addr}{o u:HO}(h:H a=some o)(h':H b=some u)(d:o≠u):a≠b:=by
 intro e;subst e;rw [h] at h';exact d (Option.some.inj h')
theorem au {H:Hp}{a b:Addr}{o:HO}(h:H a=some o)(h':H b=none):a≠b:=by
 intro e;subst e;rw [h] at h';cases h'
section
variable (P:Program) (w:World)
def NoD (h:Heap)(a:Addr):Prop:=∃ o,h.get? a=some o∧o.dict=none
theorem NoD.new (h:Heap)(o:Obj)(e:o.dict=none)(hf:o.isFreed=false:=by rfl):NoD (h.push o) h.objs.size:=⟨o,Heap.get?_push_size _ hf,e⟩
def bH (H:Hp)(h:Heap)(a:Addr):HO→Prop
 | .lst xs=>xs.length≤sizeLine∧∃ (its:List Value) (n:Nat),bu xs its∧h.get? a=some { cls:=.type "list",data:=.seq its.toArray n }
 | .tup xs=>xs.length≤sizeLine∧∃ its:List Value,bu xs its∧IsTup h a its.toArray∧NoD h a
 | .dK kvs=>kvs.length≤sizeLine∧(a == sysModules)=false∧∃ vs,KV kvs vs∧h.DictOf (bg P w) a vs
 | .dT kvs=>kvs.length≤sizeLine∧(a == sysModules)=false∧∃ xs:List (List Key × Addr × Value),
   Paired (fun (p:List Key × V) (q:List Key × Addr × Value)=>p.1=q.1∧H q.2.1=some (.tup (p.1.map kV))∧bC p.2 q.2.2) kvs xs ∧
   ∃ o es ep,h.get? a=some o∧o.ExactDict∧o.data = .dict es ep∧es.toList=xs.map (entryOfKey (tupleKind (bg P w)))∧(xs.map (·.1)).Nodup
 | .set S n=>h.SetOf (intKind P w) a S n
 | .ins C dx fs=>H dx=some (.own a)∧fs.length≤1000∧dx≠a∧h.get? a=some (PySem.W.instObj C dx) ∧
   ∃ mA,h.Ns1 dx mA∧(∀ f,kX (fs.lookup f) (mA f))∧PySem.Within mA (fs.map (·.1))
 | .own _=>∃ o,h.get? a=some o
 | .xd fs=>∃ mA,h.Ns1 a mA∧∀ f,kX (fs.lookup f) (mA f)
 | .rng lo hi=>∃ t u v,h.get? a=some { cls:=.type "range",data:=.fields #[.int lo t,.int hi u,.int 1 v] }
 | .frz o u=>h.get? a=some o∧bH H h a u
 | .tbl ps=>h.get? a=some { cls:=.none,data:=.fields ps }
 | .met f x=>h.get? a=some (PySem.W.methodObj (.ref f) (.ref x))
 | .ext φ=>φ h∧(∃ o,h.get? a=some o)∧∀ h1 h2:Heap,φ h1→(∀ o,h1.get? a=some o→h2.get? a=some o)→φ h2
def HOk (H:Hp)(h:Heap):Prop:=∀ a o,H a=some o→bH P w H h a o
end
section
variable {P:Program} {w:World} {H H':Hp} {h h':Heap} {a:Addr} {o:HO}
theorem bH.lt (x:bH P w H h a o):a < h.objs.size:=by
 cases o with
 | lst xs=>obtain ⟨_,_,_,_,e⟩:=x;exact Heap.lt_size e
 | tup xs=>obtain ⟨_,_,_,p,_⟩:=x;exact p.lt
 | dK kvs=>obtain ⟨_,_,_,_,o,_,_,e,_⟩:=x;exact Heap.lt_size e
 | dT kvs=>obtain ⟨_,_,_,_,o,_,_,e,_⟩:=x;exact Heap.lt_size e
 | set S n=>obtain ⟨o,_,_,_,e,_⟩:=x;exact Heap.lt_size e
 | ins C dx fs=>obtain ⟨_,_,_,e,_⟩:=x;exact Heap.lt_size e
 | own y=>obtain ⟨_,e⟩:=x;exact Heap.lt_size e
 | xd fs=>obtain ⟨_,⟨_,_,_,e,_⟩,_⟩:=x;exact Heap.lt_size e
 | rng lo hi=>obtain ⟨_,_,_,e⟩:=x;exact Heap.lt_size e
 | frz ob u=>obtain ⟨e,_⟩:=x;exact Heap.lt_size e
 | tbl ps=>exact Heap.lt_size (show h.get? a=some _ from x)
 | met f y=>exact Heap.lt_size (show h.get? a=some _ from x)
 | ext φ=>obtain ⟨_,⟨_,e⟩,_⟩:=x;exact Heap.lt_size e
theorem Paired.mapP {α β:Type}{F G:α→β→Prop}:∀ {l₁:List α} {l₂:List β},Paired F l₁ l₂→(∀ a b,F a b→G a b)→Paired G l₁ l₂
 | _,_,.nil,_=>.nil
 | _,_,.cons r t,f=>.cons (f _ _ r) (Paired.mapP t f)
theorem bH.stay (x:bH P w H h a o)(k:∀ b u,(b=a ∨ H b=some (.own a))→h.get? b=some u→h'.get? b=some u)
  (ho:∀ b,H b=some (.own a)→H' b=some (.own a)) (ht:∀ b xs,H b=some (.tup xs)→H' b=some (.tup xs)):bH P w H' h' a o:=by
 induction o with
 | lst xs=>obtain ⟨z,its,n,r,e⟩:=x;exact ⟨z,its,n,r,k _ _ (.inl rfl) e⟩
 | tup xs=>obtain ⟨z,its,r,⟨ob,e,c⟩,o2,e2,c2⟩:=x;exact ⟨z,its,r,⟨ob,k _ _ (.inl rfl) e,c⟩,o2,k _ _ (.inl rfl) e2,c2⟩
 | dK kvs=>obtain ⟨z,y,vs,r,ob,es,ep,e,c⟩:=x;exact ⟨z,y,vs,r,ob,es,ep,k _ _ (.inl rfl) e,c⟩
 | dT kvs =>
  obtain ⟨z,y,xs,r,ob,es,ep,e,c⟩:=x
  exact ⟨z,y,xs,Paired.mapP r fun p q z=>⟨z.1,ht _ _ z.2.1,z.2.2⟩,ob,es,ep,k _ _ (.inl rfl) e,c⟩
 | set S n=>obtain ⟨ob,es,ep,t,e,c⟩:=x;exact ⟨ob,es,ep,t,k _ _ (.inl rfl) e,c⟩
 | ins C dx fs =>
  obtain ⟨d,z,ne,e,mA,⟨od,es,ep,e2,c⟩,r⟩:=x
  exact ⟨ho _ d,z,ne,k _ _ (.inl rfl) e,mA,⟨od,es,ep,k _ _ (.inr d) e2,c⟩,r⟩
 | own y=>obtain ⟨ob,e⟩:=x;exact ⟨ob,k _ _ (.inl rfl) e⟩
 | xd fs=>obtain ⟨mA,⟨od,es,ep,e,c⟩,r⟩:=x;exact ⟨mA,⟨od,es,ep,k _ _ (.inl rfl) e,c⟩,r⟩
 | rng lo hi=>obtain ⟨t,u,v,e⟩:=x;exact ⟨t,u,v,k _ _ (.inl rfl) e⟩
 | frz ob u ih=>obtain ⟨e,q⟩:=x;exact ⟨k _ _ (.inl rfl) e,ih q⟩
 | tbl ps =>
  have e:h.get? a=some { cls:=.none,data:=.fields ps }:=x
  show h'.get? a=some { cls:=.none,data:=.fields ps }
  exact k a _ (.inl rfl) e
 | met f y =>
  have e:h.get? a=some (PySem.W.methodObj (.ref f) (.ref y)):=x
  show h'.get? a=some (PySem.W.methodObj (.ref f) (.ref y))
  exact k a _ (.inl rfl) e
 | ext φ=>obtain ⟨p,⟨o,e⟩,st⟩:=x;exact ⟨st _ _ p fun o q=>k _ _ (.inl rfl) q,⟨o,k _ _ (.inl rfl) e⟩,st⟩
theorem HOk.lt (x:HOk P w H h)(e:H a=some o):a < h.objs.size:=(x a o e).lt
theorem HOk.fresh (x:HOk P w H h)(e:h.objs.size≤a):H a=none:=by
 cases q:H a with
 | none=>rfl
 | some u=>exact absurd (Nat.lt_of_lt_of_le (x.lt q) e) (Nat.lt_irrefl _)
theorem HOk.kept (x:HOk P w H h)(k:∀ b u,h.get? b=some u→h'.get? b=some u):HOk P w H h':=fun a o e =>
 (x a o e).stay (fun b u _ q=>k b u q) (fun _ q=>q) fun _ _ q=>q
theorem HOk.laid (x:HOk P w H h)(k:∀ b u,h.get? b=some u→h'.get? b=some u)(hp:h.objs.size≤a)(new:bH P w (upd H a o) h' a o):HOk P w (upd H a o) h':=fun b u e=>by
 have hn:=x.fresh hp
 by_cases hb:b=a
 ·subst hb;rw [ah] at e;cases e;exact new
 ·rw [aD hb] at e
  exact (x b u e).stay (fun c v _ q=>k c v q) (fun c q=>by rw [aD (au q hn)];exact q) fun c xs q=>by rw [aD (au q hn)];exact q
end
def Rd (H:Hp)(a:Addr)(u:HO):Prop:=H a=some u ∨ ∃ o,H a=some (.frz o u)
theorem Rd.ok {P:Program}{w:World}{H:Hp}{h:Heap}{a:Addr}{u:HO}(r:Rd H a u)(x:HOk P w H h):bH P w H h a u:=by
 rcases r with r | ⟨o,r⟩
 ·exact x a u r
 ·obtain ⟨_,q⟩:=x a _ r
  exact q
def Mut:Option HO→Prop
 | some (.lst _)=>True
 | some (.dK _)=>True
 | some (.dT _)=>True
 | some (.set _ _)=>True
 | some (.ins _ _ _)=>True
 | some (.ext _)=>True
 | _=>False
section
variable {P:Program} {w:World} {H:Hp} {h h':Heap} {x e:Addr} {o':HO}
theorem HOk.write (ok:HOk P w H h)(mu:Mut (H x))(he:e=x ∨ H e=some (.own x))(k:∀ b u,b≠e→h.get? b=some u→h'.get? b=some u)(heo:∃ u,h'.get? e=some u)
  (new:bH P w (upd H x o') h' x o'):HOk P w (upd H x o') h':=fun b u q=>by
 have nown:∀ c y,H c=some (.own y)→c≠x:=fun c y r z=>by subst z;rw [r] at mu;exact mu
 have ntup:∀ c xs,H c=some (.tup xs)→c≠x:=fun c xs r z=>by subst z;rw [r] at mu;exact mu
 by_cases hb:b=x
 ·subst hb;rw [ah] at q;cases q;exact new
 ·rw [aD hb] at q
  by_cases hbe:b=e
  ·have q':H b=some (.own x):=by
    rcases he with z | z
    ·exact absurd (hbe.trans z) hb
    ·rw [hbe];exact z
   rw [q] at q';cases q'
   obtain ⟨v,hv⟩:=heo
   exact ⟨v,by rw [hbe];exact hv⟩
  ·refine (ok b u q).stay (fun c v hc r=>k c v ?_ r) (fun c r=>by rw [aD (nown c b r)];exact r) fun c xs r=>by rw [aD (ntup c xs r)];exact r
   rcases hc with rfl | hc
   ·exact hbe
   ·rintro rfl
    rcases he with z | z
    ·exact nown c b hc z
    ·rw [hc] at z;cases z;exact hb rfl
end
structure Un (fs ex:List Addr) (H H':Hp) (h h':Heap):Prop where
 keep:∀ b o,h.get? b=some o→H b=none→b∉fs→b∉ex→h'.get? b=some o
 slot:∀ b o,h.get? b=some o→H b=none→b∈fs→b∉ex→∃ sl,h'.get? b=some { o with slots:=sl }
 free:∀ b o,h.get? b=some o→H b=none→b∉ex→H' b=none
 there:∀ b o,h.get? b=some o→b∉ex→∃ o',h'.get? b=some o'
 tups:∀ b xs,H b=some (.tup xs)→H' b=some (.tup xs)
 frzs:∀ b o u,H b=some (.frz o u)→H' b=some (.frz o u)
 tbls:∀ b ps,H b=some (.tbl ps)→∃ more,H' b=some (.tbl (ps++more))
section
variable {fs fs' ex ex':List Addr} {H H1 H2:Hp} {h h1 h2 h':Heap} {a x e:Addr} {o:HO}
theorem Un.any (u:Un fs ex H H1 h h1){b:Addr}{ob:Obj}(q:h.get? b=some ob)(n:H b=none)(hx:b∉ex):∃ sl,h1.get? b=some { ob with slots:=sl }:=by
 by_cases hb:b∈fs
 ·exact u.slot b ob q n hb hx
 ·exact ⟨ob.slots,u.keep b ob q n hb hx⟩
theorem Un.kept (k:∀ b u,h.get? b=some u→h'.get? b=some u):Un fs ex H H h h' :=
 ⟨fun b ob q _ _ _=>k b ob q,fun b ob q _ _ _=>⟨ob.slots,k b ob q⟩,fun _ _ _ n _=>n,fun b ob q _=>⟨ob,k b ob q⟩,fun _ _ q=>q,fun _ _ _ q=>q,fun _ ps q=>⟨#[],by rw [q];simp⟩⟩
theorem Un.refl:Un fs ex H H h h:=Un.kept fun _ _ q=>q
theorem Un.laid (k:∀ b u,h.get? b=some u→h'.get? b=some u)(hp:h.objs.size≤a)(hn:H a=none):Un fs ex H (upd H a o) h h' where
 keep:=fun b u q _ _ _=>k b u q
 slot:=fun b u q _ _ _=>⟨u.slots,k b u q⟩
 free:=fun b u q n _=>by rw [aD (Nat.ne_of_lt (Nat.lt_of_lt_of_le (Heap.lt_size q) hp))];exact n
 there:=fun b u q _=>⟨u,k b u q⟩
 tups:=fun b xs q=>by rw [aD (au q hn)];exact q
 frzs:=fun b u xs q=>by rw [aD (au q hn)];exact q
 tbls:=fun b ps q=>⟨#[],by rw [aD (au q hn),q];simp⟩
theorem Un.write (mu:Mut (H x))(he:e=x ∨ H e=some (.own x))(k:∀ b u,b≠e→h.get? b=some u→h'.get? b=some u)(heo:∃ u,h'.get? e=some u):Un fs ex H (upd H x o) h h':=by
 have hx:∀ b,H b=none→b≠x:=fun b n z=>by subst z;rw [n] at mu;exact mu
 have hb:∀ b,H b=none→b≠e:=fun b n z=>by
  subst z
  rcases he with r | r
  ·exact hx b n r
  ·rw [n] at r;cases r
 have hm:∀ b u,H b=some u→¬ Mut (some u)→b≠x:=fun b u q nm z=>by subst z;rw [q] at mu;exact nm mu
 refine ⟨fun b u q n _ _=>k b u (hb b n) q,fun b u q n _ _=>⟨u.slots,k b u (hb b n) q⟩,fun b u q n _=>by rw [aD (hx b n)];exact n,fun b u q _=>?_,
  fun b xs q=>by rw [aD (hm b _ q fun z=>z)];exact q,fun b u xs q=>by rw [aD (hm b _ q fun z=>z)];exact q,fun b ps q=>⟨#[],by rw [aD (hm b _ q fun z=>z),q];simp⟩⟩
 by_cases hbe:b=e
 ·subst hbe;exact heo
 ·exact ⟨u,k b u hbe q⟩
end
def trk (h:Heap)(H:Hp):List Addr:=(List.range h.objs.size).filter fun a=>(H a).isSome
def qv (h:Heap)(H:Hp):Heap:=PySem.W.hideAll h (trk h H)
theorem nj (h:Heap)(H:Hp):(qv h H).objs.size=h.objs.size:=PySem.W.hideAll_size _ _
theorem qw {h:Heap}{H:Hp}{b:Addr}{o:Obj}(e:h.get? b=some o)(n:H b=none):(qv h H).get? b=some o :=
 PySem.W.hideAll_get _ e fun hm=>by
  have q:(H b).isSome=true:=(List.mem_filter.mp hm).2
  rw [n] at q;simp at q
theorem tG {h:Heap}{H:Hp}{b:Addr}{o:Obj}(e:(qv h H).get? b=some o):h.get? b=some o∧H b=none:=by
 have e':h.get? b=some o:=PySem.W.of_hideAll (trk h H) e
 refine ⟨e',?_⟩
 cases q:H b with
 | none=>rfl
 | some x =>
  have hm:b∈trk h H:=List.mem_filter.mpr ⟨List.mem_range.mpr (Heap.lt_size e'),by simp [q]⟩
  have z:(qv h H).get? b=none:=PySem.W.hideAll_none (trk h H) hm
  rw [z] at e;cases e
structure Mod (K:PySem.W.Frag) (mg:Str→Option Value) (base:Heap):Prop where
 kin:K.In base
 glob:base.Ns mainGlobals mg
 blt:∃ mb,base.Ns builtinsNs mb∧∀ x:Str,x ≠ "__name__"→mb x=bootBuiltins x
 nolimit:base.NoLimit
/-- the context: a def's body (or a comprehension's block) running. base: fixed through the whole law;s₀,H₀: the entry;outer: the frames whose slots others may change (a def's callers);stack: all frames that run;
  ex: iterators that were made ahead of the entry and are walked here (a comprehension's);fn: the names whose cells were made at the entry (a def: all;a comprehension's block: its own);calm: not within an except suite;pn: pins that every state bears;xe: what is wanted of an exception that leaves the code -/
structure Cx where
 prog:Program
 w:World
 K:PySem.W.Frag
 mg:Str→Option Value
 base:Heap
 A:Around
 N:List Str
 s₀:Shared
 H₀:Hp
 env:Env
 outer:List Env
 stack:List Env
 ex:List Addr
 fn:Str→Bool
 calm:Bool
 pn:List (Addr × Obj)
 xe:Value→Shared→Prop
def frs (l:List Env):List Addr:=l.filterMap (·.frame)
abbrev Cx.fs (X:Cx):List Addr:=frs X.outer
def Vis (sc:Scope)(x:Str):Prop:=sc.names.lookup x=some .local ∨ sc.names.lookup x=some .cell ∨ sc.names.lookup x=some .free
def Loc (sc:Scope)(x:Str):Prop:=sc.names.lookup x=some .local ∨ sc.names.lookup x=some .cell
def zd (env:Env)(h:Heap)(m:Str→Option Value)(x:Str)(u:Value):Prop :=
 (env.kindOf x=some .local∧m x=some u) ∨ ((env.kindOf x=some .cell ∨ env.kindOf x=some .free)∧∃ c,env.cells.lookup x=some c∧h.IsCell c (some u))
structure Cx.Ok (X:Cx):Prop where
 mod:Mod X.K X.mg X.base
 kind:X.env.scope.kind = .function
 glob:X.env.globals=mainGlobals
 blt:X.env.builtins=builtinsNs
 above:X.s₀.heap.objs.size≤X.env.locals
 inj:∀ x y c,X.env.cells.lookup x=some c→X.env.cells.lookup y=some c→x=y
 has:∀ x,(X.env.kindOf x=some .cell ∨ X.env.kindOf x=some .free)→∃ c,X.env.cells.lookup x=some c
 cab:∀ x c,X.fn x=true→X.env.cells.lookup x=some c→X.s₀.heap.objs.size≤c
 hd:X.calm=true→X.A.handled=none
 frames:X.A.frames=some X.stack
 stk:X.stack=X.outer ∨ (X.stack=X.env::X.outer∧X.env.frame=some X.env.locals)
 exf:∀ b∈X.ex,b≠X.env.locals∧∀ x c,X.env.cells.lookup x=some c→c≠b
 bs:∀ b o,X.base.get? b=some o→X.s₀.heap.get? b=some o∧X.H₀ b=none
 bsz:X.base.objs.size≤X.s₀.heap.objs.size
 noex:∀ b o,X.base.get? b=some o→b∉X.ex
 exfs:∀ b∈X.ex,b∉X.fs
 funs:X.s₀.heap.FunFrames X.base X.outer
 frf:∀ b∈X.fs,X.H₀ b=none
structure Inv (X:Cx) (pins:List (Addr × Obj)) (σ:List (Option V)) (H:Hp) (s:Shared):Prop where
 ok:X.Ok
 os:s.os=X.s₀.os
 bare:AllBare s.gens
 base:Un X.fs X.ex X.H₀ H X.s₀.heap s.heap
 loc:∃ m,s.heap.Ns X.env.locals m∧∀ (i:Nat) (x:Str) (v:V),X.N[i]? = some x→σ[i]? = some (some v)→Vis X.env.scope x→∃ u,bC v u∧zd X.env s.heap m x u
 cell:∀ x c,X.env.cells.lookup x=some c→∃ v,s.heap.IsCell c v
 free:H X.env.locals=none
 freeC:∀ x c,X.env.cells.lookup x=some c→H c=none
 pin:∀ p∈X.pn++pins,s.heap.get? p.1=some p.2∧H p.1=none∧p.1≠X.env.locals∧p.1∉X.fs∧∀ v,p.2.data ≠ .cell v
 hok:HOk X.prog X.w H s.heap
 len:σ.length=X.N.length
section
variable {X:Cx} {pins:List (Addr × Obj)} {σ:List (Option V)} {H H':Hp} {s:Shared} {h':Heap}
theorem Cx.Ok.nofr (ok:X.Ok){b:Addr}{o:Obj}(e:X.base.get? b=some o):b∉X.fs:=fun hb=>by
 have:=(ok.funs.mem hb).1
 rw [e] at this;cases this
theorem Inv.bs (I:Inv X pins σ H s):∀ b o,X.base.get? b=some o→s.heap.get? b=some o∧H b=none:=fun b o e =>
 ⟨I.base.keep b o (I.ok.bs b o e).1 (I.ok.bs b o e).2 (I.ok.nofr e) (I.ok.noex b o e),I.base.free b o (I.ok.bs b o e).1 (I.ok.bs b o e).2 (I.ok.noex b o e)⟩
theorem Inv.bk (I:Inv X pins σ H s):∀ b o,X.base.get? b=some o→s.heap.get? b=some o:=fun b o e=>(I.bs b o e).1
theorem Inv.mod (I:Inv X pins σ H s):Mod X.K X.mg X.base:=I.ok.mod
theorem Inv.kIn (I:Inv X pins σ H s):X.K.In s.heap:=I.ok.mod.kin.keeps I.bk
theorem Inv.fr (I:Inv X pins σ H s):∃ m,Fr X.base X.env.locals s.heap m :=
 let ⟨m,hn,_⟩:=I.loc
 ⟨m,hn,I.bk,Nat.le_trans I.ok.bsz I.ok.above⟩
theorem Inv.lt (I:Inv X pins σ H s):X.env.locals < s.heap.objs.size:=let ⟨_,hn,_⟩:=I.loc; hn.lt
theorem Inv.sz (I:Inv X pins σ H s):X.s₀.heap.objs.size≤s.heap.objs.size:=Nat.le_trans I.ok.above (Nat.le_of_lt I.lt)
theorem Inv.nofs (I:Inv X pins σ H s){a:Addr}(h:s.heap.objs.size≤a):a∉X.fs:=fun hb=>by
 obtain ⟨_,o,ho,_⟩:=I.ok.funs.mem hb
 exact absurd (Nat.lt_of_lt_of_le (Heap.lt_size ho) (Nat.le_trans I.sz h)) (Nat.lt_irrefl _)
theorem Inv.cne (I:Inv X pins σ H s):∀ x c,X.env.cells.lookup x=some c→c≠X.env.locals:=fun x c e z=>by
 obtain ⟨v,o,ho,hd⟩:=I.cell x c e
 obtain ⟨m,⟨o',es,ep,ho',hd',_⟩,_⟩:=I.loc
 rw [z,ho'] at ho;cases ho;rw [hd'] at hd;cases hd
theorem Inv.funs (I:Inv X pins σ H s):s.heap.FunFrames X.base X.outer:=by
 have all:∀ (l:List Env),(∀ b∈frs l,b∈X.fs)→X.s₀.heap.FunFrames X.base l→s.heap.FunFrames X.base l:=by
  intro l
  induction l with
  | nil=>intro _ _;trivial
  | cons env r ih =>
   intro hs hl
   obtain ⟨hk,⟨L,o,hf,hn,ho,hd⟩,hr⟩:=hl
   have hL:L∈X.fs:=hs L (by unfold frs;rw [List.filterMap_cons,hf];exact List.mem_cons_self)
   obtain ⟨sl,e⟩:=I.base.slot L o ho (I.ok.frf L hL) hL fun z=>I.ok.exfs L z hL
   exact ⟨hk,⟨L,_,hf,hn,e,hd⟩,ih (fun b hb=>hs b (by unfold frs;rw [List.filterMap_cons,hf];exact List.mem_cons_of_mem _ hb)) hr⟩
 exact all X.outer (fun _ hb=>hb) I.ok.funs
theorem Inv.stack (I:Inv X pins σ H s):s.heap.FunFrames X.base X.stack:=by
 rcases I.ok.stk with e | ⟨e,hf⟩
 ·rw [e];exact I.funs
 ·rw [e]
  obtain ⟨m,hn,_⟩:=I.loc
  refine .cons (by rw [I.ok.kind];decide) hf hn ?_ I.funs
  exact Heap.get?_none_of_le (Nat.le_trans I.ok.bsz I.ok.above)
theorem Inv.stkSub (I:Inv X pins σ H s):∀ b∈frs X.stack,b∈X.env.locals::X.fs:=fun b hb=>by
 rcases I.ok.stk with e | ⟨e,hf⟩
 ·rw [e] at hb;exact List.mem_cons_of_mem _ hb
 ·rw [e] at hb
  unfold frs at hb
  rw [List.filterMap_cons,hf] at hb
  exact hb
theorem Inv.stkFree (I:Inv X pins σ H s):∀ b∈frs X.stack,H b=none:=fun b hb=>by
 rcases List.mem_cons.mp (I.stkSub b hb) with e | hb
 ·rw [e];exact I.free
 ·obtain ⟨_,o,ho,_⟩:=I.ok.funs.mem hb
  exact I.base.free b o ho (I.ok.frf b hb) fun z=>I.ok.exfs b z hb
theorem Inv.step {g':Array GenState}{t':Nat}{d':Drawn}{ch:List Addr}(I:Inv X pins σ H s)
  (hch:∀ b∈ch,(b∈X.ex ∨ X.s₀.heap.objs.size≤b)∧b≠X.env.locals∧(∀ x c,X.env.cells.lookup x=some c→c≠b)∧∀ p∈X.pn++pins,p.1≠b)
  (keep:∀ b o,b≠X.env.locals→b∉X.fs→b∉ch→s.heap.get? b=some o→H b=none→h'.get? b=some o)
  (slot:∀ b o,b≠X.env.locals→b∈X.fs→b∉ch→s.heap.get? b=some o→H b=none→∃ sl,h'.get? b=some { o with slots:=sl }) (free:∀ b o,b∉ch→s.heap.get? b=some o→H b=none→H' b=none)
  (there:∀ b o,b∉ch→s.heap.get? b=some o→∃ o',h'.get? b=some o')
  (tups:∀ b xs,H b=some (.tup xs)→H' b=some (.tup xs)) (frzs:∀ b o u,H b=some (.frz o u)→H' b=some (.frz o u)) (tbls:∀ b ps,H b=some (.tbl ps)→∃ more,H' b=some (.tbl (ps++more)))
  (ns:∀ m,s.heap.Ns X.env.locals m→h'.Ns X.env.locals m) (hok:HOk X.prog X.w H' h') (hg:AllBare g') :
  Inv X pins σ H' { s with heap:=h',gens:=g',drawn:=d',toks:=t' }:=by
 have neL:∀ b o,X.s₀.heap.get? b=some o→b≠X.env.locals:=fun b o e=>Nat.ne_of_lt (Nat.lt_of_lt_of_le (Heap.lt_size e) I.ok.above)
 have neC:∀ b o,X.s₀.heap.get? b=some o→b∉X.ex→b∉ch:=fun b o e hx hb=>by
  rcases (hch b hb).1 with z | z
  ·exact hx z
  ·exact absurd (Nat.lt_of_lt_of_le (Heap.lt_size e) z) (Nat.lt_irrefl _)
 have cellK:∀ x c,X.env.cells.lookup x=some c→∀ v,s.heap.IsCell c v→h'.IsCell c v:=fun x c e v ⟨o,ho,hd⟩=>by
  have nch:c∉ch:=fun z=>(hch c z).2.2.1 x c e rfl
  by_cases hc:c∈X.fs
  ·obtain ⟨sl,q⟩:=slot c o (I.cne x c e) hc nch ho (I.freeC x c e)
   exact ⟨_,q,hd⟩
  ·exact ⟨o,keep c o (I.cne x c e) hc nch ho (I.freeC x c e),hd⟩
 refine ⟨I.ok,I.os,hg,⟨fun b o e n hb hx=>?_,fun b o e n hb hx=>?_,fun b o e n hx=>?_,fun b o e hx=>?_,fun b xs e=>tups b xs (I.base.tups b xs e),fun b o xs e=>frzs b o xs (I.base.frzs b o xs e),fun b ps e=>?_⟩,?_,fun x c e=>?_,?_,fun x c e=>?_,fun p hp=>?_,hok,I.len⟩
 ·exact keep b o (neL b o e) hb (neC b o e hx) (I.base.keep b o e n hb hx) (I.base.free b o e n hx)
 ·obtain ⟨sl,e1⟩:=I.base.slot b o e n hb hx
  obtain ⟨sl',e2⟩:=slot b _ (neL b o e) hb (neC b o e hx) e1 (I.base.free b o e n hx)
  exact ⟨sl',e2⟩
 ·obtain ⟨o',e1⟩:=I.base.there b o e hx
  exact free b o' (neC b o e hx) e1 (I.base.free b o e n hx)
 ·obtain ⟨o',e1⟩:=I.base.there b o e hx
  exact there b o' (neC b o e hx) e1
 ·obtain ⟨m1,e1⟩:=I.base.tbls b ps e
  obtain ⟨m2,e2⟩:=tbls b _ e1
  exact ⟨m1++m2,by rw [e2,Array.append_assoc]⟩
 ·obtain ⟨m,hn,hl⟩:=I.loc
  refine ⟨m,ns m hn,fun i x v e1 e2 e3=>?_⟩
  obtain ⟨u,r,l⟩:=hl i x v e1 e2 e3
  refine ⟨u,r,?_⟩
  rcases l with l | ⟨k,c,e,z⟩
  ·exact .inl l
  ·exact .inr ⟨k,c,e,cellK x c e _ z⟩
 ·obtain ⟨v,z⟩:=I.cell x c e
  exact ⟨v,cellK x c e v z⟩
 ·obtain ⟨m,⟨o,_,_,ho,_⟩,_⟩:=I.loc
  exact free _ o (fun z=>(hch _ z).2.1 rfl) ho I.free
 ·obtain ⟨v,o,ho,hd⟩:=I.cell x c e
  exact free c o (fun z=>(hch c z).2.2.1 x c e rfl) ho (I.freeC x c e)
 ·obtain ⟨e,n,ne,nf,d⟩:=I.pin p hp
  have nch:p.1∉ch:=fun z=>(hch p.1 z).2.2.2 p hp rfl
  exact ⟨keep p.1 p.2 ne nf nch e n,free p.1 p.2 nch e n,ne,nf,d⟩
theorem Inv.un {t':Nat}(I:Inv X pins σ H s)(u:Un X.fs [] H H' s.heap h')(hok:HOk X.prog X.w H' h'):Inv X pins σ H' { s with heap:=h',toks:=t' }:=by
 obtain ⟨m,⟨o,es,ep,ho,r⟩,_⟩:=id I.loc
 obtain ⟨sl,hL⟩:=u.any ho I.free (by simp)
 exact I.step (g':=s.gens) (d':=s.drawn) (ch:=[]) (fun _ z=>nomatch z) (fun b o _ hb _ e n=>u.keep b o e n hb (by simp)) (fun b o _ hb _ e n=>u.slot b o e n hb (by simp)) (fun b o _ e n=>u.free b o e n (by simp)) (fun b o _ e=>u.there b o e (by simp)) u.tups u.frzs u.tbls (fun m' hm=>by
  obtain ⟨o',es',ep',ho',r'⟩:=hm
  rw [ho] at ho';cases ho'
  exact ⟨_,es',ep',hL,r'⟩) hok I.bare
theorem Inv.call {g':Array GenState}{t':Nat}{d':Drawn}{ch:List Addr}(I:Inv X pins σ H s)(u:Un (frs X.stack) ch H H' s.heap h')(hok:HOk X.prog X.w H' h')(hg:AllBare g')
  (hch:∀ b∈ch,(b∈X.ex ∨ X.s₀.heap.objs.size≤b)∧b≠X.env.locals∧(∀ x c,X.env.cells.lookup x=some c→c≠b)∧∀ p∈X.pn++pins,p.1≠b) :
  Inv X pins σ H' { s with heap:=h',gens:=g',drawn:=d',toks:=t' }:=by
 obtain ⟨m,⟨o,es,ep,ho,r⟩,_⟩:=id I.loc
 obtain ⟨sl,hL⟩:=u.any ho I.free fun z=>(hch _ z).2.1 rfl
 exact I.step (ch:=ch) hch (fun b o hL hb hc e n=>u.keep b o e n (fun z=>(List.mem_cons.mp (I.stkSub b z)).elim hL hb) hc) (fun b o _ _ hc e n=>u.any e n hc) (fun b o hc e n=>u.free b o e n hc) (fun b o hc e=>u.there b o e hc) u.tups u.frzs u.tbls (fun m' hm=>by
  obtain ⟨o',es',ep',ho',r'⟩:=hm
  rw [ho] at ho';cases ho'
  exact ⟨_,es',ep',hL,r'⟩) hok hg
theorem Inv.turned {t':Nat}{it:Addr}(I:Inv X pins σ H s)(k:∀ b o,b≠it→s.heap.get? b=some o→h'.get? b=some o)(hn:H it=none)(hL:it≠X.env.locals)
  (h1:it∈X.ex ∨ X.s₀.heap.objs.size≤it) (h2:∀ x c,X.env.cells.lookup x=some c→c≠it) (h3:∀ p∈X.pn++pins,p.1≠it):Inv X pins σ H { s with heap:=h',toks:=t' }:=by
 have nit:∀ b u,H b=some u→b≠it:=fun b u e z=>by rw [z,hn] at e;cases e
 refine I.step (g':=s.gens) (d':=s.drawn) (ch:=[it]) (fun b hb=>?_) (fun b o _ _ hc e _=>k b o (fun z=>hc (by simp [z])) e) (fun b o _ _ hc e _=>⟨o.slots,k b o (fun z=>hc (by simp [z])) e⟩) (fun _ _ _ _ n=>n)
  (fun b o hc e=>⟨o,k b o (fun z=>hc (by simp [z])) e⟩) (fun _ _ e=>e) (fun _ _ _ e=>e) (fun b ps e=>⟨#[],by rw [e];simp⟩) (fun m hm=>?_) (fun b u e=>?_) I.bare
 ·have e:b=it:=by simpa using hb
  subst e
  exact ⟨h1,hL,h2,h3⟩
 ·obtain ⟨o,es,ep,ho,r⟩:=hm
  exact ⟨o,es,ep,k _ o (Ne.symm hL) ho,r⟩
 ·refine (I.hok b u e).stay (fun c v hc q=>k c v ?_ q) (fun _ q=>q) fun _ _ q=>q
  rcases hc with z | z
  ·rw [z];exact nit b u e
  ·exact nit c _ z
theorem Inv.tok (I:Inv X pins σ H s)(t:Nat):Inv X pins σ H { s with toks:=t }:=I.un (h':=s.heap) (t':=t) Un.refl I.hok
theorem Inv.kept {t':Nat}(I:Inv X pins σ H s)(k:∀ b u,s.heap.get? b=some u→h'.get? b=some u):Inv X pins σ H { s with heap:=h',toks:=t' }:=I.un (Un.kept k) (I.hok.kept k)
theorem Inv.laid {a:Addr}{o:HO}{t':Nat}(I:Inv X pins σ H s)(k:∀ b u,s.heap.get? b=some u→h'.get? b=some u)(hp:s.heap.objs.size≤a)(new:bH X.prog X.w (upd H a o) h' a o) :
  Inv X pins σ (upd H a o) { s with heap:=h',toks:=t' }:=I.un (Un.laid k hp (I.hok.fresh hp)) (I.hok.laid k hp new)
theorem Inv.write {x e:Addr}{o:HO}{t':Nat}(I:Inv X pins σ H s)(mu:Mut (H x))(he:e=x ∨ H e=some (.own x))(k:∀ b u,b≠e→s.heap.get? b=some u→h'.get? b=some u)(heo:∃ u,h'.get? e=some u)
  (new:bH X.prog X.w (upd H x o) h' x o):Inv X pins σ (upd H x o) { s with heap:=h',toks:=t' }:=I.un (Un.write mu he k heo) (I.hok.write mu he k heo new)
theorem Inv.pins_of {pins':List (Addr × Obj)}(I:Inv X pins σ H s)(h:∀ p∈pins',s.heap.get? p.1=some p.2∧H p.1=none∧p.1≠X.env.locals∧p.1∉X.fs∧∀ v,p.2.data ≠ .cell v):Inv X pins' σ H s :=
 ⟨I.ok,I.os,I.bare,I.base,I.loc,I.cell,I.free,I.freeC,fun p hp=>(List.mem_append.mp hp).elim (fun z=>I.pin p (List.mem_append_left _ z)) (h p),I.hok,I.len⟩
theorem kY {N:List Str}(hN:N.Nodup){i j:Nat}{x:Str}(a:N[i]? = some x)(b:N[j]? = some x):i=j:=by
 obtain ⟨h1,e1⟩:=List.getElem?_eq_some_iff.mp a
 obtain ⟨h2,e2⟩:=List.getElem?_eq_some_iff.mp b
 exact (List.getElem_inj hN).mp (e1.trans e2.symm)
theorem nk {M:Model}{A:Around}{E:Value→Shared→Prop}{i:Nat}{x:Str}{v:V}{u:Value}{Q:Unit→Shared→Prop}(I:Inv X pins σ H s)(hN:X.N.Nodup)(hi:X.N[i]? = some x)(hx:Loc X.env.scope x)(r:bC v u)
  (h:∀ s',Inv X pins (σ.set i (some v)) H s'→(∃ a,Heap.SameBut a s.heap s'.heap∧(a=X.env.locals ∨ X.env.cells.lookup x=some a))→Q () s') (hf:X.fn x=true ∨ X.env.scope.names.lookup x=some .local:=by first | exact .inl rfl | exact .inr rfl | assumption):wpAny M A (storeName X.env x u) Q E s:=by
 obtain ⟨m,hn,hl⟩:=id I.loc
 have hcls:(X.env.scope.kind == .class || (X.env.scope.kind == .module && X.env.locals != X.env.globals))=false:=by rw [I.ok.kind];rfl
 have hiσ:i < σ.length:=by rw [I.len];exact (List.getElem?_eq_some_iff.mp hi).1
 have cne:=I.cne
 have tracked:∀ {a:Addr} {h':Heap},(∃ o,s.heap.get? a=some o∧H a=none)→Heap.SameBut a s.heap h'→HOk X.prog X.w H h':=fun {a h'} ha hs b ob e=>by
  obtain ⟨_,_,hfree⟩:=ha
  refine (I.hok b ob e).stay (fun c w' hc q=>(hs.2 c ?_).trans q) (fun _ q=>q) fun _ _ q=>q
  rintro rfl
  rcases hc with rfl | hc
  ·rw [hfree] at e;cases e
  ·rw [hfree] at hc;cases hc
 rcases hx with hk | hk
 ·refine wpAny_storeName_local hk hn (fun h' hn' hs=>?_) hcls
  obtain ⟨oL,_,_,hoL,_⟩:=id hn
  refine h _ ⟨I.ok,I.os,I.bare,⟨fun b o e n hb hx=>?_,fun b o e n hb hx=>?_,I.base.free,fun b o e hx=>?_,I.base.tups,I.base.frzs,I.base.tbls⟩,⟨_,hn',fun j y v' e1 e2 e3=>?_⟩,fun y c e=>?_,I.free,I.freeC,fun p hp=>?_,tracked ⟨oL,hoL,I.free⟩ hs,by simpa using I.len⟩ ⟨_,hs,.inl rfl⟩
  ·exact (hs.2 b (Nat.ne_of_lt (Nat.lt_of_lt_of_le (Heap.lt_size e) I.ok.above))).trans (I.base.keep b o e n hb hx)
  ·obtain ⟨sl,e1⟩:=I.base.slot b o e n hb hx
   exact ⟨sl,(hs.2 b (Nat.ne_of_lt (Nat.lt_of_lt_of_le (Heap.lt_size e) I.ok.above))).trans e1⟩
  ·obtain ⟨o',e1⟩:=I.base.there b o e hx
   exact ⟨o',(hs.2 b (Nat.ne_of_lt (Nat.lt_of_lt_of_le (Heap.lt_size e) I.ok.above))).trans e1⟩
  ·by_cases hj:j=i
   ·subst hj
    rw [hi] at e1;cases e1
    rw [List.getElem?_set_self hiσ] at e2
    cases e2
    exact ⟨u,r,.inl ⟨hk,by simp⟩⟩
   ·rw [List.getElem?_set_ne (Ne.symm hj)] at e2
    obtain ⟨u',r',q⟩:=hl j y v' e1 e2 e3
    refine ⟨u',r',?_⟩
    rcases q with ⟨k,e⟩ | ⟨k,c,e,z⟩
    ·refine .inl ⟨k,?_⟩
     have:y≠x:=fun e=>hj (kY hN e1 (e ▸ hi))
     simp [this,e]
    ·exact .inr ⟨k,c,e,z.sameBut hs (cne y c e)⟩
  ·obtain ⟨w',z⟩:=I.cell y c e
   exact ⟨w',z.sameBut hs (cne y c e)⟩
  ·obtain ⟨e,n,ne,nf,d⟩:=I.pin p hp
   exact ⟨(hs.2 p.1 ne).trans e,n,ne,nf,d⟩
 ·have hfn:X.fn x=true:=by
   rcases hf with z | z
   ·exact z
   ·rw [z] at hk;cases hk
  obtain ⟨c,hc⟩:=I.ok.has x (.inl hk)
  obtain ⟨w',z⟩:=I.cell x c hc
  refine wpAny_storeName_cell I.ok.kind hk hc z (fun h' hc' hs=>?_)
  obtain ⟨oc,hoc,hocd⟩:=id z
  refine h { s with heap:=h' } ⟨I.ok,I.os,I.bare,⟨fun b o e n hb hx=>?_,fun b o e n hb hx=>?_,I.base.free,fun b o e hx=>?_,I.base.tups,I.base.frzs,I.base.tbls⟩,⟨m,hn.sameBut hs (Ne.symm (cne x c hc)),fun j y v' e1 e2 e3=>?_⟩,fun y c' e=>?_,I.free,I.freeC,fun p hp=>?_,tracked ⟨oc,hoc,I.freeC x c hc⟩ hs,by simpa using I.len⟩ ⟨c,hs,.inr hc⟩
  ·exact (hs.2 b (Nat.ne_of_lt (Nat.lt_of_lt_of_le (Heap.lt_size e) (I.ok.cab x c hfn hc)))).trans (I.base.keep b o e n hb hx)
  ·obtain ⟨sl,e1⟩:=I.base.slot b o e n hb hx
   exact ⟨sl,(hs.2 b (Nat.ne_of_lt (Nat.lt_of_lt_of_le (Heap.lt_size e) (I.ok.cab x c hfn hc)))).trans e1⟩
  ·obtain ⟨o',e1⟩:=I.base.there b o e hx
   exact ⟨o',(hs.2 b (Nat.ne_of_lt (Nat.lt_of_lt_of_le (Heap.lt_size e) (I.ok.cab x c hfn hc)))).trans e1⟩
  ·by_cases hj:j=i
   ·subst hj
    rw [hi] at e1;cases e1
    rw [List.getElem?_set_self hiσ] at e2
    cases e2
    exact ⟨u,r,.inr ⟨.inl hk,c,hc,hc'⟩⟩
   ·rw [List.getElem?_set_ne (Ne.symm hj)] at e2
    obtain ⟨u',r',q⟩:=hl j y v' e1 e2 e3
    refine ⟨u',r',?_⟩
    rcases q with q | ⟨k,c',e,z'⟩
    ·exact .inl q
    ·refine .inr ⟨k,c',e,z'.sameBut hs ?_⟩
     rintro rfl
     exact hj (kY hN e1 (I.ok.inj _ _ _ e hc ▸ hi))
  ·by_cases hcc:c'=c
   ·subst hcc;exact ⟨_,hc'⟩
   ·obtain ⟨w2,z2⟩:=I.cell y c' e
    exact ⟨w2,z2.sameBut hs hcc⟩
  ·obtain ⟨e,n,ne,nf,d⟩:=I.pin p hp
   refine ⟨(hs.2 p.1 ?_).trans e,n,ne,nf,d⟩
   intro q
   rw [q,hoc] at e
   have q':oc=p.2:=Option.some.inj e
   exact d w' (by rw [← q'];exact hocd)
theorem iB {M:Model}{A:Around}{E:Value→Shared→Prop}{i:Nat}{x:Str}{v:V}{u:Value}{Q:Unit→Shared→Prop}(I:Inv X pins σ H s)(hN:X.N.Nodup)(hi:X.N[i]? = some x)(hx:Loc X.env.scope x)(r:bC v u)
  (h:∀ s',Inv X pins (σ.set i (some v)) H s'→Q () s') (hf:X.fn x=true ∨ X.env.scope.names.lookup x=some .local:=by first | exact .inl rfl | exact .inr rfl | assumption):wpAny M A (storeName X.env x u) Q E s :=
 nk I hN hi hx r (fun s' I' _=>h s' I') hf
theorem Inv.call' {s':Shared}{ch:List Addr}(I:Inv X pins σ H s)(ho:s'.os=s.os)(u:Un (frs X.stack) ch H H' s.heap s'.heap)(hok:HOk X.prog X.w H' s'.heap)(hg:AllBare s'.gens)
  (hch:∀ b∈ch,(b∈X.ex ∨ X.s₀.heap.objs.size≤b)∧b≠X.env.locals∧(∀ x c,X.env.cells.lookup x=some c→c≠b)∧∀ p∈X.pn++pins,p.1≠b):Inv X pins σ H' s':=by
 obtain ⟨h',g',d',t',o'⟩:=s'
 have e:o'=s.os:=ho
 subst e
 exact I.call (g':=g') (t':=t') (d':=d') u hok hg hch
end
abbrev XK:=Value→Option Addr→Hp→Prop
abbrev St:=List (Option V)
abbrev VK:=V→Hp→Prop
abbrev TE:=St→Hp→VK→Prop
abbrev TT:=St→Hp→(Bool→Hp→Prop)→Prop
abbrev TA:=St→Hp→(List V→Hp→Prop)→Prop
structure gZ where
 nx:St→Hp→Prop
 rt:VK
 bk:St→Hp→Prop:=fun _ _=>False
 ct:St→Hp→Prop:=fun _ _=>False
abbrev TS:=gZ→St→Hp→Prop
def EP (X:Cx)(pins:List (Addr × Obj))(σ:St)(Q:VK)(u:Value)(s':Shared):Prop:=∃ v H',Inv X pins σ H' s'∧bC v u∧Q v H'
def TP (X:Cx)(pins:List (Addr × Obj))(σ:St)(Q:Bool→Hp→Prop)(b:Bool)(s':Shared):Prop:=∃ H',Inv X pins σ H' s'∧Q b H'
def AP (X:Cx)(pins:List (Addr × Obj))(σ:St)(Q:List V→Hp→Prop)(us:List Value)(s':Shared):Prop:=∃ vs H',Inv X pins σ H' s'∧bu vs us∧Q vs H'
def SP (X:Cx)(pins:List (Addr × Obj))(D:gZ)(f:Flow)(s':Shared):Prop :=
 match f with
 | .next=>∃ σ' H',Inv X pins σ' H' s'∧D.nx σ' H'
 | .brk=>∃ σ' H',Inv X pins σ' H' s'∧D.bk σ' H'
 | .cont=>∃ σ' H',Inv X pins σ' H' s'∧D.ct σ' H'
 | .ret u=>∃ v σ' H',Inv X pins σ' H' s'∧bC v u∧D.rt v H'
def PE (X:Cx)(e:Expr)(t:TE):Prop :=
 ∀ (pins:List (Addr × Obj)) (s:Shared) (σ:St) (H:Hp) (Q:VK),Inv X pins σ H s→t σ H Q→wpAny (model X.prog X.w) X.A (eval e X.env) (EP X pins σ Q) X.xe s
def PT (X:Cx)(e:Expr)(t:TT):Prop :=
 ∀ (pins:List (Addr × Obj)) (s:Shared) (σ:St) (H:Hp) (Q:Bool→Hp→Prop),Inv X pins σ H s→t σ H Q→wpAny (model X.prog X.w) X.A (isTrue e X.env (eval e X.env)) (TP X pins σ Q) X.xe s
def PW (X:Cx)(e:Expr)(t:TT):Prop :=
 ∀ (whole:Sem Value) (pins:List (Addr × Obj)) (s:Shared) (σ:St) (H:Hp) (Q:Bool→Hp→Prop),Inv X pins σ H s→t σ H Q→wpAny (model X.prog X.w) X.A (isTrue e X.env whole) (TP X pins σ Q) X.xe s
theorem PW.pt {X:Cx}{e:Expr}{t:TT}(h:PW X e t):PT X e t:=h _
def PA (X:Cx)(es:List Expr)(t:TA):Prop :=
 ∀ (pos:Pos) (pins:List (Addr × Obj)) (s:Shared) (σ:St) (H:Hp) (Q:List V→Hp→Prop),Inv X pins σ H s→t σ H Q→wpAny (model X.prog X.w) X.A (spliced (backTo pos (starEach es X.env))) (AP X pins σ Q) X.xe s
def PS (X:Cx)(st:Stmt)(t:TS):Prop :=
 ∀ (pins:List (Addr × Obj)) (s:Shared) (σ:St) (H:Hp) (D:gZ),Inv X pins σ H s→t D σ H→wpAny (model X.prog X.w) X.A (exec st X.env) (SP X pins D) X.xe s
def PSs (X:Cx)(st:List Stmt)(t:TS):Prop :=
 ∀ (pins:List (Addr × Obj)) (s:Shared) (σ:St) (H:Hp) (D:gZ),Inv X pins σ H s→t D σ H→wpAny (model X.prog X.w) X.A (execs st X.env) (SP X pins D) X.xe s
theorem thn {α:Type}{t:Sem α}{Q Q':α→Shared→Prop}{M:Model}{A:Around}{E:Value→Shared→Prop}{s:Shared}(h:wpAny M A t Q E s)(hQ:∀ a s,Q a s→Q' a s):wpAny M A t Q' E s:=wpAny_mono h hQ fun _ _ x=>x
section
variable {X:Cx}
inductive xk (i:Nat)(σ:St)(H:Hp)(Q:VK):Prop
 | mk:∀ v,(σ[i]? = some (some v))→(Q v H)→xk i σ H Q
def tC (v:V):TE:=fun _ H Q=>Q v H
theorem vA {i:Nat}{x:Str}{pos:Pos}(hN:X.N[i]? = some x)(hv:Vis X.env.scope x)(hd:(x == ("__debug__":Str))=false:=by decide)(hcd:(x == ("__classdict__":Str))=false:=by decide):PE X (.Name x pos) (xk i):=by
 intro pins s σ H Q I h
 obtain ⟨v,e,h⟩:=h
 obtain ⟨m,hn,hl⟩:=I.loc
 obtain ⟨u,r,l⟩:=hl i x v hN e hv
 have fin:EP X pins σ Q u s:=⟨v,H,I,r,h⟩
 rcases l with ⟨hk,hm⟩ | ⟨hk,c,hc,hcell⟩
 ·exact wpAny_Name (wpAny_loadName_local I.ok.kind hk hn hm fin) hd
 ·rcases hk with hk | hk
  ·exact wpAny_Name (wpAny_loadName_cell I.ok.kind hk hc hcell fin) hd
  ·exact wpAny_Name (wpAny_loadName_free I.ok.kind hk hc hcell fin hcd) hd
theorem ai {i j pos}:PE X (.Constant (.int i) j pos) (tC (.int i)):=fun _ _ _ H _ I h=>wpAny_Constant_int ⟨.int i,H,I.tok _,⟨_,rfl⟩,h⟩
theorem jd {b j pos}:PE X (.Constant (.bool b) j pos) (tC (.bl b)):=fun _ _ _ H _ I h=>Constant_bool ⟨.bl b,H,I,rfl,h⟩
theorem je {j pos}:PE X (.Constant .none j pos) (tC .non):=fun _ _ _ H _ I h=>Constant_none ⟨.non,H,I,rfl,h⟩
theorem aL {x j pos}:PE X (.Constant (.str x) j pos) (tC (.str x)):=fun _ _ _ H _ I h=>Calls.Constant_str ⟨.str x,H,I.tok _,⟨_,rfl⟩,h⟩
def Gl (X:Cx)(x:Str):Prop:=X.env.kindOf x=some .globalImplicit
theorem nt {E:Value→Shared→Prop}{pins:List (Addr × Obj)}{s:Shared}{σ:St}{H:Hp}{x:Str}{u:Value}{pos:Pos}{Q:Value→Shared→Prop}(I:Inv X pins σ H s)(hg:Gl X x)(hm:X.mg x=some u)(h:Q u s)
  (hd:(x == ("__debug__":Str))=false:=by decide):wpAny (model X.prog X.w) X.A (eval (.Name x pos) X.env) Q E s :=
 Calls.Name_function_global I.ok.kind hg (Calls.loadGlobal_global (by rw [I.ok.glob];exact I.mod.glob.keeps I.bk) hm h) hd
theorem ff {E:Value→Shared→Prop}{pins:List (Addr × Obj)}{s:Shared}{σ:St}{H:Hp}{x:Str}{u:Value}{pos:Pos}{Q:Value→Shared→Prop}(I:Inv X pins σ H s)(hg:Gl X x)(hm:X.mg x=none)(hv:bootBuiltins x=some u)(h:Q u s)
  (hn:x ≠ "__name__":=by decide) (hd:(x == ("__debug__":Str))=false:=by decide):wpAny (model X.prog X.w) X.A (eval (.Name x pos) X.env) Q E s:=by
 obtain ⟨mb,h1,h2⟩:=I.mod.blt
 exact Calls.Name_function_global I.ok.kind hg (Calls.loadGlobal_builtin (by rw [I.ok.glob];exact I.mod.glob.keeps I.bk) hm (by rw [I.ok.blt];exact h1.keeps I.bk) ((h2 x hn).trans hv) h) hd
theorem nu {x:Str}{v:V}{u:Value}{pos:Pos}(hg:Gl X x)(hm:X.mg x=none)(hv:bootBuiltins x=some u)(r:bC v u)(hn:x ≠ "__name__":=by decide)(hd:(x == ("__debug__":Str))=false:=by decide):PE X (.Name x pos) (tC v) :=
 fun _ _ _ H _ I h=>ff I hg hm hv ⟨v,H,I,r,h⟩ hn hd
variable {a b:Expr} {ta tb:TE} {pos:Pos}
inductive IsB (x:V)(H:Hp)(Q:Bool→Hp→Prop):Prop
 | mk:∀ c,(x = .bl c)→(Q c H)→IsB x H Q
variable {tA tB':TT} {rest:List Expr}
def kg (u:TT)(σ:St)(Q:(Bool→Hp→Prop)):Bool→Hp→Prop:=fun c H1=>if c=true then u σ H1 Q else Q false H1
def ze (t u:TT):TT:=fun σ H Q=>t σ H (kg u σ Q)
def jf (u:TT)(σ:St)(Q:(Bool→Hp→Prop)):Bool→Hp→Prop:=fun c H1=>if c=true then Q true H1 else u σ H1 Q
def tOr (t u:TT):TT:=fun σ H Q=>t σ H (jf u σ Q)
def nv (Q:(Bool→Hp→Prop)):Bool→Hp→Prop:=fun c H1=>Q (!c) H1
def zf (t:TT):TT:=fun σ H Q=>t σ H (nv Q)
theorem fU (ha:PT X a tA):PW X (.BoolOp .And [a] pos) tA:=by
 intro wh pins s σ H Q I h
 refine isTrue_and (thn (ha pins s σ H Q I h) fun c s1 e=>?_)
 cases c with
 | true=>exact isTrue_and_nil e
 | false=>exact e
theorem jg (ha:PT X a tA):PW X (.BoolOp .Or [a] pos) tA:=by
 intro wh pins s σ H Q I h
 refine isTrue_or (thn (ha pins s σ H Q I h) fun c s1 e=>?_)
 cases c with
 | false=>exact isTrue_or_nil e
 | true=>exact e
theorem jh (ha:PT X a tA)(hb:PW X (.BoolOp .And (b::rest) pos) tB'):PW X (.BoolOp .And (a::b::rest) pos) (ze tA tB'):=by
 intro wh pins s σ H Q I h
 refine isTrue_and (thn (ha pins s σ H _ I h) fun c s1 zq7=>?_)
 obtain ⟨H1,I1,q1⟩:=zq7
 cases c with
 | true=>exact hb wh pins s1 σ H1 Q I1 q1
 | false=>exact ⟨H1,I1,q1⟩
theorem kh (ha:PT X a tA)(hb:PW X (.BoolOp .Or (b::rest) pos) tB'):PW X (.BoolOp .Or (a::b::rest) pos) (tOr tA tB'):=by
 intro wh pins s σ H Q I h
 refine isTrue_or (thn (ha pins s σ H _ I h) fun c s1 zq8=>?_)
 obtain ⟨H1,I1,q1⟩:=zq8
 cases c with
 | true=>exact ⟨H1,I1,q1⟩
 | false=>exact hb wh pins s1 σ H1 Q I1 q1
theorem kZ (ha:PT X a tA):PT X (.UnaryOp .Not a pos) (zf tA):=by
 intro pins s σ H Q I h
 exact isTrue_not (ha pins s σ H (fun c H1=>Q (!c) H1) I h)
def qx (tb:TE)(σ:St)(Q:VK):Bool→Hp→Prop:=fun c H1=>if c=true then tb σ H1 Q else Q (.bl false) H1
def qy (tb:TE)(σ:St)(Q:VK):V→Hp→Prop:=fun x H1=>IsB x H1 (qx tb σ Q)
def xy (ta tb:TE):TE:=fun σ H Q=>ta σ H (qy tb σ Q)
def tH (tb:TE)(σ:St)(Q:VK):Bool→Hp→Prop:=fun c H1=>if c=true then Q (.bl true) H1 else tb σ H1 Q
def tI (tb:TE)(σ:St)(Q:VK):V→Hp→Prop:=fun x H1=>IsB x H1 (tH tb σ Q)
def zg (ta tb:TE):TE:=fun σ H Q=>ta σ H (tI tb σ Q)
def qz (Q:VK):Bool→Hp→Prop:=fun c H1=>Q (.bl (!c)) H1
def qF (Q:VK):V→Hp→Prop:=fun x H1=>IsB x H1 (qz Q)
def xA (ta:TE):TE:=fun σ H Q=>ta σ H (qF Q)
theorem d2 {op}{t:TE}(h:PE X a t):PE X (.BoolOp op [a] pos) t:=fun pins s σ H Q I hw=>BoolOp_one (h pins s σ H Q I hw)
theorem fV (ha:PE X a ta)(hb:PE X (.BoolOp .And (b::rest) pos) tb):PE X (.BoolOp .And (a::b::rest) pos) (xy ta tb):=by
 intro pins s σ H Q I h
 refine BoolOp_and (thn (ha pins s σ H _ I h) fun v s1 zq9=>?_)
 obtain ⟨x,H1,I1,r1,q1⟩:=zq9
 obtain ⟨c,rfl,q1⟩:=q1
 cases r1
 refine wpAny_truthy_bool ?_
 cases c with
 | true=>exact hb pins s1 σ H1 Q I1 q1
 | false=>exact ⟨.bl false,H1,I1,rfl,q1⟩
theorem vB (ha:PE X a ta)(hb:PE X (.BoolOp .Or (b::rest) pos) tb):PE X (.BoolOp .Or (a::b::rest) pos) (zg ta tb):=by
 intro pins s σ H Q I h
 refine BoolOp_or (thn (ha pins s σ H _ I h) fun v s1 zq10=>?_)
 obtain ⟨x,H1,I1,r1,q1⟩:=zq10
 obtain ⟨c,rfl,q1⟩:=q1
 cases r1
 refine wpAny_truthy_bool ?_
 cases c with
 | false=>exact hb pins s1 σ H1 Q I1 q1
 | true=>exact ⟨.bl true,H1,I1,rfl,q1⟩
theorem vC (ha:PE X a ta):PE X (.UnaryOp .Not a pos) (xA ta):=by
 intro pins s σ H Q I h
 refine UnaryOp_ (thn (ha pins s σ H _ I h) fun v s1 zq11=>?_)
 obtain ⟨x,H1,I1,r1,q1⟩:=zq11
 obtain ⟨c,rfl,q1⟩:=q1
 cases r1
 exact not_of (wpAny_truthy_bool ⟨.bl (!c),H1,I1,rfl,q1⟩)
def ny (ta:TE)(tb:TE)(σ:St)(Q:VK):Bool→Hp→Prop:=fun c H1=>if c=true then ta σ H1 Q else tb σ H1 Q
def tIf (t:TT)(ta tb:TE):TE:=fun σ H Q=>t σ H (ny ta tb σ Q)
theorem bI {c:Expr}(hc:PT X c tA)(ha:PE X a ta)(hb:PE X b tb):PE X (.IfExp c a b pos) (tIf tA ta tb):=by
 intro pins s σ H Q I h
 refine wpAny_IfExp (thn (hc pins s σ H _ I h) fun d s1 zq12=>?_)
 obtain ⟨H1,I1,q1⟩:=zq12
 cases d with
 | true=>exact ha pins s1 σ H1 Q I1 q1
 | false=>exact hb pins s1 σ H1 Q I1 q1
end
def SqL (K:PySem.W.Frag)(H:Hp)(a:Addr)(xs:List V):Prop :=
 Rd H a (.lst xs) ∨
  ∃ (o:Obj) (its:Array Value) (n:Nat),K.lookup a=some o∧o.cls = .type "list"∧o.dict=none∧o.data = .seq its n∧its.size≤sizeLine∧bu xs its.toList
def SqT (K:PySem.W.Frag)(H:Hp)(a:Addr)(xs:List V):Prop :=
 Rd H a (.tup xs) ∨
  ∃ (o:Obj) (its:Array Value) (n:Nat),K.lookup a=some o∧o.cls = .type "tuple"∧o.data = .seq its n∧its.size≤sizeLine∧bu xs its.toList
def zh:Value→Option V
 | .none=>some .non
 | .bool b=>some (.bl b)
 | .int i _=>some (.int i)
 | .str x _=>some (.str x)
 | .bytes b _=>some (.byt b)
 | .float b _=>some (.flt b)
 | .ref a=>some (.ref a)
 | .type n=>some (.ty n)
 | _=>none
theorem bC.abs {x:V}{u:Value}(r:bC x u):zh u=some x:=by
 cases x with
 | non=>cases r;rfl
 | bl _=>cases r;rfl
 | int _=>obtain ⟨t,rfl⟩:=r;rfl
 | str _=>obtain ⟨t,rfl⟩:=r;rfl
 | byt _=>obtain ⟨t,rfl⟩:=r;rfl
 | flt _=>obtain ⟨t,rfl⟩:=r;rfl
 | ref _=>cases r;rfl
 | ty _=>cases r;rfl
theorem bC.inj {x y:V}{u:Value}(r:bC x u)(q:bC y u):x=y:=Option.some.inj (r.abs.symm.trans q.abs)
theorem bu.inj:∀ {xs ys:List V} {us:List Value},bu xs us→bu ys us→xs=ys
 | _,_,_,.nil,.nil=>rfl
 | _,_,_,.cons r t,.cons r' t'=>by rw [r.inj r',bu.inj t t']
section
variable {X:Cx} {pins:List (Addr × Obj)} {σ:St} {H:Hp} {s:Shared} {a:Addr} {xs ys:List V}
theorem SqL.of {K:PySem.W.Frag}(h:H a=some (.lst xs)):SqL K H a xs:=.inl (.inl h)
theorem SqT.of {K:PySem.W.Frag}(h:H a=some (.tup xs)):SqT K H a xs:=.inl (.inl h)
theorem Inv.list (I:Inv X pins σ H s)(h:SqL X.K H a xs):∃ its:List Value,bu xs its∧PlainL s.heap a its.toArray∧xs.length≤sizeLine:=by
 rcases h with h | ⟨o,its,n,hk,hc,hd,hs,hz,r⟩
 ·obtain ⟨z,its,n,r,e⟩:=h.ok I.hok
  exact ⟨its,r,⟨_,n,e,rfl,rfl,rfl⟩,z⟩
 ·refine ⟨its.toList,r,⟨o,n,I.kIn a o hk,hc,hd,by simpa using hs⟩,?_⟩
  have e:=r.length
  simp only [Array.length_toList] at e
  omega
theorem Inv.tuple (I:Inv X pins σ H s)(h:SqT X.K H a xs):∃ its:List Value,bu xs its∧IsTup s.heap a its.toArray∧xs.length≤sizeLine:=by
 rcases h with h | ⟨o,its,n,hk,hc,hs,hz,r⟩
 ·obtain ⟨z,its,r,p,_⟩:=h.ok I.hok
  exact ⟨its,r,p,z⟩
 ·refine ⟨its.toList,r,⟨o,I.kIn a o hk,hc,n,by simpa using hs⟩,?_⟩
  have e:=r.length
  simp only [Array.length_toList] at e
  omega
theorem Inv.list_inj (I:Inv X pins σ H s)(h:SqL X.K H a xs)(h':SqL X.K H a ys):xs=ys:=by
 obtain ⟨its,r,⟨o,n,e,_,_,d⟩,_⟩:=I.list h
 obtain ⟨its',r',⟨o',n',e',_,_,d'⟩,_⟩:=I.list h'
 rw [e] at e';cases e'
 rw [d] at d'
 injection d' with d1 _
 have:its=its':=by simpa using congrArg Array.toList d1
 subst this
 exact r.inj r'
theorem Inv.tuple_inj (I:Inv X pins σ H s)(h:SqT X.K H a xs)(h':SqT X.K H a ys):xs=ys:=by
 obtain ⟨its,r,⟨o,e,_,n,d⟩,_⟩:=I.tuple h
 obtain ⟨its',r',⟨o',e',_,n',d'⟩,_⟩:=I.tuple h'
 rw [e] at e';cases e'
 rw [d] at d'
 injection d' with d1 _
 have:its=its':=by simpa using congrArg Array.toList d1
 subst this
 exact r.inj r'
end
abbrev Cx.wish (X:Cx)(E:Value→Shared→Prop):Cx:={ X with xe:=E }
abbrev Cx.nox (X:Cx):Cx:=X.wish fun _ _=>False
theorem Cx.Ok.wish {X:Cx}(ok:X.Ok)(E:Value→Shared→Prop):(X.wish E).Ok :=
 ⟨ok.mod,ok.kind,ok.glob,ok.blt,ok.above,ok.inj,ok.has,ok.cab,ok.hd,ok.frames,ok.stk,ok.exf,ok.bs,ok.bsz,ok.noex,ok.exfs,ok.funs,ok.frf⟩
theorem Cx.Ok.unwish {X:Cx}{E:Value→Shared→Prop}(ok:(X.wish E).Ok):X.Ok :=
 ⟨ok.mod,ok.kind,ok.glob,ok.blt,ok.above,ok.inj,ok.has,ok.cab,ok.hd,ok.frames,ok.stk,ok.exf,ok.bs,ok.bsz,ok.noex,ok.exfs,ok.funs,ok.frf⟩
section
variable {X:Cx} {pins:List (Addr × Obj)} {σ:St} {H:Hp} {s:Shared} {E:Value→Shared→Prop}
theorem Inv.wish (I:Inv X pins σ H s)(E:Value→Shared→Prop):Inv (X.wish E) pins σ H s:=⟨I.ok.wish E,I.os,I.bare,I.base,I.loc,I.cell,I.free,I.freeC,I.pin,I.hok,I.len⟩
theorem Inv.unwish (I:Inv (X.wish E) pins σ H s):Inv X pins σ H s:=⟨I.ok.unwish,I.os,I.bare,I.base,I.loc,I.cell,I.free,I.freeC,I.pin,I.hok,I.len⟩
theorem SP.unwish {D:gZ}{f:Flow}{s':Shared}(h:SP (X.wish E) pins D f s'):SP X pins D f s':=by
 cases f with
 | next=>obtain ⟨σ',H',I,q⟩:=h;exact ⟨σ',H',I.unwish,q⟩
 | brk=>obtain ⟨σ',H',I,q⟩:=h;exact ⟨σ',H',I.unwish,q⟩
 | cont=>obtain ⟨σ',H',I,q⟩:=h;exact ⟨σ',H',I.unwish,q⟩
 | ret u=>obtain ⟨v,σ',H',I,r,q⟩:=h;exact ⟨v,σ',H',I.unwish,r,q⟩
theorem PSs.nox {st:List Stmt}{t:TS}(h:PSs X.nox st t):PSs X st t:=fun pins s σ H D I hw =>
 wpAny_mono (h pins s σ H D (I.wish _) hw) (fun _ _ q=>q.unwish) fun _ _ z=>False.elim z
end
section
variable {X:Cx} {st:Stmt} {rest:List Stmt} {t u:TS} {e:Expr} {te:TE} {pos:Pos}
def vD:TS:=fun D σ H=>D.nx σ H
def yJ (t u:TS):TS:=fun D σ H=>t { D with nx:=u D } σ H
theorem aV:PSs X [] vD:=fun _ _ σ H _ I h=>wpAny_execs_nil ⟨σ,H,I,h⟩
theorem ag (h1:PS X st t)(h2:PSs X rest u):PSs X (st::rest) (yJ t u):=by
 intro pins s σ H D I h
 refine wpAny_execs_cons (thn (h1 pins s σ H { D with nx:=u D } I h) fun f s1 q=>?_)
 cases f with
 | next =>
  obtain ⟨σ',H',I',q⟩:=q
  exact h2 pins s1 σ' H' D I' q
 | ret v=>exact q
 | brk=>exact q
 | cont=>exact q
theorem ak (h1:PS X st t):PSs X [st] t:=by
 intro pins s σ H D I h
 refine wpAny_execs_cons (thn (h1 pins s σ H D I h) fun f s1 q=>?_)
 cases f with
 | next=>exact wpAny_execs_nil q
 | ret v=>exact q
 | brk=>exact q
 | cont=>exact q
theorem Inv.quiet {pins:List (Addr × Obj)}{σ:St}{H:Hp}{s:Shared}(I:Inv X pins σ H s):interactive X.env=false:=by simp [interactive,I.ok.kind]
def qG (D:gZ)(σ:St):V→Hp→Prop:=fun _ H1=>D.nx σ H1
def xB (te:TE):TS:=fun D σ H=>te σ H (qG D σ)
theorem cN (he:PE X e te)(hs:swapsWith e none pos.line X.env=pure false:=by rfl):PS X (.Expr e pos) (xB te):=by
 intro pins s σ H D I h
 exact wpAny_Expr_any (thn (he pins s σ H _ I h) fun v s1 zq15=>(by obtain ⟨x,H1,I1,r1,q1⟩:=zq15;exact ⟨σ,H1,I1,q1⟩)) I.quiet hs
def zi (te:TE):TS:=fun D σ H=>te σ H D.rt
theorem aN (he:PE X e te):PS X (.Return (some e) pos) (zi te):=by
 intro pins s σ H D I h
 exact wpAny_Return_some (thn (he pins s σ H _ I h) fun v s1 zq16=>(by obtain ⟨x,H1,I1,r1,q1⟩:=zq16;exact ⟨x,σ,H1,I1,r1,q1⟩))
def ki (t:TS)(u:TS)(D:gZ)(σ:St):Bool→Hp→Prop:=fun b H1=>if b=true then t D σ H1 else u D σ H1
def zj (c:TT)(t u:TS):TS:=fun D σ H=>c σ H (ki t u D σ)
theorem bw {c:Expr}{a b:List Stmt}{tc:TT}(hc:PT X c tc)(ha:PSs X a t)(hb:PSs X b u):PS X (.If c a b pos) (zj tc t u):=by
 intro pins s σ H D I h
 refine wpAny_If (thn (hc pins s σ H _ I h) fun d s1 zq17=>?_)
 obtain ⟨H1,I1,q1⟩:=zq17
 cases d with
 | true=>exact ha pins s1 σ H1 D I1 q1
 | false=>exact hb pins s1 σ H1 D I1 q1
end
abbrev TG:=V→St→Hp→(St→Hp→Prop)→Prop
abbrev TGs:=List V→St→Hp→(St→Hp→Prop)→Prop
def PG (X:Cx)(target:Expr)(t:TG):Prop :=
 ∀ (pins:List (Addr × Obj)) (s:Shared) (σ:St) (H:Hp) (v:V) (u:Value) (Q:St→Hp→Prop),Inv X pins σ H s→bC v u→t v σ H Q →
  wpAny (model X.prog X.w) X.A (assign target X.env u) (fun _ s'=>∃ σ' H',Inv X pins σ' H' s'∧Q σ' H') X.xe s
def PGs (X:Cx)(ts:List Expr)(t:TGs):Prop :=
 ∀ (pins:List (Addr × Obj)) (s:Shared) (σ:St) (H:Hp) (vs:List V) (us:List Value) (Q:St→Hp→Prop),Inv X pins σ H s→bu vs us→t vs σ H Q →
  wpAny (model X.prog X.w) X.A (assignInOrder ((assignEach ts X.env).map (·.2)) us) (fun _ s'=>∃ σ' H',Inv X pins σ' H' s'∧Q σ' H') X.xe s
abbrev TIp:=V→V→Hp→VK→Prop
def PIp (X:Cx)(op:Operator)(t:TIp):Prop :=
 ∀ (pins:List (Addr × Obj)) (s:Shared) (σ:St) (H:Hp) (x y:V) (v u:Value) (Q:VK),Inv X pins σ H s→bC x v→bC y u→t x y H Q →
  wpAny (model X.prog X.w) X.A (inplaceOp op v u) (EP X pins σ Q) X.xe s
section
variable {X:Cx} {pos:Pos}
def qH (i:Nat):TG:=fun v σ H Q=>Q (σ.set i (some v)) H
theorem aT {i:Nat}{x:Str}(hN:X.N.Nodup)(hi:X.N[i]? = some x)(hx:Loc X.env.scope x)(hf:X.fn x=true ∨ X.env.scope.names.lookup x=some .local:=by first | exact .inl rfl | exact .inr rfl | assumption):PG X (.Name x pos) (qH i):=by
 intro pins s σ H v u Q I r h
 exact wpAny_assign_Name (iB I hN hi hx r (fun s' I'=>⟨_,H,I',h⟩) hf)
def zk:TGs:=fun vs σ H Q=>vs=[]∧Q σ H
def xC (t:TG)(u:TGs):TGs:=fun vs σ H Q=>∃ v r,vs=v::r∧t v σ H fun σ' H'=>u r σ' H' Q
theorem nz:PGs X [] zk:=by
 intro pins s σ H vs us Q I r h
 obtain ⟨e,h⟩:=h
 subst e
 cases r
 exact assignInOrder_nil ⟨σ,H,I,h⟩
theorem fG {e:Expr}{es:List Expr}{t:TG}{u:TGs}(h1:PG X e t)(h2:PGs X es u)
  (hs:(assignEach (e::es) X.env).map (·.2)=assign e X.env::(assignEach es X.env).map (·.2):=by rfl):PGs X (e::es) (xC t u):=by
 intro pins s σ H vs us Q I r h
 obtain ⟨v,vr,e1,h⟩:=h
 subst e1
 cases r with
 | cons r rr =>
  rw [hs]
  refine assignInOrder_cons (thn (h1 pins s σ H _ _ _ I r h) fun _ s1 zq18=>?_)
  obtain ⟨σ1,H1,I1,q1⟩:=zq18
  exact h2 pins s1 σ1 H1 _ _ Q I1 rr q1
def yK (K:PySem.W.Frag)(n:Nat)(t:TGs):TG:=fun v σ H Q=>∃ a xs,v = .ref a∧SqT K H a xs∧xs.length=n∧t xs σ H Q
theorem sJ {es:List Expr}{k:Nat}{t:TGs}{n:Nat}(hc:X.calm=true)(h:PGs X es t)
  (hn:(assignEach es X.env).length=n:=by rfl) (hst:(assignEach es X.env).findIdx? (·.1)=none:=by rfl):PG X (.Tuple es k pos) (yK X.K n t):=by
 intro pins s σ H v u Q I r hw
 obtain ⟨a,xs,e1,hq,hl,hw⟩:=hw
 subst e1
 cases r
 obtain ⟨its,rv,ht,hz⟩:=I.tuple hq
 refine assign_Tuple_tuple (I.ok.hd hc) ht (by simp [hn,← hl,rv.length]) hst fun h' hx=>?_
 have I1:Inv X pins σ H { s with heap:=h' }:=I.kept (t':=s.toks) fun b o e=>hx b o (Nat.ne_of_lt (Heap.lt_size e)) e
 exact h pins _ σ H xs _ Q I1 (by simpa using rv) hw
def iC (g:TG)(D:gZ)(σ:St):V→Hp→Prop:=fun x H1=>g x σ H1 D.nx
def yL (te:TE)(g:TG):TS:=fun D σ H=>te σ H (iC g D σ)
theorem ay {i:Nat}{x:Str}{e:Expr}{te:TE}{pos':Pos}(hN:X.N.Nodup)(hi:X.N[i]? = some x)(hx:Loc X.env.scope x)(he:PE X e te)(hs:swapsWith e (some (.Name x pos')) pos.line X.env=pure false:=by rfl)(hf:X.fn x=true ∨ X.env.scope.names.lookup x=some .local:=by first | exact .inl rfl | exact .inr rfl | assumption) :
  PS X (.Assign [.Name x pos'] e pos) (yL te (qH i)):=by
 intro pins s σ H D I h
 refine wpAny_Assign_Name (thn (he pins s σ H _ I h) fun v s1 zq23=>?_) hs
 obtain ⟨y,H1,I1,r1,q1⟩:=zq23
 exact iB I1 hN hi hx r1 (fun s2 I2=>⟨_,H1,I2,q1⟩) hf
inductive yM (i:Nat)(te:TE)(ti:TIp)(D:gZ)(σ:St)(H:Hp):Prop
 | mk:∀ x,(σ[i]? = some (some x))→(te σ H fun y H1=>ti x y H1 fun z H2=>D.nx (σ.set i (some z)) H2)→yM i te ti D σ H
theorem vE {i:Nat}{x:Str}{e:Expr}{te:TE}{op:Operator}{ti:TIp}{pos':Pos}(hN:X.N.Nodup)(hi:X.N[i]? = some x)(hx:Loc X.env.scope x)(he:PE X e te)(ho:PIp X op ti)(hf:X.fn x=true ∨ X.env.scope.names.lookup x=some .local:=by first | exact .inl rfl | exact .inr rfl | assumption) :
  PS X (.AugAssign (.Name x pos') op e pos) (yM i te ti):=by
 intro pins s σ H D I h
 obtain ⟨v,e1,h⟩:=h
 obtain ⟨m,hn,hl⟩:=I.loc
 have vis:Vis X.env.scope x:=by rcases hx with k | k;exact .inl k;exact .inr (.inl k)
 obtain ⟨u,r,l⟩:=hl i x v hi e1 vis
 refine wpAny_AugAssign_Name ?_
 have go:wpAny (model X.prog X.w) X.A (eval e X.env) (fun w s₂=>wpAny (model X.prog X.w) X.A (inplaceOp op u w) (fun r s₃=>wpAny (model X.prog X.w) X.A (storeName X.env x r) (fun _=>SP X pins D .next) X.xe s₃) X.xe s₂) X.xe s:=by
  refine thn (he pins s σ H _ I h) fun w s1 zq25=>?_
  obtain ⟨y,H1,I1,r1,q1⟩:=zq25
  refine thn (ho pins s1 σ H1 v y u w _ I1 r r1 q1) fun z s2 zq26=>?_
  obtain ⟨zv,H2,I2,r2,q2⟩:=zq26
  exact iB I2 hN hi hx r2 (fun s3 I3=>⟨_,H2,I3,q2⟩) hf
 rcases l with ⟨hk,hm⟩ | ⟨hk,c,hc,hcell⟩
 ·exact wpAny_loadName_local I.ok.kind hk hn hm go
 ·rcases hk with hk | hk
  ·exact wpAny_loadName_cell I.ok.kind hk hc hcell go
  ·rcases hx with k | k
   ·have:X.env.scope.names.lookup x=some .free:=hk
    rw [k] at this;cases this
   ·have:X.env.scope.names.lookup x=some .free:=hk
    rw [k] at this;cases this
def ipI (f:Int→Int→Int):TIp:=fun x y H Q=>∃ i j,x = .int i∧y = .int j∧Q (.int (f i j)) H
theorem vF:PIp X .Add (ipI fun i j=>i+j):=by
 intro pins s σ H x y v u Q I r1 r2 h
 obtain ⟨i,j,e1,e2,q⟩:=h
 subst e1;subst e2
 obtain ⟨t,rfl⟩:=r1
 obtain ⟨t',rfl⟩:=r2
 exact iadd_int ⟨.int _,H,I.tok _,⟨_,rfl⟩,q⟩
def sL (c:TT)(tb:TS):TS:=fun D σ H=>∃ W:Nat→St→Hp→Prop,(∃ m,W m σ H)∧∀ m σ H,W m σ H →
 c σ H fun b H1=>if b=true then ∃ N:St→Hp→Prop,(∀ σ' H',N σ' H'→∃ m',m' < m∧W m' σ' H')∧tb { D with nx:=N,ct:=N,bk:=D.nx } σ H1 else D.nx σ H1
theorem fH {c:Expr}{body:List Stmt}{tc:TT}{tb:TS}(hp:PassesOwn (model X.prog X.w) X.A X.env X.xe)(hc:PT X c tc)(hb:PSs X body tb):PS X (.While c body [] pos) (sL tc tb):=by
 intro pins s σ H D I h
 obtain ⟨W,⟨m0,w0⟩,turn⟩:=h
 refine wpAny_While (codeAny_whileLoop (fun n s'=>∃ σ' H',Inv X pins σ' H' s'∧W n σ' H') ?_ m0 ⟨σ,H,I,w0⟩)
 rintro n s1 ⟨σ1,H1,I1,w1⟩
 refine wpAny_passesOwn hp (thn (hc pins s1 σ1 H1 _ I1 (turn n σ1 H1 w1)) fun b s2 zq33=>?_)
 obtain ⟨H2,I2,q2⟩:=zq33
 cases b with
 | true =>
  obtain ⟨N,hN,q2⟩:=q2
  rw [if_pos rfl]
  refine wpAny_passesOwn hp (thn (hb pins s2 σ1 H2 _ I2 q2) fun f s3 q3=>?_)
  cases f with
  | next =>
   obtain ⟨σ3,H3,I3,n3⟩:=q3
   obtain ⟨m',hm,w3⟩:=hN σ3 H3 n3
   exact ⟨m',hm,σ3,H3,I3,w3⟩
  | cont =>
   obtain ⟨σ3,H3,I3,n3⟩:=q3
   obtain ⟨m',hm,w3⟩:=hN σ3 H3 n3
   exact ⟨m',hm,σ3,H3,I3,w3⟩
  | brk=>exact q3
  | ret v=>exact q3
 | false =>
  rw [if_neg Bool.false_ne_true]
  exact wpAny_execs_nil ⟨σ1,H2,I2,q2⟩
end
structure It where
 go:Nat→Hp→Prop
 yld:Nat→Hp→V→Hp→Prop
 stop:Nat→Hp→Prop
def k_ (X:Cx)(pins:List (Addr × Obj))(H:Hp)(b:Addr):Prop :=
 H b=none∧b≠X.env.locals∧b∉X.fs∧(b∈X.ex ∨ X.s₀.heap.objs.size≤b)∧(∀ x c,X.env.cells.lookup x=some c→c≠b)∧∀ p∈X.pn++pins,p.1≠b
theorem Inv.fpOk {X:Cx}{pins:List (Addr × Obj)}{σ:St}{H H':Hp}{s:Shared}{b:Addr}(I:Inv X pins σ H s)(hb:s.heap.objs.size≤b)(hn:H' b=none):k_ X pins H' b:=by
 refine ⟨hn,Nat.ne_of_gt (Nat.lt_of_lt_of_le I.lt hb),I.nofs hb,.inr (Nat.le_trans I.sz hb),fun x c e z=>?_,fun p hp z=>?_⟩
 ·obtain ⟨v,q⟩:=I.cell x c e
  exact absurd (Nat.lt_of_lt_of_le q.lt (by rw [z];exact hb)) (Nat.lt_irrefl _)
 ·exact absurd (Nat.lt_of_lt_of_le (Heap.lt_size (I.pin p hp).1) (by rw [z];exact hb)) (Nat.lt_irrefl _)
structure sM (P:Program) (w:World) (K:PySem.W.Frag) (tg:Expr) (J:It) (fp:List Addr) (it:Addr) (tn:Nat→Heap→Prop):Prop where
 mem:it∈fp
 obj:∀ i h,tn i h→∀ b∈fp,∃ o,h.get? b=some o∧∀ v,o.data ≠ .cell v
 keep:∀ i h h',tn i h→(∀ b∈fp,∀ o,h.get? b=some o→h'.get? b=some o)→tn i h'
 item:∀ (X:Cx),X.prog=P→X.w=w→X.K=K→X.calm=true→∀ (i:Nat) (pins:List (Addr × Obj)) (s:Shared) (σ:St) (H:Hp) (E:Value→Shared→Prop),Inv X pins σ H s→(∀ b∈fp,k_ X pins H b)→tn i s.heap→J.go i H →
  wpAny (model P w) X.A (pyNext (.ref it)) (fun r s1=>∃ u,r=some u ∧
   wpAny (model P w) X.A (letOwnedTupleGo tg (.ref it) u) (fun _ s2=>∃ x H',Inv X pins σ H' s2∧bC x u∧J.yld i H x H'∧tn (i+1) s2.heap∧∀ b∈fp,H' b=none) E s1) E s
 done:∀ (X:Cx),X.prog=P→X.w=w→X.K=K→X.calm=true→∀ (i:Nat) (pins:List (Addr × Obj)) (s:Shared) (σ:St) (H:Hp) (E:Value→Shared→Prop),Inv X pins σ H s→(∀ b∈fp,k_ X pins H b)→tn i s.heap→J.stop i H →
  wpAny (model P w) X.A (pyNext (.ref it)) (fun r s1=>r=none∧Inv X pins σ H s1) E s
 self:∀ (A:Around) (i:Nat) (s:Shared) (Q:Value→Shared→Prop) (E:Value→Shared→Prop),tn i s.heap→Q (.ref it) s→wpAny (model P w) A (pyIter (.ref it)) Q E s
abbrev TI:=St→Hp→(It→Hp→Prop)→Prop
def PIE (X:Cx)(pins:List (Addr × Obj))(σ:St)(tg:Expr)(R:It→Hp→Prop)(itv:Value)(s2:Shared):Prop :=
 ∃ (it:Addr) (fp:List Addr) (tn:Nat→Heap→Prop) (J:It) (H':Hp),itv = .ref it∧Inv X pins σ H' s2∧sM X.prog X.w X.K tg J fp it tn∧tn 0 s2.heap∧(∀ b∈fp,k_ X pins H' b)∧R J H'
def PI (X:Cx)(tg iter:Expr)(wi:TI):Prop :=
 ∀ (pins:List (Addr × Obj)) (s:Shared) (σ:St) (H:Hp) (R:It→Hp→Prop),Inv X pins σ H s→wi σ H R →
  wpAny (model X.prog X.w) X.A (eval iter X.env) (fun v s1=>wpAny (model X.prog X.w) X.A (pyIter v) (PIE X pins σ tg R) X.xe s1) X.xe s
theorem qI {M:Model}{A:Around}{E:Value→Shared→Prop}{s:Shared}{tg:Expr}{it:Addr}{u:Value}{o:Obj}{n:String}{vs:Array Value}{Q:Unit→Shared→Prop}(ho:s.heap.get? it=some o)(hc:o.cls = .type n)(hd:o.data = .fields vs)
  (hn:["enumerate","zip","dict_itemiterator","dict_reverseitemiterator","odict_iterator","itertools.zip_longest","itertools.pairwise"].contains n=false) (hQ:Q () s):wpAny M A (letOwnedTupleGo tg (.ref it) u) Q E s:=by
 unfold letOwnedTupleGo
 cases tg <;> first
  | exact wpAny_pure hQ
  | (cases u <;> first
    | exact wpAny_pure hQ
    | (
      refine wpAny_bind (wpAny_load ho ?_)
      rw [hc,hd]
      show wpAny M A (if (["enumerate","zip","dict_itemiterator","dict_reverseitemiterator","odict_iterator","itertools.zip_longest","itertools.pairwise"].contains n && vs[0]? == some (rawInt _))=true then _ else _) Q E s
      rw [if_neg (by intro h;rw [hn,Bool.false_and] at h;cases h)]
      exact wpAny_pure hQ))
def Itl (K:PySem.W.Frag)(a:Addr):It :=
 ⟨fun i H=>∃ xs x,SqL K H a xs∧xs[i]? = some x,fun i H x H'=>H'=H∧∀ xs,SqL K H a xs→xs[i]? = some x,fun i H=>∃ xs,SqL K H a xs∧xs.length≤i⟩
def Itt (K:PySem.W.Frag)(a:Addr):It :=
 ⟨fun i H=>∃ xs x,SqT K H a xs∧xs[i]? = some x,fun i H x H'=>H'=H∧∀ xs,SqT K H a xs→xs[i]? = some x,fun i H=>∃ xs,SqT K H a xs∧xs.length≤i⟩
def Itr (lo:Int)(n:Nat):It:=⟨fun i _=>i < n,fun i H x H'=>H'=H∧x = .int (lo+i),fun i _=>n≤i⟩
theorem ji {P:Program}{w:World}{K:PySem.W.Frag}{tg:Expr}(a it:Addr):sM P w K tg (Itl K a) [it] it (fun i h=>h.IsListIter it a i) where
 mem:=by simp
 obj:=fun i h st b hb=>by
  have e:b=it:=by simpa using hb
  subst e
  obtain ⟨o,e,c,d⟩:=st
  exact ⟨o,e,fun v z=>by rw [d] at z;cases z⟩
 keep:=fun i h h' st k=>st.at fun o e=>k it (by simp) o e
 item:=by
  intro X hP hw hK hc i pins s σ H E I hf st hg
  subst hP hw hK
  obtain ⟨xs,x,hq,hx⟩:=hg
  obtain ⟨its,rv,p,hz⟩:=I.list hq
  obtain ⟨u,hu,ru⟩:=rv.get hx
  obtain ⟨f0,f1,f2,f3,f4,f5⟩:=hf it (by simp)
  refine wpAny_pyNext_list_item st p.isList (x:=u) (by simpa using hu) fun h' st' sb=>?_
  have I1:Inv X pins σ H { s with heap:=h' }:=I.turned (t':=s.toks) (fun b o hb e=>(sb.2 b hb).trans e) f0 f1 f3 f4 f5
  obtain ⟨o,e,c,d⟩:=id st'
  exact ⟨u,rfl,qI (s:={ s with heap:=h' }) e c d (by decide) ⟨x,H,I1,ru,⟨rfl,fun ys hy=>by rw [I.list_inj hy hq];exact hx⟩,st',fun b hb=>(hf b hb).1⟩⟩
 done:=by
  intro X hP hw hK hc i pins s σ H E I hf st hg
  subst hP hw hK
  obtain ⟨xs,hq,hx⟩:=hg
  obtain ⟨its,rv,p,hz⟩:=I.list hq
  obtain ⟨f0,f1,f2,f3,f4,f5⟩:=hf it (by simp)
  have hl:=rv.length
  exact wpAny_pyNext_list_end (I.ok.hd hc) st p.isList (by simp;omega) fun h' eb=>⟨rfl,I.turned (t':=s.toks) (fun b o hb e=>eb b o hb e) f0 f1 f3 f4 f5⟩
 self:=fun _ _ _ _ _ st h=>wpAny_pyIter_listiter st h
theorem g_ {P:Program}{w:World}{K:PySem.W.Frag}{tg:Expr}(a it:Addr):sM P w K tg (Itt K a) [it] it (fun i h=>h.IsTupleIter it a i) where
 mem:=by simp
 obj:=fun i h st b hb=>by
  have e:b=it:=by simpa using hb
  subst e
  obtain ⟨o,e,c,d⟩:=st
  exact ⟨o,e,fun v z=>by rw [d] at z;cases z⟩
 keep:=fun i h h' st k=>st.at fun o e=>k it (by simp) o e
 item:=by
  intro X hP hw hK hc i pins s σ H E I hf st hg
  subst hP hw hK
  obtain ⟨xs,x,hq,hx⟩:=hg
  obtain ⟨its,rv,p,hz⟩:=I.tuple hq
  obtain ⟨u,hu,ru⟩:=rv.get hx
  obtain ⟨f0,f1,f2,f3,f4,f5⟩:=hf it (by simp)
  refine wpAny_pyNext_tuple_item st (show s.heap.IsTuple a its.toArray from p) (x:=u) (by simpa using hu) fun h' st' sb=>?_
  have I1:Inv X pins σ H { s with heap:=h' }:=I.turned (t':=s.toks) (fun b o hb e=>(sb.2 b hb).trans e) f0 f1 f3 f4 f5
  obtain ⟨o,e,c,d⟩:=id st'
  exact ⟨u,rfl,qI (s:={ s with heap:=h' }) e c d (by decide) ⟨x,H,I1,ru,⟨rfl,fun ys hy=>by rw [I.tuple_inj hy hq];exact hx⟩,st',fun b hb=>(hf b hb).1⟩⟩
 done:=by
  intro X hP hw hK hc i pins s σ H E I hf st hg
  subst hP hw hK
  obtain ⟨xs,hq,hx⟩:=hg
  obtain ⟨its,rv,p,hz⟩:=I.tuple hq
  obtain ⟨f0,f1,f2,f3,f4,f5⟩:=hf it (by simp)
  have hl:=rv.length
  exact wpAny_pyNext_tuple_end (I.ok.hd hc) st (show s.heap.IsTuple a its.toArray from p) (by simp;omega) fun h' eb=>⟨rfl,I.turned (t':=s.toks) (fun b o hb e=>eb b o hb e) f0 f1 f3 f4 f5⟩
 self:=fun _ _ _ _ _ st h=>wpAny_pyIter_tupleiter st h
theorem mF {P:Program}{w:World}{K:PySem.W.Frag}{tg:Expr}(it:Addr)(lo:Int)(n:Nat):sM P w K tg (Itr lo n) [it] it (fun i h=>IsRangeIter h it (lo+(i:Nat)*1) ((n:Int) - (i:Nat)) 1) where
 mem:=by simp
 obj:=fun i h st b hb=>by
  have e:b=it:=by simpa using hb
  subst e
  exact ⟨_,st,fun v z=>by
   have z':Data.fields _=Data.cell v:=z
   cases z'⟩
 keep:=fun i h h' st k=>k it (by simp) _ st
 item:=by
  intro X hP hw hK hc i pins s σ H E I hf st hg
  subst hP hw hK
  obtain ⟨f0,f1,f2,f3,f4,f5⟩:=hf it (by simp)
  have W:=Walks.range (prog:=X.prog) (w:=X.w) (I.ok.hd hc) it lo 1 n
  refine W.item i s _ _ hg st fun v h' tk hv st' kk=>?_
  obtain ⟨t,rfl⟩:=hv
  have I1:Inv X pins σ H { s with heap:=h',toks:=tk }:=I.turned (fun b o hb e=>kk b o (by simpa using hb) e) f0 f1 f3 f4 f5
  refine ⟨_,rfl,qI (s:={ s with heap:=h',toks:=tk }) (n:="range_iterator") st' rfl rfl (by decide) ⟨.int (lo+i),H,I1,⟨t,?_⟩,⟨rfl,rfl⟩,st',fun b hb=>(hf b hb).1⟩⟩
  rw [Int.mul_one]
 done:=by
  intro X hP hw hK hc i pins s σ H E I hf st hg
  subst hP hw hK
  obtain ⟨f0,f1,f2,f3,f4,f5⟩:=hf it (by simp)
  exact wpAny_pyNext_range_end (I.ok.hd hc) st (by have:n≤i:=hg;omega) fun h' eb=>⟨rfl,I.turned (t':=s.toks) (fun b o hb e=>eb b o hb e) f0 f1 f3 f4 f5⟩
 self:=fun _ _ _ _ _ st h=>wpAny_pyIter_rangeiter st h
section
variable {X:Cx} {tg:Expr}
def xD (K:PySem.W.Frag)(tl:TE):TI:=fun σ H R=>tl σ H fun x H1=>∃ a,x = .ref a∧(∃ xs,SqL K H1 a xs)∧R (Itl K a) H1
def zm (K:PySem.W.Frag)(tl:TE):TI:=fun σ H R=>tl σ H fun x H1=>∃ a,x = .ref a∧(∃ xs,SqT K H1 a xs)∧R (Itt K a) H1
theorem bU {l:Expr}{tl:TE}(hl:PE X l tl):PI X tg l (xD X.K tl):=by
 intro pins s σ H R I h
 refine thn (hl pins s σ H _ I h) fun v s1 zq34=>?_
 obtain ⟨x,H1,I1,r1,q1⟩:=zq34
 obtain ⟨a,e,⟨xs,hq⟩,q⟩:=q1
 subst e
 cases r1
 obtain ⟨its,rv,p,hz⟩:=I1.list hq
 refine wpAny_pyIter_list p.isList ?_
 refine ⟨s1.heap.objs.size,[s1.heap.objs.size],_,_,H1,rfl,I1.kept (t':=s1.toks) fun b o e=>Heap.get?_push_of_some _ e,ji a _,⟨_,Heap.get?_push_size _ rfl,rfl,rfl⟩,fun b hb=>?_,q⟩
 have e:b=s1.heap.objs.size:=by simpa using hb
 subst e
 exact I1.fpOk (Nat.le_refl _) (I1.hok.fresh (Nat.le_refl _))
theorem lj {l:Expr}{tl:TE}(hl:PE X l tl):PI X tg l (zm X.K tl):=by
 intro pins s σ H R I h
 refine thn (hl pins s σ H _ I h) fun v s1 zq35=>?_
 obtain ⟨x,H1,I1,r1,q1⟩:=zq35
 obtain ⟨a,e,⟨xs,hq⟩,q⟩:=q1
 subst e
 cases r1
 obtain ⟨its,rv,p,hz⟩:=I1.tuple hq
 refine wpAny_pyIter_tuple (show s1.heap.IsTuple a its.toArray from p) ?_
 refine ⟨s1.heap.objs.size,[s1.heap.objs.size],_,_,H1,rfl,I1.kept (t':=s1.toks) fun b o e=>Heap.get?_push_of_some _ e,g_ a _,⟨_,Heap.get?_push_size _ rfl,rfl,rfl⟩,fun b hb=>?_,q⟩
 have e:b=s1.heap.objs.size:=by simpa using hb
 subst e
 exact I1.fpOk (Nat.le_refl _) (I1.hok.fresh (Nat.le_refl _))
theorem qJ {pins:List (Addr × Obj)}{σ:St}{H:Hp}{s:Shared}{R:It→Hp→Prop}{E:Value→Shared→Prop}{lo hi:Int}{t u v:Tok}{tk:Nat}(I:Inv X pins σ H s)(h1:-(2 ^ 62)≤lo)(h2:lo < 2 ^ 62)(h3:-(2 ^ 62)≤hi)(h4:hi < 2 ^ 62)
  (q:R (Itr lo (hi - lo).toNat) H):wpAny (model X.prog X.w) X.A (pyIter (.ref s.heap.objs.size)) (PIE X pins σ tg R) E { s with heap:=s.heap.push { cls:=.type "range",data:=.fields #[.int lo t,.int hi u,.int 1 v] },toks:=tk }:=by
 refine wpAny_pyIter_range (IsRange.new ..) (small_one h1 h2 h3 h4) ?_
 have I1:Inv X pins σ H { s with heap:=s.heap.push { cls:=.type "range",data:=.fields #[.int lo t,.int hi u,.int 1 v] },toks:=tk }:=I.kept fun b o e=>Heap.get?_push_of_some _ e
 refine ⟨(s.heap.push { cls:=.type "range",data:=.fields #[.int lo t,.int hi u,.int 1 v] }).objs.size,[(s.heap.push { cls:=.type "range",data:=.fields #[.int lo t,.int hi u,.int 1 v] }).objs.size],_,_,H,rfl,
  I1.kept (t':=tk) fun b o e=>Heap.get?_push_of_some _ e,mF _ lo (hi - lo).toNat,?_,fun b hb=>?_,q⟩
 ·have e1:lo+((0:Nat):Int)*1=lo:=by simp
  have e2:(((hi - lo).toNat:Nat):Int) - ((0:Nat):Int)=Builtin.Range.rangeSize lo hi 1:=by rw [rangeSize_one];split <;> omega
  show IsRangeIter _ _ (lo+((0:Nat):Int)*1) ((((hi - lo).toNat:Nat):Int) - ((0:Nat):Int)) 1
  rw [e1,e2]
  exact Heap.get?_push_size _ rfl
 ·have e:b=(s.heap.push { cls:=.type "range",data:=.fields #[.int lo t,.int hi u,.int 1 v] }).objs.size:=by simpa using hb
  subst e
  exact I1.fpOk (Nat.le_refl _) (I1.hok.fresh (Nat.le_refl _))
def xE (ta:TA):TI:=fun σ H R=>ta σ H fun vs H1=>∃ j:Int,vs=[.int j]∧-(2 ^ 62)≤j∧j < 2 ^ 62∧R (Itr 0 j.toNat) H1
theorem bz {a:Expr}{ta:TA}{p pos:Pos}(hg:Gl X "range")(hm:X.mg "range" = none)(ha:PA X [a] ta)(hs:starEach [a] X.env=[(false,eval a X.env)]:=by rfl):PI X tg (.Call (.Name "range" p) [a] [] pos) (xE ta):=by
 intro pins s σ H R I h
 refine Call_ (ff I hg hm boot_range (PyProof.Rows.callWith_type1 (thn (ha pos pins s σ H _ I h) fun us s1 zq36=>?_) hs rfl))
 obtain ⟨vs,H1,I1,r1,q1⟩:=zq36
 obtain ⟨j,e,q1,q2,q⟩:=q1
 subst e
 cases r1 with
 | cons r rr =>
  cases rr
  obtain ⟨t,rfl⟩:=r
  exact call_range_1 (qJ I1 (by omega) (by omega) q1 q2 (by simpa using q))
def zo (wi:TI)(g:TG)(tb:TS):TS:=fun D σ H=>wi σ H fun J H1=>∃ W:Nat→Nat→St→Hp→Prop,(∃ m,W 0 m σ H1)∧∀ i m σ H,W i m σ H →
 (J.stop i H∧D.nx σ H) ∨ (J.go i H∧∃ N:St→Hp→Prop,(∀ σ' H',N σ' H'→∃ m',m' < m∧W (i+1) m' σ' H')∧∀ x H',J.yld i H x H'→g x σ H' fun σ2 H2=>tb { D with nx:=N,ct:=N,bk:=D.nx } σ2 H2)
def hG (fp:List Addr)(h:Heap):List (Addr × Obj):=fp.filterMap fun b=>(h.get? b).map fun o=>(b,o)
theorem cf {fp:List Addr}{h:Heap}{b:Addr}{o:Obj}(hb:b∈fp)(e:h.get? b=some o):(b,o)∈hG fp h:=List.mem_filterMap.mpr ⟨b,hb,by rw [e]; rfl⟩
theorem nA {fp:List Addr}{h:Heap}{p:Addr × Obj}(hp:p∈hG fp h):p.1∈fp∧h.get? p.1=some p.2:=by
 obtain ⟨b,hb,e⟩:=List.mem_filterMap.mp hp
 cases q:h.get? b with
 | none=>rw [q] at e;cases e
 | some o =>
  rw [q] at e
  have e':(b,o)=p:=Option.some.inj e
  subst e'
  exact ⟨hb,q⟩
theorem Inv.pinned {pins:List (Addr × Obj)}{σ:St}{H:Hp}{s:Shared}{fp:List Addr}(I:Inv X pins σ H s)(hf:∀ b∈fp,k_ X pins H b)(ho:∀ b∈fp,∃ o,s.heap.get? b=some o∧∀ v,o.data ≠ .cell v):Inv X (pins++hG fp s.heap) σ H s :=
 I.pins_of fun p hp=>(List.mem_append.mp hp).elim (fun z=>I.pin p (List.mem_append_right _ z)) fun z=>by
  obtain ⟨hb,e⟩:=nA z
  obtain ⟨f0,f1,f2,_⟩:=hf p.1 hb
  obtain ⟨o,e',d⟩:=ho p.1 hb
  rw [e] at e';cases e'
  exact ⟨e,f0,f1,f2,d⟩
theorem Inv.unpinned {pins pl:List (Addr × Obj)}{σ:St}{H:Hp}{s:Shared}(I:Inv X (pins++pl) σ H s):Inv X pins σ H s:=I.pins_of fun p hp=>I.pin p (List.mem_append_right _ (List.mem_append_left _ hp))
theorem bJ {iter:Expr}{body:List Stmt}{wi:TI}{g:TG}{tb:TS}{pos:Pos}(hp:PassesOwn (model X.prog X.w) X.A X.env X.xe)(hc:X.calm=true)(hi:PI X tg iter wi)(hg:PG X tg g)(hb:PSs X body tb)
  (hs:∀ x,foldedSetIterable iter X.env x=pure x:=by intro _;rfl):PS X (.For tg iter body [] pos) (zo wi g tb):=by
 intro pins s σ H D I h
 refine wpAny_For (thn (hi pins s σ H _ I h) fun v s1 h1=>thn h1 fun itv s2 h2=>?_) hs
 obtain ⟨it,fp,tn,J,H2,e,I2,T,st2,f2,W,⟨m0,w0⟩,turn⟩:=h2
 subst e
 -- what stays true of the iterator's objects through the loop
 have stat:∀ {H':Hp},(∀ b∈fp,H' b=none)→∀ b∈fp,k_ X pins H' b:=fun hn b hb=>⟨hn b hb,(f2 b hb).2⟩
 refine codeAny_forLoop_any (fun n s'=>∃ i σ' H',Inv X pins σ' H' s'∧tn i s'.heap∧(∀ b∈fp,H' b=none)∧W i n σ' H') ?_ m0 ⟨0,σ,H2,I2,st2,fun b hb=>(f2 b hb).1,w0⟩
 rintro n s3 ⟨i,σ3,H3,I3,st3,fr3,w3⟩
 rcases turn i n σ3 H3 w3 with ⟨stop,qn⟩ | ⟨go,N,hN,step⟩
 ·refine wpAny_passesOwn hp (thn (T.done X rfl rfl rfl hc i pins s3 σ3 H3 X.xe I3 (stat fr3) st3 stop) fun r s4 zq38=>?_)
  obtain ⟨hr,I4⟩:=zq38
  subst hr
  exact wpAny_execs_nil ⟨σ3,H3,I4,qn⟩
 ·refine wpAny_passesOwn hp (thn (T.item X rfl rfl rfl hc i pins s3 σ3 H3 X.xe I3 (stat fr3) st3 go) fun r s4 zq39=>?_)
  obtain ⟨u,hr,h4⟩:=zq39
  subst hr
  refine wpAny_passesOwn hp (thn h4 fun _ s5 zq40=>?_)
  obtain ⟨x,H5,I5,r5,y5,st5,fr5⟩:=zq40
  have I5':=I5.pinned (stat fr5) (T.obj _ _ st5)
  refine wpAny_passesOwn hp (thn (hg _ s5 σ3 H5 x u _ I5' r5 (step x H5 y5)) fun _ s6 zq41=>?_)
  obtain ⟨σ6,H6,I6,q6⟩:=zq41
  refine wpAny_passesOwn hp (thn (hb _ s6 σ6 H6 _ I6 q6) fun f s7 q7=>?_)
  have again:∀ {σ7:St} {H7:Hp},Inv X (pins++hG fp s5.heap) σ7 H7 s7→N σ7 H7→∃ m,m < n∧∃ i σ' H',Inv X pins σ' H' s7∧tn i s7.heap∧(∀ b∈fp,H' b=none)∧W i m σ' H':=fun {σ7 H7} I7 n7=>by
   obtain ⟨m',hm,w7⟩:=hN σ7 H7 n7
   refine ⟨m',hm,i+1,σ7,H7,I7.unpinned,T.keep _ _ _ st5 fun b hb o e=>(I7.pin (b,o) (List.mem_append_right _ (List.mem_append_right _ (cf hb e)))).1,fun b hb=>?_,w7⟩
   obtain ⟨o,e,d⟩:=T.obj _ _ st5 b hb
   exact (I7.pin (b,o) (List.mem_append_right _ (List.mem_append_right _ (cf hb e)))).2.1
  cases f with
  | next=>obtain ⟨σ7,H7,I7,n7⟩:=q7;exact again I7 n7
  | cont=>obtain ⟨σ7,H7,I7,n7⟩:=q7;exact again I7 n7
  | brk=>obtain ⟨σ7,H7,I7,q7⟩:=q7;exact ⟨σ7,H7,I7.unpinned,q7⟩
  | ret v=>obtain ⟨x7,σ7,H7,I7,r7,q7⟩:=q7;exact ⟨x7,σ7,H7,I7.unpinned,r7,q7⟩
end
theorem cy {K:PySem.W.Frag}{a:Addr}{xs:List V}{g:TG}{tb:TS}{D:gZ}{σ:St}{H:Hp}(Pv:Nat→St→Hp→Prop)(h0:Pv 0 σ H)(hl:∀ i σ H,i≤xs.length→Pv i σ H→SqL K H a xs)
  (hs:∀ i x σ H,xs[i]? = some x→Pv i σ H→g x σ H fun σ2 H2=>tb { D with nx:=Pv (i+1),ct:=Pv (i+1),bk:=D.nx } σ2 H2) (hd:∀ σ H,Pv xs.length σ H→D.nx σ H) :
  ∃ W:Nat→Nat→St→Hp→Prop,(∃ m,W 0 m σ H)∧∀ i m σ H,W i m σ H →
   ((Itl K a).stop i H∧D.nx σ H) ∨ ((Itl K a).go i H∧∃ N:St→Hp→Prop,(∀ σ' H',N σ' H'→∃ m',m' < m∧W (i+1) m' σ' H')∧∀ x H',(Itl K a).yld i H x H'→g x σ H' fun σ2 H2=>tb { D with nx:=N,ct:=N,bk:=D.nx } σ2 H2):=by
 refine ⟨fun i m σ H=>m=xs.length - i∧i≤xs.length∧Pv i σ H,⟨xs.length,by simp,Nat.zero_le _,h0⟩,?_⟩
 rintro i m σ H ⟨rfl,hi,p⟩
 have q:=hl i σ H hi p
 by_cases hlt:i < xs.length
 ·refine .inr ⟨⟨xs,xs[i],q,by simp [hlt]⟩,Pv (i+1),fun σ' H' p'=>⟨xs.length - (i+1),by omega,rfl,hlt,p'⟩,fun x H' y=>?_⟩
  obtain ⟨e,y⟩:=y
  subst e
  exact hs i x σ _ (y xs q) p
 ·have e:i=xs.length:=by omega
  subst e
  exact .inl ⟨⟨xs,q,Nat.le_refl _⟩,hd σ H p⟩
theorem eS {K:PySem.W.Frag}{a:Addr}{xs:List V}{g:TG}{tb:TS}{D:gZ}{σ:St}{H:Hp}(Pv:Nat→St→Hp→Prop)(h0:Pv 0 σ H)(hl:∀ i σ H,i≤xs.length→Pv i σ H→SqT K H a xs)
  (hs:∀ i x σ H,xs[i]? = some x→Pv i σ H→g x σ H fun σ2 H2=>tb { D with nx:=Pv (i+1),ct:=Pv (i+1),bk:=D.nx } σ2 H2) (hd:∀ σ H,Pv xs.length σ H→D.nx σ H) :
  ∃ W:Nat→Nat→St→Hp→Prop,(∃ m,W 0 m σ H)∧∀ i m σ H,W i m σ H →
   ((Itt K a).stop i H∧D.nx σ H) ∨ ((Itt K a).go i H∧∃ N:St→Hp→Prop,(∀ σ' H',N σ' H'→∃ m',m' < m∧W (i+1) m' σ' H')∧∀ x H',(Itt K a).yld i H x H'→g x σ H' fun σ2 H2=>tb { D with nx:=N,ct:=N,bk:=D.nx } σ2 H2):=by
 refine ⟨fun i m σ H=>m=xs.length - i∧i≤xs.length∧Pv i σ H,⟨xs.length,by simp,Nat.zero_le _,h0⟩,?_⟩
 rintro i m σ H ⟨rfl,hi,p⟩
 have q:=hl i σ H hi p
 by_cases hlt:i < xs.length
 ·refine .inr ⟨⟨xs,xs[i],q,by simp [hlt]⟩,Pv (i+1),fun σ' H' p'=>⟨xs.length - (i+1),by omega,rfl,hlt,p'⟩,fun x H' y=>?_⟩
  obtain ⟨e,y⟩:=y
  subst e
  exact hs i x σ _ (y xs q) p
 ·have e:i=xs.length:=by omega
  subst e
  exact .inl ⟨⟨xs,q,Nat.le_refl _⟩,hd σ H p⟩
theorem cG {lo:Int}{n:Nat}{g:TG}{tb:TS}{D:gZ}{σ:St}{H:Hp}(Pv:Nat→St→Hp→Prop)(h0:Pv 0 σ H)
  (hs:∀ i σ H,i < n→Pv i σ H→g (.int (lo+i)) σ H fun σ2 H2=>tb { D with nx:=Pv (i+1),ct:=Pv (i+1),bk:=D.nx } σ2 H2) (hd:∀ σ H,Pv n σ H→D.nx σ H) :
  ∃ W:Nat→Nat→St→Hp→Prop,(∃ m,W 0 m σ H)∧∀ i m σ H,W i m σ H →
   ((Itr lo n).stop i H∧D.nx σ H) ∨ ((Itr lo n).go i H∧∃ N:St→Hp→Prop,(∀ σ' H',N σ' H'→∃ m',m' < m∧W (i+1) m' σ' H')∧∀ x H',(Itr lo n).yld i H x H'→g x σ H' fun σ2 H2=>tb { D with nx:=N,ct:=N,bk:=D.nx } σ2 H2):=by
 refine ⟨fun i m σ H=>m=n - i∧i≤n∧Pv i σ H,⟨n,by simp,Nat.zero_le _,h0⟩,?_⟩
 rintro i m σ H ⟨rfl,hi,p⟩
 by_cases hlt:i < n
 ·refine .inr ⟨hlt,Pv (i+1),fun σ' H' p'=>⟨n - (i+1),by omega,rfl,hlt,p'⟩,fun x H' y=>?_⟩
  obtain ⟨e,y⟩:=y
  subst e y
  exact hs i σ _ hlt p
 ·have e:i=n:=by omega
  subst e
  exact .inl ⟨Nat.le_refl _,hd σ H p⟩
abbrev R2:=V→V→Hp→VK→Prop
def OpR (X:Cx)(f:Value→Value→Sem Value)(r:R2):Prop :=
 ∀ (pins:List (Addr × Obj)) (s:Shared) (σ:St) (H:Hp) (x y:V) (v u:Value) (Q:VK),Inv X pins σ H s→bC x v→bC y u→r x y H Q →
  wpAny (model X.prog X.w) X.A (f v u) (EP X pins σ Q) X.xe s
def cx (X:Cx)(f:Value)(r:List V→Hp→VK→Prop):Prop :=
 ∀ (pins:List (Addr × Obj)) (s:Shared) (σ:St) (H:Hp) (xs:List V) (us:List Value) (Q:VK),Inv X pins σ H s→bu xs us→r xs H Q →
  wpAny (model X.prog X.w) X.A (call f us) (EP X pins σ Q) X.xe s
def zp (X:Cx)(r:V→Hp→(Bool→Hp→Prop)→Prop):Prop :=
 ∀ (pins:List (Addr × Obj)) (s:Shared) (σ:St) (H:Hp) (x:V) (v:Value) (Q:Bool→Hp→Prop),Inv X pins σ H s→bC x v→r x H Q →
  wpAny (model X.prog X.w) X.A (truthy v) (TP X pins σ Q) X.xe s
def vG (r:R2)(Q:VK)(x:V):V→Hp→Prop:=fun y H2=>r x y H2 Q
def sN (r:R2)(tb:TE)(σ:St)(Q:VK):V→Hp→Prop:=fun x H1=>tb σ H1 (vG r Q x)
def tOp (r:R2)(ta tb:TE):TE:=fun σ H Q=>ta σ H (sN r tb σ Q)
inductive rI (C:Int→Int→Prop)(g:Int→Int→V)(x:V)(y:V)(H:Hp)(Q:VK):Prop
 | mk:∀ i j,(x = .int i)→(y = .int j)→(C i j)→(Q (g i j) H)→rI C g x y H Q
inductive rI0 (g:Int→Int→V)(x:V)(y:V)(H:Hp)(Q:VK):Prop
 | mk:∀ i j,(x = .int i)→(y = .int j)→(Q (g i j) H)→rI0 g x y H Q
section
variable {X:Cx} {a b c:Expr} {ta tb tc:TE} {pos:Pos}
theorem xF (ha:PE X a ta)(hb:PE X b tb){pins:List (Addr × Obj)}{s:Shared}{σ:St}{H:Hp}{R:V→V→Hp→Prop}(I:Inv X pins σ H s)
  (h:ta σ H fun x H1=>tb σ H1 fun y H2=>R x y H2) {Q:Value→Shared→Prop} {f:Value→Value→Sem Value}
  (hf:∀ v u s2 x y H2,Inv X pins σ H2 s2→bC x v→bC y u→R x y H2→wpAny (model X.prog X.w) X.A (f v u) Q X.xe s2) :
  wpAny (model X.prog X.w) X.A (eval a X.env) (fun v s₁=>wpAny (model X.prog X.w) X.A (eval b X.env) (fun u s₂=>wpAny (model X.prog X.w) X.A (f v u) Q X.xe s₂) X.xe s₁) X.xe s:=by
 refine thn (ha pins s σ H _ I h) fun v s1 zq42=>?_
 obtain ⟨x,H1,I1,r1,q1⟩:=zq42
 refine thn (hb pins s1 σ H1 _ I1 q1) fun u s2 zq43=>?_
 obtain ⟨y,H2,I2,r2,q2⟩:=zq43
 exact hf v u s2 x y H2 I2 r1 r2 q2
theorem ax {op:Operator}{r:R2}(ho:OpR X (binaryOp op) r)(ha:PE X a ta)(hb:PE X b tb):PE X (.BinOp a op b pos) (tOp r ta tb):=by
 intro pins s σ H Q I h
 exact wpAny_BinOp (xF ha hb I h fun v u s2 x y H2 I2 rx ry q=>ho pins s2 σ H2 x y v u Q I2 rx ry q)
theorem opI {f:Value→Value→Sem Value}{C:Int→Int→Prop}{g:Int→Int→Int}
  (rule:∀ (i j:Int) (t u:Tok) (s:Shared) (Q:Value→Shared→Prop) (E:Value→Shared→Prop),C i j→Q (.int (g i j) s.toks) { s with toks:=s.toks+1 }→wpAny (model X.prog X.w) X.A (f (.int i t) (.int j u)) Q E s) :
  OpR X f (rI C fun i j=>.int (g i j)):=by
 intro pins s σ H x y v u Q I rx ry h
 obtain ⟨i,j,rfl,rfl,hc,q⟩:=h
 obtain ⟨t,rfl⟩:=rx
 obtain ⟨t',rfl⟩:=ry
 exact rule i j t t' s _ _ hc ⟨.int (g i j),H,I.tok _,⟨_,rfl⟩,q⟩
theorem yN {f:Value→Value→Sem Value}{g:Int→Int→Int}
  (rule:∀ (i j:Int) (t u:Tok) (s:Shared) (Q:Value→Shared→Prop) (E:Value→Shared→Prop),Q (.int (g i j) s.toks) { s with toks:=s.toks+1 }→wpAny (model X.prog X.w) X.A (f (.int i t) (.int j u)) Q E s) :
  OpR X f (rI0 fun i j=>.int (g i j)):=by
 intro pins s σ H x y v u Q I rx ry h
 obtain ⟨i,j,rfl,rfl,q⟩:=h
 obtain ⟨t,rfl⟩:=rx
 obtain ⟨t',rfl⟩:=ry
 exact rule i j t t' s _ _ ⟨.int (g i j),H,I.tok _,⟨_,rfl⟩,q⟩
theorem xm {f:Value→Value→Sem Value}{g:Int→Int→Bool}
  (rule:∀ (i j:Int) (t u:Tok) (s:Shared) (Q:Value→Shared→Prop) (E:Value→Shared→Prop),Q (.bool (g i j)) s→wpAny (model X.prog X.w) X.A (f (.int i t) (.int j u)) Q E s) :
  OpR X f (rI0 fun i j=>.bl (g i j)):=by
 intro pins s σ H x y v u Q I rx ry h
 obtain ⟨i,j,rfl,rfl,q⟩:=h
 obtain ⟨t,rfl⟩:=rx
 obtain ⟨t',rfl⟩:=ry
 exact rule i j t t' s _ _ ⟨.bl (g i j),H,I,rfl,q⟩
def zq (i j:Int):Prop:=0 < j∧j < 1073741824
def zr (i j:Int):Prop:=0≤j∧j≤1000000∧i.natAbs < 2 ^ 64
def xG (i j:Int):Prop:=(-(2 ^ 64) < i∧i < 2 ^ 64) ∨ (-(2 ^ 64) < j∧j < 2 ^ 64)
theorem xG.ok {i j:Int}(h:xG i j):IntMulOk i j:=by
 rcases h with ⟨h1,h2⟩ | ⟨h1,h2⟩
 ·exact .of_left (intBits_le_64 h1 h2)
 ·exact .of_right (intBits_le_64 h1 h2)
theorem aQ:OpR X (binaryOp .Add) (rI0 fun i j=>.int (i+j)):=yN fun _ _ _ _ _ _ _ q=>add_int q
theorem fW:OpR X (binaryOp .Sub) (rI0 fun i j=>.int (i - j)):=yN fun _ _ _ _ _ _ _ q=>sub_int q
theorem fg:OpR X (binaryOp .Mult) (rI xG fun i j=>.int (i*j)):=opI fun _ _ _ _ _ _ _ hc q=>mul_int q hc.ok
theorem dh:OpR X (binaryOp .FloorDiv) (rI zq fun i j=>.int (i / j)):=opI fun i j _ _ _ _ _ hc q=>by
 have h1:(0:Int) < j:=hc.1
 have h2:j < 1073741824:=hc.2
 exact floordiv_int (by omega) (by rw [Int.fdiv_eq_ediv_of_nonneg i (by omega)];exact q) (.inl (PyProof.noPylong_small (by omega)))
theorem hJ:OpR X (binaryOp .Mod) (rI (fun _ j=>0 < j) fun i j=>.int (i % j)):=opI fun i j _ _ _ _ _ hc q=>by
 have h1:(0:Int) < j:=hc
 exact mod_int' (by omega) (by rw [Int.fmod_eq_emod_of_nonneg i (by omega)];exact q)
theorem vH:OpR X (binaryOp .Pow) (rI zr fun i j=>.int (i ^ j.toNat)):=opI fun _ _ _ _ _ _ _ hc q=>pow_int_small hc.1 hc.2.1 hc.2.2 q
end
def yO:V→V→Bool
 | .non,.non=>true | .non,.int _=>true | .int _,.non=>true | .non,.bl _=>true | .bl _,.non=>true | .non,.str _=>true | .str _,.non=>true
 | .int _,.int _=>true | .bl _,.bl _=>true | .str _,.str _=>true | .byt _,.byt _=>true
 | .int _,.str _=>true | .str _,.int _=>true | .bl _,.str _=>true | .str _,.bl _=>true
 | _,_=>false
def rEq:R2:=fun x y H Q=>yO x y=true∧Q (.bl (decide (x=y))) H
def rNe:R2:=fun x y H Q=>yO x y=true∧Q (.bl (!decide (x=y))) H
theorem nB {i j:Int}:decide (V.int i=V.int j)=(i == j):=by
 rw [Bool.eq_iff_iff]
 simp
theorem sO {i j:Bool}:decide (V.bl i=V.bl j)=(i == j):=by
 rw [Bool.eq_iff_iff]
 simp
theorem nC {i j:Str}:decide (V.str i=V.str j)=(i == j):=by
 rw [Bool.eq_iff_iff]
 simp
theorem nD {i j:Array UInt8}:decide (V.byt i=V.byt j)=(i.toList == j.toList):=by
 rw [Bool.eq_iff_iff]
 cases i
 cases j
 simp
section
variable {X:Cx} {a b c:Expr} {ta tb tc:TE} {pos:Pos}
theorem aZ {pins:List (Addr × Obj)}{σ:St}{H:Hp}{s:Shared}{Q:VK}{k k':Bool}(I:Inv X pins σ H s)(q:Q (.bl k) H)(e:k=k'):EP X pins σ Q (.bool k') s:=by
 subst e
 exact ⟨.bl k,H,I,rfl,q⟩
theorem bD:OpR X (compareOp .Eq) rEq:=by
 intro pins s σ H x y v u Q I rx ry h
 obtain ⟨hs,q⟩:=h
 cases x with
 | non =>
  cases rx
  cases y with
  | non=>cases ry;exact PySem.EqNone.eq_none_none (aZ I q (by simp))
  | bl j=>cases ry;exact PySem.EqNone.eq_none_bool (aZ I q (by simp))
  | int j=>obtain ⟨t',rfl⟩:=ry;exact PySem.EqNone.eq_none_int (aZ I q (by simp))
  | str j=>obtain ⟨t',rfl⟩:=ry;exact PySem.EqNone.eq_none_str (aZ I q (by simp))
  | _=>exact absurd (show false=true from hs) Bool.false_ne_true
 | bl i =>
  cases rx
  cases y with
  | non=>cases ry;exact PySem.EqNone.eq_bool_none (aZ I q (by simp))
  | bl j=>cases ry;exact eq_bool (aZ I q sO)
  | str j=>obtain ⟨t',rfl⟩:=ry;exact PySem.EqMixed.eq_bool_str (aZ I q (by simp))
  | _=>exact absurd (show false=true from hs) Bool.false_ne_true
 | int i =>
  obtain ⟨t,rfl⟩:=rx
  cases y with
  | non=>cases ry;exact PySem.EqNone.eq_int_none (aZ I q (by simp))
  | int j=>obtain ⟨t',rfl⟩:=ry;exact eq_int (aZ I q nB)
  | str j=>obtain ⟨t',rfl⟩:=ry;exact PySem.EqMixed.eq_int_str (aZ I q (by simp))
  | _=>exact absurd (show false=true from hs) Bool.false_ne_true
 | str i =>
  obtain ⟨t,rfl⟩:=rx
  cases y with
  | non=>cases ry;exact PySem.EqNone.eq_str_none (aZ I q (by simp))
  | bl j=>cases ry;exact PySem.EqMixed.eq_str_bool (aZ I q (by simp))
  | int j=>obtain ⟨t',rfl⟩:=ry;exact PySem.EqMixed.eq_str_int (aZ I q (by simp))
  | str j=>obtain ⟨t',rfl⟩:=ry;exact eq_str (aZ I q nC)
  | _=>exact absurd (show false=true from hs) Bool.false_ne_true
 | byt i =>
  obtain ⟨t,rfl⟩:=rx
  cases y with
  | byt j=>obtain ⟨t',rfl⟩:=ry;exact PySem.W.eq_bytes (aZ I q nD)
  | _=>exact absurd (show false=true from hs) Bool.false_ne_true
 | _=>cases y <;> exact absurd (show false=true from hs) Bool.false_ne_true
theorem fX:OpR X (compareOp .NotEq) rNe:=by
 intro pins s σ H x y v u Q I rx ry h
 obtain ⟨hs,q⟩:=h
 cases x with
 | non =>
  cases rx
  cases y with
  | non=>cases ry;exact PySem.EqNone.ne_none_none (aZ I q (by simp))
  | bl j=>cases ry;exact PySem.EqNone.ne_none_bool (aZ I q (by simp))
  | int j=>obtain ⟨t',rfl⟩:=ry;exact PySem.EqNone.ne_none_int (aZ I q (by simp))
  | str j=>obtain ⟨t',rfl⟩:=ry;exact PySem.EqNone.ne_none_str (aZ I q (by simp))
  | _=>exact absurd (show false=true from hs) Bool.false_ne_true
 | bl i =>
  cases rx
  cases y with
  | non=>cases ry;exact PySem.EqNone.ne_bool_none (aZ I q (by simp))
  | bl j=>cases ry;exact ne_bool (aZ I q (congrArg not sO))
  | str j=>obtain ⟨t',rfl⟩:=ry;exact PySem.EqMixed.ne_bool_str (aZ I q (by simp))
  | _=>exact absurd (show false=true from hs) Bool.false_ne_true
 | int i =>
  obtain ⟨t,rfl⟩:=rx
  cases y with
  | non=>cases ry;exact PySem.EqNone.ne_int_none (aZ I q (by simp))
  | int j=>obtain ⟨t',rfl⟩:=ry;exact ne_int (aZ I q (congrArg not nB))
  | str j=>obtain ⟨t',rfl⟩:=ry;exact PySem.EqMixed.ne_int_str (aZ I q (by simp))
  | _=>exact absurd (show false=true from hs) Bool.false_ne_true
 | str i =>
  obtain ⟨t,rfl⟩:=rx
  cases y with
  | non=>cases ry;exact PySem.EqNone.ne_str_none (aZ I q (by simp))
  | bl j=>cases ry;exact PySem.EqMixed.ne_str_bool (aZ I q (by simp))
  | int j=>obtain ⟨t',rfl⟩:=ry;exact PySem.EqMixed.ne_str_int (aZ I q (by simp))
  | str j=>obtain ⟨t',rfl⟩:=ry;exact ne_str (aZ I q (congrArg not nC))
  | _=>exact absurd (show false=true from hs) Bool.false_ne_true
 | byt i =>
  obtain ⟨t,rfl⟩:=rx
  cases y with
  | byt j=>obtain ⟨t',rfl⟩:=ry;exact PySem.W.ne_bytes (aZ I q (congrArg not nD))
  | _=>exact absurd (show false=true from hs) Bool.false_ne_true
 | _=>cases y <;> exact absurd (show false=true from hs) Bool.false_ne_true
theorem iD:OpR X (compareOp .Lt) (rI0 fun i j=>.bl (decide (i < j))):=xm fun _ _ _ _ _ _ _ q=>lt_int q
theorem tJ:OpR X (compareOp .LtE) (rI0 fun i j=>.bl (decide (i≤j))):=xm fun _ _ _ _ _ _ _ q=>le_int q
theorem kj:OpR X (compareOp .Gt) (rI0 fun i j=>.bl (decide (j < i))):=xm fun _ _ _ _ _ _ _ q=>gt_int q
theorem xH:OpR X (compareOp .GtE) (rI0 fun i j=>.bl (decide (j≤i))):=xm fun _ _ _ _ _ _ _ q=>ge_int q
inductive fY  (x:V)(y:V)(H:Hp)(Q:VK):Prop
 | mk:∀ i j,(x = .str i)→(y = .str j)→(Q (.bl (!(Builtin.Str.occurrences j i 0 j.length 1).isEmpty)) H)→fY x y H Q
theorem fZ:OpR X (compareOp .In) fY:=by
 intro pins s σ H x y v u Q I rx ry h
 obtain ⟨i,j,rfl,rfl,q⟩:=h
 obtain ⟨t,rfl⟩:=rx
 obtain ⟨t',rfl⟩:=ry
 exact in_str (aZ I q rfl)
theorem sP:OpR X (compareOp .Is) (fun x y H Q=>y = .non∧Q (.bl (decide (x = .non))) H):=by
 intro pins s σ H x y v u Q I rx ry h
 obtain ⟨rfl,q⟩:=h
 cases ry
 refine is_none_gen (aZ I q ?_)
 cases x <;> first
  | (cases rx;rfl)
  | (obtain ⟨t,rfl⟩:=rx;rfl)
theorem tK:OpR X (compareOp .IsNot) (fun x y H Q=>y = .non∧Q (.bl (!decide (x = .non))) H):=by
 intro pins s σ H x y v u Q I rx ry h
 obtain ⟨rfl,q⟩:=h
 cases ry
 refine isnot_none_gen (aZ I q ?_)
 cases x <;> first
  | (cases rx;rfl)
  | (obtain ⟨t,rfl⟩:=rx;rfl)
theorem aF (b:Expr){op:CmpOp}(h:op ≠ .In:=by decide)(h2:op ≠ .NotIn:=by decide):behindInMarks op b=false:=by
 have e1:(op == CmpOp.In)=false:=by cases op <;> first | rfl | exact absurd rfl h
 have e2:(op == CmpOp.NotIn)=false:=by cases op <;> first | rfl | exact absurd rfl h2
 cases b <;> simp [behindInMarks,e1,e2]
theorem bq {op:CmpOp}{r:R2}(ho:OpR X (compareOp op) r)(ha:PE X a ta)(hb:PE X b tb)(hm:behindInMarks op b=false):PE X (.Compare a [op] [b] pos) (tOp r ta tb):=by
 intro pins s σ H Q I h
 exact wpAny_Compare1 (xF ha hb I h fun v u s2 x y H2 I2 rx ry q=>ho pins s2 σ H2 x y v u Q I2 rx ry q) hm
def qK (Q:(Bool→Hp→Prop)):V→Hp→Prop:=fun x H'=>IsB x H' Q
def xI (t:TE):TT:=fun σ H Q=>t σ H (qK Q)
theorem aC {op:CmpOp}{r:R2}(ho:OpR X (compareOp op) r)(ha:PE X a ta)(hb:PE X b tb)(hm:behindInMarks op b=false):PT X (.Compare a [op] [b] pos) (xI (tOp r ta tb)):=by
 intro pins s σ H Q I h
 refine wpAny_isTrue_Compare1 (thn (ha pins s σ H _ I h) fun v s1 ⟨x,H1,I1,r1,q1⟩=>thn (hb pins s1 σ H1 _ I1 q1) fun u s2 ⟨y,H2,I2,r2,q2⟩ =>
  thn (ho pins s2 σ H2 x y v u _ I2 r1 r2 q2) fun c s3 ⟨z,H3,I3,r3,k,e,q3⟩=>?_) hm
 subst e
 cases r3
 exact wpAny_truthy_bool ⟨H3,I3,q3⟩
def zt (K:PySem.W.Frag)(x:V)(H:Hp)(k:Bool):Prop :=
 match x with
 | .non=>k=false
 | .bl b=>k=b
 | .int i=>k=(i != 0)
 | .str y=>y.length≤sizeLine∧k=((y.length:Int) != 0)
 | .byt y=>y.size≤sizeLine∧k=((y.size:Int) != 0)
 | .ref p=>(∃ xs,SqL K H p xs∧k=!xs.isEmpty) ∨ (∃ xs,SqT K H p xs∧k=!xs.isEmpty) ∨ ∃ kvs,H p=some (.dK kvs)∧k=!kvs.isEmpty
 | _=>False
theorem mG {κ:Type}{kvs:List (κ × V)}{vs:List (κ × Value)}(r:KV kvs vs):(!vs.isEmpty)=!kvs.isEmpty:=by
 cases r <;> rfl
theorem hX {xs:List V}{its:List Value}(r:bu xs its):(!its.toArray.isEmpty)=!xs.isEmpty:=by
 cases r <;> simp
theorem f_:(sizeLine:Nat) < 2 ^ 63:=by rw [sizeLine_eq]; decide
inductive tL (K:PySem.W.Frag)(x:V)(H:Hp)(Q:Bool→Hp→Prop):Prop
 | mk:∀ k,(zt K x H k)→(Q k H)→tL K x H Q
theorem vI:zp X (tL X.K):=by
 intro pins s σ H x v Q I rx h
 obtain ⟨k,e,q⟩:=h
 have hl:=f_
 have hs:sizeLine=16777216:=sizeLine_eq
 cases x with
 | non =>
  cases rx
  have e':k=false:=e
  subst e'
  exact truthy_none ⟨H,I,q⟩
 | bl b =>
  cases rx
  have e':k=b:=e
  subst e'
  exact wpAny_truthy_bool ⟨H,I,q⟩
 | int i =>
  obtain ⟨t,rfl⟩:=rx
  have e':k=(i != 0):=e
  subst e'
  exact PySem.P.truthy_int ⟨H,I,q⟩
 | str y =>
  obtain ⟨t,rfl⟩:=rx
  obtain ⟨hy,e'⟩:y.length≤sizeLine∧k=((y.length:Int) != 0):=e
  subst e'
  exact PySem.P.truthy_str (by omega) ⟨H,I.tok _,q⟩
 | byt y =>
  obtain ⟨t,rfl⟩:=rx
  obtain ⟨hy,e'⟩:y.size≤sizeLine∧k=((y.size:Int) != 0):=e
  subst e'
  exact PySem.W.truthy_bytes (by omega) ⟨H,I.tok _,q⟩
 | ref p =>
  cases rx
  have e':(∃ xs,SqL X.K H p xs∧k=!xs.isEmpty) ∨ (∃ xs,SqT X.K H p xs∧k=!xs.isEmpty) ∨ ∃ kvs,H p=some (.dK kvs)∧k=!kvs.isEmpty:=e
  rcases e' with ⟨xs,hx,e'⟩ | ⟨xs,hx,e'⟩ | ⟨kvs,hx,e'⟩
  ·subst e'
   obtain ⟨its,r,pl,hz⟩:=I.list hx
   have hlen:=r.length
   exact wpAny_truthy_list pl.isList (by simp only [List.size_toArray];omega) ⟨H,I.tok _,by rw [hX r];exact q⟩
  ·subst e'
   obtain ⟨its,r,pl,hz⟩:=I.tuple hx
   have hlen:=r.length
   exact truthy_tuple pl (by simp only [List.size_toArray];omega) ⟨H,I.tok _,by rw [hX r];exact q⟩
  ·subst e'
   obtain ⟨hz,hS,vs,r,m⟩:kvs.length≤sizeLine∧(p == sysModules)=false∧∃ vs,KV kvs vs∧s.heap.DictOf (bg X.prog X.w) p vs:=I.hok p _ hx
   have hlen:kvs.length=vs.length:=Paired.length r
   exact wpAny_truthy_dict hS m (by omega) ⟨H,I.tok _,by rw [mG r];exact q⟩
 | _=>exact (show False from e).elim
def tM (K:PySem.W.Frag)(Q:(Bool→Hp→Prop)):V→Hp→Prop:=fun x H'=>tL K x H' Q
def zu (K:PySem.W.Frag)(ta:TE):TT:=fun σ H Q=>ta σ H (tM K Q)
theorem cO (ha:PE X a ta)(he:∀ whole,isTrue a X.env whole=(do let v ← whole; standAt a.pos; holding [v] (truthy v))) :
  PT X a (zu X.K ta):=by
 intro pins s σ H Q I h
 exact isTrue_plain (thn (ha pins s σ H _ I h) fun v s1 zq47=>(by obtain ⟨x,H1,I1,r1,q1⟩:=zq47;exact vI pins s1 σ H1 x v Q I1 r1 q1)) (he _)
inductive fh  (x:V)(y:V)(H:Hp)(Q:VK):Prop
 | mk:∀ i j,(x = .str i)→(y = .str j)→(i.length+j.length≤sizeLine)→(Q (.str (i++j)) H)→fh x y H Q
theorem az:OpR X (binaryOp .Add) fh:=by
 intro pins s σ H x y v u Q I rx ry h
 obtain ⟨i,j,rfl,rfl,hz,q⟩:=h
 obtain ⟨t,rfl⟩:=rx
 obtain ⟨t',rfl⟩:=ry
 exact add_str (fun t' tk=>⟨.str (i++j),H,I.tok _,⟨_,rfl⟩,q⟩) hz
theorem cP {x:V}{us:List Value}(r:bu [x] us):∃ u,us=[u]∧bC x u:=by
 cases r with
 | cons r1 r2=>cases r2;exact ⟨_,rfl,r1⟩
theorem nE {x y:V}{us:List Value}(r:bu [x,y] us):∃ u w',us=[u,w']∧bC x u∧bC y w':=by
 cases r with
 | cons r1 r2 =>
  cases r2 with
  | cons r3 r4=>cases r4;exact ⟨_,_,rfl,r1,r3⟩
inductive gc  (xs:List V)(H:Hp)(Q:VK):Prop
 | mk:∀ i j,(xs=[.int i,.int j])→(Q (.int (if j > i then j else i)) H)→gc xs H Q
theorem jj (hc:X.calm=true):cx X (.builtin "max") gc:=by
 intro pins s σ H xs us Q I r h
 obtain ⟨i,j,rfl,q⟩:=h
 obtain ⟨u,w',rfl,⟨t,rfl⟩,⟨t',rfl⟩⟩:=nE r
 refine max_two_ints (I.ok.hd hc) fun h' tk k=>⟨_,H,I.kept k,?_,q⟩
 by_cases hj:j > i
 ·rw [if_pos hj,if_pos hj];exact ⟨_,rfl⟩
 ·rw [if_neg hj,if_neg hj];exact ⟨_,rfl⟩
inductive gf  (xs:List V)(H:Hp)(Q:VK):Prop
 | mk:∀ i j,(xs=[.int i,.int j])→(Q (.int (if j < i then j else i)) H)→gf xs H Q
theorem nF (hc:X.calm=true):cx X (.builtin "min") gf:=by
 intro pins s σ H xs us Q I r h
 obtain ⟨i,j,rfl,q⟩:=h
 obtain ⟨u,w',rfl,⟨t,rfl⟩,⟨t',rfl⟩⟩:=nE r
 refine min_two_ints (I.ok.hd hc) fun h' tk k=>⟨_,H,I.kept k,?_,q⟩
 by_cases hj:j < i
 ·rw [if_pos hj,if_pos hj];exact ⟨_,rfl⟩
 ·rw [if_neg hj,if_neg hj];exact ⟨_,rfl⟩
theorem jk:cx X (.type "int") (fun xs H Q=>(∃ i,xs=[.int i]∧Q (.int i) H) ∨ ∃ k,xs=[.bl k]∧Q (.int (if k then 1 else 0)) H):=by
 intro pins s σ H xs us Q I r h
 rcases h with ⟨i,rfl,q⟩ | ⟨k,rfl,q⟩
 ·obtain ⟨u,rfl,t,rfl⟩:=cP r
  exact call_int_int ⟨.int i,H,I,⟨_,rfl⟩,q⟩
 ·obtain ⟨u,rfl,r1⟩:=cP r
  cases r1
  exact call_int_bool ⟨.int (if k then 1 else 0),H,I.tok _,⟨_,rfl⟩,q⟩
end
structure xJ (h:Heap) (x dx C:Addr) (mA:Str→Option Value):Prop where
 obj:h.get? x=some (PySem.W.instObj C dx)
 ns:h.Ns1 dx mA
 ne:dx≠x
theorem nG {h:Heap}{dx:Addr}{mA:Str→Option Value}(n:h.Ns1 dx mA):∃ od,h.get? dx=some od∧∀ name,PySem.W.lookIn name od=some (mA name):=by
 obtain ⟨o,es,ep,ho,hd,hk,_,hm⟩:=n
 refine ⟨o,ho,fun name=>?_⟩
 have e:=hm name
 unfold nsFind findBy at e
 rw [← Array.find?_toList] at e
 unfold PySem.W.lookIn
 rw [hd]
 dsimp only
 split
 ·rename_i y q
  rw [q] at e
  exact congrArg some e
 ·rename_i q
  rw [q] at e
  have a:es.toList.any (·.refKey)=false:=by
   rw [List.any_eq_false]
   intro y hy
   obtain ⟨z,t,hkey⟩:=hk y (Array.mem_toList_iff.mp hy)
   simp [DictEntry.refKey,hkey]
  have a':¬ es.toList.any (·.refKey)=true:=by rw [a];exact Bool.false_ne_true
  rw [if_neg a']
  exact congrArg some e
theorem xJ.look {h:Heap}{x dx C:Addr}{mA:Str→Option Value}(I:xJ h x dx C mA):∃ od,PySem.W.InstAt h x (PySem.W.instObj C dx) C (some od)∧∀ name,PySem.W.lookIn name od=some (mA name) :=
 let ⟨od,ho,hl⟩:=nG I.ns
 ⟨od,⟨I.obj,rfl,rfl,ho⟩,hl⟩
section
variable {prog:Program} {w:World} {A:Around} {E:Value→Shared→Prop} {s:Shared} {K:PySem.W.Frag} {x dx C f:Addr} {mA:Str→Option Value} {name:Str} {v:Value}
end
theorem kX.some_of {v:V}{o:Option Value}(r:kX (some v) o):∃ u,o=some u∧bC v u:=by
 cases o with
 | none=>exact (show False from r).elim
 | some u=>exact ⟨u,rfl,r⟩
section
variable {P:Program} {w:World} {H H':Hp} {h h':Heap} {a C dx:Addr} {fs fs':List (Str × V)}
theorem tN (hok:HOk P w H h)(e:H a=some (.ins C dx fs)):∃ mA,xJ h a dx C mA∧(∀ f,kX (fs.lookup f) (mA f))∧PySem.Within mA (fs.map (·.1))∧fs.length≤1000∧H dx=some (.own a):=by
 obtain ⟨d,z,ne,ob,mA,n,r,q⟩:=(show bH P w H h a (.ins C dx fs) from hok a _ e)
 exact ⟨mA,⟨ob,n,ne⟩,r,q,z,d⟩
end
structure Cls (K:PySem.W.Frag) (C:Addr):Prop where
 pg:PySem.W.plainGet K C Str.empty=true
 hd:PySem.W.hasDictIn K C=true
 po:PySem.W.plainOver K C=true
 sa:PySem.W.findIn K (.ref C) "__setattr__" = some (some (.builtin "object.__setattr__"))
theorem Cls.get {K:PySem.W.Frag}{C:Addr}(c:Cls K C)(f:Str):PySem.W.plainGet K C f=true:=c.pg
section
variable {X:Cx} {pins:List (Addr × Obj)} {σ:St} {H:Hp} {s:Shared} {a C dx:Addr} {fs:List (Str × V)} {f:Str} {v:V} {A:Around} {E:Value→Shared→Prop}
end
section
variable {X:Cx} {o e value:Expr} {f:Str} {pos pos' tpos:Pos} {ta tv:TE}
end
section
variable {X:Cx} {pins:List (Addr × Obj)} {σ:St} {H:Hp} {s:Shared} {A:Around} {E:Value→Shared→Prop} {Q:Value→Shared→Prop} {c:Value} {b:Bool}
inductive mH (K:PySem.W.Frag)(H:Hp):V→Value→Prop where
 | non:mH K H .non (.type "NoneType")
 | bl (x:Bool):mH K H (.bl x) (.type "bool")
 | int (i:Int):mH K H (.int i) (.type "int")
 | str (x:Str):mH K H (.str x) (.type "str")
 | flt (x:UInt64):mH K H (.flt x) (.type "float")
 | lst {a:Addr} {xs:List V} (e:H a=some (.lst xs)):mH K H (.ref a) (.type "list")
 | frz {a:Addr} {o:Obj} {xs:List V} (e:H a=some (.frz o (.lst xs))):mH K H (.ref a) (.type "list")
 | tup {a:Addr} {xs:List V} (e:H a=some (.tup xs)):mH K H (.ref a) (.type "tuple")
 | dK {a:Addr} {kvs:List (Key × V)} (e:H a=some (.dK kvs)):mH K H (.ref a) (.type "dict")
 | dT {a:Addr} {kvs:List (List Key × V)} (e:H a=some (.dT kvs)):mH K H (.ref a) (.type "dict")
 | ins {a C dx:Addr} {fs:List (Str × V)} (e:H a=some (.ins C dx fs)) (cl:Cls K C) (ha:PySem.W.findIn K (.ref C) "__class__" = some (some (.builtin "object.__class__")))
   (hn:PySem.W.specialIn K (.builtin "object.__class__") "__get__" = some (some (.builtin "getset_descriptor.__get__"))) (htk:PySem.W.takesIn K (.builtin "object.__class__")=some true)
   (hm:PySem.W.mroIn K C (.type "object")=some true):mH K H (.ref a) (.ref C)
theorem nH {x:V}{u t:Value}(I:Inv X pins σ H s)(rx:bC x u)(ty:mH X.K H x t)(e:PySem.W.kitOne X.K t c=some b)(h:∀ tk,Q (.bool b) { s with toks:=tk }) :
  wpAny (model X.prog X.w) A (call (.builtin "isinstance") [u,c]) Q E s:=by
 cases ty with
 | non=>cases (show u=Value.none from rx);exact PySem.W.kia_one PySem.W.kitx_none I.kIn True.intro e (fun z=>nomatch z) h
 | bl y=>cases (show u=Value.bool y from rx);exact PySem.W.kia_one PySem.W.kitx_bool I.kIn True.intro e (fun z=>nomatch z) h
 | int i=>obtain ⟨t,q⟩:=(show ∃ t,u=Value.int i t from rx);cases q;exact PySem.W.kia_one PySem.W.kitx_int I.kIn True.intro e (fun z=>nomatch z) h
 | str y=>obtain ⟨t,q⟩:=(show ∃ t,u=Value.str y t from rx);cases q;exact PySem.W.kia_one PySem.W.kitx_str I.kIn True.intro e (fun z=>nomatch z) h
 | flt y=>obtain ⟨t,q⟩:=(show ∃ t,u=Value.float y t from rx);cases q;exact PySem.W.kia_one PySem.W.kitx_float I.kIn True.intro e (fun z=>nomatch z) h
 | @lst a xs ea =>
  cases (show u=Value.ref a from rx)
  obtain ⟨_,_,n,_,h1⟩:=(show bH X.prog X.w H s.heap a (.lst xs) from I.hok a _ ea)
  exact PySem.W.kia_one PySem.W.kitx_list I.kIn ⟨_,h1,rfl⟩ e (fun z=>nomatch z) h
 | @frz a ob xs ea =>
  cases (show u=Value.ref a from rx)
  obtain ⟨_,_,_,n,_,h1⟩:=(show bH X.prog X.w H s.heap a (.frz ob (.lst xs)) from I.hok a _ ea)
  exact PySem.W.kia_one PySem.W.kitx_list I.kIn ⟨_,h1,rfl⟩ e (fun z=>nomatch z) h
 | @tup a xs ea =>
  cases (show u=Value.ref a from rx)
  obtain ⟨_,_,_,p,_⟩:=(show bH X.prog X.w H s.heap a (.tup xs) from I.hok a _ ea)
  obtain ⟨o,h1,h2,_⟩:=p
  exact PySem.W.kia_one PySem.W.kitx_tuple I.kIn ⟨o,h1,h2⟩ e (fun z=>nomatch z) h
 | @dK a kvs ea =>
  cases (show u=Value.ref a from rx)
  obtain ⟨_,_,vs,_,p⟩:=(show bH X.prog X.w H s.heap a (.dK kvs) from I.hok a _ ea)
  obtain ⟨o,es,ep,h1,h2,_⟩:=p
  exact PySem.W.kia_one PySem.W.kitx_dict I.kIn ⟨o,h1,h2.1⟩ e (fun z=>nomatch z) h
 | @dT a kvs ea =>
  cases (show u=Value.ref a from rx)
  obtain ⟨_,_,xs,_,o,es,ep,h1,h2,_⟩:=(show bH X.prog X.w H s.heap a (.dT kvs) from I.hok a _ ea)
  exact PySem.W.kia_one PySem.W.kitx_dict I.kIn ⟨o,h1,h2.1⟩ e (fun z=>nomatch z) h
 | @ins a C dx fs ea cl ha hn htk hm =>
  cases (show u=Value.ref a from rx)
  obtain ⟨mA,O,_⟩:=tN I.hok ea
  obtain ⟨od,J,_⟩:=O.look
  exact PySem.W.kia_one (PySem.W.kitx_own (cl.get _) cl.hd ha hn htk hm) I.kIn J e (fun z=>nomatch z) h
end
structure hZ (k:Nat) (A:Around):Prop where
 hd:A.handled=none
 dp:A.depth+3*k+5 < recursionLimit
 un:A.units+16*k+200 < cLine
 gd:A.guards=some []
theorem hZ.mono {j k:Nat}{A:Around}(r:hZ k A)(h:j≤k):hZ j A:=⟨r.hd,by have:=r.dp; omega,by have:=r.un; omega,r.gd⟩
theorem hZ.deeper {k:Nat}{A:Around}(r:hZ (k+1) A)(env:Env):hZ k (A.deeper env) :=
 ⟨r.hd,by have:=r.dp;show A.depth+1+3*k+5 < _;omega,by have:=r.un;show A.units+3+16*k+200 < _;omega,r.gd⟩
theorem hZ.depth {k:Nat}{A:Around}(r:hZ k A):A.depth < recursionLimit:=by have:=r.dp; omega
theorem hZ.units {k:Nat}{A:Around}(r:hZ k A):A.units+64 < cLine:=by have:=r.un; omega
def yP:TA:=fun _ H Q=>Q [] H
def qL (Q:(List V→Hp→Prop))(x:V):List V→Hp→Prop:=fun xs H2=>Q (x::xs) H2
def lq (tr:TA)(σ:St)(Q:(List V→Hp→Prop)):V→Hp→Prop:=fun x H1=>tr σ H1 (qL Q x)
def xK (ta:TE)(tr:TA):TA:=fun σ H Q=>ta σ H (lq tr σ Q)
section
variable {X:Cx} {e:Expr} {es:List Expr} {te:TE} {t:TA} {pos:Pos}
theorem af:PA X [] yP:=fun _ _ _ _ H Q I h=>Calls.spliced_nil ⟨[],H,I,.nil,h⟩
theorem aa (ha:PE X e te)(hr:PA X es t)(hs:starEach (e::es) X.env=(false,eval e X.env)::starEach es X.env:=by rfl):PA X (e::es) (xK te t):=by
 intro pos pins s σ H Q I h
 rw [hs]
 show wpAny _ _ (spliced ((false,eval e X.env)::backTo pos (starEach es X.env))) _ _ s
 refine Calls.spliced_cons (thn (ha pins s σ H _ I h) fun u s1 zq54=>?_)
 obtain ⟨x,H1,I1,r1,q1⟩:=zq54
 exact thn (hr pos pins s1 σ H1 _ I1 q1) fun us s2 zq55=>(by obtain ⟨xs,H2,I2,r2,q2⟩:=zq55;exact ⟨x::xs,H2,I2,.cons r1 r2,q2⟩)
def tO (Q:VK):List V→Hp→Prop:=fun xs H1=>xs.length≤sizeLine∧∀ p,H1 p=none→Q (.ref p) (upd H1 p (.tup xs))
def zw (t:TA):TE:=fun σ H Q=>t σ H (tO Q)
def tP (Q:VK):List V→Hp→Prop:=fun xs H1=>xs.length≤sizeLine∧∀ p,H1 p=none→Q (.ref p) (upd H1 p (.lst xs))
def zx (t:TA):TE:=fun σ H Q=>t σ H (tP Q)
theorem cg {x1}(h:PA X es t):PE X (.Tuple es x1 pos) (zw t):=by
 intro pins s σ H Q I hq
 refine wpAny_Tuple_spliced (thn (h pos pins s σ H _ I hq) fun us s1 ⟨xs,H1,I1,r,z,q⟩=>⟨by rw [← r.length];exact z,?_⟩)
 have hf:H1 s1.heap.objs.size=none:=I1.hok.fresh (Nat.le_refl _)
 refine ⟨.ref s1.heap.objs.size,upd H1 s1.heap.objs.size (.tup xs),I1.laid (t':=s1.toks) (fun b u e=>Heap.get?_push_of_some _ e) (Nat.le_refl _) ?_,rfl,q _ hf⟩
 exact ⟨z,us,r,⟨_,Heap.get?_push_size _ rfl,rfl,_,rfl⟩,.new _ _ rfl⟩
theorem bh (h:PA X es t):PE X (.List es pos) (zx t):=by
 intro pins s σ H Q I hq
 refine wpAny_List_spliced (thn (h pos pins s σ H _ I hq) fun us s1 ⟨xs,H1,I1,r,z,q⟩=>⟨by rw [← r.length];exact z,?_⟩)
 have hf:H1 s1.heap.objs.size=none:=I1.hok.fresh (Nat.le_refl _)
 refine ⟨.ref s1.heap.objs.size,upd H1 s1.heap.objs.size (.lst xs),I1.laid (t':=s1.toks) (fun b u e=>Heap.get?_push_of_some _ e) (Nat.le_refl _) ?_,rfl,q _ hf⟩
 exact ⟨z,us,0,r,Heap.get?_push_size _ rfl⟩
end
abbrev Sp:=List V→Hp→VK→XK→Prop
abbrev CXT:=List Env→Hp→Shared→XK→Value→Shared→Prop
structure xo (P:Program) (w:World) (K:PySem.W.Frag) (mg:Str→Option Value) (base:Heap) (A:Around) (outer:List Env) (s:Shared) (H:Hp):Prop where
 frames:A.frames=some outer
 mod:Mod K mg base
 bs:∀ b o,base.get? b=some o→s.heap.get? b=some o∧H b=none
 bsz:base.objs.size≤s.heap.objs.size
 funs:s.heap.FunFrames base outer
 frf:∀ b∈frs outer,H b=none
 hok:HOk P w H s.heap
 bare:AllBare s.gens
def CE (outer:List Env)(P:Program)(w:World)(H:Hp)(s:Shared)(Q:VK)(u:Value)(s':Shared):Prop :=
 ∃ v H',s'.os=s.os∧AllBare s'.gens∧Un (frs outer) [] H H' s.heap s'.heap∧HOk P w H' s'.heap∧bC v u∧Q v H'
def CR (CX:CXT)(outer:List Env)(P:Program)(w:World)(H:Hp)(s:Shared)(Q:VK)(E:XK)(r:Result)(s':Shared):Prop :=
 match r with
 | .ok (.ret u)=>CE outer P w H s Q u s'
 | .ok _=>False
 | .error e=>CX outer H s E e s'
structure mI (P:Program) (w:World) (K:PySem.W.Frag) (mg:Str→Option Value) (base:Heap) (CX:CXT) (k:Nat) (f:Addr) (fd:FuncData) (ps:List Str) (sp:Sp):Prop where
 len:∀ vs H Q E,sp vs H Q E→vs.length=ps.length
 run:∀ (A:Around) (outer:List Env) (s:Shared) (H:Hp) (args:Args) (us:List Value) (vs:List V) (Q:VK) (E:XK),hZ k A→xo P w K mg base A outer s H→BindsTo s fd args (ps.zip us)→bu vs us→sp vs H Q E →
  codeAny (model P w) A (.call (.ref f) args) (CR CX outer P w H s Q E) s
theorem mI.imp {P:Program}{w:World}{K:PySem.W.Frag}{mg:Str→Option Value}{base:Heap}{CX:CXT}{k:Nat}{f:Addr}{fd:FuncData}{ps:List Str}{sp sp':Sp}(F:mI P w K mg base CX k f fd ps sp)
  (h:∀ vs H Q E,sp' vs H Q E→sp vs H Q E):mI P w K mg base CX k f fd ps sp' :=
 ⟨fun vs H Q E q=>F.len vs H Q E (h _ _ _ _ q),fun A outer s H args us vs Q E hr he hb hv hs=>F.run A outer s H args us vs Q E hr he hb hv (h _ _ _ _ hs)⟩
section
variable {X:Cx} {pins:List (Addr × Obj)} {σ:St} {H:Hp} {s s':Shared}
theorem Inv.env0 (I:Inv X pins σ H s):xo X.prog X.w X.K X.mg X.base X.A X.stack s H :=
 ⟨I.ok.frames,I.ok.mod,I.bs,Nat.le_trans I.ok.bsz I.sz,I.stack,I.stkFree,I.hok,I.bare⟩
theorem Inv.after {Q:VK}{u:Value}(I:Inv X pins σ H s)(h:CE X.stack X.prog X.w H s Q u s'):EP X pins σ Q u s':=by
 obtain ⟨v,H',os,bare,un,hok,r,q⟩:=h
 obtain ⟨hh,g,d,t,os'⟩:=s'
 obtain rfl:os'=s.os:=os
 exact ⟨v,H',I.call (h':=hh) (g':=g) (d':=d) (t':=t) (ch:=[]) un hok bare (fun b z=>absurd z (by simp)),r,q⟩
end
def qM (sp:Sp)(dvs:List V)(E:XK)(Q:VK):List V→Hp→Prop:=fun vs H1=>sp (vs++dvs) H1 Q E
def vJ (sp:Sp)(dvs:List V)(E:XK)(t:TA):TE:=fun σ H Q=>t σ H (qM sp dvs E Q)
def mJ (K:PySem.W.Frag)(fd:FuncData)(ps:List Str)(ds:List Value):Prop :=
 ∀ (s:Shared) (us:List Value),K.In s.heap→(us++ds).length=ps.length→BindsTo s fd ⟨us,[]⟩ (ps.zip (us++ds))
theorem mJ.all {K:PySem.W.Frag}{fd:FuncData}{ps:List Str}(h:∀ us:List Value,us.length=ps.length→bindArgs fd ⟨us,[]⟩=pure (ps.zip us)):mJ K fd ps []:=fun s us _ hl=>by
 rw [List.append_nil] at hl ⊢
 exact .of_eq (h us hl)
def nJ (CX:CXT)(X:Cx)(E:XK):Prop:=∀ (pins:List (Addr × Obj)) (σ:St) (H:Hp) (s:Shared) (e:Value) (s':Shared),Inv X pins σ H s→CX X.stack H s E e s'→X.xe e s'
section
variable {X:Cx} {CX:CXT} {k:Nat} {f C:Addr} {fd:FuncData} {ps:List Str} {sp:Sp} {dvs:List V} {ds:List Value} {E:XK} {x m:Str} {p pos apos:Pos} {e o:Expr} {es:List Expr} {ta:TE} {t:TA}
theorem vK {pins:List (Addr × Obj)}{σ:St}{H:Hp}{s:Shared}{Q:VK}{us:List Value}{vs:List V}(F:mI X.prog X.w X.K X.mg X.base CX k f fd ps sp)(hr:hZ k X.A)(hb:mJ X.K fd ps ds)(hd:bu dvs ds)(hx:nJ CX X E)
  (I:Inv X pins σ H s) (r:bu vs us) (h:sp (vs++dvs) H Q E):wpAny (model X.prog X.w) X.A (call (.ref f) us) (EP X pins σ Q) X.xe s:=by
 have r2:bu (vs++dvs) (us++ds):=r.append hd
 have hl:(us++ds).length=ps.length:=by rw [← r2.length];exact F.len _ _ _ _ h
 refine wpAny_call (codeAny_mono (F.run X.A X.stack s H ⟨us,[]⟩ (us++ds) (vs++dvs) Q E hr I.env0 (hb s us I.kIn hl) r2 h) fun r s' hq=>?_)
 cases r with
 | error e=>exact hx pins σ H s e s' I hq
 | ok fl =>
  cases fl with
  | ret u=>exact I.after hq
  | next=>exact False.elim hq
  | brk=>exact False.elim hq
  | cont=>exact False.elim hq
theorem tQ (F:mI X.prog X.w X.K X.mg X.base CX k f fd ps sp)(hr:hZ k X.A)(hg:Gl X x)(hm:X.mg x=some (.ref f))(hk:PySem.W.keepIn X.K (.ref f)=true)(hb:mJ X.K fd ps ds)(hd:bu dvs ds)(hx:nJ CX X E)
  (ha:PA X (e::es) t) (hdb:(x == ("__debug__":Str))=false:=by decide) (he:starEach (e::es) X.env=(false,eval e X.env)::starEach es X.env:=by rfl) (hpl:(backTo pos (starEach es X.env)).any (·.1)=false:=by rfl) :
  PE X (.Call (.Name x p) (e::es) [] pos) (vJ sp dvs E t):=by
 intro pins s σ H Q I h
 refine wpAny_Call_Name_kw (nt I hg hm ?_ hdb)
 refine PySem.W.callWith_K (h₀:=X.base) I.ok.mod.kin hk (thn (ha pos pins s σ H _ I h) fun us s1 ⟨vs,H1,I1,r,q⟩=>⟨I1.kIn,?_⟩) he hpl
 exact vK F hr hb hd hx I1 r q
end
section
variable {X:Cx} {CX:CXT} {k:Nat} {f C:Addr} {fd:FuncData} {ps ks:List Str} {sp:Sp} {E:XK} {x m:Str} {p pos apos kpos:Pos} {e o:Expr} {es:List Expr} {kws:List Keyword} {te ta:TE} {t tk:TA} {nm:Option Str}
variable {g:List Value→List Value→List Value} {gV:List V→List V→List V}
end
structure aP (N P:List Str) (sc:Scope):Prop where
 kind:sc.kind = .function
 co:sc.isCoroutine=false
 gen:sc.isGenerator=false
 nd:N.Nodup
 pre:N.take P.length=P
 par:∀ x∈P,sc.names.lookup x=some .local ∨ sc.names.lookup x=some .cell
 nofree:∀ y∈sc.names,y.2 ≠ .free
theorem jl {kindOf:Str→Option NameKind}{x:Str}:∀ {binds:List (Str × Value)} {m:Str→Option Value},(∀ v,(x,v)∉binds)→bindL kindOf binds m x=m x
 | [],_,_=>rfl
 | (n,v)::r,m,h=>by
  unfold bindL
  rw [jl fun w hw=>h w (List.mem_cons_of_mem _ hw)]
  split
  ·have:x≠n:=by rintro rfl;exact h v List.mem_cons_self
   simp [this]
  ·rfl
theorem jm {kindOf:Str→Option NameKind}{x:Str}:∀ {binds:List (Str × Value)} {m:Str→Option Value},(∀ v,(x,v)∉binds)→bindC kindOf binds m x=m x
 | [],_,_=>rfl
 | (n,v)::r,m,h=>by
  unfold bindC
  rw [jm fun w hw=>h w (List.mem_cons_of_mem _ hw)]
  split
  ·rfl
  ·have:x≠n:=by rintro rfl;exact h v List.mem_cons_self
   simp [this]
theorem jn {kindOf:Str→Option NameKind}{x:Str}{v:Value}:∀ {P:List Str} {vs:List Value} {i:Nat} {m:Str→Option Value},P.Nodup→P[i]? = some x→vs[i]? = some v→kindOf x=some .local →
  bindL kindOf (P.zip vs) m x=some v
 | [],_,_,_,_,h,_,_=>by simp at h
 | _::_,[],_,_,_,_,h,_=>by simp at h
 | p::P,w::vs,0,m,nd,h1,h2,hk=>by
  simp at h1 h2;subst h1;subst h2
  show bindL kindOf ((p,w)::P.zip vs) m p=_
  unfold bindL
  rw [jl fun v hv=>(List.nodup_cons.mp nd).1 (List.of_mem_zip hv).1,if_pos hk]
  simp
 | p::P,w::vs,i+1,m,nd,h1,h2,hk=>by
  show bindL kindOf ((p,w)::P.zip vs) m x=_
  unfold bindL
  exact jn (i:=i) (List.nodup_cons.mp nd).2 (by simpa using h1) (by simpa using h2) hk
theorem jo {kindOf:Str→Option NameKind}{x:Str}{v:Value}:∀ {P:List Str} {vs:List Value} {i:Nat} {m:Str→Option Value},P.Nodup→P[i]? = some x→vs[i]? = some v→kindOf x≠some .local →
  bindC kindOf (P.zip vs) m x=some v
 | [],_,_,_,_,h,_,_=>by simp at h
 | _::_,[],_,_,_,_,h,_=>by simp at h
 | p::P,w::vs,0,m,nd,h1,h2,hk=>by
  simp at h1 h2;subst h1;subst h2
  show bindC kindOf ((p,w)::P.zip vs) m p=_
  unfold bindC
  rw [jm fun v hv=>(List.nodup_cons.mp nd).1 (List.of_mem_zip hv).1,if_neg hk]
  simp
 | p::P,w::vs,i+1,m,nd,h1,h2,hk=>by
  show bindC kindOf ((p,w)::P.zip vs) m x=_
  unfold bindC
  exact jo (i:=i) (List.nodup_cons.mp nd).2 (by simpa using h1) (by simpa using h2) hk
def start (N:List Str)(vs:List V):St:=vs.map some++List.replicate (N.length - vs.length) none
def tR (CX:CXT)(P:Program)(w:World)(K:PySem.W.Frag)(mg:Str→Option Value)(base:Heap)(N:List Str)(qual:Str)(scope:Scope)(f:Addr)(cd:Value)(A:Around)(outer:List Env)(s:Shared)(H:Hp)(E:XK):Cx where
 prog:=P
 w:=w
 K:=K
 mg:=mg
 base:=base
 A:=A.deeper (envOfC qual scope s.heap.objs.size f cd)
 N:=N
 s₀:=s
 H₀:=H
 env:=envOfC qual scope s.heap.objs.size f cd
 outer:=outer
 stack:=envOfC qual scope s.heap.objs.size f cd::outer
 ex:=[]
 calm:=true
 fn:=fun _=>true
 pn:=[]
 xe:=fun e s'=>wpAny (model P w) (A.deeper (envOfC qual scope s.heap.objs.size f cd)) (leaving (envOfC qual scope s.heap.objs.size f cd) e) (fun _ s''=>CX outer H s E e s'') (fun e' s''=>CX outer H s E e' s'') s'
theorem ly {sc:Scope}{n:Nat}{x:Str}(h:sc.names.lookup x=some .cell):∃ c,(cellsFrom n sc.names []).lookup x=some c:=by
 have q:=PySem.W.cellsFrom_some sc.names n [] (.inl h)
 exact Option.isSome_iff_exists.mp q
theorem nK {CX:CXT}{P:Program}{w:World}{K:PySem.W.Frag}{mg:Str→Option Value}{base:Heap}{N ps:List Str}{qual:Str}{scope:Scope}{f:Addr}{cd:Value}{A:Around}{outer:List Env}{s s1:Shared}{H:Hp}{E:XK}{us:List Value}{vs:List V}
  (S:aP N ps scope) (hd:A.handled=none) (e0:xo P w K mg base A outer s H) (hl:vs.length=ps.length) (r:bu vs us)
  (x:InCallC s s.heap.objs.size (bindL (envOfC qual scope s.heap.objs.size f cd).kindOf (ps.zip us) fun _=>none) (cellsFrom (s.heap.objs.size+1) scope.names []) (bindC (envOfC qual scope s.heap.objs.size f cd).kindOf (ps.zip us) fun _=>none) s1) :
  Inv (tR CX P w K mg base N qual scope f cd A outer s H E) [] (start N vs) H s1:=by
 have hpl:ps.length≤N.length:=by have:=congrArg List.length S.pre;rw [List.length_take] at this;omega
 obtain ⟨h1,tk,rfl,hk⟩:=x.done
 have noA:∀ b:Addr,b∉(tR CX P w K mg base N qual scope f cd A outer s H E).ex:=fun b z=>absurd (show b∈([]:List Addr) from z) (by simp)
 refine ⟨⟨e0.mod,S.kind,rfl,rfl,Nat.le_refl _,fun y z c h1 h2=>?_,fun y hy=>?_,fun y c _ h=>?_,fun _=>hd,Around.frames_deeper e0.frames,.inr ⟨rfl,rfl⟩,fun b z=>absurd z (noA b),e0.bs,e0.bsz,fun b _ _=>noA b,fun b z=>absurd z (noA b),e0.funs,e0.frf⟩,
  rfl,e0.bare,Un.kept hk,⟨_,x.toInCall.ns,fun i y v h1 h2 h3=>?_⟩,fun y c h=>⟨_,x.cell y c h⟩,e0.hok.fresh (Nat.le_refl _),fun y c h=>?_,fun p hp=>absurd (show p∈([]:List (Addr × Obj)) from hp) (by simp),e0.hok.kept hk,?_⟩
 ·exact name_of_addr x.apart (PySem.mem_of_lookup h1) (PySem.mem_of_lookup h2)
 ·have hy:scope.names.lookup y=some .cell ∨ scope.names.lookup y=some .free:=hy
  rcases hy with hy | hy
  ·exact ly hy
  ·exact absurd rfl (S.nofree _ (PySem.mem_of_lookup hy))
 ·exact Nat.le_of_lt (x.above y c (PySem.mem_of_lookup h))
 ·have hi:i < vs.length:=by
   unfold start at h2
   by_cases hi:i < vs.length
   ·exact hi
   ·rw [List.getElem?_append_right (by simpa using hi)] at h2
    rw [List.getElem?_replicate] at h2
    split at h2 <;> cases h2
  have ha:vs[i]? = some v:=by
   unfold start at h2
   rw [List.getElem?_append_left (by simpa using hi),List.getElem?_map] at h2
   cases e:vs[i]? with
   | none=>rw [e] at h2;cases h2
   | some a=>rw [e] at h2;cases h2;rfl
  obtain ⟨u,hu,rv⟩:=r.get ha
  have hp:ps[i]? = some y:=by
   rw [← S.pre,List.getElem?_take_of_lt (by omega)];exact h1
  have ndP:ps.Nodup:=by rw [← S.pre];exact S.nd.sublist (List.take_sublist _ _)
  refine ⟨u,rv,?_⟩
  rcases S.par y (List.mem_of_getElem? hp) with k | k
  ·exact .inl ⟨k,jn ndP hp hu k⟩
  ·obtain ⟨c,e⟩:=ly (n:=s.heap.objs.size+1) k
   refine .inr ⟨.inl k,c,e,?_⟩
   have q:=x.cell y c e
   rw [jo ndP hp hu (by show scope.names.lookup y≠_;rw [k];decide)] at q
   exact q
 ·exact e0.hok.fresh (Nat.le_of_lt (x.above y c (PySem.mem_of_lookup h)))
 ·unfold start
  show _=N.length
  rw [List.length_append,List.length_map,List.length_replicate]
  omega
theorem xM {CX:CXT}{P:Program}{w:World}{K:PySem.W.Frag}{mg:Str→Option Value}{base:Heap}{k:Nat}{f:Addr}{name qual:Str}{params:Arguments}{body:List Stmt}{scope:Scope}{dV kV doc pm cdv ct oc:Value}{an od:Option Addr}
  {osl:Array (Option Value)} {N ps:List Str} {sp:Sp} (lk:K.lookup f=some ⟨oc,od,.func (PySem.W.fnOf name qual params body scope dV kV doc pm an cdv ct),osl⟩) (hcd:PySem.W.codeIn K cdv qual=true) (S:aP N ps scope)
  (len:∀ vs H Q E,sp vs H Q E→vs.length=ps.length)
  (hbody:∀ (A:Around) (outer:List Env) (s:Shared) (H:Hp) (vs:List V) (Q:VK) (E:XK),hZ k (A.deeper (envOfC qual scope s.heap.objs.size f cdv))→sp vs H Q E →
   ∃ t,PSs (tR CX P w K mg base N qual scope f cdv A outer s H E) body t∧t { nx:=fun _ H'=>Q .non H',rt:=Q } (start N vs) H) :
  mI P w K mg base CX (k+1) f (PySem.W.fnOf name qual params body scope dV kV doc pm an cdv ct) ps sp:=by
 refine ⟨len,fun A outer s H args us vs Q E hr e0 hb r hsp=>?_⟩
 have hl:=len _ _ _ _ hsp
 have KX:K.In s.heap:=e0.mod.kin.keeps fun b o e=>(e0.bs b o e).1
 have lim:s.heap.NoLimit:=e0.mod.nolimit.keeps fun b o e=>(e0.bs b o e).1
 have hkind:∀ y∈ps.zip us,scope.names.lookup y.1=some .local ∨ (scope.names.lookup y.1=some .cell∧((cellsFrom (s.heap.objs.size+1) scope.names []).lookup y.1).isSome=true):=fun ⟨n,v⟩ hy=>by
  rcases S.par n (List.of_mem_zip hy).1 with q | q
  ·exact .inl q
  ·exact .inr ⟨q,PySem.W.cellsFrom_some _ _ _ (.inl q)⟩
 refine codeAny_call_function hr.depth (KX _ _ lk) rfl S.co S.gen rfl (PySem.W.codeRec_of KX hcd) (hb _ _ _ _ ?_)
 refine wpAny_newFunctionEnv_cells S.kind hkind fun env he s1 x=>?_
 subst he
 refine ⟨lim.keeps x.toInCall.keep,codeAny_func ?_⟩
 obtain ⟨t,ht,hq⟩:=hbody A outer s H vs Q E (hr.deeper _) hsp
 have I:Inv (tR CX P w K mg base N qual scope f cdv A outer s H E) [] (start N vs) H s1:=nK S hr.hd e0 hl r x
 refine wpAny_mono (ht [] s1 (start N vs) H _ I hq) (fun fl s' hs=>?_) fun e s' hs=>hs
 have fin:∀ {σ':St} {H':Hp} {v:V} {u:Value},Inv (tR CX P w K mg base N qual scope f cdv A outer s H E) [] σ' H' s'→bC v u→Q v H'→CE outer P w H s Q u s' :=
  fun {σ' H' v u} J rv q=>⟨v,H',J.os,J.bare,J.base,J.hok,rv,q⟩
 cases fl with
 | ret u =>
  obtain ⟨v,σ',H',J,rv,q⟩:=hs
  exact fin J rv q
 | next =>
  obtain ⟨σ',H',J,q⟩:=hs
  exact fin (v:=V.non) (u:=Value.none) J rfl q
 | brk =>
  obtain ⟨_,_,_,q⟩:=hs
  exact False.elim q
 | cont =>
  obtain ⟨_,_,_,q⟩:=hs
  exact False.elim q
section
variable {X:Cx} {x:Str} {p pos:Pos} {e:Expr} {es:List Expr} {t:TA} {id T:String} {r:List V→Hp→VK→Prop}
def vL (r:List V→Hp→VK→Prop)(Q:VK):List V→Hp→Prop:=fun vs H1=>r vs H1 Q
def tCB (r:List V→Hp→VK→Prop)(t:TA):TE:=fun σ H Q=>t σ H (vL r Q)
theorem aq (hc:cx X (.builtin id) r)(hg:Gl X x)(hm:X.mg x=none)(hv:bootBuiltins x=some (.builtin id))(ha:PA X (e::es) t)(hn:x ≠ "__name__":=by decide)(hdb:(x == ("__debug__":Str))=false:=by decide)
  (he:starEach (e::es) X.env=(false,eval e X.env)::starEach es X.env:=by rfl) (hpl:(backTo pos (starEach es X.env)).any (·.1)=false:=by rfl):PE X (.Call (.Name x p) (e::es) [] pos) (tCB r t):=by
 intro pins s σ H Q I h
 refine wpAny_Call_Name_kw (ff I hg hm hv ?_ hn hdb)
 exact PyProof.Rows.callWith_builtin1 (thn (ha pos pins s σ H _ I h) fun us s1 zq60=>(by obtain ⟨vs,H1,I1,r1,q1⟩:=zq60;exact hc pins s1 σ H1 vs us Q I1 r1 q1)) he hpl
theorem bA (hc:cx X (.type T) r)(hg:Gl X x)(hm:X.mg x=none)(hv:bootBuiltins x=some (.type T))(ha:PA X (e::es) t)(hn:x ≠ "__name__":=by decide)(hdb:(x == ("__debug__":Str))=false:=by decide)
  (he:starEach (e::es) X.env=(false,eval e X.env)::starEach es X.env:=by rfl) (hpl:(backTo pos (starEach es X.env)).any (·.1)=false:=by rfl):PE X (.Call (.Name x p) (e::es) [] pos) (tCB r t):=by
 intro pins s σ H Q I h
 refine wpAny_Call_Name_kw (ff I hg hm hv ?_ hn hdb)
 exact PyProof.Rows.callWith_type1 (thn (ha pos pins s σ H _ I h) fun us s1 zq61=>(by obtain ⟨vs,H1,I1,r1,q1⟩:=zq61;exact hc pins s1 σ H1 vs us Q I1 r1 q1)) he hpl
end
end L2
namespace HT
open PySem PyProof.Rows
section
open PySem.SeqAt
open PySem.AutoSeq1 (wpAny_loadPart')
open PySem.MeetsSeq PySem.MeetsSeq2 PySem.MeetsSeq3
end
section
variable {prog:Program} {w:World} {A:Around} {E:Value→Shared→Prop} {s:Shared}
def sIx (n d:Nat):Option Int→Nat
 | none=>d
 | some v=>if v < 0 then (v+(n:Int)).toNat else min v.toNat n
theorem iE (n d:Nat):sIx n d none=d:=rfl
theorem cQ (n d k:Nat):sIx n d (some (k:Int))=min k n:=by
 show (if (k:Int) < 0 then ((k:Int)+(n:Int)).toNat else min (k:Int).toNat n)=min k n
 rw [if_neg (by omega),Int.toNat_natCast]
theorem nM (n d:Nat)(hd:d≤n)(o:Option Int):sIx n d o≤n:=by
 cases o with
 | none=>exact hd
 | some v =>
  show (if v < 0 then (v+(n:Int)).toNat else min v.toNat n)≤n
  by_cases hv:v < 0
  ·rw [if_pos hv];omega
  ·rw [if_neg hv];exact Nat.min_le_right _ _
theorem nN (v:Int)(n d:Nat):(if v < 0 then max (v+(n:Int)) 0 else min v (n:Int))=((sIx n d (some v):Nat):Int):=by
 show (if v < 0 then max (v+(n:Int)) 0 else min v (n:Int))=(((if v < 0 then (v+(n:Int)).toNat else min v.toNat n):Nat):Int)
 by_cases hv:v < 0
 ·simp only [if_pos hv];omega
 ·simp only [if_neg hv];omega
theorem mK (lo hi:Option Int)(n:Nat):Builtin.Slice.sliceAdjust lo hi 1 (n:Int)=(((sIx n 0 lo:Nat):Int),((sIx n n hi:Nat):Int)):=by
 have h1:¬ ((1:Int) < 0):=by omega
 unfold Builtin.Slice.sliceAdjust
 simp only [h1,if_false]
 refine Prod.ext ?_ ?_
 ·cases lo with
  | none=>rfl
  | some v=>exact nN v n 0
 ·cases hi with
  | none=>rfl
  | some v=>exact nN v n n
theorem mL (i j:Nat):Builtin.Slice.slicePlaces (i:Int) (j:Int) 1=j - i:=by
 unfold Builtin.Slice.slicePlaces
 have h1:(1:Int) > 0:=by omega
 simp only [h1,if_true,Int.ediv_one]
 split <;> omega
theorem h8 {v:Value}{o:Option Int}{Q:Option Int→Shared→Prop}(p:IsPart v o)(h:Q o s):wpAny (model prog w) A (Builtin.Slice.slicePartIndex v) Q E s:=by
 cases p with
 | none=>exact slicePart_none h
 | int i t=>exact slicePart_int h
theorem cX {sl:Addr}{vl vu:Value}{lo hi:Option Int}{n:Nat}{Q:Int × Int × Nat→Shared→Prop}(hs:s.heap.IsSliceOf sl vl vu .none)(pl:IsPart vl lo)(pu:IsPart vu hi)
  (h:Q (((sIx n 0 lo:Nat):Int),1,sIx n n hi - sIx n 0 lo) s):wpAny (model prog w) A (Builtin.Slice.sliceApplied (.ref sl) (pure (n:Int))) Q E s:=by
 obtain ⟨os,hos,hcs,hds⟩:=id hs
 unfold Builtin.Slice.sliceApplied Builtin.Slice.sliceFields
 refine wpAny_bind (wpAny_bind (wpAny_field hos hds (x:=vl) rfl (wpAny_bind (wpAny_field hos hds (x:=vu) rfl (wpAny_bind (wpAny_field hos hds (x:=.none) rfl (wpAny_pure ?_)))))))
 refine wpAny_bind (slicePart_none ?_)
 show wpAny _ _ (if ((1:Int) == 0)=true then _ else _) _ _ s
 rw [if_neg (by decide)]
 refine wpAny_bind (h8 pl (wpAny_bind (h8 pu (wpAny_bind (wpAny_pure ?_)))))
 show wpAny _ _ (match Builtin.Slice.sliceAdjust lo hi 1 (n:Int) with | (lo,hi)=>pure (lo,(1:Int),Builtin.Slice.slicePlaces lo hi 1)) _ _ s
 rw [mK lo hi n]
 show wpAny _ _ (pure (((sIx n 0 lo:Nat):Int),(1:Int),Builtin.Slice.slicePlaces ((sIx n 0 lo:Nat):Int) ((sIx n n hi:Nat):Int) 1)) _ _ s
 rw [mL]
 exact wpAny_pure h
theorem qN (xs:Array Value)(i k:Nat):((List.range k).filterMap fun (m:Nat)=>xs[((i:Int)+(m:Int)*1).toNat]?).toArray=((xs.toList.drop i).take k).toArray:=by
 have e:(fun (m:Nat)=>xs[((i:Int)+(m:Int)*1).toNat]?)=fun m=>xs[i+m]?:=by
  funext m
  have:((i:Int)+(m:Int)*1).toNat=i+m:=by omega
  rw [this]
 rw [e]
 have:=pick_run xs i k
 rw [List.filterMap_map] at this
 have e2:((fun x=>xs[x]?) ∘ fun x=>i+x)=fun m=>xs[i+m]?:=rfl
 rw [e2] at this
 rw [this]
theorem eV {t sl:Addr}{items:Array Value}{vl vu:Value}{lo hi:Option Int}{Q:Value→Shared→Prop}(ht:IsTup s.heap t items)(hs:s.heap.IsSliceOf sl vl vu .none)(pl:IsPart vl lo)(pu:IsPart vu hi)
  (hw:¬ (sIx items.size 0 lo=0∧sIx items.size items.size hi=items.size))
  (h:Q (.ref s.heap.objs.size) { s with heap:=s.heap.push { cls:=.type "tuple",data:=.seq ((items.toList.drop (sIx items.size 0 lo)).take (sIx items.size items.size hi - sIx items.size 0 lo)).toArray } })
  (hsz:items.size≤sizeLine):wpAny (model prog w) A (getItem (.ref t) (.ref sl)) Q E s:=by
 have htake:sizeOk (.seq ((items.toList.drop (sIx items.size 0 lo)).take (sIx items.size items.size hi - sIx items.size 0 lo)).toArray):=by
  show ((items.toList.drop (sIx items.size 0 lo)).take (sIx items.size items.size hi - sIx items.size 0 lo)).toArray.size≤sizeLine
  rw [List.size_toArray,List.length_take,List.length_drop,Array.length_toList]
  omega
 have hj:sIx items.size items.size hi≤items.size:=nM _ _ (Nat.le_refl _) hi
 obtain ⟨os,hos,hcs,hds⟩:=id hs
 have hTs:s.TypeIs (.ref sl) "slice":=⟨os,hos,hcs⟩
 unfold getItem
 try with_reducible refine wpAny_holding ?_
 first | refine wpAny_bind (wpAny_pure ?_) | skip
 refine wpAny_bind (wpAny_sequenceKey ht.typeIs (by decide) ?_)
 refine wpAny_bind (wpAny_callSpecial?_slot (name:=Str.ofString "__getitem__") ht.typeIs PyProof.Rows.slot_tuple_getitem
  (wpAny_call_entry PyProof.Rows.slot_tuple_getitem ht.typeIs entry_tuple_getitem ?_ (args_tuple_getitem _ _)))
 show wpAny _ _ (Builtin.Tuple.tupleItemsOf (.ref t) >>= _) _ _ s
 refine wpAny_bind (tupleItemsOf_ ht ?_)
 refine wpAny_bind (wpAny_typeOf hTs ?_)
 rw [if_pos (by decide)]
 refine wpAny_bind (cX hs pl pu ?_)
 have hno:¬ ((((sIx items.size 0 lo:Nat):Int) == 0 && (1:Int) == 1 && (sIx items.size items.size hi - sIx items.size 0 lo) == items.size)=true):=by
  intro q
  rw [Bool.and_eq_true,Bool.and_eq_true] at q
  have q1:((sIx items.size 0 lo:Nat):Int)=0:=eq_of_beq q.1.1
  have q2:sIx items.size items.size hi - sIx items.size 0 lo=items.size:=eq_of_beq q.2
  exact hw ⟨by omega,by omega⟩
 show wpAny _ _ (if (((sIx items.size 0 lo:Nat):Int) == 0 && (1:Int) == 1 && (sIx items.size items.size hi - sIx items.size 0 lo) == items.size)=true then _ else _) _ _ s
 rw [if_neg hno,qN]
 first
  | exact wpAny_bind (m:=Builtin.Tuple.tupleExact _) (wpAny_newObj_type (wpAny_pure ⟨_,rfl,wpAny_pure h⟩) htake)
  | exact wpAny_bind (m:=Builtin.Tuple.tupleExact _) (wpAny_newObj_type (wpAny_bind (wpAny_pure (wpAny_pure ⟨_,rfl,wpAny_pure h⟩))) htake)
  | exact wpAny_bind (wpAny_bind (m:=Builtin.Tuple.tupleExact _) (wpAny_newObj_type (wpAny_pure (wpAny_pure ⟨_,rfl,wpAny_pure h⟩)) htake))
  | exact wpAny_bind (wpAny_bind (m:=Builtin.Tuple.tupleExact _) (wpAny_newObj_type (wpAny_pure ⟨_,rfl,wpAny_pure h⟩) htake))
end
end HT
namespace L2
open PySem PySem.Spec PyProof.Rows
abbrev TO:=St→Hp→(Option Int→Hp→Prop)→Prop
def PO (X:Cx)(e:Option Expr)(t:TO):Prop :=
 ∀ (pins:List (Addr × Obj)) (s:Shared) (σ:St) (H:Hp) (Q:Option Int→Hp→Prop),Inv X pins σ H s→t σ H Q →
  wpAny (model X.prog X.w) X.A (evalPart e X.env) (fun u s'=>∃ o H',Inv X pins σ H' s'∧IsPart u o∧Q o H') X.xe s
def tS:TO:=fun _ H Q=>Q none H
inductive IsI (x:V)(H:Hp)(Q:Option Int→Hp→Prop):Prop
 | mk:∀ i,(x = .int i)→(Q (some i) H)→IsI x H Q
def qO (Q:(Option Int→Hp→Prop)):V→Hp→Prop:=fun x H1=>IsI x H1 Q
def xN (t:TE):TO:=fun σ H Q=>t σ H (qO Q)
section
variable {X:Cx} {e:Expr} {te:TE} {lo hi:Option Expr} {tl th:TO} {pos p2:Pos}
theorem aG:PO X none tS:=by
 intro pins s σ H Q I h
 rw [evalPart_none]
 exact wpAny_pure ⟨none,H,I,.none,h⟩
theorem aA (h:PE X e te):PO X (some e) (xN te):=by
 intro pins s σ H Q I hw
 rw [evalPart_some]
 refine thn (h pins s σ H _ I hw) fun u s1 zq62=>?_
 obtain ⟨x,H1,I1,r1,q1⟩:=zq62
 obtain ⟨i,rfl,q⟩:=q1
 obtain ⟨t,rfl⟩:=r1
 exact ⟨some i,H1,I1,.int i t,q⟩
def SlR (X:Cx)(r:V→Option Int→Option Int→Hp→VK→Prop):Prop :=
 ∀ (pins:List (Addr × Obj)) (s:Shared) (σ:St) (H:Hp) (x:V) (v vl vu:Value) (lo hi:Option Int) (sl:Addr) (Q:VK),Inv X pins σ H s→bC x v→s.heap.IsSliceOf sl vl vu .none→IsPart vl lo→IsPart vu hi→r x lo hi H Q →
  ∃ T id,typeLookup (.type T) "__getitem__" = pure (some (.builtin id))∧s.TypeIs v T∧wpAny (model X.prog X.w) X.A (getItem v (.ref sl)) (EP X pins σ Q) X.xe s
def vM (r:V→Option Int→Option Int→Hp→VK→Prop)(Q:VK)(x:V)(l:Option Int):Option Int→Hp→Prop:=fun u H3=>r x l u H3 Q
def vN (r:V→Option Int→Option Int→Hp→VK→Prop)(th:TO)(σ:St)(Q:VK)(x:V):Option Int→Hp→Prop:=fun l H2=>th σ H2 (vM r Q x l)
def vO (r:V→Option Int→Option Int→Hp→VK→Prop)(tl:TO)(th:TO)(σ:St)(Q:VK):V→Hp→Prop:=fun x H1=>tl σ H1 (vN r th σ Q x)
def tSl (r:V→Option Int→Option Int→Hp→VK→Prop)(te:TE)(tl th:TO):TE:=fun σ H Q=>te σ H (vO r tl th σ Q)
theorem aw {r:V→Option Int→Option Int→Hp→VK→Prop}(hr:SlR X r)(he:PE X e te)(hl:PO X lo tl)(hu:PO X hi th):PE X (.Subscript e (.Slice lo hi none p2) pos) (tSl r te tl th):=by
 intro pins s σ H Q I h
 refine Subscript_ (thn (he pins s σ H _ I h) fun v s1 zq63=>?_)
 obtain ⟨x,H1,I1,r1,q1⟩:=zq63
 refine wpAny_Slice (thn (hl pins s1 σ H1 _ I1 q1) fun vl s2 ⟨l,H2,I2,pl,q2⟩=>thn (hu pins s2 σ H2 _ I2 q2) fun vu s3 zq64=>?_)
 obtain ⟨u,H3,I3,pu,q3⟩:=zq64
 rw [evalPart_none]
 refine wpAny_pure ?_
 have I4:Inv X pins σ H3 { s3 with heap:=s3.heap.push { cls:=.type "slice",data:=.fields #[vl,vu,.none] } }:=I3.kept (t':=s3.toks) fun b ob q=>Heap.get?_push_of_some _ q
 obtain ⟨T,id,hT,ht,hg⟩:=hr pins { s3 with heap:=s3.heap.push { cls:=.type "slice",data:=.fields #[vl,vu,.none] } } σ H3 x v vl vu l u s3.heap.objs.size Q I4 r1 (Heap.IsSliceOf.new ..) pl pu q3
 show wpAny (model X.prog X.w) X.A (subscriptTail e (.Slice lo hi none p2) v (.ref s3.heap.objs.size)) (EP X pins σ Q) X.xe { s3 with heap:=s3.heap.push { cls:=.type "slice",data:=.fields #[vl,vu,.none] } }
 exact tail_any (ops:=[.ref s3.heap.objs.size,v]) ht hT hg (by with_unfolding_all rfl)
def jq (xs:List V)(lo hi:Option Int):List V:=(xs.drop (HT.sIx xs.length 0 lo)).take (HT.sIx xs.length xs.length hi - HT.sIx xs.length 0 lo)
theorem gh (xs:List V)(lo hi:Option Int):(jq xs lo hi).length≤xs.length:=by
 unfold jq
 rw [List.length_take,List.length_drop]
 omega
inductive yQ (K:PySem.W.Frag)(x:V)(lo:Option Int)(hi:Option Int)(H:Hp)(Q:VK):Prop
 | mk:∀ a xs,(x = .ref a)→(SqT K H a xs)→(¬ (HT.sIx xs.length 0 lo=0∧HT.sIx xs.length xs.length hi=xs.length))→(∀ p,H p=none→Q (.ref p) (upd H p (.tup (jq xs lo hi))))→yQ K x lo hi H Q
theorem vP:SlR X (yQ X.K):=by
 intro pins s σ H x v vl vu lo hi sl Q I rx hs pl pu h
 obtain ⟨a,xs,rfl,hx,hw,q⟩:=h
 cases rx
 obtain ⟨its,r,ht,hz⟩:=I.tuple hx
 have hlen:its.toArray.size=xs.length:=by rw [List.size_toArray];exact r.length.symm
 refine ⟨"tuple",_,PyProof.Rows.slot_tuple_getitem.lookup,ht.typeIs,?_⟩
 refine HT.eV ht hs pl pu (by rw [hlen];exact hw) ?_ (by rw [hlen];exact hz)
 rw [hlen]
 refine ⟨.ref s.heap.objs.size,_,I.laid (t':=s.toks) (o:=.tup (jq xs lo hi)) (fun b ob q=>Heap.get?_push_of_some _ q) (Nat.le_refl _) ?_,rfl,q _ (I.hok.fresh (Nat.le_refl _))⟩
 exact ⟨Nat.le_trans (gh xs lo hi) hz,_,(r.drop (HT.sIx xs.length 0 lo)).take (HT.sIx xs.length xs.length hi - HT.sIx xs.length 0 lo),IsTup.new _ _,.new _ _ rfl⟩
end
def ixN (n:Nat)(i:Int):Option Nat:=if 0≤i then (if i < n then some i.toNat else none) else if -(n:Int)≤i then some (i+n).toNat else none
def atI {α:Type}(xs:List α)(i:Int):Option α:=(ixN xs.length i).bind fun j=>xs[j]?
theorem tT {n:Nat}{i:Int}{j:Nat}(h:ixN n i=some j):seqIndex? i n=some j∧j < n∧-(n:Int)≤i∧i < n:=by
 unfold ixN at h
 by_cases h0:0≤i
 ·rw [if_pos h0] at h
  by_cases h1:i < n
  ·rw [if_pos h1] at h
   have e:i.toNat=j:=Option.some.inj h
   exact ⟨by rw [seqIndex_of h0 h1,e],by omega,by omega,h1⟩
  ·rw [if_neg h1] at h;cases h
 ·rw [if_neg h0] at h
  by_cases h1:-(n:Int)≤i
  ·rw [if_pos h1] at h
   have e:(i+n).toNat=j:=Option.some.inj h
   exact ⟨by rw [seqIndex_neg (by omega) h1,e],by omega,h1,by omega⟩
  ·rw [if_neg h1] at h;cases h
theorem km {α:Type}{xs:List α}{i:Int}{v:α}(h:atI xs i=some v):∃ j,seqIndex? i xs.length=some j∧xs[j]? = some v∧j < xs.length∧-(xs.length:Int)≤i∧i < xs.length:=by
 unfold atI at h
 cases e:ixN xs.length i with
 | none=>rw [e] at h;cases h
 | some j =>
  rw [e] at h
  obtain ⟨h1,h2,h3,h4⟩:=tT e
  exact ⟨j,h1,h,h2,h3,h4⟩
theorem bP {α:Type}{xs:List α}{j:Nat}{v:α}(h:xs[j]? = some v):atI xs (j:Int)=some v:=by
 have hj:j < xs.length:=(List.getElem?_eq_some_iff.mp h).1
 have e:ixN xs.length (j:Int)=some j:=by
  unfold ixN
  rw [if_pos (by omega),if_pos (by omega)];simp
 unfold atI;rw [e];exact h
def nO (b:Expr):Prop:=∀ o i,subscripted b false o i=operate [o,i] (getItem o i)
def IxR (X:Cx)(r:R2):Prop :=
 ∀ (value slice:Expr) (pins:List (Addr × Obj)) (s:Shared) (σ:St) (H:Hp) (x y:V) (v u:Value) (Q:VK),Inv X pins σ H s→bC x v→bC y u→r x y H Q →
  subscripted slice false v u=operate [v,u] (getItem v u)→wpAny (model X.prog X.w) X.A (subscriptTail value slice v u) (EP X pins σ Q) X.xe s
def MtR (X:Cx)(id:String)(r:V→List V→Hp→VK→Prop):Prop :=
 ∀ (pins:List (Addr × Obj)) (s:Shared) (σ:St) (H:Hp) (x:V) (xs:List V) (v:Value) (us:List Value) (Q:VK),Inv X pins σ H s→bC x v→bu xs us→r x xs H Q →
  wpAny (model X.prog X.w) X.A (call (.builtin id) (v::us)) (EP X pins σ Q) X.xe s
section
variable {X:Cx} {a b:Expr} {ta tb:TE} {pos:Pos}
theorem aW {r:R2}(hr:IxR X r)(ha:PE X a ta)(hb:PE X b tb)(hs:nO b):PE X (.Subscript a b pos) (tOp r ta tb):=by
 intro pins s σ H Q I h
 exact Subscript_ (xF ha hb I h fun v u s2 x y H2 I2 rx ry q=>hr a b pins s2 σ H2 x y v u Q I2 rx ry q (hs _ _))
inductive yR (K:PySem.W.Frag)(x:V)(y:V)(H:Hp)(Q:VK):Prop
 | mk:∀ p xs i v,(x = .ref p)→(y = .int i)→(SqL K H p xs)→(atI xs i=some v)→(Q v H)→yR K x y H Q
inductive yS (K:PySem.W.Frag)(x:V)(y:V)(H:Hp)(Q:VK):Prop
 | mk:∀ p xs i v,(x = .ref p)→(y = .int i)→(SqT K H p xs)→(atI xs i=some v)→(Q v H)→yS K x y H Q
inductive yT (x:V)(y:V)(H:Hp)(Q:VK):Prop
 | mk:∀ z i c,(x = .str z)→(y = .int i)→(z.length≤sizeLine)→(atI z.cps.toList i=some c)→(Q (.str ⟨#[c]⟩) H)→yT x y H Q
theorem cD:IxR X (yR X.K):=by
 intro value slice pins s σ H x y v u Q I rx ry h hs
 obtain ⟨p,xs,i,z,rfl,rfl,hq,he,q⟩:=h
 cases rx
 obtain ⟨t,rfl⟩:=ry
 obtain ⟨its,r,pl,hz⟩:=I.list hq
 obtain ⟨j,h1,h2,h3,h4,h5⟩:=km he
 obtain ⟨w,ew,rw'⟩:=r.get h2
 have hl:=r.length
 have hn:=f_
 have fin:EP X pins σ Q w s:=⟨z,H,I,rw',q⟩
 by_cases h0:0≤i
 ·have hj:i.toNat=j:=by
   rw [seqIndex_of h0 h5] at h1
   exact Option.some.inj h1
  exact item_listR pl.isList h0 (by omega) (by rw [hj];simpa using ew) fin hs
 ·have hj:(i+(its.toArray.size:Int)).toNat=j:=by
   rw [seqIndex_neg (by omega) h4] at h1
   rw [List.size_toArray,← hl]
   exact Option.some.inj h1
  exact subscriptTail_builtinR (x:=w) pl.isList.typeIs slot_list_getitem.lookup
   (wpAny_getItem_list_neg (Q:=fun r s'=>r=w∧EP X pins σ Q r s') pl.isList (by omega) (by rw [List.size_toArray] <;> omega) (by omega) (by rw [hj];simpa using ew) ⟨rfl,fin⟩) hs
theorem bb:IxR X (yS X.K):=by
 intro value slice pins s σ H x y v u Q I rx ry h hs
 obtain ⟨p,xs,i,z,rfl,rfl,hq,he,q⟩:=h
 cases rx
 obtain ⟨t,rfl⟩:=ry
 obtain ⟨its,r,pl,hz⟩:=I.tuple hq
 obtain ⟨j,h1,h2,h3,h4,h5⟩:=km he
 obtain ⟨w,ew,rw'⟩:=r.get h2
 have hl:=r.length
 have hn:=f_
 have fin:EP X pins σ Q w s:=⟨z,H,I,rw',q⟩
 exact subscriptTail_builtinR (x:=w) pl.typeIs slot_tuple_getitem.lookup
  (getItem_tuple (j:=j) (Q:=fun r s'=>r=w∧EP X pins σ Q r s') pl (by omega) (by omega) (by rw [List.size_toArray,← hl];exact h1) (by simpa using ew) ⟨rfl,fin⟩) hs
theorem cz:IxR X yT:=by
 intro value slice pins s σ H x y v u Q I rx ry h hs
 obtain ⟨z,i,c,rfl,rfl,hz,he,q⟩:=h
 obtain ⟨t,rfl⟩:=rx
 obtain ⟨t',rfl⟩:=ry
 obtain ⟨j,h1,h2,h3,h4,h5⟩:=km he
 have hl:z.cps.toList.length=z.length:=by simp [Str.length]
 rw [hl] at h1 h4 h5
 have hn:=f_
 exact tail_any (typeIs_str s z t) slot_str_getitem.lookup (getItem_str (c:=c) (by
  have e1:decide (i < -(2 ^ 63:Int))=false:=decide_eq_false (by omega)
  have e2:decide (i≥2 ^ 63)=false:=decide_eq_false (by omega)
  rw [e1,e2,Bool.or_false]) (by rw [h1];simpa using h2) ⟨.str ⟨#[c]⟩,H,I.tok _,⟨_,rfl⟩,q⟩) hs
theorem Inv.lst {pins:List (Addr × Obj)}{σ:St}{H:Hp}{s:Shared}{p:Addr}{xs:List V}(I:Inv X pins σ H s)(h:H p=some (.lst xs)) :
  ∃ (its:List Value) (n:Nat),bu xs its∧s.heap.get? p=some { cls:=.type "list",data:=.seq its.toArray n }∧xs.length≤sizeLine:=by
 obtain ⟨z,its,n,r,e⟩:=I.hok p _ h
 exact ⟨its,n,r,e,z⟩
theorem jr (lo hi:Option Int)(n:Nat):(sliceBounds lo hi none n).1=((HT.sIx n 0 lo:Nat):Int)∧(sliceBounds lo hi none n).2.1=((HT.sIx n n hi:Nat):Int)∧(sliceBounds lo hi none n).2.2=1:=by
 refine ⟨?_,?_,rfl⟩
 ·cases lo with
  | none=>simp [sliceBounds,HT.sIx]
  | some i =>
   simp only [sliceBounds,HT.sIx,Option.getD_none,show (1:Int) > 0 by decide,if_true]
   by_cases h:i < 0
   ·simp only [h,if_true] <;> omega
   ·simp only [h,if_false] <;> omega
 ·cases hi with
  | none=>simp [sliceBounds,HT.sIx]
  | some i =>
   simp only [sliceBounds,HT.sIx,Option.getD_none,show (1:Int) > 0 by decide,if_true]
   by_cases h:i < 0
   ·simp only [h,if_true] <;> omega
   ·simp only [h,if_false] <;> omega
theorem iF (its:List Value)(lo hi:Option Int):slicePick its.toArray lo hi none=((its.drop (HT.sIx its.length 0 lo)).take (HT.sIx its.length its.length hi - HT.sIx its.length 0 lo)).toArray:=by
 obtain ⟨h1,h2,h3⟩:=jr lo hi its.toArray.size
 unfold slicePick
 rw [h1,h2,h3]
 simp only [sliceRange_one,pick_run,List.size_toArray] <;> rfl
inductive yU (K:PySem.W.Frag)(x:V)(lo:Option Int)(hi:Option Int)(H:Hp)(Q:VK):Prop
 | mk:∀ a xs,(x = .ref a)→(SqL K H a xs)→(∀ p,H p=none→Q (.ref p) (upd H p (.lst (jq xs lo hi))))→yU K x lo hi H Q
theorem nP:SlR X (yU X.K):=by
 intro pins s σ H x v vl vu lo hi sl Q I rx hs pl pu h
 obtain ⟨a,xs,rfl,hx,q⟩:=h
 cases rx
 obtain ⟨its,r,ht,hz⟩:=I.list hx
 have hlen:=r.length
 refine ⟨"list",_,slot_list_getitem.lookup,ht.isList.typeIs,?_⟩
 refine wpAny_getItem_list_slice ht.isList hs pl pu .none (by simp) ?_ (by rw [List.size_toArray] <;> omega)
 rw [iF,← hlen]
 refine ⟨.ref s.heap.objs.size,_,I.laid (t':=s.toks) (o:=.lst (jq xs lo hi)) (fun b ob q=>Heap.get?_push_of_some _ q) (Nat.le_refl _) ?_,rfl,q _ (I.hok.fresh (Nat.le_refl _))⟩
 exact ⟨Nat.le_trans (gh xs lo hi) hz,_,0,(r.drop (HT.sIx xs.length 0 lo)).take (HT.sIx xs.length xs.length hi - HT.sIx xs.length 0 lo),Heap.get?_push_size _ rfl⟩
def iG:V→Bool
 | .non=>true
 | .bl _=>true
 | .int _=>true
 | .str _=>true
 | _=>false
def eqV:V→V→Bool
 | .non,.non=>true
 | .bl a,.bl b=>a == b
 | .bl a,.int b=>(if a then 1 else 0) == b
 | .int a,.bl b=>a == (if b then 1 else 0)
 | .int a,.int b=>a == b
 | .str a,.str b=>a == b
 | _,_=>false
theorem vQ {A:Around}{s:Shared}{y x:V}{u v:Value}(ry:bC y u)(rx:bC x v)(fy:iG y=true)(fx:iG x=true):SeqAt.EqAt A s u v (eqV y x):=by
 cases y with
 | non =>
  cases ry
  cases x with
  | non=>cases rx;exact SeqAt.EqAt.same _
  | bl b=>cases rx;exact SeqAt.EqAt.none_bool b
  | int b=>obtain ⟨t,rfl⟩:=rx;exact SeqAt.EqAt.none_int b t
  | str b=>obtain ⟨t,rfl⟩:=rx;exact SeqAt.EqAt.none_str b t
  | _=>exact absurd (show false=true from fx) Bool.false_ne_true
 | bl a =>
  cases ry
  cases x with
  | non=>cases rx;exact SeqAt.EqAt.bool_none a
  | bl b=>cases rx;exact SeqAt.EqAt.bool_bool a b
  | int b=>obtain ⟨t,rfl⟩:=rx;exact SeqAt.EqAt.bool_int a b t
  | str b=>obtain ⟨t,rfl⟩:=rx;exact SeqAt.EqAt.bool_str a b t
  | _=>exact absurd (show false=true from fx) Bool.false_ne_true
 | int a =>
  obtain ⟨t',rfl⟩:=ry
  cases x with
  | non=>cases rx;exact SeqAt.EqAt.int_none a t'
  | bl b=>cases rx;exact SeqAt.EqAt.int_bool a t' b
  | int b=>obtain ⟨t,rfl⟩:=rx;exact SeqAt.EqAt.int_int a t' b t
  | str b=>obtain ⟨t,rfl⟩:=rx;exact SeqAt.EqAt.int_str a t' b t
  | _=>exact absurd (show false=true from fx) Bool.false_ne_true
 | str a =>
  obtain ⟨t',rfl⟩:=ry
  cases x with
  | non=>cases rx;exact SeqAt.EqAt.str_none a t'
  | bl b=>cases rx;exact SeqAt.EqAt.str_bool a t' b
  | int b=>obtain ⟨t,rfl⟩:=rx;exact SeqAt.EqAt.str_int a t' b t
  | str b=>obtain ⟨t,rfl⟩:=rx;exact SeqAt.EqAt.str_str a t' b t
  | _=>exact absurd (show false=true from fx) Bool.false_ne_true
 | _=>exact absurd (show false=true from fy) Bool.false_ne_true
def eqU (x:V)(u:Value):Bool:=match u with
 | .none=>eqV .non x
 | .bool b=>eqV (.bl b) x
 | .int i _=>eqV (.int i) x
 | .str z _=>eqV (.str z) x
 | _=>false
theorem sQ {x y:V}{u:Value}(r:bC y u)(f:iG y=true):eqU x u=eqV y x:=by
 cases y with
 | non=>cases r;rfl
 | bl b=>cases r;rfl
 | int i=>obtain ⟨t,rfl⟩:=r;rfl
 | str z=>obtain ⟨t,rfl⟩:=r;rfl
 | _=>exact absurd (show false=true from f) Bool.false_ne_true
theorem ko {x:V}:∀ {xs:List V} {us:List Value},bu xs us→xs.all iG=true→us.any (eqU x)=xs.any fun y=>eqV y x
 | _,_,.nil,_=>rfl
 | y::xs,u::us,.cons r t,f=>by
  rw [List.all_cons,Bool.and_eq_true] at f
  rw [List.any_cons,List.any_cons,sQ r f.1,ko t f.2]
theorem iH {A:Around}{s:Shared}{x:V}{v:Value}(rx:bC x v)(fx:iG x=true):∀ {xs:List V} {us:List Value},bu xs us→xs.all iG=true→∀ u∈us,SeqAt.EqAt A s u v (eqU x u)
 | _,_,.nil,_=>fun u hu=>by cases hu
 | y::xs,u::us,.cons r t,f=>fun u' hu=>by
  rw [List.all_cons,Bool.and_eq_true] at f
  rcases List.mem_cons.mp hu with rfl | hu
  ·rw [sQ r f.1];exact vQ r rx f.1 fx
  ·exact iH rx fx t f.2 u' hu
def inV (x:V)(xs:List V):Bool:=xs.any fun y=>eqV y x
inductive rIn (K:PySem.W.Frag)(neg:Bool)(x:V)(y:V)(H:Hp)(Q:VK):Prop
 | mk:∀ p xs,(y = .ref p)→((SqL K H p xs ∨ SqT K H p xs))→(iG x=true)→(xs.all iG=true)→(Q (.bl (if neg then !inV x xs else inV x xs)) H)→rIn K neg x y H Q
theorem js:OpR X (compareOp .NotIn) (rIn X.K true):=by
 intro pins s σ H x y v u Q I rx ry h
 obtain ⟨p,xs,rfl,hq,fx,fs,q⟩:=h
 cases ry
 rcases hq with hq | hq
 ·obtain ⟨its,r,pl,hz⟩:=I.list hq
  refine SeqAt.notIn_listAt (eqU x) pl.isList (fun w hw=>iH rx fx r fs w (by simpa using hw)) ⟨.bl _,H,I,rfl,?_⟩
  rw [show its.toArray.any (eqU x)=its.any (eqU x) by simp,ko r fs]
  exact q
 ·obtain ⟨its,r,pl,hz⟩:=I.tuple hq
  refine SeqAt.notIn_tupleAt (eqU x) pl (fun w hw=>iH rx fx r fs w (by simpa using hw)) ⟨.bl _,H,I,rfl,?_⟩
  rw [show its.toArray.any (eqU x)=its.any (eqU x) by simp,ko r fs]
  exact q
inductive dO (K:PySem.W.Frag)(xs:List V)(H:Hp)(Q:VK):Prop
 | mk:∀ p ys,(xs=[.ref p])→((SqL K H p ys ∨ SqT K H p ys))→(Q (.int ys.length) H)→dO K xs H Q
theorem bF:cx X (.builtin "len") (dO X.K):=by
 intro pins s σ H xs us Q I r h
 obtain ⟨p,ys,rfl,hq,q⟩:=h
 obtain ⟨u,rfl,rx⟩:=cP r
 cases rx
 have hn:=f_
 rcases hq with hq | hq
 ·obtain ⟨its,r',pl,hz⟩:=I.list hq
  have hlen:=r'.length
  exact Calls.call_len_list pl.isList (by simp only [List.size_toArray] <;> omega) ⟨.int ys.length,H,I.tok _,⟨s.toks+1,by rw [List.size_toArray,hlen]⟩,q⟩
 ·obtain ⟨its,r',pl,hz⟩:=I.tuple hq
  have hlen:=r'.length
  exact len_tuple pl (by simp only [List.size_toArray] <;> omega) ⟨.int ys.length,H,I.tok _,⟨s.toks+1,by rw [List.size_toArray,hlen]⟩,q⟩
inductive dP  (xs:List V)(H:Hp)(Q:VK):Prop
 | mk:∀ z,(xs=[.str z])→(z.length≤sizeLine)→(Q (.int z.length) H)→dP xs H Q
theorem av:cx X (.builtin "len") dP:=by
 intro pins s σ H xs us Q I r h
 obtain ⟨z,rfl,hz,q⟩:=h
 obtain ⟨u,rfl,t,rfl⟩:=cP r
 have hn:=f_
 exact len_str (by omega) ⟨.int z.length,H,I.tok _,⟨_,rfl⟩,q⟩
inductive dQ (K:PySem.W.Frag)(xs:List V)(H:Hp)(Q:VK):Prop
 | mk:∀ p ys,(xs=[.ref p])→((SqL K H p ys ∨ SqT K H p ys))→(∀ l,H l=none→Q (.ref l) (upd H l (.lst ys)))→dQ K xs H Q
theorem jt:cx X (.type "list") (dQ X.K):=by
 intro pins s σ H xs us Q I r h
 obtain ⟨p,ys,rfl,hq,q⟩:=h
 obtain ⟨u,rfl,rx⟩:=cP r
 cases rx
 have fin:∀ (its:List Value),bu ys its→ys.length≤sizeLine→∀ (h':Heap) (c':Nat),(∀ b o',s.heap.get? b=some o'→h'.get? b=some o') →
   h'.get? s.heap.objs.size=some { cls:=.type "list",dict:=none,data:=.seq its.toArray c',slots:=#[] }→EP X pins σ Q (.ref s.heap.objs.size) { s with heap:=h' }:=fun its r' hz h' c' kp e =>
  ⟨.ref s.heap.objs.size,_,I.laid (t':=s.toks) kp (Nat.le_refl _) (show bH X.prog X.w _ h' _ (.lst ys) from ⟨hz,its,c',r',e⟩),rfl,q _ (I.hok.fresh (Nat.le_refl _))⟩
 rcases hq with hq | hq
 ·obtain ⟨its,r',pl,hz⟩:=I.list hq
  have hlen:=r'.length
  obtain ⟨o,ho,hc,n,hd⟩:=pl.isList
  exact call_list_seq p (.inl rfl) ho hc hd (fun h' c' kp e=>fin its r' hz h' c' kp e) (by simp only [List.size_toArray] <;> omega)
 ·obtain ⟨its,r',pl,hz⟩:=I.tuple hq
  have hlen:=r'.length
  obtain ⟨o,ho,hc,n,hd⟩:=pl
  exact call_list_seq p (.inr rfl) ho hc hd (fun h' c' kp e=>fin its r' hz h' c' kp e) (by simp only [List.size_toArray] <;> omega)
inductive di (K:PySem.W.Frag)(xs:List V)(H:Hp)(Q:VK):Prop
 | mk:∀ p ys,(xs=[.ref p])→(((SqL K H p ys∧∀ l,H l=none→Q (.ref l) (upd H l (.tup ys))) ∨ (SqT K H p ys∧Q (.ref p) H)))→di K xs H Q
theorem bW:cx X (.type "tuple") (di X.K):=by
 intro pins s σ H xs us Q I r h
 obtain ⟨p,ys,rfl,h⟩:=h
 obtain ⟨u,rfl,rx⟩:=cP r
 cases rx
 rcases h with ⟨hq,q⟩ | ⟨hq,q⟩
 ·obtain ⟨its,r',pl,hz⟩:=I.list hq
  have hlen:=r'.length
  refine call_tuple_list pl.isList (fun h' kp=>?_) (by simp only [List.size_toArray] <;> omega)
  have I1:Inv X pins σ H { s with heap:=h' }:=I.kept (t':=s.toks) kp
  have I2:Inv X pins σ (upd H h'.objs.size (.tup ys)) { s with heap:=h'.push { cls:=.type "tuple",data:=.seq its.toArray } } :=
   I1.laid (t':=s.toks) (fun b o e=>Heap.get?_push_of_some _ e) (Nat.le_refl _) (show bH X.prog X.w _ _ _ (.tup ys) from ⟨hz,its,r',IsTup.new _ _,.new _ _ rfl⟩)
  exact ⟨.ref h'.objs.size,_,I2,rfl,q _ (I1.hok.fresh (Nat.le_refl _))⟩
 ·obtain ⟨its,r',pl,hz⟩:=I.tuple hq
  exact call_tuple_same pl ⟨.ref p,H,I,rfl,q⟩
def tyV (K:PySem.W.Frag)(T:String)(x:V)(H:Hp):Prop:=match x with
 | .str _=>T = "str"
 | .int _=>T = "int"
 | .ref p=>(T = "list"∧∃ xs,SqL K H p xs) ∨ (T = "tuple"∧((∃ o,K.lookup p=some o∧o.cls = .type "tuple"∧o.dict=none) ∨ ∃ xs,H p=some (.tup xs))) ∨
   (T = "dict"∧((∃ kvs,H p=some (.dK kvs)) ∨ ∃ kvs,H p=some (.dT kvs))) ∨ (T = "set"∧∃ S n,H p=some (.set S n))
 | _=>False
theorem sR {pins:List (Addr × Obj)}{σ:St}{H:Hp}{s:Shared}{T:String}{x:V}{v:Value}(I:Inv X pins σ H s)(r:bC x v)(ty:tyV X.K T x H) :
  s.TypeIs v T∧∀ a,v = .ref a→∃ ob,s.heap.get? a=some ob∧ob.dict=none:=by
 cases x with
 | str z =>
  obtain ⟨t,rfl⟩:=r
  cases (show T = "str" from ty)
  exact ⟨typeIs_str s z t,fun _ e=>nomatch e⟩
 | int i =>
  obtain ⟨t,rfl⟩:=r
  cases (show T = "int" from ty)
  exact ⟨typeIs_int s i t,fun _ e=>nomatch e⟩
 | ref p =>
  cases r
  rcases ty with ⟨rfl,xs,hq⟩ | ⟨rfl,⟨o,hk,hc,hd⟩ | ⟨xs,hk⟩⟩ | ⟨rfl,hk⟩ | ⟨rfl,S,n,hk⟩
  ·obtain ⟨its,_,pl,_⟩:=I.list hq
   refine ⟨pl.isList.typeIs,fun a e=>?_⟩
   cases e
   obtain ⟨o,n,e,c,hd,_⟩:=pl
   exact ⟨o,e,hd⟩
  ·refine ⟨⟨o,I.kIn p o hk,hc⟩,fun a e=>?_⟩
   cases e
   exact ⟨o,I.kIn _ o hk,hd⟩
  ·obtain ⟨_,_,_,⟨o,e,hc,_⟩,hn⟩:=I.hok p _ hk
   refine ⟨⟨o,e,hc⟩,fun a e=>?_⟩
   cases e
   exact hn
  ·have z:∃ o,s.heap.get? p=some o∧o.ExactDict:=by
    rcases hk with ⟨kvs,hk⟩ | ⟨kvs,hk⟩
    ·obtain ⟨_,_,_,_,o,_,_,e,ex,_⟩:=I.hok p _ hk
     exact ⟨o,e,ex⟩
    ·obtain ⟨_,_,_,_,o,_,_,e,ex,_⟩:=I.hok p _ hk
     exact ⟨o,e,ex⟩
   obtain ⟨o,e,ex⟩:=z
   refine ⟨⟨o,e,ex.1⟩,fun a e2=>?_⟩
   cases e2
   exact ⟨o,e,ex.2.1⟩
  ·obtain ⟨o,_,_,_,e,ex,_⟩:=I.hok p _ hk
   refine ⟨⟨o,e,ex.1⟩,fun a e2=>?_⟩
   cases e2
   exact ⟨o,e,ex.2.1⟩
 | _=>exact False.elim ty
def tU (K:PySem.W.Frag)(T:String)(r:V→List V→Hp→VK→Prop)(Q:VK):V→Hp→Prop:=fun x H1=>tyV K T x H1∧r x [] H1 Q
def zy (K:PySem.W.Frag)(T:String)(r:V→List V→Hp→VK→Prop)(to:TE):TE:=fun σ H Q=>to σ H (tU K T r Q)
def vR (r:V→List V→Hp→VK→Prop)(Q:VK)(x:V):List V→Hp→Prop:=fun xs H2=>r x xs H2 Q
def vS (K:PySem.W.Frag)(T:String)(r:V→List V→Hp→VK→Prop)(t:TA)(σ:St)(Q:VK):V→Hp→Prop:=fun x H1=>tyV K T x H1∧t σ H1 (vR r Q x)
def tBM (K:PySem.W.Frag)(T:String)(r:V→List V→Hp→VK→Prop)(to:TE)(t:TA):TE:=fun σ H Q=>to σ H (vS K T r t σ Q)
variable {o e:Expr} {es:List Expr} {to:TE} {t:TA} {name:Str} {apos cpos:Pos} {T id:String} {r:V→List V→Hp→VK→Prop}
theorem nQ (pa:PlainAttrs T)(slot:Slot T name id)(hty:typeOf (.builtin id)=pure (.type "method_descriptor"))(hm:MtR X id r)(ho:PE X o to)
  (hbase:attributeBase o name X.env (eval o X.env)=eval o X.env:=by rfl) (hline:(apos.endLine == cpos.line)=true:=by rfl):PE X (.Call (.Attribute o name apos) [] [] cpos) (zy X.K T r to):=by
 intro pins s σ H Q I h
 refine wpAny_Call_method0_late hbase hline (thn (ho pins s σ H _ I h) fun v s1 zq65=>?_)
 obtain ⟨x,H1,I1,r1,ty,q1⟩:=zq65
 obtain ⟨h1,h2⟩:=sR I1 r1 ty
 exact ⟨T,id,pa,slot,hty,h1,h2,Calls.callWith_builtin rfl (PySem.evalArgs_none (hm pins s1 σ H1 x [] v [] Q I1 r1 .nil q1))⟩
theorem gi (pa:PlainAttrs T)(slot:Slot T name id)(hty:typeOf (.builtin id)=pure (.type "method_descriptor"))(hm:MtR X id r)(ho:PE X o to)(ha:PA X (e::es) t)
  (hbase:attributeBase o name X.env (eval o X.env)=eval o X.env:=by rfl)
  (hfew:((backTo cpos (starEach (e::es) X.env)).all (fun x=>!x.1) && (backToKw cpos (keywordEach [] X.env)).all (fun x=>x.1.isSome)
   && decide ((e::es).length+([]:List Keyword).length+(if ([]:List Keyword).isEmpty then 0 else 1) < 30))=true:=by rfl)
  (hline:(apos.endLine == cpos.line)=true:=by rfl) (hs:starEach (e::es) X.env=(false,eval e X.env)::starEach es X.env:=by rfl) (hplain:(backTo cpos (starEach es X.env)).any (·.1)=false:=by rfl) :
  PE X (.Call (.Attribute o name apos) (e::es) [] cpos) (tBM X.K T r to t):=by
 intro pins s σ H Q I h
 refine wpAny_Call_method_late hbase hfew hline rfl (thn (ho pins s σ H _ I h) fun v s1 zq66=>?_)
 obtain ⟨x,H1,I1,r1,ty,q1⟩:=zq66
 obtain ⟨h1,h2⟩:=sR I1 r1 ty
 refine ⟨T,id,pa,slot,hty,h1,h2,?_⟩
 have hA:=ha cpos pins s1 σ H1 _ I1 q1
 rw [hs] at hA ⊢
 refine Calls.callWith_builtin (by show (false || (backTo cpos (starEach es X.env)).any (·.1))=false;rw [hplain] <;> rfl) (Calls.evalArgs_plain ?_)
 exact thn hA fun us s2 zq67=>(by obtain ⟨vs,H2,I2,r2,q2⟩:=zq67;exact hm pins s2 σ H2 x vs v us Q I2 r1 r2 q2)
/- xs.append(e),list.index on a module's tuple .. are MtR facts of 06m -/
end
def MtM (X:Cx)(id:String)(r:V→List V→Hp→VK→Prop):Prop :=
 ∀ (pins:List (Addr × Obj)) (s:Shared) (σ:St) (H:Hp) (x:V) (xs:List V) (v:Value) (us:List Value) (Q:VK),Inv X pins σ H s→bC x v→bu xs us→r x xs H Q →
  wpAny (model X.prog X.w) X.A (call (.builtin id) (v::us)) (EP X pins σ Q) X.xe s
theorem bu.one:∀ {x:V} {us:List Value},bu [x] us→∃ u,us=[u]∧bC x u
 | _,_,.cons r .nil=>⟨_,rfl,r⟩
theorem bu.rep {xs:List V}{us:List Value}(h:bu xs us):∀ k:Nat,bu (List.replicate k xs).flatten (List.replicate k us).flatten
 | 0=>.nil
 | k+1=>by
  rw [List.replicate_succ,List.replicate_succ,List.flatten_cons,List.flatten_cons]
  exact bu.append h (bu.rep h k)
theorem ju (its:List Value):∀ (k:Nat) (acc:List Value),
  List.foldl (fun x1 x2=>x1++x2) acc.toArray (List.replicate k its.toArray)=(acc++(List.replicate k its).flatten).toArray
 | 0,acc=>by simp
 | k+1,acc=>by
  have e:acc.toArray++its.toArray=(acc++its).toArray:=by simp
  have e2:(acc++its)++(List.replicate k its).flatten=acc++(List.replicate (k+1) its).flatten:=by
   rw [List.replicate_succ,List.flatten_cons,List.append_assoc]
  rw [← e2,← ju its k (acc++its),← e,List.replicate_succ,List.foldl_cons]
section
variable {X:Cx} {pins:List (Addr × Obj)} {σ:St} {H:Hp} {s:Shared} {l b:Addr} {xs ys zs:List V}
theorem Inv.lset {its its':List Value}{n:Nat}{f:Array Value→Array Value}{t':Nat}(I:Inv X pins σ H s)(hH:H l=some (.lst xs))
  (e:s.heap.get? l=some { cls:=.type "list",data:=.seq its.toArray n }) (hf:f its.toArray=its'.toArray) (hv:bu ys its') (hz:ys.length≤sizeLine) :
  Inv X pins σ (upd H l (.lst ys)) { s with heap:=s.heap.update l (Obj.mapSeq f),toks:=t' }:=by
 have q:=PySem.IsL.update e f
 rw [hf] at q
 refine I.write (x:=l) (e:=l) (by rw [hH];exact trivial) (.inl rfl) (fun b' u hb hu=>(Heap.get?_update_other s.heap (Obj.mapSeq f) (Ne.symm hb)).trans hu) ⟨_,q⟩ ?_
 exact ⟨hz,its',_,hv,q⟩
theorem Inv.lnew {its:List Value}{t':Nat}(I:Inv X pins σ H s)(hv:bu ys its)(hz:ys.length≤sizeLine) :
  Inv X pins σ (upd H s.heap.objs.size (.lst ys)) { s with heap:=s.heap.push { cls:=.type "list",data:=.seq its.toArray },toks:=t' } :=
 I.laid (fun _ _ q=>Heap.get?_push_of_some _ q) (Nat.le_refl _) ⟨hz,its,0,hv,Heap.get?_push_size _ rfl⟩
theorem Inv.fresh (I:Inv X pins σ H s):H s.heap.objs.size=none:=I.hok.fresh (Nat.le_refl _)
theorem Inv.lstM (I:Inv X pins σ H s)(hH:H l=some (.lst xs)):xs.length≤sizeLine∧∃ (its:List Value) (n:Nat),bu xs its∧xs.length=its.length∧s.heap.get? l=some { cls:=.type "list",data:=.seq its.toArray n }:=by
 obtain ⟨z,its,n,r,e⟩:=I.hok l _ hH
 exact ⟨z,its,n,r,r.length,e⟩
theorem lC {n:Nat}(h:n≤sizeLine):Builtin.List.listTooLong n=false:=by
 unfold Builtin.List.listTooLong
 exact decide_eq_false (by omega)
end
section
variable {X:Cx}
inductive nR (x:V)(vs:List V)(H:Hp)(Q:VK):Prop
 | mk:∀ l xs y,(x = .ref l)→(vs=[y])→(H l=some (.lst xs))→(xs.length < sizeLine)→(Q .non (upd H l (.lst (xs++[y]))))→nR x vs H Q
theorem cj:MtM X "list.append" nR:=by
 intro pins s σ H x vs v us Q I rx rv h
 obtain ⟨l,xs,y,rfl,rfl,hH,hz,q⟩:=h
 cases rx
 obtain ⟨u,rfl,ru⟩:=rv.one
 obtain ⟨z,its,n,r,hl,e⟩:=I.lstM hH
 refine call_meets F.slot_list_append ⟨_,e,rfl⟩ F.entry_list_append (F.args_list_append_2 _ _) (PySem.list_append l its.toArray n u (by rw [List.size_toArray];omega)) ⟨e,?_⟩
 refine ⟨.non,_,I.lset (its':=its++[u]) hH e (by simp) (r.append (.cons ru .nil)) ?_,rfl,q⟩
 rw [List.length_append,List.length_singleton]
 omega
inductive nS (x:V)(vs:List V)(H:Hp)(Q:VK):Prop
 | mk:∀ l b xs zs,(x = .ref l)→(vs=[.ref b])→(H l=some (.lst xs))→(H b=some (.lst zs))→(xs.length+zs.length≤sizeLine)→(Q .non (upd H l (.lst (xs++zs))))→nS x vs H Q
theorem jv:MtM X "list.extend" nS:=by
 intro pins s σ H x vs v us Q I rx rv h
 obtain ⟨l,b,xs,zs,rfl,rfl,hH,hB,hz,q⟩:=h
 cases rx
 obtain ⟨u,rfl,ru⟩:=rv.one
 cases ru
 obtain ⟨z,its,n,r,hl,e⟩:=I.lstM hH
 obtain ⟨z2,its2,n2,r2,hl2,e2⟩:=I.lstM hB
 have hsz:its.toArray.size+its2.toArray.size≤sizeLine:=by rw [List.size_toArray,List.size_toArray];omega
 have hlong:¬ (!its.toArray.isEmpty && Builtin.List.listTooLong (its.toArray.size+its2.toArray.size))=true:=by
  rw [lC hsz,Bool.and_false]
  exact Bool.false_ne_true
 refine call_meets F.slot_list_extend ⟨_,e,rfl⟩ F.entry_list_extend (F.args_list_extend_2 _ _)
  (AutoSeq1.list_extend_list_list_0 l its.toArray n b its2.toArray n2 hlong (by rw [List.size_toArray];omega) (by omega)) ⟨e,e2,?_⟩
 refine ⟨.non,_,I.lset (its':=its++its2) hH e (by simp) (r.append r2) ?_,rfl,q⟩
 rw [List.length_append]
 omega
inductive yV (x:V)(y:V)(H:Hp)(Q:VK):Prop
 | mk:∀ l b xs zs,(x = .ref l)→(y = .ref b)→(H l=some (.lst xs))→(H b=some (.lst zs))→(xs.length+zs.length≤sizeLine)→(∀ p,H p=none→Q (.ref p) (upd H p (.lst (xs++zs))))→yV x y H Q
theorem lF:OpR X (binaryOp .Add) yV:=by
 intro pins s σ H x y v u Q I rx ry h
 obtain ⟨l,b,xs,zs,rfl,rfl,hH,hB,hz,q⟩:=h
 cases rx
 cases ry
 obtain ⟨z,its,n,r,hl,e⟩:=I.lstM hH
 obtain ⟨z2,its2,n2,r2,hl2,e2⟩:=I.lstM hB
 refine PySem.P.add_list e e2 ?_ (by rw [List.size_toArray,List.size_toArray];omega)
 have ea:its.toArray++its2.toArray=(its++its2).toArray:=by simp
 rw [ea]
 exact ⟨.ref _,_,I.lnew (t':=s.toks) (r.append r2) (by rw [List.length_append];omega),rfl,q _ I.fresh⟩
inductive yW (x:V)(y:V)(H:Hp)(Q:VK):Prop
 | mk:∀ l k xs,(x = .ref l)→(y = .int k)→(H l=some (.lst xs))→(-(2 ^ 63)≤k)→(k < 2 ^ 63)→(xs.length*k.toNat≤sizeLine)→(∀ p,H p=none→Q (.ref p) (upd H p (.lst (List.replicate k.toNat xs).flatten)))→yW x y H Q
theorem tV {α:Type}(xs:List α)(k:Nat):(List.replicate k xs).flatten.length=k*xs.length:=by
 induction k with
 | zero=>simp
 | succ k ih=>rw [List.replicate_succ,List.flatten_cons,List.length_append,ih,Nat.succ_mul,Nat.add_comm]
theorem vT:OpR X (binaryOp .Mult) yW:=by
 intro pins s σ H x y v u Q I rx ry h
 obtain ⟨l,k,xs,rfl,rfl,hH,h1,h2,hz,q⟩:=h
 cases rx
 obtain ⟨t,rfl⟩:=ry
 obtain ⟨z,its,n,r,hl,e⟩:=I.lstM hH
 have hlen:its.toArray.size*k.toNat≤sizeLine:=by rw [List.size_toArray,← hl];exact hz
 have hcap:¬ its.toArray.size*k.toNat > (2 ^ 63 - 1) / 8:=by
  have:(sizeLine:Nat)≤(2 ^ 63 - 1) / 8:=by decide
  omega
 have hfit:¬ (!Builtin.List.listFitsIndex k)=true:=by
  rw [fitsIndex_both h1 h2]
  exact Bool.false_ne_true
 have hlong:¬ Builtin.List.listTooLong (its.toArray.size*k.toNat)=true:=by
  rw [lC hlen]
  exact Bool.false_ne_true
 have hnew:List.foldl (fun x1 x2=>x1++x2) #[] (List.replicate (if its.toArray.isEmpty=true then 0 else k.toNat) its.toArray)=(List.replicate k.toNat its).flatten.toArray:=by
  have f0:∀ m:Nat,List.foldl (fun x1 x2=>x1++x2) #[] (List.replicate m its.toArray)=(List.replicate m its).flatten.toArray:=fun m=>by
   have:=ju its m []
   rw [List.nil_append] at this
   exact this
  rw [f0]
  cases its with
  | nil=>simp
  | cons a r'=>rw [if_neg (by simp)]
 refine wpAny_binaryOp_repeat_ref (T:="list") (U:="int") (by decide) ⟨_,e,rfl⟩ (fun s'=>typeIs_int s' k t) noFill_list_mul F.fills_int_mul F.slot_int_rmul repeat_list F.slot_int_index.lookup
  (call_meets F.slot_int_rmul (typeIs_int s k t) F.entry_int_rmul (F.args_int_rmul_2 _ _) (int___rmul___int_list k t l its.toArray n)
   ⟨e,rfl,⟨_,e,rfl⟩,call_meets F.slot_list_mul ⟨_,e,rfl⟩ F.entry_list_mul (F.args_list_mul_2 _ _) (AutoListH.list___mul___list_int_3 l its.toArray n k t hfit hcap hlong) ⟨e,?_⟩⟩)
 rw [hnew]
 exact ⟨.ref _,_,I.lnew (t':=s.toks) (r.rep k.toNat) (by rw [tV,Nat.mul_comm];exact hz),rfl,q _ I.fresh⟩
end
section
variable {prog:Program} {w:World} {A:Around} {E:Value→Shared→Prop} {s:Shared}
end
section
variable {X:Cx}
end
section
variable {κ:Type} [DecidableEq κ]
def dj (kvs:List (κ × V))(k:κ):Option V:=(kvs.find? fun kv=>decide (kv.1=k)).map (·.2)
def eW (kvs:List (κ × V))(k:κ)(v:V):List (κ × V) :=
 if (kvs.any fun kv=>decide (kv.1=k))=true then kvs.map (fun kv=>if kv.1=k then (kv.1,v) else kv) else kvs++[(k,v)]
theorem bK {p:κ × V}{r:List (κ × V)}{k:κ}(e:p.1=k):dj (p::r) k=some p.2:=by simp [dj,List.find?_cons,e]
theorem bL {p:κ × V}{r:List (κ × V)}{k:κ}(e:¬ p.1=k):dj (p::r) k=dj r k:=by simp [dj,List.find?_cons,e]
theorem fJ (k:κ):∀ kvs:List (κ × V),(kvs.any fun kv=>decide (kv.1=k))=(dj kvs k).isSome
 | []=>rfl
 | p::r=>by
  rw [List.any_cons]
  by_cases e:p.1=k
  ·simp only [bK e,decide_eq_true e,Bool.true_or,Option.isSome_some]
  ·rw [bL e,decide_eq_false e,Bool.false_or];exact fJ k r
theorem lG (k j:κ)(y:V):∀ kvs:List (κ × V),dj (kvs.map fun kv=>if kv.1=k then (kv.1,y) else kv) j=(dj kvs j).map fun x=>if j=k then y else x
 | []=>rfl
 | p::r=>by
  have ih:=lG k j y r
  rw [List.map_cons]
  by_cases h:p.1=k
  ·rw [if_pos h]
   by_cases e:p.1=j
   ·rw [bK (p:=(p.1,y)) e,bK e,Option.map_some,if_pos (e.symm.trans h)]
   ·rw [bL (p:=(p.1,y)) e,bL e,ih]
  ·rw [if_neg h]
   by_cases e:p.1=j
   ·rw [bK (p:=p) e,bK e,Option.map_some,if_neg (fun z=>h (e.trans z))]
   ·rw [bL (p:=p) e,bL e,ih]
theorem jw (k j:κ)(y:V):∀ kvs:List (κ × V),dj kvs k=none→dj (kvs++[(k,y)]) j=if j=k then some y else dj kvs j
 | [],_=>by
  by_cases e:k=j
  ·rw [if_pos e.symm];exact bK (p:=(k,y)) e
  ·rw [if_neg (fun z=>e z.symm)];exact bL (p:=(k,y)) e
 | p::r,hn=>by
  rw [List.cons_append]
  have hk:¬ p.1=k:=fun z=>by rw [bK z] at hn;cases hn
  rw [bL hk] at hn
  have ih:=jw k j y r hn
  by_cases e:p.1=j
  ·rw [bK e,bK e,if_neg (fun z=>hk (e.trans z))]
  ·rw [bL e,bL e,ih]
theorem qP (kvs:List (κ × V))(k j:κ)(y:V):dj (eW kvs k y) j=if j=k then some y else dj kvs j:=by
 unfold eW
 by_cases a:(kvs.any fun kv=>decide (kv.1=k))=true
 ·rw [if_pos a,lG]
  rw [fJ] at a
  by_cases e:j=k
  ·obtain ⟨x,hx⟩:=Option.isSome_iff_exists.mp a
   rw [if_pos e,e,hx,Option.map_some,if_pos rfl]
  ·rw [if_neg e]
   cases dj kvs j with
   | none=>rfl
   | some x=>rw [Option.map_some,if_neg e]
 ·rw [if_neg a]
  refine jw k j y kvs ?_
  rw [fJ] at a
  cases q:dj kvs k with
  | none=>rfl
  | some x=>rw [q] at a;exact (a rfl).elim
theorem cR (kvs:List (κ × V))(k:κ)(v:V):(eW kvs k v).length≤kvs.length+1:=by
 unfold eW
 split
 ·rw [List.length_map];omega
 ·rw [List.length_append,List.length_cons,List.length_nil];omega
theorem kX.isSome_eq {o:Option V}{u:Option Value}(r:kX o u):o.isSome=u.isSome:=by
 cases o with
 | none=>cases u with
  | none=>rfl
  | some _=>exact (show False from r).elim
 | some _=>cases u with
  | none=>exact (show False from r).elim
  | some _=>rfl
theorem kX.getD {o:Option V}{u:Option Value}{d:V}{d':Value}(r:kX o u)(rd:bC d d'):bC (o.getD d) (u.getD d'):=by
 cases o with
 | none=>cases u with
  | none=>exact rd
  | some _=>exact (show False from r).elim
 | some _=>cases u with
  | none=>exact (show False from r).elim
  | some _=>exact r
theorem KV.val {kvs:List (κ × V)}{vs:List (κ × Value)}(r:KV kvs vs)(k:κ):kX (dj kvs k) (valueAt vs k):=by
 unfold KV at r
 induction r with
 | nil=>exact True.intro
 | @cons p q ps qs h t ih =>
  obtain ⟨h1,h2⟩:=h
  by_cases e:p.1=k
  ·have e':q.1=k:=h1.symm.trans e
   have b:valueAt (q::qs) k=some q.2:=by simp [valueAt,List.find?_cons,e']
   rw [bK e,b];exact h2
  ·have e':¬ q.1=k:=fun z=>e (h1.trans z)
   have b:valueAt (q::qs) k=valueAt qs k:=by simp [valueAt,List.find?_cons,e']
   rw [bL e,b];exact ih
theorem KV.any {kvs:List (κ × V)}{vs:List (κ × Value)}(r:KV kvs vs)(k:κ):(kvs.any fun kv=>decide (kv.1=k))=vs.any fun kv=>decide (kv.1=k):=by
 unfold KV at r
 induction r with
 | nil=>rfl
 | cons h t ih=>rw [List.any_cons,List.any_cons,ih,h.1]
theorem KV.repl {kvs:List (κ × V)}{vs:List (κ × Value)}(r:KV kvs vs)(k:κ){y:V}{u:Value}(ry:bC y u) :
  KV (kvs.map fun kv=>if kv.1=k then (kv.1,y) else kv) (vs.map fun kv=>if kv.1=k then (kv.1,u) else kv):=by
 unfold KV at r ⊢
 induction r with
 | nil=>exact .nil
 | @cons p q ps qs h t ih =>
  rw [List.map_cons,List.map_cons]
  refine .cons ?_ ih
  obtain ⟨h1,h2⟩:=h
  by_cases e:p.1=k
  ·rw [if_pos e,if_pos (h1.symm.trans e)];exact ⟨h1,ry⟩
  ·rw [if_neg e,if_neg (fun z=>e (h1.trans z))];exact ⟨h1,h2⟩
theorem KV.put {kvs:List (κ × V)}{vs:List (κ × Value)}(r:KV kvs vs)(k:κ){y:V}{u:Value}(ry:bC y u):KV (eW kvs k y) (stored vs k u):=by
 unfold eW stored
 rw [r.any k]
 by_cases e:(vs.any fun kv=>decide (kv.1=k))=true
 ·rw [if_pos e,if_pos e];exact r.repl k ry
 ·rw [if_neg e,if_neg e];exact Paired.snoc r ⟨rfl,ry⟩
theorem KV.length {kvs:List (κ × V)}{vs:List (κ × Value)}(r:KV kvs vs):kvs.length=vs.length:=Paired.length r
end
theorem nU {P:Program}{w:World}{k:Key}{u:Value}(r:bC (kV k) u):(bg P w).is k u=true:=by
 cases k with
 | inl i=>obtain ⟨t,e⟩:=(show ∃ t,u=Value.int i t from r);subst e;exact ke P w i t
 | inr x=>obtain ⟨t,e⟩:=(show ∃ t,u=Value.str x t from r);subst e;exact kf P w x t
theorem jx {P:Program}{w:World}:∀ {ks:List Key} {us:List Value},bu (ks.map kV) us→ItemsAre (bg P w) ks us
 | [],_,r=>by rw [List.map_nil] at r;cases r;exact .nil
 | k::ks,_,r=>by
  rw [List.map_cons] at r
  cases r with
  | cons h t=>exact .cons (nU h) (jx t)
abbrev KT (H:Hp):List (List Key × V)→List (List Key × Addr × Value)→Prop:=Paired fun p q=>p.1=q.1∧H q.2.1=some (.tup (p.1.map kV))∧bC p.2 q.2.2
theorem KT.val {H:Hp}{kvs:List (List Key × V)}{xs:List (List Key × Addr × Value)}(r:KT H kvs xs)(k:List Key):kX (dj kvs k) ((atKey xs k).map (·.2)):=by
 induction r with
 | nil=>exact True.intro
 | @cons p q ps qs h t ih =>
  obtain ⟨h1,_,h2⟩:=h
  by_cases e:p.1=k
  ·have e':q.1=k:=h1.symm.trans e
   have b:atKey (q::qs) k=some q.2:=by simp [atKey,List.find?_cons,e']
   rw [bK e,b];exact h2
  ·have e':¬ q.1=k:=fun z=>e (h1.trans z)
   have b:atKey (q::qs) k=atKey qs k:=by simp [atKey,List.find?_cons,e']
   rw [bL e,b];exact ih
theorem KT.repl {H:Hp}{kvs:List (List Key × V)}{xs:List (List Key × Addr × Value)}(r:KT H kvs xs)(k:List Key){y:V}{u:Value}(ry:bC y u) :
  KT H (kvs.map fun kv=>if kv.1=k then (kv.1,y) else kv) (xs.map (putAt k u)):=by
 induction r with
 | nil=>exact .nil
 | @cons p q ps qs h t ih =>
  rw [List.map_cons,List.map_cons]
  refine .cons ?_ ih
  obtain ⟨h1,h2,h3⟩:=h
  unfold putAt
  by_cases e:p.1=k
  ·rw [if_pos e,if_pos (h1.symm.trans e)];exact ⟨h1,h2,ry⟩
  ·rw [if_neg e,if_neg (fun z=>e (h1.trans z))];exact ⟨h1,h2,h3⟩
theorem KT.put {H:Hp}{kvs:List (List Key × V)}{xs:List (List Key × Addr × Value)}(r:KT H kvs xs)(k:List Key){b:Addr}{y:V}{u:Value}(hb:H b=some (.tup (k.map kV)))(ry:bC y u) :
  KT H (eW kvs k y) (storedH xs k b u):=by
 have e:(kvs.any fun kv=>decide (kv.1=k))=(atKey xs k).isSome:=by
  rw [fJ,(r.val k).isSome_eq,Option.isSome_map]
 unfold eW storedH
 rw [e]
 by_cases q:(atKey xs k).isSome=true
 ·rw [if_pos q,if_pos q];exact r.repl k ry
 ·rw [if_neg q,if_neg q];exact Paired.snoc r ⟨rfl,hb,ry⟩
theorem KT.keeps {H H':Hp}{kvs:List (List Key × V)}{xs:List (List Key × Addr × Value)}(r:KT H kvs xs)(ht:∀ b ys,H b=some (.tup ys)→H' b=some (.tup ys)):KT H' kvs xs :=
 Paired.mapP r fun _ _ z=>⟨z.1,ht _ _ z.2.1,z.2.2⟩
section
variable {P:Program} {w:World} {H:Hp} {h:Heap} {a:Addr}
theorem vU {u:HO}(ok:HOk P w H h)(e:Rd H a u):bH P w H h a u:=e.ok ok
theorem nV {kvs:List (Key × V)}(ok:HOk P w H h)(e:Rd H a (.dK kvs)):kvs.length≤sizeLine∧(a == sysModules)=false∧∃ vs,KV kvs vs∧h.DictOf (bg P w) a vs :=
 show bH P w H h a (.dK kvs) from vU ok e
theorem tW {kvs:List (Key × V)}(ok:HOk P w H h)(e:H a=some (.dK kvs)):kvs.length≤sizeLine∧(a == sysModules)=false∧∃ vs,KV kvs vs∧h.DictOf (bg P w) a vs:=nV ok (.inl e)
theorem lH {ks:List Key}(ok:HOk P w H h)(e:H a=some (.tup (ks.map kV))):(tupleKind (bg P w)).is h ks a:=by
 obtain ⟨_,its,r,⟨o,h1,h2,n,h3⟩,_⟩:=(show bH P w H h a (.tup (ks.map kV)) from ok a _ e)
 exact ⟨o,its.toArray,n,h1,h2,h3,by simpa using jx r⟩
theorem nW {kvs:List (List Key × V)}(ok:HOk P w H h)(e:Rd H a (.dT kvs)):kvs.length≤sizeLine∧(a == sysModules)=false ∧
  ∃ xs,KT H kvs xs∧h.DictOfH (tupleKind (bg P w)) a xs:=by
 obtain ⟨z,y,xs,r,o,es,ep,h1,h2,h3,h4,h5⟩:=(show bH P w H h a (.dT kvs) from vU ok e)
 refine ⟨z,y,xs,r,o,es,ep,h1,h2,h3,h4,fun x hx=>?_,h5⟩
 have all:∀ {l:List (List Key × V)} {m:List (List Key × Addr × Value)},KT H l m→∀ x∈m,(tupleKind (bg P w)).is h x.1 x.2.1:=by
  intro l m q
  induction q with
  | nil=>intro x hx;exact nomatch hx
  | @cons p q ps qs hq t ih =>
   intro x hx
   rcases List.mem_cons.mp hx with e | hx
   ·subst e
    exact lH ok (by rw [← hq.1];exact hq.2.1)
   ·exact ih x hx
 exact all r x hx
theorem xO {kvs:List (List Key × V)}(ok:HOk P w H h)(e:H a=some (.dT kvs)):kvs.length≤sizeLine∧(a == sysModules)=false ∧
  ∃ xs,KT H kvs xs∧h.DictOfH (tupleKind (bg P w)) a xs:=nW ok (.inl e)
end
def qQ (H:Hp)(a:Addr)(y:V)(r:Option V):Prop :=
 (∃ kvs k,Rd H a (.dK kvs)∧y=kV k∧r=dj kvs k) ∨ ∃ kvs k b,Rd H a (.dT kvs)∧y = .ref b∧H b=some (.tup (k.map kV))∧r=dj kvs k
def tX (H:Hp)(a:Addr)(y v:V)(H':Hp):Prop :=
 (∃ kvs k,H a=some (.dK kvs)∧y=kV k∧kvs.length < sizeLine∧H'=upd H a (.dK (eW kvs k v))) ∨
 ∃ kvs k b,H a=some (.dT kvs)∧y = .ref b∧H b=some (.tup (k.map kV))∧kvs.length < sizeLine∧H'=upd H a (.dT (eW kvs k v))
theorem qQ.k {H:Hp}{a:Addr}{kvs:List (Key × V)}{k:Key}(e:H a=some (.dK kvs)):qQ H a (kV k) (dj kvs k):=.inl ⟨kvs,k,.inl e,rfl,rfl⟩
theorem tX.k {H:Hp}{a:Addr}{kvs:List (Key × V)}{k:Key}{v:V}(e:H a=some (.dK kvs))(hl:kvs.length < sizeLine):tX H a (kV k) v (upd H a (.dK (eW kvs k v))):=.inl ⟨kvs,k,e,rfl,hl,rfl⟩
section
variable {X:Cx} {pins:List (Addr × Obj)} {σ:St} {H:Hp} {s:Shared} {a:Addr} {y v:V} {u r:Value} {o:Option V} {A:Around} {E:Value→Shared→Prop}
theorem Inv.big (I:Inv X pins σ H s):sysModules < s.heap.objs.size:=by
 have h:mainGlobals < s.heap.objs.size:=(I.mod.glob.keeps I.bk).lt
 exact Nat.lt_trans (by decide) h
theorem nX {Q:Value→Shared→Prop}(hu:A.units+1 < cLine)(I:Inv X pins σ H s)(g:qQ H a y (some v))(ry:bC y u)(h:∀ w' s',Inv X pins σ H s'→bC v w'→Q w' s') :
  wpAny (model X.prog X.w) A (getItem (.ref a) u) Q E s:=by
 rcases g with ⟨kvs,k,e,ey,l⟩ | ⟨kvs,k,b,e,ey,eb,l⟩
 ·subst ey
  obtain ⟨z,hd,vs,rel,dd⟩:=nV I.hok e
  obtain ⟨w',hw,rw'⟩:=kX.some_of (v:=v) (o:=valueAt vs k) (by rw [l];exact rel.val k)
  exact wpAny_getItem_of (nU ry) dd.mapOf hw (h w' _ (I.tok _) rw')
 ·subst ey
  cases (show u=Value.ref b from ry)
  obtain ⟨z,hd,xs,rel,dd⟩:=nW I.hok e
  obtain ⟨w',hw,rw'⟩:=kX.some_of (v:=v) (o:=(atKey xs k).map (·.2)) (by rw [l];exact rel.val k)
  obtain ⟨p,hp,hp2⟩:=Option.map_eq_some_iff.mp hw
  refine wpAny_getItem_heap (tupleKind_room_in1 hu) (lH I.hok eb) dd hp ?_
  rw [hp2]
  exact h w' _ (I.tok _) rw'
theorem iI {h':Heap}{t':Nat}{ob:HO}(I:Inv X pins σ H s)(mu:Mut (H a))(hs:Heap.SameBut a s.heap h')(he:∃ q,h'.get? a=some q)(new:bH X.prog X.w (upd H a ob) h' a ob) :
  Inv X pins σ (upd H a ob) { s with heap:=h',toks:=t' } :=
 I.write (x:=a) (e:=a) mu (.inl rfl) (fun b q hb z=>(hs.2 b hb).trans z) he new
theorem sS {P:Program}{w:World}{H':Hp}{h':Heap}{kvs:List (Key × V)}{vs:List (Key × Value)}(z:kvs.length≤sizeLine)(hd:(a == sysModules)=false)(rel:KV kvs vs)(dd:h'.DictOf (bg P w) a vs) :
  bH P w H' h' a (.dK kvs):=⟨z,hd,vs,rel,dd⟩
theorem nY {H':Hp}{Q:Unit→Shared→Prop}(hu:A.units+1 < cLine)(I:Inv X pins σ H s)(g:tX H a y v H')(ry:bC y u)(rv:bC v r)(h:∀ s',Inv X pins σ H' s'→Q () s') :
  wpAny (model X.prog X.w) A (setItem (.ref a) u r) Q E s:=by
 rcases g with ⟨kvs,k,e,ey,l,eH⟩ | ⟨kvs,k,b,e,ey,eb,l,eH⟩
 ·subst ey eH
  obtain ⟨z,hd,vs,rel,dd⟩:=tW I.hok e
  have hz:vs.length≤sizeLine:=by rw [← rel.length];exact z
  have hl:(eW kvs k v).length≤sizeLine:=by have:=cR kvs k v;omega
  refine wpAny_setItem_pairs (hsz:=hz) (nU ry) dd fun h' dd' hs=>h _ ?_
  have he:∃ q,h'.get? a=some q:=let ⟨q,_,_,hq,_⟩:=dd';⟨q,hq⟩
  exact iI I (by rw [e];exact True.intro) hs he (sS hl hd (rel.put k rv) dd')
 ·subst ey eH
  cases (show u=Value.ref b from ry)
  obtain ⟨z,hd,xs,rel,dd⟩:=xO I.hok e
  have hz:xs.length≤sizeLine:=by rw [← Paired.length rel];exact z
  have hl:(eW kvs k v).length≤sizeLine:=by have:=cR kvs k v;omega
  refine wpAny_setItem_heap (hsz:=hz) (tupleKind_room_in1 hu) (lH I.hok eb) dd fun h' dd' hs=>h _ ?_
  obtain ⟨q,es,ep,hq,h2,h3,h4,_,h5⟩:=dd'
  refine iI I (by rw [e];exact True.intro) hs ⟨q,hq⟩ ⟨hl,hd,_,(rel.put k eb rv).keeps fun c ys ec=>?_,q,es,ep,hq,h2,h3,h4,h5⟩
  rw [aD (ni ec e (fun z=>nomatch z))]
  exact ec
end
section
variable {X:Cx} {pins:List (Addr × Obj)} {σ:St} {H:Hp} {s:Shared} {a:Addr} {kvs:List (Key × V)} {k:Key} {u:Value} {A:Around} {E:Value→Shared→Prop}
end
def yX (i:Expr):Prop:=∀ ov iv,subscripted i false ov iv=operate [ov,iv] (getItem ov iv)
theorem tY {prog:Program}{w:World}{A:Around}{E:Value→Shared→Prop}{s:Shared}{env:Env}{value slice:Expr}{pos:Pos}{T id:String}{Q:Value→Shared→Prop}
  (hl:typeLookup (.type T) "__getitem__" = pure (some (.builtin id))) (hs:yX slice)
  (h:wpAny (model prog w) A (eval value env) (fun o s₁=>wpAny (model prog w) A (eval slice env) (fun i s₂=>s₂.TypeIs o T∧wpAny (model prog w) A (getItem o i) Q E s₂) E s₁) E s) :
  wpAny (model prog w) A (eval (.Subscript value slice pos) env) Q E s:=by
 refine Subscript_ (wpAny_mono h (fun o s₁ h₁=>wpAny_mono h₁ (fun i s₂ h₂=>?_) fun _ _ x=>x) fun _ _ x=>x)
 obtain ⟨hT,h₂⟩:=h₂
 unfold subscriptTail
 refine wpAny_bind ?_
 rw [getitemInPython_of_ne hT.not_modules]
 refine wpAny_bind (wpAny_specialOf hT hl ?_)
 have fin:wpAny (model prog w) A (subscripted slice false o i) (fun r s₃=>wpAny (model prog w) A (letTemporaryGo value o r >>= fun _=>pure r) Q E s₃) E s₂:=by
  rw [hs o i]
  exact wpAny_operating (wpAny_mono h₂ (fun r s₃ h₃=>wpAny_bind (wpAny_letTemporaryGo (wpAny_pure h₃))) fun _ _ x=>x)
 first
  | exact wpAny_pure (wpAny_bind fin)
  | exact wpAny_bind (wpAny_pure (wpAny_bind fin))
  | exact wpAny_bind fin
theorem kq {X:Cx}{pins:List (Addr × Obj)}{σ:St}{H:Hp}{s:Shared}{a:Addr}{y:V}{o:Option V}(I:Inv X pins σ H s)(g:qQ H a y o):s.TypeIs (.ref a) "dict":=by
 rcases g with ⟨kvs,k,e,_,_⟩ | ⟨kvs,k,b,e,_,_,_⟩
 ·obtain ⟨_,_,vs,_,dd⟩:=nV I.hok e
  exact dd.typeIs
 ·obtain ⟨_,_,xs,_,dd⟩:=nW I.hok e
  exact dd.typeIs
def xP (td ty:TE):TE:=fun σ H Q=>td σ H fun x H1=>ty σ H1 fun y H2=>∃ a v,x = .ref a∧qQ H2 a y (some v)∧Q v H2
def xQ (td ty tv:TE):TS:=fun D σ H=>tv σ H fun v H1=>td σ H1 fun x H2=>ty σ H2 fun y H3=>∃ a H4,x = .ref a∧tX H3 a y v H4∧D.nx σ H4
section
variable {X:Cx} {o i e value:Expr} {pos pos' tpos:Pos} {td ty tv:TE}
theorem cE (hu:X.A.units+1 < cLine)(ho:PE X o td)(hi:PE X i ty)(hs:yX i):PE X (.Subscript o i pos) (xP td ty):=by
 intro pins s σ H Q I h
 refine tY PySem.F.slot_dict_getitem.lookup hs (thn (ho pins s σ H _ I h) fun u s1 ⟨x,H1,I1,rx,q1⟩=>thn (hi pins s1 σ H1 _ I1 q1) fun iv s2 zq68=>?_)
 obtain ⟨y,H2,I2,ry,a,v,ex,g,q2⟩:=zq68
 subst ex
 obtain rfl:u=Value.ref a:=rx
 exact ⟨kq I2 g,nX hu I2 g ry fun w' s3 I3 rw'=>⟨v,H2,I3,rw',q2⟩⟩
theorem gj (hu:X.A.units+1 < cLine)(ho:PE X o td)(hi:PE X i ty)(hv:PE X value tv)(hs:swapsWith value (some (.Subscript o i pos')) pos.line X.env=pure false) :
  PS X (.Assign [.Subscript o i pos'] value pos) (xQ td ty tv):=by
 intro pins s σ H D I h
 refine wpAny_Assign_Subscript (thn (hv pins s σ H _ I h) fun r s1 ⟨v,H1,I1,rv,q1⟩=>thn (ho pins s1 σ H1 _ I1 q1) fun u s2 ⟨x,H2,I2,rx,q2⟩=>thn (hi pins s2 σ H2 _ I2 q2) fun iv s3 zq71=>?_) hs
 obtain ⟨y,H3,I3,ry,a,H4,ex,g,q3⟩:=zq71
 subst ex
 obtain rfl:u=Value.ref a:=rx
 exact nY hu I3 g ry rv fun s4 I4=>⟨σ,H4,I4,q3⟩
end
theorem lJ {P:Program}{w:World}{H:Hp}(h:Heap)(hb:sysModules < h.objs.size):bH P w H (h.push { cls:=.type "dict",data:=.dict #[] }) h.objs.size (.dK []) :=
 ⟨Nat.zero_le _,beq_eq_false_iff_ne.mpr (Ne.symm (Nat.ne_of_lt hb)),[],.nil,Heap.DictOf.new h⟩
def vV:TE:=fun _ H Q=>∀ p,H p=none→Q (.ref p) (upd H p (.dK []))
section
variable {X:Cx} {pos:Pos}
theorem qR:PE X (.Dict [] [] pos) vV:=fun pins s σ H Q I h =>
 wpAny_Dict_empty ⟨.ref s.heap.objs.size,_,I.laid (a:=s.heap.objs.size) (o:=.dK []) (t':=s.toks) (fun _ _ q=>Heap.get?_push_of_some _ q) (Nat.le_refl _) (lJ s.heap I.big),rfl,h _ (I.hok.fresh (Nat.le_refl _))⟩
end
def nZ:List (TE × TE)→St→Hp→(List (V × V)→Hp→Prop)→Prop
 | [],_,H,Q=>Q [] H
 | (tk,tv)::r,σ,H,Q=>tk σ H fun x H1=>tv σ H1 fun y H2=>nZ r σ H2 fun ps H3=>Q ((x,y)::ps) H3
abbrev VV:List (V × V)→List (Value × Value)→Prop:=Paired fun p q=>bC p.1 q.1∧bC p.2 q.2
def PPs (X:Cx)(pos:Pos)(keys:List (Option Expr))(values:List Expr)(trs:List (TE × TE)):Prop :=
 ∀ (pins:List (Addr × Obj)) (s:Shared) (σ:St) (H:Hp) (Q:List (V × V)→Hp→Prop),Inv X pins σ H s→nZ trs σ H Q →
  wpAny (model X.prog X.w) X.A (evalPairs (pairTrees keys values X.env pos)) (fun vs s'=>∃ ps H',Inv X pins σ H' s'∧VV ps vs∧Q ps H') X.xe s
theorem tZ {X:Cx}{pos:Pos}:PPs X pos [] [] []:=fun pins s σ H Q I h=>pairTrees_nil_walk ⟨[],H,I,.nil,h⟩
theorem fK {X:Cx}{pos:Pos}{k v:Expr}{ks:List (Option Expr)}{vs:List Expr}{tk tv:TE}{trs:List (TE × TE)}(hk:PE X k tk)(hv:PE X v tv)(hr:PPs X pos ks vs trs) :
  PPs X pos (some k::ks) (v::vs) ((tk,tv)::trs):=fun pins s σ H Q I h =>
 pairTrees_cons_walk (thn (hk pins s σ H _ I h) fun u s1 ⟨x,H1,I1,rx,q1⟩=>thn (hv pins s1 σ H1 _ I1 q1) fun w2 s2 ⟨y,H2,I2,ry,q2⟩ =>
  thn (hr pins s2 σ H2 _ I2 q2) fun ws s3 zq75=>(by obtain ⟨ps,H3,I3,rel,q3⟩:=zq75;exact ⟨(x,y)::ps,H3,I3,.cons ⟨rx,ry⟩ rel,q3⟩))
def gk (kvs more:List (Key × V)):List (Key × V):=more.foldl (fun acc kv=>eW acc kv.1 kv.2) kvs
theorem KV.merge:∀ {more:List (Key × V)} {rs:List (Key × Value)} {kvs:List (Key × V)} {vs:List (Key × Value)},KV more rs→KV kvs vs→KV (gk kvs more) (merged vs rs):=by
 intro more rs kvs vs r
 unfold KV at r
 induction r generalizing kvs vs with
 | nil=>intro q;exact q
 | @cons p q ps qs h t ih =>
  intro r0
  have e:KV (eW kvs p.1 p.2) (stored vs q.1 q.2):=by
   have:=r0.put p.1 h.2
   rw [← h.1];exact this
  exact ih e
theorem d3:∀ (more kvs:List (Key × V)),(gk kvs more).length≤kvs.length+more.length
 | [],kvs=>by show kvs.length≤kvs.length+0;omega
 | p::r,kvs=>by
  have h1:=d3 r (eW kvs p.1 p.2)
  have h2:=cR kvs p.1 p.2
  show (gk (eW kvs p.1 p.2) r).length≤_
  rw [List.length_cons];omega
theorem h9 {P:Program}{w:World}:∀ {kvs:List (Key × V)} {ws:List (Value × Value)},VV (kvs.map fun kv=>(kV kv.1,kv.2)) ws→∃ rs,Carries (bg P w) ws rs∧KV kvs rs
 | [],_,r=>by rw [List.map_nil] at r;cases r;exact ⟨[],True.intro,.nil⟩
 | p::kvs,_,r=>by
  rw [List.map_cons] at r
  cases r with
  | @cons a b as bs h t =>
   obtain ⟨rs,c,q⟩:=h9 (P:=P) (w:=w) t
   obtain ⟨b1,b2⟩:=b
   exact ⟨(p.1,b2)::rs,⟨nU h.1,rfl,c⟩,.cons ⟨rfl,h.2⟩ q⟩
def xR (trs:List (TE × TE)):TE:=fun σ H Q=>∀ p,H p=none→nZ trs σ (upd H p (.dK [])) fun ps H2=>H2 p=some (.dK [])∧∃ kvs:List (Key × V),ps=kvs.map (fun kv=>(kV kv.1,kv.2))∧kvs.length≤15∧Q (.ref p) (upd H2 p (.dK (gk [] kvs)))
theorem t_ {X:Cx}{pos:Pos}{keys:List (Option Expr)}{values:List Expr}{trs:List (TE × TE)}(h:PPs X pos keys values trs)(hall:keys.all (·.isSome)=true)(hl:keys.length=values.length)(h0:keys≠[])
  (h15:keys.length≤15):PE X (.Dict keys values pos) (xR trs):=by
 intro pins s σ H Q I q
 have hn:=I.hok.fresh (Nat.le_refl s.heap.objs.size)
 have I1:=I.laid (a:=s.heap.objs.size) (o:=.dK []) (h':=s.heap.push { cls:=.type "dict",data:=.dict #[] }) (t':=s.toks) (fun _ _ q=>Heap.get?_push_of_some _ q) (Nat.le_refl _) (lJ s.heap I.big)
 refine wpAny_Dict_walk (knd:=bg X.prog X.w) hall hl h0 h15 (thn (h pins _ σ _ _ I1 (q _ hn)) fun ws s2 zq76=>?_)
 obtain ⟨ps,H2,I2,rel,e,kvs,ep,lk,q2⟩:=zq76
 subst ep
 obtain ⟨rs,c,rk⟩:=h9 (P:=X.prog) (w:=X.w) rel
 obtain ⟨z,hd,vs0,r0,dd⟩:=tW I2.hok e
 cases r0
 refine ⟨rs,c,dd,fun h' dd' hs=>⟨.ref s.heap.objs.size,_,?_,rfl,q2⟩⟩
 have hz:(gk [] kvs).length≤sizeLine:=by
  have h1:=d3 kvs []
  rw [List.length_nil] at h1
  rw [sizeLine_eq];omega
 have he:∃ q,h'.get? s.heap.objs.size=some q:=let ⟨q,_,_,hq,_⟩:=dd';⟨q,hq⟩
 exact iI I2 (by rw [e];exact True.intro) hs he (sS hz hd (rk.merge .nil) dd')
structure M1 (X:Cx) (o:Expr) (m:Str) (apos:Pos) (e:Expr) (cpos:Pos):Prop where
 base:attributeBase o m X.env (eval o X.env)=eval o X.env
 few:((backTo cpos (starEach [e] X.env)).all (fun x=>!x.1) && (backToKw cpos (keywordEach [] X.env)).all (fun x=>x.1.isSome)
  && decide (([e]:List Expr).length+([]:List Keyword).length+(if ([]:List Keyword).isEmpty then 0 else 1) < 30))=true
 line:(apos.endLine == cpos.line)=true
 trees:backTo cpos (starEach [e] X.env)=[(false,eval e X.env)]
def IsD (H:Hp)(a:Addr):Prop:=(∃ kvs,Rd H a (.dK kvs)) ∨ ∃ kvs,Rd H a (.dT kvs)
theorem vW {X:Cx}{pins:List (Addr × Obj)}{σ:St}{H:Hp}{s:Shared}{a:Addr}(I:Inv X pins σ H s)(d:IsD H a) :
  s.TypeIs (.ref a) "dict"∧(∀ b,Value.ref a = .ref b→∃ ob,s.heap.get? b=some ob∧ob.dict=none)∧(a == sysModules)=false:=by
 rcases d with ⟨kvs,e⟩ | ⟨kvs,e⟩
 ·obtain ⟨_,hd,vs,_,dd⟩:=nV I.hok e
  refine ⟨dd.typeIs,fun b q=>?_,hd⟩
  cases q
  obtain ⟨ob,_,_,h1,h2,_⟩:=dd
  exact ⟨ob,h1,h2.2.1⟩
 ·obtain ⟨_,hd,xs,_,dd⟩:=nW I.hok e
  refine ⟨dd.typeIs,fun b q=>?_,hd⟩
  cases q
  obtain ⟨ob,_,_,h1,h2,_⟩:=dd
  exact ⟨ob,h1,h2.2.1⟩
section
variable {X:Cx} {pins:List (Addr × Obj)} {σ:St} {H:Hp} {s:Shared} {a:Addr} {y d:V} {u r:Value} {o:Option V} {A:Around} {E:Value→Shared→Prop}
theorem vX {Q:Value→Shared→Prop}(hu:A.units+1 < cLine)(I:Inv X pins σ H s)(g:qQ H a y o)(ry:bC y u)(h:∀ w' s',Inv X pins σ H s'→bC (o.getD .non) w'→Q w' s') :
  wpAny (model X.prog X.w) A (call (.builtin "dict.get") [.ref a,u]) Q E s:=by
 rcases g with ⟨kvs,k,e,ey,l⟩ | ⟨kvs,k,b,e,ey,eb,l⟩
 ·subst ey
  obtain ⟨z,hd,vs,rel,dd⟩:=nV I.hok e
  refine call_meetsIn PySem.F.slot_dict_get dd.typeIs PySem.F.entry_dict_get (PySem.F.args_dict_get_2 _ _) (meets_dict_get (bg X.prog X.w) a (nU ry) hd) ⟨_,dd.mapOf,h _ _ (I.tok _) ?_⟩
  rw [l]
  exact (rel.val k).getD rfl
 ·subst ey
  cases (show u=Value.ref b from ry)
  obtain ⟨z,hd,xs,rel,dd⟩:=nW I.hok e
  refine call_meetsIn PySem.F.slot_dict_get dd.typeIs PySem.F.entry_dict_get (PySem.F.args_dict_get_2 _ _) (meetsH_dict_get (tupleKind (bg X.prog X.w)) a b hd) ⟨tupleKind_room_in1 hu,k,xs,lH I.hok eb,dd,h _ _ (I.tok _) ?_⟩
  rw [l]
  exact (rel.val k).getD rfl
end
def vY (td ty:TE):TE:=fun σ H Q=>td σ H fun x H1=>∃ a,x = .ref a∧IsD H1 a∧ty σ H1 fun y H2=>∃ o,qQ H2 a y o∧Q (o.getD .non) H2
section
variable {X:Cx} {o e f:Expr} {apos cpos:Pos} {td ty tx:TE}
theorem qS (hu:X.A.units+1 < cLine)(ho:PE X o td)(he:PE X e ty)(m:M1 X o "get" apos e cpos):PE X (.Call (.Attribute o "get" apos) [e] [] cpos) (vY td ty):=by
 intro pins s σ H Q I h
 refine wpAny_Call_method m.base m.few m.line PySem.F.plainAttrs_dict PySem.F.slot_dict_get PySem.F.type_dict_get (thn (ho pins s σ H _ I h) fun u s1 zq77=>?_)
 obtain ⟨x,H1,I1,rx,a,ex,d,q1⟩:=zq77
 subst ex
 obtain rfl:u=Value.ref a:=rx
 obtain ⟨t1,t2,_⟩:=vW I1 d
 refine ⟨t1,t2,?_⟩
 rw [m.trees]
 refine Calls.callWith_builtin rfl (Calls.evalArgs_plain (Calls.spliced_cons (thn (he pins s1 σ H1 _ I1 q1) fun iv s2 ⟨y,H2,I2,ry,ov,g,q2⟩=>Calls.spliced_nil ?_)))
 exact vX hu I2 g ry fun w' s3 I3 rw'=>⟨_,H2,I3,rw',q2⟩
end
section
variable {X:Cx} {pins:List (Addr × Obj)} {σ:St} {H:Hp} {s:Shared} {a:Addr} {kvs:List (Key × V)} {A:Around} {E:Value→Shared→Prop}
end
section
variable {X:Cx} {pins:List (Addr × Obj)} {σ:St} {H:Hp} {s:Shared} {a:Addr} {y:V} {u:Value} {A:Around} {E:Value→Shared→Prop}
end
end L2
namespace Att
open PySem PySem.W PySem.Calls PyProof.Rows
theorem gp {P:Params}{h:Heap}:∀ (ns:List Int) (vs:List Value),WellAll P h vs (ns.map WData.int)→IntsAre vs ns:=by
 intro ns
 induction ns with
 | nil =>
  intro vs w
  rw [List.map_nil] at w
  cases w
  exact .nil
 | cons n ns ih =>
  intro vs w
  rw [List.map_cons] at w
  cases w with
  | cons a b =>
   cases a
   exact .cons _ _ (ih _ b)
theorem n0 {l:OpenLaw}{n:Nat}(hn:l.most=some n){P:Params}{h:Heap}{args:List WData}{vals:List Value}
  (hpre:l.row.toRowW.claim.pre args=true) (hwl:WellAll P h vals args) :
  ∃ a vs ns,vals=[Value.ref a]∧args=[WData.list (ns.map WData.int)]∧h.get? a=some { cls:=.type "list",data:=.seq vs.toArray }∧IntsAre vs ns∧ns.length≤n:=by
 have hsh:WShape.hasAll [] args [.list .int]=true:=(pre_splitW hpre).1
 have hc:l.pre.holds [] { args:=args }=true:=(pre_splitW hpre).2
 obtain ⟨d,r,rfl,h1,h2⟩:=hasAllW_cons hsh
 obtain rfl:=hasAllW_nil h2
 obtain ⟨xs,rfl,h3⟩:=hasW_list h1
 obtain ⟨ns,rfl⟩:=items_int h3
 have hlen:ns.length≤n:=by
  unfold OpenLaw.pre at hc
  have h4:(WTm.not (.lt (.lit (.int (n:Int))) (.len (.arg 0)))).holds [] { args:=[.list (ns.map .int)] }=true:=by
   have h4:=(holds_andW hc).1
   rw [hn] at h4
   exact h4
  have h5:=condW_of h4 (w_not (w_lt w_lit (w_len_list (w_arg rfl))))
  rw [List.length_map] at h5
  refine Nat.le_of_not_lt fun q=>?_
  have q':(n:Int) < ((ns.length:Nat):Int):=by omega
  first
   | (rw [decide_eq_true q'] at h5;exact absurd h5 (by decide))
   | (simp at h5;omega)
 cases hwl with
 | cons w1 w2 =>
  cases w2
  cases w1 with
  | list ho hall=>exact ⟨_,_,ns,rfl,rfl,ho,gp ns _ hall,hlen⟩
theorem n6 (l:OpenLaw)(args:List WData):l.row.toRowW.claim.post args (.bool true) args=true :=
 postW_of (r:=l.row.toRowW) (X:=(true == true))
  (show WShape.has [] (.bool true) .bool=true by first | rfl | decide | simp [WShape.has,WShape.arms,WShape.armsAll])
  (show (WTm.eq .res (.lit (.bool true))).value [] { args:=args,res:=some (.bool true),after:=args }=some (.bool (true == true)) from w_eq_bool (w_res rfl) w_lit) rfl
theorem attach_call {l:OpenLaw}{n:Nat}{q:Program}{loose:List Str}{XP:(Str→Option Value)→Heap→Prop}{YP:World→Heap→Prop}{d:DefRec}
  (hn:l.most=some n) (hdf:d.params.defaults=[])
  (call:∀ (w:World) (s₀ s₁:Shared) (mg mb:Str→Option Value) (fa:Addr) (o:Obj) (pm cd doc:Value) (a:Addr) (vs:List Value) (ns:List Int),
   Ground q loose [] XP w s₀ mg mb s₁.heap→YP w s₁.heap →
   s₁.heap.get? fa=some o→o.data = .func (docDef d.name d.params d.body d.scope pm cd doc)→s₁.heap.CodeRec cd d.name→mg d.name=some (.ref fa) →
   s₁.heap.get? a=some { cls:=.type "list",data:=.seq vs.toArray }→IntsAre vs ns→ns.length≤n→s₁.gens=#[] →
   codeAny (model l.prog w) callerA (.call (.ref fa) ⟨[.ref a],[]⟩) (fun r s'=>r = .ok (.ret (.bool true))∧OldK s₁.heap s'.heap∧s'.os=s₁.os∧AllBare s'.gens) s₁) :
  WalkO q loose XP YP l.row.toRowW d [] (fun f vs=>PySem.call f vs):=by
 intro w s₀ s₁ mg mb G Y fa o pm cd doc dV kV ho hd hcd hD hmg hg args vals as hpre hlay hrd hwl hlo
 obtain rfl:dV = .none:=Dflts.none hD hdf
 obtain rfl:kV = .none:=Dflts.noKw hD
 obtain ⟨a,vs,ns,rfl,rfl,hobj,hints,hlen⟩:=n0 hn hpre hwl
 refine enter_call (codeAny_mono (call w s₀ s₁ mg mb fa o pm cd doc a vs ns G Y ho (fd_plain hd) hcd hmg hobj hints hlen hg) fun r s' hq=>?_)
 obtain ⟨rfl,h2,h3,h4⟩:=hq
 exact ⟨.inl ⟨.bool true,.bool true,[],rfl,fun _=>rfl,.bool true,n6 l _,fun _=>⟨List.Pairwise.nil,fun _ hm=>(nomatch hm)⟩⟩,h2,h3,h4⟩
section
variable {prog:Program} {w:World} {A:Around} {E:Value→Shared→Prop} {s:Shared} {K:Frag}
end
end Att
namespace L2
open PySem PySem.Spec PyProof.Rows
theorem jy:∀ {vs:List Value} {ns:List Int},IntsAre vs ns→bu (ns.map V.int) vs
 | _,_,.nil=>.nil
 | _,_,.cons n t h=>.cons ⟨t,rfl⟩ (jy h)
def xS (H:Hp):Prop:=∀ b,H b=none ∨ ∃ o xs,H b=some (.frz o (.lst xs))
theorem qT {P:Program}{w:World}{K:PySem.W.Frag}{mg mb:Str→Option Value}{CX:CXT}{k:Nat}{fa a:Addr}{fd:FuncData}{x:Str}{sp:Sp}{s₁:Shared}{vs:List Value}{ns:List Int}
  (KX:K.In s₁.heap) (hns:s₁.heap.Ns mainGlobals mg) (hb:s₁.heap.Ns builtinsNs mb) (hbb:∀ x:Str,x ≠ "__name__"→mb x=bootBuiltins x) (hlim:s₁.heap.NoLimit) (hg:s₁.gens=#[])
  (ha:s₁.heap.get? a=some { cls:=.type "list",data:=.seq vs.toArray }) (hi:IntsAre vs ns) (hl:ns.length≤sizeLine) (hr:hZ k callerA)
  (F:∀ base:Heap,K.In base→base.Ns mainGlobals mg→mI P w K mg base CX k fa fd [x] sp) (hbind:∀ (s:Shared) (u:Value),BindsTo s fd ⟨[u],[]⟩ [(x,u)])
  (hsp:∀ H:Hp,xS H→SqL K H a (ns.map V.int)→sp [.ref a] H (fun v _=>v = .bl true) fun _ _ _=>False)
  (hCX:∀ H e s',CX [] H s₁ (fun _ _ _=>False) e s'→False) :
  codeAny (model P w) callerA (.call (.ref fa) ⟨[.ref a],[]⟩) (fun r s'=>r = .ok (.ret (.bool true))∧OldK s₁.heap s'.heap∧s'.os=s₁.os∧AllBare s'.gens) s₁:=by
 have rv:=jy hi
 have lenV:=hi.length
 -- from an abstract heap in which nothing but the script may be tracked
 have core:∀ H:Hp,xS H→SqL K H a (ns.map V.int)→HOk P w H s₁.heap→(∀ b,H b≠none→b=a)→(H a≠none→K.lookup a=none) →
   codeAny (model P w) callerA (.call (.ref fa) ⟨[.ref a],[]⟩) (fun r s'=>r = .ok (.ret (.bool true))∧OldK s₁.heap s'.heap∧s'.os=s₁.os∧AllBare s'.gens) s₁:=by
  intro H hO hS hok hA hK
  have base_of:∀ {b:Addr} {o:Obj},s₁.heap.get? b=some o→H b=none→(qv s₁.heap H).get? b=some o:=fun e n=>qw e n
  have noA:∀ {b:Addr} {o:Obj} {es:Array DictEntry} {ep:Nat},s₁.heap.get? b=some o→o.data = .dict es ep→H b=none:=fun {b o es ep} e d=>by
   cases q:H b with
   | none=>rfl
   | some u =>
    have e':b=a:=hA b (by rw [q];simp)
    subst e'
    rw [ha] at e;cases e
    have d':Data.seq vs.toArray _=Data.dict es ep:=d
    cases d'
  have nsK:∀ {b:Addr} {m:Str→Option Value},s₁.heap.Ns b m→(qv s₁.heap H).Ns b m:=fun {b m} ⟨o,es,ep,e,d,r⟩=>⟨o,es,ep,base_of e (noA e d),d,r⟩
  have hKb:K.In (qv s₁.heap H):=fun b o e=>base_of (KX b o e) (by
   cases q:H b with
   | none=>rfl
   | some u =>
    have e':b=a:=hA b (by rw [q];simp)
    subst e'
    rw [hK (by rw [q];simp)] at e;cases e)
  have hM:Mod K mg (qv s₁.heap H):=⟨hKb,nsK hns,⟨mb,nsK hb,hbb⟩,let ⟨mc,h1,h2⟩:=hlim;⟨mc,nsK h1,h2⟩⟩
  have e0:xo P w K mg (qv s₁.heap H) callerA [] s₁ H:=⟨rfl,hM,fun b o e=>tG e,Nat.le_of_eq (nj _ _),trivial,fun b hb=>absurd (show b∈([]:List Addr) from hb) (by simp),hok,.of_eq hg⟩
  refine codeAny_mono ((F _ hKb (nsK hns)).run callerA [] s₁ H ⟨[.ref a],[]⟩ [.ref a] [.ref a] _ _ hr e0 (hbind s₁ (.ref a)) (.cons rfl .nil) (hsp H hO hS)) fun r s' h=>?_
  cases r with
  | error e=>exact (hCX H e s' h).elim
  | ok fl =>
   cases fl with
   | next=>exact False.elim h
   | brk=>exact False.elim h
   | cont=>exact False.elim h
   | ret u =>
    obtain ⟨v,H',os,bare,un,hok',r',q⟩:=h
    have q':v = .bl true:=q
    subst q'
    obtain rfl:u=Value.bool true:=r'
    refine ⟨rfl,OldK.of_keep fun b o e=>?_,os,bare⟩
    cases q:H b with
    | none=>exact un.keep b o e q (by intro z;exact absurd (show b∈([]:List Addr) from z) (by simp)) (by simp)
    | some u =>
     rcases hO b with z | ⟨ob,xs,z⟩
     ·rw [q] at z;cases z
     ·have z2:=un.frzs b ob _ z
      obtain ⟨e1,_⟩:=hok b _ z
      obtain ⟨e2,_⟩:=hok' b _ z2
      rw [e] at e1;cases e1
      exact e2
 cases hk:K.lookup a with
 | some o =>
  -- the script is one of the module's own objects
  have e:=KX a o hk
  rw [ha] at e
  cases e
  refine core (fun _=>none) (fun _=>.inl rfl) (.inr ⟨_,vs.toArray,_,hk,rfl,rfl,rfl,by rw [List.size_toArray,lenV];exact hl,by simpa using rv⟩) (fun b u z=>by have z':(none:Option HO)=some u:=z;cases z') (fun b z=>absurd rfl z) fun z=>absurd rfl z
 | none =>
  refine core (fun b=>if b=a then some (.frz { cls:=.type "list",data:=.seq vs.toArray } (.lst (ns.map V.int))) else none) (fun b=>?_) (.inl (.inr ⟨{ cls:=.type "list",data:=.seq vs.toArray },if_pos rfl⟩)) (fun b u z=>?_) (fun b z=>?_) fun _=>hk
  ·by_cases hb:b=a
   ·exact .inr ⟨_,_,if_pos hb⟩
   ·exact .inl (if_neg hb)
  ·by_cases hb:b=a
   ·have z':=(if_pos hb).symm.trans z
    cases z'
    subst hb
    exact ⟨ha,by rw [List.length_map];exact hl,vs,_,rv,ha⟩
   ·have z':=(if_neg hb).symm.trans z
    cases z'
  ·by_cases hb:b=a
   ·exact hb
   ·exact absurd (if_neg hb) z
theorem n8 {l:PySem.W.OpenLaw}{n k:Nat}{q:Program}{loose:List Str}{XP:(Str→Option Value)→Heap→Prop}{YP:World→Heap→Prop}{d:DefRec}{K:Params→PySem.W.Frag}{CX:World→CXT}{sp:World→Sp}{x:Str}
  (hn:l.most=some n) (hn2:n≤sizeLine) (hdf:d.params.defaults=[]) (hr:hZ k callerA)
  (hY:∀ (w:World) (h:Heap),YP w h→(K w.params).In h)
  (F:∀ (w:World) (mg:Str→Option Value) (fa:Addr) (h:Heap),(K w.params).In h→h.Ns mainGlobals mg→mg d.name=some (.ref fa) →
   ∃ fd:FuncData,(∀ (s:Shared) (u:Value),BindsTo s fd ⟨[u],[]⟩ [(x,u)]) ∧
    ∀ base:Heap,(K w.params).In base→base.Ns mainGlobals mg→mI l.prog w (K w.params) mg base (CX w) k fa fd [x] (sp w))
  (hsp:∀ (w:World) (H:Hp) (a:Addr) (ns:List Int),ns.length≤n→xS H→SqL (K w.params) H a (ns.map V.int)→sp w [.ref a] H (fun v _=>v = .bl true) fun _ _ _=>False)
  (hCX:∀ (w:World) (H:Hp) (s:Shared) (e:Value) (s':Shared),CX w [] H s (fun _ _ _=>False) e s'→False) :
  PySem.W.WalkO q loose XP YP l.row.toRowW d [] (fun f vs=>PySem.call f vs):=by
 refine Att.attach_call hn hdf fun w s₀ s₁ mg mb fa o pm cd doc a vs ns G Y ho hd hcd hmg hobj hints hlen hg=>?_
 have KX:=hY w _ Y
 obtain ⟨fd,hb,hF⟩:=F w mg fa _ KX G.T.g hmg
 exact qT KX G.T.g G.T.b G.T.builtins G.T.nolimit hg hobj hints (Nat.le_trans hlen hn2) hr hF hb (fun H hO hS=>hsp w H a ns hlen hO hS) fun H e s'=>hCX w H s₁ e s'
end L2
/- THE LAST THEOREM (shape;LID,My.* are yours):
  My.Adr: a structure of the addresses that your layer names (classes,functions);My.Txt K t: a structure (Prop) of the equations over K;
  My.txt_mk:{K} {implicit addresses ..} (e1:nsIn K mainGlobals "law" = some (some (.ref f))) (e2:K.lookup f=some ⟨oc,od,.func (fnOf "law" "law" params body scope dV kV doc pm an cdv ct),sl⟩) (e3:codeIn K cdv "law" = true) ..:∃ t,My.Txt K t
set_option maxRecDepth 100000 in
set_option maxHeartbeats 0 in
theorem PySem.Challenge.cw_LID_holds : PySem.Challenge.rw_LID.Holds := by
 w_on;o_law;k_head;(case hw=>w_witness2)
 k_fill
 refine L2.n8 (l:=PySem.Challenge.rw_LID) (n:=63) (k:=40) (x:="script") (CX:=fun w=>..) (sp:=fun _=>My.sp_law) rfl (by decide) rfl ⟨rfl,by decide,by decide⟩ (fun w h Y=>PySem.W.kIn_of Y) ?F ?S ?C
 case F =>
  intro w mg fa h KX G hmg
  have T:∃ t,My.Txt (L2.KOf KX) t:=by
   dsimp only [L2.KOf]                          -- K must stand as «<heap const> w.params» for k_is
   refine' My.txt_mk ?e1 ?e2 ?e3 ..
   (case e1=>PySem.W.k_is)                    -- in the order: a name -> its address -> its object -> its parts
   (case e2=>PySem.W.k_is)
   ..
  obtain ⟨t,T⟩:=T
  have e0:=hmg.symm.trans (PySem.W.mg_of KX G T.law)
  cases e0                                       -- fa is the law's own address
  exact ⟨_,fun s u=>.of_eq rfl,fun base kb nb=>My.law_fn T kb nb⟩     -- if «.of_eq rfl» comes too early: refine' ⟨_,?b,fun base kb nb=>My.law_fn T kb nb⟩;exact fun s u=>.of_eq rfl
 case S=>exact fun w H a ns hl hO hS=>..
 case C=>exact ..
(the tactic k_is has no namespace: write k_is) -/
namespace L2
open PySem PySem.Spec PyProof.Rows
def aO (s:Stmt):Arguments:=match s with
 | .FunctionDef _ a _ _ _ _ _ _ _ _=>a
 | _=>{ posonlyargs:=[],args:=[],vararg:=none,kwonlyargs:=[],kw_defaults:=[],kwarg:=none,defaults:=[] }
def aM (s:Stmt):List Stmt:=match s with
 | .FunctionDef _ _ b _ _ _ _ _ _ _=>b
 | _=>[]
def aj (s:Stmt):Scope:=match s with
 | .FunctionDef _ _ _ _ _ _ sc _ _ _=>sc
 | _=>{ kind:=.function,names:=[],isGenerator:=false,isCoroutine:=false }
abbrev CX0:CXT:=fun _ _ _ _ _ _=>False
abbrev E0:XK:=fun _ _ _=>False
theorem xT {X:Cx}:nJ CX0 X E0:=fun _ _ _ _ _ _ _ h=>h.elim
structure Fun (K:PySem.W.Frag) (x qual:Str) (st:Stmt) (f:Addr) (fd:FuncData):Prop where
 ex:∃ (oc:Value) (od:Option Addr) (kV doc pm:Value) (an:Option Addr) (cdv ct:Value) (osl:Array (Option Value)),
  fd=PySem.W.fnOf x qual (aO st) (aM st) (aj st) .none kV doc pm an cdv ct∧K.lookup f=some ⟨oc,od,.func fd,osl⟩∧PySem.W.codeIn K cdv qual=true
 kp:PySem.W.keepIn K (.ref f)=true
section
variable {P:Program} {w:World} {K:PySem.W.Frag} {mg:Str→Option Value} {base:Heap}
theorem Fun.ok {x qual:Str}{st:Stmt}{f:Addr}{fd:FuncData}{N ps:List Str}{k:Nat}{sp:Sp}(F:Fun K x qual st f fd)(S:aP N ps (aj st))(len:∀ vs H Q E,sp vs H Q E→vs.length=ps.length)
  (hbody:∀ (cdv:Value) (A:Around) (outer:List Env) (s:Shared) (H:Hp) (vs:List V) (Q:VK) (E:XK),hZ k (A.deeper (envOfC qual (aj st) s.heap.objs.size f cdv))→sp vs H Q E →
   ∃ t,PSs (tR CX0 P w K mg base N qual (aj st) f cdv A outer s H E).nox (aM st) t∧t { nx:=fun _ H'=>Q .non H',rt:=Q } (start N vs) H):mI P w K mg base CX0 (k+1) f fd ps sp:=by
 obtain ⟨oc,od,kV,doc,pm,an,cdv,ct,osl,rfl,lk,hcd⟩:=F.ex
 refine xM lk hcd S len fun A outer s H vs Q E hr hsp=>?_
 obtain ⟨t,h,q⟩:=hbody cdv A outer s H vs Q E hr hsp
 exact ⟨t,h.nox,q⟩
theorem Fun.binds {x qual:Str}{st:Stmt}{f:Addr}{fd:FuncData}{ps:List Str}(F:Fun K x qual st f fd)
  (h:∀ (kV doc pm:Value) (an:Option Addr) (cdv ct:Value) (us:List Value),us.length=ps.length→bindArgs (PySem.W.fnOf x qual (aO st) (aM st) (aj st) .none kV doc pm an cdv ct) ⟨us,[]⟩=pure (ps.zip us)):mJ K fd ps []:=by
 obtain ⟨oc,od,kV,doc,pm,an,cdv,ct,osl,rfl,lk,hcd⟩:=F.ex
 exact .all (h kV doc pm an cdv ct)
theorem sT {x qual:Str}{st:Stmt}{f:Addr}{oc:Value}{od an:Option Addr}{osl:Array (Option Value)}{kV doc pm cdv ct:Value}(l:K.lookup f=some ⟨oc,od,.func (PySem.W.fnOf x qual (aO st) (aM st) (aj st) .none kV doc pm an cdv ct),osl⟩)
  (c:PySem.W.codeIn K cdv qual=true) (k:PySem.W.keepIn K (.ref f)=true):Fun K x qual st f (PySem.W.fnOf x qual (aO st) (aM st) (aj st) .none kV doc pm an cdv ct):=⟨⟨oc,od,kV,doc,pm,an,cdv,ct,osl,rfl,l,c⟩,k⟩
end
theorem qU {A:Around}{k:Nat}(hr:hZ k A):A.units+1 < cLine:=Nat.lt_of_le_of_lt (Nat.add_le_add_left (by decide:1≤64) _) hr.units
section
variable {X:Cx}
theorem pv (i:Nat){x:Str}{pos:Pos}(hN:X.N[i]? = some x:=by rfl)(hv:Vis X.env.scope x:=by first | exact Or.inl rfl | exact Or.inr (Or.inl rfl) | exact Or.inr (Or.inr rfl))(hd:(x == ("__debug__":Str))=false:=by decide)
  (hcd:(x == ("__classdict__":Str))=false:=by decide):PE X (.Name x pos) (xk i):=vA hN hv hd hcd
end
theorem mM {A B:Prop}(h:B):if false=true then A else B:=by
 rw [if_neg Bool.false_ne_true]
 exact h
theorem vq {A B:Prop}(h:A):if true=true then A else B:=by
 rw [if_pos rfl]
 exact h
theorem kd {c A B:Prop}[Decidable c](h1:c→A)(h2:¬ c→B):if c then A else B:=by
 by_cases h:c
 ·rw [if_pos h]
  exact h1 h
 ·rw [if_neg h]
  exact h2 h
theorem ua {c A B:Prop}[Decidable c](hc:c)(h:B):if (!decide c)=true then A else B:=by
 rw [decide_eq_true hc]
 exact mM h
def aH (H H':Hp):Prop:=∀ b o,H b=some o→H' b=some o
theorem aH.refl (H:Hp):aH H H:=fun _ _ h=>h
theorem aH.trans {H H1 H2:Hp}(a:aH H H1)(b:aH H1 H2):aH H H2:=fun c o h=>b c o (a c o h)
theorem aH.free {H H':Hp}(e:aH H H'){l:Addr}(h:H' l=Option.none):H l=Option.none:=by
 cases q:H l with
 | none=>rfl
 | some o =>
  rw [e l o q] at h
  cases h
theorem aH.seq {K:PySem.W.Frag}{H H':Hp}{a:Addr}{xs:List V}(e:aH H H')(h:SqL K H a xs):SqL K H' a xs:=by
 rcases h with (h | ⟨o,h⟩) | h
 ·exact .inl (.inl (e _ _ h))
 ·exact .inl (.inr ⟨o,e _ _ h⟩)
 ·exact .inr h
section
variable {κ:Type} [DecidableEq κ]
end
def lK (cells:List (Str × Addr)):List (Str × NameKind)→List (Str × Addr)→List (Str × Addr)
 | [],acc=>acc
 | (x,k)::r,acc=>if k == NameKind.free then lK cells r ((x,(cells.lookup x).getD 0)::acc) else lK cells r acc
theorem iJ {cells:List (Str × Addr)}{p:Str × Addr}:∀ {names:List (Str × NameKind)} {acc:List (Str × Addr)},p∈lK cells names acc→p∈acc ∨ ((p.1,NameKind.free)∈names∧p.2=(cells.lookup p.1).getD 0)
 | [],_,h=>.inl h
 | (x,k)::r,acc,h=>by
  unfold lK at h
  by_cases hk:(k == NameKind.free)=true
  ·rw [if_pos hk] at h
   have ek:k=NameKind.free:=by simpa using hk
   subst ek
   rcases iJ h with h | ⟨h,e⟩
   ·rcases List.mem_cons.mp h with h | h
    ·subst h
     exact .inr ⟨List.mem_cons_self,rfl⟩
    ·exact .inl h
   ·exact .inr ⟨List.mem_cons_of_mem _ h,e⟩
  ·rw [if_neg hk] at h
   rcases iJ h with h | ⟨h,e⟩
   ·exact .inl h
   ·exact .inr ⟨List.mem_cons_of_mem _ h,e⟩
theorem iK {cells:List (Str × Addr)}{p:Str × Addr}:∀ {names:List (Str × NameKind)} {acc:List (Str × Addr)},p∈acc→p∈lK cells names acc
 | [],_,h=>h
 | (x,k)::r,acc,h=>by
  unfold lK
  split
  ·exact iK (List.mem_cons_of_mem _ h)
  ·exact iK h
theorem iL {cells:List (Str × Addr)}{x:Str}:∀ {names:List (Str × NameKind)} {acc:List (Str × Addr)},(x,NameKind.free)∈names→(x,(cells.lookup x).getD 0)∈lK cells names acc
 | [],_,h=>by simp at h
 | (y,k)::r,acc,h=>by
  unfold lK
  rcases List.mem_cons.mp h with h | h
  ·have e1:x=y:=congrArg Prod.fst h
   have e2:NameKind.free=k:=congrArg Prod.snd h
   subst e1 e2
   rw [if_pos (by simp)]
   exact iK List.mem_cons_self
  ·split
   ·exact iL h
   ·exact iL h
theorem d6 {x:Str}{c:Addr}:∀ {l:List (Str × Addr)},(x,c)∈l→∃ d,l.lookup x=some d
 | [],h=>by simp at h
 | (y,d)::r,h=>by
  rw [List.lookup_cons]
  by_cases e:(x == y)=true
  ·rw [e];exact ⟨d,rfl⟩
  ·have e':(x == y)=false:=by simpa using e
   rw [e']
   rcases List.mem_cons.mp h with h | h
   ·have:x=y:=congrArg Prod.fst h
    exact absurd (by simpa using this) e
   ·exact d6 h
theorem d7 {env:Env}{scope:Scope}(h:∀ y∈scope.names,y.2=NameKind.free→∃ c,env.cells.lookup y.1=some c):closureFor scope env=pure (lK env.cells scope.names []):=by
 have all:∀ (names:List (Str × NameKind)) (acc:List (Str × Addr)),(∀ y∈names,y.2=NameKind.free→∃ c,env.cells.lookup y.1=some c) →
   (forIn names acc (fun (p:Str × NameKind) (r:List (Str × Addr))=>(if (p.2 == NameKind.free)=true then (do let a ← cellOf env p.1;pure (ForInStep.yield ((p.1,a)::r))) else pure (ForInStep.yield r):Sem (ForInStep (List (Str × Addr))))))=(pure (lK env.cells names acc):Sem (List (Str × Addr))):=by
  intro names
  induction names with
  | nil=>intro acc _;rfl
  | cons p r ih =>
   intro acc hh
   obtain ⟨x,k⟩:=p
   have hr:∀ y∈r,y.2=NameKind.free→∃ c,env.cells.lookup y.1=some c:=fun y hy=>hh y (List.mem_cons_of_mem _ hy)
   rw [List.forIn_cons]
   unfold lK
   by_cases hk:(k == NameKind.free)=true
   ·obtain ⟨c,hc⟩:=hh (x,k) List.mem_cons_self (by simpa using hk)
    have hc:env.cells.lookup x=some c:=hc
    have ec:cellOf env x=pure c:=by
     unfold cellOf
     rw [hc]
    simp only [hk,if_true,ec,pure_bind,hc,Option.getD_some]
    exact ih _ hr
   ·simp only [hk,if_false,pure_bind]
    exact ih _ hr
 have e:=all scope.names [] h
 unfold closureFor
 simp only [bind_pure]
 exact e
def vZ (scope sc:Scope)(NB own:List Str)(cap:List Nat)(N:List Str):Bool :=
 (scope.kind == .function) && (sc.kind == .function) &&
 (scope.names.all fun y=>match y.2 with
  | .cell=>false
  | .free=>sc.names.lookup y.1 == some NameKind.cell
  | .local=>scope.names.lookup y.1 == some NameKind.local
  | _=>true) &&
 (own.all fun x=>scope.names.lookup x == some NameKind.local && scope.names.all fun y=>!(y.1 == x) || y.2 == NameKind.local) &&
 (NB == own++cap.map fun i=>N.getD i "") && (cap.all fun i=>decide (i < N.length) && scope.names.lookup (N.getD i "") == some NameKind.free)
structure Blk (X:Cx) (scope:Scope) (NB own:List Str) (cap:List Nat):Prop where
 kind:scope.kind = .function
 outk:X.env.scope.kind = .function
 nocell:∀ y∈scope.names,y.2 ≠ .cell
 free:∀ y∈scope.names,y.2 = .free→X.env.kindOf y.1=some .cell
 names:∀ y∈scope.names,y.2 = .local→scope.names.lookup y.1=some .local
 owns:∀ x∈own,∀ y∈scope.names,y.1=x→y.2 = .local
 nb:NB=own++cap.map fun i=>X.N.getD i ""
 caps:∀ i∈cap,i < X.N.length∧scope.names.lookup (X.N.getD i "")=some .free
theorem cA {X:Cx}{scope sc:Scope}{NB own:List Str}{cap:List Nat}(hs:X.env.scope=sc)(h:vZ scope sc NB own cap X.N=true):Blk X scope NB own cap:=by
 unfold vZ at h
 simp only [Bool.and_eq_true] at h
 obtain ⟨⟨⟨⟨⟨h1,h2⟩,h3⟩,h4⟩,h5⟩,h6⟩:=h
 rw [List.all_eq_true] at h3 h4 h6
 subst hs
 refine ⟨by simpa using h1,by simpa using h2,fun y hy e=>?_,fun y hy e=>?_,fun y hy e=>?_,fun x hx y hy e=>?_,by simpa using h5,fun i hi=>?_⟩
 ·have:=h3 y hy
  rw [e] at this
  exact absurd this (by simp)
 ·have:=h3 y hy
  rw [e] at this
  show X.env.scope.names.lookup y.1=some .cell
  simpa using this
 ·have:=h3 y hy
  rw [e] at this
  simpa using this
 ·have:=h4 x hx
  simp only [Bool.and_eq_true,List.all_eq_true] at this
  have q:=this.2 y hy
  subst e
  simpa using q
 ·have:=h6 i hi
  simp only [Bool.and_eq_true] at this
  exact ⟨of_decide_eq_true this.1,by simpa using this.2⟩
def cxB (X:Cx)(NB own:List Str)(scope:Scope)(C:Addr)(fp:List Addr)(s₀:Shared)(H₀:Hp):Cx where
 prog:=X.prog
 w:=X.w
 K:=X.K
 mg:=X.mg
 base:=X.base
 A:=X.A
 N:=NB
 s₀:=s₀
 H₀:=H₀
 env:=compEnvC scope (lK X.env.cells scope.names []) C X.env
 outer:=X.stack
 stack:=X.stack
 ex:=fp
 fn:=fun x=>own.contains x
 calm:=X.calm
 pn:=[]
 xe:=fun _ _=>False
theorem dk {env:Env}{x:Str}{k:NameKind}(hk:k = .cell ∨ k = .free):∀ {names:List (Str × NameKind)},(∀ y∈names,y.2 ≠ .cell) →
  (names.map fun (n,k)=>if (k == NameKind.free && env.scope.kind == .function && env.kindOf n == some .cell) then (n,NameKind.cell) else (n,k)).lookup x=some k→(x,NameKind.free)∈names
 | [],_,h=>by simp at h
 | (n,q)::r,hn,h=>by
  have ih:=@dk env x k hk r fun y hy=>hn y (List.mem_cons_of_mem _ hy)
  rw [List.map_cons,List.lookup_cons] at h
  have key:(if (q == NameKind.free && env.scope.kind == .function && env.kindOf n == some .cell)=true then (n,NameKind.cell) else (n,q)).1=n:=by split <;> rfl
  by_cases e:(x == n)=true
  ·have en:x=n:=by simpa using e
   subst en
   by_cases hq:q = .free
   ·subst hq;exact List.mem_cons_self
   ·have hqf:(q == NameKind.free)=false:=by simpa using hq
    simp only [hqf,Bool.false_and,Bool.false_eq_true,if_false,beq_self_eq_true] at h
    have h':q=k:=Option.some.inj h
    rcases hk with z | z
    ·exact absurd (h'.trans z) (hn (x,q) List.mem_cons_self)
    ·exact absurd (h'.trans z) hq
  ·have e':(x == n)=false:=by simpa using e
   refine List.mem_cons_of_mem _ (ih ?_)
   have e2:(x == (if (q == NameKind.free && env.scope.kind == .function && env.kindOf n == some .cell)=true then (n,NameKind.cell) else (n,q)).1)=false:=by rw [key];exact e'
   rw [e2] at h
   exact h
theorem gq {env:Env}{x:Str}(hk:env.scope.kind = .function)(hc:env.kindOf x=some .cell):∀ {names:List (Str × NameKind)},names.lookup x=some .free →
  (names.map fun (n,k)=>if (k == NameKind.free && env.scope.kind == .function && env.kindOf n == some .cell) then (n,NameKind.cell) else (n,k)).lookup x=some .cell
 | [],h=>by simp at h
 | (n,q)::r,h=>by
  have ih:=@gq env x hk hc r
  rw [List.lookup_cons] at h
  rw [List.map_cons,List.lookup_cons]
  by_cases e:(x == n)=true
  ·have en:x=n:=by simpa using e
   subst en
   rw [e] at h
   have hq:q = .free:=Option.some.inj h
   subst hq
   simp [hk,hc]
  ·have e':(x == n)=false:=by simpa using e
   rw [e'] at h
   have key:(if (q == NameKind.free && env.scope.kind == .function && env.kindOf n == some .cell)=true then (n,NameKind.cell) else (n,q)).1=n:=by split <;> rfl
   have e2:(x == (if (q == NameKind.free && env.scope.kind == .function && env.kindOf n == some .cell)=true then (n,NameKind.cell) else (n,q)).1)=false:=by rw [key];exact e'
   rw [e2]
   exact ih h
def stB (own:List Str)(cap:List Nat)(σ:St):St:=(own.map fun _=>none)++cap.map fun i=>(σ[i]?).getD none
section
variable {X:Cx} {pins:List (Addr × Obj)} {σ:St} {H:Hp} {s:Shared} {scope:Scope} {NB own:List Str} {cap:List Nat} {fp:List Addr} {C:Addr}
theorem Blk.cells (B:Blk X scope NB own cap)(ok:X.Ok){x:Str}{c:Addr}(h:(lK X.env.cells scope.names []).lookup x=some c):X.env.cells.lookup x=some c∧(x,NameKind.free)∈scope.names:=by
 rcases iJ (PySem.mem_of_lookup h) with q | ⟨q,e⟩
 ·simp at q
 ·obtain ⟨d,hd⟩:=ok.has x (.inl (B.free (x,.free) q rfl))
  have e:c=(X.env.cells.lookup x).getD 0:=e
  rw [hd] at e
  refine ⟨?_,q⟩
  rw [hd,e];rfl
theorem Blk.cell (B:Blk X scope NB own cap)(ok:X.Ok){x:Str}(h:(x,NameKind.free)∈scope.names):∃ c,(lK X.env.cells scope.names []).lookup x=some c:=d6 (iL h)
theorem Blk.start (B:Blk X scope NB own cap)(I:Inv X pins σ H s)(hf:∀ b∈fp,k_ X pins H b)(hfs:∀ b∈fp,∃ o,s.heap.get? b=some o){h':Heap}{tk:Nat}{m:Str→Option Value}(hC:s.heap.objs.size≤C)
  (k:∀ b o,s.heap.get? b=some o→h'.get? b=some o) (hn:h'.Ns C m) :
  Inv (cxB X NB own scope C fp s H) [] (stB own cap σ) H { s with heap:=h',toks:=tk }:=by
 have hlen:NB.length=own.length+cap.length:=by rw [B.nb];simp
 have okB:(cxB X NB own scope C fp s H).Ok:=by
  refine ⟨I.ok.mod,B.kind,I.ok.glob,I.ok.blt,hC,fun x y c h1 h2=>I.ok.inj x y c (B.cells I.ok h1).1 (B.cells I.ok h2).1,fun x hx=>?_,fun x c h1 h2=>?_,I.ok.hd,I.ok.frames,.inl rfl,fun b hb=>⟨?_,fun x c h=>?_⟩,I.bs,Nat.le_trans I.ok.bsz I.sz,fun b o e hb=>?_,fun b hb z=>?_,I.stack,I.stkFree⟩
  ·have:(x,NameKind.free)∈scope.names:=by
    rcases hx with z | z
    ·exact dk (.inl rfl) B.nocell z
    ·exact dk (.inr rfl) B.nocell z
   exact B.cell I.ok this
  ·have hx:x∈own:=by simpa [cxB] using h1
   have q:=B.owns x hx _ (B.cells I.ok h2).2 rfl
   exact absurd q (by simp)
  ·obtain ⟨o,e⟩:=hfs b hb
   exact Nat.ne_of_lt (Nat.lt_of_lt_of_le (Heap.lt_size e) hC)
  ·exact (hf b hb).2.2.2.2.1 x c (B.cells I.ok h).1
  ·have hb:b∈fp:=hb
   rcases (hf b hb).2.2.2.1 with z | z
   ·exact I.ok.noex b o e z
   ·exact absurd (Nat.lt_of_lt_of_le (Heap.lt_size e) (Nat.le_trans I.ok.bsz z)) (Nat.lt_irrefl _)
  ·rcases List.mem_cons.mp (I.stkSub b z) with z | z
   ·exact (hf b hb).2.1 z
   ·exact (hf b hb).2.2.1 z
 refine ⟨okB,rfl,I.bare,Un.kept k,⟨m,hn,fun i x v e1 e2 e3=>?_⟩,fun x c h=>?_,I.hok.fresh hC,fun x c h=>I.freeC x c (B.cells I.ok h).1,fun p hp=>absurd (show p∈([]:List (Addr × Obj)) from hp) (by simp),I.hok.kept k,?_⟩
 ·have e1:NB[i]? = some x:=e1
  have hi:¬ i < own.length:=fun hi=>by
   unfold stB at e2
   rw [List.getElem?_append_left (by simpa using hi),List.getElem?_map] at e2
   cases q:own[i]? <;> rw [q] at e2 <;> cases e2
  unfold stB at e2
  rw [List.getElem?_append_right (by simpa using hi),List.getElem?_map] at e2
  rw [B.nb,List.getElem?_append_right (by omega),List.getElem?_map] at e1
  simp only [List.length_map] at e2
  cases q:cap[i - own.length]? with
  | none=>rw [q] at e1;cases e1
  | some j =>
   rw [q] at e1 e2
   have ex:X.N.getD j "" = x:=Option.some.inj e1
   have ev:(σ[j]?).getD none=some v:=Option.some.inj e2
   obtain ⟨hj,hjf⟩:=B.caps j (List.mem_of_getElem? q)
   rw [ex] at hjf
   have hN:X.N[j]? = some x:=by rw [← ex,List.getD_eq_getElem?_getD,List.getElem?_eq_getElem hj];rfl
   have hσ:σ[j]? = some (some v):=by
    cases z:σ[j]? with
    | none=>rw [z] at ev;cases ev
    | some u=>rw [z] at ev;exact congrArg some ev
   have hmem:(x,NameKind.free)∈scope.names:=PySem.mem_of_lookup hjf
   have hkc:=B.free _ hmem rfl
   obtain ⟨m0,hn0,hl⟩:=I.loc
   obtain ⟨u,r,l⟩:=hl j x v hN hσ (.inr (.inl hkc))
   refine ⟨u,r,.inr ⟨.inl (gq B.outk hkc hjf),?_⟩⟩
   obtain ⟨c,hc⟩:=B.cell I.ok hmem
   refine ⟨c,hc,?_⟩
   rcases l with ⟨z,_⟩ | ⟨_,c',hc',⟨oc,hoc,hd⟩⟩
   ·rw [show X.env.kindOf x=some .cell from hkc] at z;cases z
   ·have:=(B.cells I.ok hc).1
    rw [hc'] at this
    have:c'=c:=Option.some.inj this
    subst this
    exact ⟨oc,k _ _ hoc,hd⟩
 ·obtain ⟨v,oc,hoc,hd⟩:=I.cell x c (B.cells I.ok h).1
  exact ⟨v,oc,k _ _ hoc,hd⟩
 ·show (stB own cap σ).length=NB.length
  unfold stB
  rw [hlen];simp
theorem Blk.done (B:Blk X scope NB own cap)(I:Inv X pins σ H s)(hf:∀ b∈fp,k_ X pins H b){σB:St}{H':Hp}{s':Shared}{h'':Heap}{D:Addr}{ys:List V}{its:List Value}{n:Nat}(hC:s.heap.objs.size≤C)(hD:s.heap.objs.size≤D)(hDC:D≠C)
  (J:Inv (cxB X NB own scope C fp s H) [] σB H' s') (hn:H' D=none) (e:s'.heap.get? D=some { cls:=.type "list",data:=.seq its.toArray n }) (hv:bu ys its) (hz:ys.length≤sizeLine)
  (sb:Heap.SameBut C s'.heap h''):Inv X pins σ (upd H' D (.lst ys)) { s' with heap:=h'' }:=by
 have un:Un (frs X.stack) fp H H' s.heap s'.heap:=J.base
 have neC:∀ {b o},s.heap.get? b=some o→b≠C:=fun q=>Nat.ne_of_lt (Nat.lt_of_lt_of_le (Heap.lt_size q) hC)
 have neD:∀ {b o},s.heap.get? b=some o→b≠D:=fun q=>Nat.ne_of_lt (Nat.lt_of_lt_of_le (Heap.lt_size q) hD)
 have hCn:H' C=none:=J.free
 refine I.call' (s':={ s' with heap:=h'' }) (ch:=fp) J.os ⟨fun b o q n hb hx=>?_,fun b o q n hb hx=>?_,fun b o q n hx=>?_,fun b o q hx=>?_,fun b xs q=>?_,fun b o u q=>?_,fun b ps q=>?_⟩ (fun b u q=>?_) J.bare fun b hb=>?_
 ·exact (sb.2 b (neC q)).trans (un.keep b o q n hb hx)
 ·obtain ⟨sl,r⟩:=un.slot b o q n hb hx
  exact ⟨sl,(sb.2 b (neC q)).trans r⟩
 ·rw [aD (neD q)]
  exact un.free b o q n hx
 ·obtain ⟨o',r⟩:=un.there b o q hx
  exact ⟨o',(sb.2 b (neC q)).trans r⟩
 ·have r:=un.tups b xs q
  rw [aD (au r hn)]
  exact r
 ·have r:=un.frzs b o u q
  rw [aD (au r hn)]
  exact r
 ·obtain ⟨more,r⟩:=un.tbls b ps q
  exact ⟨more,by rw [aD (au r hn)];exact r⟩
 ·by_cases hb:b=D
  ·subst hb
   rw [ah] at q
   cases q
   exact ⟨hz,its,n,hv,(sb.2 b hDC).trans e⟩
  ·rw [aD hb] at q
   refine (J.hok b u q).stay (fun c v hc r=>(sb.2 c ?_).trans r) (fun c r=>?_) fun c xs r=>?_
   ·rcases hc with z | z
    ·rw [z];exact au q hCn
    ·exact au z hCn
   ·rw [aD (au r hn)];exact r
   ·rw [aD (au r hn)];exact r
 ·obtain ⟨_,f1,_,f3,f4,f5⟩:=hf b hb
  exact ⟨f3,f1,f4,f5⟩
end
def PIf (X:Cx)(ifs:List Expr)(t:TT):Prop :=
 ∀ (pins:List (Addr × Obj)) (s:Shared) (σ:St) (H:Hp) (Q:Bool→Hp→Prop),Inv X pins σ H s→t σ H Q →
  wpAny (model X.prog X.w) X.A (forIn ifs true fun c r=>if r=true then do let ok ← isTrue c X.env (eval c X.env);pure (ForInStep.yield ok) else pure (ForInStep.yield r)) (TP X pins σ Q) X.xe s
def zB:TT:=fun _ H Q=>Q true H
theorem bX {X:Cx}:PIf X [] zB:=fun _ _ _ H _ I h=>wpAny_tests_nil ⟨H,I,h⟩
theorem d8 {X:Cx}{c:Expr}{t:TT}(h:PT X c t):PIf X [c] t:=fun pins s σ H Q I q=>wpAny_tests_one (h pins s σ H Q I q)
section
variable {prog:Program} {w:World} {A:Around} {R:Result→Shared→Prop} {s:Shared}
abbrev noE:Value→Shared→Prop:=fun _ _=>False
theorem jz {elt tg iter:Expr}{ifs:List Expr}{scope:Scope}{pos:Pos}{it acc:Value}{env:Env}(I:Nat→Shared→Prop)
  (turn:∀ n s,I n s→wpAny (model prog w) A (pyNext it) (fun r s₁=>match r with
   | none=>R (.ok .next) s₁
   | some v=>wpAny (model prog w) A (letOwnedTupleGo tg it v) (fun _ s₀=>wpAny (model prog w) A (assign tg env v) (fun _ s₂ =>
     wpAny (model prog w) A (forIn ifs true fun c r=>if r=true then do let ok ← isTrue c env (eval c env);pure (ForInStep.yield ok) else pure (ForInStep.yield r)) (fun ok s₃ =>
      if ok=true then wpAny (model prog w) A (eval elt env) (fun x s₄=>wpAny (model prog w) A (call (.builtin "list.append") [acc,x]) (fun _ s₅=>∃ m,m < n∧I m s₅) noE s₄) noE s₃
      else ∃ m,m < n∧I m s₃) noE s₂) noE s₀) noE s₁) noE s)
  (n:Nat) (h:I n s):codeAny (model prog w) A (.compLoop (.ListComp elt [⟨tg,iter,ifs,0⟩] scope pos) 0 it acc env) R s:=by
 refine codeAny_loop rfl I (fun n s hI=>?_) n h
 show wpAny _ A ((compTurn (.ListComp elt [⟨tg,iter,ifs,0⟩] scope pos) 0 it acc env).onRaise (fun x=>do noteFrame x env;theTreesLotGoes x)) _ _ s
 refine wpAny_noted ?_
 rw [compTurn_list]
 refine wpAny_bind (wpAny_standAt (wpAny_bind (wpAny_mono (turn n s hI) (fun r s₁ h₁=>?_) fun _ _ z=>False.elim z)))
 cases r with
 | none=>exact wpAny_pure h₁
 | some v =>
  refine wpAny_bind (wpAny_mono h₁ (fun _ s₀ h₀=>wpAny_bind (wpAny_mono h₀ (fun _ s₂ h₂=>wpAny_bind (wpAny_mono h₂ (fun ok s₃ h₃=>?_) fun _ _ z=>False.elim z)) fun _ _ z=>False.elim z)) fun _ _ z=>False.elim z)
  cases ok with
  | false=>exact wpAny_pure ⟨rfl,h₃⟩
  | true=>exact wpAny_bind (wpAny_bind (wpAny_mono h₃ (fun x s₄ h₄=>wpAny_bind (wpAny_mono h₄ (fun _ s₅ h₅=>wpAny_pure (wpAny_pure ⟨rfl,h₅⟩)) fun _ _ z=>False.elim z)) fun _ _ z=>False.elim z))
end
def ub (own:List Str)(cap:List Nat)(g:TG)(ti:TT)(te:TE)(Q:VK)(σ:St)(J:It)(H1:Hp):Prop:=∃ W:Nat→Nat→List V→St→Hp→Prop,(∃ m,W 0 m [] (stB own cap σ) H1)∧∀ i m ys σ H,W i m ys σ H →
 (J.stop i H∧ys.length≤sizeLine∧∀ D,H D=none→Q (.ref D) (upd H D (.lst ys))) ∨
 (J.go i H∧ys.length < sizeLine∧∀ x H',J.yld i H x H'→g x σ H' fun σ2 H2=>ti σ2 H2 fun b H3=>if b=true then te σ2 H3 fun y H4=>∃ m',m' < m∧W (i+1) m' (ys++[y]) σ2 H4 else ∃ m',m' < m∧W (i+1) m' ys σ2 H3)
def v3 (own:List Str)(cap:List Nat)(wi:TI)(g:TG)(ti:TT)(te:TE):TE:=fun σ H Q=>wi σ H fun J H1=>ub own cap g ti te Q σ J H1
theorem cF {X:Cx}{elt iter tg:Expr}{ifs:List Expr}{scope:Scope}{pos:Pos}{NB own:List Str}{cap:List Nat}{wi:TI}{g:TG}{ti:TT}{te:TE}(B:Blk X scope NB own cap)(hc:X.calm=true)(hi:PI X tg iter wi)
  (hg:∀ C fp s₀ H₀,PG (cxB X NB own scope C fp s₀ H₀) tg g) (ht:∀ C fp s₀ H₀,PIf (cxB X NB own scope C fp s₀ H₀) ifs ti) (he:∀ C fp s₀ H₀,PE (cxB X NB own scope C fp s₀ H₀) elt te)
  (hs:∀ x,foldedSetIterable iter X.env x=pure x:=by intro _;rfl):PE X (.ListComp elt [⟨tg,iter,ifs,0⟩] scope pos) (v3 own cap wi g ti te):=by
 intro pins s σ H Q I0 h
 rw [eval_ListComp]
 have hclos:=d7 (env:=X.env) (scope:=scope) fun y hy e=>I0.ok.has y.1 (.inl (B.free y hy e))
 refine wpAny_comprehension_free (use:=none) rfl hs hclos B.kind B.names (thn (hi pins s σ H _ I0 h) fun v s1 h1=>thn h1 fun itv s2 h2=>?_)
 obtain ⟨it,fp,tn,J,H2,rfl,I,T,st2,f2,W,⟨m0,w0⟩,turn⟩:=h2
 refine wpAny_newList ?_
 refine wpAny_newFunctionEnv B.nocell (by intro y hy;simp at hy) (fun h₁ hns₁ hsb₁=>?_) B.kind
 dsimp only at hns₁ hsb₁ ⊢
 generalize hP:s2.heap.push { cls:=.type "list",dict:=none,data:=.seq ([]:List Value).toArray }=P at hns₁ hsb₁ ⊢
 have hC:P.objs.size=s2.heap.objs.size+1:=by rw [← hP,Heap.size_push]
 have hDC:s2.heap.objs.size≠P.objs.size:=by rw [hC];exact Nat.ne_of_lt (Nat.lt_succ_self _)
 have hCle:s2.heap.objs.size≤P.objs.size:=by rw [hC];exact Nat.le_succ _
 have old:∀ b o,s2.heap.get? b=some o→h₁.get? b=some o:=fun b o e=>by
  refine (hsb₁.2 b ?_).trans (Heap.get?_push_of_some _ (hP ▸ Heap.get?_push_of_some _ e))
  exact Nat.ne_of_lt (Nat.lt_of_lt_of_le (Heap.lt_size e) hCle)
 have hD:h₁.get? s2.heap.objs.size=some { cls:=.type "list",data:=.seq ([]:List Value).toArray 0 }:=by
  refine (hsb₁.2 _ hDC).trans (Heap.get?_push_of_some _ ?_)
  rw [← hP]
  exact Heap.get?_push_size _ rfl
 have hfs:∀ b∈fp,∃ o,s2.heap.get? b=some o:=fun b hb=>let ⟨o,e,_⟩:=T.obj _ _ st2 b hb;⟨o,e⟩
 have st4:tn 0 h₁:=T.keep _ _ _ st2 fun b _ o e=>old b o e
 generalize htk:s2.toks+([]:List (Str × Value)).length=tk4
 have I4:=B.start (C:=P.objs.size) (tk:=tk4) I f2 hfs hCle old hns₁
 have fOk:∀ {H':Hp} {b:Addr} {ob:Obj},b∈fp→H' b=none→k_ (cxB X NB own scope P.objs.size fp s2 H2) [(s2.heap.objs.size,ob)] H' b:=fun {H' b ob} hb hn=>by
  obtain ⟨o,e⟩:=hfs b hb
  refine ⟨hn,(I4.ok.exf b hb).1,I4.ok.exfs b hb,.inl hb,(I4.ok.exf b hb).2,fun p hp=>?_⟩
  have ep:p=(s2.heap.objs.size,ob):=List.mem_singleton.mp (show p∈[(s2.heap.objs.size,ob)] from hp)
  rw [ep]
  exact fun z=>absurd (Heap.lt_size e) (by rw [← z];exact Nat.lt_irrefl _)
 have dnf:s2.heap.objs.size∉frs X.stack:=fun z=>by
  rcases List.mem_cons.mp (I.stkSub _ z) with z | z
  ·exact absurd I.lt (by rw [← z];exact Nat.lt_irrefl _)
  ·exact I.nofs (Nat.le_refl _) z
 have I3D:∀ {σ3:St} {H3:Hp} {s3:Shared} {its:List Value} {k:Nat},Inv (cxB X NB own scope P.objs.size fp s2 H2) [] σ3 H3 s3→s3.heap.get? s2.heap.objs.size=some { cls:=.type "list",data:=.seq its.toArray k }→H3 s2.heap.objs.size=none →
   Inv (cxB X NB own scope P.objs.size fp s2 H2) [(s2.heap.objs.size,{ cls:=.type "list",data:=.seq its.toArray k })] σ3 H3 s3:=fun I3 e n=>I3.pins_of fun p hp=>by
  have ep:=List.mem_singleton.mp hp
  subst ep
  exact ⟨e,n,hDC,dnf,fun v z=>by cases z⟩
 have ndf:s2.heap.objs.size∉fp:=fun z=>by
  obtain ⟨o,e⟩:=hfs _ z
  exact absurd (Heap.lt_size e) (Nat.lt_irrefl _)
 have nCD:∀ x c,(cxB X NB own scope P.objs.size fp s2 H2).env.cells.lookup x=some c→c≠s2.heap.objs.size:=fun x c e z=>by
  obtain ⟨v,o,ho,_⟩:=I.cell x c (B.cells I.ok e).1
  rw [z] at ho
  exact absurd (Heap.lt_size ho) (Nat.lt_irrefl _)
 have loop:∀ s₃:Shared,s₃ = { s2 with heap:=h₁,toks:=tk4 }→codeAny (model X.prog X.w) X.A (.compLoop (.ListComp elt [⟨tg,iter,ifs,0⟩] scope pos) 0 (.ref it) (.ref s2.heap.objs.size) (cxB X NB own scope P.objs.size fp s2 H2).env)
   (compPost (model X.prog X.w) X.A X.xe none (EP X pins σ Q) (.ref s2.heap.objs.size) P.objs.size) s₃:=by
  rintro s₃ rfl
  refine jz (fun n s'=>∃ i σB H' ys its k,Inv (cxB X NB own scope P.objs.size fp s2 H2) [] σB H' s'∧tn i s'.heap∧(∀ b∈fp,H' b=none)∧s'.heap.get? s2.heap.objs.size=some { cls:=.type "list",data:=.seq (its:List Value).toArray k }∧bu ys its∧H' s2.heap.objs.size=none∧W i n ys σB H') ?_ m0
   ⟨0,stB own cap σ,H2,[],[],0,I4,st4,fun b hb=>(f2 b hb).1,hD,.nil,I.hok.fresh (Nat.le_refl _),w0⟩
  rintro n s3 ⟨i,σ3,H3,ys,its,k,I3,st3,fr3,hD3,rv,hn3,w3⟩
  rcases turn i n ys σ3 H3 w3 with ⟨stop,hz,q⟩ | ⟨go,hz,step⟩
  ·refine thn (T.done (cxB X NB own scope P.objs.size fp s2 H2) rfl rfl rfl hc i _ s3 σ3 H3 noE (I3D I3 hD3 hn3) (fun b hb=>fOk hb (fr3 b hb)) st3 stop) fun r s4 zq1=>?_
   obtain ⟨hr,I4'⟩:=zq1
   subst hr
   have hD4:s4.heap.get? s2.heap.objs.size=some { cls:=.type "list",data:=.seq (its:List Value).toArray k }:=(I4'.pin (s2.heap.objs.size,_) (List.mem_append_right _ (List.mem_singleton.mpr rfl))).1
   have I5:Inv (cxB X NB own scope P.objs.size fp s2 H2) [] σ3 H3 s4:=I4'.pins_of fun p hp=>absurd (show p∈([]:List (Addr × Obj)) from hp) (by simp)
   obtain ⟨mC,hnC,_⟩:=I5.loc
   exact ⟨mC,hnC,fun h'' sb=>⟨.ref s2.heap.objs.size,_,B.done I f2 hCle (Nat.le_refl _) hDC I5 hn3 hD4 rv hz sb,rfl,q _ hn3⟩⟩
  ·refine thn (T.item (cxB X NB own scope P.objs.size fp s2 H2) rfl rfl rfl hc i _ s3 σ3 H3 noE (I3D I3 hD3 hn3) (fun b hb=>fOk hb (fr3 b hb)) st3 go) fun r s4 zq2=>?_
   obtain ⟨u,hr,h4⟩:=zq2
   subst hr
   refine thn h4 fun _ s5 zq3=>?_
   obtain ⟨x,H5,I5,r5,y5,st5,fr5⟩:=zq3
   have I5':=I5.pinned (fun b hb=>fOk hb (fr5 b hb)) (T.obj _ _ st5)
   refine thn (hg _ fp s2 H2 _ s5 σ3 H5 x u _ I5' r5 (step x H5 y5)) fun _ s6 zq4=>?_
   obtain ⟨σ6,H6,I6,q6⟩:=zq4
   refine thn (ht _ fp s2 H2 _ s6 σ6 H6 _ I6 q6) fun b s7 zq5=>?_
   obtain ⟨H7,I7,q7⟩:=zq5
   have pinned:∀ {σ8:St} {H8:Hp} {s8:Shared},Inv (cxB X NB own scope P.objs.size fp s2 H2) ([(s2.heap.objs.size,{ cls:=.type "list",data:=.seq (its:List Value).toArray k })]++hG fp s5.heap) σ8 H8 s8 →
     tn (i+1) s8.heap∧(∀ b∈fp,H8 b=none)∧s8.heap.get? s2.heap.objs.size=some { cls:=.type "list",data:=.seq (its:List Value).toArray k }∧H8 s2.heap.objs.size=none:=fun {σ8 H8 s8} I8=>by
    refine ⟨T.keep _ _ _ st5 fun b hb o e=>(I8.pin (b,o) (List.mem_append_right _ (List.mem_append_right _ (cf hb e)))).1,fun b hb=>?_,?_,?_⟩
    ·obtain ⟨o,e,d⟩:=T.obj _ _ st5 b hb
     exact (I8.pin (b,o) (List.mem_append_right _ (List.mem_append_right _ (cf hb e)))).2.1
    ·exact (I8.pin (s2.heap.objs.size,_) (List.mem_append_right _ (List.mem_append_left _ (List.mem_singleton.mpr rfl)))).1
    ·exact (I8.pin (s2.heap.objs.size,_) (List.mem_append_right _ (List.mem_append_left _ (List.mem_singleton.mpr rfl)))).2.1
   have nopin:∀ {pp:List (Addr × Obj)} {σ8:St} {H8:Hp} {s8:Shared},Inv (cxB X NB own scope P.objs.size fp s2 H2) pp σ8 H8 s8→Inv (cxB X NB own scope P.objs.size fp s2 H2) [] σ8 H8 s8:=fun I8=>I8.pins_of fun p hp=>absurd (show p∈([]:List (Addr × Obj)) from hp) (by simp)
   cases b with
   | false =>
    rw [if_neg Bool.false_ne_true] at q7 ⊢
    obtain ⟨m',hm,w7⟩:=q7
    obtain ⟨p1,p2,p3,p4⟩:=pinned I7
    exact ⟨m',hm,i+1,σ6,H7,ys,its,k,nopin I7,p1,p2,p3,rv,p4,w7⟩
   | true =>
    rw [if_pos rfl] at q7 ⊢
    refine thn (he _ fp s2 H2 _ s7 σ6 H7 _ I7 q7) fun yv s8 zq6=>?_
    obtain ⟨y,H8,I8,r8,m',hm,w8⟩:=zq6
    obtain ⟨p1,p2,p3,p4⟩:=pinned I8
    refine call_meets F.slot_list_append ⟨_,p3,rfl⟩ F.entry_list_append (F.args_list_append_2 _ _) (PySem.list_append s2.heap.objs.size its.toArray k yv (by rw [List.size_toArray,← rv.length];omega)) ⟨p3,?_⟩
    have q:=PySem.IsL.update p3 fun a=>a.push yv
    have ea:its.toArray.push yv=(its++[yv]).toArray:=by simp
    rw [ea] at q
    have I9:Inv (cxB X NB own scope P.objs.size fp s2 H2) [] σ6 H8 { s8 with heap:=s8.heap.update s2.heap.objs.size (Obj.mapSeq fun a=>a.push yv),toks:=s8.toks } :=
     (nopin I8).turned (it:=s2.heap.objs.size) (fun b o hb e=>(Heap.get?_update_other s8.heap _ (Ne.symm hb)).trans e) p4 hDC (.inr (Nat.le_refl _)) (fun x c e=>nCD x c e) fun p hp=>absurd (show p∈([]:List (Addr × Obj)) from hp) (by simp)
    refine ⟨m',hm,i+1,σ6,H8,ys++[y],its++[yv],_,I9,?_,p2,q,rv.append (.cons r8 .nil),p4,w8⟩
    refine T.keep _ _ _ p1 fun b hb o e=>(Heap.get?_update_other s8.heap _ ?_).trans e
    intro z
    rw [z] at ndf
    exact ndf hb
 exact codeAny_compStart_list (loop _ rfl) (T.self X.A 0 _ _ _ st4 (loop _ rfl))
theorem ck {own:List Str}{cap:List Nat}{J:It}{g:TG}{ti:TT}{te:TE}{σ:St}{H:Hp}{Q:VK}(n:Nat)(Pv:Nat→List V→St→Hp→Prop)(h0:Pv 0 [] (stB own cap σ) H)(hz:∀ i ys σ H,i≤n→Pv i ys σ H→ys.length≤i)(hn:n≤sizeLine)
  (hgo:∀ i ys σ H,i < n→Pv i ys σ H→J.go i H) (hst:∀ ys σ H,Pv n ys σ H→J.stop n H)
  (hs:∀ i ys σ H x H' (N:List V→St→Hp→Prop),i < n→Pv i ys σ H→J.yld i H x H'→(∀ ys' σ' H'',Pv (i+1) ys' σ' H''→N ys' σ' H'')→g x σ H' fun σ2 H2=>ti σ2 H2 fun b H3=>if b=true then te σ2 H3 fun y H4=>N (ys++[y]) σ2 H4 else N ys σ2 H3)
  (hd:∀ ys σ H D,Pv n ys σ H→H D=none→Q (.ref D) (upd H D (.lst ys))) :
  ub own cap g ti te Q σ J H:=by
 refine ⟨fun i m ys σ H=>m=n - i∧i≤n∧Pv i ys σ H,⟨n,by simp,Nat.zero_le _,h0⟩,?_⟩
 rintro i m ys σ H ⟨rfl,hi,p⟩
 have hl:=hz i ys σ H hi p
 by_cases hlt:i < n
 ·refine .inr ⟨hgo i ys σ H hlt p,by omega,fun x H' y=>?_⟩
  exact hs i ys σ H x H' (fun ys' σ' H''=>∃ m',m' < n - i∧m'=n - (i+1)∧i+1≤n∧Pv (i+1) ys' σ' H'') hlt p y fun ys' σ' H'' q=>⟨n - (i+1),by omega,rfl,hlt,q⟩
 ·have e:i=n:=by omega
  subst e
  exact .inl ⟨hst ys σ H p,by omega,fun D hD=>hd ys σ H D p hD⟩
def Its (z:Str):It:=⟨fun i _=>i < z.cps.size,fun i H x H'=>H'=H∧∃ c,z.cps[i]? = some c∧x = .str ⟨#[c]⟩,fun i _=>i=z.cps.size⟩
theorem cS {P:Program}{w:World}{K:PySem.W.Frag}{tg:Expr}{it n:Nat}{Pv:Nat→Value→Prop}{st:Nat→Heap→Prop}{J:It}{T:String}{fl:Nat→Array Value}
  (W:∀ A:Around,A.handled=none→Walks P w A it [it] [it] n Pv st) (hst:∀ i h,st i h→∃ o,h.get? it=some o∧o.cls = .type T∧o.data = .fields (fl i))
  (hT:["enumerate","zip","dict_itemiterator","dict_reverseitemiterator","odict_iterator","itertools.zip_longest","itertools.pairwise"].contains T=false)
  (hgo:∀ i H,J.go i H→i < n) (hstop:∀ i H,J.stop i H→i=n) (hy:∀ i H u,J.go i H→Pv i u→∃ x,bC x u∧J.yld i H x H)
  (hself:∀ (A:Around) (i:Nat) (s:Shared) (Q:Value→Shared→Prop) (E:Value→Shared→Prop),st i s.heap→Q (.ref it) s→wpAny (model P w) A (pyIter (.ref it)) Q E s):sM P w K tg J [it] it st where
 mem:=by simp
 obj:=fun i h s b hb=>by
  have e:b=it:=by simpa using hb
  subst e
  obtain ⟨o,e,c,d⟩:=hst i h s
  exact ⟨o,e,fun v z=>by rw [d] at z;cases z⟩
 keep:=fun i h h' s k=>(W {} rfl).frame i h h' s k
 item:=by
  intro X hP hw hK hc i pins s σ H E I hf s0 hg
  subst hP hw hK
  obtain ⟨f0,f1,f2,f3,f4,f5⟩:=hf it (by simp)
  refine (W X.A (I.ok.hd hc)).item i s _ _ (hgo i H hg) s0 fun v h' tk hv st' kk=>?_
  have I1:Inv X pins σ H { s with heap:=h',toks:=tk }:=I.turned (fun b o hb e=>kk b o (by simpa using hb) e) f0 f1 f3 f4 f5
  obtain ⟨o,e,c,d⟩:=hst _ _ st'
  obtain ⟨x,rx,yx⟩:=hy i H v hg hv
  exact ⟨v,rfl,qI (s:={ s with heap:=h',toks:=tk }) e c d hT ⟨x,H,I1,rx,yx,st',fun b hb=>(hf b hb).1⟩⟩
 done:=by
  intro X hP hw hK hc i pins s σ H E I hf s0 hg
  subst hP hw hK
  obtain ⟨f0,f1,f2,f3,f4,f5⟩:=hf it (by simp)
  have e:=hstop i H hg
  subst e
  exact (W X.A (I.ok.hd hc)).done s _ _ s0 fun h' tk kk=>⟨rfl,I.turned (fun b o hb e=>kk b o (by simpa using hb) e) f0 f1 f3 f4 f5⟩
 self:=hself
section
variable {X:Cx} {tg:Expr}
def zC (tl:TE):TI:=fun σ H R=>tl σ H fun x H1=>∃ z,x = .str z∧R (Its z) H1
theorem n9 {z:Str}{i:Nat}{H:Hp}{u:Value}(h:SignAt z i u):∃ x,bC x u∧(Its z).yld i H x H:=by
 obtain ⟨c,t,e,rfl⟩:=h
 exact ⟨.str ⟨#[c]⟩,⟨t,rfl⟩,rfl,c,e,rfl⟩
theorem sU {l:Expr}{tl:TE}(hl:PE X l tl):PI X tg l (zC tl):=by
 intro pins s σ H R I h
 refine thn (hl pins s σ H _ I h) fun v s1 zq1=>?_
 obtain ⟨x,H1,I1,r1,q1⟩:=zq1
 obtain ⟨z,rfl,q⟩:=q1
 obtain ⟨t,rfl⟩:=r1
 have fp:∀ b∈[s1.heap.objs.size],k_ X pins H1 b:=fun b hb=>by
  have e:b=s1.heap.objs.size:=by simpa using hb
  subst e
  exact I1.fpOk (Nat.le_refl _) (I1.hok.fresh (Nat.le_refl _))
 cases ha:z.cps.all (· < 128)
 ·refine wpAny_pyIter_wide ha ⟨s1.heap.objs.size,[s1.heap.objs.size],_,Its z,H1,rfl,I1.kept (t':=s1.toks) fun b o e=>Heap.get?_push_of_some _ e,
   cS (T:="str_iterator") (fl:=fun i=>#[.str z t,.int i 0]) (fun A hh=>Walks.strWide hh _ z t) (fun i h st=>st) (by decide) (fun i H g=>g) (fun i H g=>g) (fun i H u _ hu=>n9 hu) (fun A i s Q E st h=>wpAny_pyIter_striter_wide st h),⟨_,Heap.get?_push_size _ rfl,rfl,rfl⟩,fp,q⟩
 ·refine wpAny_pyIter_ascii ha ⟨s1.heap.objs.size,[s1.heap.objs.size],_,Its z,H1,rfl,I1.kept (t':=s1.toks) fun b o e=>Heap.get?_push_of_some _ e,
   cS (T:="str_ascii_iterator") (fl:=fun i=>#[.str z t,.int i 0]) (fun A hh=>Walks.strAscii hh _ z t) (fun i h st=>st) (by decide) (fun i H g=>g) (fun i H g=>g) (fun i H u _ hu=>n9 hu) (fun A i s Q E st h=>wpAny_pyIter_striter_ascii st h),⟨_,Heap.get?_push_size _ rfl,rfl,rfl⟩,fp,q⟩
inductive yY (x:V)(lo:Option Int)(hi:Option Int)(H:Hp)(Q:VK):Prop
 | mk:∀ z,(x = .str z)→(z.length≤sizeLine)→(Q (.str (Txt.slice z lo hi)) H)→yY x lo hi H Q
theorem aR:SlR X yY:=by
 intro pins s σ H x v vl vu lo hi sl Q I rx hs pl pu h
 obtain ⟨z,rfl,hz,q⟩:=h
 obtain ⟨t,rfl⟩:=rx
 have fin:∀ (lo hi:Option Int),Q (.str (Txt.slice z lo hi)) H→∀ t' k,EP X pins σ Q (.str (Txt.slice z lo hi) t') { s with toks:=k }:=fun lo hi q t' k=>⟨.str _,H,I.tok _,⟨_,rfl⟩,q⟩
 refine ⟨"str",_,F.slot_str_getitem.lookup,typeIs_str _ _ _,?_⟩
 cases pl with
 | none =>
  cases pu with
  | none=>exact wpAny_getItem_str_slice (l:=none) (u:=none) (st:=none) hs rfl (post_val_or_str ⟨Nat.le_trans (Txt.slice_le z _ _) hz,fun t' k=>fin _ _ q t' k⟩)
  | int j uj=>exact wpAny_getItem_str_slice (l:=none) (u:=some (j,uj)) (st:=none) hs rfl (post_val_or_str ⟨Nat.le_trans (Txt.slice_le z _ _) hz,fun t' k=>fin _ _ q t' k⟩)
 | int i ui =>
  cases pu with
  | none=>exact wpAny_getItem_str_slice (l:=some (i,ui)) (u:=none) (st:=none) hs rfl (post_val_or_str ⟨Nat.le_trans (Txt.slice_le z _ _) hz,fun t' k=>fin _ _ q t' k⟩)
  | int j uj=>exact wpAny_getItem_str_slice (l:=some (i,ui)) (u:=some (j,uj)) (st:=none) hs rfl (post_val_or_str ⟨Nat.le_trans (Txt.slice_le z _ _) hz,fun t' k=>fin _ _ q t' k⟩)
inductive sV (x:V)(vs:List V)(H:Hp)(Q:VK):Prop
 | mk:∀ z,(x = .str z)→(vs=[])→(z.length≤5592405)→(Q (.str (Txt.upper z)) H)→sV x vs H Q
inductive sW (x:V)(vs:List V)(H:Hp)(Q:VK):Prop
 | mk:∀ z,(x = .str z)→(vs=[])→(z.length≤5592405)→(Q (.str (Txt.lower z)) H)→sW x vs H Q
theorem lM:MtR X "str.upper" sV:=by
 intro pins s σ H x vs v us Q I rx rv h
 obtain ⟨z,rfl,rfl,hz,q⟩:=h
 obtain ⟨t,rfl⟩:=rx
 cases rv
 exact SCL.upper hz fun _=>⟨.str _,H,I.tok _,⟨_,rfl⟩,q⟩
theorem qV:MtR X "str.lower" sW:=by
 intro pins s σ H x vs v us Q I rx rv h
 obtain ⟨z,rfl,rfl,hz,q⟩:=h
 obtain ⟨t,rfl⟩:=rx
 cases rv
 exact SCL.lower hz fun _=>⟨.str _,H,I.tok _,⟨_,rfl⟩,q⟩
theorem eX:∀ {ys:List Str} {us:List Value},bu (ys.map V.str) us→StrsAre us ys
 | [],_,r=>by
  rw [List.map_nil] at r
  cases r
  exact .nil
 | y::ys,us,r=>by
  rw [List.map_cons] at r
  cases r with
  | cons r1 r2 =>
   obtain ⟨t,e⟩:=r1
   subst e
   exact .cons y t (eX r2)
inductive v5 (K:PySem.W.Frag)(x:V)(vs:List V)(H:Hp)(Q:VK):Prop
 | mk:∀ z p ys,(x = .str z)→(vs=[.ref p])→(SqL K H p (ys.map V.str))→((ys.map (·.length)).sum+ys.length*z.length≤16777216)→(Q (.str (Txt.join z ys)) H)→v5 K x vs H Q
theorem n_:MtR X "str.join" (v5 X.K):=by
 intro pins s σ H x vs v us Q I rx rv h
 obtain ⟨z,p,ys,rfl,rfl,hq,hz,q⟩:=h
 obtain ⟨t,rfl⟩:=rx
 obtain ⟨u,rfl,ru⟩:=cP rv
 cases ru
 obtain ⟨its,r,pl,_⟩:=I.list hq
 exact join_list pl.isList (by simpa using eX r) hz fun t' k=>⟨.str _,H,I.tok _,⟨_,rfl⟩,q⟩
inductive dm  (xs:List V)(H:Hp)(Q:VK):Prop
 | mk:∀ z,(xs=[.str z])→((reprText z).length≤sizeLine)→(Q (.str (reprText z)) H)→dm xs H Q
theorem d9:cx X (.builtin "repr") dm:=by
 intro pins s σ H xs us Q I r h
 obtain ⟨z,rfl,hz,q⟩:=h
 obtain ⟨u,rfl,t,rfl⟩:=cP r
 exact P.repr_of_str ⟨.str _,H,I.tok _,⟨_,rfl⟩,q⟩ hz
inductive fi  (x:V)(y:V)(H:Hp)(Q:VK):Prop
 | mk:∀ z n,(x = .str z)→(y = .int n)→(MulOk z n)→(Q (.str (Txt.mul z n)) H)→fi x y H Q
theorem bo:OpR X (binaryOp .Mult) fi:=by
 intro pins s σ H x y v u Q I rx ry h
 obtain ⟨z,n,rfl,rfl,hz,q⟩:=h
 obtain ⟨t,rfl⟩:=rx
 obtain ⟨t',rfl⟩:=ry
 exact SB.mul hz fun t' k=>⟨.str _,H,I.tok _,⟨_,rfl⟩,q⟩
end
theorem uc {z:Str}{g:TG}{tb:TS}{D:gZ}{σ:St}{H:Hp}(Pv:Nat→St→Hp→Prop)(h0:Pv 0 σ H)
  (hs:∀ i c σ H,z.cps[i]? = some c→Pv i σ H→g (.str ⟨#[c]⟩) σ H fun σ2 H2=>tb { D with nx:=Pv (i+1),ct:=Pv (i+1),bk:=D.nx } σ2 H2) (hd:∀ σ H,Pv z.cps.size σ H→D.nx σ H) :
  ∃ W:Nat→Nat→St→Hp→Prop,(∃ m,W 0 m σ H)∧∀ i m σ H,W i m σ H →
   ((Its z).stop i H∧D.nx σ H) ∨ ((Its z).go i H∧∃ N:St→Hp→Prop,(∀ σ' H',N σ' H'→∃ m',m' < m∧W (i+1) m' σ' H')∧∀ x H',(Its z).yld i H x H'→g x σ H' fun σ2 H2=>tb { D with nx:=N,ct:=N,bk:=D.nx } σ2 H2):=by
 refine ⟨fun i m σ H=>m=z.cps.size - i∧i≤z.cps.size∧Pv i σ H,⟨z.cps.size,by simp,Nat.zero_le _,h0⟩,?_⟩
 rintro i m σ H ⟨rfl,hi,p⟩
 by_cases hlt:i < z.cps.size
 ·refine .inr ⟨hlt,Pv (i+1),fun σ' H' p'=>⟨z.cps.size - (i+1),by omega,rfl,hlt,p'⟩,fun x H' y=>?_⟩
  obtain ⟨e,c,hc,ex⟩:=y
  subst e ex
  exact hs i c σ _ hc p
 ·have e:i=z.cps.size:=by omega
  subst e
  exact .inl ⟨rfl,hd σ H p⟩
end L2
namespace PySem
open Sem (wp)
open Builtin Builtin.SmallTypes
namespace F
theorem lookup_str_reversed:typeLookup (.type "str") "__reversed__" = pure none:=by rw [typeLookup_type,builtinLookup_eq_fast]; kernel_rfl
theorem iM:Slot "reversed" "__init__" "object.__init__" :=
 .of (owner:="object") (n:="__init__") (by rw [typeLookup_type,builtinLookup_eq_fast];kernel_rfl) (by decide +kernel) (by decide +kernel) (by decide +kernel)
  (by first | exact .inl (by decide +kernel) | exact .inr (by decide +kernel)) (by rw [isSubtype_type];kernel_rfl)
theorem called_rvs:TypeCalled "reversed" "reversed.__new__" "object.__init__" :=
 ⟨by decide +kernel,create_reversed,⟨_,_,mro_reversed⟩,made_reversed,plain_reversed_new,sub_reversed_self,iM⟩
end F
set_option maxHeartbeats 1000000 in
theorem og (x:Str)(t:Tok):Meets (Builtin.«reversed.__new__» ⟨[.type "reversed",.str x t],[]⟩) (fun _ R s=>¬ (x.length:Int)≥2 ^ 63 ∧
   ∀ tk,R (.ok (.ret (.ref s.heap.objs.size))) { s with heap:=s.heap.push { cls:=.type "reversed",data:=.fields #[.str x t,rawInt ((x.length:Int) - 1)] },toks:=tk }) :=
 .of_wp fun prog w A R s h=>by
  obtain ⟨hx,h⟩:=h
  unfold Builtin.«reversed.__new__»
  refine wpAny_bind (wpAny_of_eq (newClass_reversed _) ?_)
  try dsimp only
  refine wpAny_bind (wpAny_of_eq (a:=()) (by first | rfl | kernel_rfl) ?_)
  refine wpAny_bind (wpAny_of_eq (a:=()) (by first | rfl | kernel_rfl) ?_)
  try dsimp only
  refine wpAny_bind (wpAny_specialOf (typeIs_str s x t) F.lookup_str_reversed ?_)
  try dsimp only
  refine wpAny_bind ?_
  have hl:=F.slot_str_getitem.lookup
  have hT:=typeIs_str s x t
  have hD:isSubtype (.type "str") (.type "dict")=pure false:=by rw [isSubtype_type];kernel_rfl
  repeat (any_goals (first | assumption | refine PySem.P.len_str hx ?_ | wp_step))
  exact ⟨_,rfl,h _⟩
def Heap.IsRvs (h:Heap)(a:Addr)(x:Str)(t:Tok)(i:Int):Prop:=∃ o,h.get? a=some o∧o.cls = .type "reversed"∧o.data = .fields #[.str x t,rawInt i]
theorem Heap.IsRvs.typeIs {s:Shared}{a:Addr}{x:Str}{t:Tok}{i:Int}(y:s.heap.IsRvs a x t i):s.TypeIs (.ref a) "reversed":=let ⟨o,ho,hc,_⟩:=y; ⟨o,ho,hc⟩
namespace F
theorem slot_rvs_next:Slot "reversed" "__next__" "reversed.__next__" :=
 .of (owner:="reversed") (n:="__next__") (by rw [typeLookup_type,builtinLookup_eq_fast];kernel_rfl) (by decide +kernel) (by decide +kernel) (by decide +kernel)
  (by first | exact .inl (by decide +kernel) | exact .inr (by decide +kernel)) (by rw [isSubtype_type];kernel_rfl)
theorem entry_rvs_next:entryFor table "reversed.__next__" = some Builtin.«reversed.__next__»:=entryFor_of_tree (by kernel_rfl)
theorem args_rvs_next (a:Value):argsOk "reversed.__next__" ⟨[a],[]⟩:=by unfold argsOk; kernel_rfl
theorem slot_rvs_iter:Slot "reversed" "__iter__" "reversed.__iter__" :=
 .of (owner:="reversed") (n:="__iter__") (by rw [typeLookup_type,builtinLookup_eq_fast];kernel_rfl) (by decide +kernel) (by decide +kernel) (by decide +kernel)
  (by first | exact .inl (by decide +kernel) | exact .inr (by decide +kernel)) (by rw [isSubtype_type];kernel_rfl)
theorem args_rvs_iter (a:Value):argsOk "reversed.__iter__" ⟨[a],[]⟩:=by unfold argsOk; kernel_rfl
theorem entry_rvs_iter:entryFor table "reversed.__iter__" = some Builtin.«dict_keyiterator.__iter__» :=
 entryFor_alias (id':="dict_keyiterator.__iter__") (by kernel_rfl) rfl (by decide +kernel) (by kernel_rfl)
end F
section
variable {prog:Program} {w:World} {A:Around} {E:Value→Shared→Prop} {s:Shared} {x:Str} {t:Tok}
theorem jA {Q:Value→Shared→Prop}(hx:¬ (x.length:Int)≥2 ^ 63)
  (h:∀ tk,Q (.ref s.heap.objs.size) { s with heap:=s.heap.push { cls:=.type "reversed",data:=.fields #[.str x t,rawInt ((x.length:Int) - 1)] },toks:=tk }):wpAny (model prog w) A (call (.type "reversed") [.str x t]) Q E s :=
 callType_new F.called_rvs (by decide) (F.typeCall_reversed_1 _) (F.newCall_reversed_1 _) (fun obj=>F.args_object_init_2 obj _) F.entry_reversed_new (og x t) ⟨hx,fun tk=>⟨⟨_,Heap.get?_push_size _ rfl,rfl⟩,h tk⟩⟩
theorem iN {it:Addr}{i:Int}{Q:Value→Shared→Prop}(hit:s.heap.IsRvs it x t i)(h:Q (.ref it) s):wpAny (model prog w) A (pyIter (.ref it)) Q E s:=by
 refine wpAny_pyIter_slot hit.typeIs F.slot_rvs_iter (wpAny_call_entry F.slot_rvs_iter hit.typeIs F.entry_rvs_iter ?_ (F.args_rvs_iter _))
 show wpAny _ _ (ret (.ref it)) _ _ s
 exact wpAny_pure ⟨_,rfl,"reversed",_,hit.typeIs,F.slot_rvs_next.lookup,h⟩
theorem iO {it:Addr}{i:Nat}{c:Nat}{Q:Option Value→Shared→Prop}(hit:s.heap.IsRvs it x t (i:Int))(hx:x.cps[i]? = some c)(h63:(i:Int) < 2 ^ 63)
  (hQ:∀ h' tk u,h'.IsRvs it x t ((i:Int) - 1)→Heap.SameBut it s.heap h'→Q (some (.str ⟨#[c]⟩ u)) { s with heap:=h',toks:=tk }):wpAny (model prog w) A (pyNext (.ref it)) Q E s:=by
 obtain ⟨o,ho,hc,hd⟩:=id hit
 unfold pyNext
 refine wpAny_bind (wpAny_attempt (wpAny_callSpecial?_slot (name:=Str.ofString "__next__") hit.typeIs F.slot_rvs_next
  (wpAny_call_entry F.slot_rvs_next hit.typeIs F.entry_rvs_next ?_ (F.args_rvs_next _))))
 unfold Builtin.«reversed.__next__»
 refine wpAny_bind (wpAny_of_eq (a:=(Value.ref it,[])) rfl ?_)
 try dsimp only
 refine wpAny_bind (wpAny_field ho hd (x:=.str x t) rfl ?_)
 refine wpAny_bind (wpAny_field ho hd (x:=rawInt (i:Int)) rfl ?_)
 show wpAny _ _ (if (i:Int) < 0 then _ else _) _ _ s
 rw [if_neg (by omega)]
 refine wpAny_bind (wpAny_specialOf (typeIs_str s x t) F.slot_str_getitem.lookup ?_)
 show wpAny _ _ (if (some (Value.builtin "str.__getitem__")).isNone=true then _ else _) _ _ s
 rw [if_neg (by decide)]
 refine wpAny_bind (wpAny_mkInt ?_)
 have hlt:i < x.length:=by
  have:=Array.getElem?_eq_some_iff.mp hx
  exact this.1
 refine wpAny_bind (wpAny_attempt (PySem.P.getItem_str (c:=c) ?_ ?_ ?_))
 ·have e1:decide ((i:Int) < -(2 ^ 63:Int))=false:=decide_eq_false (by omega)
  have e2:decide ((i:Int)≥2 ^ 63)=false:=decide_eq_false (by omega)
  rw [e1,e2,Bool.or_false]
 ·rw [PySem.StrLaws.seqIndex_nonneg (by omega) (by omega)]
  simpa using hx
 try dsimp only
 refine wpAny_bind (wpAny_field ho hd (x:=rawInt (i:Int)) rfl ?_)
 show wpAny _ _ (setField (.ref it) 1 (rawInt ((i:Int) - 1)) >>= _) _ _ _
 refine wpAny_bind (wpAny_setField ho hd (by simp) ?_)
 refine wpAny_pure ⟨_,rfl,wpAny_pure (hQ _ _ _ ?_ (Heap.SameBut.update ..))⟩
 exact ⟨_,Heap.get?_update_self _ ho (Obj.isFreed_of_fields (Obj.data_mapFields hd _)),(Obj.cls_mapFields ..).trans hc,by
  rw [Obj.data_mapFields hd];simp⟩
theorem jB {it:Addr}{Q:Option Value→Shared→Prop}(hh:A.handled=none)(hit:s.heap.IsRvs it x t (-1))
  (hQ:∀ h',(∀ b o,b≠it→s.heap.get? b=some o→h'.get? b=some o)→Q none { s with heap:=h' }):wpAny (model prog w) A (pyNext (.ref it)) Q E s:=by
 obtain ⟨o,ho,hc,hd⟩:=id hit
 unfold pyNext
 refine wpAny_bind (wpAny_attempt (wpAny_callSpecial?_slot (name:=Str.ofString "__next__") hit.typeIs F.slot_rvs_next
  (wpAny_call_entry F.slot_rvs_next hit.typeIs F.entry_rvs_next ?_ (F.args_rvs_next _))))
 unfold Builtin.«reversed.__next__»
 refine wpAny_bind (wpAny_of_eq (a:=(Value.ref it,[])) rfl ?_)
 try dsimp only
 refine wpAny_bind (wpAny_field ho hd (x:=.str x t) rfl ?_)
 refine wpAny_bind (wpAny_field ho hd (x:=rawInt (-1)) rfl ?_)
 show wpAny _ _ (if (-1:Int) < 0 then _ else _) _ _ s
 rw [if_pos (by decide)]
 refine wpAny_bind (wpAny_rule ?_)
 refine wpAny_bind ?_
 show wpAny _ _ (setField (.ref it) 1 (rawInt (-1)) >>= fun _=>setField (.ref it) 0 .none) _ _ s
 refine wpAny_bind (wpAny_setField ho hd (by simp) ?_)
 have ho2:=Heap.get?_update_self (Obj.mapFields fun a=>a.setIfInBounds 1 (rawInt (-1))) ho (Obj.isFreed_of_fields (Obj.data_mapFields hd _))
 have hd2:=Obj.data_mapFields hd fun a=>a.setIfInBounds 1 (rawInt (-1))
 refine wpAny_setField ho2 hd2 (by simp) ?_
 generalize hh2:(s.heap.update it _).update it _=h2
 have kk:∀ b o,b≠it→s.heap.get? b=some o→h2.get? b=some o:=fun b o hb e=>by
  rw [← hh2]
  exact (Heap.get?_update_other _ _ (Ne.symm hb)).trans ((Heap.get?_update_other _ _ (Ne.symm hb)).trans e)
 have hz:A.in1.handled=none:=hh
 have sub:=isSubtype_stop
 repeat (any_goals (first | assumption | wp_step))
 unfold raiseNew
 refine wpAny_bind (wpAny_handled ?_)
 rw [hz]
 refine wpAny_bind (wpAny_pure (wpAny_throw ?_))
 refine wpAny_bind (wpAny_isInstance (T:="StopIteration") (b:=true) ?_ sub (wpAny_pure (hQ _ fun b o hb e=>?_)))
 ·exact ⟨_,Heap.get?_push_size _ rfl,rfl⟩
 exact Heap.get?_push_of_some _ (Heap.get?_push_of_some _ (kk b o hb e))
theorem oh (hh:A.handled=none)(it:Addr)(x:Str)(t:Tok)(h63:(x.cps.size:Int) < 2 ^ 63) :
  Walks prog w A it [it] [it] x.cps.size (fun i v=>∃ c u,x.cps[x.cps.size - 1 - i]? = some c∧v = .str ⟨#[c]⟩ u) (fun i h=>i≤x.cps.size∧h.IsRvs it x t ((x.cps.size:Int) - 1 - (i:Int))) where
 sub:=fun _ hb=>hb
 frame:=fun _ _ _ st hk=>let ⟨l,o,ho,r⟩:=st;⟨l,o,hk it (by simp) o ho,r⟩
 item:=fun i s Q E hi y hQ=>by
  have e:(x.cps.size:Int) - 1 - (i:Int)=((x.cps.size - 1 - i:Nat):Int):=by omega
  have hit:=y.2
  rw [e] at hit
  have hx:x.cps[x.cps.size - 1 - i]? = some (x.cps[x.cps.size - 1 - i]'(by omega)):=Array.getElem?_eq_getElem (by omega)
  refine iO hit hx (by omega) fun h' tk u hit' hs'=>?_
  have e2:((x.cps.size - 1 - i:Nat):Int) - 1=(x.cps.size:Int) - 1 - ((i+1:Nat):Int):=by omega
  rw [e2] at hit'
  exact hQ _ h' tk ⟨_,u,hx,rfl⟩ ⟨hi,hit'⟩ fun b o hb eo=>hs'.extBut b o (fun h=>hb (by simp [h])) eo
 done:=fun s Q E y hQ=>by
  have e:(x.cps.size:Int) - 1 - (x.cps.size:Int) = -1:=by omega
  have hit:=y.2
  rw [e] at hit
  exact jB hh hit fun h' he'=>hQ h' s.toks fun b o hb eo=>he' b o (fun h=>hb (by simp [h])) eo
 self:=fun _ _ _ _ y hQ=>iN y.2 hQ
end
end PySem
namespace L2
open PySem PySem.Spec PyProof.Rows
def xU (z:Str):It:=⟨fun i _=>i < z.cps.size,fun i H x H'=>H'=H∧∃ c,z.cps[z.cps.size - 1 - i]? = some c∧x = .str ⟨#[c]⟩,fun i _=>i=z.cps.size⟩
section
variable {X:Cx} {tg:Expr}
def xV (ta:TA):TI:=fun σ H R=>ta σ H fun vs H1=>∃ z,vs=[.str z]∧z.length≤sizeLine∧R (xU z) H1
theorem ud {a:Expr}{ta:TA}{p pos:Pos}(hg:Gl X "reversed")(hm:X.mg "reversed" = none)(hb:bootBuiltins "reversed" = some (.type "reversed"))(ha:PA X [a] ta)(hs:starEach [a] X.env=[(false,eval a X.env)]:=by rfl) :
  PI X tg (.Call (.Name "reversed" p) [a] [] pos) (xV ta):=by
 intro pins s σ H R I h
 refine Call_ (ff I hg hm hb (PyProof.Rows.callWith_type1 (thn (ha pos pins s σ H _ I h) fun us s1 zq1=>?_) hs rfl))
 obtain ⟨vs,H1,I1,r1,q1⟩:=zq1
 obtain ⟨z,rfl,hz,q⟩:=q1
 obtain ⟨u,rfl,t,rfl⟩:=cP r1
 have hn:=f_
 have hsz:z.cps.size=z.length:=rfl
 refine jA (by omega) fun tk=>?_
 have hit:Heap.IsRvs (s1.heap.push { cls:=.type "reversed",data:=.fields #[.str z t,rawInt ((z.length:Int) - 1)] }) s1.heap.objs.size z t ((z.length:Int) - 1):=⟨_,Heap.get?_push_size _ rfl,rfl,rfl⟩
 refine iN (s:={ s1 with heap:=s1.heap.push { cls:=.type "reversed",data:=.fields #[.str z t,rawInt ((z.length:Int) - 1)] },toks:=tk }) hit ?_
 refine ⟨s1.heap.objs.size,[s1.heap.objs.size],_,xU z,H1,rfl,I1.kept (t':=tk) fun b o e=>Heap.get?_push_of_some _ e,
  cS (T:="reversed") (fl:=fun i=>#[.str z t,rawInt ((z.cps.size:Int) - 1 - (i:Int))]) (fun A hh=>oh hh _ z t (by omega)) (fun i h st=>st.2) (by decide) (fun i H g=>g) (fun i H g=>g)
   (fun i H u _ ⟨c,t',e,eu⟩=>⟨.str ⟨#[c]⟩,⟨t',eu⟩,rfl,c,e,rfl⟩) (fun A i s Q E st h=>iN st.2 h),⟨Nat.zero_le _,by simpa [hsz] using hit⟩,fun b hb=>?_,q⟩
 have e:b=s1.heap.objs.size:=by simpa using hb
 subst e
 exact I1.fpOk (Nat.le_refl _) (I1.hok.fresh (Nat.le_refl _))
structure DTx (K:PySem.W.Frag) (w:World) (a:Addr):Prop where
 ob:∃ (es:Array DictEntry) (n:Nat),K.lookup a=some ⟨.type "dict",none,.dict es n,#[]⟩∧PySem.W.KeysLit w.params es.toList
theorem qW {a:Addr}(D:DTx X.K X.w a):IxR X (fun x y H Q=>∃ z z' t,x = .ref a∧y = .str z∧PySem.W.nsIn X.K a z=some (some (.str z' t))∧Q (.str z') H):=by
 intro value slice pins s σ H x y v u Q I rx ry h hs
 obtain ⟨z,z',t',rfl,rfl,e,q⟩:=h
 cases rx
 obtain ⟨t,rfl⟩:=ry
 obtain ⟨es,n,hl,hk⟩:=D.ob
 obtain ⟨m,F⟩:=I.fr
 exact PySem.W.topItem_K F I.ok.mod.kin hl hk e ⟨.str z',H,I.tok _,⟨_,rfl⟩,q⟩ hs
def qX (K:PySem.W.Frag)(a:Addr)(Q:VK):V→Hp→Prop:=fun y H1=>∃ z z' t,y = .str z∧PySem.W.nsIn K a z=some (some (.str z' t))∧Q (.str z') H1
def xW (K:PySem.W.Frag)(a:Addr)(ti:TE):TE:=fun σ H Q=>ti σ H (qX K a Q)
theorem oi {K:PySem.W.Frag}{w:World}{a:Addr}{x:Str}{i:Expr}{ti:TE}{p pos:Pos}(D:DTx K w a)(hK:X.K=K)(hw:X.w=w)(hg:Gl X x)(hm:X.mg x=some (.ref a))(hi:PE X i ti)(hs:nO i)
  (hd:(x == ("__debug__":Str))=false:=by decide):PE X (.Subscript (.Name x p) i pos) (xW K a ti):=by
 subst hK hw
 intro pins s σ H Q I h
 refine Subscript_ (nt I hg hm (thn (hi pins s σ H _ I h) fun u s2 zq2=>?_) hd)
 obtain ⟨y,H2,I2,ry,z,z',t',e1,e2,q⟩:=zq2
 exact qW D _ _ pins s2 σ H2 (.ref a) y (.ref a) u Q I2 rfl ry ⟨z,z',t',rfl,e1,e2,q⟩ (hs _ _)
end
end L2
namespace Wd
abbrev L:=Fin 12
def inv (x:L):L:=if h:x.val < 6 then ⟨x.val+6,by omega⟩ else ⟨x.val - 6,by omega⟩
theorem dq:∀ x:L,inv (inv x)=x:=by decide
def bk (w:List L):List L:=(w.map inv).reverse
theorem oj (u v:List L):bk (u++v)=bk v++bk u:=by simp [bk]
theorem bM (w:List L):(bk w).length=w.length:=by simp [bk]
theorem h_ (x:L):bk [x]=[inv x]:=rfl
def push (st:List L)(x:L):List L:=match st with
 | []=>[x]
 | y::r=>if y=inv x then r else x::y::r
def act (w:List L)(st:List L):List L:=w.foldl push st
theorem iP (x:L)(w st:List L):act (x::w) st=act w (push st x):=rfl
theorem dF (u v st:List L):act (u++v) st=act v (act u st):=by simp [act,List.foldl_append]
theorem qY (u:List L)(x:L)(st:List L):act (u++[x]) st=push (act u st) x:=by rw [dF]; rfl
def Rd:List L→Prop
 | []=>True
 | [_]=>True
 | x::y::r=>y≠inv x∧Rd (y::r)
theorem Rd.tail:∀ {x:L} {r:List L},Rd (x::r)→Rd r
 | _,[],_=>trivial
 | _,_::_,h=>h.2
theorem om {st:List L}(x:L)(h:Rd st):Rd (push st x):=by
 cases st with
 | nil=>trivial
 | cons y r =>
  show Rd (if y=inv x then r else x::y::r)
  split
  ·exact h.tail
  ·rename_i hn
   exact ⟨hn,h⟩
theorem oo:∀ (w:List L) {st:List L},Rd st→Rd (act w st)
 | [],_,h=>h
 | x::w,st,h=>oo w (om x h)
theorem oq {st:List L}(x:L)(h:Rd st):push (push st x) (inv x)=st:=by
 cases st with
 | nil =>
  show (if x=inv (inv x) then [] else _)=_
  rw [if_pos (dq x).symm]
 | cons y r =>
  show push (if y=inv x then r else x::y::r) (inv x)=y::r
  by_cases e:y=inv x
  ·rw [if_pos e]
   subst e
   cases r with
   | nil=>rfl
   | cons z r =>
    show (if z=inv (inv x) then r else inv x::z::r)=_
    rw [if_neg h.1]
  ·rw [if_neg e]
   show (if x=inv (inv x) then y::r else _)=_
   rw [if_pos (dq x).symm]
def red (w:List L):List L:=(act w []).reverse
theorem ot:∀ {st:List L},Rd st→act st.reverse []=st
 | [],_=>rfl
 | x::r,h=>by
  rw [List.reverse_cons,qY,ot h.tail]
  cases r with
  | nil=>rfl
  | cons y r =>
   show (if y=inv x then r else _)=_
   rw [if_neg h.1]
theorem sX:Rd []:=trivial
theorem kr (st:List L)(x:L):(push st x).length≤st.length+1:=by
 cases st with
 | nil=>simp [push]
 | cons y r =>
  show (if y=inv x then r else x::y::r).length≤_
  split
  ·simp only [List.length_cons];omega
  ·simp
theorem ia:∀ (w st:List L),(act w st).length≤st.length+w.length
 | [],_=>by simp [act]
 | x::w,st=>by
  have:=ia w (push st x)
  have:=kr st x
  rw [iP,List.length_cons]
  omega
theorem ib (w:List L):(red w).length≤w.length:=by
 have:=ia w []
 simpa [red] using this
def rep:Nat→List L→List L
 | 0,_=>[]
 | n+1,w=>rep n w++w
theorem lN (w:List L):∀ n,rep n w++w=w++rep n w
 | 0=>by simp [rep]
 | n+1=>by
  show (rep n w++w)++w=w++(rep n w++w)
  rw [← List.append_assoc,← lN w n]
theorem eY (w:List L):∀ n,(rep n w).length=n*w.length
 | 0=>by simp [rep]
 | n+1=>by
  show (rep n w++w).length=_
  rw [List.length_append,eY w n,Nat.succ_mul]
def pw (w:List L)(n:Int):List L:=rep n.natAbs (if n < 0 then bk w else w)
def sY (k:Nat)(w:List L):Prop:=∀ i x y,i+1 < k→w[i]? = some x→w[i+1]? = some y→y≠inv x
theorem ue:∀ {w:List L} {k:Nat},w.length≤k→sY k w→act w []=w.reverse:=by
 have all:∀ (u st:List L),Rd st→(∀ x y,st.head? = some x→u.head? = some y→y≠inv x)→sY u.length u→act u st=u.reverse++st:=by
  intro u
  induction u with
  | nil=>intro st _ _ _;rfl
  | cons x u ih =>
   intro st h hd hr
   have e:push st x=x::st:=by
    cases st with
    | nil=>rfl
    | cons y r =>
     show (if y=inv x then r else _)=_
     rw [if_neg]
     intro e
     have:=hd y x rfl rfl
     rw [e,dq] at this
     exact this rfl
   rw [iP,e,ih (x::st),List.reverse_cons,List.append_assoc]
   ·rfl
   ·rw [← e];exact om x h
   ·intro a b ha hb
    have ea:a=x:=(Option.some.inj ha).symm
    subst ea
    cases u with
    | nil=>cases hb
    | cons c u =>
     have eb:b=c:=(Option.some.inj hb).symm
     subst eb
     exact hr 0 a b (by simp) rfl rfl
   ·intro i a b hi ha hb
    exact hr (i+1) a b (by simp only [List.length_cons];omega) ha hb
 intro w k hk h
 have:=all w [] sX (fun x y hx=>by cases hx) (fun i x y hi=>h i x y (by omega))
 simpa using this
theorem gr {w:List L}{k:Nat}(hk:w.length≤k)(h:sY k w):red w=w:=by
 unfold red
 rw [ue hk h,List.reverse_reverse]
theorem ou {w:List L}{k:Nat}(h:sY (k+1) w)(hn:∀ x y,w[k]? = some x→w[k+1]? = some y→y≠inv x):sY (k+2) w:=by
 intro i x y hi hx hy
 by_cases e:i=k
 ·subst e;exact hn x y hx hy
 ·exact h i x y (by omega) hx hy
theorem qZ {w:List L}{k:Nat}(h:sY (k+1) w):sY (k - 1+1) (w.take k++w.drop (k+2)):=by
 intro i x y hi hx hy
 by_cases hk:k=0
 ·omega
 ·have e1:(w.take k++w.drop (k+2))[i]? = w[i]?:=by
   by_cases hl:i < (w.take k).length
   ·rw [List.getElem?_append_left hl,List.getElem?_take_of_lt (by omega)]
   ·rw [List.length_take] at hl
    rw [List.getElem?_eq_none (l:=w) (by omega)]
    rw [List.getElem?_eq_none]
    rw [List.length_append,List.length_take,List.length_drop]
    omega
  have e2:(w.take k++w.drop (k+2))[i+1]? = w[i+1]?:=by
   by_cases hl:i+1 < (w.take k).length
   ·rw [List.getElem?_append_left hl,List.getElem?_take_of_lt (by omega)]
   ·rw [List.length_take] at hl
    rw [List.getElem?_eq_none (l:=w) (by omega)]
    rw [List.getElem?_eq_none]
    rw [List.length_append,List.length_take,List.length_drop]
    omega
  rw [e1] at hx
  rw [e2] at hy
  exact h i x y (by omega) hx hy
theorem uf {w:List L}{k:Nat}{x:L}(hx:w[k]? = some x)(hy:w[k+1]? = some (inv x)):red (w.take k++w.drop (k+2))=red w:=by
 obtain ⟨h1,e1⟩:=List.getElem?_eq_some_iff.mp hx
 obtain ⟨h2,e2⟩:=List.getElem?_eq_some_iff.mp hy
 have e:w=w.take k++([x,inv x]++w.drop (k+2)):=by
  have a:=(List.take_append_drop k w).symm
  have b:w.drop k=x::inv x::w.drop (k+2):=by
   rw [List.drop_eq_getElem_cons h1,List.drop_eq_getElem_cons h2,e1,e2]
  rw [b] at a
  exact a
 have q:red (w.take k++([x,inv x]++w.drop (k+2)))=red (w.take k++w.drop (k+2)):=by
  unfold red
  rw [dF,dF,dF]
  show (act (w.drop (k+2)) (push (push (act (w.take k) []) x) (inv x))).reverse=_
  rw [oq x (oo _ sX)]
 rw [← q,← e]
end Wd
namespace L2
open PySem PySem.Spec PyProof.Rows Wd
def cp (x:L):Nat:=if x.val < 6 then 97+x.val else 59+x.val
theorem ow:∀ x:L,cp x < 128:=by decide
theorem v7:∀ x y:L,cp x=cp y→x=y:=by decide
def toS (w:List L):Str:=⟨(w.map cp).toArray⟩
def tx (w:List L):V:=.str (toS w)
theorem bV (w:List L):(toS w).cps.toList=w.map cp:=by simp [toS]
theorem ae (w:List L):(toS w).length=w.length:=by simp [toS,Str.length]
theorem cT (w:List L):(toS w).cps.size=w.length:=by simp [toS]
theorem dG (u v:List L):toS u++toS v=toS (u++v):=by
 apply Str.ext'
 rw [Str.cps_append]
 simp [toS]
theorem eZ:∀ {u v:List L},u.map cp=v.map cp→u=v
 | [],[],_=>rfl
 | [],_::_,h=>by simp at h
 | _::_,[],h=>by simp at h
 | x::u,y::v,h=>by
  simp only [List.map_cons,List.cons.injEq] at h
  rw [v7 x y h.1,eZ h.2]
theorem cm {u v:List L}(h:toS u=toS v):u=v:=by
 have:(toS u).cps.toList=(toS v).cps.toList:=by rw [h]
 rw [bV,bV] at this
 exact eZ this
theorem ie {u v:List L}(h:tx u=tx v):u=v:=cm (V.str.inj h)
theorem ug:toS []=("":Str):=by decide +kernel
theorem fj:tx []=V.str ("":Str):=congrArg V.str ug
theorem ox (u v:List L):decide (tx u=tx v)=decide (u=v):=by
 by_cases h:u=v
 ·subst h;simp
 ·rw [decide_eq_false h,decide_eq_false fun e=>h (ie e)]
theorem uh:toS [0,1,2,3,4,5]=("abcdef":Str):=by decide +kernel
theorem big:toS [6,7,8,9,10,11]=("ABCDEF":Str):=by decide +kernel
theorem iQ {w:List L}{i c:Nat}(h:(toS w).cps[i]? = some c):∃ x,w[i]? = some x∧(⟨#[c]⟩:Str)=toS [x]:=by
 have h:((w.map cp).toArray)[i]? = some c:=h
 rw [List.getElem?_toArray,List.getElem?_map] at h
 cases e:w[i]? with
 | none=>rw [e] at h;cases h
 | some x =>
  rw [e] at h
  have:cp x=c:=Option.some.inj h
  exact ⟨x,rfl,by rw [← this];rfl⟩
theorem bN {w:List L}{k:Nat}{x:L}{i:Int}(hk:i=(k:Int))(h:w[k]? = some x):atI (toS w).cps.toList i=some (cp x):=by
 subst hk
 rw [bV]
 obtain ⟨hl,e⟩:=List.getElem?_eq_some_iff.mp h
 unfold atI ixN
 rw [if_pos (by omega),if_pos (by rw [List.length_map];omega)]
 show (w.map cp)[((k:Nat):Int).toNat]? = _
 rw [Int.toNat_natCast,List.getElem?_map,h]
 rfl
def cutL (w:List L)(lo hi:Option Int):List L:=(w.drop (HT.sIx w.length 0 lo)).take (HT.sIx w.length w.length hi - HT.sIx w.length 0 lo)
theorem uk (lo hi:Option Int)(n:Nat):Builtin.Str.strSliceIndices lo hi 1 n=(List.range (HT.sIx n n hi - HT.sIx n 0 lo)).map (fun k=>HT.sIx n 0 lo+k):=by
 have cl:∀ v:Int,max (0:Int) (min (if v < 0 then v+(n:Int) else v) (n:Int))=(((if v < 0 then (v+(n:Int)).toNat else min v.toNat n):Nat):Int):=fun v=>by
  by_cases hv:v < 0
  ·simp only [if_pos hv];omega
  ·simp only [if_neg hv];omega
 have fin:∀ a b:Nat,sliceRange (a:Int) (b:Int) 1=(List.range (b - a)).map (fun k=>a+k):=fun a b=>by
  unfold sliceRange
  simp only [show ((1:Int) > 0)=True from by simp,if_true]
  by_cases hlt:(a:Int) < b
  ·have e3:(((b:Int) - a+1 - 1) / 1).toNat=b - a:=by first | omega | (simp;done) | (simp;omega)
   simp only [hlt,if_true,e3]
   exact List.map_congr_left fun k _=>by omega
  ·have:b - a=0:=by omega
   simp [hlt,this]
 unfold Builtin.Str.strSliceIndices
 simp only [show ((1:Int) > 0)=True from by simp,if_true]
 cases lo with
 | none =>
  cases hi with
  | none=>exact fin 0 n
  | some j=>simp only [cl];exact fin 0 _
 | some i =>
  cases hi with
  | none=>simp only [cl];exact fin _ n
  | some j=>simp only [cl];exact fin _ _
theorem ao (w:List L)(lo hi:Option Int):Txt.slice (toS w) lo hi=toS (cutL w lo hi):=by
 have h1:=HT.nM w.length 0 (Nat.zero_le _) lo
 have h2:=HT.nM w.length w.length (Nat.le_refl _) hi
 unfold Txt.slice
 rw [uk,ae]
 split
 ·rename_i h
  have hl:HT.sIx w.length w.length hi - HT.sIx w.length 0 lo=w.length:=by simpa using h
  have e:cutL w lo hi=w:=by
   unfold cutL
   rw [hl]
   have ha:HT.sIx w.length 0 lo=0 ∨ w.length=0:=by omega
   rcases ha with ha | ha
   ·rw [ha,List.drop_zero,List.take_length]
   ·have:w=[]:=List.eq_nil_of_length_eq_zero ha
    subst this
    simp
  rw [e]
 ·apply Str.ext'
  show (List.filterMap _ _).toArray=_
  have e:=StrLaws.picks (w.map cp) (HT.sIx w.length w.length hi - HT.sIx w.length 0 lo) (HT.sIx w.length 0 lo)
  by_cases hle:HT.sIx w.length 0 lo≤HT.sIx w.length w.length hi
  ·have e:=e (by rw [List.length_map];omega)
   have e2:(fun k:Nat=>(toS w).cps[k]?)=fun k:Nat=>(w.map cp)[k]?:=funext fun k=>by simp [toS]
   rw [e2,e]
   simp [toS,cutL,List.map_take,List.map_drop]
  ·have z:HT.sIx w.length w.length hi - HT.sIx w.length 0 lo=0:=by omega
   rw [z]
   simp [toS,cutL,z]
theorem bj (w:List L){n:Int}(h:0≤n):cutL w none (some n)=w.take n.toNat:=by
 obtain ⟨k,rfl⟩:=Int.eq_ofNat_of_zero_le h
 unfold cutL
 rw [HT.iE,HT.cQ,List.drop_zero,Nat.sub_zero,Int.toNat_natCast]
 by_cases hk:k≤w.length
 ·rw [Nat.min_eq_left hk]
 ·rw [Nat.min_eq_right (by omega),List.take_length,List.take_of_length_le (by omega)]
theorem ba (w:List L){n:Int}(h:0≤n):cutL w (some n) none=w.drop n.toNat:=by
 obtain ⟨k,rfl⟩:=Int.eq_ofNat_of_zero_le h
 unfold cutL
 rw [HT.iE,HT.cQ,Int.toNat_natCast]
 by_cases hk:k≤w.length
 ·rw [Nat.min_eq_left hk,List.take_of_length_le (by rw [List.length_drop];omega)]
 ·rw [Nat.min_eq_right (by omega),List.drop_length,List.drop_eq_nil_of_le (by omega)]
  simp
theorem bQ (w:List L)(lo hi:Option Int):(cutL w lo hi).length≤w.length:=by
 unfold cutL
 rw [List.length_take,List.length_drop]
 omega
theorem oy (w:List L):Txt.upper (toS w)=⟨((w.map cp).map up1).toArray⟩:=by
 rw [upper_ascii fun c hc=>by rw [bV] at hc;obtain ⟨x,_,rfl⟩:=List.mem_map.mp hc;exact ow x]
 simp [toS]
theorem oz (w:List L):Txt.lower (toS w)=⟨((w.map cp).map lo1).toArray⟩:=by
 rw [lower_ascii fun c hc=>by rw [bV] at hc;obtain ⟨x,_,rfl⟩:=List.mem_map.mp hc;exact ow x]
 simp [toS]
theorem xX:∀ x:L,x.val < 6→up1 (cp x)=cp (inv x):=by decide
theorem xY:∀ x:L,¬ x.val < 6→lo1 (cp x)=cp (inv x):=by decide
theorem gu {x:L}(h:x.val < 6):Txt.upper (toS [x])=toS [inv x]:=by
 rw [oy]
 show (⟨#[up1 (cp x)]⟩:Str)=⟨#[cp (inv x)]⟩
 rw [xX x h]
theorem jC {x:L}(h:¬ x.val < 6):Txt.lower (toS [x])=toS [inv x]:=by
 rw [oz]
 show (⟨#[lo1 (cp x)]⟩:Str)=⟨#[cp (inv x)]⟩
 rw [xY x h]
theorem ex1:∀ x:L,cp x∈List.map cp [0,1,2,3,4,5]→x.val < 6:=by decide
theorem ex2:∀ x:L,x.val < 6→(List.map cp [0,1,2,3,4,5])[x.val]? = some (cp x):=by decide
theorem q_ (x:L):(!(Builtin.Str.occurrences ("abcdef":Str) (toS [x]) 0 ("abcdef":Str).length 1).isEmpty)=decide (x.val < 6):=by
 have h:=StrLaws.found_iff ("abcdef":Str) (toS [x])
 have e:(∃ i,i+(toS [x]).length≤("abcdef":Str).length∧Builtin.Str.subAt ("abcdef":Str) (toS [x]) i=true) ↔ x.val < 6:=by
  have e2:∀ i,(i+(toS [x]).length≤("abcdef":Str).length∧Builtin.Str.subAt ("abcdef":Str) (toS [x]) i=true) ↔ ("abcdef":Str).cps.toList[i]? = some (cp x):=fun i=>StrLaws.subAt_one _ _ _
  rw [show (("abcdef":Str))=toS [0,1,2,3,4,5] from uh.symm] at e2 ⊢
  constructor
  ·rintro ⟨i,hi⟩
   have hi:=(e2 i).mp hi
   rw [bV] at hi
   exact ex1 x (List.mem_of_getElem? hi)
  ·intro hx
   refine ⟨x.val,(e2 x.val).mpr ?_⟩
   rw [bV]
   exact ex2 x hx
 rw [Bool.eq_iff_iff,h,e,decide_eq_true_iff]
theorem rb:∀ w:List L,Txt.join ("":Str) (w.map fun x=>toS [x])=toS w:=by
 intro w
 have e0:("":Str)=Str.empty:=by decide +kernel
 unfold Txt.join
 rw [StrLaws.glued_eq_join,e0]
 induction w with
 | nil=>rfl
 | cons x r ih =>
  cases r with
  | nil=>rfl
  | cons y r =>
   show toS [x]++Str.empty++Str.join Str.empty ((y::r).map fun x=>toS [x])=_
   rw [ih,Str.append_empty,dG]
   rfl
theorem um (w:List L):((w.map fun x=>toS [x]).map (·.length)).sum=w.length:=by
 induction w with
 | nil=>rfl
 | cons x r ih =>
  simp only [List.map_cons,List.sum_cons,List.length_cons]
  rw [ih,ae]
  simp only [List.length_singleton]
  omega
theorem lO (w:List L)(h:w.length≤1000000):(reprText (toS w)).length≤sizeLine:=by
 have q:=StrLaws.reprText_len (toS w) fun c hc=>by
  rw [bV] at hc
  obtain ⟨x,_,rfl⟩:=List.mem_map.mp hc
  exact Nat.lt_of_lt_of_le (ow x) (by decide)
 rw [ae] at q
 have:sizeLine=16777216:=sizeLine_eq
 omega
theorem fk (w:List L):∀ (n:Nat) (acc:Array Nat),(List.replicate n (toS w).cps).foldl (· ++ ·) acc=acc++((rep n w).map cp).toArray
 | 0,acc=>by simp [rep]
 | n+1,acc=>by
  rw [List.replicate_succ,List.foldl_cons,fk w n]
  show _=acc++((rep n w++w).map cp).toArray
  rw [lN]
  simp [toS]
theorem oA:∀ n,rep n ([]:List L)=[]
 | 0=>rfl
 | n+1=>by show rep n []++[]=[];rw [oA n];rfl
theorem ku (w:List L)(n:Int):Txt.mul (toS w) n=toS (rep n.toNat w):=by
 unfold Txt.mul
 by_cases h1:n < 1
 ·rw [if_pos h1]
  have:n.toNat=0:=by omega
  rw [this]
  rfl
 ·rw [if_neg h1]
  split
  ·rename_i h
   rw [ae] at h
   simp only [Bool.or_eq_true,beq_iff_eq] at h
   rcases h with h | h
   ·subst h
    show toS w=toS (rep 1 w)
    show toS w=toS ([]++w)
    rfl
   ·have:w=[]:=List.eq_nil_of_length_eq_zero h
    subst this
    rw [oA]
  ·apply Str.ext'
   show (List.replicate n.toNat (toS w).cps).foldl (· ++ ·) #[]=_
   rw [fk]
   simp [toS]
theorem jD (w:List L){n:Int}(h1:-1000000≤n)(h2:n≤1000)(hw:w.length≤10000):MulOk (toS w) n:=by
 refine ⟨?_,fun hn _=>?_,fun hn _=>?_⟩
 ·have e1:decide (n < -(2 ^ 63:Int))=false:=decide_eq_false (by omega)
  have e2:decide (n≥2 ^ 63)=false:=decide_eq_false (by omega)
  rw [e1,e2,Bool.or_false]
 ·rw [ae]
  have hn1:1≤n:=by omega
  have q:(9223372036854775:Int)≤(2 ^ 63 - 1) / n:=by
   rw [Int.le_ediv_iff_mul_le (by omega)]
   omega
  omega
 ·rw [ae]
  unfold Builtin.Str.tooLong
  have e:sizeLine=16777216:=sizeLine_eq
  obtain ⟨k,rfl⟩:=Int.eq_ofNat_of_zero_le (show 0≤n by omega)
  have hk:k≤1000:=by omega
  rw [Int.toNat_natCast]
  have q:w.length*k≤10000*1000:=Nat.mul_le_mul hw hk
  exact decide_eq_false (by omega)
structure Fnc (P:Program) (w:World) (K:PySem.W.Frag) (mg:Str→Option Value) (base:Heap) (x:Str) (ps:List Str) (k:Nat) (sp:Sp):Prop where
 ex:∃ (f:Addr) (fd:FuncData),mg x=some (.ref f)∧PySem.W.keepIn K (.ref f)=true∧mJ K fd ps []∧mI P w K mg base CX0 k f fd ps sp
theorem aE {X:Cx}{x:Str}{ps:List Str}{k j:Nat}{sp:Sp}{e:Expr}{es:List Expr}{t:TA}{p pos:Pos}(F:Fnc X.prog X.w X.K X.mg X.base x ps j sp)(hr:hZ k X.A)(hj:j≤k)(hg:Gl X x)(ha:PA X (e::es) t)
  (hdb:(x == ("__debug__":Str))=false:=by decide) (he:starEach (e::es) X.env=(false,eval e X.env)::starEach es X.env:=by rfl) (hpl:(backTo pos (starEach es X.env)).any (·.1)=false:=by rfl) :
  PE X (.Call (.Name x p) (e::es) [] pos) (vJ sp [] E0 t):=by
 obtain ⟨f,fd,hm,hk,hb,F⟩:=F.ex
 exact tQ F (hr.mono hj) hg hm hk hb .nil xT ha hdb he hpl
structure Df (K:PySem.W.Frag) (mg:Str→Option Value) (x:Str) (st:Stmt):Prop where
 ex:∃ (f:Addr) (fd:FuncData),mg x=some (.ref f)∧Fun K x x st f fd
theorem Df.ok {P:Program}{w:World}{K:PySem.W.Frag}{mg:Str→Option Value}{base:Heap}{x:Str}{st:Stmt}{N ps:List Str}{k:Nat}{sp:Sp}(D:Df K mg x st)(S:aP N ps (aj st))
  (hb:∀ (kV doc pm:Value) (an:Option Addr) (cdv ct:Value) (us:List Value),us.length=ps.length→bindArgs (PySem.W.fnOf x x (aO st) (aM st) (aj st) .none kV doc pm an cdv ct) ⟨us,[]⟩=pure (ps.zip us))
  (len:∀ vs H Q E,sp vs H Q E→vs.length=ps.length)
  (hbody:∀ (f:Addr) (cdv:Value) (A:Around) (outer:List Env) (s:Shared) (H:Hp) (vs:List V) (Q:VK) (E:XK),hZ k (A.deeper (envOfC x (aj st) s.heap.objs.size f cdv))→sp vs H Q E →
   ∃ t,PSs (tR CX0 P w K mg base N x (aj st) f cdv A outer s H E).nox (aM st) t∧t { nx:=fun _ H'=>Q .non H',rt:=Q } (start N vs) H):Fnc P w K mg base x ps (k+1) sp:=by
 obtain ⟨f,fd,hm,F⟩:=D.ex
 exact ⟨f,fd,hm,F.kp,F.binds hb,F.ok S len fun cdv A outer s H vs Q E hr h=>hbody f cdv A outer s H vs Q E hr h⟩
def bE (d:Addr)(H H':Hp):Prop:=∀ b o,b≠d→H b=some o→H' b=some o
theorem bE.trans {d:Addr}{H H1 H2:Hp}(a:bE d H H1)(b:bE d H1 H2):bE d H H2:=fun c o n h=>b c o n (a c o n h)
theorem aH.b {d:Addr}{H H':Hp}(a:aH H H'):bE d H H':=fun b o _ h=>a b o h
theorem aH.new {H:Hp}{a:Addr}{o:HO}(h:H a=none):aH H (upd H a o):=fun b u e=>by rw [aD (au e h)]; exact e
theorem bE.upd {d:Addr}{H:Hp}{o:HO}:bE d H (upd H d o):=fun b u n e=>by rw [aD n]; exact e
theorem aH.then {H H1:Hp}{a:Addr}{o:HO}(s:aH H H1)(h:H1 a=none):aH H (L2.upd H1 a o):=s.trans (aH.new h)
def kS (x:Str):Key:=.inr x
def fkv (c:Addr)(i l t:Int):List (Key × V):=[(kS "cells",.ref c),(kS "at",.int i),(kS "left",.int l),(kS "turn",.int t)]
theorem xZ:¬ (kS "cells" = kS "at"):=by decide +kernel
theorem x8:¬ (kS "cells" = kS "left"):=by decide +kernel
theorem x9:¬ (kS "cells" = kS "turn"):=by decide +kernel
theorem xp:¬ (kS "at" = kS "left"):=by decide +kernel
theorem xq:¬ (kS "at" = kS "turn"):=by decide +kernel
theorem xr:¬ (kS "left" = kS "turn"):=by decide +kernel
theorem fL {κ:Type}[DecidableEq κ]{k:κ}{v:V}{r:List (κ × V)}:dj ((k,v)::r) k=some v:=by unfold dj; simp
theorem cH {κ:Type}[DecidableEq κ]{k k':κ}{v:V}{r:List (κ × V)}(h:¬ k'=k):dj ((k',v)::r) k=dj r k:=by unfold dj; simp [h]
theorem oD (c:Addr)(i l t:Int):dj (fkv c i l t) (kS "cells")=some (.ref c):=fL
theorem yZ (c:Addr)(i l t:Int):dj (fkv c i l t) (kS "at")=some (.int i):=(cH xZ).trans fL
theorem jE (c:Addr)(i l t:Int):dj (fkv c i l t) (kS "left")=some (.int l):=(cH x8).trans ((cH xp).trans fL)
theorem oE (c:Addr)(i l t:Int):dj (fkv c i l t) (kS "turn")=some (.int t):=(cH x9).trans ((cH xq).trans ((cH xr).trans fL))
theorem zD:¬ (kS "turn" = kS "at"):=fun e=>xq e.symm
theorem zF:¬ (kS "left" = kS "at"):=fun e=>xp e.symm
theorem zG:¬ (kS "turn" = kS "left"):=fun e=>xr e.symm
theorem zH (c:Addr)(i l t z:Int):eW (fkv c i l t) (kS "at") (.int z)=fkv c z l t:=by simp [eW,fkv,xZ,zF,zD]
theorem oF (c:Addr)(i l t z:Int):eW (fkv c i l t) (kS "left") (.int z)=fkv c i z t:=by simp [eW,fkv,x8,xp,zG]
theorem v8 (c:Addr)(i l t z:Int):eW (fkv c i l t) (kS "turn") (.int z)=fkv c i l z:=by simp [eW,fkv,x9,xq,xr]
theorem gv (c:Addr)(i l t:Int):(fkv c i l t).length < sizeLine:=by show 4 < sizeLine; decide
theorem x_ (c:Addr)(i l t:Int):gk [] (fkv c i l t)=fkv c i l t:=by simp [gk,eW,fkv,xZ,x8,x9,xp,xq,xr]
structure Fd (H:Hp) (d:Addr):Prop where
 ex:∃ (c:Addr) (i l t:Int) (ns:List Int),H d=some (.dK (fkv c i l t))∧H c=some (.lst (ns.map V.int))∧ns≠[]∧ns.length≤64
theorem Fd.same {H H':Hp}{d:Addr}(F:Fd H d)(s:aH H H'):Fd H' d:=by
 obtain ⟨c,i,l,t,ns,h1,h2,h3,h4⟩:=F.ex
 exact ⟨c,i,l,t,ns,s _ _ h1,s _ _ h2,h3,h4⟩
theorem Fd.new {H:Hp}{d a:Addr}{o:HO}(F:Fd H d)(h:H a=none):Fd (upd H a o) d:=F.same (aH.new h)
theorem Fd.ne {H:Hp}{d a:Addr}(F:Fd H d)(h:H a=none):a≠d:=by
 obtain ⟨c,i,l,t,ns,h1,h2,h3,h4⟩:=F.ex
 exact (au h1 h).symm
theorem Fd.nl {H:Hp}{d a:Addr}{xs:List V}(F:Fd H d)(h:H a=some (.lst xs)):a≠d:=by
 obtain ⟨c,i,l,t,ns,h1,h2,h3,h4⟩:=F.ex
 exact ni h h1 (by intro z;cases z)
inductive d_ (vs:List V)(H:Hp)(Q:VK)(u3_:XK):Prop
 | mk:∀ (d:Addr) (m:Int),(vs=[.ref d,.int m])→(Fd H d)→(0 < m)→(m < 1000000)→(∀ (r:Int) (H':Hp),0≤r→r < m→Fd H' d→bE d H H'→Q (.int r) H')→d_ vs H Q u3_
inductive oG (K:PySem.W.Frag)(vs:List V)(H:Hp)(Q:VK)(u3_:XK):Prop
 | mk:∀ (a:Addr) (ns:List Int),(vs=[.ref a])→(SqL K H a (ns.map V.int))→(ns.length≤63)→(∀ (d:Addr) (H':Hp),H d=none→Fd H' d→aH H H'→Q (.ref d) H')→oG K vs H Q u3_
theorem uo {ns:List Int}(h:ns≠[])(i:Int):∃ n:Int,atI (ns.map V.int) (i % ((ns.map V.int).length:Int))=some (.int n):=by
 have hl:0 < ns.length:=List.length_pos_iff.mpr h
 rw [List.length_map]
 have h0:=Int.emod_nonneg i (show (ns.length:Int)≠0 by omega)
 have h1:=Int.emod_lt_of_pos i (show (0:Int) < ns.length by omega)
 obtain ⟨k,hk⟩:=Int.eq_ofNat_of_zero_le h0
 rw [hk] at h1 ⊢
 have hk':k < ns.length:=by omega
 refine ⟨ns[k],?_⟩
 unfold atI ixN
 rw [if_pos (by omega),if_pos (by rw [List.length_map];omega)]
 show (ns.map V.int)[((k:Nat):Int).toNat]? = _
 rw [Int.toNat_natCast,List.getElem?_map,List.getElem?_eq_getElem hk']
 rfl
mutual
inductive Dt (H:Hp):V→PyData→Prop where
 | non:Dt H .non .none
 | bl (b:Bool):Dt H (.bl b) (.bool b)
 | int (i:Int):Dt H (.int i) (.int i)
 | str (x:Str):Dt H (.str x) (.str x)
 | lst {a:Addr} {xs:List V} {ds:List PyData}:H a=some (.lst xs)→Dts H xs ds→Dt H (.ref a) (.list ds)
 | tup {a:Addr} {xs:List V} {ds:List PyData}:H a=some (.tup xs)→Dts H xs ds→Dt H (.ref a) (.tuple ds)
inductive Dts (H:Hp):List V→List PyData→Prop where
 | nil:Dts H [] []
 | cons {v:V} {d:PyData} {vs:List V} {ds:List PyData}:Dt H v d→Dts H vs ds→Dts H (v::vs) (d::ds)
end
section
variable {P:Program} {w:World} {H:Hp} {h:Heap}
mutual
theorem Dt.reads (ok:HOk P w H h):∀ {v:V} {d:PyData},Dt H v d→∀ {u:Value},bC v u→∃ as,Reads h u d as
 | _,_,.non,u,r=>by cases r;exact ⟨_,.none⟩
 | _,_,.bl b,u,r=>by cases r;exact ⟨_,.bool b⟩
 | _,_,.int i,u,r=>by obtain ⟨t,rfl⟩:=r;exact ⟨_,.int i t⟩
 | _,_,.str x,u,r=>by obtain ⟨t,rfl⟩:=r;exact ⟨_,.str x t⟩
 | _,_,.lst e q,u,r=>by
  cases r
  obtain ⟨_,its,n,rv,g⟩:=ok _ _ e
  obtain ⟨as,ra⟩:=Dts.reads ok q rv
  exact ⟨_,.list g rfl rfl (by simpa using ra)⟩
 | _,_,.tup e q,u,r=>by
  cases r
  obtain ⟨_,its,rv,⟨ob,g,c,n,d⟩,_⟩:=ok _ _ e
  obtain ⟨as,ra⟩:=Dts.reads ok q rv
  exact ⟨_,.tuple g c d (by simpa using ra)⟩
theorem Dts.reads (ok:HOk P w H h):∀ {vs:List V} {ds:List PyData},Dts H vs ds→∀ {us:List Value},bu vs us→∃ as,ReadsAll h us ds as
 | _,_,.nil,_,r=>by cases r;exact ⟨_,.nil⟩
 | _,_,.cons q qs,_,r=>by
  cases r with
  | cons r rs =>
   obtain ⟨as,a1⟩:=Dt.reads ok q r
   obtain ⟨bs,a2⟩:=Dts.reads ok qs rs
   exact ⟨_,.cons a1 a2⟩
end
end
structure Sh (d:PyData):Prop where
 sh:d.showable=true
 nd:d.hasDict=false
 dp:d.depth≤10
 sz:d.shown.length≤sizeLine
section
variable {X:Cx}
inductive du  (xs:List V)(H:Hp)(Q:VK):Prop
 | mk:∀ a d,(xs=[.ref a])→(Dt H (.ref a) d)→(Sh d)→(Q (.str d.shown) H)→du xs H Q
theorem bY (hg:X.A.guards=some [])(hu:X.A.units+64 < cLine):cx X (.builtin "repr") du:=by
 intro pins s σ H xs us Q I r h
 obtain ⟨a,d,rfl,q,S,hQ⟩:=h
 obtain ⟨u,rfl,ru⟩:=cP r
 cases ru
 obtain ⟨as,rd⟩:=q.reads I.hok (u:=.ref a) rfl
 refine repr_of_reads' rd S.sh (PyData.noDict_hsm S.nd) hg (by have:=S.dp;omega) (fun _ _ e=>e) (fun h' u tk hk=>?_) S.sz
 exact ⟨.str _,H,I.kept hk,⟨_,rfl⟩,hQ⟩
end
def yd (m:Str)(ys:List Str):Prop:=m∈ys∧∀ y∈ys,m.cps.toList≤y.cps.toList
theorem fm:∀ (r:List Str) (x:Str),risingS x r=true→yd x (x::r)
 | [],x,_=>⟨by simp,fun y hy=>by rw [List.mem_singleton.mp hy];exact List.le_refl _⟩
 | z::r,x,h=>by
  unfold risingS at h
  rw [Bool.and_eq_true] at h
  have h1:x.cps.toList≤z.cps.toList:=by
   have:=h.1
   rw [ltCps_eq] at this
   exact List.not_lt.mp (by simpa using this)
  have ih:=fm r z h.2
  refine ⟨by simp,fun y hy=>?_⟩
  rcases List.mem_cons.mp hy with e | hy
  ·rw [e];exact List.le_refl _
  ·exact List.le_trans h1 (ih.2 y hy)
theorem cB:∀ {us:List Value} {ys:List Str},StrsAre us ys→bu (ys.map V.str) us
 | _,_,.nil=>.nil
 | _,_,.cons y t r=>.cons ⟨t,rfl⟩ (cB r)
section
variable {X:Cx}
end
end L2
set_option maxHeartbeats 0
noncomputable section
def fu:=@PySem.wpAny_bind
def Ab:=@PySem.Heap.get?_push_of_some
def Ac:=@List.getElem?_eq_getElem
def Ad:=@List.length_append
def Ae:=@PySem.wpAny_pure
def Af:=@List.mem_singleton
def Ag:=@List.length_map
def Ah:=@List.getElem?_eq_some_iff
def Ai:=@Array.length_toList
def Aj:=@List.length_take
def Ak:=@PySem.Heap.get?_push_size
def Al:=@Nat.le_refl
def Am:=@List.append_assoc
def An:=@decide_eq_true
def Ao:=@PyProof.Rows.wpS_bind
def Ap:=@List.getElem?_map
def Aq:=@List.take_of_length_le
def Ar:=@Bool.false_eq_true
def As:=@PySem.boot_len
def Au:=@PyProof.Rows.wpS_pure
def Av:=@List.mem_cons_self
def Aw:=@List.mem_cons
def Ax:=@List.mem_append
def Ay:=@PySem.Heap.lt_size
def Az:=@Int.toNat_natCast
def AA:=@List.length_drop
def AB:=@PySem.wpAny_setField_rec
def AC:=@List.mem_cons_of_mem
def AD:=@List.take_append_drop
def AE:=@List.not_mem_nil
def AF:=@decide_eq_false
def AG:=@List.mem_of_getElem?
def AH:=@List.map_append
def AI:=@List.take_add_one
def AJ:=@List.mem_append_right
def AK:=@Nat.ne_of_lt
def AL:=@PySem.wpAny_nextOf_ascii_item
def AM:=@List.getD_eq_getElem?_getD
def AN:=@Array.getElem?_toList
def AO:=@List.getElem?_append_right
def AQ:=@PySem.PassesOwn.never
def AR:=@PySem.W.mg_none_of
def AS:=@List.getElem_mem
def AU:=@List.mem_map
def AV:=@PySem.Heap.size_push
def AW:=@Int.eq_ofNat_of_zero_le
def AX:=@List.mem_append_left
def AY:=@PySem.Txt.slice_le
def AZ:=@PySem.Heap.get?_update_other
def A0:=@PySem.wpAny_field
def A2:=@List.length_cons
def A3:=@PySem.wpAny_call_entry
def A4:=@List.length_singleton
def A5:=@PySem.wpAny_holding
def A6:=@List.length_pos_iff
def A7:=@PySem.Heap.get?_update_self
def A8:=@PyProof.Rows.F.plain_set_update_loop
def A9:=@Option.some.inj
def A_:=@PySem.wpAny_nextOf_ascii_end
def Ba:=@Nat.lt_succ_self
def Bb:=@List.getElem?_drop
def Bc:=@PySem.F.plainAttrs_list
def Bd:=@PySem.wpAny_seqItems
def Be:=@List.getElem?_append_left
def Bf:=@Option.map_eq_some_iff
def Bg:=@Nat.lt_succ_of_lt
def Bh:=@PySem.wpAny_newObj_type
def Bi:=@Nat.ne_of_gt
def Bj:=@PyProof.Rows.wpS_forRange
def Bk:=@PySem.wpAny_callSpecial?_slot
def Bl:=@if_false
def Bm:=@PySem.wpAny_rule
def Bn:=@PySem.wpAny_updateSeq_pair
def Bo:=@PySem.Around.under_plainId
def Bp:=@PySem.Obj.data_mapFields
def Bq:=@PySem.F.slot_list_append
def Br:=@PySem.F.type_list_append
def Bs:=@List.length_nil
def Bu:=@List.size_toArray
def Bv:=@Array.toList_extract
def Bw:=@List.getElem?_of_mem
def Bx:=@getElem?_pos
def By:=@PySem.codeAny_builtin
def Bz:=@PyProof.Rows.F.entry_set_update_loop
def BA:=@PyProof.Rows.KeyOrd.kle_refl
def BB:=@List.take_length
def BC:=@trivial
def BD:=@List.map_map
def BE:=@List.Perm.append_left
def BF:=@Nat.zero_le
def BG:=@List.forIn_cons
def BH:=@PySem.wpAny_onRaise
def BI:=@or_false
def BJ:=@Nat.min_eq_left
def BK:=@List.length_eq_zero_iff
def BL:=@PySem.wpAny_ite_split
def BM:=@List.mem_of_mem_take
def BN:=@Array.toList_push
def BO:=@List.length_range
def BP:=@List.forIn_nil
def BQ:=@List.drop_eq_getElem_cons
def BR:=@List.getElem?_toArray
def BS:=@List.getElem?_eq_none
def BU:=@Nat.lt_of_lt_of_le
def BV:=@Nat.le_succ
def BW:=@PyProof.Rows.wpS_mono
def BX:=@if_true
def BY:=@List.drop_of_length_le
def BZ:=@PySem.F.plainAttrs_str
def B0:=@Array.perm_iff_toList_perm
def B2:=@List.zipIdx_cons
def B3:=@List.take_prefix
def B4:=@List.cons_prefix_cons
def B5:=@PySem.plainId_quiet
def B6:=@PySem.Obj.isFreed_of_fields
def B7:=@List.perm_append_comm
def B8:=@List.getElem?_take
def B9:=@Array.getElem?_eq_getElem
def B_:=@List.pairwise_iff_getElem
def Ca:=@List.mem_of_mem_drop
def Cb:=@PySem.wpAny_pyIter_list
def Cc:=@List.nil_prefix
def Cd:=@PySem.wpAny_pyIter_slot
def Ce:=@List.getElem?_take_of_lt
def Cf:=@List.flatten_cons
def Cg:=@List.nodup_cons
def Ci:=@List.length_erase_of_mem
def Cj:=@PySem.AutoSeq1.wpAny_loadPart'
def Ck:=@Nat.le_trans
def Cm:=@PySem.wpAny_letGo
def Cn:=@Nat.add_sub_cancel_left
def Co:=@List.flatten_append
def Cp:=@Nat.min_eq_right
def Cq:=@PyProof.Rows.KeyOrd.kle_trans
def Cr:=@PySem.wpAny_newTuple
def Cs:=@List.Perm.refl
def Ct:=@Array.getElem?_eq_none
def Cu:=@List.pairwise_cons
def Cv:=@List.zipIdx_nil
def Cw:=@PySem.F.slot_zip_next
def Cy:=@PyProof.Rows.callWith_type1
def Cz:=@PySem.F.slot_enumerate_next
def CA:=@Nat.lt_irrefl
def CB:=@PySem.wpAny_attempt
def CC:=@Bool.not_true
def CD:=@PyProof.Rows.KeyOrd.kle_of_klt
def CF:=@Array.getElem?_eq_some_iff
def CG:=@List.mem_erase_of_ne
def CH:=@List.mem_iff_getElem
def CI:=@PySem.wpAny_setField
def CJ:=@Bool.false_and
def CK:=@List.nodup_nil
def CL:=@PySem.Calls.call_function_entry
def CM:=@PySem.wpAny_pyIter_zip
def CN:=@PySem.Heap.SameBut.update
def CO:=@PySem.F.plain_extend_loop
def CP:=@PyProof.Rows.wpS_modify
def CQ:=@Nat.sub_self
def CS:=@decide_eq_true_iff
def CT:=@List.findIdx?_eq_some_iff_getElem
def CU:=@PyProof.Rows.KK_mirror_equal
def CV:=@List.forIn_toArray
def CW:=@List.Perm.append_right
def CY:=@List.flatten_singleton
def CZ:=@PyProof.Rows.slot_tuple_getitem
def C0:=@PySem.wpAny_storeSet_of
def C1:=@PySem.fits_of_scanBound
def C2:=@PySem.F.plain_list_iadd
def C3:=@congrArg
def C4:=@List.getElem?_reverse
def C5:=@Nat.lt_trans
def C6:=@List.all_eq_true
def C7:=@PySem.wpAny_isInstance
def C8:=@List.any_eq_true
def C9:=@List.take_append_of_le_length
def C_:=@decide_eq_decide
def Da:=@List.reverse_reverse
def Dc:=@List.map_cons
def Dd:=@PySem.wpAny_newList
def De:=@Nat.not_lt
def Dg:=@PySem.sizeLine_eq
def Dh:=@PySem.F.slot_set_iter
def Di:=@PySem.wpAny_updateSeq
def Dj:=@Array.toList_append
def Dk:=@List.flatMap_append
def Dl:=@List.getElem?_range
def Dm:=@Array.toList_setIfInBounds
def Dn:=@Bool.false_ne_true
def Do:=@PySem.wpAny_typeOf
def Dp:=@getElem?_neg
def Dq:=@Nat.le_of_lt
def Dr:=@Int.emod_lt_of_pos
def Ds:=@Bool.and_false
def Du:=@List.findIdx?_eq_none_iff
def Dv:=@PySem.wpAny_runValue
def Dw:=@List.mem_range
def Dx:=@PyProof.Rows.wpS_get
def Dy:=@PySem.F.args_zip_next_1
def Dz:=@PySem.EqBoolInt.of_rcne
def DA:=@List.prefix_iff_getElem?
def DB:=@PySem.wpAny_setState_of
def DC:=@PySem.Obj.cls_mapFields
def DE:=@bne_self_eq_false
def DF:=@List.ext_getElem?
def DG:=@List.nodup_append
def DH:=@decide_eq_true_eq
def DI:=@PySem.F.slot_list_extend
def DJ:=@PySem.F.type_list_extend
def DK:=@List.Pairwise.map
def DL:=@List.getLast?_cons_cons
def DM:=@List.pairwise_singleton
def DN:=@Bool.true_and
def DO:=@List.prefix_iff_eq_take
def DP:=@PySem.F.entry_zip_next
def DQ:=@PySem.wpAny_askSetting
def DR:=@List.getElem_map
def DS:=@List.length_pos_of_mem
def DT:=@List.drop_eq_nil_of_le
def DU:=@PySem.F.slot_str_upper
def DV:=@PySem.F.type_str_upper
def DW:=@Bool.eq_iff_iff
def DX:=@PySem.codeAny_of_tree
def DY:=@PySem.codeAny_mono
def DZ:=@Array.Perm.refl
def D0:=@Int.emod_nonneg
def D1:=@Int.zero_add
def D2:=@PySem.Walks.list
def D3:=@PySem.wpAny_mono
def D4:=@PyProof.Rows.wpS_lift
def D5:=@PySem.isSubtype_stop
def D6:=@PySem.isSubtype_type
def D7:=@PySem.wpAny_of_eq
def D8:=@Nat.add_assoc
def D9:=@List.cons.inj
def D_:=@PySem.W.mg_of
def Ea:=@List.map_nil
def Eb:=@Nat.zero_add
namespace Kx
open PySem PySem.Spec PyProof.Rows L2 Wd
theorem v9:bootBuiltins "list" = some (.type "list"):=by kernel_rfl
theorem v_:bootBuiltins "int" = some (.type "int"):=by kernel_rfl
theorem uq:bootBuiltins "max" = some (.builtin "max"):=by kernel_rfl
theorem dR:bootBuiltins "repr" = some (.builtin "repr"):=by kernel_rfl
theorem ye:bootBuiltins "min" = some (.builtin "min"):=by kernel_rfl
theorem ef:bootBuiltins "sorted" = some (.builtin "sorted"):=by kernel_rfl
theorem e9:bootBuiltins "tuple" = some (.type "tuple"):=by kernel_rfl
theorem fv:bootBuiltins "isinstance" = some (.builtin "isinstance"):=by kernel_rfl
theorem yf:bootBuiltins "all" = some (.builtin "all"):=by kernel_rfl
theorem wa:bootBuiltins "zip" = some (.type "zip"):=by kernel_rfl
theorem mN:bootBuiltins "reversed" = some (.type "reversed"):=by kernel_rfl
structure Bt (K:PySem.W.Frag) (w:World) (mg:Str→Option Value) (aB:Addr):Prop where
 len:mg "len" = none
 repr:mg "repr" = none
 abs:mg "abs" = none
 max:mg "max" = none
 int:mg "int" = none
 list:mg "list" = none
 range:mg "range" = none
 reversed:mg "reversed" = none
 min:mg "min" = none
 sorted:mg "sorted" = none
 tuple:mg "tuple" = none
 isinstance:mg "isinstance" = none
 all:mg "all" = none
 str:mg "str" = none
 zip:mg "zip" = none
 mgB:mg "BACKS" = some (.ref aB)
 dB:DTx K w aB
 gB:∀ x:L,∃ t,PySem.W.nsIn K aB (toS [x])=some (some (.str (toS [inv x]) t))
theorem dg {H:Hp}{d:Addr}{kvs:List (Key × V)}{k:Str}{v:V}(h:H d=some (.dK kvs))(e:dj kvs (kS k)=some v):qQ H d (.str k) (some v):=by
 have q:=qQ.k (k:=kS k) h
 rw [e] at q
 exact q
theorem dp {H:Hp}{d:Addr}{kvs kvs':List (Key × V)}{k:Str}{v:V}(h:H d=some (.dK kvs))(hl:kvs.length < sizeLine)(e:eW kvs (kS k) v=kvs'):tX H d (.str k) v (upd H d (.dK kvs')):=by
 have q:=tX.k (k:=kS k) (v:=v) h hl
 rw [e] at q
 exact q
theorem yg {ns:List Int}(h:ns.length≤63):jq (ns.map V.int) none (some 63)=ns.map V.int:=by
 unfold jq
 have e:HT.sIx (ns.map V.int).length (ns.map V.int).length (some 63)=(ns.map V.int).length:=by
  have:=HT.cQ (ns.map V.int).length (ns.map V.int).length 63
  rw [show ((63:Nat):Int)=63 from rfl] at this
  rw [this,Ag]
  omega
 rw [e,HT.iE,List.drop_zero,Nat.sub_zero,BB]
def rf (w:List L):List V:=w.map fun x=>tx [x]
theorem lP (w:List L):rf w=(w.map fun x=>toS [x]).map V.str:=by unfold rf; rw [BD]; rfl
theorem jF (w:List L)(x:L):rf w++[tx [x]]=rf (w++[x]):=by unfold rf; rw [AH]; rfl
theorem gw (w:List L):(rf w).length=w.length:=by unfold rf; rw [Ag]
theorem jG (w:List L):V.str (Txt.join ("":Str) (w.map fun x=>toS [x]))=tx w:=C3 V.str (rb w)
theorem jH (w:List L)(h:w.length≤1000000):((w.map fun x=>toS [x]).map (·.length)).sum+(w.map fun x=>toS [x]).length*("":Str).length≤16777216:=by
 have e:("":Str).length=0:=by decide +kernel
 rw [e,um]
 omega
theorem a_:sizeLine=16777216:=Dg
inductive lQ (vs:List V)(H:Hp)(Q:VK)(u3_:XK):Prop
 | mk:∀ w,(vs=[tx w])→(w.length≤5000)→(∀ H',aH H H'→Q (tx (bk w)) H')→lQ vs H Q u3_
inductive oH (vs:List V)(H:Hp)(Q:VK)(u3_:XK):Prop
 | mk:∀ w,(vs=[tx w])→(w.length≤5000)→(∀ H',aH H H'→Q (tx (red w)) H')→oH vs H Q u3_
theorem aX (u v:List L):V.str (toS u++toS v)=tx (u++v):=C3 V.str (dG u v)
def sg (m:Int):List L:=([0,1,2,3,4,5]:List L).take m.toNat++([6,7,8,9,10,11]:List L).take m.toNat
theorem jI {m:Int}(h1:1≤m)(h2:m≤6):(sg m).length=2*m.toNat:=by
 unfold sg
 rw [Ad,Aj,Aj]
 simp only [A2,Bs]
 omega
inductive oI (vs:List V)(H:Hp)(Q:VK)(u3_:XK):Prop
 | mk:∀ (d:Addr) (m n:Int),(vs=[.ref d,.int m,.int n])→(Fd H d)→(1≤m)→(m≤6)→(0≤n)→(n≤60)→(∀ (u:List L) (H':Hp),u.length≤n.toNat→Fd H' d→bE d H H'→Q (tx u) H')→oI vs H Q u3_
inductive kx (vs:List V)(H:Hp)(Q:VK)(u3_:XK):Prop
 | mk:∀ (d:Addr) (m n:Int),(vs=[.ref d,.int m,.int n])→(Fd H d)→(1≤m)→(m≤6)→(4≤n)→(n≤40)→(∀ (u:List L) (H':Hp),u.length≤60→Fd H' d→bE d H H'→Q (tx u) H')→kx vs H Q u3_
theorem rh {m:Int}(h1:1≤m):V.str (Txt.slice ("abcdef":Str) none (some m)++Txt.slice ("ABCDEF":Str) none (some m))=tx (sg m):=by
 rw [← uh,← big,ao,ao,bj _ (by omega),bj _ (by omega),aX]
 rfl
theorem oJ:("abcdef":Str).length=6:=by decide +kernel
theorem sZ:("ABCDEF":Str).length=6:=by decide +kernel
theorem wb (u:List L){i:Nat}{y:L}(hi:i < u.length)(h:u[u.length - 1 - i]? = some y):(bk u)[i]? = some (inv y):=by
 unfold bk
 rw [C4 (by rw [Ag];exact hi),Ag,Ap,h]
 rfl
theorem jJ {u:List L}{i:Nat}{x:L}(h:u[i]? = some x):u.take (i+1)=u.take i++[x]:=by
 obtain ⟨hl,e⟩:=Ah.mp h
 rw [AI,h]
 rfl
theorem cM {c:Bool}{A B:Prop}(hc:c=true)(h:A):if c=true then A else B:=by rw [if_pos hc]; exact h
theorem bZ {c:Bool}{A B:Prop}(hc:c=false)(h:B):if c=true then A else B:=by rw [hc]; exact mM h
theorem sm6:∀ j:Fin 6,([0,1,2,3,4,5]:List L)[j.val]? = some ⟨j.val,C5 j.isLt (by decide)⟩:=by decide
theorem ri {q:Int}(h0:0≤q)(h6:q < 6):∃ x:L,x.val < 6∧atI ("abcdef":Str).cps.toList q=some (cp x):=by
 have hk:q.toNat < 6:=by omega
 refine ⟨⟨q.toNat,by omega⟩,hk,?_⟩
 rw [← uh]
 refine bN (k:=q.toNat) (by omega) ?_
 exact sm6 ⟨q.toNat,hk⟩
theorem two_at (x:L){q:Int}(h0:0≤q)(h2:q < 2):∃ y:L,atI [tx [x],tx [inv x]] q=some (tx [y]):=by
 have:q=0 ∨ q=1:=by omega
 rcases this with rfl | rfl
 ·exact ⟨x,rfl⟩
 ·exact ⟨inv x,rfl⟩
def dws (ws:List (List L)):List PyData:=ws.map fun w=>.str (toS w)
theorem gx {H:Hp}:∀ (ws:List (List L)),Dts H (ws.map tx) (dws ws)
 | []=>.nil
 | w::r=>.cons (.str (toS w)) (gx r)
theorem lS:∀ (ws:List (List L)),PyData.showableAll (dws ws)=true∧PyData.hasDictAll (dws ws)=false∧PyData.depthAll (dws ws)=0∧PyData.leavesShortAll 13 (dws ws)=true
 | []=>⟨rfl,rfl,rfl,rfl⟩
 | w::r=>by
  obtain ⟨h1,h2,h3,h4⟩:=lS r
  refine ⟨?_,?_,?_,?_⟩
  ·show (PyData.showable (.str (toS w)) && PyData.showableAll (dws r))=true
   rw [h1];rfl
  ·show (PyData.hasDict (.str (toS w)) || PyData.hasDictAll (dws r))=false
   rw [h2];rfl
  ·show max (PyData.depth (.str (toS w))) (PyData.depthAll (dws r))=0
   rw [h3];rfl
  ·show (PyData.leavesShort 13 (.str (toS w)) && PyData.leavesShortAll 13 (dws r))=true
   rw [h4,Bool.and_true]
   show ((toS w).cps.toList.all fun c=>decide (c < 16 ^ 8))=true
   rw [C6]
   intro c hc
   rw [bV] at hc
   obtain ⟨x,_,rfl⟩:=AU.mp hc
   exact An (BU (ow x) (by decide))
theorem ig {n:Nat}:∀ (ws:List (List L)),(∀ w∈ws,w.length≤n)→PyData.weightAll (dws ws)≤ws.length*(n+1)
 | [],_=>BF _
 | w::r,h=>by
  have ih:=ig r fun v hv=>h v (AC _ hv)
  have h1:=h w Av
  show (toS w).cps.size+1+PyData.weightAll (dws r)≤(r.length+1)*(n+1)
  rw [cT,Nat.succ_mul]
  omega
theorem wc {n:Nat}{ws:List (List L)}(h:∀ w∈ws,w.length≤n)(hn:ws.length*(n+1)≤2 ^ 20):Sh (.list (dws ws)):=by
 obtain ⟨h1,h2,h3,h4⟩:=lS ws
 refine ⟨h1,h2,by show PyData.depthAll (dws ws)+1≤10;rw [h3];decide,PyData.shown_fits (B:=13) (by decide) (by decide) h4 (Ck (ig ws h) hn)⟩
end Kx
namespace Wd
def J (u v:List L):Prop:=∀ x y,u.getLast? = some x→v.head? = some y→y≠inv x
theorem jK:∀ (u v:List L),Rd (u++v) ↔ Rd u∧Rd v∧J u v
 | [],v=>by
  constructor
  ·intro h
   exact ⟨BC,h,fun x y hx=>by simp at hx⟩
  ·intro h
   exact h.2.1
 | [x],[]=>by
  constructor
  ·intro h
   exact ⟨BC,BC,fun x y _ hy=>by simp at hy⟩
  ·intro _
   exact BC
 | [x],y::v=>by
  constructor
  ·intro h
   refine ⟨BC,h.2,fun a b ha hb=>?_⟩
   have ha:x=a:=by simpa using ha
   have hb:y=b:=by simpa using hb
   subst ha hb
   exact h.1
  ·intro h
   exact ⟨h.2.2 x y rfl rfl,h.2.1⟩
 | x::y::u,v=>by
  have ih:=jK (y::u) v
  constructor
  ·intro h
   have h2:=ih.mp h.2
   refine ⟨⟨h.1,h2.1⟩,h2.2.1,fun a b ha hb=>h2.2.2 a b ?_ hb⟩
   rw [DL] at ha
   exact ha
  ·intro h
   refine ⟨h.1.1,ih.mpr ⟨h.1.2,h.2.1,fun a b ha hb=>h.2.2 a b ?_ hb⟩⟩
   rw [DL]
   exact ha
theorem wd {x y:L}(h:y=inv x):x=inv y:=by rw [h,dq]
theorem s_:∀ {w:List L},Rd w→Rd w.reverse
 | [],_=>BC
 | x::w,h=>by
  rw [List.reverse_cons,jK]
  refine ⟨s_ h.tail,BC,fun a b ha hb=>?_⟩
  have hb:x=b:=by simpa using hb
  subst hb
  cases w with
  | nil=>simp at ha
  | cons y w =>
   have ha:y=a:=by simpa using ha
   subst ha
   intro e
   exact h.1 (wd e)
theorem oK {w:List L}(h:Rd w):red w=w:=by
 unfold red
 have:=ot (s_ h)
 rw [Da] at this
 rw [this,Da]
end Wd
namespace L2
open PySem PySem.Spec PyProof.Rows Wd
def de (w:List L):List (List L):=(List.range (max 1 w.length)).map fun i=>w.drop i++w.take i
end L2
namespace Wd
end Wd
namespace L2
open PySem PySem.Spec PyProof.Rows Wd
section
variable {X:Cx} {tg:Expr}
end
section
variable {X:Cx} {o e:Expr} {es:List Expr} {to:TE} {t:TA} {name:Str} {apos cpos:Pos} {T id:String} {r:V→List V→Hp→VK→Prop} {K:PySem.W.Frag}
end
theorem iR:∀ {bs:List Bool} {us:List Value} {i:Nat} {v:Value},bu (bs.map V.bl) us→us[i]? = some v→∃ b,bs[i]? = some b∧v = .bool b
 | [],us,i,v,r,h=>by
  rw [Ea] at r
  cases r
  simp at h
 | b::bs,us,i,v,r,h=>by
  rw [Dc] at r
  cases r with
  | cons r1 r2 =>
   cases i with
   | zero =>
    simp at h
    subst h
    exact ⟨b,rfl,r1⟩
   | succ i =>
    obtain ⟨b',e1,e2⟩:=iR (i:=i) r2 (by simpa using h)
    exact ⟨b',by simpa using e1,e2⟩
theorem lU:∀ bs:List Bool,((List.range bs.length).all fun i=>bs.getD i true)=bs.all id
 | []=>rfl
 | b::bs=>by
  rw [A2,List.range_succ_eq_map,List.all_cons,List.all_map,List.all_cons]
  have ih:=lU bs
  show (b && (List.range bs.length).all fun i=>(b::bs).getD (i+1) true)=_
  have e:(fun i=>(b::bs).getD (i+1) true)=fun i=>bs.getD i true:=by funext i;simp
  rw [e,ih]
  rfl
section
variable {X:Cx}
inductive tf (x:V)(y:V)(H:Hp)(Q:VK):Prop
 | mk:∀ a b xs,(x = .ref a)→(y = .ref b)→(H a=some (.lst xs))→(H b=some (.lst []))→(Q (.bl xs.isEmpty) H)→tf x y H Q
theorem gy (hu:X.A.units+64 < cLine):OpR X (compareOp .Eq) tf:=by
 intro pins s σ H x y v u Q I rx ry h
 obtain ⟨a,b,xs,rfl,rfl,ha,hb,q⟩:=h
 cases rx
 cases ry
 obtain ⟨its,n,rv,ea,_⟩:=I.lst ha
 obtain ⟨its2,n2,rv2,eb,_⟩:=I.lst hb
 cases rv2
 have hla:s.heap.IsList a its.toArray:=⟨_,ea,rfl,_,rfl⟩
 have hlb:s.heap.IsList b ([]:List Value).toArray:=⟨_,eb,rfl,_,rfl⟩
 cases xs with
 | nil =>
  cases rv
  refine EqBoolInt.of_rc (SeqAt.RcAt.lists (e:=fun _=>true) hla hlb rfl (by omega) (fun j hj=>by simp at hj)) ?_
  exact ⟨.bl true,H,I,rfl,q⟩
 | cons z r =>
  cases rv with
  | cons r1 r2 =>
   refine EqBoolInt.of_rc (SeqAt.RcAt.lists_lengths hla hlb (by simp) (by omega)) ?_
   exact ⟨.bl false,H,I,rfl,q⟩
inductive y6 (K:PySem.W.Frag)(xs:List V)(H:Hp)(Q:VK):Prop
 | mk:∀ (l:Addr) (bs:List Bool),(xs=[.ref l])→(SqL K H l (bs.map V.bl))→(Q (.bl (bs.all id)) H)→y6 K xs H Q
theorem gW (hc:X.calm=true):cx X (.builtin "all") (y6 X.K):=by
 intro pins s σ H xs us Q I r h
 obtain ⟨l,bs,rfl,hq,q⟩:=h
 obtain ⟨u,rfl,ru⟩:=cP r
 cases ru
 obtain ⟨its,rv,pl,_⟩:=I.list hq
 have hl:=pl.isList
 have hlen:its.length=bs.length:=by rw [← rv.length,Ag]
 have hlt:l < s.heap.objs.size:=by obtain ⟨_,e,_⟩:=hl;exact Ay e
 refine call_all_walk (Cb hl ?_)
 refine ⟨_,_,_,_,_,_,fun i=>bs.getD i true,rfl,D2 (A:=X.A.in1) (I.ok.hd hc) _ l (AK hlt) its.toArray,⟨⟨_,Ak _ rfl,rfl,rfl⟩,hl.push _⟩,?_,fun h' tk hk=>?_⟩
 ·intro i v s' Q' E' hP hQ'
  have hP:its[i]? = some v:=by simpa using hP
  obtain ⟨b,hb,e⟩:=iR rv hP
  subst e
  have:bs.getD i true=b:=by rw [AM,hb];rfl
  have hQ':Q' (bs.getD i true) s':=hQ'
  rw [this] at hQ'
  exact wpAny_truthy_bool hQ'
 ·have old:∀ b o,s.heap.get? b=some o→h'.get? b=some o:=fun b o e=>hk b o (fun z=>by rw [Af.mp z] at e;exact absurd (Ay e) (CA _)) (Ab _ e)
  refine ⟨.bl _,H,I.kept old,rfl,?_⟩
  have e:((List.range its.toArray.size).all fun i=>bs.getD i true)=bs.all id:=by
   rw [Bu,hlen]
   exact lU bs
  rw [e]
  exact q
inductive cV (K:PySem.W.Frag)(xs:List V)(H:Hp)(Q:VK):Prop
 | mk:∀ x t b n,(xs=[x,.ty n])→(mH K H x t)→(PySem.W.kitOne K t (.type n)=some b)→(Q (.bl b) H)→cV K xs H Q
theorem ky:cx X (.builtin "isinstance") (cV X.K):=by
 intro pins s σ H xs us Q I r h
 obtain ⟨x,t,b,n,rfl,ty,e,q⟩:=h
 obtain ⟨u,u2,rfl,rx,r2⟩:=nE r
 cases r2
 exact nH I rx ty e fun tk=>⟨.bl b,H,I.tok _,rfl,q⟩
def zI (z:Str):List V:=z.cps.toList.map fun c=>.str ⟨#[c]⟩
inductive cY  (xs:List V)(H:Hp)(Q:VK):Prop
 | mk:∀ b,(xs=[.bl b])→(Q (.str (if b=true then Str.ofString "True" else Str.ofString "False")) H)→cY xs H Q
theorem bR:cx X (.builtin "repr") cY:=by
 intro pins s σ H xs us Q I r h
 obtain ⟨b,rfl,q⟩:=h
 obtain ⟨u,rfl,ru⟩:=cP r
 cases ru
 exact P.repr_of_bool ⟨.str _,H,I.tok _,⟨_,rfl⟩,q⟩
theorem dH {K:PySem.W.Frag}(hK:X.K=K):OpR X (compareOp .NotIn) (rIn K true):=by
 subst hK
 exact js
end
end L2
namespace PySem
open Sem (wp)
structure Ap5 (z TI TO i1 i2:Addr):Prop where
 TIz:TI≠z
 TOz:TO≠z
 i1z:i1≠z
 i2z:i2≠z
 TITO:TI≠TO
 TIi1:TI≠i1
 TIi2:TI≠i2
 TOi1:TO≠i1
 TOi2:TO≠i2
 i12:i1≠i2
abbrev df (h:Heap)(i:Addr)(x:Str)(t:Tok)(k:Nat):Prop:=h.IsStrIter i "str_ascii_iterator" x t k
section
variable {prog:Program} {w:World} {A:Around} {E:Value→Shared→Prop} {s:Shared} {z TI TO i1 i2:Addr} {x y:Str} {t u:Tok} {k c d:Nat} {a b:Value}
theorem oM {Q:Value→Shared→Prop}(D:Ap5 z TI TO i1 i2)
  (hz:IsZip s.heap z TI TO .none) (hTI:IsPair s.heap TI (.ref i1) (.ref i2)) (hTO:IsPair s.heap TO a b) (h1:df s.heap i1 x t k) (h2:df s.heap i2 y u k) (hx:x.cps[k]? = some c) (hy:y.cps[k]? = some d)
  (hQ:∀ h' tk t1 t2,IsZip h' z TI TO (rawInt s.heap.objs.size)→IsPair h' TO (.str ⟨#[c]⟩ t1) (.str ⟨#[d]⟩ t2)→df h' i1 x t (k+1)→df h' i2 y u (k+1)→IsPair h' s.heap.objs.size (.str ⟨#[c]⟩ t1) (.str ⟨#[d]⟩ t2) →
   (∀ e o,e≠z→e≠TO→e≠i1→e≠i2→s.heap.get? e=some o→h'.get? e=some o)→Q (.ref s.heap.objs.size) { s with heap:=h',toks:=tk }) :
  wpAny (model prog w) A (Builtin.«zip.__next__» ⟨[.ref z],[]⟩) (fun fin s'=>∃ v,fin = .done (.ret v)∧Q v s') E s:=by
 show wpAny _ _ (field (.ref z) 2 >>= _) _ _ _
 refine fu (A0 hz rfl (x:=.bool false) rfl ?_)
 show wpAny _ _ (field (.ref z) 3 >>= _) _ _ _
 refine fu (A0 hz rfl (x:=.ref TI) rfl (fu (Bd hTI rfl ?_)))
 show wpAny _ _ (Builtin.SmallTypes.ownedTupleIsFree (.ref z) >>= _) _ _ _
 refine fu ?_
 unfold Builtin.SmallTypes.ownedTupleIsFree
 refine fu (A0 hz rfl (x:=.none) rfl (Ae ?_))
 simp only [BX]
 refine fu (Bm (fu (A0 hz rfl (x:=.ref TO) rfl (fu (AB hz (by simp) fun g1 hz1 e1=>?_)))))
 have hz1:IsZip g1 z TI TO .ellipsis:=hz1
 refine fu ?_
 simp only [B2,Cv,BG,BP]
 refine fu (fu (BH ?_))
 show wpAny _ _ (Builtin.SmallTypes.nextOf (.ref i1) >>= _) _ _ _
 refine fu (AL (h1.extBut e1.extBut D.i1z) hx fun g2 j1 e2=>Ae ?_)
 have o2:IsPair g2 TO a b:=e2.extBut _ _ D.TOi1 (e1.extBut _ _ D.TOz hTO)
 refine fu (Bd o2 rfl (fu (Bn o2 fun g3 o3 e3=>fu (Cm (Ae ?_)))))
 have o3:IsPair g3 TO (.str ⟨#[c]⟩ s.toks) b:=o3
 refine fu (fu (BH ?_))
 show wpAny _ _ (Builtin.SmallTypes.nextOf (.ref i2) >>= _) _ _ _
 refine fu (AL (((h2.extBut e1.extBut D.i2z).extBut e2.extBut D.i12.symm).extBut e3.extBut D.TOi2.symm) hy fun g4 j2 e4=>Ae ?_)
 have o4:IsPair g4 TO (.str ⟨#[c]⟩ s.toks) b:=e4.extBut _ _ D.TOi2 o3
 refine fu (Bd o4 rfl (fu (Bn o4 fun g5 o5 e5=>fu (Cm (Ae (Ae ?_))))))
 have o5:IsPair g5 TO (.str ⟨#[c]⟩ s.toks) (.str ⟨#[d]⟩ (s.toks+1)):=o5
 refine fu (Bd o5 rfl (fu (Cr ?_)))
 have hsz:g5.objs.size=s.heap.objs.size:=by rw [e5.1,e4.1,e3.1,e2.1,e1.1]
 have z5:IsZip g5 z TI TO .ellipsis:=e5.extBut _ _ D.TOz.symm (e4.extBut _ _ D.i2z.symm (e3.extBut _ _ D.TOz.symm (e2.extBut _ _ D.i1z.symm hz1)))
 have kk:∀ e o,e≠z→e≠TO→e≠i1→e≠i2→s.heap.get? e=some o→g5.get? e=some o:=fun e o n1 n2 n3 n4 q=>e5.extBut _ _ n2 (e4.extBut _ _ n4 (e3.extBut _ _ n2 (e2.extBut _ _ n3 (e1.extBut _ _ n1 q))))
 have j1':df g5 i1 x t (k+1):=((j1.extBut e3.extBut D.TOi1.symm).extBut e4.extBut D.i12).extBut e5.extBut D.TOi1.symm
 have j2':df g5 i2 y u (k+1):=j2.extBut e5.extBut D.TOi2.symm
 have zlt:z < g5.objs.size:=Ay z5
 show wpAny _ _ (Builtin.SmallTypes.ownedTupleHandOut (.ref z) (.ref g5.objs.size) >>= _) _ _ _
 refine fu ?_
 unfold Builtin.SmallTypes.ownedTupleHandOut
 have z6:IsZip (g5.push { cls:=.type "tuple",data:=.seq #[.str ⟨#[c]⟩ s.toks,.str ⟨#[d]⟩ (s.toks+1)] }) z TI TO .ellipsis:=Ab _ z5
 refine fu (AB z6 (by simp) fun g7 z7 e7=>?_)
 have z7:IsZip g7 z TI TO (rawInt g5.objs.size):=z7
 refine AB z7 (by simp) fun g8 z8 e8=>?_
 have z8:IsZip g8 z TI TO (rawInt g5.objs.size):=z8
 have up:∀ e o,e≠z→g5.get? e=some o→g8.get? e=some o:=fun e o n1 q=>e8.extBut _ _ n1 (e7.extBut _ _ n1 (Ab _ q))
 have T8:IsPair g8 g5.objs.size (.str ⟨#[c]⟩ s.toks) (.str ⟨#[d]⟩ (s.toks+1)):=e8.extBut _ _ (Bi zlt) (e7.extBut _ _ (Bi zlt) (Ak _ rfl))
 rw [hsz] at z8 T8
 refine Ae ⟨_,rfl,?_⟩
 show Q (.ref g5.objs.size) _
 rw [hsz]
 exact hQ g8 _ _ _ z8 (up _ _ D.TOz o5) (let ⟨o,ho,r⟩:=j1';⟨o,up _ o D.i1z ho,r⟩) (let ⟨o,ho,r⟩:=j2';⟨o,up _ o D.i2z ho,r⟩) T8 fun e o n1 n2 n3 n4 q=>up e o n1 (kk e o n1 n2 n3 n4 q)
theorem rj {Q:Fin→Shared→Prop}(hh:A.handled=none)(D:Ap5 z TI TO i1 i2)
  (hz:IsZip s.heap z TI TO .none) (hTI:IsPair s.heap TI (.ref i1) (.ref i2)) (hTO:IsPair s.heap TO a b) (h1:df s.heap i1 x t k) (h2:df s.heap i2 y u k) (hend:x.cps[k]? = none ∨ y.cps[k]? = none)
  (hE:∀ h' tk e,(∀ c o,c≠z→c≠TO→c≠i1→c≠i2→s.heap.get? c=some o→h'.get? c=some o)→(∃ o,h'.get? e=some o∧o.cls = .type "StopIteration")→E (.ref e) { s with heap:=h',toks:=tk }) :
  wpAny (model prog w) A (Builtin.«zip.__next__» ⟨[.ref z],[]⟩) Q E s:=by
 show wpAny _ _ (field (.ref z) 2 >>= _) _ _ _
 refine fu (A0 hz rfl (x:=.bool false) rfl ?_)
 show wpAny _ _ (field (.ref z) 3 >>= _) _ _ _
 refine fu (A0 hz rfl (x:=.ref TI) rfl (fu (Bd hTI rfl ?_)))
 show wpAny _ _ (Builtin.SmallTypes.ownedTupleIsFree (.ref z) >>= _) _ _ _
 refine fu ?_
 unfold Builtin.SmallTypes.ownedTupleIsFree
 refine fu (A0 hz rfl (x:=.none) rfl (Ae ?_))
 simp only [BX]
 refine fu (Bm (fu (A0 hz rfl (x:=.ref TO) rfl (fu (AB hz (by simp) fun g1 hz1 e1=>?_)))))
 have hz1:IsZip g1 z TI TO .ellipsis:=hz1
 refine fu ?_
 simp only [B2,Cv,BG,BP]
 refine fu (fu (BH ?_))
 show wpAny _ _ (Builtin.SmallTypes.nextOf (.ref i1) >>= _) _ _ _
 cases hx:x.cps[k]? with
 | none =>
  refine fu (A_ hh (h1.extBut e1.extBut D.i1z) hx fun g2 e e2 he=>?_)
  obtain ⟨oe,hoe,hce⟩:=he
  have z2:IsZip g2 z TI TO .ellipsis:=e2 _ _ D.i1z.symm hz1
  have hez:e≠z:=fun q=>by subst q;rw [z2] at hoe;cases hoe;simp at hce
  exact AB z2 (by simp) fun g3 _ e3=>hE g3 _ e (fun c o n1 _ n3 _ q=>e3.extBut _ _ n1 (e2 _ _ n3 (e1.extBut _ _ n1 q))) ⟨oe,e3.extBut _ _ hez hoe,hce⟩
 | some c =>
  have hy:y.cps[k]? = none:=by
   rcases hend with h | h
   ·rw [hx] at h;cases h
   ·exact h
  refine fu (AL (h1.extBut e1.extBut D.i1z) hx fun g2 j1 e2=>Ae ?_)
  have o2:IsPair g2 TO a b:=e2.extBut _ _ D.TOi1 (e1.extBut _ _ D.TOz hTO)
  refine fu (Bd o2 rfl (fu (Bn o2 fun g3 o3 e3=>fu (Cm (Ae ?_)))))
  refine fu (fu (BH ?_))
  show wpAny _ _ (Builtin.SmallTypes.nextOf (.ref i2) >>= _) _ _ _
  refine fu (A_ hh (((h2.extBut e1.extBut D.i2z).extBut e2.extBut D.i12.symm).extBut e3.extBut D.TOi2.symm) hy fun g4 e e4 he=>?_)
  obtain ⟨oe,hoe,hce⟩:=he
  have z4:IsZip g4 z TI TO .ellipsis:=e4 _ _ D.i2z.symm (e3.extBut _ _ D.TOz.symm (e2.extBut _ _ D.i1z.symm hz1))
  have hez:e≠z:=fun q=>by subst q;rw [z4] at hoe;cases hoe;simp at hce
  exact AB z4 (by simp) fun g5 _ e5=>hE g5 _ e (fun c o n1 n2 n3 n4 q=>e5.extBut _ _ n1 (e4 _ _ n4 (e3.extBut _ _ n2 (e2.extBut _ _ n3 (e1.extBut _ _ n1 q))))) ⟨oe,e5.extBut _ _ hez hoe,hce⟩
theorem mO {Q:Option Value→Shared→Prop}(D:Ap5 z TI TO i1 i2)
  (hz:IsZip s.heap z TI TO .none) (hTI:IsPair s.heap TI (.ref i1) (.ref i2)) (hTO:IsPair s.heap TO a b) (h1:df s.heap i1 x t k) (h2:df s.heap i2 y u k) (hx:x.cps[k]? = some c) (hy:y.cps[k]? = some d)
  (hQ:∀ h' tk t1 t2,IsZip h' z TI TO (rawInt s.heap.objs.size)→IsPair h' TO (.str ⟨#[c]⟩ t1) (.str ⟨#[d]⟩ t2)→df h' i1 x t (k+1)→df h' i2 y u (k+1)→IsPair h' s.heap.objs.size (.str ⟨#[c]⟩ t1) (.str ⟨#[d]⟩ t2) →
   (∀ e o,e≠z→e≠TO→e≠i1→e≠i2→s.heap.get? e=some o→h'.get? e=some o)→Q (some (.ref s.heap.objs.size)) { s with heap:=h',toks:=tk }) :
  wpAny (model prog w) A (pyNext (.ref z)) Q E s:=by
 have hT:s.TypeIs (.ref z) "zip":=⟨_,hz,rfl⟩
 unfold pyNext
 exact fu (CB (Bk (name:=Str.ofString "__next__") hT Cw (A3 Cw hT DP
  (oM D hz hTI hTO h1 h2 hx hy fun h' tk t1 t2 b1 b2 b3 b4 b5 b6=>Ae (hQ h' tk t1 t2 b1 b2 b3 b4 b5 b6)) (Dy _))))
theorem oN {Q:Option Value→Shared→Prop}(hh:A.handled=none)(D:Ap5 z TI TO i1 i2)
  (hz:IsZip s.heap z TI TO .none) (hTI:IsPair s.heap TI (.ref i1) (.ref i2)) (hTO:IsPair s.heap TO a b) (h1:df s.heap i1 x t k) (h2:df s.heap i2 y u k) (hend:x.cps[k]? = none ∨ y.cps[k]? = none)
  (hQ:∀ h' tk,(∀ c o,c≠z→c≠TO→c≠i1→c≠i2→s.heap.get? c=some o→h'.get? c=some o)→Q none { s with heap:=h',toks:=tk }):wpAny (model prog w) A (pyNext (.ref z)) Q E s:=by
 have hT:s.TypeIs (.ref z) "zip":=⟨_,hz,rfl⟩
 unfold pyNext
 refine fu (CB (Bk (name:=Str.ofString "__next__") hT Cw (A3 Cw hT DP
  (rj hh D hz hTI hTO h1 h2 hend fun h' tk e hk he=>?_) (Dy _))))
 obtain ⟨o,ho,hc⟩:=he
 refine fu (C7 (T:="StopIteration") (b:=true) ⟨o,ho,hc⟩ D5 ?_)
 exact Ae (hQ _ _ hk)
end
abbrev zs1 (h:Heap)(x:Str)(t:Tok):Heap:=h.push { cls:=.type "str_ascii_iterator",data:=.fields #[.str x t,.int 0 0] }
abbrev zs2 (h:Heap)(x y:Str)(t u:Tok):Heap:=(zs1 h x t).push { cls:=.type "str_ascii_iterator",data:=.fields #[.str y u,.int 0 0] }
abbrev zs3 (h:Heap)(x y:Str)(t u:Tok):Heap:=(zs2 h x y t u).push { cls:=.type "tuple",data:=.seq #[.ref h.objs.size,.ref (zs1 h x t).objs.size] }
abbrev zs4 (h:Heap)(x y:Str)(t u:Tok):Heap:=(zs3 h x y t u).push { cls:=.type "tuple",data:=.seq #[.none,.none] }
abbrev zs5 (h:Heap)(x y:Str)(t u:Tok):Heap:=(zs4 h x y t u).push { cls:=.type "zip",data:=.fields #[.none,.bool false,.bool false,.ref (zs2 h x y t u).objs.size,.ref (zs3 h x y t u).objs.size] }
set_option maxHeartbeats 2000000 in
theorem mP (x y:Str)(t u:Tok)(hx:x.cps.all (· < 128)=true)(hy:y.cps.all (· < 128)=true) :
  Meets (Builtin.«zip.__new__» ⟨[.type "zip",.str x t,.str y u],[]⟩) (fun _ R s=>R (.ok (.ret (.ref (zs4 s.heap x y t u).objs.size))) { s with heap:=zs5 s.heap x y t u }) :=
 .of_wp fun prog w A R s h=>by
  obtain ⟨hp,g,d,tk,os⟩:=s
  have hsub:=sub_zip
  wp_walk using wpAny_pyIter_ascii hx,wpAny_pyIter_ascii hy
  exact ⟨_,rfl,h⟩
end PySem
namespace PySem
theorem jL {prog:Program}{w:World}{A:Around}{E:Value→Shared→Prop}{s:Shared}{x y:Str}{t u:Tok}{Q:Value→Shared→Prop}(hx:x.cps.all (· < 128)=true)(hy:y.cps.all (· < 128)=true)
  (h:∀ h',IsZip h' (s.heap.objs.size+4) (s.heap.objs.size+2) (s.heap.objs.size+3) .none→IsPair h' (s.heap.objs.size+2) (.ref s.heap.objs.size) (.ref (s.heap.objs.size+1))→IsPair h' (s.heap.objs.size+3) .none .none →
   df h' s.heap.objs.size x t 0→df h' (s.heap.objs.size+1) y u 0→(∀ c o,s.heap.get? c=some o→h'.get? c=some o)→Q (.ref (s.heap.objs.size+4)) { s with heap:=h' }) :
  wpAny (model prog w) A (call (.type "zip") [.str x t,.str y u]) Q E s:=by
 refine callType_new F.called_zip (by decide) (F.typeCall_zip_2 _ _) (F.newCall_zip_2 _ _) (fun obj=>F.args_object_init_3 obj _ _) F.entry_zip_new (mP x y t u hx hy) ?_
 have n1:(zs1 s.heap x t).objs.size=s.heap.objs.size+1:=AV ..
 have n2:(zs2 s.heap x y t u).objs.size=s.heap.objs.size+2:=by rw [AV,n1]
 have n3:(zs3 s.heap x y t u).objs.size=s.heap.objs.size+3:=by rw [AV,n2]
 have n4:(zs4 s.heap x y t u).objs.size=s.heap.objs.size+4:=by rw [AV,n3]
 have g5:(zs5 s.heap x y t u).get? (zs4 s.heap x y t u).objs.size=some _:=Ak _ rfl
 have g4:(zs5 s.heap x y t u).get? (zs3 s.heap x y t u).objs.size=some _:=Ab _ (Ak _ rfl)
 have g3:(zs5 s.heap x y t u).get? (zs2 s.heap x y t u).objs.size=some _:=Ab _ (Ab _ (Ak _ rfl))
 have g2:(zs5 s.heap x y t u).get? (zs1 s.heap x t).objs.size=some _:=Ab _ (Ab _ (Ab _ (Ak _ rfl)))
 have g1:(zs5 s.heap x y t u).get? s.heap.objs.size=some _:=Ab _ (Ab _ (Ab _ (Ab _ (Ak _ rfl))))
 show _∧_
 rw [n2,n3,n4] at g5
 rw [n1,n2] at g3
 rw [n3] at g4
 rw [n1] at g2
 rw [n4]
 exact ⟨⟨_,g5,rfl⟩,h _ g5 g3 g4 ⟨_,g1,rfl,rfl⟩ ⟨_,g2,rfl,rfl⟩ fun c o q=>Ab _ (Ab _ (Ab _ (Ab _ (Ab _ q))))⟩
end PySem
namespace L2
open PySem PySem.Spec PyProof.Rows
def Itz (x y:Str):It:=⟨fun i _=>i < min x.cps.size y.cps.size,
 fun i H v H'=>∃ (T:Addr) (c d:Nat),H T=none∧v = .ref T∧x.cps[i]? = some c∧y.cps[i]? = some d∧H'=upd H T (.tup [.str ⟨#[c]⟩,.str ⟨#[d]⟩]),
 fun i _=>i=min x.cps.size y.cps.size⟩
theorem Inv.stepT {X:Cx}{pins:List (Addr × Obj)}{σ:St}{H:Hp}{s:Shared}{h':Heap}{t':Nat}{ch:List Addr}{T:Addr}{xs:List V}{its:List Value}(I:Inv X pins σ H s)(hf:∀ b∈ch,k_ X pins H b)
  (k:∀ b o,b∉ch→s.heap.get? b=some o→h'.get? b=some o) (hT:s.heap.objs.size≤T) (hz:xs.length≤sizeLine) (rv:bu xs its) (ht:IsTup h' T its.toArray) (hnd:NoD h' T) (there:∀ b∈ch,∃ o,s.heap.get? b=some o):Inv X pins σ (upd H T (.tup xs)) { s with heap:=h',toks:=t' }:=by
 have hn:H T=none:=I.hok.fresh hT
 have ne:∀ {b o},s.heap.get? b=some o→b≠T:=fun e=>AK (BU (Ay e) hT)
 have nch:∀ {b u},H b=some u→b∉ch:=fun e z=>by rw [(hf _ z).1] at e;cases e
 refine I.step (g':=s.gens) (d':=s.drawn) (ch:=ch) (fun b hb=>?_) (fun b o _ _ hc e _=>k b o hc e) (fun b o _ _ hc e _=>⟨o.slots,k b o hc e⟩) (fun b o _ e n=>by rw [aD (ne e)];exact n) (fun b o hc e=>⟨o,k b o hc e⟩)
  (fun b ys e=>by rw [aD (au e hn)];exact e) (fun b o u e=>by rw [aD (au e hn)];exact e) (fun b ps e=>⟨#[],by rw [aD (au e hn),e];simp⟩) (fun m hm=>?_) (fun b u e=>?_) I.bare
 ·obtain ⟨_,f1,_,f3,f4,f5⟩:=hf b hb
  exact ⟨f3,f1,f4,f5⟩
 ·obtain ⟨o,es,ep,ho,r⟩:=hm
  exact ⟨o,es,ep,k _ o (fun z=>(hf _ z).2.1 rfl) ho,r⟩
 ·by_cases hb:b=T
  ·subst hb
   rw [ah] at e
   cases e
   exact ⟨hz,its,rv,ht,hnd⟩
  ·rw [aD hb] at e
   refine (I.hok b u e).stay (fun c v hc q=>k c v ?_ q) (fun c q=>by rw [aD (au q hn)];exact q) fun c ys q=>by rw [aD (au q hn)];exact q
   rcases hc with z | z
   ·rw [z];exact nch e
   ·exact nch z
theorem rm {P:Program}{w:World}{K:PySem.W.Frag}{elts:List Expr}{k:Nat}{pos:Pos}{z TI TO i1 i2:Addr}(x y:Str)(t u:Tok)(D:Ap5 z TI TO i1 i2) :
  sM P w K (.Tuple elts k pos) (Itz x y) [z,TI,TO,i1,i2] z (fun i h=>IsZip h z TI TO .none∧IsPair h TI (.ref i1) (.ref i2)∧(∃ a b,IsPair h TO a b)∧df h i1 x t i∧df h i2 y u i) where
 mem:=by simp
 obj:=fun i h st b hb=>by
  obtain ⟨s1,s2,⟨a,c,s3⟩,⟨o1,s4,_,d4⟩,⟨o2,s5,_,d5⟩⟩:=st
  simp only [Aw,AE,BI] at hb
  rcases hb with rfl | rfl | rfl | rfl | rfl
  ·exact ⟨_,s1,fun v q=>by cases q⟩
  ·exact ⟨_,s2,fun v q=>by cases q⟩
  ·exact ⟨_,s3,fun v q=>by cases q⟩
  ·exact ⟨_,s4,fun v q=>by rw [d4] at q;cases q⟩
  ·exact ⟨_,s5,fun v q=>by rw [d5] at q;cases q⟩
 keep:=fun i h h' st kk=>by
  obtain ⟨s1,s2,⟨a,c,s3⟩,⟨o1,s4,r4⟩,⟨o2,s5,r5⟩⟩:=st
  exact ⟨kk z (by simp) _ s1,kk TI (by simp) _ s2,⟨a,c,kk TO (by simp) _ s3⟩,⟨o1,kk i1 (by simp) _ s4,r4⟩,⟨o2,kk i2 (by simp) _ s5,r5⟩⟩
 item:=by
  intro X hP hw hK hc i pins s σ H E I hf st hg
  subst hP hw hK
  have hg:i < min x.cps.size y.cps.size:=hg
  obtain ⟨s1,s2,⟨a,c,s3⟩,s4,s5⟩:=st
  have hx:x.cps[i]? = some (x.cps[i]'(by omega)):=B9 (by omega)
  have hy:y.cps[i]? = some (y.cps[i]'(by omega)):=B9 (by omega)
  generalize x.cps[i]'(by omega)=c1 at hx
  generalize y.cps[i]'(by omega)=c2 at hy
  refine mO D s1 s2 s3 s4 s5 hx hy fun h' tk t1 t2 b1 b2 b3 b4 b5 b6=>⟨_,rfl,?_⟩
  refine wpAny_letOwnedTupleGo_zip b1 fun h2 c1' e2=>?_
  have kk:∀ b o,b∉[z,TI,TO,i1,i2]→s.heap.get? b=some o→h2.get? b=some o:=fun b o hb e=>by
   simp only [Aw,AE,BI,not_or] at hb
   exact e2.extBut _ _ hb.1 (b6 b o hb.1 hb.2.2.1 hb.2.2.2.1 hb.2.2.2.2 e)
  have hTz:s.heap.objs.size≠z:=Bi (Ay s1)
  have I2:Inv X pins σ (upd H s.heap.objs.size (.tup [.str ⟨#[c1]⟩,.str ⟨#[c2]⟩])) { s with heap:=h2,toks:=tk } :=
   I.stepT (ch:=[z,TI,TO,i1,i2]) (its:=[.str ⟨#[c1]⟩ t1,.str ⟨#[c2]⟩ t2]) hf kk (Al _) (by show 2≤sizeLine;decide) (.cons ⟨_,rfl⟩ (.cons ⟨_,rfl⟩ .nil)) ⟨_,e2.extBut _ _ hTz b5,rfl,_,rfl⟩ ⟨_,e2.extBut _ _ hTz b5,rfl⟩ (fun b hb=>by
    obtain ⟨o1,q4,_⟩:=s4
    obtain ⟨o2,q5,_⟩:=s5
    simp only [Aw,AE,BI] at hb
    rcases hb with rfl | rfl | rfl | rfl | rfl
    ·exact ⟨_,s1⟩
    ·exact ⟨_,s2⟩
    ·exact ⟨_,s3⟩
    ·exact ⟨_,q4⟩
    ·exact ⟨_,q5⟩)
  have hnT:H s.heap.objs.size=none:=I.hok.fresh (Al _)
  have sTI:IsPair h2 TI (.ref i1) (.ref i2):=e2.extBut _ _ D.TIz (b6 _ _ D.TIz D.TITO D.TIi1 D.TIi2 s2)
  refine ⟨.ref s.heap.objs.size,_,I2,rfl,⟨s.heap.objs.size,c1,c2,hnT,rfl,hx,hy,rfl⟩,⟨c1',sTI,⟨_,_,e2.extBut _ _ D.TOz b2⟩,b3.extBut e2.extBut D.i1z,b4.extBut e2.extBut D.i2z⟩,fun b hb=>?_⟩
  have hlt:∃ o,s.heap.get? b=some o:=by
   obtain ⟨o1,q4,_⟩:=s4
   obtain ⟨o2,q5,_⟩:=s5
   simp only [Aw,AE,BI] at hb
   rcases hb with rfl | rfl | rfl | rfl | rfl
   ·exact ⟨_,s1⟩
   ·exact ⟨_,s2⟩
   ·exact ⟨_,s3⟩
   ·exact ⟨_,q4⟩
   ·exact ⟨_,q5⟩
  obtain ⟨o,q⟩:=hlt
  rw [aD (AK (Ay q))]
  exact (hf b hb).1
 done:=by
  intro X hP hw hK hc i pins s σ H E I hf st hg
  subst hP hw hK
  have hg:i=min x.cps.size y.cps.size:=hg
  obtain ⟨s1,s2,⟨a,c,s3⟩,s4,s5⟩:=st
  refine oN (I.ok.hd hc) D s1 s2 s3 s4 s5 ?_ fun h' tk kk=>⟨rfl,?_⟩
  ·by_cases hle:x.cps.size≤y.cps.size
   ·exact .inl (Ct (by omega))
   ·exact .inr (Ct (by omega))
  ·have nch:∀ {b u},H b=some u→b∉[z,TI,TO,i1,i2]:=fun e q=>by rw [(hf _ q).1] at e;cases e
   have k2:∀ b o,b∉[z,TI,TO,i1,i2]→s.heap.get? b=some o→h'.get? b=some o:=fun b o hb e=>by
    simp only [Aw,AE,BI,not_or] at hb
    exact kk b o hb.1 hb.2.2.1 hb.2.2.2.1 hb.2.2.2.2 e
   refine I.step (g':=s.gens) (d':=s.drawn) (ch:=[z,TI,TO,i1,i2]) (fun b hb=>?_) (fun b o _ _ hc e _=>k2 b o hc e) (fun b o _ _ hc e _=>⟨o.slots,k2 b o hc e⟩) (fun _ _ _ _ n=>n) (fun b o hc e=>⟨o,k2 b o hc e⟩)
    (fun _ _ e=>e) (fun _ _ _ e=>e) (fun b ps e=>⟨#[],by rw [e];simp⟩) (fun m hm=>?_) (fun b u e=>?_) I.bare
   ·obtain ⟨_,f1,_,f3,f4,f5⟩:=hf b hb
    exact ⟨f3,f1,f4,f5⟩
   ·obtain ⟨o,es,ep,ho,r⟩:=hm
    exact ⟨o,es,ep,k2 _ o (fun q=>(hf _ q).2.1 rfl) ho,r⟩
   ·refine (I.hok b u e).stay (fun c v hc q=>k2 c v ?_ q) (fun _ q=>q) fun _ _ q=>q
    rcases hc with q | q
    ·rw [q];exact nch e
    ·exact nch q
 self:=fun _ _ _ _ _ st h=>CM st.1 h
section
variable {X:Cx}
theorem tj (n:Nat):Ap5 (n+4) (n+2) (n+3) n (n+1):=by
 constructor <;> (intro h;have h:(_:Nat)=_:=h;omega)
def zJ (ta:TA):TI:=fun σ H R=>ta σ H fun vs H1=>∃ x y,vs=[.str x,.str y]∧x.cps.all (· < 128)=true∧y.cps.all (· < 128)=true∧R (Itz x y) H1
theorem we {a b:Expr}{ta:TA}{p pos tp:Pos}{elts:List Expr}{k:Nat}(hg:Gl X "zip")(hm:X.mg "zip" = none)(hb:bootBuiltins "zip" = some (.type "zip"))(ha:PA X [a,b] ta)(hs:starEach [a,b] X.env=(false,eval a X.env)::starEach [b] X.env:=by rfl)(hs2:(backTo pos (starEach [b] X.env)).any (·.1)=false:=by rfl) :
  PI X (.Tuple elts k tp) (.Call (.Name "zip" p) [a,b] [] pos) (zJ ta):=by
 intro pins s σ H R I h
 refine Call_ (ff I hg hm hb (Cy (thn (ha pos pins s σ H _ I h) fun us s1 zq1=>?_) hs hs2))
 obtain ⟨vs,H1,I1,r1,q1⟩:=zq1
 obtain ⟨x,y,rfl,hx,hy,q⟩:=q1
 obtain ⟨u1,u2,rfl,⟨t,rfl⟩,⟨u,rfl⟩⟩:=nE r1
 refine jL hx hy fun h' b1 b2 b3 b4 b5 b6=>?_
 have I2:Inv X pins σ H1 { s1 with heap:=h',toks:=s1.toks }:=I1.kept b6
 refine CM (s:={ s1 with heap:=h',toks:=s1.toks }) b1 ?_
 refine ⟨s1.heap.objs.size+4,[s1.heap.objs.size+4,s1.heap.objs.size+2,s1.heap.objs.size+3,s1.heap.objs.size,s1.heap.objs.size+1],_,Itz x y,H1,rfl,I2,
  rm x y t u (tj s1.heap.objs.size),⟨b1,b2,⟨_,_,b3⟩,b4,b5⟩,fun b hb=>?_,q⟩
 have hge:s1.heap.objs.size≤b:=by
  simp only [Aw,AE,BI] at hb
  rcases hb with rfl | rfl | rfl | rfl | rfl <;> omega
 exact I1.fpOk hge (I1.hok.fresh hge)
theorem ur {K:PySem.W.Frag}{es:List Expr}{k:Nat}{t:TGs}{n:Nat}{pos:Pos}(hK:X.K=K)(hc:X.calm=true)(h:PGs X es t)
  (hn:(assignEach es X.env).length=n:=by rfl) (hst:(assignEach es X.env).findIdx? (·.1)=none:=by rfl):PG X (.Tuple es k pos) (yK K n t):=by
 subst hK
 exact sJ hc h hn hst
end
end L2
namespace L2
open PySem PySem.Spec PyProof.Rows Wd
theorem lV {X:Cx}{K:PySem.W.Frag}(hK:X.K=K):cx X (.builtin "isinstance") (cV K):=by
 subst hK
 exact ky
def yh:List Str:=([0,1,2,3,4,5,6,7,8,9,10,11]:List L).map fun x=>toS [x]
end L2
namespace Kx
open PySem PySem.Spec PyProof.Rows L2 Wd
inductive kz (vs:List V)(H:Hp)(Q:VK)(u3_:XK):Prop
 | mk:∀ u,(vs=[tx u])→(u.length≤500)→(∀ H',aH H H'→Q (.bl (decide (red u=u))) H')→kz vs H Q u3_
theorem asc (u:List L):(toS u).cps.all (· < 128)=true:=by
 rw [← Array.all_toList,bV,C6]
 intro c hc
 obtain ⟨x,_,rfl⟩:=AU.mp hc
 exact An (ow x)
theorem wg:∀ {st:List L},Rd st→∀ i x y,st[i]? = some x→st[i+1]? = some y→y≠inv x
 | [],_,i,x,y,h,_=>by simp at h
 | [a],_,i,x,y,_,h=>by simp at h
 | a::b::r,h,i,x,y,h1,h2=>by
  cases i with
  | zero =>
   simp at h1 h2
   subst h1 h2
   exact fun e=>h.1 (by first | exact e | rw [e,dq] | exact e.symm)
  | succ i=>exact wg h.tail i x y (by simpa using h1) (by simpa using h2)
def chk (u:List L):List Bool:=List.zipWith (fun x y=>!decide (tx [inv x]=tx [y])) u (u.drop 1)
theorem oO {u:List L}{i:Nat}{x y:L}(h1:u[i]? = some x)(h2:(u.drop 1)[i]? = some y):(chk u)[i]? = some (!decide (tx [inv x]=tx [y])):=by
 unfold chk
 rw [List.getElem?_zipWith,h1,h2]
theorem ij (u:List L):(chk u).length=u.length - 1:=by unfold chk; rw [List.length_zipWith,AA]; omega
theorem oP {x y:L}:tx [x]=tx [y] ↔ x=y:=⟨fun e=>by have:=ie e; simpa using this,fun e=>by rw [e]⟩
theorem uu (u:List L):(chk u).all id=decide (red u=u):=by
 rw [DW,CS,C6]
 constructor
 ·intro h
  refine gr (k:=u.length) (Al _) fun i x y hi h1 h2 e=>?_
  have q:=oO h1 (show (u.drop 1)[i]? = some y by rw [Bb,Nat.add_comm];exact h2)
  have q2:=h _ (AG q)
  rw [e] at q2
  simp at q2
 ·intro h b hb
  obtain ⟨i,hi⟩:=List.mem_iff_getElem?.mp hb
  have hlt:i < u.length - 1:=by rw [← ij];exact (Ah.mp hi).1
  have h1:u[i]? = some (u[i]'(by omega)):=Ac (by omega)
  have h2:u[i+1]? = some (u[i+1]'(by omega)):=Ac (by omega)
  generalize u[i]'(by omega)=x at h1
  generalize u[i+1]'(by omega)=y at h2
  have q:=oO h1 (show (u.drop 1)[i]? = some y by rw [Bb,Nat.add_comm];exact h2)
  rw [q] at hi
  have hi:=A9 hi
  rw [← hi]
  have ha:act u []=u.reverse:=by
   have:=C3 List.reverse h
   unfold red at this
   rwa [Da] at this
  have hr:Rd u.reverse:=by rw [← ha];exact oo u BC
  have n:=wg hr (u.length - 1 - (i+1)) y x (by rw [C4 (by omega),show u.length - 1 - (u.length - 1 - (i+1))=i+1 by omega];exact h2)
   (by rw [C4 (by omega),show u.length - 1 - (u.length - 1 - (i+1)+1)=i by omega];exact h1)
  have:¬ (tx [inv x]=tx [y]):=fun e=>n (by rw [← oP.mp e,dq])
  rw [AF this]
  rfl
end Kx
namespace L2
open PySem PySem.Spec PyProof.Rows Wd
section
variable {X:Cx}
inductive tm (x:V)(y:V)(H:Hp)(Q:VK):Prop
 | mk:∀ a b xs,(x = .ref a)→(y = .ref b)→(H a=some (.lst xs))→(H b=some (.lst []))→(Q (.bl (!xs.isEmpty)) H)→tm x y H Q
theorem oQ (hu:X.A.units+64 < cLine):OpR X (compareOp .NotEq) tm:=by
 intro pins s σ H x y v u Q I rx ry h
 obtain ⟨a,b,xs,rfl,rfl,ha,hb,q⟩:=h
 cases rx
 cases ry
 obtain ⟨its,n,rv,ea,_⟩:=I.lst ha
 obtain ⟨its2,n2,rv2,eb,_⟩:=I.lst hb
 cases rv2
 have hla:s.heap.IsList a its.toArray:=⟨_,ea,rfl,_,rfl⟩
 have hlb:s.heap.IsList b ([]:List Value).toArray:=⟨_,eb,rfl,_,rfl⟩
 cases xs with
 | nil =>
  cases rv
  refine Dz (SeqAt.RcNeAt.lists (e:=fun _=>true) hla hlb rfl (by omega) (fun j hj=>by simp at hj)) ?_
  exact ⟨.bl false,H,I,rfl,q⟩
 | cons z r =>
  cases rv with
  | cons r1 r2 =>
   refine Dz (SeqAt.RcNeAt.lists_lengths hla hlb (by simp) (by omega)) ?_
   exact ⟨.bl true,H,I,rfl,q⟩
end
end L2
namespace Kx
open PySem PySem.Spec PyProof.Rows L2 Wd
theorem s12:toS [0,1,2,3,4,5,6,7,8,9,10,11]=("abcdefABCDEF":Str):=by decide +kernel
end Kx
namespace L2
open PySem PySem.Spec PyProof.Rows Wd
theorem eF {K:PySem.W.Frag}{a:Addr}{xs:List V}{own:List Str}{cap:List Nat}{g:TG}{ti:TT}{te:TE}{σ:St}{H:Hp}{Q:VK}(Pv:Nat→List V→St→Hp→Prop)(h0:Pv 0 [] (stB own cap σ) H)(hz:∀ i ys σ H,i≤xs.length→Pv i ys σ H→ys.length≤i)(hn:xs.length≤sizeLine)
  (hl:∀ i ys σ H,Pv i ys σ H→SqL K H a xs)
  (hs:∀ i ys σ H x (N:List V→St→Hp→Prop),xs[i]? = some x→Pv i ys σ H→(∀ ys' σ' H'',Pv (i+1) ys' σ' H''→N ys' σ' H'')→g x σ H fun σ2 H2=>ti σ2 H2 fun b H3=>if b=true then te σ2 H3 fun y H4=>N (ys++[y]) σ2 H4 else N ys σ2 H3)
  (hd:∀ ys σ H D,Pv xs.length ys σ H→H D=none→Q (.ref D) (upd H D (.lst ys))) :
  ub own cap g ti te Q σ (Itl K a) H:=by
 refine ck (J:=Itl K a) xs.length Pv h0 hz hn (fun i ys σ H hi p=>⟨xs,xs[i],hl i ys σ H p,Ac hi⟩) (fun ys σ H p=>⟨xs,hl _ ys σ H p,Al _⟩) ?_ hd
 rintro i ys σ H x H' N hi p ⟨rfl,hx⟩ hN
 exact hs i ys σ _ x N (hx xs (hl i ys σ _ p)) p hN
theorem rn {c:TT}{tb:TS}{D:gZ}{σ:St}{H:Hp}(W:Nat→St→Hp→Prop)(E:St→Hp→Prop)(h0:∃ m,W m σ H)
  (turn:∀ nx:St→Hp→Prop,(∀ σ H,E σ H→nx σ H)→∀ m σ H,W m σ H→c σ H fun b H1=>if b=true then ∃ N:St→Hp→Prop,(∀ σ' H',N σ' H'→∃ m',m' < m∧W m' σ' H')∧tb { D with nx:=N,ct:=N,bk:=nx } σ H1 else nx σ H1)
  (he:∀ σ H,E σ H→D.nx σ H):sL c tb D σ H:=⟨W,h0,turn D.nx he⟩
theorem ro {u:List L}(h:1 < u.length):∃ x mid z,u=x::(mid++[z]):=by
 match u,h with
 | x::y::r,_ =>
  refine ⟨x,(y::r).dropLast,(y::r).getLast (by simp),?_⟩
  rw [List.dropLast_concat_getLast]
theorem Fd.neT {H:Hp}{d a:Addr}{xs:List V}(F:Fd H d)(h:H a=some (.tup xs)):a≠d:=by
 obtain ⟨c,i,l,t,ns,h1,h2,h3,h4⟩:=F.ex
 exact ni h h1 (by intro z;cases z)
end L2
namespace L2
open PySem PySem.Spec PyProof.Rows
theorem iS {X:Cx}{i:Nat}{y:Str}{py spos:Pos}{elt iter tg:Expr}{ifs:List Expr}{scope:Scope}{pos:Pos}{NB own:List Str}{cap:List Nat}{wi:TI}{g:TG}{ti:TT}{te:TE}(hN:X.N.Nodup)(hi0:X.N[i]? = some y)(hx:Loc X.env.scope y)(B:Blk X scope NB own cap)(hc:X.calm=true)(hi:PI X tg iter wi)
  (hg:∀ C fp s₀ H₀,PG (cxB X NB own scope C fp s₀ H₀) tg g) (ht:∀ C fp s₀ H₀,PIf (cxB X NB own scope C fp s₀ H₀) ifs ti) (he:∀ C fp s₀ H₀,PE (cxB X NB own scope C fp s₀ H₀) elt te)
  (hs:∀ x,foldedSetIterable iter X.env x=pure x:=by intro _;rfl) (hsw:swapsWith (.ListComp elt [⟨tg,iter,ifs,0⟩] scope pos) (some (.Name y py)) spos.line X.env=pure true:=by rfl) (hf:X.fn y=true ∨ X.env.scope.names.lookup y=some .local:=by first | exact .inl rfl | exact .inr rfl | assumption):PS X (.Assign [.Name y py] (.ListComp elt [⟨tg,iter,ifs,0⟩] scope pos) spos) (yL (v3 own cap wi g ti te) (qH i)):=by
 intro pins s σ H DD I0 h
 rw [exec_Assign_Name_used _ _ _ _ hsw]
 refine fu (wpAny_standAt (fu ?_))
 show wpAny _ X.A (do let _ ← comprehension (.ListComp elt [⟨tg,iter,ifs,0⟩] scope pos) scope X.env _ (newList []) false (eval iter X.env) (some (assign (.Name y py) X.env))) _ _ s
 have hclos:=d7 (env:=X.env) (scope:=scope) fun y hy e=>I0.ok.has y.1 (.inl (B.free y hy e))
 refine fu (D3 (wpAny_comprehension_free (use:=some (assign (.Name y py) X.env)) (Q:=fun _ s'=>SP X pins DD .next s') rfl hs hclos B.kind B.names (thn (hi pins s σ H _ I0 h) fun v s1 h1=>thn h1 fun itv s2 h2=>?_)) (fun _ s' hq=>Ae (Ae hq)) fun _ _ e=>e)
 obtain ⟨it,fp,tn,J,H2,rfl,I,T,st2,f2,W,⟨m0,w0⟩,turn⟩:=h2
 refine Dd ?_
 refine wpAny_newFunctionEnv B.nocell (by intro y hy;simp at hy) (fun h₁ hns₁ hsb₁=>?_) B.kind
 dsimp only at hns₁ hsb₁ ⊢
 generalize hP:s2.heap.push { cls:=.type "list",dict:=none,data:=.seq ([]:List Value).toArray }=P at hns₁ hsb₁ ⊢
 have hC:P.objs.size=s2.heap.objs.size+1:=by rw [← hP,AV]
 have hDC:s2.heap.objs.size≠P.objs.size:=by rw [hC];exact AK (Ba _)
 have hCle:s2.heap.objs.size≤P.objs.size:=by rw [hC];exact BV _
 have old:∀ b o,s2.heap.get? b=some o→h₁.get? b=some o:=fun b o e=>by
  refine (hsb₁.2 b ?_).trans (Ab _ (hP ▸ Ab _ e))
  exact AK (BU (Ay e) hCle)
 have hD:h₁.get? s2.heap.objs.size=some { cls:=.type "list",data:=.seq ([]:List Value).toArray 0 }:=by
  refine (hsb₁.2 _ hDC).trans (Ab _ ?_)
  rw [← hP]
  exact Ak _ rfl
 have hfs:∀ b∈fp,∃ o,s2.heap.get? b=some o:=fun b hb=>let ⟨o,e,_⟩:=T.obj _ _ st2 b hb;⟨o,e⟩
 have st4:tn 0 h₁:=T.keep _ _ _ st2 fun b _ o e=>old b o e
 generalize htk:s2.toks+([]:List (Str × Value)).length=tk4
 have I4:=B.start (C:=P.objs.size) (tk:=tk4) I f2 hfs hCle old hns₁
 have fOk:∀ {H':Hp} {b:Addr} {ob:Obj},b∈fp→H' b=none→k_ (cxB X NB own scope P.objs.size fp s2 H2) [(s2.heap.objs.size,ob)] H' b:=fun {H' b ob} hb hn=>by
  obtain ⟨o,e⟩:=hfs b hb
  refine ⟨hn,(I4.ok.exf b hb).1,I4.ok.exfs b hb,.inl hb,(I4.ok.exf b hb).2,fun p hp=>?_⟩
  have ep:p=(s2.heap.objs.size,ob):=Af.mp (show p∈[(s2.heap.objs.size,ob)] from hp)
  rw [ep]
  exact fun z=>absurd (Ay e) (by rw [← z];exact CA _)
 have dnf:s2.heap.objs.size∉frs X.stack:=fun z=>by
  rcases Aw.mp (I.stkSub _ z) with z | z
  ·exact absurd I.lt (by rw [← z];exact CA _)
  ·exact I.nofs (Al _) z
 have I3D:∀ {σ3:St} {H3:Hp} {s3:Shared} {its:List Value} {k:Nat},Inv (cxB X NB own scope P.objs.size fp s2 H2) [] σ3 H3 s3→s3.heap.get? s2.heap.objs.size=some { cls:=.type "list",data:=.seq its.toArray k }→H3 s2.heap.objs.size=none →
   Inv (cxB X NB own scope P.objs.size fp s2 H2) [(s2.heap.objs.size,{ cls:=.type "list",data:=.seq its.toArray k })] σ3 H3 s3:=fun I3 e n=>I3.pins_of fun p hp=>by
  have ep:=Af.mp hp
  subst ep
  exact ⟨e,n,hDC,dnf,fun v z=>by cases z⟩
 have ndf:s2.heap.objs.size∉fp:=fun z=>by
  obtain ⟨o,e⟩:=hfs _ z
  exact absurd (Ay e) (CA _)
 have nCD:∀ x c,(cxB X NB own scope P.objs.size fp s2 H2).env.cells.lookup x=some c→c≠s2.heap.objs.size:=fun x c e z=>by
  obtain ⟨v,o,ho,_⟩:=I.cell x c (B.cells I.ok e).1
  rw [z] at ho
  exact absurd (Ay ho) (CA _)
 have loop:∀ s₃:Shared,s₃ = { s2 with heap:=h₁,toks:=tk4 }→codeAny (model X.prog X.w) X.A (.compLoop (.ListComp elt [⟨tg,iter,ifs,0⟩] scope pos) 0 (.ref it) (.ref s2.heap.objs.size) (cxB X NB own scope P.objs.size fp s2 H2).env)
   (compPost (model X.prog X.w) X.A X.xe (some (assign (.Name y py) X.env)) (fun _ s'=>SP X pins DD .next s') (.ref s2.heap.objs.size) P.objs.size) s₃:=by
  rintro s₃ rfl
  refine jz (fun n s'=>∃ i σB H' ys its k,Inv (cxB X NB own scope P.objs.size fp s2 H2) [] σB H' s'∧tn i s'.heap∧(∀ b∈fp,H' b=none)∧s'.heap.get? s2.heap.objs.size=some { cls:=.type "list",data:=.seq (its:List Value).toArray k }∧bu ys its∧H' s2.heap.objs.size=none∧W i n ys σB H') ?_ m0
   ⟨0,stB own cap σ,H2,[],[],0,I4,st4,fun b hb=>(f2 b hb).1,hD,.nil,I.hok.fresh (Al _),w0⟩
  rintro n s3 ⟨i,σ3,H3,ys,its,k,I3,st3,fr3,hD3,rv,hn3,w3⟩
  rcases turn i n ys σ3 H3 w3 with ⟨stop,hz,q⟩ | ⟨go,hz,step⟩
  ·refine thn (T.done (cxB X NB own scope P.objs.size fp s2 H2) rfl rfl rfl hc i _ s3 σ3 H3 noE (I3D I3 hD3 hn3) (fun b hb=>fOk hb (fr3 b hb)) st3 stop) fun r s4 zq1=>?_
   obtain ⟨hr,I4'⟩:=zq1
   subst hr
   have hD4:s4.heap.get? s2.heap.objs.size=some { cls:=.type "list",data:=.seq (its:List Value).toArray k }:=(I4'.pin (s2.heap.objs.size,_) (AJ _ (Af.mpr rfl))).1
   have I5:Inv (cxB X NB own scope P.objs.size fp s2 H2) [] σ3 H3 s4:=I4'.pins_of fun p hp=>absurd (show p∈([]:List (Addr × Obj)) from hp) (by simp)
   obtain ⟨mC,hnC,_⟩:=I5.loc
   have I6:Inv X pins σ (upd H3 s2.heap.objs.size (.lst ys)) s4:=B.done (h'':=s4.heap) I f2 hCle (Al _) hDC I5 hn3 hD4 rv hz ⟨rfl,fun _ _=>rfl⟩
   obtain ⟨oC,es,ep,hoC,hdC,rC⟩:=hnC
   have hCn:(upd H3 s2.heap.objs.size (.lst ys)) P.objs.size=none:=by rw [aD hDC.symm];exact I5.free
   have nL:P.objs.size≠X.env.locals:=fun z=>absurd I.lt (by rw [← z];exact De.mpr hCle)
   have I7:Inv X (pins++[(P.objs.size,oC)]) σ (upd H3 s2.heap.objs.size (.lst ys)) s4:=I6.pins_of fun p hp=>by
    rcases Ax.mp hp with z | z
    ·exact I6.pin p (AJ _ z)
    ·have ep:=Af.mp z
     subst ep
     exact ⟨hoC,hCn,nL,I.nofs hCle,fun v z=>by rw [hdC] at z;cases z⟩
   refine thn (aT (pos:=py) hN hi0 hx hf (pins++[(P.objs.size,oC)]) s4 σ _ (.ref s2.heap.objs.size) (.ref s2.heap.objs.size) (fun σ' H'=>DD.nx σ' H'∧H'=upd H3 s2.heap.objs.size (.lst ys)) I7 rfl ⟨q _ hn3,rfl⟩) fun _ s5 zq2=>?_
   obtain ⟨σ5,H5,I8,q5,e5⟩:=zq2
   subst e5
   have pC:=(I8.pin (P.objs.size,oC) (AJ _ (AJ _ (Af.mpr rfl)))).1
   refine ⟨mC,⟨oC,es,ep,pC,hdC,rC⟩,fun h'' sb=>⟨σ5,_,?_,q5⟩⟩
   have I9:Inv X pins σ5 (upd H3 s2.heap.objs.size (.lst ys)) s5:=I8.pins_of fun p hp=>I8.pin p (AJ _ (AX _ hp))
   refine I9.turned (t':=s5.toks) (it:=P.objs.size) (fun b o hb e=>(sb.2 b hb).trans e) hCn nL (.inr (Ck I.sz hCle)) (fun x c e z=>?_) fun p hp z=>?_
   ·obtain ⟨v,o,ho,_⟩:=I.cell x c e
    exact absurd (Ay ho) (by rw [z];exact De.mpr hCle)
   ·exact absurd (Ay (I.pin p hp).1) (by rw [z];exact De.mpr hCle)
  ·refine thn (T.item (cxB X NB own scope P.objs.size fp s2 H2) rfl rfl rfl hc i _ s3 σ3 H3 noE (I3D I3 hD3 hn3) (fun b hb=>fOk hb (fr3 b hb)) st3 go) fun r s4 zq3=>?_
   obtain ⟨u,hr,h4⟩:=zq3
   subst hr
   refine thn h4 fun _ s5 zq4=>?_
   obtain ⟨x,H5,I5,r5,y5,st5,fr5⟩:=zq4
   have I5':=I5.pinned (fun b hb=>fOk hb (fr5 b hb)) (T.obj _ _ st5)
   refine thn (hg _ fp s2 H2 _ s5 σ3 H5 x u _ I5' r5 (step x H5 y5)) fun _ s6 zq5=>?_
   obtain ⟨σ6,H6,I6,q6⟩:=zq5
   refine thn (ht _ fp s2 H2 _ s6 σ6 H6 _ I6 q6) fun b s7 zq6=>?_
   obtain ⟨H7,I7,q7⟩:=zq6
   have pinned:∀ {σ8:St} {H8:Hp} {s8:Shared},Inv (cxB X NB own scope P.objs.size fp s2 H2) ([(s2.heap.objs.size,{ cls:=.type "list",data:=.seq (its:List Value).toArray k })]++hG fp s5.heap) σ8 H8 s8 →
     tn (i+1) s8.heap∧(∀ b∈fp,H8 b=none)∧s8.heap.get? s2.heap.objs.size=some { cls:=.type "list",data:=.seq (its:List Value).toArray k }∧H8 s2.heap.objs.size=none:=fun {σ8 H8 s8} I8=>by
    refine ⟨T.keep _ _ _ st5 fun b hb o e=>(I8.pin (b,o) (AJ _ (AJ _ (cf hb e)))).1,fun b hb=>?_,?_,?_⟩
    ·obtain ⟨o,e,d⟩:=T.obj _ _ st5 b hb
     exact (I8.pin (b,o) (AJ _ (AJ _ (cf hb e)))).2.1
    ·exact (I8.pin (s2.heap.objs.size,_) (AJ _ (AX _ (Af.mpr rfl)))).1
    ·exact (I8.pin (s2.heap.objs.size,_) (AJ _ (AX _ (Af.mpr rfl)))).2.1
   have nopin:∀ {pp:List (Addr × Obj)} {σ8:St} {H8:Hp} {s8:Shared},Inv (cxB X NB own scope P.objs.size fp s2 H2) pp σ8 H8 s8→Inv (cxB X NB own scope P.objs.size fp s2 H2) [] σ8 H8 s8:=fun I8=>I8.pins_of fun p hp=>absurd (show p∈([]:List (Addr × Obj)) from hp) (by simp)
   cases b with
   | false =>
    rw [if_neg Dn] at q7 ⊢
    obtain ⟨m',hm,w7⟩:=q7
    obtain ⟨p1,p2,p3,p4⟩:=pinned I7
    exact ⟨m',hm,i+1,σ6,H7,ys,its,k,nopin I7,p1,p2,p3,rv,p4,w7⟩
   | true =>
    rw [if_pos rfl] at q7 ⊢
    refine thn (he _ fp s2 H2 _ s7 σ6 H7 _ I7 q7) fun yv s8 zq7=>?_
    obtain ⟨y,H8,I8,r8,m',hm,w8⟩:=zq7
    obtain ⟨p1,p2,p3,p4⟩:=pinned I8
    refine call_meets F.slot_list_append ⟨_,p3,rfl⟩ F.entry_list_append (F.args_list_append_2 _ _) (PySem.list_append s2.heap.objs.size its.toArray k yv (by rw [Bu,← rv.length];omega)) ⟨p3,?_⟩
    have q:=PySem.IsL.update p3 fun a=>a.push yv
    have ea:its.toArray.push yv=(its++[yv]).toArray:=by simp
    rw [ea] at q
    have I9:Inv (cxB X NB own scope P.objs.size fp s2 H2) [] σ6 H8 { s8 with heap:=s8.heap.update s2.heap.objs.size (Obj.mapSeq fun a=>a.push yv),toks:=s8.toks } :=
     (nopin I8).turned (it:=s2.heap.objs.size) (fun b o hb e=>(AZ s8.heap _ (Ne.symm hb)).trans e) p4 hDC (.inr (Al _)) (fun x c e=>nCD x c e) fun p hp=>absurd (show p∈([]:List (Addr × Obj)) from hp) (by simp)
    refine ⟨m',hm,i+1,σ6,H8,ys++[y],its++[yv],_,I9,?_,p2,q,rv.append (.cons r8 .nil),p4,w8⟩
    refine T.keep _ _ _ p1 fun b hb o e=>(AZ s8.heap _ ?_).trans e
    intro z
    rw [z] at ndf
    exact ndf hb
 exact codeAny_compStart_list (loop _ rfl) (T.self X.A 0 _ _ _ st4 (loop _ rfl))
end L2
namespace L2
open PySem PySem.Spec PyProof.Rows Wd
section
variable {X:Cx}
end
end L2
namespace L2
open PySem PySem.Spec PyProof.Rows
section
variable {X:Cx}
end
section
variable {prog:Program} {w:World} {A:Around} {E:Value→Shared→Prop} {s:Shared}
end
section
variable {X:Cx}
end
end L2
namespace PySem
open Sem (wp)
open AutoSeq1 (wpAny_loadPart')
section
variable {prog:Program} {w:World} {A:Around} {E:Value→Shared→Prop} {s:Shared}
end
end PySem
namespace L2
open PySem PySem.Spec PyProof.Rows Wd
section
variable {X:Cx}
end
end L2
namespace PySem
open Sem (wp)
section
variable {prog:Program} {w:World} {A:Around} {E:Value→Shared→Prop} {s:Shared} {z TI TO i1 i2:Addr} {k n1 n2:Nat} {a b:Value} {fp1 fp2:List Addr} {P1 P2:Nat→Value→Prop} {S1 S2:Nat→Heap→Prop}
end
end PySem
namespace PySem
end PySem
namespace L2
open PySem PySem.Spec PyProof.Rows Wd
section
variable {X:Cx}
end
end L2
namespace Kx
open PySem PySem.Spec PyProof.Rows L2 Wd
inductive Stp where
 | out (n:Nat)
 | inn (n:Nat) (x:L)
 | rng (n:Nat) (u:List L) (m:Nat)
def Stp.hd:Stp→Str
 | .out _=>"out"
 | .inn _ _=>"in"
 | .rng _ _ _=>"ring"
def Stp.args:Stp→List V
 | .out n=>[.int n]
 | .inn n x=>[.int n,tx [x]]
 | .rng n u m=>[.int n,tx u,.int m]
def Stp.vs (s:Stp):List V:=.str s.hd::s.args
def Gd (c:Nat):Prop:=(48≤c∧c≤57) ∨ 65≤c
end Kx
namespace L2
open PySem PySem.Spec PyProof.Rows Wd
section
variable {X:Cx} {tg:Expr}
def iSq (K:PySem.W.Frag)(tl:TE):TI:=fun σ H R=>tl σ H fun x H1=>∃ a xs,x = .ref a∧((SqL K H1 a xs∧R (Itl K a) H1) ∨ (SqT K H1 a xs∧R (Itt K a) H1))
theorem yi {l:Expr}{tl:TE}(hl:PE X l tl):PI X tg l (iSq X.K tl):=by
 intro pins s σ H R I h
 refine thn (hl pins s σ H _ I h) fun v s1 zq1=>?_
 obtain ⟨x,H1,I1,r1,q1⟩:=zq1
 obtain ⟨a,xs,e,hq⟩:=q1
 subst e
 cases r1
 have fp:∀ b∈[s1.heap.objs.size],k_ X pins H1 b:=fun b hb=>by
  obtain rfl:b=s1.heap.objs.size:=by simpa using hb
  exact I1.fpOk (Al _) (I1.hok.fresh (Al _))
 rcases hq with ⟨hq,q⟩ | ⟨hq,q⟩
 ·obtain ⟨its,rv,p,hz⟩:=I1.list hq
  exact Cb p.isList ⟨s1.heap.objs.size,[s1.heap.objs.size],_,_,H1,rfl,I1.kept (t':=s1.toks) fun b o e=>Ab _ e,ji a _,⟨_,Ak _ rfl,rfl,rfl⟩,fp,q⟩
 ·obtain ⟨its,rv,p,hz⟩:=I1.tuple hq
  exact wpAny_pyIter_tuple (show s1.heap.IsTuple a its.toArray from p) ⟨s1.heap.objs.size,[s1.heap.objs.size],_,_,H1,rfl,I1.kept (t':=s1.toks) fun b o e=>Ab _ e,g_ a _,⟨_,Ak _ rfl,rfl,rfl⟩,fp,q⟩
inductive wj (K:PySem.W.Frag)(x:V)(y:V)(H:Hp)(Q:VK):Prop
 | mk:∀ a b xs,(x = .ref a)→(y = .ref b)→(SqT K H a xs)→(H b=some (.tup []))→(Q (.bl (!xs.isEmpty)) H)→wj K x y H Q
theorem mQ (hu:X.A.units+64 < cLine):OpR X (compareOp .NotEq) (wj X.K):=by
 intro pins s σ H x y v u Q I rx ry h
 obtain ⟨a,b,xs,rfl,rfl,ha,hb,q⟩:=h
 cases rx
 cases ry
 obtain ⟨its,rv,pa,_⟩:=I.tuple ha
 obtain ⟨its2,rv2,pb,_⟩:=I.tuple (SqT.of hb)
 cases rv2
 refine Dz (SeqAt.RcNeAt.tuples (e:=fun _=>true) (show s.heap.IsTuple a its.toArray from pa) (show s.heap.IsTuple b ([]:List Value).toArray from pb) (by omega) (fun j _ h2=>by simp at h2)) ?_
 have e:(!((List.range (min its.toArray.size ([]:List Value).toArray.size)).all (fun _=>true) && its.toArray.size == ([]:List Value).toArray.size))=!xs.isEmpty:=by
  have hl:=rv.length
  cases xs with
  | nil=>cases rv;rfl
  | cons z r=>cases rv with | cons r1 r2=>simp
 rw [e]
 exact ⟨.bl _,H,I,rfl,q⟩
end
end L2
namespace Kx
open PySem PySem.Spec PyProof.Rows L2 Wd
def dV:V→PyData
 | .int i=>.int i
 | .str z=>.str z
 | _=>.none
end Kx
namespace Wd
end Wd
namespace Kx
open PySem PySem.Spec PyProof.Rows L2 Wd
def gs (S:List Nat):List V:=S.map fun g:Nat=>V.int (g:Int)
end Kx
namespace Wd
def rfI (u:List L)(a b:L):Int:=((u.idxOf b:Int) - (u.idxOf a:Int)) % (u.length:Int)
def ic (u:List L)(x z:L):Int:=if rfI u x z < rfI u x (inv x) then 1 else 0
def sd (u:List L)(x y:L):Int:=ic u x y - ic u x (inv y)
def lt6 (j:Nat):L:=if h:j < 12 then ⟨j,h⟩ else 0
end Wd
namespace L2
open PySem PySem.Spec PyProof.Rows
section
variable {X:Cx}
end
end L2
namespace Kx
open PySem PySem.Spec PyProof.Rows L2 Wd
theorem jM:∀ (r:List Str) (x:Str),risingS x r=true→(x::r).Pairwise fun a b=>a.cps.toList≤b.cps.toList
 | [],x,_=>by simp
 | z::r,x,h=>by
  have l:=fm (z::r) x h
  unfold risingS at h
  rw [Bool.and_eq_true] at h
  exact List.Pairwise.cons (fun y hy=>l.2 y (AC _ hy)) (jM r z h.2)
theorem oR {l:List Str}(h:sortedS l=true):l.Pairwise fun a b=>a.cps.toList≤b.cps.toList:=by
 cases l with
 | nil=>exact .nil
 | cons x r=>exact jM r x h
def zY (k:Nat):List L:=(List.range k).map lt6++bk ((List.range k).map lt6)
end Kx
namespace Wd
open PySem L2
def lcp:List L→List L→List L
 | x::u,y::v=>if x=y then x::lcp u v else []
 | _,_=>[]
theorem dX:∀ u v:List L,lcp u v <+: u∧lcp u v <+: v
 | [],_=>by unfold lcp;exact ⟨Cc,Cc⟩
 | _::_,[]=>by unfold lcp;exact ⟨Cc,Cc⟩
 | x::u,y::v=>by
  unfold lcp
  split
  ·rename_i h
   subst h
   obtain ⟨h1,h2⟩:=dX u v
   exact ⟨B4.mpr ⟨rfl,h1⟩,B4.mpr ⟨rfl,h2⟩⟩
  ·exact ⟨Cc,Cc⟩
theorem iT:∀ {p u v:List L},p <+: u→p <+: v→p <+: lcp u v
 | [],_,_,_,_=>Cc
 | a::p,[],_,h,_=>by simp at h
 | a::p,_::_,[],_,h=>by simp at h
 | a::p,x::u,y::v,h,g=>by
  obtain ⟨e1,h3⟩:=B4.mp h
  obtain ⟨e2,h4⟩:=B4.mp g
  subst e1 e2
  unfold lcp
  rw [if_pos rfl]
  exact B4.mpr ⟨rfl,iT h3 h4⟩
theorem lW {u v:List L}{i:Nat}{x y:L}(e:u.take i=v.take i)(hx:u[i]? = some x)(hy:v[i]? = some y)(ne:x≠y):lcp u v=u.take i:=by
 obtain ⟨p1,p2⟩:=dX u v
 have li:=(Ah.mp hx).1
 have h:u.take i <+: lcp u v:=iT (B3 _ _) (e ▸ B3 _ _)
 refine (h.eq_of_length_le ?_).symm
 rw [Aj]
 rcases Nat.lt_or_ge i (lcp u v).length with q | q
 ·have q1:=DA.mp p1 i q
  have q2:=DA.mp p2 i q
  rw [hx] at q1
  rw [hy] at q2
  exact absurd ((A9 q1).trans (A9 q2).symm) ne
 ·omega
theorem oS {u v:List L}(e:u.take (min u.length v.length)=v.take (min u.length v.length)):lcp u v=u.take v.length:=by
 obtain ⟨p1,p2⟩:=dX u v
 have e2:u.take v.length=u.take (min u.length v.length):=by
  rcases Nat.le_total u.length v.length with q | q
  ·rw [BJ q,Aq q,Aq (Al _)]
  ·rw [Cp q]
 rw [e2]
 have h:u.take (min u.length v.length) <+: lcp u v:=iT (B3 _ _) (e ▸ B3 _ _)
 refine (h.eq_of_length_le ?_).symm
 have l1:=p1.length_le
 have l2:=p2.length_le
 rw [Aj]
 omega
def jN (t o:List L):Bool:=decide (o≠t) && decide (t.length≤6*(lcp t o).length)
def fnd (V:List (List L))(t:List L):Option (List L):=V.find? (jN t)
def ik (V:List (List L)):Option (List L × List L × List L):=V.findSome? fun t=>(fnd V t).map fun o=>(t,o,lcp t o)
structure Ord (V:List (List L)):Prop where
 nd:V.Nodup
 so:V.Pairwise fun a b=>a.map cp≤b.map cp
def trn (R:List (List L)):List (List L):=R.flatMap fun r=>de r++de (bk r)
theorem kA {V W:List (List L)}(hV:Ord V)(hW:Ord W)(m:∀ x,x∈V ↔ x∈W):V=W:=by
 have p:V.Perm W:=(List.perm_ext_iff_of_nodup hV.nd hW.nd).mpr m
 refine List.Perm.eq_of_pairwise (fun x y _ _ h1 h2=>?_) hV.so hW.so p
 exact cm (by unfold toS;rw [List.le_antisymm h1 h2])
end Wd
namespace HT
open PySem PySem.Spec PyProof.Rows
section
variable {prog:Program} {w:World} {A:Around} {E:Value→Shared→Prop} {s:Shared}
theorem oT {t sl:Addr}{its:Array Value}{vl vu:Value}{lo hi:Option Int}{Q:Value→Shared→Prop}(ht:IsTup s.heap t its)(hs:s.heap.IsSliceOf sl vl vu .none)(pl:IsPart vl lo)(pu:IsPart vu hi)
  (hw:sIx its.size 0 lo=0∧sIx its.size its.size hi=its.size) (h:Q (.ref t) s):wpAny (model prog w) A (getItem (.ref t) (.ref sl)) Q E s:=by
 obtain ⟨os,hos,hcs,hds⟩:=id hs
 have hTs:s.TypeIs (.ref sl) "slice":=⟨os,hos,hcs⟩
 unfold getItem
 try with_reducible refine A5 ?_
 first | refine fu (Ae ?_) | skip
 refine fu (wpAny_sequenceKey ht.typeIs (by decide) ?_)
 refine fu (Bk (name:=Str.ofString "__getitem__") ht.typeIs CZ (A3 CZ ht.typeIs entry_tuple_getitem ?_ (args_tuple_getitem _ _)))
 show wpAny _ _ (Builtin.Tuple.tupleItemsOf (.ref t) >>= _) _ _ s
 refine fu (tupleItemsOf_ ht (fu (Do hTs ?_)))
 rw [if_pos (by decide)]
 refine fu (cX hs pl pu ?_)
 show wpAny _ _ (if (((sIx its.size 0 lo:Nat):Int) == 0 && (1:Int) == 1 && (sIx its.size its.size hi - sIx its.size 0 lo) == its.size)=true then _ else _) _ _ s
 rw [if_pos (by rw [hw.1,hw.2];simp)]
 refine fu ?_
 unfold Builtin.Tuple.tupleIsExact
 refine fu (Do ht.typeIs (Ae ?_))
 rw [if_pos (by decide)]
 refine fu (Bm ?_)
 first
  | exact Ae ⟨_,rfl,Ae h⟩
  | exact fu (Ae (Ae ⟨_,rfl,Ae h⟩))
end
end HT
namespace L2
open PySem PySem.Spec PyProof.Rows Wd
inductive wk (K:PySem.W.Frag)(x:V)(lo:Option Int)(hi:Option Int)(H:Hp)(Q:VK):Prop
 | mk:∀ a xs,(x = .ref a)→(SqT K H a xs)→((jq xs lo hi=xs→Q (.ref a) H))→(∀ p,H p=none→Q (.ref p) (upd H p (.tup (jq xs lo hi))))→wk K x lo hi H Q
theorem uv {X:Cx}:SlR X (wk X.K):=by
 intro pins s σ H x v vl vu lo hi sl Q I rx hs pl pu h
 obtain ⟨a,xs,rfl,hx,hw,q⟩:=h
 by_cases hh:HT.sIx xs.length 0 lo=0∧HT.sIx xs.length xs.length hi=xs.length
 ·cases rx
  obtain ⟨its,r,ht,hz⟩:=I.tuple hx
  have hlen:its.toArray.size=xs.length:=by rw [Bu];exact r.length.symm
  have e:jq xs lo hi=xs:=by unfold jq;rw [hh.1,hh.2,List.drop_zero,Nat.sub_zero,BB]
  exact ⟨"tuple",_,CZ.lookup,ht.typeIs,HT.oT ht hs pl pu (by rw [hlen];exact hh) ⟨.ref a,H,I,rfl,hw e⟩⟩
 ·exact vP pins s σ H (.ref a) v vl vu lo hi sl Q I rx hs pl pu ⟨a,xs,rfl,hx,hh,q⟩
end L2
namespace Kx
open PySem PySem.Spec PyProof.Rows L2 Wd
theorem at0 {α:Type}(c:α)(t:List α):atI (c::t) (0:Int)=some c:=by unfold atI ixN; simp
theorem nl:¬ ("letter":Str) = "number":=by decide +kernel
theorem tl:¬ ("turn":Str) = "letter":=by decide +kernel
end Kx
namespace Wd
open PySem L2
end Wd
namespace Kx
open PySem L2 Wd
def iU (w:List L)(n:Nat):Bool:=decide (n+1 < w.length) && decide (w[n+1]? = (w[n]?).map inv)
def il (w:List L)(n:Nat)(u:List L)(m:Nat):Bool:=decide (m≤u.length) && decide (n+m≤w.length) && decide ((w.drop n).take m=u.take m)
def stB (R:List (List L))(w:List L):Stp→Bool
 | .out n=>iU w n
 | .inn n _=>decide (n≤w.length)
 | .rng n u m=>il w n u m && decide (u∈trn R)
def chg (w:List L):Stp→List L
 | .out n=>w.take n++w.drop (n+2)
 | .inn n x=>w.take n++[x]++[inv x]++w.drop n
 | .rng n u m=>w.take n++bk (u.drop m)++w.drop (n+m)
def qu (R:List (List L))(w:List L)(s:Stp):Option (List L):=if stB R w s && decide ((chg w s).length≤2000) then some (chg w s) else none
theorem dY {R:List (List L)}{w:List L}{s:Stp}(h:stB R w s=false):qu R w s=none:=by unfold qu; rw [h]; rfl
theorem jO {R:List (List L)}{w:List L}{s:Stp}(h:2000 < (chg w s).length):qu R w s=none:=by
 unfold qu
 rw [if_neg]
 rw [AF (by omega),Ds]
 decide
theorem fM {R:List (List L)}{w:List L}{s:Stp}(h:stB R w s=true)(hl:(chg w s).length≤2000):qu R w s=some (chg w s):=by
 unfold qu
 rw [if_pos]
 rw [h,An hl]
 rfl
def Sk:Stp→Prop
 | .out n=>n≤5000
 | .inn n _=>n≤5000
 | .rng n u m=>n≤5000∧u.length≤400∧m≤5000
theorem uw {R:List (List L)}{w:List L}{s:Stp}(hs:Sk s)(h:stB R w s=true):(chg w s).length≤w.length+402:=by
 cases s with
 | out n=>unfold chg;rw [Ad,Aj,AA];omega
 | inn n x=>unfold chg;simp only [Ad,Aj,AA,A2,Bs];omega
 | rng n u m=>unfold chg;have:=hs.2.1;simp only [Ad,Aj,AA,bM];omega
end Kx
namespace PySem
open Sem (wp)
theorem mR {t:SetTable}{es:Array (Int × Value)}{h:Int}{x:Value}(hp:t.plain=false):(layNew t es h x).2.1.plain=false:=by
 unfold layNew
 split
 ·dsimp only
  unfold SetTable.orStandIn
  split
  ·exact hp
  ·rfl
 ·rfl
theorem jP {t t':SetTable}{hs:Array Int}{w:Nat}{order:Array Nat}(h:t.relaid hs w=some (t',order)):t'.plain=t.plain:=by
 unfold SetTable.relaid SetTable.laid at h
 cases hq:SetTable.layClean (SetTable.sizeAbove w - 1) hs with
 | none=>rw [hq] at h;cases h
 | some o=>rw [hq] at h;cases h;rfl
theorem jQ {t:SetTable}{es:Array (Int × Value)}{w:Nat}(hp:t.plain=false):(relayAll t es w).2.1.plain=false:=by
 unfold relayAll
 split
 ·rename_i t' order he
  dsimp only
  split
  ·exact (jP he).trans hp
  ·rfl
 ·rfl
section
variable {prog:Program} {w:World} {A:Around} {E:Value→Shared→Prop} {s:Shared}
def ddp (val:Nat→Str):Nat→List Str
 | 0=>[]
 | i+1=>if val i∈ddp val i then ddp val i else ddp val i++[val i]
theorem oU (val:Nat→Str):∀ i,(ddp val i).length≤i
 | 0=>Al _
 | i+1=>by
  have ih:=oU val i
  unfold ddp
  split
  ·omega
  ·rw [Ad,A4];omega
section
variable {R:Result→Shared→Prop} {I:Addr} {fp wr:List Addr} {G:Array GenState→Array GenState→Prop} {n:Nat} {P:Nat→Value→Prop} {St:Nat→Shared→Prop}
end
abbrev sob (led:Bool):Obj:={ cls:=.type "set",dict:=none,data:=.set #[] 0 (.fresh 0 0 led) }
end
abbrev ldr (w:World):Bool:=!w.params.followText "set-order"
theorem ip {t:SetTable}{es:Array (Int × Value)}{h:Int}{x:Value}:(layNew t es h x).2.1.led=t.led:=by
 unfold layNew
 split
 ·dsimp only
  unfold SetTable.orStandIn
  split
  ·rfl
  ·rfl
 ·rfl
theorem mS {t t':SetTable}{hs:Array Int}{w:Nat}{order:Array Nat}(h:t.relaid hs w=some (t',order)):t'.led=t.led:=by
 unfold SetTable.relaid SetTable.laid at h
 cases hq:SetTable.layClean (SetTable.sizeAbove w - 1) hs with
 | none=>rw [hq] at h;cases h
 | some o=>rw [hq] at h;cases h;rfl
theorem fw {t:SetTable}{es:Array (Int × Value)}{w:Nat}:(relayAll t es w).2.1.led=t.led:=by
 unfold relayAll
 split
 ·rename_i t' order he
  dsimp only
  split
  ·exact mS he
  ·rfl
 ·rfl
section
variable {prog:Program} {w:World} {A:Around} {E:Value→Shared→Prop} {s:Shared}
def ja (prog:Program)(w:World)(h:Heap)(a:Addr)(dl:List Str):Prop :=
 ∃ o es ep t,h.get? a=some o∧o.ExactSet∧o.data = .set es ep t∧ElemsOf (strKind prog w) es.toList∧(∀ k,k∈dl ↔ ∃ e∈es.toList,(strKind prog w).is k e.2=true)∧es.size < scanBound∧t.fits es.size=true∧es.size=dl.length∧(dl≠[]→t.plain=false)∧t.led=ldr w
theorem y7 {a:Addr}{o:Obj}{es es1:Array (Int × Value)}{ep:Nat}{t t2:SetTable}{dl:List Str}(ho:s.heap.get? a=some o)(hex:o.ExactSet)(hd:o.data = .set es ep t)(hel:ElemsOf (strKind prog w) es1.toList)
  (hm:∀ k,k∈dl ↔ ∃ e∈es1.toList,(strKind prog w).is k e.2=true) (hb:es1.size < scanBound) (hf:t2.fits es1.size=true) (hn:es1.size=dl.length) (hp:t2.plain=false) (hld:t2.led=ldr w) :
  (s.heap.update a (Obj.putSet es1 t2)).get? a=some { o with data:=.set es1 (ep+1) t2 }∧ja prog w (s.heap.update a (Obj.putSet es1 t2)) a dl:=by
 have hg:(s.heap.update a (Obj.putSet es1 t2)).get? a=some { o with data:=.set es1 (ep+1) t2 }:=by
  have q:=A7 (Obj.putSet es1 t2) ho (by rw [putSet_of es1 t2 hd];rfl)
  rwa [putSet_of es1 t2 hd] at q
 exact ⟨hg,_,es1,ep+1,t2,hg,hex,rfl,hel,hm,hb,hf,hn,fun _=>hp,hld⟩
theorem zK {a:Addr}{dl:List Str}{z:Str}{u:Tok}{Q:Bool→Shared→Prop}(hS:ja prog w s.heap a dl)(hroom:dl.length+1 < scanBound)
  (h:∀ h' b,Heap.SameBut a s.heap h'→ja prog w h' a (if z∈dl then dl else dl++[z])→Q b { s with heap:=h' }) :
  wpAny (model prog w) A (setAddHashed a (.str z u) ((strKind prog w).hash z)) Q E s:=by
 obtain ⟨o,es,ep,t,ho,hex,hd,hel,hm,hb,hf,hn,hpl,hld⟩:=hS
 have hkey:(strKind prog w).is z (.str z u)=true:=strKind_is prog w z u
 have hsc:(Value.str z u).scannable=true:=rfl
 unfold setAddHashed setAddHashedIn
 refine A5 (fu (DB ho hd hf ?_))
 dsimp only
 rw [byScan_of (knd:=strKind prog w) hsc hb hel]
 simp only [↓reduceIte]
 unfold setAddByScan
 refine fu (fu (Bm (fu (wpAny_setScan_of (knd:=strKind prog w) hkey ho hd hf hel ?_))))
 cases hr:List.findIdx? (fun e=>(strKind prog w).is z e.2) es.toList with
 | some j =>
  dsimp only
  obtain ⟨hj,hpj,_⟩:=CT.mp hr
  have hz:z∈dl:=(hm z).mpr ⟨es.toList[j],AS hj,hpj⟩
  refine Ae (Ae ?_)
  have q:=h s.heap false (Heap.SameBut.refl a s.heap) (by rw [if_pos hz];exact ⟨o,es,ep,t,ho,hex,hd,hel,hm,hb,hf,hn,hpl,hld⟩)
  have e:s={ s with heap:=s.heap }:=by cases s;rfl
  rw [e];exact q
 | none =>
  dsimp only
  have hz:z∉dl:=fun hz=>by
   obtain ⟨e,he,hp⟩:=(hm z).mp hz
   have q:=Du.mp hr e he
   rw [hp] at q
   cases q
  have hq:∀ h',Heap.SameBut a s.heap h'→ja prog w h' a (dl++[z])→Q true { s with heap:=h' }:=fun h' sb hs=>h h' true sb (by rw [if_neg hz];exact hs)
  have hperm:=layNew_perm t es ((strKind prog w).hash z) (.str z u)
  have hfits:=layNew_fits t es ((strKind prog w).hash z) (.str z u)
  have hoff:=fun hp:t.plain=false=>mR (es:=es) (h:=(strKind prog w).hash z) (x:=.str z u) hp
  have hl1:(layNew t es ((strKind prog w).hash z) (.str z u)).2.1.led=ldr w:=ip.trans hld
  generalize hL:layNew t es ((strKind prog w).hash z) (.str z u)=L at hperm hfits hoff hl1 ⊢
  obtain ⟨es1,t1,wasDummy,gave⟩:=L
  dsimp only at hperm hfits hoff hl1 ⊢
  rw [BN] at hperm
  have hel1:ElemsOf (strKind prog w) es1.toList:=(hel.push hkey hsc).perm hperm
  have hm1:∀ k,k∈dl++[z] ↔ ∃ e∈es1.toList,(strKind prog w).is k e.2=true:=fun k=>by
   rw [← mem_push_iff (knd:=strKind prog w) (S:=fun k=>decide (k∈dl)) hkey (fun k=>by rw [CS];exact hm k) hperm k]
   simp
  have hsz1:es1.size=(dl++[z]).length:=by rw [← Ai,hperm.length_eq,Ad,Ai,hn,Ad];rfl
  have hb1:es1.size < scanBound:=by rw [hsz1,Ad];exact hroom
  have tail:∀ t2:SetTable,t2.plain=false→t2.led=ldr w→t2.fits es1.size=true→wpAny (model prog w) A (do
    storeSet a es1 t2
    if (!wasDummy && t2.tooFull)=true then do
      (match (relayAll t2 es1 (SetTable.grown es1.size)).2.2 with | true=>rule "set.scan.the-table-gave-way" | false=>pure ())
      storeSet a (relayAll t2 es1 (SetTable.grown es1.size)).1 (relayAll t2 es1 (SetTable.grown es1.size)).2.1
      pure (some true)
     else pure (some true)) (fun r s'=>wpAny (model prog w) A (match r with | some added=>pure added | none=>setAddHashedIn a (.str z u) ((strKind prog w).hash z) 99999) Q E s') E s:=fun t2 hp2 hd2 hf2=>by
   refine fu (C0 ho hd ?_ (C1 hb1))
   obtain ⟨ho1,hS1⟩:=y7 ho hex hd hel1 hm1 hb1 hf2 hsz1 hp2 hd2
   have hsb1:=CN s.heap a (Obj.putSet es1 t2)
   split
   ·have hp:=relayAll_perm t2 es1 (SetTable.grown es1.size)
    have hfr:=relayAll_fits t2 es1 (SetTable.grown es1.size)
    have hof:=jQ (es:=es1) (w:=SetTable.grown es1.size) hp2
    have hof2:=(fw (t:=t2) (es:=es1) (w:=SetTable.grown es1.size)).trans hd2
    generalize relayAll t2 es1 (SetTable.grown es1.size)=Rl at hp hfr hof hof2 ⊢
    obtain ⟨es2,t3,gave2⟩:=Rl
    dsimp only at hp hfr hof hof2 ⊢
    have hsz:es2.size=es1.size:=by rw [← Ai,hp.length_eq,Ai]
    have go:wpAny (model prog w) A (storeSet a es2 t3 >>= fun _=>pure (some true)) (fun r s'=>wpAny (model prog w) A (match r with | some added=>pure added | none=>setAddHashedIn a (.str z u) ((strKind prog w).hash z) 99999) Q E s') E { s with heap:=s.heap.update a (Obj.putSet es1 t2) }:=by
     refine fu (C0 ho1 rfl ?_ (C1 (by rw [hsz];exact hb1)))
     obtain ⟨_,hS2⟩:=y7 (s:={ s with heap:=s.heap.update a (Obj.putSet es1 t2) }) ho1 hex rfl (hel1.perm hp) (fun k=>(hm1 k).trans ⟨fun zq2=>(by obtain ⟨e,he,q⟩:=zq2;exact ⟨e,hp.mem_iff.mpr he,q⟩),fun zq1=>(by obtain ⟨e,he,q⟩:=zq1;exact ⟨e,hp.mem_iff.mp he,q⟩)⟩) (by rw [hsz];exact hb1) hfr (hsz.trans hsz1) hof hof2
     exact Ae (Ae (hq _ (hsb1.trans (CN _ a _)) hS2))
    cases gave2
    ·exact fu (Ae go)
    ·exact fu (Bm go)
   ·exact Ae (Ae (hq _ hsb1 hS1))
  have rest:wpAny (model prog w) A (do
    let byValue ← if t1.plain=true then hashByValue 8 (.str z u) else pure true
    storeSet a es1 (if byValue=true then t1 else { t1 with plain:=false })
    if (!wasDummy && (if byValue=true then t1 else { t1 with plain:=false }:SetTable).tooFull)=true then do
      (match (relayAll (if byValue=true then t1 else { t1 with plain:=false }) es1 (SetTable.grown es1.size)).2.2 with | true=>rule "set.scan.the-table-gave-way" | false=>pure ())
      storeSet a (relayAll (if byValue=true then t1 else { t1 with plain:=false }) es1 (SetTable.grown es1.size)).1 (relayAll (if byValue=true then t1 else { t1 with plain:=false }) es1 (SetTable.grown es1.size)).2.1
      pure (some true)
     else pure (some true)) (fun r s'=>wpAny (model prog w) A (match r with | some added=>pure added | none=>setAddHashedIn a (.str z u) ((strKind prog w).hash z) 99999) Q E s') E s:=by
   by_cases hp1:t1.plain=true
   ·rw [if_pos hp1]
    refine fu ?_
    rw [hashByValue_scannable 8 hsc]
    refine Ae ?_
    exact tail { t1 with plain:=false } rfl hl1 (SetTable.fits_plain_off hfits)
   ·rw [if_neg hp1]
    refine fu (Ae ?_)
    exact tail t1 (by simpa using hp1) hl1 hfits
  cases gave
  ·exact fu (Ae rest)
  ·exact fu (Bm rest)
theorem ja.at {h h':Heap}{a:Addr}{dl:List Str}(hS:ja prog w h a dl)(k:∀ o,h.get? a=some o→h'.get? a=some o):ja prog w h' a dl:=by
 obtain ⟨o,es,ep,t,ho,r⟩:=hS
 exact ⟨o,es,ep,t,k o ho,r⟩
section
variable {R:Result→Shared→Prop} {I:Addr} {fp wr:List Addr} {G:Array GenState→Array GenState→Prop} {n:Nat} {P:Nat→Value→Prop} {St:Nat→Shared→Prop}
theorem zL (W:WalksS prog w A.in1 I fp wr G n P St)(S:Addr)(hSf:S∉fp)(val:Nat→Str)(hval:∀ i v,P i v→∃ t,v = .str (val i) t)(hb:n+1 < scanBound) :
  ∀ (k i:Nat) (s:Shared),n - i=k→i≤n→St i s→ja prog w s.heap S (ddp val i)→(∀ s',Moved (S::wr) G s s'→ja prog w s'.heap S (ddp val n)→R (.ok (.ret .none)) s') →
   codeAny (model prog w) A (.builtin "set.update.loop" ⟨[.ref S,.ref I],[]⟩) R s:=by
 have nw:S∉wr:=fun q=>hSf (W.sub _ q)
 have sub:∀ b∈wr,b∈S::wr:=fun b q=>AC _ q
 intro k
 induction k with
 | zero =>
  intro i s hk hi st hS hR
  obtain rfl:i=n:=by omega
  refine By Bz ?_
  rw [Bo A8 _]
  show wpAny _ A.in1 (pyNext (.ref I) >>= _) _ _ s
  refine fu (W.done s _ _ st fun s' mv=>?_)
  show wpAny _ A.in1 (ret Value.none) _ _ s'
  exact Ae (hR s' (mv.mono sub) (hS.at fun o q=>mv.heap S o nw q))
 | succ k ih =>
  intro i s hk hi st hS hR
  have hlt:i < n:=by omega
  refine By Bz ?_
  rw [Bo A8 _]
  show wpAny _ A.in1 (pyNext (.ref I) >>= _) _ _ s
  refine fu (W.item i s _ _ hlt st fun v s' hP st' mv=>?_)
  obtain ⟨u,rfl⟩:=hval i v hP
  have hS':ja prog w s'.heap S (ddp val i):=hS.at fun o q=>mv.heap S o nw q
  show wpAny _ A.in1 (holding [Value.str (val i) u] (setAdd S (.str (val i) u)) >>= _) _ _ s'
  refine fu (A5 ?_)
  unfold setAdd
  refine A5 (fu ((strKind prog w).pyHash (k:=val i) (strKind_is _ _ _ _) ?_))
  have hl:=oU val i
  refine zK (s:={ s' with toks:=s'.toks+1 }) hS' (by omega) fun h' b sb hS2=>?_
  refine Ae ⟨B5 A8 _,ih (i+1) _ (by omega) hlt (W.frame _ s' _ _ st' (BV _) fun c hc o q=>?_) (by unfold ddp;exact hS2) fun s'' mv2 hS3=>?_⟩
  ·rw [sb.2 c (fun e:c=S=>hSf (e ▸ hc))];exact q
  ·refine hR s'' (Moved.trans W.gtrans ((mv.mono sub).then_heap (BV _) fun c o hc q=>?_) mv2) hS3
   rw [sb.2 c (fun e:c=S=>hc (e ▸ Av))];exact q
end
theorem eG (a:Value){Q₁:Value→Shared→Prop}(q:Q₁ (.ref s.heap.objs.size) { s with heap:=s.heap.push (sob (ldr w)) }) :
  codeAny (model prog w) A (.call (.builtin "set.__new__") ⟨[.type "set",a],[]⟩) (wants Q₁ E) s:=by
 refine DX ?_
 show wpAny _ A.in1 (do checkBuiltinCall "set.__new__" ⟨[.type "set",a],[]⟩;again (.builtin "set.__new__" ⟨[.type "set",a],[]⟩)) _ _ s
 refine fu (D7 (F.newCall_set_1 a) (Ae ⟨B5 F.plain_set_new _,By F.entry_set_new ?_⟩))
 rw [Bo F.plain_set_new _]
 unfold Builtin.«set.__new__» Builtin.Frozenset.newClass
 have hsub:=sub_set_self
 obtain ⟨hp,gn,dr,tk,os⟩:=s
 dsimp only
 wp_walk
 refine DQ (Ae ?_)
 dsimp only
 simp only [newObj]
 exact fu (wpAny_alloc (Ae (Ae q)))
set_option maxHeartbeats 3200000 in
theorem oX {l:Addr}{its:Array Value}{val:Nat→Str}{Q:Value→Shared→Prop}(hh:A.handled=none)(hl:s.heap.IsList l its)(hval:∀ (i:Nat) (v:Value),its[i]? = some v→∃ t,v = .str (val i) t)(hb:its.size+1 < scanBound)
  (h:∀ (h':Heap) (tk:Nat),ja prog w h' s.heap.objs.size (ddp val its.size)→(∀ b o,b < s.heap.objs.size→s.heap.get? b=some o→h'.get? b=some o)→Q (.ref s.heap.objs.size) { s with heap:=h',toks:=tk }) :
  wpAny (model prog w) A (call (.type "set") [.ref l]) Q E s:=by
 obtain ⟨c,tl,hmro⟩:=F.called_set.mro
 have hmade:=F.called_set.made
 have hsub:=F.called_set.sub
 refine wpAny_call (DX ?_)
 show wpAny _ _ (callAny (.type "set") _) _ _ _
 refine Ae ⟨Code.quiet_builtin _ (by decide +kernel),By F.entry_type_call ?_⟩
 rw [Around.under_plain (weight_type_call_type "set" [.ref l] []) rfl]
 have x1:=F.called_set.notType
 have x2:=F.called_set.canCreate
 have x3:=F.typeCall_set_1 (.ref l)
 repeat (any_goals (first | assumption | wp_step))
 refine DY (eG (.ref l) (E:=E) (Q₁:=fun ob s1=>ob = .ref s.heap.objs.size∧s1={ s with heap:=s.heap.push (sob (ldr w)) }) ⟨rfl,rfl⟩) fun r s1 hr=>?_
 cases r with
 | error e=>exact hr
 | ok fl =>
  cases fl with
  | ret ob =>
   obtain ⟨rfl,rfl⟩:=hr
   have gS:(s.heap.push (sob (ldr w))).get? s.heap.objs.size=some (sob (ldr w)):=Ak _ rfl
   have hT:Shared.TypeIs { s with heap:=s.heap.push (sob (ldr w)) } (.ref s.heap.objs.size) "set":=⟨_,gS,rfl⟩
   have x4:=F.called_set.init.lookup
   have x5:=F.called_set.init.bind (.ref s.heap.objs.size)
   repeat (any_goals (first | assumption | wp_step))
   refine DY (codeAny_call_builtin (R:=wants (fun r s2=>r = .none∧∃ h' tk,s2={ s with heap:=h',toks:=tk }∧ja prog w h' s.heap.objs.size (ddp val its.size)∧(∀ b o,b < s.heap.objs.size→s.heap.get? b=some o→h'.get? b=some o)) E) F.called_set.init.plain F.entry_set_init (check_set_init_1 hT ?_)) fun r2 s2 hr2=>?_
   ·obtain ⟨⟨oc,od,odt,osl⟩,gl,hc,nl,hd⟩:=hl
    simp only at hc hd
    subst hc;subst hd
    have gl':(s.heap.push (sob (ldr w))).get? l=some { cls:=.type "list",dict:=od,data:=.seq its nl,slots:=osl }:=Ab _ gl
    have y1:=F.sub_list_set
    have y2:=F.sub_list_frozenset
    have y3:(Value.type "list" == Value.type "dict")=false:=by decide
    have L1:(s.heap.push (sob (ldr w))).IsList l its:=⟨_,gl',rfl,nl,rfl⟩
    unfold Builtin.«set.__init__» noKeywords Builtin.Frozenset.updateFrom
    generalize hPI:pyIter=PI
    wp_walk
    subst hPI
    refine Cb L1 (fu (Dv ?_))
    have llt:l < s.heap.objs.size:=Ay gl
    have z1:(s.heap.push (sob (ldr w))).objs.size=s.heap.objs.size+1:=AV ..
    have nI:l≠(s.heap.push (sob (ldr w))).objs.size:=by rw [z1];exact AK (Bg llt)
    have nf:s.heap.objs.size∉[(s.heap.push (sob (ldr w))).objs.size,l]:=by
     rw [z1];simp only [Aw,Af,AE,BI,not_or]
     exact ⟨AK (Ba _),Bi llt⟩
    refine zL ((D2 (by simp [hh]) _ l nI its).toS) s.heap.objs.size nf val hval hb (its.size - 0) 0 _ (by omega) (BF _) ⟨⟨_,Ak _ rfl,rfl,rfl⟩,L1.push _⟩ ?s0 ?rr
    case s0=>exact ⟨_,#[],0,_,Ab _ gS,⟨rfl,rfl,rfl⟩,rfl,fun e he=>by simp at he,fun k=>by simp [ddp],by decide,by rfl,rfl,fun q=>absurd rfl q,rfl⟩
    case rr =>
     intro s' mv hS'
     obtain ⟨h',g',d',tk',os'⟩:=s'
     obtain rfl:g'=s.gens:=mv.gens
     obtain rfl:d'=s.drawn:=mv.drawn
     obtain rfl:os'=s.os:=mv.os
     show wpAny _ _ _ _ _ _
     refine Ae ?_
     show wpAny _ _ (ret Value.none) _ _ _
     refine Ae ⟨rfl,h',tk',rfl,hS',fun b o hlt e=>mv.heap b o ?_ (Ab _ (Ab _ e))⟩
     simp only [Aw,Af,AE,BI,not_or]
     exact ⟨AK hlt,by rw [z1];exact AK (Bg hlt)⟩
   ·cases r2 with
    | error e=>exact hr2
    | ok fl2 =>
     cases fl2 with
     | ret r =>
      obtain ⟨rfl,h',tk,rfl,hS',hk'⟩:=hr2
      repeat (any_goals (first | assumption | wp_step))
      exact h _ _ hS' hk'
     | _=>exact hr2.elim
  | _=>exact hr.elim
end
theorem aS:Slot "set_iterator" "__next__" "set_iterator.__next__" :=
 .of (owner:="set_iterator") (n:="__next__") (by rw [typeLookup_type,builtinLookup_eq_fast];kernel_rfl) (by decide +kernel) (by decide +kernel) (by decide +kernel)
  (by first | exact .inl (by decide +kernel) | exact .inr (by decide +kernel)) (by rw [D6];kernel_rfl)
theorem dS:entryFor table "set_iterator.__next__" = some Builtin.«set_iterator.__next__»:=entryFor_of_fast (by kernel_rfl)
theorem eI (a:Value):argsOk "set_iterator.__next__" ⟨[a],[]⟩:=by unfold argsOk; kernel_rfl
theorem dv:entryFor table "set.__iter__" = some Builtin.«frozenset.__iter__» :=
 entryFor_alias (id':="frozenset.__iter__") (by kernel_rfl) rfl (by decide +kernel) (by kernel_rfl)
theorem bc:Slot "set_iterator" "__iter__" "set_iterator.__iter__" :=
 .of (owner:="set_iterator") (n:="__iter__") (by rw [typeLookup_type,builtinLookup_eq_fast];kernel_rfl) (by decide +kernel) (by decide +kernel) (by decide +kernel)
  (by first | exact .inl (by decide +kernel) | exact .inr (by decide +kernel)) (by rw [D6];kernel_rfl)
def Sit (h:Heap)(I:Addr)(first:Value)(i:Nat)(S:Addr)(n ep:Nat):Prop:=∃ o,h.get? I=some o∧o.cls = .type "set_iterator"∧o.data = .fields #[first,rawInt i,.ref S,rawInt n,rawInt ep]
theorem Sit.at {h h':Heap}{I:Addr}{first:Value}{i:Nat}{S:Addr}{n ep:Nat}(x:Sit h I first i S n ep)(k:∀ o,h.get? I=some o→h'.get? I=some o):Sit h' I first i S n ep:=let ⟨o,e,r⟩:=x; ⟨o,k o e,r⟩
section
variable {prog:Program} {w:World} {A:Around} {E:Value→Shared→Prop} {s:Shared}
theorem Sit.ty {I:Addr}{first:Value}{i:Nat}{S:Addr}{n ep:Nat}(x:Sit s.heap I first i S n ep):s.TypeIs (.ref I) "set_iterator":=let ⟨o,e,c,_⟩:=x; ⟨o,e,c⟩
structure Sob (h:Heap) (S:Addr) (es:Array (Int × Value)) (ep:Nat) (t:SetTable):Prop where
 ex:∃ o,h.get? S=some o∧o.ExactSet∧o.data = .set es ep t
 ft:t.fits es.size=true
theorem Sob.at {h h':Heap}{S:Addr}{es:Array (Int × Value)}{ep:Nat}{t:SetTable}(b:Sob h S es ep t)(k:∀ o,h.get? S=some o→h'.get? S=some o):Sob h' S es ep t :=
 ⟨let ⟨o,e,r⟩:=b.ex;⟨o,k o e,r⟩,b.ft⟩
theorem aU {S:Addr}{es:Array (Int × Value)}{ep:Nat}{t:SetTable}{Q:Array (Int × Value) × Nat × SetTable→Shared→Prop}(b:Sob s.heap S es ep t)(q:Q (es,ep,t) s):wpAny (model prog w) A (setState S) Q E s:=by
 obtain ⟨o,e,x,d⟩:=b.ex
 exact DB e d b.ft q
theorem bS {S:Addr}{es:Array (Int × Value)}{ep:Nat}{t:SetTable}{Q:Array (Int × Value)→Shared→Prop}(b:Sob s.heap S es ep t)(q:Q es s):wpAny (model prog w) A (setEntries S) Q E s:=by
 unfold setEntries
 exact fu (aU b (Ae q))
theorem bG {Q:Bool→Shared→Prop}(q:Q (w.params.followText "set-order") s):wpAny (model prog w) A setsByText Q E s:=by
 unfold setsByText
 exact fu (DQ (Ae q))
theorem dI {I S:Addr}{sl i ep:Nat}{es:Array (Int × Value)}{t:SetTable}{Q:Option Value→Shared→Prop}(hI:Sit s.heap I (rawInt sl) i S es.size ep)(b:Sob s.heap S es ep t)
  (h:wpAny (model prog w) A.in1 (do
    match ← setNext S sl i ep with
    | some (x,next) =>
     setField (.ref I) 0 (rawInt next)
     setField (.ref I) 1 (rawInt ((i:Int)+1))
     ret x
    | none=>setField (.ref I) 2 .none;raiseNew (← newExc (.type "StopIteration") []))
   (fun f s'=>∃ v,f = .done (.ret v)∧Q (some v) s') (fun e s'=>wpAny (model prog w) A (do if ← isInstance e (.type "StopIteration") then return none else throw e) Q E s') s) :
  wpAny (model prog w) A (pyNext (.ref I)) Q E s:=by
 have hT:=hI.ty
 obtain ⟨o,e,c,d⟩:=hI
 unfold pyNext
 refine fu (CB (Bk (name:=Str.ofString "__next__") hT aS (A3 aS hT dS ?_ (eI _))))
 unfold Builtin.«set_iterator.__next__»
 refine fu (Ae ?_)
 refine fu (wpAny_fieldsOf e d ?_)
 dsimp only [rawInt]
 refine fu (bS b ?_)
 rw [if_neg (by simp)]
 exact D3 h (fun f s' q=>by obtain ⟨v,e,q⟩:=q;exact ⟨v,e,Ae q⟩) fun _ _ q=>q
theorem lX {I S pl:Addr}{i ep:Nat}{es:Array (Int × Value)}{t:SetTable}{Q:Option Value→Shared→Prop}(hI:Sit s.heap I (.ref pl) i S es.size ep)(b:Sob s.heap S es ep t)
  (h:wpAny (model prog w) A.in1 (do
    let some places ← seqItems? (.ref pl) | unsupported "internal:set_iterator"
    match places[i]? with
    | some (.int place _) =>
     let x ← setNextDrawn S place.toNat ep
     setField (.ref I) 1 (rawInt ((i:Int)+1))
     ret x
    | some _=>unsupported "internal:set_iterator"
    | none=>setField (.ref I) 0 (rawInt 0);setField (.ref I) 2 .none;raiseNew (← newExc (.type "StopIteration") []))
   (fun f s'=>∃ v,f = .done (.ret v)∧Q (some v) s') (fun e s'=>wpAny (model prog w) A (do if ← isInstance e (.type "StopIteration") then return none else throw e) Q E s') s) :
  wpAny (model prog w) A (pyNext (.ref I)) Q E s:=by
 have hT:=hI.ty
 obtain ⟨o,e,c,d⟩:=hI
 unfold pyNext
 refine fu (CB (Bk (name:=Str.ofString "__next__") hT aS (A3 aS hT dS ?_ (eI _))))
 unfold Builtin.«set_iterator.__next__»
 refine fu (Ae ?_)
 refine fu (wpAny_fieldsOf e d ?_)
 dsimp only [rawInt]
 refine fu (bS b ?_)
 rw [if_neg (by simp)]
 exact D3 h (fun f s' q=>by obtain ⟨v,e,q⟩:=q;exact ⟨v,e,Ae q⟩) fun _ _ q=>q
theorem jR {src:Source}{n:Nat}{Q:Nat→Shared→Prop}(hn:n≠0)(q:∀ d,d < n→∀ dr,Q d { s with drawn:=dr }):wpAny (model prog w) A (choose src n) Q E s:=fun _ _ _=>by
 show Sem.wp _ _ (Sem.choose src n Sem.pure) _ _ _ _
 rw [Sem.wp_choose]
 exact ⟨hn,by rw [Sem.wp_pure];exact q _ (Nat.mod_lt _ (by omega)) _⟩
theorem iq {α:Type}{xs:List α}{i:Nat}{x:α}(h:xs[i]? = some x):(x::xs.eraseIdx i).Perm xs:=by
 obtain ⟨hi,e⟩:=Ah.mp h
 rw [List.eraseIdx_eq_take_drop_succ]
 have:xs=xs.take i++x::xs.drop (i+1):=by
  conv=>lhs;rw [← AD i xs]
  rw [BQ hi,e]
 conv=>rhs;rw [this]
 exact List.perm_middle.symm
theorem cn {α:Type}:∀ (n:Nat) (xs:List α) (s:Shared) (Q:List α→Shared→Prop),xs.length=n→(∀ ys dr,ys.Perm xs→Q ys { s with drawn:=dr })→wpAny (model prog w) A (drawOrder n xs) Q E s
 | 0,xs,s,Q,h,q=>by
  unfold drawOrder
  have:=q [] s.drawn (by rw [BK.mp h])
  exact Ae this
 | n+1,[],s,Q,h,q=>by simp at h
 | n+1,x::xs,s,Q,h,q=>by
  unfold drawOrder
  refine fu (jR (by simp) fun d hd dr=>?_)
  have e:=Ac hd
  rw [e]
  dsimp only
  refine fu (cn n _ _ _ (by rw [List.length_eraseIdx,if_pos hd];simp at h ⊢;omega) fun ys dr2 hp=>Ae ?_)
  exact q _ dr2 ((List.Perm.cons _ hp).trans (iq e))
theorem oY {α:Type}(nx:Nat→Nat):∀ (n k:Nat) (l:List α) (o:Array α),l.length=n→(pickOrder.go nx n k l o).toList.Perm (o.toList++l)
 | 0,k,l,o,h=>by
  rw [BK.mp h,List.append_nil]
  exact Cs _
 | n+1,k,l,o,h=>by
  unfold pickOrder.go
  have hlt:nx k % l.length < l.length:=Nat.mod_lt _ (by omega)
  have e:=Ac hlt
  rw [e]
  dsimp only
  refine (oY nx n (k+1) _ _ (by rw [List.length_eraseIdx,if_pos hlt];omega)).trans ?_
  rw [BN,Am]
  exact BE _ (iq e)
theorem cI {α:Type}(nx:Nat→Nat)(xs:Array α):(pickOrder nx xs).toList.Perm xs.toList:=by
 have:=oY nx xs.size 0 xs.toList #[] (by simp)
 rw [List.nil_append] at this
 exact this
theorem Sit.step {h:Heap}{I:Addr}{first first':Value}{i:Nat}{S:Addr}{n ep:Nat}(x:Sit h I first i S n ep) :
  Sit ((h.update I (Obj.mapFields (·.setIfInBounds 0 first'))).update I (Obj.mapFields (·.setIfInBounds 1 (rawInt ((i:Int)+1))))) I first' (i+1) S n ep:=by
 obtain ⟨o,e,c,d⟩:=x
 have e1:=A7 (Obj.mapFields (·.setIfInBounds 0 first')) e (B6 (Bp d _))
 have d1:=Bp d (·.setIfInBounds 0 first')
 have e2:=A7 (Obj.mapFields (·.setIfInBounds 1 (rawInt ((i:Int)+1)))) e1 (B6 (Bp d1 _))
 exact ⟨_,e2,(DC ..).trans ((DC ..).trans c),by rw [Bp d1];simp [rawInt]⟩
theorem Sit.step1 {h:Heap}{I:Addr}{first:Value}{i:Nat}{S:Addr}{n ep:Nat}(x:Sit h I first i S n ep) :
  Sit (h.update I (Obj.mapFields (·.setIfInBounds 1 (rawInt ((i:Int)+1))))) I first (i+1) S n ep:=by
 obtain ⟨o,e,c,d⟩:=x
 have e2:=A7 (Obj.mapFields (·.setIfInBounds 1 (rawInt ((i:Int)+1)))) e (B6 (Bp d _))
 exact ⟨_,e2,(DC ..).trans c,by rw [Bp d];simp [rawInt]⟩
theorem kC {I:Addr}{first first':Value}{i:Nat}{S:Addr}{n ep:Nat}{x:Value}{Q:Fin→Shared→Prop}(g:Sit s.heap I first i S n ep)
  (q:∀ h',Sit h' I first' (i+1) S n ep→(∀ b o,b∉[I]→s.heap.get? b=some o→h'.get? b=some o)→Q (.done (.ret x)) { s with heap:=h' }) :
  wpAny (model prog w) A (do setField (.ref I) 0 first';setField (.ref I) 1 (rawInt ((i:Int)+1));ret x) Q E s:=by
 have g2:=g.step (first':=first')
 obtain ⟨o,e,c,d⟩:=g
 refine fu (CI e d (by simp) ?_)
 have e1:=A7 (Obj.mapFields (·.setIfInBounds 0 first')) e (B6 (Bp d _))
 have d1:=Bp d (·.setIfInBounds 0 first')
 refine fu (CI e1 d1 (by simp) (Ae (q _ g2 fun b o hb eb=>?_)))
 have:I≠b:=fun z=>hb (by simp [z])
 exact (AZ _ _ this).trans ((AZ _ _ this).trans eb)
theorem ux {I:Addr}{first:Value}{i:Nat}{S:Addr}{n ep:Nat}{x:Value}{Q:Fin→Shared→Prop}(g:Sit s.heap I first i S n ep)
  (q:∀ h',Sit h' I first (i+1) S n ep→(∀ b o,b∉[I]→s.heap.get? b=some o→h'.get? b=some o)→Q (.done (.ret x)) { s with heap:=h' }) :
  wpAny (model prog w) A (do setField (.ref I) 1 (rawInt ((i:Int)+1));ret x) Q E s:=by
 have g2:=g.step1
 obtain ⟨o,e,c,d⟩:=g
 refine fu (CI e d (by simp) (Ae (q _ g2 fun b o hb eb=>?_)))
 have:I≠b:=fun z=>hb (by simp [z])
 exact (AZ _ _ this).trans eb
theorem lY {I:Addr}{h1:Heap}{Q:Option Value→Shared→Prop}{R:Fin→Shared→Prop}(hh:A.handled=none)(k:∀ b o,b∉[I]→s.heap.get? b=some o→h1.get? b=some o)
  (q:∀ h',(∀ b o,b∉[I]→s.heap.get? b=some o→h'.get? b=some o)→Q none { s with heap:=h' }) :
  wpAny (model prog w) A.in1 (do raiseNew (← newExc (.type "StopIteration") [])) R (fun e s'=>wpAny (model prog w) A (do if ← isInstance e (.type "StopIteration") then return none else throw e) Q E s') { s with heap:=h1 }:=by
 refine fu ?_
 simp only [newExc,newTuple]
 refine fu (Bh ?_ (by size_fits))
 refine fu (m:=firstArgMember _ _) (D7 (a:=Value.none) (by first | rfl | (simp only [firstArgMember];rfl)) ?_)
 refine Bh ?_ (by size_fits)
 simp only [raiseNew]
 refine fu (wpAny_handled ?_)
 rw [show A.in1.handled=none from hh]
 refine fu (Ae (wpAny_throw ?_))
 refine fu (C7 (T:="StopIteration") (b:=true) ⟨_,Ak _ rfl,rfl⟩ D5 ?_)
 exact Ae (q _ fun b o hb e=>Ab _ (Ab _ (k b o hb e)))
theorem kD {I:Addr}{first:Value}{i:Nat}{S:Addr}{n ep:Nat}{Q:Option Value→Shared→Prop}{R:Fin→Shared→Prop}(hh:A.handled=none)(g:Sit s.heap I first i S n ep)
  (q:∀ h',(∀ b o,b∉[I]→s.heap.get? b=some o→h'.get? b=some o)→Q none { s with heap:=h' }) :
  wpAny (model prog w) A.in1 (do setField (.ref I) 2 .none;raiseNew (← newExc (.type "StopIteration") [])) R (fun e s'=>wpAny (model prog w) A (do if ← isInstance e (.type "StopIteration") then return none else throw e) Q E s') s:=by
 obtain ⟨o,e,c,d⟩:=g
 refine fu (CI e d (by simp) ?_)
 refine lY (s:=s) (I:=I) hh (fun b o hb eb=>?_) q
 have:I≠b:=fun z=>hb (by simp [z])
 exact (AZ _ _ this).trans eb
theorem uy {I:Addr}{first:Value}{i:Nat}{S:Addr}{n ep:Nat}{Q:Option Value→Shared→Prop}{R:Fin→Shared→Prop}(hh:A.handled=none)(g:Sit s.heap I first i S n ep)
  (q:∀ h',(∀ b o,b∉[I]→s.heap.get? b=some o→h'.get? b=some o)→Q none { s with heap:=h' }) :
  wpAny (model prog w) A.in1 (do setField (.ref I) 0 (rawInt 0);setField (.ref I) 2 .none;raiseNew (← newExc (.type "StopIteration") [])) R (fun e s'=>wpAny (model prog w) A (do if ← isInstance e (.type "StopIteration") then return none else throw e) Q E s') s:=by
 obtain ⟨o,e,c,d⟩:=g
 refine fu (CI e d (by simp) ?_)
 have e1:=A7 (Obj.mapFields (·.setIfInBounds 0 (rawInt 0))) e (B6 (Bp d _))
 have d1:=Bp d (·.setIfInBounds 0 (rawInt 0))
 refine fu (CI e1 d1 (by simp) ?_)
 refine lY (s:=s) (I:=I) hh (fun b o hb eb=>?_) q
 have:I≠b:=fun z=>hb (by simp [z])
 exact (AZ _ _ this).trans ((AZ _ _ this).trans eb)
theorem dw {S:Addr}{sl i ep:Nat}{es:Array (Int × Value)}{t:SetTable}{Q:Option (Value × Nat)→Shared→Prop}(bt:w.params.followText "set-order" = true)(b:Sob s.heap S es ep t)
  (q:Q (((pickOrder (w.params.setOrder S ep) es)[i]?).map fun e=>(e.2,sl)) s):wpAny (model prog w) A (setNext S sl i ep) Q E s:=by
 unfold setNext
 refine fu (aU b ?_)
 refine fu (bG ?_)
 rw [bt]
 simp only [BX,DE,Ar,Bl]
 unfold setWalk
 refine fu (fu (aU b ?_))
 refine fu (bG ?_)
 rw [bt]
 simp only [BX]
 exact fu (DQ (Ae (Ae q)))
theorem bT:entryFor table "set_iterator.__iter__" = some Builtin.«dict_keyiterator.__iter__» :=
 entryFor_alias (id':="dict_keyiterator.__iter__") (by kernel_rfl) rfl (by decide +kernel) (by kernel_rfl)
theorem b_ (a:Value):argsOk "set_iterator.__iter__" ⟨[a],[]⟩:=by unfold argsOk; kernel_rfl
theorem jS (hh:A.handled=none)(bt:w.params.followText "set-order" = true){I S:Addr}(hne:S≠I){es:Array (Int × Value)}{ep:Nat}{t:SetTable} :
  Walks prog w A I [I,S] [I] es.size (fun i v=>((pickOrder (w.params.setOrder S ep) es).toList.map (·.2))[i]? = some v) (fun i h=>Sit h I (rawInt (0:Nat)) i S es.size ep∧Sob h S es ep t) where
 sub:=fun b hb=>by rw [Af.mp hb];exact Av
 frame:=fun i h h' st k=>⟨st.1.at (k I Av),st.2.at (k S (by simp))⟩
 item:=fun i s Q E hi st q=>by
  have lz:(pickOrder (w.params.setOrder S ep) es).size=es.size:=by
   have:=(cI (w.params.setOrder S ep) es).length_eq
   rwa [Ai,Ai] at this
  have e:=Bx (pickOrder (w.params.setOrder S ep) es) i (by omega)
  refine dI st.1 st.2 (fu (dw bt st.2 ?_))
  rw [e]
  refine kC (first':=rawInt (0:Nat)) st.1 fun h' g k=>⟨_,rfl,q _ h' s.toks ?_ ⟨g,st.2.at fun o eo=>k S o (by simp [hne]) eo⟩ k⟩
  rw [Ap,AN,e]
  rfl
 done:=fun s Q E st q=>by
  have lz:(pickOrder (w.params.setOrder S ep) es).size=es.size:=by
   have:=(cI (w.params.setOrder S ep) es).length_eq
   rwa [Ai,Ai] at this
  have e:=Dp (pickOrder (w.params.setOrder S ep) es) es.size (by omega)
  refine dI st.1 st.2 (fu (dw bt st.2 ?_))
  rw [e]
  exact kD hh st.1 fun h' k=>q h' s.toks k
 self:=fun i s Q E st q=>by
  refine Cd st.1.ty bc (A3 bc st.1.ty bT ?_ (b_ _))
  exact Ae ⟨_,rfl,"set_iterator",_,st.1.ty,aS.lookup,q⟩
def Plc (h:Heap)(pl:Addr)(ps:List Nat):Prop:=∃ o,h.get? pl=some o∧o.cls = .type "tuple"∧o.data = .seq (ps.map fun (i:Nat)=>rawInt i).toArray 0
theorem Plc.at {h h':Heap}{pl:Addr}{ps:List Nat}(x:Plc h pl ps)(k:∀ o,h.get? pl=some o→h'.get? pl=some o):Plc h' pl ps:=let ⟨o,e,r⟩:=x; ⟨o,k o e,r⟩
theorem fC {S:Addr}{pl ep:Nat}{es:Array (Int × Value)}{t:SetTable}{x:Int × Value}{Q:Value→Shared→Prop}(b:Sob s.heap S es ep t)(e:es[pl]? = some x)
  (q:Q x.2 s):wpAny (model prog w) A (setNextDrawn S pl ep) Q E s:=by
 unfold setNextDrawn
 refine fu (aU b ?_)
 dsimp only
 rw [if_neg (by simp),e]
 exact Ae q
theorem fz {pl:Addr}{ps:List Nat}{Q:Option (Array Value)→Shared→Prop}(p:Plc s.heap pl ps)(q:Q (some (ps.map fun (i:Nat)=>rawInt i).toArray) s):wpAny (model prog w) A (seqItems? (.ref pl)) Q E s:=by
 obtain ⟨o,e,c,d⟩:=p
 unfold seqItems?
 refine fu (wpAny_load e ?_)
 rw [d]
 exact Ae q
def vat (es:Array (Int × Value))(p:Nat):Value:=((es[p]?).map (·.2)).getD .none
theorem ir (hh:A.handled=none){I S pl:Addr}(hne:S≠I)(hnp:pl≠I){es:Array (Int × Value)}{ep:Nat}{t:SetTable}{ps:List Nat}(hp:ps.Perm (List.range es.size)) :
  Walks prog w A I [I,S,pl] [I] es.size (fun i v=>(ps.map (vat es))[i]? = some v) (fun i h=>Sit h I (.ref pl) i S es.size ep∧Sob h S es ep t∧Plc h pl ps) where
 sub:=fun b hb=>by rw [Af.mp hb];exact Av
 frame:=fun i h h' st k=>⟨st.1.at (k I Av),st.2.1.at (k S (by simp)),st.2.2.at (k pl (by simp))⟩
 item:=fun i s Q E hi st q=>by
  have lz:ps.length=es.size:=by rw [hp.length_eq,BO]
  have e:=Ac (l:=ps) (i:=i) (by omega)
  have hm:ps[i] < es.size:=Dw.mp (hp.mem_iff.mp (AS _))
  have e2:=Bx es ps[i] hm
  refine lX st.1 st.2.1 (fu (fz st.2.2 ?_))
  dsimp only
  rw [BR,Ap,e]
  dsimp only [rawInt,Option.map]
  refine fu (fC (x:=es[ps[i]]) st.2.1 (by simpa using e2) ?_)
  refine ux st.1 fun h' g k=>⟨_,rfl,q _ h' s.toks ?_ ⟨g,st.2.1.at fun o eo=>k S o (by simp [hne]) eo,st.2.2.at fun o eo=>k pl o (by simp [hnp]) eo⟩ k⟩
  rw [Ap,e]
  unfold vat
  dsimp only [Option.map]
  rw [e2]
  rfl
 done:=fun s Q E st q=>by
  have lz:ps.length=es.size:=by rw [hp.length_eq,BO]
  have e:=BS (l:=ps) (i:=es.size) (by omega)
  refine lX st.1 st.2.1 (fu (fz st.2.2 ?_))
  dsimp only
  rw [BR,Ap,e]
  exact uy hh st.1 fun h' k=>q h' s.toks k
 self:=fun i s Q E st q=>by
  refine Cd st.1.ty bc (A3 bc st.1.ty bT ?_ (b_ _))
  exact Ae ⟨_,rfl,"set_iterator",_,st.1.ty,aS.lookup,q⟩
def sitAt (t:SetTable)(i:Nat):Nat:=if i=0 then 0 else t.place.getD 0 0+1
theorem dU {S:Addr}{sl i ep:Nat}{es:Array (Int × Value)}{t:SetTable}{Q:Option (Value × Nat)→Shared→Prop}(bt:w.params.followText "set-order" = false)(b:Sob s.heap S es ep t)(h1:es.size≤1)(hl:t.led=true)
  (q:Q (match es[SetTable.below t.place sl]?,t.place[SetTable.below t.place sl]? with | some (_,x),some j=>some (x,j+1) | _,_=>none) s):wpAny (model prog w) A (setNext S sl i ep) Q E s:=by
 unfold setNext
 refine fu (aU b ?_)
 refine fu (bG ?_)
 rw [bt]
 simp only [Ar,Bl]
 refine BL (fun hab=>absurd hab ?_) fun _=>?_
 ·show ¬ ((!t.plain && decide (es.size > 1))=true)
  rw [AF (by omega),Ds]
  exact Dn
 refine fu ?_
 show wpAny _ _ (if (!t.led && !es.isEmpty)=true then unsupported "set:maker-not-led" else pure ()) _ _ _
 rw [hl,if_neg (by simp)]
 exact Ae (Ae q)
theorem rq (hh:A.handled=none)(bt:w.params.followText "set-order" = false){I S:Addr}(hne:S≠I){es:Array (Int × Value)}{ep:Nat}{t:SetTable}(h1:es.size≤1)(hl:t.led=true) :
  Walks prog w A I [I,S] [I] es.size (fun i v=>(es.toList.map (·.2))[i]? = some v) (fun i h=>Sit h I (rawInt (sitAt t i:Nat)) i S es.size ep∧Sob h S es ep t) where
 sub:=fun b hb=>by rw [Af.mp hb];exact Av
 frame:=fun i h h' st k=>⟨st.1.at (k I Av),st.2.at (k S (by simp))⟩
 item:=fun i s Q E hi st q=>by
  have i0:i=0:=by omega
  subst i0
  have pz:t.place.size=1:=by
   have:=st.2.ft
   unfold SetTable.fits at this
   simp at this
   omega
  obtain ⟨p,ep'⟩:∃ p,t.place=#[p]:=⟨t.place[0],by apply Array.ext;simp [pz];intro i h1 h2;simp at h2;subst h2;rfl⟩
  have e:=Bx es 0 hi
  refine dI st.1 st.2 (fu (dU bt st.2 h1 hl ?_))
  have bl:SetTable.below t.place (sitAt t 0)=0:=by
   rw [ep']
   simp [sitAt,SetTable.below,SetTable.below.go]
  generalize es[0]=y at e ⊢
  obtain ⟨c,x⟩:=y
  rw [bl,e,ep']
  refine kC (first':=rawInt ((p+1:Nat):Int)) st.1 fun h' g k=>⟨_,rfl,q _ h' s.toks ?_ ⟨?_,st.2.at fun o eo=>k S o (by simp [hne]) eo⟩ k⟩
  ·rw [Ap,AN,e]
   rfl
  ·have:sitAt t (0+1)=p+1:=by rw [sitAt,ep'];rfl
   rw [this]
   exact g
 done:=fun s Q E st q=>by
  refine dI st.1 st.2 (fu (dU bt st.2 h1 hl ?_))
  have pz:t.place.size=es.size:=by
   have:=st.2.ft
   unfold SetTable.fits at this
   simp at this
   omega
  have bl:SetTable.below t.place (sitAt t es.size)=es.size:=by
   by_cases z:es.size=0
   ·rw [z] at pz ⊢
    have:t.place=#[]:=Array.size_eq_zero_iff.mp pz
    rw [this]
    rfl
   ·have z1:es.size=1:=by omega
    rw [z1] at pz ⊢
    obtain ⟨p,ep'⟩:∃ p,t.place=#[p]:=⟨t.place[0],by apply Array.ext;simp [pz];intro i h1 h2;simp at h2;subst h2;rfl⟩
    rw [ep']
    simp [sitAt,SetTable.below,SetTable.below.go,ep']
  rw [bl,Dp es es.size (by omega)]
  exact kD hh st.1 fun h' k=>q h' s.toks k
 self:=fun i s Q E st q=>by
  refine Cd st.1.ty bc (A3 bc st.1.ty bT ?_ (b_ _))
  exact Ae ⟨_,rfl,"set_iterator",_,st.1.ty,aS.lookup,q⟩
theorem jT (es:Array (Int × Value)):(List.range es.size).map (vat es)=es.toList.map (·.2):=by
 apply List.ext_getElem
 ·simp
 ·intro i h1 h2
  rw [Ag,BO] at h1
  rw [DR,DR,List.getElem_range]
  unfold vat
  rw [Bx es i h1]
  rfl
theorem rz {S:Addr}{es:Array (Int × Value)}{ep:Nat}{t:SetTable}{Q:Value→Shared→Prop}(b:Sob s.heap S es ep t)(hl:t.led=ldr w)(hpl:1 < es.size→t.plain=false)(hz:es.size≤sizeLine)
  (q:∀ (I:Addr) (fp:List Addr) (h':Heap) dr (vs:List Value) (St:Nat→Heap→Prop),
   (∀ A':Around,A'.handled=none→Walks prog w A' I fp [I] es.size (fun i v=>vs[i]? = some v) St)→St 0 h'→vs.Perm (es.toList.map (·.2))→(∀ b∈fp,b=S ∨ s.heap.objs.size≤b)→s.heap.objs.size≤I→I < h'.objs.size →
   (∀ b o,s.heap.get? b=some o→h'.get? b=some o)→Q (.ref I) { s with heap:=h',drawn:=dr }):wpAny (model prog w) A (pyIter (.ref S)) Q E s:=by
 obtain ⟨o,e,x,d⟩:=b.ex
 have hT:s.TypeIs (.ref S) "set":=⟨o,e,x.1⟩
 have lt:=Ay e
 refine Cd hT Dh (A3 Dh hT dv ?_ (F.args_set_iter_1 _))
 unfold Builtin.«frozenset.__iter__»
 refine fu (m:=Builtin.Frozenset.slot0 _ _) (D7 (a:=S) rfl ?_)
 refine fu (m:=Builtin.Frozenset.sizeOf S) ?_
 unfold Builtin.Frozenset.sizeOf
 refine fu (bS b (Ae ?_))
 refine fu (m:=setDrawn S) ?_
 unfold setDrawn
 refine fu (aU b (fu (bG (Ae ?_))))
 cases bt:w.params.followText "set-order" with
 | true =>
  simp only [CC,CJ,Ar,Bl]
  refine fu (Ae ?_)
  refine fu (m:=setEpoch S) ?_
  unfold setEpoch
  refine fu (aU b (Ae ?_))
  refine fu (Bh ?_)
  refine Ae ⟨_,rfl,"set_iterator",_,⟨_,Ak _ rfl,rfl⟩,aS.lookup,?_⟩
  have lz:(pickOrder (w.params.setOrder S ep) es).toList.length=es.toList.length:=(cI _ es).length_eq
  refine q s.heap.objs.size [s.heap.objs.size,S] _ s.drawn _ _ (fun A' hh=>jS (t:=t) hh bt (AK lt)) ⟨⟨_,Ak _ rfl,rfl,rfl⟩,b.at fun o eo=>Ab _ eo⟩ ((cI _ es).map _) (fun c hc=>?_) (Al _) (by rw [AV];exact Ba _) fun c o eo=>Ab _ eo
  rcases Aw.mp hc with h | h
  ·exact .inr (by rw [h];exact Al _)
  ·exact .inl (Af.mp h)
 | false =>
  have ld:t.led=true:=by rw [hl];unfold ldr;rw [bt];rfl
  by_cases dr:(!t.plain && decide (es.size > 1))=true
  ·refine BL (fun _=>?_) fun no=>absurd (show (!false && (!t.plain && decide (es.size > 1)))=true by rw [dr];rfl) no
   refine fu (cn _ _ _ _ (BO) fun ps dr2 hp=>?_)
   have lp:ps.length=es.size:=by rw [hp.length_eq,BO]
   refine fu (Bh ?_ (by show (ps.map fun (i:Nat)=>rawInt i).toArray.size≤_;simp [lp];exact hz))
   refine fu (m:=setEpoch S) ?_
   unfold setEpoch
   refine fu (aU (b.at fun o eo=>Ab _ eo) (Ae ?_))
   refine fu (Bh ?_)
   refine Ae ⟨_,rfl,"set_iterator",_,⟨_,Ak _ rfl,rfl⟩,aS.lookup,?_⟩
   have z1:(s.heap.push { cls:=.type "tuple",data:=.seq (ps.map fun (i:Nat)=>rawInt i).toArray }:Heap).objs.size=s.heap.objs.size+1:=AV ..
   rw [z1]
   refine q (s.heap.objs.size+1) [s.heap.objs.size+1,S,s.heap.objs.size] _ dr2 _ _ (fun A' hh=>ir (t:=t) (ep:=ep) hh (AK (Bg lt)) (AK (Ba _)) hp) ⟨?_,?_,?_⟩ ?_ (fun c hc=>?_) (BV _) ?_ fun c o eo=>Ab _ (Ab _ eo)
   ·have g0:=Ak (s.heap.push { cls:=.type "tuple",data:=.seq (ps.map fun (i:Nat)=>rawInt i).toArray }) (o:={ cls:=.type "set_iterator",data:=.fields #[.ref s.heap.objs.size,rawInt (0:Nat),.ref S,rawInt es.size,rawInt ep] }) rfl
    rw [z1] at g0
    exact ⟨_,g0,rfl,rfl⟩
   ·exact b.at fun o eo=>Ab _ (Ab _ eo)
   ·exact ⟨_,Ab _ (Ak _ rfl),rfl,rfl⟩
   ·rw [← jT]
    exact hp.map _
   ·simp only [Aw,AE,BI] at hc
    rcases hc with h | h | h
    ·exact .inr (by rw [h];exact BV _)
    ·exact .inl h
    ·exact .inr (by rw [h];exact Al _)
   ·rw [AV,z1]
    exact Ba _
  ·refine BL (fun yes=>absurd (show (!t.plain && decide (es.size > 1))=true from yes) dr) fun _=>?_
   have h1:es.size≤1:=by
    rcases Nat.lt_or_ge 1 es.size with h | h
    ·exact absurd (by rw [hpl h,An h];rfl) dr
    ·exact h
   refine fu (Ae ?_)
   refine fu (m:=setEpoch S) ?_
   unfold setEpoch
   refine fu (aU b (Ae ?_))
   refine fu (Bh ?_)
   refine Ae ⟨_,rfl,"set_iterator",_,⟨_,Ak _ rfl,rfl⟩,aS.lookup,?_⟩
   refine q s.heap.objs.size [s.heap.objs.size,S] _ s.drawn _ _ (fun A' hh=>rq (t:=t) (ep:=ep) hh bt (AK lt) h1 ld) ⟨⟨_,Ak _ rfl,rfl,rfl⟩,b.at fun o eo=>Ab _ eo⟩ (Cs _) (fun c hc=>?_) (Al _) (by rw [AV];exact Ba _) fun c o eo=>Ab _ eo
   rcases Aw.mp hc with h | h
   ·exact .inr (by rw [h];exact Al _)
   ·exact .inl (Af.mp h)
theorem lZ {S:Addr}{Q:Bool→Shared→Prop}(hT:s.TypeIs (.ref S) "set")(q:Q false s):wpAny (model prog w) A (Builtin.List.listLengthHint (.ref S)) Q E s:=by
 unfold Builtin.List.listLengthHint
 refine fu (wpAny_specialOf hT F.slot_set_len.lookup ?_)
 generalize hid:("set.__len__":String)=id0
 wp_delta
 rw [show splitId id0=some ("set","__len__") from by subst hid;decide +kernel]
 subst hid
 refine fu (C7 (T:="set") (b:=true) hT (by rw [D6];kernel_rfl) ?_)
 refine BL (fun no=>absurd no (by decide)) fun _=>?_
 refine BL (fun _=>?_) fun no=>absurd (by decide +kernel) no
 refine fu (Do hT ?_)
 exact Ae q
theorem mT {R:Result→Shared→Prop}{S L:Addr}{es:Array (Int × Value)}{ep c0:Nat}{t:SetTable}(hh:A.handled=none)(b:Sob s.heap S es ep t)(hl:t.led=ldr w)(hpl:1 < es.size→t.plain=false)(hz:es.size≤sizeLine)(res:Value)
  (hL:s.heap.get? L=some { cls:=.type "list",data:=.seq #[] c0 })
  (hR:∀ h' dr tk (vs:List Value) acc c',(∀ b o,b≠L→s.heap.get? b=some o→h'.get? b=some o)→h'.get? L=some { cls:=.type "list",dict:=none,data:=.seq acc c',slots:=#[] }→vs.Perm (es.toList.map (·.2)) →
   ItemsOf (fun i v=>vs[i]? = some v) acc es.size→R (.ok (.ret res)) { s with heap:=h',drawn:=dr,toks:=tk }) :
  wpAny (model prog w) A.in1 (Builtin.List.listExtendWith (.ref L) (.ref S) res)
   (fun fin s'=>match fin with | .done f=>R (.ok f) s' | .again c'=>c'.quiet=true∧codeAny (model prog w) A c' R s') (fun e s'=>R (.error e) s') s:=by
 obtain ⟨o,e,x,d⟩:=b.ex
 have hT:s.TypeIs (.ref S) "set":=⟨o,e,x.1⟩
 have nLS:L≠S:=fun z=>by
  rw [z,e] at hL
  have:=A9 hL
  rw [this] at d
  cases d
 have lL:=Ay hL
 unfold Builtin.List.listExtendWith
 refine fu (Do hT ?_)
 have n1:Builtin.List.listSameRef (.ref L) (.ref S)=false:=by simp [Builtin.List.listSameRef,nLS]
 have n2:(Value.type "set" == Value.type "list")=false:=by decide
 have n3:(Value.type "set" == Value.type "tuple")=false:=by decide
 simp only [n1,n2,n3,Bool.or_false,Ar,Bl]
 refine fu (rz b hl hpl hz fun I fp h' dr vs St W st0 pm hfp gI lI k=>?_)
 have nf:L∉fp:=fun hm=>by
  rcases hfp L hm with z | z
  ·exact nLS z
  ·exact absurd lL (De.mpr z)
 have nI:L≠I:=AK (BU lL gI)
 have WS:=(W A.in1 hh).toS
 have go:∀ (h2:Heap) (c1 tk:Nat),St 0 h2→(∀ b o,b≠L→h'.get? b=some o→h2.get? b=some o)→h2.get? L=some { cls:=.type "list",data:=.seq #[] c1 } →
   codeAny (model prog w) A (.builtin "list.extend.loop" ⟨[.ref L,.ref I,res],[]⟩) R { s with heap:=h2,drawn:=dr,toks:=tk }:=fun h2 c1 tk st2 k2 hL2=>by
  refine codeAny_extend_loopS WS hz L nf res es.size 0 _ #[] c1 (by omega) (BF _) st2 hL2 (ItemsOf.nil _) fun s2 acc c2 mv hL3 hI=>?_
  rw [Moved.eq_with mv]
  refine hR s2.heap dr s2.toks vs acc c2 (fun b o hb eb=>mv.heap b o (fun hm=>?_) (k2 b o hb (k b o eb))) hL3 pm hI
  rcases Aw.mp hm with z | z
  ·exact hb z
  ·rw [Af.mp z] at eb
   exact absurd (Ay eb) (De.mpr gI)
 have hL1:=k L _ hL
 have hT1:Shared.TypeIs { s with heap:=h',drawn:=dr } (.ref S) "set":=⟨o,k S o e,x.1⟩
 refine fu (A5 (lZ hT1 ?_))
 refine BL (fun _=>?_) fun _=>Ae ⟨B5 CO _,go h' c0 _ st0 (fun _ _ _ eb=>eb) hL1⟩
 refine fu (Bm ?_)
 refine fu ?_
 show wpAny _ _ (updateSeq L (·.push .none) >>= fun _=>updateSeq L (·.pop)) _ _ _
 refine fu (Di hL1 rfl ?_)
 have hL2:=A7 (Obj.mapSeq (·.push Value.none)) hL1 rfl
 refine Di (hz:=by seq_fits) hL2 rfl ?_
 have hL3:=A7 (Obj.mapSeq (·.pop)) hL2 rfl
 have up:∀ b o,b≠L→h'.get? b=some o→((h'.update L (Obj.mapSeq (·.push Value.none))).update L (Obj.mapSeq (·.pop))).get? b=some o:=fun b o hb eb =>
  (AZ _ _ (Ne.symm hb)).trans ((AZ _ _ (Ne.symm hb)).trans eb)
 exact Ae ⟨B5 CO _,go _ _ _ ((W A.in1 hh).frame 0 h' _ st0 fun b hb o eb=>up b o (fun z=>nf (z ▸ hb)) eb) up hL3⟩
end
end PySem
namespace Ts
open PySem PyProof.Rows
theorem aI {σ:Type}{M:Model}{A:Around}{E:Value→Shared→Prop}{s:Shared}{α:Type}{c:Prop}[Decidable c]{x y:StateT σ Sem α}{Q:α→σ→Prop}{st:σ}(h:c)(p:wpS M A E s x Q st):wpS M A E s (if c then x else y) Q st:=by
 rw [if_pos h];exact p
theorem aJ {σ:Type}{M:Model}{A:Around}{E:Value→Shared→Prop}{s:Shared}{α:Type}{c:Prop}[Decidable c]{x y:StateT σ Sem α}{Q:α→σ→Prop}{st:σ}(h:¬ c)(p:wpS M A E s y Q st):wpS M A E s (if c then x else y) Q st:=by
 rw [if_neg h];exact p
def kof (κ:KeyKind)(p:Keyed):κ.α:=(κ.keyOf p.1).getD κ.dflt
def Gd (κ:KeyKind)(p:Keyed):Prop:=∃ a,κ.keyOf p.1=some a
theorem Gd.eq {κ:KeyKind}{p:Keyed}(h:Gd κ p):κ.keyOf p.1=some (kof κ p):=by
 obtain ⟨a,e⟩:=h
 unfold kof
 rw [e]
 rfl
structure TB (st:SortSt):Prop where
 kind:kindOf st=oneType'
 failed:failedOf st=none
def gal:Bool→Keyed→Array Keyed→Nat→Nat→Nat→StateT SortSt Sem (Option Nat):=sortPriv% PySem.Builtin.gallop
def gbd (lf:Bool)(key:Keyed)(arr:Array Keyed)(b i:Nat):StateT SortSt Sem (Option Bool):=do
 let it ← elem' arr (b+i)
 if lf then lt' it key else return (← lt' key it).map (!·)
def xt (lf:Bool)(key:Keyed)(arr:Array Keyed)(b n d0 u0:Nat):StateT SortSt Sem (Option Nat):=do
 let mut dn:=d0
 let mut up:=u0
 for _ in [0:n] do
  if dn≥up then break
  let md:=dn+(up - dn) / 2
  let some mr ← gbd lf key arr b md | return none
  if mr then dn:=md+1 else up:=md
 return some up
theorem wm (lf:Bool)(key:Keyed)(arr:Array Keyed)(b n h:Nat):gal lf key arr b n h=(do
 let mut la:=0
 let mut of:=1
 let some rt ← gbd lf key arr b h | return none
 if rt then
  for _ in [0:n] do
   if of≥n - h then break
   let some mr ← gbd lf key arr b (h+of) | return none
   if !mr then break
   la:=of
   of:=2*of+1
  xt lf key arr b n (h+la+1) (h+min of (n - h))
 else
  for _ in [0:n] do
   if of≥h+1 then break
   let some fd ← gbd lf key arr b (h - of) | return none
   if fd then break
   la:=of
   of:=2*of+1
  xt lf key arr b n (h+1 - min of (h+1)) (h - la)):=rfl
section
variable {prog:Program} {w:World} {A:Around} {E:Value→Shared→Prop} {s:Shared} {κ:KeyKind}
theorem l_ {st:SortSt}{x y:Keyed}{Q:Option Bool→SortSt→Prop}(hO:κ.OneLt)(hB:TB st)(hx:Gd κ x)(hy:Gd κ y)(h:Q (some (κ.blt (kof κ x) (kof κ y))) st):wpS (model prog w) A E s (lt' x y) Q st:=by
 rw [lt'_eq]
 refine Ao (Dx ?_)
 rw [hB.kind,keyLt'_oneType]
 refine Ao (D4 (CB (hO prog w A _ s x.1 y.1 _ _ hx.eq hy.eq ⟨rfl,?_⟩)))
 exact Au h
def bdB (κ:KeyKind)(lf:Bool)(key:κ.α)(x:κ.α):Bool:=if lf then κ.blt x key else !κ.blt key x
theorem uz {st:SortSt}{lf:Bool}{key p:Keyed}{arr:Array Keyed}{b i:Nat}{Q:Option Bool→SortSt→Prop}(hO:κ.OneLt)(hB:TB st)(hk:Gd κ key)(e:arr[b+i]? = some p)(hp:Gd κ p)
  (h:Q (some (bdB κ lf (kof κ key) (kof κ p))) st):wpS (model prog w) A E s (gbd lf key arr b i) Q st:=by
 unfold gbd
 rw [elem'_eq,e]
 refine Ao (Au ?_)
 unfold bdB at h
 cases lf with
 | true=>exact l_ hO hB hp hk h
 | false=>exact Ao (l_ hO hB hk hp (Au h))
theorem kE {st:SortSt}{lf:Bool}{key:Keyed}{arr:Array Keyed}{b n h:Nat}{Q:Option Nat→SortSt→Prop}(hO:κ.OneLt)(hB:TB st)(hk:Gd κ key)(B:Nat→Bool)(hh:h < n)
  (at_:∀ i,i < n→∃ p,arr[b+i]? = some p∧Gd κ p∧bdB κ lf (kof κ key) (kof κ p)=B i) (mono:∀ i j,i≤j→j < n→B j=true→B i=true)
  (hq:∀ k,k≤n→(∀ i,i < k→B i=true)→(∀ i,k≤i→i < n→B i=false)→Q (some k) st):wpS (model prog w) A E s (gal lf key arr b n h) Q st:=by
 have ask:∀ {i:Nat} {R:Option Bool→SortSt→Prop},i < n→R (some (B i)) st→wpS (model prog w) A E s (gbd lf key arr b i) R st:=fun {i R} hi r=>by
  obtain ⟨p,e,g,eb⟩:=at_ i hi
  exact uz hO hB hk e g (by rw [eb];exact r)
 have no:∀ i j,i≤j→j < n→B i=false→B j=false:=fun i j hij hj e=>by
  cases ej:B j with
  | false=>rfl
  | true=>rw [mono i j hij hj ej] at e;cases e
 -- the last part
 have fin:∀ dn up,dn≤up→up≤n→(∀ i,i < dn→B i=true)→(∀ i,up≤i→i < n→B i=false)→wpS (model prog w) A E s (xt lf key arr b n dn up) Q st:=by
  intro dn up h1 h2 h3 h4
  unfold xt
  refine Ao (BW (Bj (I:=fun x c st'=>st'=st∧∃ dn up,c=(none,dn,up)∧dn≤up∧up≤n∧up - dn≤n - x∧(∀ i,i < dn→B i=true)∧(∀ i,up≤i→i < n→B i=false))
   (Q:=fun c st'=>st'=st∧∃ k,c=(none,k,k)∧k≤n∧(∀ i,i < k→B i=true)∧(∀ i,k≤i→i < n→B i=false)) ?step ?fin ⟨rfl,dn,up,rfl,h1,h2,by omega,h3,h4⟩) ?post)
  case post =>
   rintro c st' ⟨rfl,k,rfl,a1,a2,a3⟩
   exact Au (hq k a1 a2 a3)
  case fin =>
   rintro c st' ⟨rfl,dn,up,rfl,a1,a2,a3,a4,a5⟩
   have:dn=up:=by omega
   subst this
   exact ⟨rfl,dn,rfl,a2,a4,a5⟩
  case step =>
   rintro x c st' _ hx ⟨rfl,dn,up,rfl,a1,a2,a3,a4,a5⟩
   dsimp only
   by_cases hd:dn≥up
   ·refine aI hd ?_
    have:dn=up:=by omega
    subst this
    exact Au ⟨rfl,dn,rfl,a2,a4,a5⟩
   ·refine aJ hd ?_
    refine Ao (ask (by omega) ?_)
    cases eb:B (dn+(up - dn) / 2) with
    | true =>
     simp only [BX]
     exact Au ⟨rfl,dn+(up - dn) / 2+1,up,rfl,by omega,a2,by omega,fun i hi=>mono i _ (by omega) (by omega) eb,a5⟩
    | false =>
     simp only [Ar,Bl]
     exact Au ⟨rfl,dn,dn+(up - dn) / 2,rfl,by omega,by omega,by omega,a4,fun i hi1 hi2=>no _ i (by omega) hi2 eb⟩
 rw [wm]
 refine Ao (ask hh ?_)
 cases eh:B h with
 | true =>
  dsimp only
  refine aI rfl ?_
  refine Ao (BW (Bj (I:=fun x c st'=>st'=st∧∃ la of,c=(none,la,of)∧la < of∧x+1≤of∧h+la < n∧B (h+la)=true)
   (Q:=fun c st'=>st'=st∧∃ la of,c=(none,la,of)∧la < of∧h+la < n∧B (h+la)=true∧(of≥n - h ∨ (h+of < n∧B (h+of)=false))) ?step ?fin ⟨rfl,0,1,rfl,by omega,by omega,by omega,eh⟩) ?post)
  case post =>
   rintro c st' ⟨rfl,la,of,rfl,a1,a2,a3,a4⟩
   dsimp only
   refine fin (h+la+1) (h+min of (n - h)) (by omega) (by omega) (fun i hi=>mono i _ (by omega) a2 a3) fun i hi1 hi2=>?_
   rcases a4 with a4 | ⟨a4,a5⟩
   ·omega
   ·exact no _ i (by omega) hi2 a5
  case fin =>
   rintro c st' ⟨rfl,la,of,rfl,a1,a2,a3,a4⟩
   exact ⟨rfl,la,of,rfl,a1,a3,a4,.inl (by omega)⟩
  case step =>
   rintro x c st' _ hx ⟨rfl,la,of,rfl,a1,a2,a3,a4⟩
   dsimp only
   by_cases ho:of≥n - h
   ·refine aI ho ?_
    exact Au ⟨rfl,la,of,rfl,a1,a3,a4,.inl ho⟩
   ·refine aJ ho ?_
    refine Ao (ask (by omega) ?_)
    cases eb:B (h+of) with
    | true =>
     simp only [CC,Ar,Bl]
     exact Au ⟨rfl,of,2*of+1,rfl,by omega,by omega,by omega,eb⟩
    | false =>
     simp only [Bool.not_false,BX]
     exact Au ⟨rfl,la,of,rfl,a1,a3,a4,.inr ⟨by omega,eb⟩⟩
 | false =>
  dsimp only
  refine aJ Dn ?_
  refine Ao (BW (Bj (I:=fun x c st'=>st'=st∧∃ la of,c=(none,la,of)∧la < of∧x+1≤of∧la≤h∧B (h - la)=false)
   (Q:=fun c st'=>st'=st∧∃ la of,c=(none,la,of)∧la < of∧la≤h∧B (h - la)=false∧(of≥h+1 ∨ (of≤h∧B (h - of)=true))) ?step ?fin ⟨rfl,0,1,rfl,by omega,by omega,by omega,eh⟩) ?post)
  case post =>
   rintro c st' ⟨rfl,la,of,rfl,a1,a2,a3,a4⟩
   dsimp only
   refine fin (h+1 - min of (h+1)) (h - la) (by omega) (by omega) (fun i hi=>?_) fun i hi1 hi2=>no _ i hi1 hi2 a3
   rcases a4 with a4 | ⟨a4,a5⟩
   ·omega
   ·exact mono i _ (by omega) (by omega) a5
  case fin =>
   rintro c st' ⟨rfl,la,of,rfl,a1,a2,a3,a4⟩
   exact ⟨rfl,la,of,rfl,a1,a3,a4,.inl (by omega)⟩
  case step =>
   rintro x c st' _ hx ⟨rfl,la,of,rfl,a1,a2,a3,a4⟩
   dsimp only
   by_cases ho:of≥h+1
   ·refine aI ho ?_
    exact Au ⟨rfl,la,of,rfl,a1,a3,a4,.inl ho⟩
   ·refine aJ ho ?_
    refine Ao (ask (by omega) ?_)
    cases eb:B (h - of) with
    | false =>
     simp only [Ar,Bl]
     exact Au ⟨rfl,of,2*of+1,rfl,by omega,by omega,by omega,eb⟩
    | true =>
     simp only [BX]
     exact Au ⟨rfl,la,of,rfl,a1,a3,a4,.inr ⟨by omega,eb⟩⟩
end
def mlo:Array Keyed→Array Keyed→StateT SortSt Sem (Array Keyed):=sortPriv% PySem.Builtin.mergeLo
def smg:Nat→StateT SortSt Sem Unit:=sortPriv% PySem.Builtin.setMinGallop
abbrev mDn (a b o:Array Keyed)(i j:Nat):Array Keyed:=o++a.extract i a.size++b.extract j b.size
abbrev mLa (a b o:Array Keyed)(i j:Nat):Array Keyed:=o++b.extract j b.size++a.extract i a.size
theorem wq (a b:Array Keyed):mlo a b=(do
 rule "list.sort.merge-lo"
 let mut o:Array Keyed:=#[← elem' b 0]
 let mut i:=0
 let mut j:=1
 if j == b.size then return mDn a b o i j
 if i+1 == a.size then return mLa a b o i j
 let mut g:=gallopOf (← get)
 for _ in [0:a.size+b.size] do
  let mut p:=0
  let mut q:=0
  for _ in [0:a.size+b.size] do
   let some w ← lt' (← elem' b j) (← elem' a i) | return mDn a b o i j
   if w then
    o:=o.push (← elem' b j)
    j:=j+1
    q:=q+1
    p:=0
    if j == b.size then return mDn a b o i j
    if q≥g then break
   else
    o:=o.push (← elem' a i)
    i:=i+1
    p:=p+1
    q:=0
    if i+1 == a.size then return mLa a b o i j
    if p≥g then break
  rule "list.sort.gallop"
  g:=g+1
  for _ in [0:a.size+b.size] do
   if g > 1 then g:=g - 1
   smg g
   let some k ← gal false (← elem' b j) a i (a.size - i) 0 | return mDn a b o i j
   p:=k
   if k > 0 then
    o:=o++a.extract i (i+k)
    i:=i+k
    if i+1 == a.size then return mLa a b o i j
    if i == a.size then return mDn a b o i j
   o:=o.push (← elem' b j)
   j:=j+1
   if j == b.size then return mDn a b o i j
   let some k ← gal true (← elem' a i) b j (b.size - j) 0 | return mDn a b o i j
   q:=k
   if k > 0 then
    o:=o++b.extract j (j+k)
    j:=j+k
    if j == b.size then return mDn a b o i j
   o:=o.push (← elem' a i)
   i:=i+1
   if i+1 == a.size then return mLa a b o i j
   if p < 7 && q < 7 then break
  g:=g+1
  smg g
 unsupported "internal:list.sort.merge-bound"):=rfl
end Ts
namespace Ts
open PySem PyProof.Rows
variable {κ:KeyKind}
def lek (κ:KeyKind)(x y:Keyed):Prop:=κ.kle (kof κ x) (kof κ y)
theorem eJ {x y z:Keyed}(h:lek κ x y)(g:lek κ y z):lek κ x z:=Cq h g
theorem rA (x:Keyed):lek κ x x:=BA _
def Srt (κ:KeyKind)(l:List Keyed):Prop:=l.Pairwise (lek κ)
theorem Srt.drop {l:List Keyed}(h:Srt κ l)(i:Nat):Srt κ (l.drop i):=List.Pairwise.sublist (List.drop_sublist i l) h
theorem Srt.take {l:List Keyed}(h:Srt κ l)(i:Nat):Srt κ (l.take i):=List.Pairwise.sublist (List.take_sublist i l) h
def Lel (κ:KeyKind)(l m:List Keyed):Prop:=∀ x∈l,∀ y∈m,lek κ x y
theorem br {l m:List Keyed}:Srt κ (l++m) ↔ Srt κ l∧Srt κ m∧Lel κ l m:=List.pairwise_append
theorem Srt.at {l:List Keyed}(h:Srt κ l){i j:Nat}{x y:Keyed}(hij:i≤j)(hx:l[i]? = some x)(hy:l[j]? = some y):lek κ x y:=by
 by_cases e:i=j
 ·subst e
  rw [hx] at hy
  cases hy
  exact rA _
 ·obtain ⟨h1,e1⟩:=Ah.mp hx
  obtain ⟨h2,e2⟩:=Ah.mp hy
  have:=B_.mp h i j h1 h2 (by omega)
  rw [e1,e2] at this
  exact this
theorem cq {l:List Keyed}{i:Nat}{x:Keyed}(h:l[i]? = some x):l.drop i=x::l.drop (i+1):=by
 obtain ⟨h1,e1⟩:=Ah.mp h
 rw [BQ h1,e1]
theorem bp {l:List Keyed}{i:Nat}{x:Keyed}(h:l[i]? = some x):l.take (i+1)=l.take i++[x]:=by
 rw [AI,h]
 rfl
structure Mc (κ:KeyKind) (A B O:List Keyed) (i j:Nat):Prop where
 pm:O.Perm (A.take i++B.take j)
 so:Srt κ O
 la:Lel κ O (A.drop i)
 lb:Lel κ O (B.drop j)
 hi:i≤A.length
 hj:j≤B.length
theorem Mc.pushA {A B O:List Keyed}{i j:Nat}(M:Mc κ A B O i j)(sA:Srt κ A){x:Keyed}(h:A[i]? = some x)(hx:Lel κ [x] (B.drop j)):Mc κ A B (O++[x]) (i+1) j:=by
 have ed:=cq h
 have sd:=sA.drop i
 rw [ed] at sd
 have sd':=Cu.mp sd
 refine ⟨?_,br.mpr ⟨M.so,DM _ _,fun o ho y hy=>?_⟩,fun o ho y hy=>?_,fun o ho y hy=>?_,(Ah.mp h).1,M.hj⟩
 ·rw [bp h]
  refine (M.pm.append_right [x]).trans ?_
  rw [Am,Am]
  exact BE _ B7
 ·rw [Af] at hy
  subst hy
  exact M.la o ho _ (by rw [ed];exact Av)
 ·rcases Ax.mp ho with ho | ho
  ·exact M.la o ho y (by rw [ed];exact AC _ hy)
  ·rw [Af] at ho
   subst ho
   exact sd'.1 y hy
 ·rcases Ax.mp ho with ho | ho
  ·exact M.lb o ho y hy
  ·exact hx o ho y hy
theorem Mc.pushB {A B O:List Keyed}{i j:Nat}(M:Mc κ A B O i j)(sB:Srt κ B){x:Keyed}(h:B[j]? = some x)(hx:Lel κ [x] (A.drop i)):Mc κ A B (O++[x]) i (j+1):=by
 have ed:=cq h
 have sd:=sB.drop j
 rw [ed] at sd
 have sd':=Cu.mp sd
 refine ⟨?_,br.mpr ⟨M.so,DM _ _,fun o ho y hy=>?_⟩,fun o ho y hy=>?_,fun o ho y hy=>?_,M.hi,(Ah.mp h).1⟩
 ·rw [bp h]
  refine (M.pm.append_right [x]).trans ?_
  rw [Am]
 ·rw [Af] at hy
  subst hy
  exact M.lb o ho _ (by rw [ed];exact Av)
 ·rcases Ax.mp ho with ho | ho
  ·exact M.la o ho y hy
  ·exact hx o ho y hy
 ·rcases Ax.mp ho with ho | ho
  ·exact M.lb o ho y (by rw [ed];exact AC _ hy)
  ·rw [Af] at ho
   subst ho
   exact sd'.1 y hy
theorem Mc.pushAs {A B O:List Keyed}{i j:Nat}(M:Mc κ A B O i j)(sA:Srt κ A):∀ k,i+k≤A.length→Lel κ ((A.drop i).take k) (B.drop j)→Mc κ A B (O++(A.drop i).take k) (i+k) j
 | 0,_,_=>by simpa using M
 | k+1,hk,hl=>by
  have hlt:i+k < A.length:=by omega
  have e:(A.drop i)[k]? = some A[i+k]:=by rw [Bb,Ac hlt]
  have et:(A.drop i).take (k+1)=(A.drop i).take k++[A[i+k]]:=bp e
  rw [et] at hl ⊢
  have ih:=Mc.pushAs M sA k (by omega) fun x hx=>hl x (AX _ hx)
  have:=ih.pushA sA (Ac hlt) fun x hx=>hl x (AJ _ hx)
  rw [Am] at this
  exact this
theorem Mc.pushBs {A B O:List Keyed}{i j:Nat}(M:Mc κ A B O i j)(sB:Srt κ B):∀ k,j+k≤B.length→Lel κ ((B.drop j).take k) (A.drop i)→Mc κ A B (O++(B.drop j).take k) i (j+k)
 | 0,_,_=>by simpa using M
 | k+1,hk,hl=>by
  have hlt:j+k < B.length:=by omega
  have e:(B.drop j)[k]? = some B[j+k]:=by rw [Bb,Ac hlt]
  have et:(B.drop j).take (k+1)=(B.drop j).take k++[B[j+k]]:=bp e
  rw [et] at hl ⊢
  have ih:=Mc.pushBs M sB k (by omega) fun x hx=>hl x (AX _ hx)
  have:=ih.pushB sB (Ac hlt) fun x hx=>hl x (AJ _ hx)
  rw [Am] at this
  exact this
def Mg (κ:KeyKind)(A B R:List Keyed):Prop:=R.Perm (A++B)∧Srt κ R
theorem Mc.perm {A B O:List Keyed}{i j:Nat}(M:Mc κ A B O i j):(O++(A.drop i++B.drop j)).Perm (A++B):=by
 have h1:(O++(A.drop i++B.drop j)).Perm ((A.take i++B.take j)++(A.drop i++B.drop j)):=M.pm.append_right _
 refine h1.trans ?_
 have h2:((A.take i++B.take j)++(A.drop i++B.drop j)).Perm ((A.take i++A.drop i)++(B.take j++B.drop j)):=by
  rw [Am,Am]
  refine BE _ ?_
  rw [← Am,← Am]
  exact CW _ B7
 rw [AD,AD] at h2
 exact h2
theorem Mc.done {A B O:List Keyed}{i j:Nat}(M:Mc κ A B O i j)(sA:Srt κ A)(sB:Srt κ B)(h:i=A.length ∨ j=B.length):Mg κ A B (O++A.drop i++B.drop j):=by
 refine ⟨by rw [Am];exact M.perm,?_⟩
 rw [Am]
 refine br.mpr ⟨M.so,br.mpr ⟨sA.drop i,sB.drop j,fun x hx y hy=>?_⟩,fun o ho y hy=>?_⟩
 ·rcases h with h | h
  ·subst h;rw [List.drop_length] at hx;cases hx
  ·subst h;rw [List.drop_length] at hy;cases hy
 ·rcases Ax.mp hy with hy | hy
  ·exact M.la o ho y hy
  ·exact M.lb o ho y hy
theorem Mc.last {A B O:List Keyed}{i j:Nat}(M:Mc κ A B O i j)(sA:Srt κ A)(sB:Srt κ B)(h:i+1=A.length)(hl:∀ z,A[A.length - 1]? = some z→Lel κ B [z]):Mg κ A B (O++B.drop j++A.drop i):=by
 have hlt:i < A.length:=by omega
 have ed:A.drop i=[A[i]]:=by rw [cq (Ac hlt),BY (by omega)]
 refine ⟨?_,?_⟩
 ·refine List.Perm.trans ?_ M.perm
  rw [Am]
  exact BE _ B7
 ·rw [Am]
  refine br.mpr ⟨M.so,br.mpr ⟨sB.drop j,sA.drop i,fun x hx y hy=>?_⟩,fun o ho y hy=>?_⟩
  ·rw [ed] at hy
   exact hl A[i] (by rw [show A.length - 1=i by omega];exact Ac hlt) x (Ca hx) y hy
  ·rcases Ax.mp hy with hy | hy
   ·exact M.lb o ho y hy
   ·exact M.la o ho y hy
theorem ma (a b o:Array Keyed)(i j:Nat):(mDn a b o i j).toList=o.toList++a.toList.drop i++b.toList.drop j:=by
 simp [mDn,Bv,Aq]
theorem me (a b o:Array Keyed)(i j:Nat):(mLa a b o i j).toList=o.toList++b.toList.drop j++a.toList.drop i:=by
 simp [mLa,Bv,Aq]
theorem mf (a:Array Keyed)(i k:Nat):(a.extract i (i+k)).toList=(a.toList.drop i).take k:=by
 simp [Bv,List.take_drop]
theorem mh {lf:Bool}{key x y:κ.α}(h:κ.kle x y)(hb:bdB κ lf key y=true):bdB κ lf key x=true:=by
 unfold bdB at hb ⊢
 cases lf with
 | true=>exact KeyOrd.klt_of_kle_of_klt h hb
 | false =>
  have hb:(!κ.blt key y)=true:=hb
  have hy:κ.kle y key:=by show κ.blt key y=false;simpa using hb
  have:=Cq h hy
  show (!κ.blt key x)=true
  have this:κ.blt key x=false:=this
  rw [this]
  rfl
end Ts
namespace Ts
open PySem PyProof.Rows
section
variable {prog:Program} {w:World} {A:Around} {E:Value→Shared→Prop} {s:Shared} {κ:KeyKind}
structure Ok (st st':SortSt):Prop where
 tb:TB st'
 ar:arrOf st'=arrOf st
 pd:pendingOf st'=pendingOf st
theorem Ok.refl {st:SortSt}(h:TB st):Ok st st:=⟨h,rfl,rfl⟩
theorem iV {st st':SortSt}{g:Nat}{Q:Unit→SortSt→Prop}(h:Ok st st')(q:∀ st'',Ok st st''→Q () st''):wpS (model prog w) A E s (smg g) Q st':=by
 refine CP (q _ ⟨⟨h.tb.kind,h.tb.failed⟩,h.ar,h.pd⟩)
theorem aY {st:SortSt}{arr:Array Keyed}{i:Nat}{x:Keyed}{Q:Keyed→SortSt→Prop}(e:arr.toList[i]? = some x)(h:Q x st):wpS (model prog w) A E s (elem' arr i) Q st:=by
 have e':arr[i]? = some x:=by simpa using e
 rw [elem'_eq,e']
 exact Au h
theorem mi {st:SortSt}{lf:Bool}{key:Keyed}{arr:Array Keyed}{i:Nat}{Q:Option Nat→SortSt→Prop}(hO:κ.OneLt)(hB:TB st)(hk:Gd κ key)(hg:∀ x∈arr.toList,Gd κ x)(sa:Srt κ arr.toList)(hi:i < arr.size)
  (hq:∀ k,i+k≤arr.size→(∀ x∈(arr.toList.drop i).take k,bdB κ lf (kof κ key) (kof κ x)=true)→(∀ x∈arr.toList.drop (i+k),bdB κ lf (kof κ key) (kof κ x)=false)→Q (some k) st) :
  wpS (model prog w) A E s (gal lf key arr i (arr.size - i) 0) Q st:=by
 have hl:arr.toList.length=arr.size:=Ai
 refine kE hO hB hk (fun t=>match arr.toList[i+t]? with | some p=>bdB κ lf (kof κ key) (kof κ p) | none=>false) (by omega) (fun t ht=>?_) (fun t u htu hu hb=>?_) (fun k hk' h1 h2=>hq k (by omega) (fun x hx=>?_) fun x hx=>?_)
 ·have hlt:i+t < arr.toList.length:=by omega
  have e:=Ac hlt
  refine ⟨arr.toList[i+t],by simpa using e,hg _ (AS hlt),?_⟩
  rw [e]
 ·have h1:i+t < arr.toList.length:=by omega
  have h2:i+u < arr.toList.length:=by omega
  have e1:=Ac h1
  have e2:=Ac h2
  rw [e2] at hb
  rw [e1]
  exact mh (sa.at (by omega) e1 e2) hb
 ·obtain ⟨t,e⟩:=Bw hx
  have ht:t < k:=by
   have:=(Ah.mp e).1
   rw [Aj] at this
   omega
  rw [B8,if_pos ht,Bb] at e
  have:=h1 t ht
  rw [e] at this
  exact this
 ·obtain ⟨t,e⟩:=Bw hx
  rw [Bb] at e
  have hlt:=(Ah.mp e).1
  have:=h2 (k+t) (by omega) (by omega)
  rw [show i+(k+t)=i+k+t by omega,e] at this
  exact this
theorem not_lt {x y:Keyed}(h:κ.blt (kof κ x) (kof κ y)=false):lek κ y x:=h
theorem rB {x y:Keyed}(h:κ.blt (kof κ x) (kof κ y)=true):lek κ x y:=CD h
theorem gz {l:List Keyed}(sl:Srt κ l){i:Nat}{x y:Keyed}(e:l[i]? = some y)(h:lek κ x y):Lel κ [x] (l.drop i):=fun z hz t ht=>by
 rw [Af] at hz
 subst hz
 rw [cq e] at ht
 rcases Aw.mp ht with rfl | ht
 ·exact h
 ·have sd:=sl.drop i
  rw [cq e] at sd
  exact eJ h ((Cu.mp sd).1 t ht)
abbrev MSt:=Option (Array Keyed) × Array Keyed × Nat × Nat × Nat × Nat × Nat
def jp3 (a b:Array Keyed)(i g p q:Nat)(o:Array Keyed)(j:Nat):StateT SortSt Sem (ForInStep MSt):=do
 let e ← elem' a i
 if (i+1+1 == a.size)=true then pure (.done (some (mLa a b (o.push e) (i+1) j),o.push e,i+1,j,g,p,q))
 else if (decide (p < 7) && decide (q < 7))=true then pure (.done (none,o.push e,i+1,j,g,p,q)) else pure (.yield (none,o.push e,i+1,j,g,p,q))
def jp2 (a b:Array Keyed)(j g p q:Nat)(o:Array Keyed)(i:Nat):StateT SortSt Sem (ForInStep MSt):=do
 let e ← elem' b j
 if (j+1 == b.size)=true then pure (.done (some (mDn a b (o.push e) i (j+1)),o.push e,i,j+1,g,p,q))
 else do
  let f ← elem' a i
  let y ← gal true f b (j+1) (b.size - (j+1)) 0
  match y with
  | some k=>if k > 0 then (if (j+1+k == b.size)=true then pure (.done (some (mDn a b (o.push e++b.extract (j+1) (j+1+k)) i (j+1+k)),o.push e++b.extract (j+1) (j+1+k),i,j+1+k,g,p,k)) else jp3 a b i g p k (o.push e++b.extract (j+1) (j+1+k)) (j+1+k)) else jp3 a b i g p k (o.push e) (j+1)
  | _=>pure (.done (some (mDn a b (o.push e) i (j+1)),o.push e,i,j+1,g,p,q))
def jp1 (a b:Array Keyed)(o:Array Keyed)(i j p q g:Nat):StateT SortSt Sem (ForInStep MSt):=do
 smg g
 let e ← elem' b j
 let y ← gal false e a i (a.size - i) 0
 match y with
 | some k=>if k > 0 then (if (i+k+1 == a.size)=true then pure (.done (some (mLa a b (o++a.extract i (i+k)) (i+k) j),o++a.extract i (i+k),i+k,j,g,k,q)) else if (i+k == a.size)=true then pure (.done (some (mDn a b (o++a.extract i (i+k)) (i+k) j),o++a.extract i (i+k),i+k,j,g,k,q)) else jp2 a b j g k q (o++a.extract i (i+k)) (i+k)) else jp2 a b j g k q o i
 | _=>pure (.done (some (mDn a b o i j),o,i,j,g,p,q))
def Pst (κ:KeyKind)(a b:Array Keyed)(x:Nat)(st:SortSt)(r:ForInStep MSt)(st':SortSt):Prop:=match r with
 | .done c=>((∃ r z,c=(some r,z)∧Mg κ a.toList b.toList r.toList) ∨ ∃ o i j g p q,c=(none,o,i,j,g,p,q)∧Mc κ a.toList b.toList o.toList i j∧i+1 < a.size∧j < b.size∧x+2≤i+j)∧Ok st st'
 | .yield c=>∃ o i j g p q,c=(none,o,i,j,g,p,q)∧Mc κ a.toList b.toList o.toList i j∧i+1 < a.size∧j < b.size∧x+2≤i+j∧Ok st st'
structure Two (κ:KeyKind) (a b:Array Keyed):Prop where
 ga:∀ x∈a.toList,Gd κ x
 gb:∀ x∈b.toList,Gd κ x
 sa:Srt κ a.toList
 sb:Srt κ b.toList
 hl:∀ z,a.toList[a.size - 1]? = some z→Lel κ b.toList [z]
theorem Two.atA {a b:Array Keyed}(T:Two κ a b){i:Nat}(hi:i < a.size):∃ x,a.toList[i]? = some x∧Gd κ x:=⟨a.toList[i]'(by rw [Ai]; exact hi),Ac (by rw [Ai]; exact hi),T.ga _ (AS _)⟩
theorem Two.atB {a b:Array Keyed}(T:Two κ a b){i:Nat}(hi:i < b.size):∃ x,b.toList[i]? = some x∧Gd κ x:=⟨b.toList[i]'(by rw [Ai]; exact hi),Ac (by rw [Ai]; exact hi),T.gb _ (AS _)⟩
theorem Two.dn {a b:Array Keyed}(T:Two κ a b){o:Array Keyed}{i j:Nat}(M:Mc κ a.toList b.toList o.toList i j)(h:i=a.size ∨ j=b.size):Mg κ a.toList b.toList (mDn a b o i j).toList:=by
 rw [ma]
 exact M.done T.sa T.sb (by rw [Ai,Ai];exact h)
theorem Two.ls {a b:Array Keyed}(T:Two κ a b){o:Array Keyed}{i j:Nat}(M:Mc κ a.toList b.toList o.toList i j)(h:i+1=a.size):Mg κ a.toList b.toList (mLa a b o i j).toList:=by
 rw [me]
 exact M.last T.sa T.sb (by rw [Ai];exact h) (by rw [Ai];exact T.hl)
theorem oZ {st st':SortSt}{a b o:Array Keyed}{i j g p q x:Nat}{xa:Keyed}(T:Two κ a b)(M:Mc κ a.toList b.toList o.toList i j)(hi:i+1 < a.size)(hj:j < b.size)(hx:x+2≤i+j)(ok:Ok st st')(exa:a.toList[i]? = some xa)(hle:Lel κ [xa] (b.toList.drop j)) :
  wpS (model prog w) A E s (jp3 a b i g p q o j) (Pst κ a b x st) st':=by
 unfold jp3
 refine Ao (aY exa ?_)
 have M':Mc κ a.toList b.toList (o.push xa).toList (i+1) j:=by rw [BN];exact M.pushA T.sa exa hle
 by_cases hia:i+1+1=a.size
 ·refine aI (by simpa using hia) ?_
  exact Au ⟨.inl ⟨_,_,rfl,T.ls M' hia⟩,ok⟩
 ·refine aJ (by simpa using hia) ?_
  by_cases hpq:(decide (p < 7) && decide (q < 7))=true
  ·refine aI hpq ?_
   exact Au ⟨.inr ⟨_,_,_,_,_,_,rfl,M',by omega,hj,by omega⟩,ok⟩
  ·refine aJ hpq ?_
   exact Au ⟨_,_,_,_,_,_,rfl,M',by omega,hj,by omega,ok⟩
theorem fN {x y:Keyed}:bdB κ false (kof κ x) (kof κ y)=true→lek κ y x:=fun h=>by
 unfold bdB at h
 have h:(!κ.blt (kof κ x) (kof κ y))=true:=h
 show κ.blt (kof κ x) (kof κ y)=false
 simpa using h
theorem gC {x y:Keyed}:bdB κ false (kof κ x) (kof κ y)=false→lek κ x y:=fun h=>by
 unfold bdB at h
 have h:(!κ.blt (kof κ x) (kof κ y))=false:=h
 exact rB (by simpa using h)
theorem kF {x y:Keyed}:bdB κ true (kof κ x) (kof κ y)=true→lek κ y x:=fun h=>rB h
theorem iW {x y:Keyed}:bdB κ true (kof κ x) (kof κ y)=false→lek κ x y:=fun h=>h
theorem o6 {st st':SortSt}{a b o:Array Keyed}{i j g p q x:Nat}{xb:Keyed}(hO:κ.OneLt)(T:Two κ a b)(M:Mc κ a.toList b.toList o.toList i j)(hi:i+1 < a.size)(hj:j < b.size)(hx:x+2≤i+j)(ok:Ok st st')(exb:b.toList[j]? = some xb)(hle:Lel κ [xb] (a.toList.drop i)) :
  wpS (model prog w) A E s (jp2 a b j g p q o i) (Pst κ a b x st) st':=by
 have la:a.toList.length=a.size:=Ai
 have lb:b.toList.length=b.size:=Ai
 unfold jp2
 refine Ao (aY exb ?_)
 have M':Mc κ a.toList b.toList (o.push xb).toList i (j+1):=by rw [BN];exact M.pushB T.sb exb hle
 by_cases hjb:j+1=b.size
 ·refine aI (by simpa using hjb) ?_
  exact Au ⟨.inl ⟨_,_,rfl,T.dn M' (.inr hjb)⟩,ok⟩
 refine aJ (by simpa using hjb) ?_
 obtain ⟨xa,exa,gxa⟩:=T.atA (i:=i) (by omega)
 refine Ao (aY exa (Ao (mi hO ok.tb gxa T.gb T.sb (by omega) fun k hk t1 t2=>?_)))
 dsimp only
 have MB:Mc κ a.toList b.toList ((o.push xb).toList++(b.toList.drop (j+1)).take k) i (j+1+k):=M'.pushBs T.sb k (by omega) fun z hz=>gz T.sa exa (kF (t1 z hz)) z (Af.mpr rfl)
 have rest:Lel κ [xa] (b.toList.drop (j+1+k)):=fun z hz y hy=>by
  rw [Af] at hz
  subst hz
  exact iW (t2 y hy)
 by_cases hk0:k > 0
 ·refine aI hk0 ?_
  have MB':Mc κ a.toList b.toList (o.push xb++b.extract (j+1) (j+1+k)).toList i (j+1+k):=by rw [Dj,mf];exact MB
  by_cases hje:j+1+k=b.size
  ·refine aI (by simpa using hje) ?_
   exact Au ⟨.inl ⟨_,_,rfl,T.dn MB' (.inr hje)⟩,ok⟩
  ·refine aJ (by simpa using hje) ?_
   exact oZ T MB' hi (by omega) (by omega) ok exa rest
 ·refine aJ hk0 ?_
  have:k=0:=by omega
  subst this
  exact oZ T M' hi (by omega) (by omega) ok exa rest
theorem o7 {st st':SortSt}{a b o:Array Keyed}{i j g p q x:Nat}(hO:κ.OneLt)(T:Two κ a b)(M:Mc κ a.toList b.toList o.toList i j)(hi:i+1 < a.size)(hj:j < b.size)(hx:x+2≤i+j)(ok:Ok st st') :
  wpS (model prog w) A E s (jp1 a b o i j p q g) (Pst κ a b x st) st':=by
 have la:a.toList.length=a.size:=Ai
 have lb:b.toList.length=b.size:=Ai
 unfold jp1
 refine Ao (iV ok fun st3 ok3=>?_)
 obtain ⟨xb,exb,gxb⟩:=T.atB hj
 refine Ao (aY exb (Ao (mi hO ok3.tb gxb T.ga T.sa (by omega) fun k hk t1 t2=>?_)))
 dsimp only
 have MA:Mc κ a.toList b.toList (o.toList++(a.toList.drop i).take k) (i+k) j:=M.pushAs T.sa k (by omega) fun z hz=>gz T.sb exb (fN (t1 z hz)) z (Af.mpr rfl)
 have rest:Lel κ [xb] (a.toList.drop (i+k)):=fun z hz y hy=>by
  rw [Af] at hz
  subst hz
  exact gC (t2 y hy)
 by_cases hk0:k > 0
 ·refine aI hk0 ?_
  have MA':Mc κ a.toList b.toList (o++a.extract i (i+k)).toList (i+k) j:=by rw [Dj,mf];exact MA
  by_cases h1:i+k+1=a.size
  ·refine aI (by simpa using h1) ?_
   exact Au ⟨.inl ⟨_,_,rfl,T.ls MA' h1⟩,ok3⟩
  ·refine aJ (by simpa using h1) ?_
   by_cases h2:i+k=a.size
   ·refine aI (by simpa using h2) ?_
    exact Au ⟨.inl ⟨_,_,rfl,T.dn MA' (.inl h2)⟩,ok3⟩
   ·refine aJ (by simpa using h2) ?_
    exact o6 hO T MA' (by omega) hj (by omega) ok3 exb rest
 ·refine aJ hk0 ?_
  have:k=0:=by omega
  subst this
  exact o6 hO T M hi hj hx ok3 exb rest
theorem uA {st:SortSt}{a b:Array Keyed}{Q:Array Keyed→SortSt→Prop}(hO:κ.OneLt)(hB:TB st)(ga:∀ x∈a.toList,Gd κ x)(gb:∀ x∈b.toList,Gd κ x)(sa:Srt κ a.toList)(sb:Srt κ b.toList)(h0:0 < a.size)(h1:0 < b.size)
  (hf:∀ x y,a.toList[0]? = some x→b.toList[0]? = some y→lek κ y x) (hl:∀ z,a.toList[a.size - 1]? = some z→Lel κ b.toList [z])
  (hq:∀ r st',Ok st st'→Mg κ a.toList b.toList r.toList→Q r st'):wpS (model prog w) A E s (mlo a b) Q st:=by
 have la:a.toList.length=a.size:=Ai
 have lb:b.toList.length=b.size:=Ai
 have hl:∀ z,a.toList[a.toList.length - 1]? = some z→Lel κ b.toList [z]:=by rw [la];exact hl
 have atA:∀ {i:Nat},i < a.size→∃ x,a.toList[i]? = some x∧Gd κ x:=fun {i} hi=>⟨a.toList[i]'(by omega),Ac (by omega),ga _ (AS _)⟩
 have atB:∀ {i:Nat},i < b.size→∃ x,b.toList[i]? = some x∧Gd κ x:=fun {i} hi=>⟨b.toList[i]'(by omega),Ac (by omega),gb _ (AS _)⟩
 rw [wq]
 refine Ao (D4 (Bm ⟨rfl,?_⟩))
 obtain ⟨y0,ey0,gy0⟩:=atB h1
 obtain ⟨x0,ex0,gx0⟩:=atA h0
 refine Ao (aY ey0 ?_)
 have M0:Mc κ a.toList b.toList [y0] 0 1:=by
  have:Mc κ a.toList b.toList ([]++[y0]) 0 (0+1):=Mc.pushB (O:=[]) (i:=0) (j:=0) ⟨Cs _,.nil,(fun x hx=>by cases hx),(fun x hx=>by cases hx),BF _,BF _⟩ sb ey0 (gz sa ex0 (hf _ _ ex0 ey0))
  exact this
 have dn:∀ {o:Array Keyed} {i j:Nat},Mc κ a.toList b.toList o.toList i j→(i=a.size ∨ j=b.size)→Mg κ a.toList b.toList (mDn a b o i j).toList:=fun M h=>by rw [ma];exact M.done sa sb (by rw [la,lb];exact h)
 have ls:∀ {o:Array Keyed} {i j:Nat},Mc κ a.toList b.toList o.toList i j→i+1=a.size→Mg κ a.toList b.toList (mLa a b o i j).toList:=fun M h=>by rw [me];exact M.last sa sb (by rw [la];exact h) hl
 dsimp only
 by_cases hb1:1=b.size
 ·refine aI (by simpa using hb1) ?_
  exact Au (hq _ _ (.refl hB) (dn (o:=#[y0]) M0 (.inr hb1)))
 refine aJ (by simpa using hb1) ?_
 by_cases ha1:0+1=a.size
 ·refine aI (by simpa using ha1) ?_
  exact Au (hq _ _ (.refl hB) (ls (o:=#[y0]) M0 ha1))
 refine aJ (by simpa using ha1) ?_
 refine Ao (Dx ?_)
 refine Ao (BW (Bj (I:=fun x c st'=>∃ o i j g,c=(none,o,i,j,g)∧Mc κ a.toList b.toList o.toList i j∧i+1 < a.size∧j < b.size∧x+1≤i+j∧Ok st st')
  (Q:=fun c st'=>∃ r z,c=(some r,z)∧Mg κ a.toList b.toList r.toList∧Ok st st') ?step ?fin ⟨#[y0],0,1,_,rfl,M0,by omega,by omega,by omega,.refl hB⟩) ?post)
 case post =>
  rintro c st' ⟨r,z,rfl,m,ok⟩
  exact Au (hq _ _ ok m)
 case fin =>
  rintro c st' ⟨o,i,j,g,rfl,M,hi,hj,hx,ok⟩
  omega
 case step =>
  rintro x c st1 _ hx ⟨o,i,j,g,rfl,M,hi,hj,hij,ok1⟩
  dsimp only
  refine Ao (BW (Bj (I:=fun y c st'=>st'=st1∧∃ o i j p q,c=(none,o,i,j,p,q)∧Mc κ a.toList b.toList o.toList i j∧i+1 < a.size∧j < b.size∧x+1+y≤i+j)
   (Q:=fun c st'=>st'=st1∧((∃ r z,c=(some r,z)∧Mg κ a.toList b.toList r.toList) ∨ ∃ o i j p q,c=(none,o,i,j,p,q)∧Mc κ a.toList b.toList o.toList i j∧i+1 < a.size∧j < b.size∧x+2≤i+j)) ?step1 ?fin1 ⟨rfl,o,i,j,0,0,rfl,M,hi,hj,by omega⟩) ?post1)
  case fin1 =>
   rintro c st' ⟨rfl,o,i,j,p,q,rfl,M,hi,hj,hy⟩
   exact ⟨rfl,.inr ⟨o,i,j,p,q,rfl,M,hi,hj,by omega⟩⟩
  case step1 =>
   rintro y c st' _ hy ⟨rfl,o,i,j,p,q,rfl,M,hi,hj,hij⟩
   dsimp only
   obtain ⟨xb,exb,gxb⟩:=atB hj
   obtain ⟨xa,exa,gxa⟩:=atA (i:=i) (by omega)
   refine Ao (aY exb (Ao (aY exa (Ao (l_ hO ok1.tb gxb gxa ?_)))))
   cases eb:κ.blt (kof κ xb) (kof κ xa) with
   | true =>
    simp only [BX]
    refine Ao (aY exb ?_)
    have M':Mc κ a.toList b.toList (o.push xb).toList i (j+1):=by rw [BN];exact M.pushB sb exb (gz sa exa (rB eb))
    by_cases hjb:j+1=b.size
    ·refine aI (by simpa using hjb) ?_
     exact Au ⟨rfl,.inl ⟨_,_,rfl,dn M' (.inr hjb)⟩⟩
    ·refine aJ (by simpa using hjb) ?_
     by_cases hqg:q+1≥g
     ·refine aI hqg ?_
      exact Au ⟨rfl,.inr ⟨_,_,_,_,_,rfl,M',hi,by omega,by omega⟩⟩
     ·refine aJ hqg ?_
      exact Au ⟨rfl,_,_,_,_,_,rfl,M',hi,by omega,by omega⟩
   | false =>
    simp only [Ar,Bl]
    refine Ao (aY exa ?_)
    have M':Mc κ a.toList b.toList (o.push xa).toList (i+1) j:=by rw [BN];exact M.pushA sa exa (gz sb exb (not_lt eb))
    by_cases hia:i+1+1=a.size
    ·refine aI (by simpa using hia) ?_
     exact Au ⟨rfl,.inl ⟨_,_,rfl,ls M' hia⟩⟩
    ·refine aJ (by simpa using hia) ?_
     by_cases hpg:p+1≥g
     ·refine aI hpg ?_
      exact Au ⟨rfl,.inr ⟨_,_,_,_,_,rfl,M',by omega,hj,by omega⟩⟩
     ·refine aJ hpg ?_
      exact Au ⟨rfl,_,_,_,_,_,rfl,M',by omega,hj,by omega⟩
  case post1 =>
   rintro c st' ⟨rfl,⟨r,z,rfl,m⟩ | ⟨o,i,j,p,q,rfl,M,hi,hj,hij⟩⟩
   ·exact Au ⟨r,_,rfl,m,ok1⟩
   dsimp only
   refine Ao (D4 (Bm ⟨rfl,?_⟩))
   refine Ao (BW (Bj (I:=fun y c st'=>∃ o i j g p q,c=(none,o,i,j,g,p,q)∧Mc κ a.toList b.toList o.toList i j∧i+1 < a.size∧j < b.size∧x+2≤i+j∧Ok st st')
    (Q:=fun c st'=>((∃ r z,c=(some r,z)∧Mg κ a.toList b.toList r.toList) ∨ ∃ o i j g p q,c=(none,o,i,j,g,p,q)∧Mc κ a.toList b.toList o.toList i j∧i+1 < a.size∧j < b.size∧x+2≤i+j)∧Ok st st') ?step2 ?fin2 ⟨o,i,j,_,p,q,rfl,M,hi,hj,hij,ok1⟩) ?post2)
   case fin2 =>
    rintro c st' ⟨o,i,j,g,p,q,rfl,M,hi,hj,hij,ok⟩
    exact ⟨.inr ⟨o,i,j,g,p,q,rfl,M,hi,hj,hij⟩,ok⟩
   case post2 =>
    rintro c st' ⟨⟨r,z,rfl,m⟩ | ⟨o,i,j,g,p,q,rfl,M,hi,hj,hij⟩,ok⟩
    ·exact Au ⟨r,_,rfl,m,ok⟩
    ·dsimp only
     exact Ao (iV ok fun st'' ok'=>Au ⟨o,i,j,_,rfl,M,hi,hj,by omega,ok'⟩)
   case step2 =>
    rintro y c st2 _ hy ⟨o,i,j,g,p,q,rfl,M,hi,hj,hij,ok2⟩
    dsimp only
    change wpS _ _ _ _ (if g > 1 then jp1 a b o i j p q (g - 1) else jp1 a b o i j p q g) _ _
    refine BW (Q:=Pst κ a b x st) ?_ fun r st' h=>?_
    rotate_left
    ·cases r with
     | done c=>exact h
     | yield c=>exact h
    by_cases hg:g > 1
    ·refine aI hg ?_
     exact o7 hO ⟨ga,gb,sa,sb,by rw [← la];exact hl⟩ M hi hj hij ok2
    ·refine aJ hg ?_
     exact o7 hO ⟨ga,gb,sa,sb,by rw [← la];exact hl⟩ M hi hj hij ok2
end
end Ts
namespace Ts
open PySem PyProof.Rows
def mhi:Array Keyed→Array Keyed→StateT SortSt Sem (Array Keyed):=sortPriv% PySem.Builtin.mergeHi
abbrev hDn (a b o:Array Keyed)(i j:Nat):Array Keyed:=a.extract 0 i++b.extract 0 j++o.reverse
abbrev hFb (a b o:Array Keyed)(i j:Nat):Array Keyed:=b.extract 0 j++a.extract 0 i++o.reverse
theorem wu (a b:Array Keyed):mhi a b=(do
 rule "list.sort.merge-hi"
 let mut i:=a.size - 1
 let mut j:=b.size
 let mut o:Array Keyed:=#[← elem' a i]
 if i == 0 then return hDn a b o i j
 if j == 1 then return hFb a b o i j
 let mut g:=gallopOf (← get)
 for _ in [0:a.size+b.size] do
  let mut p:=0
  let mut q:=0
  for _ in [0:a.size+b.size] do
   let some w ← lt' (← elem' b (j - 1)) (← elem' a (i - 1)) | return hDn a b o i j
   if w then
    i:=i - 1
    o:=o.push (← elem' a i)
    p:=p+1
    q:=0
    if i == 0 then return hDn a b o i j
    if p≥g then break
   else
    j:=j - 1
    o:=o.push (← elem' b j)
    q:=q+1
    p:=0
    if j == 1 then return hFb a b o i j
    if q≥g then break
  rule "list.sort.gallop"
  g:=g+1
  for _ in [0:a.size+b.size] do
   if g > 1 then g:=g - 1
   smg g
   let some t ← gal false (← elem' b (j - 1)) a 0 i (i - 1) | return hDn a b o i j
   let k:=i - t
   p:=k
   if k > 0 then
    o:=o++(a.extract t i).reverse
    i:=t
    if i == 0 then return hDn a b o i j
   j:=j - 1
   o:=o.push (← elem' b j)
   if j == 1 then return hFb a b o i j
   let some t ← gal true (← elem' a (i - 1)) b 0 j (j - 1) | return hDn a b o i j
   let k:=j - t
   q:=k
   if k > 0 then
    o:=o++(b.extract t j).reverse
    j:=t
    if j == 1 then return hFb a b o i j
    if j == 0 then return hDn a b o i j
   i:=i - 1
   o:=o.push (← elem' a i)
   if i == 0 then return hDn a b o i j
   if p < 7 && q < 7 then break
  g:=g+1
  smg g
 unsupported "internal:list.sort.merge-bound"):=rfl
variable {κ:KeyKind}
structure Mh (κ:KeyKind) (A B R:List Keyed) (i j:Nat):Prop where
 pm:R.Perm (A.drop i++B.drop j)
 so:Srt κ R
 la:Lel κ (A.take i) R
 lb:Lel κ (B.take j) R
 hi:i≤A.length
 hj:j≤B.length
theorem Mh.pushA {A B R:List Keyed}{i j:Nat}(M:Mh κ A B R (i+1) j)(sA:Srt κ A){x:Keyed}(h:A[i]? = some x)(hx:Lel κ (B.take j) [x]):Mh κ A B (x::R) i j:=by
 have et:=bp h
 have st:=sA.take (i+1)
 rw [et] at st
 have st':=br.mp st
 refine ⟨?_,Cu.mpr ⟨fun y hy=>M.la x (by rw [et];simp) y hy,M.so⟩,fun y hy z hz=>?_,fun y hy z hz=>?_,by have:=M.hi;omega,M.hj⟩
 ·rw [cq h,List.cons_append]
  exact M.pm.cons x
 ·rcases Aw.mp hz with rfl | hz
  ·exact st'.2.2 y hy _ (by simp)
  ·exact M.la y (by rw [et];exact AX _ hy) z hz
 ·rcases Aw.mp hz with rfl | hz
  ·exact hx y hy _ (by simp)
  ·exact M.lb y hy z hz
theorem Mh.pushB {A B R:List Keyed}{i j:Nat}(M:Mh κ A B R i (j+1))(sB:Srt κ B){x:Keyed}(h:B[j]? = some x)(hx:Lel κ (A.take i) [x]):Mh κ A B (x::R) i j:=by
 have et:=bp h
 have st:=sB.take (j+1)
 rw [et] at st
 have st':=br.mp st
 refine ⟨?_,Cu.mpr ⟨fun y hy=>M.lb x (by rw [et];simp) y hy,M.so⟩,fun y hy z hz=>?_,fun y hy z hz=>?_,M.hi,by have:=M.hj;omega⟩
 ·rw [cq h]
  exact (M.pm.cons x).trans List.perm_middle.symm
 ·rcases Aw.mp hz with rfl | hz
  ·exact hx y hy _ (by simp)
  ·exact M.la y hy z hz
 ·rcases Aw.mp hz with rfl | hz
  ·exact st'.2.2 y hy _ (by simp)
  ·exact M.lb y (by rw [et];exact AX _ hy) z hz
theorem Mh.pushAs {A B R:List Keyed}{t j:Nat}(sA:Srt κ A):∀ k,Mh κ A B R (t+k) j→Lel κ (B.take j) ((A.drop t).take k)→Mh κ A B ((A.drop t).take k++R) t j
 | 0,M,_=>by simpa using M
 | k+1,M,hl=>by
  have hlt:t+k < A.length:=by have:=M.hi;omega
  have e:(A.drop t)[k]? = some A[t+k]:=by rw [Bb,Ac hlt]
  have et:(A.drop t).take (k+1)=(A.drop t).take k++[A[t+k]]:=bp e
  rw [et] at hl ⊢
  have M1:Mh κ A B (A[t+k]::R) (t+k) j:=Mh.pushA M sA (Ac hlt) fun y hy z hz=>hl y hy z (AJ _ hz)
  have:=Mh.pushAs sA k M1 fun y hy z hz=>hl y hy z (AX _ hz)
  rw [Am]
  exact this
theorem Mh.pushBs {A B R:List Keyed}{t i:Nat}(sB:Srt κ B):∀ k,Mh κ A B R i (t+k)→Lel κ (A.take i) ((B.drop t).take k)→Mh κ A B ((B.drop t).take k++R) i t
 | 0,M,_=>by simpa using M
 | k+1,M,hl=>by
  have hlt:t+k < B.length:=by have:=M.hj;omega
  have e:(B.drop t)[k]? = some B[t+k]:=by rw [Bb,Ac hlt]
  have et:(B.drop t).take (k+1)=(B.drop t).take k++[B[t+k]]:=bp e
  rw [et] at hl ⊢
  have M1:Mh κ A B (B[t+k]::R) i (t+k):=Mh.pushB M sB (Ac hlt) fun y hy z hz=>hl y hy z (AJ _ hz)
  have:=Mh.pushBs sB k M1 fun y hy z hz=>hl y hy z (AX _ hz)
  rw [Am]
  exact this
theorem Mh.perm {A B R:List Keyed}{i j:Nat}(M:Mh κ A B R i j):(A.take i++B.take j++R).Perm (A++B):=by
 have h1:(A.take i++B.take j++R).Perm (A.take i++B.take j++(A.drop i++B.drop j)):=M.pm.append_left _
 refine h1.trans ?_
 have h2:((A.take i++B.take j)++(A.drop i++B.drop j)).Perm ((A.take i++A.drop i)++(B.take j++B.drop j)):=by
  rw [Am,Am]
  refine BE _ ?_
  rw [← Am,← Am]
  exact CW _ B7
 rw [AD,AD] at h2
 exact h2
theorem Mh.done {A B R:List Keyed}{i j:Nat}(M:Mh κ A B R i j)(sA:Srt κ A)(sB:Srt κ B)(h:i=0 ∨ j=0):Mg κ A B (A.take i++B.take j++R):=by
 refine ⟨M.perm,br.mpr ⟨br.mpr ⟨sA.take i,sB.take j,fun x hx y hy=>?_⟩,M.so,fun o ho y hy=>?_⟩⟩
 ·rcases h with h | h
  ·subst h;simp at hx
  ·subst h;simp at hy
 ·rcases Ax.mp ho with ho | ho
  ·exact M.la o ho y hy
  ·exact M.lb o ho y hy
theorem Mh.first {A B R:List Keyed}{i j:Nat}(M:Mh κ A B R i j)(sA:Srt κ A)(sB:Srt κ B)(h:j=1)(hf:∀ z,B[0]? = some z→Lel κ [z] A):Mg κ A B (B.take j++A.take i++R):=by
 refine ⟨List.Perm.trans (CW _ B7) M.perm,br.mpr ⟨br.mpr ⟨sB.take j,sA.take i,fun x hx y hy=>?_⟩,M.so,fun o ho y hy=>?_⟩⟩
 ·subst h
  cases B with
  | nil=>simp at hx
  | cons z B =>
   have hx:x=z:=by simpa using hx
   subst hx
   exact hf x rfl x (by simp) y (BM hy)
 ·rcases Ax.mp ho with ho | ho
  ·exact M.lb o ho y hy
  ·exact M.la o ho y hy
theorem rD (a b o:Array Keyed)(i j:Nat):(hDn a b o i j).toList=a.toList.take i++b.toList.take j++o.toList.reverse:=by
 simp [hDn,Bv]
theorem rE (a b o:Array Keyed)(i j:Nat):(hFb a b o i j).toList=b.toList.take j++a.toList.take i++o.toList.reverse:=by
 simp [hFb,Bv]
theorem o8 (a:Array Keyed)(t i:Nat):((a.extract t i).reverse).toList.reverse=(a.toList.drop t).take (i - t):=by
 simp [Bv]
section
variable {prog:Program} {w:World} {A:Around} {E:Value→Shared→Prop} {s:Shared}
theorem mj {st:SortSt}{lf:Bool}{key:Keyed}{arr:Array Keyed}{n:Nat}{Q:Option Nat→SortSt→Prop}(hO:κ.OneLt)(hB:TB st)(hk:Gd κ key)(hg:∀ x∈arr.toList,Gd κ x)(sa:Srt κ arr.toList)(hn:0 < n)(hna:n≤arr.size)
  (hq:∀ k,k≤n→(∀ x∈arr.toList.take k,bdB κ lf (kof κ key) (kof κ x)=true)→(∀ x∈(arr.toList.drop k).take (n - k),bdB κ lf (kof κ key) (kof κ x)=false)→Q (some k) st) :
  wpS (model prog w) A E s (gal lf key arr 0 n (n - 1)) Q st:=by
 have hl:arr.toList.length=arr.size:=Ai
 refine kE hO hB hk (fun t=>match arr.toList[t]? with | some p=>bdB κ lf (kof κ key) (kof κ p) | none=>false) (by omega) (fun t ht=>?_) (fun t u htu hu hb=>?_) (fun k hk' h1 h2=>hq k (by omega) (fun x hx=>?_) fun x hx=>?_)
 ·have hlt:t < arr.toList.length:=by omega
  have e:=Ac hlt
  refine ⟨arr.toList[t],by rw [Eb];simpa using e,hg _ (AS hlt),?_⟩
  rw [e]
 ·have h1:t < arr.toList.length:=by omega
  have h2:u < arr.toList.length:=by omega
  have e1:=Ac h1
  have e2:=Ac h2
  rw [e2] at hb
  rw [e1]
  exact mh (sa.at (by omega) e1 e2) hb
 ·obtain ⟨t,e⟩:=Bw hx
  have ht:t < k:=by
   have:=(Ah.mp e).1
   rw [Aj] at this
   omega
  rw [B8,if_pos ht] at e
  have:=h1 t ht
  rw [e] at this
  exact this
 ·obtain ⟨t,e⟩:=Bw hx
  have ht:t < n - k:=by
   have:=(Ah.mp e).1
   rw [Aj] at this
   omega
  rw [B8,if_pos ht,Bb] at e
  have:=h2 (k+t) (by omega) (by omega)
  rw [e] at this
  exact this
theorem iX {l:List Keyed}(sl:Srt κ l){i:Nat}{x y:Keyed}(e:l[i]? = some y)(h:lek κ y x):Lel κ (l.take (i+1)) [x]:=fun z hz t ht=>by
 rw [Af] at ht
 subst ht
 rw [bp e] at hz
 rcases Ax.mp hz with hz | hz
 ·have st:=sl.take (i+1)
  rw [bp e] at st
  exact eJ ((br.mp st).2.2 z hz y (by simp)) h
 ·rw [Af] at hz
  subst hz
  exact h
structure nc (κ:KeyKind) (a b:Array Keyed):Prop where
 ga:∀ x∈a.toList,Gd κ x
 gb:∀ x∈b.toList,Gd κ x
 sa:Srt κ a.toList
 sb:Srt κ b.toList
 hf:∀ z,b.toList[0]? = some z→Lel κ [z] a.toList
theorem nc.atA {a b:Array Keyed}(T:nc κ a b){i:Nat}(hi:i < a.size):∃ x,a.toList[i]? = some x∧Gd κ x:=⟨a.toList[i]'(by rw [Ai]; exact hi),Ac (by rw [Ai]; exact hi),T.ga _ (AS _)⟩
theorem nc.atB {a b:Array Keyed}(T:nc κ a b){i:Nat}(hi:i < b.size):∃ x,b.toList[i]? = some x∧Gd κ x:=⟨b.toList[i]'(by rw [Ai]; exact hi),Ac (by rw [Ai]; exact hi),T.gb _ (AS _)⟩
theorem nc.dn {a b:Array Keyed}(T:nc κ a b){o:Array Keyed}{i j:Nat}(M:Mh κ a.toList b.toList o.toList.reverse i j)(h:i=0 ∨ j=0):Mg κ a.toList b.toList (hDn a b o i j).toList:=by
 rw [rD]
 exact M.done T.sa T.sb h
theorem nc.fb {a b:Array Keyed}(T:nc κ a b){o:Array Keyed}{i j:Nat}(M:Mh κ a.toList b.toList o.toList.reverse i j)(h:j=1):Mg κ a.toList b.toList (hFb a b o i j).toList:=by
 rw [rE]
 exact M.first T.sa T.sb h T.hf
theorem fO (o:Array Keyed)(x:Keyed):(o.push x).toList.reverse=x::o.toList.reverse:=by simp
theorem o9 (o:Array Keyed)(a:Array Keyed)(t i:Nat):(o++(a.extract t i).reverse).toList.reverse=(a.toList.drop t).take (i - t)++o.toList.reverse:=by
 rw [Dj,List.reverse_append,o8]
abbrev HSt:=Option (Array Keyed) × Nat × Nat × Array Keyed × Nat × Nat × Nat
def hq3 (a b:Array Keyed)(i g p q j:Nat)(o:Array Keyed):StateT SortSt Sem (ForInStep HSt):=do
 let e ← elem' a (i - 1)
 if (i - 1 == 0)=true then pure (.done (some (hDn a b (o.push e) (i - 1) j),i - 1,j,o.push e,g,p,q))
 else if (decide (p < 7) && decide (q < 7))=true then pure (.done (none,i - 1,j,o.push e,g,p,q)) else pure (.yield (none,i - 1,j,o.push e,g,p,q))
def hq2 (a b:Array Keyed)(j g p q i:Nat)(o:Array Keyed):StateT SortSt Sem (ForInStep HSt):=do
 let e ← elem' b (j - 1)
 if (j - 1 == 1)=true then pure (.done (some (hFb a b (o.push e) i (j - 1)),i,j - 1,o.push e,g,p,q))
 else do
  let f ← elem' a (i - 1)
  let y ← gal true f b 0 (j - 1) (j - 1 - 1)
  match y with
  | some t=>if j - 1 - t > 0 then (if (t == 1)=true then pure (.done (some (hFb a b (o.push e++(b.extract t (j - 1)).reverse) i t),i,t,o.push e++(b.extract t (j - 1)).reverse,g,p,j - 1 - t)) else if (t == 0)=true then pure (.done (some (hDn a b (o.push e++(b.extract t (j - 1)).reverse) i t),i,t,o.push e++(b.extract t (j - 1)).reverse,g,p,j - 1 - t)) else hq3 a b i g p (j - 1 - t) t (o.push e++(b.extract t (j - 1)).reverse)) else hq3 a b i g p (j - 1 - t) (j - 1) (o.push e)
  | _=>pure (.done (some (hDn a b (o.push e) i (j - 1)),i,j - 1,o.push e,g,p,q))
def hq1 (a b:Array Keyed)(i j:Nat)(o:Array Keyed)(p q g:Nat):StateT SortSt Sem (ForInStep HSt):=do
 smg g
 let e ← elem' b (j - 1)
 let y ← gal false e a 0 i (i - 1)
 match y with
 | some t=>if i - t > 0 then (if (t == 0)=true then pure (.done (some (hDn a b (o++(a.extract t i).reverse) t j),t,j,o++(a.extract t i).reverse,g,i - t,q)) else hq2 a b j g (i - t) q t (o++(a.extract t i).reverse)) else hq2 a b j g (i - t) q i o
 | _=>pure (.done (some (hDn a b o i j),i,j,o,g,p,q))
def Hst (κ:KeyKind)(a b:Array Keyed)(x:Nat)(st:SortSt)(r:ForInStep HSt)(st':SortSt):Prop:=match r with
 | .done c=>((∃ r z,c=(some r,z)∧Mg κ a.toList b.toList r.toList) ∨ ∃ i j o g p q,c=(none,i,j,o,g,p,q)∧Mh κ a.toList b.toList o.toList.reverse i j∧0 < i∧1 < j∧x+2+i+j≤a.size+b.size)∧Ok st st'
 | .yield c=>∃ i j o g p q,c=(none,i,j,o,g,p,q)∧Mh κ a.toList b.toList o.toList.reverse i j∧0 < i∧1 < j∧x+2+i+j≤a.size+b.size∧Ok st st'
theorem o_ {st st':SortSt}{a b o:Array Keyed}{i j g p q x:Nat}{xa:Keyed}(T:nc κ a b)(M:Mh κ a.toList b.toList o.toList.reverse i j)(hi:0 < i)(hj:1 < j)(hx:x+2+i+j≤a.size+b.size)(ok:Ok st st')(exa:a.toList[i - 1]? = some xa)(hle:Lel κ (b.toList.take j) [xa]) :
  wpS (model prog w) A E s (hq3 a b i g p q j o) (Hst κ a b x st) st':=by
 unfold hq3
 refine Ao (aY exa ?_)
 have M':Mh κ a.toList b.toList (o.push xa).toList.reverse (i - 1) j:=by
  rw [fO]
  exact Mh.pushA (by rw [show i - 1+1=i by omega];exact M) T.sa exa hle
 by_cases h0:i - 1=0
 ·refine aI (by simpa using h0) ?_
  exact Au ⟨.inl ⟨_,_,rfl,T.dn M' (.inl h0)⟩,ok⟩
 ·refine aJ (by simpa using h0) ?_
  by_cases hpq:(decide (p < 7) && decide (q < 7))=true
  ·refine aI hpq ?_
   exact Au ⟨.inr ⟨_,_,_,_,_,_,rfl,M',by omega,hj,by omega⟩,ok⟩
  ·refine aJ hpq ?_
   exact Au ⟨_,_,_,_,_,_,rfl,M',by omega,hj,by omega,ok⟩
theorem pe {st st':SortSt}{a b o:Array Keyed}{i j g p q x:Nat}{xb:Keyed}(hO:κ.OneLt)(T:nc κ a b)(M:Mh κ a.toList b.toList o.toList.reverse i j)(hi:0 < i)(hj:1 < j)(hx:x+2+i+j≤a.size+b.size)(ok:Ok st st')(exb:b.toList[j - 1]? = some xb)(hle:Lel κ (a.toList.take i) [xb]) :
  wpS (model prog w) A E s (hq2 a b j g p q i o) (Hst κ a b x st) st':=by
 have la:a.toList.length=a.size:=Ai
 have lb:b.toList.length=b.size:=Ai
 have hia:=M.hi
 have hjb:=M.hj
 unfold hq2
 refine Ao (aY exb ?_)
 have M':Mh κ a.toList b.toList (o.push xb).toList.reverse i (j - 1):=by
  rw [fO]
  exact Mh.pushB (by rw [show j - 1+1=j by omega];exact M) T.sb exb hle
 by_cases h1:j - 1=1
 ·refine aI (by simpa using h1) ?_
  exact Au ⟨.inl ⟨_,_,rfl,T.fb M' h1⟩,ok⟩
 refine aJ (by simpa using h1) ?_
 obtain ⟨xa,exa,gxa⟩:=T.atA (i:=i - 1) (by omega)
 refine Ao (aY exa (Ao (mj hO ok.tb gxa T.gb T.sb (by omega) (by omega) fun t ht t1 t2=>?_)))
 dsimp only
 have up:Lel κ (b.toList.take t) [xa]:=fun z hz y hy=>by
  rw [Af] at hy
  subst hy
  exact kF (t1 z hz)
 have MB:Mh κ a.toList b.toList ((b.toList.drop t).take (j - 1 - t)++(o.push xb).toList.reverse) i t:=Mh.pushBs T.sb (j - 1 - t) (by rw [show t+(j - 1 - t)=j - 1 by omega];exact M') fun y hy z hz=>by
  have:=iX T.sa exa (iW (t2 z hz))
  rw [show i - 1+1=i by omega] at this
  exact this y hy z (by simp)
 by_cases hk0:j - 1 - t > 0
 ·refine aI hk0 ?_
  have MB':Mh κ a.toList b.toList (o.push xb++(b.extract t (j - 1)).reverse).toList.reverse i t:=by rw [o9];exact MB
  by_cases ht1:t=1
  ·refine aI (by simpa using ht1) ?_
   exact Au ⟨.inl ⟨_,_,rfl,T.fb MB' ht1⟩,ok⟩
  ·refine aJ (by simpa using ht1) ?_
   by_cases ht0:t=0
   ·refine aI (by simpa using ht0) ?_
    exact Au ⟨.inl ⟨_,_,rfl,T.dn MB' (.inr ht0)⟩,ok⟩
   ·refine aJ (by simpa using ht0) ?_
    exact o_ T MB' hi (by omega) (by omega) ok exa up
 ·refine aJ hk0 ?_
  have:t=j - 1:=by omega
  subst this
  exact o_ T M' hi (by omega) (by omega) ok exa up
theorem pf {st st':SortSt}{a b o:Array Keyed}{i j g p q x:Nat}(hO:κ.OneLt)(T:nc κ a b)(M:Mh κ a.toList b.toList o.toList.reverse i j)(hi:0 < i)(hj:1 < j)(hx:x+2+i+j≤a.size+b.size)(ok:Ok st st') :
  wpS (model prog w) A E s (hq1 a b i j o p q g) (Hst κ a b x st) st':=by
 have la:a.toList.length=a.size:=Ai
 have lb:b.toList.length=b.size:=Ai
 have hia:=M.hi
 have hjb:=M.hj
 unfold hq1
 refine Ao (iV ok fun st3 ok3=>?_)
 obtain ⟨xb,exb,gxb⟩:=T.atB (i:=j - 1) (by omega)
 refine Ao (aY exb (Ao (mj hO ok3.tb gxb T.ga T.sa hi (by omega) fun t ht t1 t2=>?_)))
 dsimp only
 have up:Lel κ (a.toList.take t) [xb]:=fun z hz y hy=>by
  rw [Af] at hy
  subst hy
  exact fN (t1 z hz)
 have MA:Mh κ a.toList b.toList ((a.toList.drop t).take (i - t)++o.toList.reverse) t j:=Mh.pushAs T.sa (i - t) (by rw [show t+(i - t)=i by omega];exact M) fun y hy z hz=>by
  have:=iX T.sb exb (gC (t2 z hz))
  rw [show j - 1+1=j by omega] at this
  exact this y hy z (by simp)
 by_cases hk0:i - t > 0
 ·refine aI hk0 ?_
  have MA':Mh κ a.toList b.toList (o++(a.extract t i).reverse).toList.reverse t j:=by rw [o9];exact MA
  by_cases ht0:t=0
  ·refine aI (by simpa using ht0) ?_
   exact Au ⟨.inl ⟨_,_,rfl,T.dn MA' (.inl ht0)⟩,ok3⟩
  ·refine aJ (by simpa using ht0) ?_
   exact pe hO T MA' (by omega) hj (by omega) ok3 exb up
 ·refine aJ hk0 ?_
  have:t=i:=by omega
  subst this
  exact pe hO T M hi hj hx ok3 exb up
theorem uB {st:SortSt}{a b:Array Keyed}{Q:Array Keyed→SortSt→Prop}(hO:κ.OneLt)(hB:TB st)(T:nc κ a b)(h0:0 < a.size)(h1:0 < b.size)
  (hl:∀ z,a.toList[a.size - 1]? = some z→Lel κ b.toList [z])
  (hq:∀ r st',Ok st st'→Mg κ a.toList b.toList r.toList→Q r st'):wpS (model prog w) A E s (mhi a b) Q st:=by
 have la:a.toList.length=a.size:=Ai
 have lb:b.toList.length=b.size:=Ai
 rw [wu]
 refine Ao (D4 (Bm ⟨rfl,?_⟩))
 dsimp only
 obtain ⟨z0,ez0,gz0⟩:=T.atA (i:=a.size - 1) (by omega)
 refine Ao (aY ez0 ?_)
 have M0:Mh κ a.toList b.toList (#[z0]:Array Keyed).toList.reverse (a.size - 1) b.size:=by
  have:Mh κ a.toList b.toList [z0] (a.size - 1) b.size:=Mh.pushA (R:=[]) (by
   rw [show a.size - 1+1=a.size by omega]
   refine ⟨?_,.nil,(fun x hx y hy=>by cases hy),(fun x hx y hy=>by cases hy),by omega,by omega⟩
   rw [BY (by omega),BY (by omega)]
   exact Cs _) T.sa ez0 (by rw [Aq (by omega)];exact hl _ ez0)
  exact this
 by_cases ha1:a.size - 1=0
 ·refine aI (by simpa using ha1) ?_
  exact Au (hq _ _ (.refl hB) (T.dn M0 (.inl ha1)))
 refine aJ (by simpa using ha1) ?_
 by_cases hb1:b.size=1
 ·refine aI (by simpa using hb1) ?_
  exact Au (hq _ _ (.refl hB) (T.fb M0 hb1))
 refine aJ (by simpa using hb1) ?_
 refine Ao (Dx ?_)
 refine Ao (BW (Bj (I:=fun x c st'=>∃ i j o g,c=(none,i,j,o,g)∧Mh κ a.toList b.toList o.toList.reverse i j∧0 < i∧1 < j∧x+1+i+j≤a.size+b.size∧Ok st st')
  (Q:=fun c st'=>∃ r z,c=(some r,z)∧Mg κ a.toList b.toList r.toList∧Ok st st') ?step ?fin ⟨_,_,_,_,rfl,M0,by omega,by omega,by omega,.refl hB⟩) ?post)
 case post =>
  rintro c st' ⟨r,z,rfl,m,ok⟩
  exact Au (hq _ _ ok m)
 case fin =>
  rintro c st' ⟨i,j,o,g,rfl,M,hi,hj,hx,ok⟩
  omega
 case step =>
  rintro x c st1 _ hx ⟨i,j,o,g,rfl,M,hi,hj,hij,ok1⟩
  dsimp only
  refine Ao (BW (Bj (I:=fun y c st'=>st'=st1∧∃ i j o p q,c=(none,i,j,o,p,q)∧Mh κ a.toList b.toList o.toList.reverse i j∧0 < i∧1 < j∧x+1+y+i+j≤a.size+b.size)
   (Q:=fun c st'=>st'=st1∧((∃ r z,c=(some r,z)∧Mg κ a.toList b.toList r.toList) ∨ ∃ i j o p q,c=(none,i,j,o,p,q)∧Mh κ a.toList b.toList o.toList.reverse i j∧0 < i∧1 < j∧x+2+i+j≤a.size+b.size)) ?step1 ?fin1 ⟨rfl,i,j,o,0,0,rfl,M,hi,hj,by omega⟩) ?post1)
  case fin1 =>
   rintro c st' ⟨rfl,i,j,o,p,q,rfl,M,hi,hj,hy⟩
   exact ⟨rfl,.inr ⟨i,j,o,p,q,rfl,M,hi,hj,by omega⟩⟩
  case step1 =>
   rintro y c st' _ hy ⟨rfl,i,j,o,p,q,rfl,M,hi,hj,hij⟩
   dsimp only
   have hia:=M.hi
   have hjb:=M.hj
   obtain ⟨xb,exb,gxb⟩:=T.atB (i:=j - 1) (by omega)
   obtain ⟨xa,exa,gxa⟩:=T.atA (i:=i - 1) (by omega)
   refine Ao (aY exb (Ao (aY exa (Ao (l_ hO ok1.tb gxb gxa ?_)))))
   cases eb:κ.blt (kof κ xb) (kof κ xa) with
   | true =>
    simp only [BX]
    refine Ao (aY exa ?_)
    have M':Mh κ a.toList b.toList (o.push xa).toList.reverse (i - 1) j:=by
     rw [fO]
     refine Mh.pushA (by rw [show i - 1+1=i by omega];exact M) T.sa exa ?_
     have:=iX T.sb exb (rB eb)
     rwa [show j - 1+1=j by omega] at this
    by_cases hi0:i - 1=0
    ·refine aI (by simpa using hi0) ?_
     exact Au ⟨rfl,.inl ⟨_,_,rfl,T.dn M' (.inl hi0)⟩⟩
    ·refine aJ (by simpa using hi0) ?_
     by_cases hpg:p+1≥g
     ·refine aI hpg ?_
      exact Au ⟨rfl,.inr ⟨_,_,_,_,_,rfl,M',by omega,hj,by omega⟩⟩
     ·refine aJ hpg ?_
      exact Au ⟨rfl,_,_,_,_,_,rfl,M',by omega,hj,by omega⟩
   | false =>
    simp only [Ar,Bl]
    refine Ao (aY exb ?_)
    have M':Mh κ a.toList b.toList (o.push xb).toList.reverse i (j - 1):=by
     rw [fO]
     refine Mh.pushB (by rw [show j - 1+1=j by omega];exact M) T.sb exb ?_
     have:=iX T.sa exa (not_lt eb)
     rwa [show i - 1+1=i by omega] at this
    by_cases hj1:j - 1=1
    ·refine aI (by simpa using hj1) ?_
     exact Au ⟨rfl,.inl ⟨_,_,rfl,T.fb M' hj1⟩⟩
    ·refine aJ (by simpa using hj1) ?_
     by_cases hqg:q+1≥g
     ·refine aI hqg ?_
      exact Au ⟨rfl,.inr ⟨_,_,_,_,_,rfl,M',hi,by omega,by omega⟩⟩
     ·refine aJ hqg ?_
      exact Au ⟨rfl,_,_,_,_,_,rfl,M',hi,by omega,by omega⟩
  case post1 =>
   rintro c st' ⟨rfl,⟨r,z,rfl,m⟩ | ⟨i,j,o,p,q,rfl,M,hi,hj,hij⟩⟩
   ·exact Au ⟨r,_,rfl,m,ok1⟩
   dsimp only
   refine Ao (D4 (Bm ⟨rfl,?_⟩))
   refine Ao (BW (Bj (I:=fun y c st'=>∃ i j o g p q,c=(none,i,j,o,g,p,q)∧Mh κ a.toList b.toList o.toList.reverse i j∧0 < i∧1 < j∧x+2+i+j≤a.size+b.size∧Ok st st')
    (Q:=fun c st'=>((∃ r z,c=(some r,z)∧Mg κ a.toList b.toList r.toList) ∨ ∃ i j o g p q,c=(none,i,j,o,g,p,q)∧Mh κ a.toList b.toList o.toList.reverse i j∧0 < i∧1 < j∧x+2+i+j≤a.size+b.size)∧Ok st st') ?step2 ?fin2 ⟨i,j,o,_,p,q,rfl,M,hi,hj,hij,ok1⟩) ?post2)
   case fin2 =>
    rintro c st' ⟨i,j,o,g,p,q,rfl,M,hi,hj,hij,ok⟩
    exact ⟨.inr ⟨i,j,o,g,p,q,rfl,M,hi,hj,hij⟩,ok⟩
   case post2 =>
    rintro c st' ⟨⟨r,z,rfl,m⟩ | ⟨i,j,o,g,p,q,rfl,M,hi,hj,hij⟩,ok⟩
    ·exact Au ⟨r,_,rfl,m,ok⟩
    ·dsimp only
     exact Ao (iV ok fun st'' ok'=>Au ⟨i,j,o,_,rfl,M,hi,hj,by omega,ok'⟩)
   case step2 =>
    rintro y c st2 _ hy ⟨i,j,o,g,p,q,rfl,M,hi,hj,hij,ok2⟩
    dsimp only
    change wpS _ _ _ _ (if g > 1 then hq1 a b i j o p q (g - 1) else hq1 a b i j o p q g) _ _
    refine BW (Q:=Hst κ a b x st) ?_ fun r st' h=>?_
    rotate_left
    ·cases r with
     | done c=>exact h
     | yield c=>exact h
    by_cases hg:g > 1
    ·refine aI hg ?_
     exact pf hO T M hi hj hij ok2
    ·refine aJ hg ?_
     exact pf hO T M hi hj hij ok2
end
end Ts
namespace Ts
open PySem PyProof.Rows
variable {κ:KeyKind}
def SrI (κ:KeyKind)(xs:Array Keyed)(lo hi:Nat):Prop:=∀ i j,lo≤i→i≤j→j < hi→κ.kle (KK κ xs i) (KK κ xs j)
def NiI (κ:KeyKind)(xs:Array Keyed)(lo hi:Nat):Prop:=∀ i j,lo≤i→i≤j→j < hi→κ.kle (KK κ xs j) (KK κ xs i)
structure Rp (lo hi:Nat) (xs ys:Array Keyed):Prop where
 pm:ys.Perm xs
 out:∀ k,(k < lo ∨ hi≤k)→ys[k]? = xs[k]?
theorem Rp.refl (lo hi:Nat)(xs:Array Keyed):Rp lo hi xs xs:=⟨DZ _,fun _ _=>rfl⟩
theorem Rp.trans {lo hi:Nat}{xs ys zs:Array Keyed}(h:Rp lo hi xs ys)(g:Rp lo hi ys zs):Rp lo hi xs zs:=⟨g.pm.trans h.pm,fun k hk=>(g.out k hk).trans (h.out k hk)⟩
theorem Rp.size {lo hi:Nat}{xs ys:Array Keyed}(h:Rp lo hi xs ys):ys.size=xs.size:=h.pm.size_eq
theorem Rp.mirror {lo hi i j:Nat}{xs:Array Keyed}(h1:lo≤i)(h2:j≤hi)(hj:j≤xs.size):Rp lo hi xs (mirror xs i j ((j - i) / 2)):=by
 refine ⟨mirror_perm _ _ _ _,fun k hk=>?_⟩
 rw [getElem?_mirror_all hj,if_neg (by omega)]
theorem Rp.bubble {lo hi src d:Nat}{xs:Array Keyed}(h1:lo+d≤src)(h2:src < hi)(hs:src < xs.size):Rp lo hi xs (bubble xs src d):=by
 refine ⟨bubble_perm _ _ _,fun k hk=>?_⟩
 rw [getElem?_bubble hs d (by omega),if_neg (by omega),if_neg (by omega)]
structure Rs (κ:KeyKind) (lo hi:Nat) (st st':SortSt):Prop where
 tb:TB st'
 pd:pendingOf st'=pendingOf st
 gd:∀ x∈(arrOf st').toList,Gd κ x
 rp:Rp lo hi (arrOf st) (arrOf st')
theorem Rs.refl {lo hi:Nat}{st:SortSt}(h:TB st)(g:∀ x∈(arrOf st).toList,Gd κ x):Rs κ lo hi st st:=⟨h,rfl,g,.refl _ _ _⟩
theorem Rs.arr {lo hi:Nat}{st st':SortSt}(h:Rs κ lo hi st st'){ys:Array Keyed}(r:Rp lo hi (arrOf st') ys):Rs κ lo hi st (setArr st' ys) :=
 ⟨⟨h.tb.kind,h.tb.failed⟩,h.pd,fun x hx=>h.gd x ((B0.mp r.pm).mem_iff.mp hx),h.rp.trans r⟩
theorem wx {xs:Array Keyed}(g:∀ x∈xs.toList,Gd κ x){i:Nat}(hi:i < xs.size):∃ x p,xs[i]? = some (x,p)∧κ.keyOf x=some (KK κ xs i):=by
 have e:xs[i]? = some xs[i]:=Bx xs i hi
 refine ⟨xs[i].1,xs[i].2,e,?_⟩
 have:=(g xs[i] (by simp)).eq
 rw [this]
 unfold KK kof
 rw [e]
section
variable {prog:Program} {w:World} {A:Around} {E:Value→Shared→Prop} {s:Shared}
theorem e_ {st:SortSt}{i j:Nat}{Q:Option Bool→SortSt→Prop}(hO:κ.OneLt)(hB:TB st)(g:∀ x∈(arrOf st).toList,Gd κ x)(hi:i < (arrOf st).size)(hj:j < (arrOf st).size)
  (h:Q (some (κ.blt (KK κ (arrOf st) i) (KK κ (arrOf st) j))) st):wpS (model prog w) A E s (ltAt' i j) Q st:=by
 obtain ⟨x,p,e1,k1⟩:=wx g hi
 obtain ⟨y,q,e2,k2⟩:=wx g hj
 exact wpS_ltAtK hO hB.kind e1 e2 k1 k2 h
def yj (lo a nr:Nat):StateT SortSt Sem (Option Nat):=do
 let mut n:=a
 for _ in [a:nr] do
  let some sm ← ltAt' (lo+n) (lo+n - 1) | return none
  if sm then break
  n:=n+1
 return some n
def uC (lo a nr:Nat):StateT SortSt Sem (Option Nat):=do
 reverseSlice' lo (lo+a)
 yj lo a nr
def yk (lo a nr:Nat):StateT SortSt Sem (Option Nat):=do
 rule "list.sort.descending-run"
 let mut n:=a+1
 let mut e:=0
 for _ in [a+1:nr] do
  let some sm ← ltAt' (lo+n) (lo+n - 1) | return none
  if sm then
   if e > 0 then reverseSlice' (lo+n - (e+1)) (lo+n)
   e:=0
  else
   let some lg ← ltAt' (lo+n - 1) (lo+n) | return none
   if lg then break
   e:=e+1
  n:=n+1
 if e > 0 then reverseSlice' (lo+n - (e+1)) (lo+n)
 uC lo n nr
theorem ph {xs:Array Keyed}{lo x:Nat}(a1:SrI κ xs lo (lo+x))(h1:1≤x)(e:κ.blt (KK κ xs (lo+x)) (KK κ xs (lo+x - 1))=false):SrI κ xs lo (lo+(x+1)):=fun i j hi hij hj=>by
 by_cases q:j < lo+x
 ·exact a1 i j hi hij q
 ·have:j=lo+x:=by omega
  subst this
  by_cases q2:i=lo+x
  ·subst q2;exact BA _
  ·exact Cq (a1 i (lo+x - 1) hi (by omega) (by omega)) e
theorem rF {st:SortSt}{lo a nr:Nat}{Q:Option Nat→SortSt→Prop}(hO:κ.OneLt)(hB:TB st)(g:∀ x∈(arrOf st).toList,Gd κ x)(h1:1≤a)(h2:a≤nr)(h3:lo+nr≤(arrOf st).size)(hs:SrI κ (arrOf st) lo (lo+a))
  (h:∀ n,a≤n→n≤nr→SrI κ (arrOf st) lo (lo+n)→Q (some n) st):wpS (model prog w) A E s (yj lo a nr) Q st:=by
 unfold yj
 refine Ao (BW (Bj (I:=fun x c st'=>st'=st∧c=(none,x)∧SrI κ (arrOf st) lo (lo+x))
  (Q:=fun c st'=>st'=st∧∃ n,c=(none,n)∧a≤n∧n≤nr∧SrI κ (arrOf st) lo (lo+n)∧(n=nr ∨ κ.klt (KK κ (arrOf st) (lo+n)) (KK κ (arrOf st) (lo+n - 1)))) ?step ?fin ⟨rfl,rfl,hs⟩) ?post)
 case fin =>
  rintro c st' ⟨rfl,rfl,a1⟩
  have e:max a nr=nr:=by omega
  rw [e] at a1 ⊢
  exact ⟨rfl,nr,rfl,by omega,Al _,a1,.inl rfl⟩
 case step =>
  rintro x c st' hx1 hx2 ⟨rfl,rfl,a1⟩
  dsimp only
  refine Ao (e_ hO hB g (by omega) (by omega) ?_)
  cases e:κ.blt (KK κ (arrOf st') (lo+x)) (KK κ (arrOf st') (lo+x - 1)) with
  | true =>
   simp only [BX]
   exact Au ⟨rfl,x,rfl,hx1,by omega,a1,.inr e⟩
  | false =>
   simp only [Ar,Bl]
   exact Au ⟨rfl,rfl,ph a1 (by omega) e⟩
 case post =>
  rintro c st' ⟨rfl,n,rfl,a1,a2,a3,a4⟩
  exact Au (h n a1 a2 a3)
theorem jU {st st':SortSt}{lo a nr:Nat}{Q:Option Nat→SortSt→Prop}(hO:κ.OneLt)(R:Rs κ lo (lo+nr) st st')(h1:1≤a)(h2:a≤nr)(h3:lo+nr≤(arrOf st).size)(hs:NiI κ (arrOf st') lo (lo+a))
  (h:∀ n st'',1≤n→n≤nr→Rs κ lo (lo+nr) st st''→SrI κ (arrOf st'') lo (lo+n)→Q (some n) st''):wpS (model prog w) A E s (uC lo a nr) Q st':=by
 have hz:=R.rp.size
 unfold uC
 refine Ao (wpS_reverse ?_)
 have R':Rs κ lo (lo+nr) st (setArr st' (mirror (arrOf st') lo (lo+a) ((lo+a - lo) / 2))):=R.arr (Rp.mirror (Al _) (by omega) (by omega))
 refine rF hO R'.tb R'.gd h1 h2 (by rw [R'.rp.size];exact h3) (fun i j hi hij hj=>?_) fun n a1 a2 a3=>h n _ (by omega) a2 R' a3
 show κ.kle (KK κ (mirror (arrOf st') lo (lo+a) ((lo+a - lo) / 2)) i) (KK κ (mirror (arrOf st') lo (lo+a) ((lo+a - lo) / 2)) j)
 rw [KK_mirror (by omega),KK_mirror (by omega),if_pos (by omega),if_pos (by omega)]
 exact hs _ _ (by omega) (by omega) (by omega)
theorem ml {st st':SortSt}{lo a nr:Nat}{Q:Option Nat→SortSt→Prop}(hO:κ.OneLt)(R:Rs κ lo (lo+nr) st st')(h2:a+1≤nr)(h3:lo+nr≤(arrOf st).size)(hs:NiI κ (arrOf st') lo (lo+(a+1)))
  (h:∀ n st'',1≤n→n≤nr→Rs κ lo (lo+nr) st st''→SrI κ (arrOf st'') lo (lo+n)→Q (some n) st''):wpS (model prog w) A E s (yk lo a nr) Q st':=by
 unfold yk
 refine Ao (D4 (Bm ⟨rfl,?_⟩))
 dsimp only
 refine Ao (BW (Bj (I:=fun x c st''=>∃ e,c=(none,x,e)∧Rs κ lo (lo+nr) st st''∧NiI κ (arrOf st'') lo (lo+x)∧e+1≤x∧∀ i,lo+x - (e+1)≤i→i < lo+x→KK κ (arrOf st'') i=KK κ (arrOf st'') (lo+x - 1))
  (Q:=fun c st''=>∃ x e,c=(none,x,e)∧a+1≤x∧x≤nr∧Rs κ lo (lo+nr) st st''∧NiI κ (arrOf st'') lo (lo+x)∧e+1≤x∧∀ i,lo+x - (e+1)≤i→i < lo+x→KK κ (arrOf st'') i=KK κ (arrOf st'') (lo+x - 1)) ?step ?fin ⟨0,rfl,R,hs,by omega,fun i h1 h2=>by congr 1;omega⟩) ?post)
 case fin =>
  rintro c st'' ⟨e,rfl,R,hs,he,hk⟩
  have ex:max (a+1) nr=nr:=by omega
  rw [ex] at hs he hk ⊢
  exact ⟨nr,e,rfl,h2,Al _,R,hs,he,hk⟩
 case post =>
  rintro c st'' ⟨x,e,rfl,hx1,hx2,R,hs,he,hk⟩
  have hz:=R.rp.size
  dsimp only
  by_cases h0:e > 0
  ·refine aI h0 ?_
   refine Ao (wpS_reverse ?_)
   refine jU hO (R.arr (Rp.mirror (by omega) (by omega) (by omega))) (by omega) hx2 h3 (fun i j hi hij hj=>?_) h
   show κ.kle (KK κ (mirror (arrOf st'') _ _ _) j) (KK κ (mirror (arrOf st'') _ _ _) i)
   rw [CU (by omega) hk,CU (by omega) hk]
   exact hs i j hi hij hj
  ·refine aJ h0 ?_
   exact jU hO R (by omega) hx2 h3 hs h
 case step =>
  rintro x c st'' hx1 hx2 ⟨e,rfl,R,hs,he,hk⟩
  have hz:=R.rp.size
  dsimp only
  refine Ao (e_ hO R.tb R.gd (by omega) (by omega) ?_)
  cases e1:κ.blt (KK κ (arrOf st'') (lo+x)) (KK κ (arrOf st'') (lo+x - 1)) with
  | true =>
   simp only [BX]
   have nx:∀ xs:Array Keyed,(∀ k,KK κ xs k=KK κ (arrOf st'') k)→NiI κ xs lo (lo+(x+1)):=fun xs ek i j hi hij hj=>by
    rw [ek,ek]
    by_cases q:j < lo+x
    ·exact hs i j hi hij q
    ·have:j=lo+x:=by omega
     subst this
     by_cases q2:i=lo+x
     ·subst q2;exact BA _
     ·exact Cq (CD e1) (hs i (lo+x - 1) hi (by omega) (by omega))
   by_cases h0:e > 0
   ·refine aI h0 ?_
    exact Ao (wpS_reverse (Au ⟨0,rfl,R.arr (Rp.mirror (by omega) (by omega) (by omega)),nx _ (CU (by omega) hk),by omega,fun i h1 h2=>by congr 1;omega⟩))
   ·refine aJ h0 ?_
    exact Au ⟨0,rfl,R,nx _ fun _=>rfl,by omega,fun i h1 h2=>by congr 1;omega⟩
  | false =>
   simp only [Ar,Bl]
   refine Ao (e_ hO R.tb R.gd (by omega) (by omega) ?_)
   cases e2:κ.blt (KK κ (arrOf st'') (lo+x - 1)) (KK κ (arrOf st'') (lo+x)) with
   | true =>
    simp only [BX]
    exact Au ⟨x,e,rfl,hx1,by omega,R,hs,he,hk⟩
   | false =>
    simp only [Ar,Bl]
    have ee:KK κ (arrOf st'') (lo+x)=KK κ (arrOf st'') (lo+x - 1):=KeyOrd.kle_antisymm e2 e1
    refine Au ⟨e+1,rfl,R,fun i j hi hij hj=>?_,by omega,fun i h1 h2=>?_⟩
    ·by_cases q:j < lo+x
     ·exact hs i j hi hij q
     ·have:j=lo+x:=by omega
      subst this
      by_cases q2:i=lo+x
      ·subst q2;exact BA _
      ·rw [ee];exact hs i (lo+x - 1) hi (by omega) (by omega)
    ·rw [show lo+(x+1) - 1=lo+x by omega]
     by_cases q:i=lo+x
     ·subst q;rfl
     ·rw [ee];exact hk i (by omega) (by omega)
theorem rG {st:SortSt}{lo nr:Nat}{Q:Option Nat→SortSt→Prop}(hO:κ.OneLt)(hB:TB st)(g:∀ x∈(arrOf st).toList,Gd κ x)(h1:1≤nr)(h3:lo+nr≤(arrOf st).size)
  (h:∀ n st',1≤n→n≤nr→Rs κ lo (lo+nr) st st'→SrI κ (arrOf st') lo (lo+n)→Q (some n) st'):wpS (model prog w) A E s (countRun' lo nr) Q st:=by
 have R:Rs κ lo (lo+nr) st st:=.refl hB g
 rw [countRun'_eq]
 change wpS _ _ _ _ (do
  let mut n:=1
  for _ in [1:nr] do
   let some sm ← ltAt' (lo+n) (lo+n - 1) | return none
   if sm then break
   n:=n+1
  if n == nr then return some n
  if n > 1 then
   let some rs ← ltAt' lo (lo+n - 1) | return none
   if rs then return some n
   reverseSlice' lo (lo+n)
  yk lo n nr) _ _
 refine Ao (BW (Bj (I:=fun x c st'=>st'=st∧c=(none,x)∧SrI κ (arrOf st) lo (lo+x))
  (Q:=fun c st'=>st'=st∧∃ n,c=(none,n)∧1≤n∧n≤nr∧SrI κ (arrOf st) lo (lo+n)∧(n=nr ∨ κ.klt (KK κ (arrOf st) (lo+n)) (KK κ (arrOf st) (lo+n - 1)))) ?step ?fin ⟨rfl,rfl,fun i j hi hij hj=>by have:i=j:=(by omega);subst this;exact BA _⟩) ?post)
 case fin =>
  rintro c st' ⟨rfl,rfl,a1⟩
  have e:max 1 nr=nr:=by omega
  rw [e] at a1 ⊢
  exact ⟨rfl,nr,rfl,by omega,Al _,a1,.inl rfl⟩
 case step =>
  rintro x c st' hx1 hx2 ⟨rfl,rfl,a1⟩
  dsimp only
  refine Ao (e_ hO hB g (by omega) (by omega) ?_)
  cases e:κ.blt (KK κ (arrOf st') (lo+x)) (KK κ (arrOf st') (lo+x - 1)) with
  | true =>
   simp only [BX]
   exact Au ⟨rfl,x,rfl,hx1,by omega,a1,.inr e⟩
  | false =>
   simp only [Ar,Bl]
   exact Au ⟨rfl,rfl,ph a1 (by omega) e⟩
 rintro c st' ⟨rfl,n,rfl,a1,a2,a3,a4⟩
 dsimp only
 by_cases hn:n=nr
 ·refine aI (by simpa using hn) ?_
  exact Au (h n st' a1 a2 R a3)
 ·refine aJ (by simpa using hn) ?_
  have lt:κ.klt (KK κ (arrOf st') (lo+n)) (KK κ (arrOf st') (lo+n - 1)):=a4.resolve_left hn
  by_cases hg:n > 1
  ·refine aI hg ?_
   refine Ao (e_ hO hB g (by omega) (by omega) ?_)
   cases e:κ.blt (KK κ (arrOf st') lo) (KK κ (arrOf st') (lo+n - 1)) with
   | true =>
    simp only [BX]
    exact Au (h n st' a1 a2 R a3)
   | false =>
    simp only [Ar,Bl]
    refine Ao (wpS_reverse ?_)
    have same:∀ i,lo≤i→i < lo+n→KK κ (arrOf st') i=KK κ (arrOf st') (lo+n - 1):=fun i hi1 hi2=>by
     have b1:=a3 i (lo+n - 1) hi1 (by omega) (by omega)
     have b2:=a3 lo i (Al _) hi1 hi2
     exact KeyOrd.kle_antisymm b1 (Cq e b2)
    refine ml hO (R.arr (Rp.mirror (Al _) (by omega) (by omega))) (by omega) h3 (fun i j hi hij hj=>?_) h
    show κ.kle (KK κ (mirror (arrOf st') _ _ _) j) (KK κ (mirror (arrOf st') _ _ _) i)
    rw [CU (by omega) same,CU (by omega) same]
    by_cases q:j < lo+n
    ·rw [same i hi (by omega),same j (by omega) q]
     exact BA _
    ·have:j=lo+n:=by omega
     subst this
     by_cases q2:i=lo+n
     ·subst q2;exact BA _
     ·rw [same i hi (by omega)]
      exact CD lt
  ·refine aJ hg ?_
   have:n=1:=by omega
   subst this
   refine ml hO R (by omega) h3 (fun i j hi hij hj=>?_) h
   by_cases q2:i=j
   ·subst q2;exact BA _
   ·have e1:i=lo:=by omega
    have e2:j=lo+1:=by omega
    subst e1 e2
    exact CD lt
end
end Ts
namespace Ts
open PySem PyProof.Rows
variable {κ:KeyKind}
section
variable {prog:Program} {w:World} {A:Around} {E:Value→Shared→Prop} {s:Shared}
theorem rH {st:SortSt}{lo n ok:Nat}{Q:Bool→SortSt→Prop}(hO:κ.OneLt)(hB:TB st)(g:∀ x∈(arrOf st).toList,Gd κ x)(hn:lo+n≤(arrOf st).size)(hok:ok≤n)(hs:SrI κ (arrOf st) lo (lo+ok))
  (h:∀ st',Rs κ lo (lo+n) st st'→SrI κ (arrOf st') lo (lo+n)→Q true st'):wpS (model prog w) A E s (binarySort' lo n ok) Q st:=by
 rw [binarySort'_eq]
 refine Ao (BW (Bj (I:=fun y c st'=>c=(none,())∧Rs κ lo (lo+n) st st'∧SrI κ (arrOf st') lo (lo+min y n))
  (Q:=fun c st'=>c=(none,())∧Rs κ lo (lo+n) st st'∧SrI κ (arrOf st') lo (lo+n)) ?step ?fin ?init) ?post)
 case post =>
  rintro c st' ⟨rfl,R,hs'⟩
  exact Au (h st' R hs')
 case init =>
  refine ⟨rfl,.refl hB g,fun i j hi hij hj=>?_⟩
  by_cases e:i=j
  ·subst e;exact BA _
  ·exact hs i j hi hij (by omega)
 case fin =>
  rintro c st' ⟨hc,R,hs'⟩
  rw [show min (max (max ok 1) n) n=n by omega] at hs'
  exact ⟨hc,R,hs'⟩
 case step =>
  rintro y c st' hy1 hy2 ⟨rfl,R,hs'⟩
  have hz:=R.rp.size
  rw [show min y n=y by omega] at hs'
  refine Ao (BW (Bj (I:=fun x c st''=>st''=st'∧∃ l r,c=(none,l,r)∧l≤r∧r≤y∧r - l≤y - x ∧
    (∀ i,lo≤i→i < lo+l→κ.kle (KK κ (arrOf st') i) (KK κ (arrOf st') (lo+y)))∧(∀ i,lo+r≤i→i < lo+y→κ.klt (KK κ (arrOf st') (lo+y)) (KK κ (arrOf st') i)))
   (Q:=fun c st''=>st''=st'∧∃ l r,c=(none,l,r)∧l≤y ∧
    (∀ i,lo≤i→i < lo+l→κ.kle (KK κ (arrOf st') i) (KK κ (arrOf st') (lo+y)))∧(∀ i,lo+l≤i→i < lo+y→κ.klt (KK κ (arrOf st') (lo+y)) (KK κ (arrOf st') i))) ?istep ?ifin ?iinit) ?ipost)
  case iinit=>exact ⟨rfl,0,y,rfl,by omega,by omega,by omega,fun i h1 h2=>by omega,fun i h1 h2=>by omega⟩
  case ifin =>
   rintro c st'' ⟨rfl,l,r,rfl,q1,q2,q3,q4,q5⟩
   have:l=r:=by omega
   subst this
   exact ⟨rfl,l,l,rfl,q2,q4,q5⟩
  case istep =>
   rintro x c st'' _ hx ⟨rfl,l,r,rfl,q1,q2,q3,q4,q5⟩
   dsimp only
   by_cases hge:l≥r
   ·refine aI hge ?_
    have:l=r:=by omega
    subst this
    exact Au ⟨rfl,l,l,rfl,q2,q4,q5⟩
   ·refine aJ hge ?_
    refine Ao (e_ hO R.tb R.gd (by omega) (by omega) ?_)
    cases e:κ.blt (KK κ (arrOf st'') (lo+y)) (KK κ (arrOf st'') (lo+(l+r) / 2)) with
    | true =>
     simp only [BX]
     refine Au ⟨rfl,l,(l+r) / 2,rfl,by omega,by omega,by omega,q4,fun i h1 h2=>?_⟩
     exact KeyOrd.klt_of_klt_of_kle e (hs' _ _ (by omega) h1 h2)
    | false =>
     simp only [Ar,Bl]
     refine Au ⟨rfl,(l+r) / 2+1,r,rfl,by omega,by omega,by omega,fun i h1 h2=>?_,q5⟩
     exact Cq (hs' i (lo+(l+r) / 2) h1 (by omega) (by omega)) (show κ.kle _ _ from e)
  case ipost =>
   rintro c st'' ⟨rfl,l,r,rfl,hl,q4,q5⟩
   show wpS _ _ _ _ (do moveDown' (lo+y) (lo+l);pure (ForInStep.yield (none,()))) _ _
   rw [moveDown'_eq]
   have hk:lo+y < (arrOf st'').size:=by omega
   refine Ao (CP (Au ⟨rfl,R.arr (Rp.bubble (by omega) (by omega) hk),?_⟩))
   rw [show min (y+1) n=y+1 by omega]
   intro i j hi hij hj
   show κ.kle (KK κ (bubble (arrOf st'') (lo+y) (lo+y - (lo+l))) i) (KK κ (bubble (arrOf st'') (lo+y) (lo+y - (lo+l))) j)
   rw [KK_bubble hk (by omega),KK_bubble hk (by omega),show lo+y - (lo+y - (lo+l))=lo+l by omega]
   repeat' split
   all_goals first
    | (exfalso;omega)
    | exact BA _
    | exact q4 _ (by omega) (by omega)
    | exact CD (q5 _ (by omega) (by omega))
    | exact hs' _ _ (by omega) (by omega) (by omega)
end
theorem pj:∀ (r:List Keyed) (z b:Nat) (arr:Array Keyed) (X Y Z:List Keyed),arr.toList=X++(Y++Z)→X.length=z+b→Y.length=r.length →
  ((r.zipIdx b).foldl (fun a (p,j)=>a.setIfInBounds (z+j) p) arr).toList=X++(r++Z)
 | [],z,b,arr,X,Y,Z,e,h1,h2=>by
  rw [BK.mp h2] at e
  exact e
 | p::r,z,b,arr,X,Y,Z,e,h1,h2=>by
  cases Y with
  | nil=>simp at h2
  | cons y Y =>
   rw [B2,List.foldl_cons]
   have:=pj r z (b+1) (arr.setIfInBounds (z+b) p) (X++[p]) Y Z (by
    rw [Dm,e,← h1,List.set_append_right _ _ (Al _),CQ]
    simp) (by simp [h1];omega) (by simpa using h2)
   rw [this]
   simp
def mAt (i:Nat):StateT SortSt Sem Bool:=do
 let u ← get
 let (some (za,la,pw),some (zb,lb,_)):=((pendingOf u)[i]?,(pendingOf u)[i+1]?) | unsupported "internal:list.sort.pending"
 set (setPending u (((pendingOf u).setIfInBounds i (za,la+lb,pw)).eraseIdxIfInBounds (i+1)))
 let some c ← gal false (← elem' (arrOf u) zb) (arrOf u) za la 0 | return false
 let (za,la):=(za+c,la - c)
 if la == 0 then return true
 let some lb ← gal true (← elem' (arrOf u) (za+la - 1)) (arrOf u) zb lb (lb - 1) | return false
 if lb == 0 then return true
 let x:=(arrOf u).extract za zb
 let y:=(arrOf u).extract zb (zb+lb)
 let out ← if la≤lb then mlo x y else mhi x y
 modify fun v=>setArr v (out.toList.zipIdx.foldl (fun a (p,j)=>a.setIfInBounds (za+j) p) (arrOf v))
 return (failedOf (← get)).isNone
theorem wy (i:Nat):mergeAt' i=mAt i:=rfl
end Ts
namespace Ts
open PySem PyProof.Rows
variable {κ:KeyKind}
theorem Lel.sym_take {l:List Keyed}(h:Srt κ l)(i:Nat):Lel κ (l.take i) (l.drop i):=by
 have:Srt κ (l.take i++l.drop i):=by rw [AD];exact h
 exact (br.mp this).2.2
theorem Lel.memL {l l' m:List Keyed}(h:Lel κ l m)(hs:∀ x∈l',x∈l):Lel κ l' m:=fun x hx y hy=>h x (hs x hx) y hy
theorem Lel.memR {l m m':List Keyed}(h:Lel κ l m)(hs:∀ x∈m',x∈m):Lel κ l m':=fun x hx y hy=>h x hx y (hs y hy)
theorem Lel.mid {l m:List Keyed}{x:Keyed}(h:Lel κ l [x])(g:Lel κ [x] m):Lel κ l m:=fun a ha b hb=>eJ (h a ha x (Af.mpr rfl)) (g x (Af.mpr rfl) b hb)
theorem iY {l:List Keyed}{x:Keyed}(h:Srt κ l)(e:l[0]? = some x):Lel κ [x] l:=fun a ha y hy=>by
 rw [Af] at ha
 subst ha
 obtain ⟨i,hi⟩:=Bw hy
 exact h.at (BF _) e hi
theorem pk {l:List Keyed}{x:Keyed}(h:Srt κ l)(e:l[l.length - 1]? = some x):Lel κ l [x]:=fun a ha y hy=>by
 rw [Af] at hy
 subst hy
 obtain ⟨i,hi⟩:=Bw ha
 have:=(Ah.mp hi).1
 exact h.at (by omega) hi e
theorem uD {l m n:List Keyed}:Lel κ (l++m) n ↔ Lel κ l n∧Lel κ m n :=
 ⟨fun h=>⟨h.memL fun x hx=>AX _ hx,h.memL fun x hx=>AJ _ hx⟩,fun h x hx=>(Ax.mp hx).elim (h.1 x) (h.2 x)⟩
theorem mn {l m n:List Keyed}:Lel κ l (m++n) ↔ Lel κ l m∧Lel κ l n :=
 ⟨fun h=>⟨h.memR fun x hx=>AX _ hx,h.memR fun x hx=>AJ _ hx⟩,fun h x hx y hy=>(Ax.mp hy).elim (h.1 x hx y) (h.2 x hx y)⟩
theorem wz {A B r:List Keyed}{c m:Nat}{b0 al:Keyed}(sA:Srt κ A)(sB:Srt κ B)(e0:B[0]? = some b0)(el:A[A.length - 1]? = some al)
  (h1:Lel κ (A.take c) [b0]) (h2:Lel κ [al] (B.drop m)) (M:Mg κ (A.drop c) (B.take m) r):Mg κ A B (A.take c++(r++B.drop m)):=by
 have mm:∀ x,x∈r ↔ x∈A.drop c++B.take m:=fun x=>M.1.mem_iff
 refine ⟨?_,br.mpr ⟨sA.take c,br.mpr ⟨M.2,sB.drop m,?_⟩,mn.mpr ⟨?_,?_⟩⟩⟩
 ·have:(A.take c++(r++B.drop m)).Perm (A.take c++((A.drop c++B.take m)++B.drop m)):=BE _ (M.1.append_right _)
  refine this.trans (List.Perm.of_eq ?_)
  rw [Am,← Am,AD,AD]
 ·refine Lel.memL (l:=A.drop c++B.take m) (uD.mpr ⟨?_,Lel.sym_take sB m⟩) fun x hx=>(mm x).mp hx
  exact Lel.mid ((pk sA el).memL fun x hx=>Ca hx) h2
 ·refine Lel.memR (m:=A.drop c++B.take m) (mn.mpr ⟨Lel.sym_take sA c,?_⟩) fun x hx=>(mm x).mp hx
  exact Lel.mid h1 ((iY sB e0).memR fun x hx=>BM hx)
 ·exact Lel.mid h1 ((iY sB e0).memR fun x hx=>Ca hx)
section
variable {prog:Program} {w:World} {A:Around} {E:Value→Shared→Prop} {s:Shared}
theorem uE {st u:SortSt}{Q:PUnit→SortSt→Prop}(h:Q ⟨⟩ u):wpS (model prog w) A E s (set u:StateT SortSt Sem PUnit) Q st:=by
 unfold wpS
 rw [StateT.run_set]
 exact Ae ⟨rfl,h⟩
theorem mq {st:SortSt}{lf:Bool}{key:Keyed}{arr:Array Keyed}{P M S:List Keyed}{z n h:Nat}{Q:Option Nat→SortSt→Prop}(hO:κ.OneLt)(hB:TB st)(hk:Gd κ key)(hg:∀ x∈arr.toList,Gd κ x)(ea:arr.toList=P++(M++S))(lp:P.length=z)(ln:M.length=n)(sa:Srt κ M)(hh:h < n)
  (hq:∀ k,k≤n→(∀ x∈M.take k,bdB κ lf (kof κ key) (kof κ x)=true)→(∀ x∈M.drop k,bdB κ lf (kof κ key) (kof κ x)=false)→Q (some k) st) :
  wpS (model prog w) A E s (gal lf key arr z n h) Q st:=by
 have ga:∀ i,i < n→arr[z+i]? = M[i]?:=fun i hi=>by
  rw [← AN,ea,AO (by omega),Be (by omega)]
  congr 1
  omega
 have gm:∀ x∈M,Gd κ x:=fun x hx=>hg x (by rw [ea];exact AJ _ (AX _ hx))
 refine kE hO hB hk (fun t=>match M[t]? with | some p=>bdB κ lf (kof κ key) (kof κ p) | none=>false) hh (fun t ht=>?_) (fun t u htu hu hb=>?_) (fun k hk' h1 h2=>hq k hk' (fun x hx=>?_) fun x hx=>?_)
 ·have hlt:t < M.length:=by omega
  have e:=Ac hlt
  exact ⟨M[t],by rw [ga t ht,e],gm _ (AS _),by rw [e]⟩
 ·have e1:=Ac (l:=M) (i:=t) (by omega)
  have e2:=Ac (l:=M) (i:=u) (by omega)
  rw [e1]
  rw [e2] at hb
  have le:=sa.at htu e1 e2
  dsimp only at hb ⊢
  cases lf with
  | true=>exact KeyOrd.klt_of_kle_of_klt le hb
  | false =>
   have le2:=eJ le (fN hb)
   show (!κ.blt _ _)=true
   rw [show κ.blt (kof κ key) (kof κ M[t])=false from le2]
   rfl
 ·obtain ⟨i,hi⟩:=Bw hx
  have l1:=(Ah.mp hi).1
  rw [Aj] at l1
  rw [Ce (by omega)] at hi
  have:=h1 i (by omega)
  rw [hi] at this
  exact this
 ·obtain ⟨i,hi⟩:=Bw hx
  rw [Bb] at hi
  have l1:=(Ah.mp hi).1
  have:=h2 (k+i) (by omega) (by omega)
  rw [hi] at this
  exact this
theorem px {arr:Array Keyed}{P M S:List Keyed}{i j:Nat}(e:arr.toList=P++(M++S))(h1:P.length=i)(h2:j=i+M.length):(arr.extract i j).toList=M:=by
 rw [Bv,e,List.extract_eq_drop_take,← h1,List.drop_left,h2,← h1,Cn,List.take_left]
theorem uF {st:SortSt}{i z na nb pw pw2:Nat}{P Aa B S:List Keyed}{Q:Bool→SortSt→Prop}(hO:κ.OneLt)(hB:TB st)(g:∀ x∈(arrOf st).toList,Gd κ x)(e1:(pendingOf st)[i]? = some (z,na,pw))(e2:(pendingOf st)[i+1]? = some (z+na,nb,pw2))
  (ea:(arrOf st).toList=P++(Aa++(B++S))) (lp:P.length=z) (la:Aa.length=na) (lb:B.length=nb) (h0:0 < na) (h1:0 < nb) (sA:Srt κ Aa) (sB:Srt κ B)
  (h:∀ st' R,TB st'→pendingOf st'=((pendingOf st).setIfInBounds i (z,na+nb,pw)).eraseIdxIfInBounds (i+1)→(arrOf st').toList=P++(R++S)→Mg κ Aa B R→Q true st'):wpS (model prog w) A E s (mergeAt' i) Q st:=by
 have eb:(arrOf st).toList=(P++Aa)++(B++S):=by rw [ea,Am]
 rw [wy]
 unfold mAt
 refine Ao (Dx ?_)
 rw [e1,e2]
 dsimp only
 refine Ao (uE ?_)
 have hB':TB (setPending st (((pendingOf st).setIfInBounds i (z,na+nb,pw)).eraseIdxIfInBounds (i+1))):=⟨hB.kind,hB.failed⟩
 generalize hst':setPending st (((pendingOf st).setIfInBounds i (z,na+nb,pw)).eraseIdxIfInBounds (i+1))=st' at hB' ⊢
 have hp':pendingOf st'=((pendingOf st).setIfInBounds i (z,na+nb,pw)).eraseIdxIfInBounds (i+1):=by rw [← hst']
 have har:arrOf st'=arrOf st:=by rw [← hst']
 obtain ⟨b0,eb0⟩:∃ b0,B[0]? = some b0:=⟨_,Ac (by omega)⟩
 obtain ⟨al,eal⟩:∃ al,Aa[Aa.length - 1]? = some al:=⟨_,Ac (by omega)⟩
 have gA:∀ x∈Aa,Gd κ x:=fun x hx=>g x (by rw [ea];simp [hx])
 have gB:∀ x∈B,Gd κ x:=fun x hx=>g x (by rw [ea];simp [hx])
 have x0:(arrOf st).toList[z+na]? = some b0:=by
  rw [eb,AO (by simp;omega),Be (by simp;omega)]
  rw [show z+na - (P++Aa).length=0 by simp;omega]
  exact eb0
 have xl:(arrOf st).toList[z+na - 1]? = some al:=by
  rw [ea,AO (by omega),Be (by omega)]
  rw [show z+na - 1 - P.length=Aa.length - 1 by omega]
  exact eal
 refine Ao (aY x0 ?_)
 refine Ao (mq hO hB' (gB b0 (AG eb0)) g ea lp la sA h0 fun c hc t1 t2=>?_)
 dsimp only
 have k1:Lel κ (Aa.take c) [b0]:=fun x hx y hy=>by
  rw [Af] at hy
  subst hy
  exact fN (t1 x hx)
 have k2:Lel κ [b0] (Aa.drop c):=fun x hx y hy=>by
  rw [Af] at hx
  subst hx
  exact gC (t2 y hy)
 by_cases hc0:na - c=0
 ·refine aI (by simpa using hc0) ?_
  have:Aa.take c=Aa:=Aq (by omega)
  rw [this] at k1
  exact Au (h st' (Aa++B) hB' hp' (by rw [har,ea,Am]) ⟨Cs _,br.mpr ⟨sA,sB,k1.mid (iY sB eb0)⟩⟩)
 ·refine aJ (by simpa using hc0) ?_
  rw [show z+c+(na - c) - 1=z+na - 1 by omega]
  refine Ao (aY xl ?_)
  refine Ao (mq hO hB' (gA al (AG eal)) g eb (by simp;omega) lb sB (by omega) fun m hm u1 u2=>?_)
  dsimp only
  have k3:Lel κ (B.take m) [al]:=fun x hx y hy=>by
   rw [Af] at hy
   subst hy
   exact kF (u1 x hx)
  have k4:Lel κ [al] (B.drop m):=fun x hx y hy=>by
   rw [Af] at hx
   subst hx
   exact iW (u2 y hy)
  by_cases hm0:m=0
  ·refine aI (by simpa using hm0) ?_
   subst hm0
   exact Au (h st' (Aa++B) hB' hp' (by rw [har,ea,Am]) ⟨Cs _,br.mpr ⟨sA,sB,(pk sA eal).mid k4⟩⟩)
  ·refine aJ (by simpa using hm0) ?_
   have ec:(arrOf st).toList=(P++Aa.take c)++(Aa.drop c++(B++S)):=by
    rw [ea]
    conv=>lhs;rw [← AD c Aa]
    simp only [Am]
   have ed:(arrOf st).toList=(P++Aa)++(B.take m++(B.drop m++S)):=by
    rw [eb]
    conv=>lhs;rw [← AD m B]
    simp only [Am]
   have ex:((arrOf st).extract (z+c) (z+na)).toList=Aa.drop c:=px ec (by simp;omega) (by simp;omega)
   have ey:((arrOf st).extract (z+na) (z+na+m)).toList=B.take m:=px ed (by simp;omega) (by simp;omega)
   have sx:((arrOf st).extract (z+c) (z+na)).size=na - c:=by rw [← Ai,ex];simp;omega
   have sy:((arrOf st).extract (z+na) (z+na+m)).size=m:=by rw [← Ai,ey];simp;omega
   generalize (arrOf st).extract (z+c) (z+na)=x at ex sx ⊢
   generalize (arrOf st).extract (z+na) (z+na+m)=y at ey sy ⊢
   have ga:∀ t∈x.toList,Gd κ t:=fun t ht=>gA t (by rw [ex] at ht;exact Ca ht)
   have gb:∀ t∈y.toList,Gd κ t:=fun t ht=>gB t (by rw [ey] at ht;exact BM ht)
   have sx':Srt κ x.toList:=by rw [ex];exact sA.drop c
   have sy':Srt κ y.toList:=by rw [ey];exact sB.take m
   have y0:y.toList[0]? = some b0:=by rw [ey,Ce (by omega)];exact eb0
   have xn:x.toList[x.size - 1]? = some al:=by
    rw [ex,Bb,sx,show c+(na - c - 1)=Aa.length - 1 by omega]
    exact eal
   have fin:∀ (r:Array Keyed) (st2:SortSt),Ok st' st2→Mg κ x.toList y.toList r.toList→wpS (model prog w) A E s (do
     modify fun v=>setArr v (r.toList.zipIdx.foldl (fun a (p,j)=>a.setIfInBounds (z+c+j) p) (arrOf v))
     return (failedOf (← get)).isNone:StateT SortSt Sem Bool) Q st2:=fun r st2 ok M=>by
    rw [ex,ey] at M
    have lr:r.toList.length=(Aa.drop c++B.take m).length:=M.1.length_eq
    refine Ao (CP ?_)
    refine Ao (Dx ?_)
    refine Au ?_
    have hf:failedOf (setArr st2 (r.toList.zipIdx.foldl (fun a (p,j)=>a.setIfInBounds (z+c+j) p) (arrOf st2)))=none:=ok.tb.failed
    rw [hf]
    refine h _ (Aa.take c++(r.toList++B.drop m)) ⟨ok.tb.kind,ok.tb.failed⟩ (ok.pd.trans hp') ?_ (wz sA sB eb0 eal k1 k4 M)
    show (r.toList.zipIdx.foldl (fun a (p,j)=>a.setIfInBounds (z+c+j) p) (arrOf st2)).toList=_
    rw [pj r.toList (z+c) 0 (arrOf st2) (P++Aa.take c) (Aa.drop c++B.take m) (B.drop m++S) (by
     rw [ok.ar,har,ea]
     conv=>lhs;rw [← AD c Aa,← AD m B]
     simp only [Am]) (by simp;omega) lr.symm]
    simp only [Am]
   by_cases hle:na - c≤m
   ·refine aI hle ?_
    refine Ao (uA hO hB' ga gb sx' sy' (by omega) (by omega) (fun p q hp hq=>?_) (fun t ht=>?_) fun r st2 ok M=>fin r st2 ok M)
    ·rw [y0] at hq
     cases hq
     rw [ex] at hp
     exact k2 _ (Af.mpr rfl) _ (AG hp)
    ·rw [xn] at ht
     cases ht
     rw [ey]
     exact k3
   ·refine aJ hle ?_
    refine Ao (uB hO hB' ⟨ga,gb,sx',sy',fun t ht=>?_⟩ (by omega) (by omega) (fun t ht=>?_) fun r st2 ok M=>fin r st2 ok M)
    ·rw [y0] at ht
     cases ht
     rw [ex]
     exact k2
    ·rw [xn] at ht
     cases ht
     rw [ey]
     exact k3
end
end Ts
namespace Ts
open PySem PyProof.Rows
variable {κ:KeyKind}
def PdL (κ:KeyKind):Nat→List (Nat × Nat × Nat)→List (List Keyed)→Prop
 | _,[],[]=>True
 | z,p::ps,r::rs=>p.1=z∧p.2.1=r.length∧0 < r.length∧Srt κ r∧PdL κ (z+r.length) ps rs
 | _,_,_=>False
theorem PdL.app:∀ {p q:List (Nat × Nat × Nat)} {z:Nat} {rs:List (List Keyed)},PdL κ z (p++q) rs→∃ r1 r2,rs=r1++r2∧r1.length=p.length∧PdL κ z p r1∧PdL κ (z+r1.flatten.length) q r2
 | [],q,z,rs,h=>⟨[],rs,rfl,rfl,BC,h⟩
 | _::_,q,z,[],h=>h.elim
 | _::p,q,z,r::rs,h=>by
  obtain ⟨a1,a2,a3,a4,a5⟩:=h
  obtain ⟨r1,r2,e,l,b1,b2⟩:=PdL.app a5
  refine ⟨r::r1,r2,by rw [e];rfl,by simp [l],⟨a1,a2,a3,a4,b1⟩,?_⟩
  rw [Cf,Ad,← D8]
  exact b2
theorem PdL.join:∀ {p q:List (Nat × Nat × Nat)} {z:Nat} {r1 r2:List (List Keyed)},PdL κ z p r1→PdL κ (z+r1.flatten.length) q r2→PdL κ z (p++q) (r1++r2)
 | [],q,z,[],r2,_,h=>h
 | [],q,z,_::_,r2,h,_=>h.elim
 | _::_,q,z,[],r2,h,_=>h.elim
 | _::p,q,z,r::r1,r2,h,g=>by
  obtain ⟨a1,a2,a3,a4,a5⟩:=h
  rw [Cf,Ad,← D8] at g
  exact ⟨a1,a2,a3,a4,PdL.join a5 g⟩
theorem PdL.len:∀ {p:List (Nat × Nat × Nat)} {z:Nat} {rs:List (List Keyed)},PdL κ z p rs→p.length≤rs.flatten.length
 | [],z,[],_=>BF _
 | [],z,_::_,h=>h.elim
 | _::_,z,[],h=>h.elim
 | _::p,z,r::rs,h=>by
  obtain ⟨a1,a2,a3,a4,a5⟩:=h
  have:=PdL.len a5
  rw [Cf,Ad,A2]
  omega
theorem PdL.same:∀ {p q:List (Nat × Nat × Nat)} {z:Nat} {rs:List (List Keyed)},PdL κ z p rs→q.map (fun t=>(t.1,t.2.1))=p.map (fun t=>(t.1,t.2.1))→PdL κ z q rs
 | [],[],z,rs,h,_=>h
 | [],_::_,z,rs,_,e=>by simp at e
 | _::_,[],z,rs,_,e=>by simp at e
 | _::_,_::_,z,[],h,_=>h.elim
 | x::p,y::q,z,r::rs,h,e=>by
  obtain ⟨a1,a2,a3,a4,a5⟩:=h
  simp only [Dc,List.cons.injEq,Prod.mk.injEq] at e
  exact ⟨e.1.1.trans a1,e.1.2.trans a2,a3,a4,PdL.same a5 e.2⟩
theorem pA {f:Nat × Nat × Nat→Nat × Nat × Nat}(hf:∀ t,(f t).1=t.1∧(f t).2.1=t.2.1):∀ (l:List (Nat × Nat × Nat)) (i:Nat),(l.modify i f).map (fun t=>(t.1,t.2.1))=l.map (fun t=>(t.1,t.2.1))
 | [],i=>by cases i <;> rfl
 | x::l,0=>by
  show ((f x).1,(f x).2.1)::_=_
  rw [(hf x).1,(hf x).2]
  rfl
 | x::l,i+1=>by
  show (x.1,x.2.1)::(l.modify i f).map _=_
  rw [pA hf l i]
  rfl
theorem pB {xs:Array Keyed}{i:Nat}{x:Keyed}(h:xs.toList[i]? = some x):KK κ xs i=kof κ x:=by
 rw [AN] at h
 unfold KK kof
 rw [h]
structure Iv (κ:KeyKind) (a0:Array Keyed) (st:SortSt) (lo:Nat):Prop where
 tb:TB st
 pm:(arrOf st).Perm a0
 ex:∃ rs T,(arrOf st).toList=rs.flatten++T∧rs.flatten.length=lo∧PdL κ 0 (pendingOf st).toList rs
theorem Iv.gd {a0:Array Keyed}{st:SortSt}{lo:Nat}(I:Iv κ a0 st lo)(h0:KeysOf κ a0):∀ x∈(arrOf st).toList,Gd κ x:=fun x hx=>h0 x ((B0.mp I.pm).mem_iff.mp hx)
theorem Iv.part {a0:Array Keyed}{st st':SortSt}{lo hi:Nat}(I:Iv κ a0 st lo)(R:Rs κ lo hi st st'):Iv κ a0 st' lo:=by
 obtain ⟨rs,T,e,l,p⟩:=I.ex
 refine ⟨R.tb,R.rp.pm.trans I.pm,rs,(arrOf st').toList.drop lo,?_,l,by rw [R.pd];exact p⟩
 have:(arrOf st').toList.take lo=rs.flatten:=by
  have e2:(arrOf st).toList.take lo=rs.flatten:=by rw [e,← l,List.take_left]
  rw [← e2]
  apply DF
  intro k
  by_cases hk:k < lo
  ·rw [Ce hk,Ce hk,AN,AN,R.rp.out k (.inl hk)]
  ·rw [BS (by rw [Aj];omega),BS (by rw [Aj];omega)]
 rw [← this,AD]
theorem Iv.mod {a0:Array Keyed}{st:SortSt}{lo i:Nat}(I:Iv κ a0 st lo){f:Nat × Nat × Nat→Nat × Nat × Nat}(hf:∀ t,(f t).1=t.1∧(f t).2.1=t.2.1):Iv κ a0 (setPending st ((pendingOf st).modify i f)) lo:=by
 obtain ⟨rs,T,e,l,p⟩:=I.ex
 refine ⟨⟨I.tb.kind,I.tb.failed⟩,I.pm,rs,T,e,l,?_⟩
 show PdL κ 0 ((pendingOf st).modify i f).toList rs
 rw [Array.toList_modify]
 exact p.same (pA hf _ _)
theorem Iv.push {a0:Array Keyed}{st:SortSt}{lo n w:Nat}(I:Iv κ a0 st lo)(hn:0 < n)(hz:lo+n≤(arrOf st).size)(hs:SrI κ (arrOf st) lo (lo+n)):Iv κ a0 (setPending st ((pendingOf st).push (lo,n,w))) (lo+n):=by
 obtain ⟨rs,T,e,l,p⟩:=I.ex
 have lT:lo+T.length=(arrOf st).size:=by rw [← Ai,e,Ad,l]
 have ln:(T.take n).length=n:=by rw [Aj];omega
 have at_:∀ i x,T[i]? = some x→KK κ (arrOf st) (lo+i)=kof κ x:=fun i x hx=>pB (by rw [e,AO (by omega),← l,Cn];exact hx)
 refine ⟨⟨I.tb.kind,I.tb.failed⟩,I.pm,rs++[T.take n],T.drop n,?_,?_,?_⟩
 ·show (arrOf st).toList=_
  rw [e,Co,CY,Am,AD]
 ·rw [Co,CY,Ad,l,ln]
 ·show PdL κ 0 ((pendingOf st).push (lo,n,w)).toList _
  rw [BN]
  refine PdL.join p ⟨by rw [l];omega,ln.symm,by omega,?_,BC⟩
  refine B_.mpr fun i j hi hj hij=>?_
  rw [Aj] at hi hj
  rw [List.getElem_take,List.getElem_take]
  have:=hs (lo+i) (lo+j) (by omega) (by omega) (by omega)
  rw [at_ i _ (Ac (by omega)),at_ j _ (Ac (by omega))] at this
  exact this
theorem two_at {l:List (Nat × Nat × Nat)}{i:Nat}(h:i+1 < l.length):∃ p x y q,l=p++x::y::q∧p.length=i:=by
 refine ⟨l.take i,l[i],l[i+1],l.drop (i+2),?_,by rw [Aj];omega⟩
 conv=>lhs;rw [← AD i l]
 rw [BQ (by omega),BQ h]
section
variable {prog:Program} {w:World} {A:Around} {E:Value→Shared→Prop} {s:Shared}
theorem gD {a0:Array Keyed}{st:SortSt}{lo i:Nat}{Q:Bool→SortSt→Prop}(hO:κ.OneLt)(h0:KeysOf κ a0)(I:Iv κ a0 st lo)(hi:i+1 < (pendingOf st).size)
  (h:∀ st',Iv κ a0 st' lo→(pendingOf st').size+1=(pendingOf st).size→(∀ k,lo≤k→(arrOf st')[k]? = (arrOf st)[k]?)→Q true st'):wpS (model prog w) A E s (mergeAt' i) Q st:=by
 obtain ⟨rs,T,e,l,p⟩:=I.ex
 obtain ⟨p1,x,y,p2,ep,lp⟩:=two_at (l:=(pendingOf st).toList) (i:=i) (by rw [Ai];exact hi)
 rw [ep] at p
 obtain ⟨r1,r2,er,_,P1,P2⟩:=p.app
 match r2,P2,er with
 | A1::B1::r2,P2,er =>
  obtain ⟨x1,x2,x3,x4,y1,y2,y3,y4,P3⟩:=P2
  obtain ⟨xa,xb,xc⟩:=x
  obtain ⟨ya,yb,yc⟩:=y
  dsimp only at x1 x2 y1 y2
  subst er
  have ea:(arrOf st).toList=r1.flatten++(A1++(B1++(r2.flatten++T))):=by
   rw [e]
   simp only [Co,Cf,Am]
  have e1:(pendingOf st)[i]? = some (r1.flatten.length,A1.length,xc):=by
   rw [← AN,ep,AO (by omega),lp,CQ,x1,x2,Eb]
   rfl
  have e2:(pendingOf st)[i+1]? = some (r1.flatten.length+A1.length,B1.length,yc):=by
   rw [← AN,ep,AO (by omega),lp,Cn,y1,y2,Eb]
   rfl
  refine uF hO I.tb (I.gd h0) e1 e2 ea rfl rfl rfl x3 y3 x4 y4 fun st' R t1 t2 t3 M=>?_
  have lR:R.length=A1.length+B1.length:=by rw [M.1.length_eq,Ad]
  have ep':(pendingOf st').toList=p1++(r1.flatten.length,A1.length+B1.length,xc)::p2:=by
   rw [t2,Array.toList_eraseIdxIfInBounds,Dm,ep,List.set_append_right _ _ (by omega),List.eraseIdx_append_of_length_le (by omega),lp,CQ,Cn]
   rfl
  have eT:(arrOf st').toList=(r1++R::r2).flatten++T:=by
   rw [t3]
   simp only [Co,Cf,Am]
  have lT:(r1++R::r2).flatten.length=lo:=by
   rw [← l]
   simp only [Co,Cf,Ad,lR]
   omega
  refine h st' ⟨t1,?_,r1++R::r2,T,eT,lT,?_⟩ ?_ fun k hk=>?_
  ·refine Array.Perm.trans (B0.mpr ?_) I.pm
   rw [t3,ea,← Am A1]
   exact BE _ (M.1.append_right _)
  ·rw [ep']
   refine PdL.join P1 ⟨by omega,lR.symm,by omega,M.2,?_⟩
   rw [lR,← D8]
   exact P3
  ·rw [← Ai,← Ai,ep',ep]
   simp only [Ad,A2]
   omega
  ·rw [← AN,← AN,eT,e,AO (by omega),AO (by omega),lT,l]
theorem Iv.done {a0:Array Keyed}{st:SortSt}(I:Iv κ a0 st a0.size)(h:(pendingOf st).size≤1):SortedToK κ (arrOf st) a0.size:=by
 obtain ⟨rs,T,e,l,p⟩:=I.ex
 have hz:(arrOf st).toList.length=a0.size:=by rw [Ai];exact I.pm.size_eq
 have hT:T=[]:=BK.mp (by rw [e,Ad,l] at hz;omega)
 subst hT
 rw [List.append_nil] at e
 rw [← Ai] at h
 have sr:Srt κ (arrOf st).toList:=by
  rw [e]
  match (pendingOf st).toList,rs,p,h with
  | [],[],_,_=>exact List.Pairwise.nil
  | [_],[r],p,_=>rw [CY];exact p.2.2.2.1
  | _::_::_,_,_,h=>simp at h
 intro i j hij hj
 have e1:=Ac (l:=(arrOf st).toList) (i:=i) (by omega)
 have e2:=Ac (l:=(arrOf st).toList) (i:=j) (by omega)
 rw [pB e1,pB e2]
 exact sr.at hij e1 e2
theorem rJ {a0:Array Keyed}{st:SortSt}{Q:Unit→SortSt→Prop}(hO:κ.OneLt)(h0:KeysOf κ a0)(hB:SBase a0 st)
  (h:∀ st',(arrOf st').Perm a0→failedOf st'=none→SortedToK κ (arrOf st') a0.size→Q () st'):wpS (model prog w) A E s sortRuns' Q st:=by
 rw [sortRuns'_eq]
 refine Ao (Dx ?_)
 dsimp only
 simp only [hB.size]
 refine Ao (BW (Bj
  (I:=fun x c st'=>∃ lo,c=(none,lo)∧x≤lo∧lo≤a0.size∧Iv κ a0 st' lo)
  (Q:=fun c st'=>c=(none,a0.size)∧Iv κ a0 st' a0.size) ?step ?fin ⟨0,rfl,Al _,BF _,⟨hB.kind,hB.failed⟩,hB.perm,[],(arrOf st).toList,rfl,rfl,by rw [hB.pend];exact BC⟩) ?post)
 case fin =>
  rintro c st' ⟨lo,rfl,h1,h2,I⟩
  have:lo=a0.size:=by omega
  subst this
  exact ⟨rfl,I⟩
 case step =>
  rintro x c st' hx1 hx2 ⟨lo,rfl,h1,h2,I⟩
  have hz:(arrOf st').size=a0.size:=I.pm.size_eq
  dsimp only
  by_cases hge:lo≥a0.size
  ·refine aI hge ?_
   have:lo=a0.size:=by omega
   subst this
   exact Au ⟨rfl,I⟩
  ·refine aJ hge ?_
   refine Ao (rG hO I.tb (I.gd h0) (by omega) (by omega) fun n st2 n1 n2 R s2=>?_)
   have I2:=I.part R
   have hz2:(arrOf st2).size=a0.size:=I2.pm.size_eq
   dsimp only
   by_cases hm:n < minRun' a0.size a0.size 0
   ·refine aI hm ?_
    refine Ao (D4 (Bm ⟨rfl,?_⟩))
    refine Ao (rH hO I2.tb (I2.gd h0) (by omega) (by omega) s2 fun st3 R3 s3=>?_)
    simp only [CC,Ar,Bl]
    have M1:1≤(min (a0.size - lo) (minRun' a0.size a0.size 0)):=by omega
    have M2:lo+(min (a0.size - lo) (minRun' a0.size a0.size 0))≤a0.size:=by omega
    have IX:=I2.part R3
    have S3:=s3
    refine Ao (Dx ?_)
    cases (pendingOf st3).back? with
    | none=>exact Ao (CP (Au ⟨lo+(min (a0.size - lo) (minRun' a0.size a0.size 0)),rfl,by omega,M2,IX.push M1 (by rw [IX.pm.size_eq];exact M2) S3⟩))
    | some t =>
     obtain ⟨a,b,c⟩:=t
     dsimp only
     refine Ao (BW (Bj (I:=fun _ c st3'=>c=(none,())∧Iv κ a0 st3' lo∧∀ k,lo≤k→(arrOf st3')[k]? = (arrOf st3)[k]?)
      (Q:=fun c st3'=>c=(none,())∧Iv κ a0 st3' lo∧∀ k,lo≤k→(arrOf st3')[k]? = (arrOf st3)[k]?) ?step1 (fun _ _ h=>h) ⟨rfl,IX,fun _ _=>rfl⟩) ?post1)
     case step1 =>
      rintro y c st3' _ _ ⟨rfl,Iw,kw⟩
      refine Ao (Dx ?_)
      by_cases hz:(pendingOf st3').size > 1
      ·rw [if_pos hz]
       cases e:(pendingOf st3')[(pendingOf st3').size - 2]? with
       | none=>exact Au ⟨rfl,Iw,kw⟩
       | some t =>
        obtain ⟨a',b',c'⟩:=t
        dsimp only
        by_cases hp:c'≤power' a0.size (2*a+b) (2*a+b+b+(min (a0.size - lo) (minRun' a0.size a0.size 0))) a0.size
        ·refine aI hp ?_
         exact Au ⟨rfl,Iw,kw⟩
        ·refine aJ hp ?_
         refine Ao (gD hO h0 Iw (by omega) fun stq Iq _ k2=>?_)
         simp only [CC,Ar,Bl]
         exact Au ⟨rfl,Iq,fun k hk=>(k2 k hk).trans (kw k hk)⟩
      ·rw [if_neg hz]
       exact Au ⟨rfl,Iw,kw⟩
     case post1 =>
      rintro c st3' ⟨rfl,Iw,kw⟩
      dsimp only
      refine Ao (CP ?_)
      have J2:=Iw.mod (i:=(pendingOf st3').size - 1) (f:=fun t=>(t.1,t.2.1,power' a0.size (2*a+b) (2*a+b+b+(min (a0.size - lo) (minRun' a0.size a0.size 0))) a0.size)) fun t=>⟨rfl,rfl⟩
      refine Ao (CP (Au ⟨lo+(min (a0.size - lo) (minRun' a0.size a0.size 0)),rfl,by omega,M2,J2.push M1 (by rw [J2.pm.size_eq];exact M2) fun i j hi hij hj=>?_⟩))
      show κ.kle (KK κ (arrOf st3') i) (KK κ (arrOf st3') j)
      rw [KK_congr (kw i (by omega)),KK_congr (kw j (by omega))]
      exact S3 i j hi hij hj
   ·refine aJ hm ?_
    have M1:1≤n:=by omega
    have M2:lo+n≤a0.size:=by omega
    have IX:=I2
    have S3:=s2
    refine Ao (Dx ?_)
    cases (pendingOf st2).back? with
    | none=>exact Ao (CP (Au ⟨lo+n,rfl,by omega,M2,IX.push M1 (by rw [IX.pm.size_eq];exact M2) S3⟩))
    | some t =>
     obtain ⟨a,b,c⟩:=t
     dsimp only
     refine Ao (BW (Bj (I:=fun _ c st2'=>c=(none,())∧Iv κ a0 st2' lo∧∀ k,lo≤k→(arrOf st2')[k]? = (arrOf st2)[k]?)
      (Q:=fun c st2'=>c=(none,())∧Iv κ a0 st2' lo∧∀ k,lo≤k→(arrOf st2')[k]? = (arrOf st2)[k]?) ?step2 (fun _ _ h=>h) ⟨rfl,IX,fun _ _=>rfl⟩) ?post2)
     case step2 =>
      rintro y c st2' _ _ ⟨rfl,Iw,kw⟩
      refine Ao (Dx ?_)
      by_cases hz:(pendingOf st2').size > 1
      ·rw [if_pos hz]
       cases e:(pendingOf st2')[(pendingOf st2').size - 2]? with
       | none=>exact Au ⟨rfl,Iw,kw⟩
       | some t =>
        obtain ⟨a',b',c'⟩:=t
        dsimp only
        by_cases hp:c'≤power' a0.size (2*a+b) (2*a+b+b+n) a0.size
        ·refine aI hp ?_
         exact Au ⟨rfl,Iw,kw⟩
        ·refine aJ hp ?_
         refine Ao (gD hO h0 Iw (by omega) fun stq Iq _ k2=>?_)
         simp only [CC,Ar,Bl]
         exact Au ⟨rfl,Iq,fun k hk=>(k2 k hk).trans (kw k hk)⟩
      ·rw [if_neg hz]
       exact Au ⟨rfl,Iw,kw⟩
     case post2 =>
      rintro c st2' ⟨rfl,Iw,kw⟩
      dsimp only
      refine Ao (CP ?_)
      have J2:=Iw.mod (i:=(pendingOf st2').size - 1) (f:=fun t=>(t.1,t.2.1,power' a0.size (2*a+b) (2*a+b+b+n) a0.size)) fun t=>⟨rfl,rfl⟩
      refine Ao (CP (Au ⟨lo+n,rfl,by omega,M2,J2.push M1 (by rw [J2.pm.size_eq];exact M2) fun i j hi hij hj=>?_⟩))
      show κ.kle (KK κ (arrOf st2') i) (KK κ (arrOf st2') j)
      rw [KK_congr (kw i (by omega)),KK_congr (kw j (by omega))]
      exact S3 i j hi hij hj
 case post =>
  rintro c st' ⟨rfl,I⟩
  dsimp only
  refine Ao (BW (Bj (I:=fun x c st''=>c=(none,())∧Iv κ a0 st'' a0.size∧((pendingOf st'').size+x≤a0.size ∨ (pendingOf st'').size≤1))
   (Q:=fun c st''=>c=(none,())∧Iv κ a0 st'' a0.size∧(pendingOf st'').size≤1) ?_ ?_ ⟨rfl,I,?_⟩) ?_)
  ·rintro x c st'' _ hx ⟨rfl,I',hp⟩
   refine Ao (Dx ?_)
   by_cases h1:(pendingOf st'').size≤1
   ·refine aI h1 ?_
    exact Au ⟨rfl,I',h1⟩
   ·refine aJ h1 ?_
    refine Ao (gD hO h0 I' (have pick:∀ (b:Bool) (n:Nat),1 < n→(if b=true then n - 2 - 1 else n - 2)+1 < n:=(fun b n hn=>by cases b <;> simp <;> omega);pick _ _ (by omega)) fun st2 I2 z2 _=>?_)
    simp only [CC,Ar,Bl]
    exact Au ⟨rfl,I2,.inl (by omega)⟩
  ·rintro c st'' ⟨rfl,I',hp⟩
   exact ⟨rfl,I',by omega⟩
  ·obtain ⟨rs,T,e,l,p⟩:=I.ex
   have:=p.len
   rw [Ai,l] at this
   exact .inl (by omega)
  ·rintro c st'' ⟨rfl,I',hp⟩
   exact Au (h st'' I'.pm I'.tb.failed (I'.done hp))
end
end Ts
namespace Ts
open PySem PyProof.Rows
variable {κ:KeyKind}
section
variable {prog:Program} {w:World} {A:Around} {E:Value→Shared→Prop} {s:Shared}
theorem iZ (hO:κ.OneLt){a:Addr}{its:List Value}{m:Nat}{P:Fin→Shared→Prop}(at_:s.heap.get? a=some (seqObj "list" its.toArray m))(g:KeysOf κ (pairsOf its))
  (one:∀ x y r,its=x::y::r→keyKind' (x::y::r).toArray=pure oneType') (lim:its.length≤sizeLine)
  (q:∀ st:SortSt,(arrOf st).Perm (pairsOf its)→SortedToK κ (arrOf st) (pairsOf its).size→P (.done (.ret .none)) { s with heap:=sortedHeap s.heap a its ((arrOf st).map (·.2)) }) :
  wpAny (model prog w) A (Builtin.«list.sort» ⟨[.ref a],[]⟩) P E s:=by
 have la:=Ay at_
 have lz:its.toArray.size=its.length:=by simp
 rw [list_sort_plain]
 refine fu (listItems_at at_ rfl (fu (listUpdate_at at_ rfl ?_ (by rw [lz];exact lim))))
 obtain ⟨n1,at1⟩:∃ n1,(s.heap.update a (Obj.mapSeq fun _=>#[])).get? a=some (seqObj "list" #[] n1):=⟨_,get?_update_seq at_ fun _=>#[]⟩
 refine fu (seqEpoch_at at1 rfl (fu (Cr (fu (Dd (A5 ?_))))))
 have at2:(((s.heap.update a (Obj.mapSeq fun _=>#[])).push (seqObj "tuple" its.toArray 0)).push (seqObj "list" #[] 0)).get? a=some (seqObj "list" #[] n1) :=
  Ab _ (Ab _ at1)
 show wpAny (model prog w) A _ P E { s with heap:=((s.heap.update a (Obj.mapSeq fun _=>#[])).push (seqObj "tuple" its.toArray 0)).push (seqObj "list" #[] 0) }
 dsimp only
 by_cases two:its.toArray.size < 2
 ·rw [if_pos two,if_pos two]
  refine fu (Ae ?_)
  rw [StateT.run_pure]
  refine fu (Ae ?_)
  dsimp only
  have zz:((its.toArray.zip its.toArray).map (·.2)).size≤sizeLine+1:=by
   rw [Array.size_map]
   show (pairsOf its).size≤_
   rw [pairsOf_size]
   omega
  refine fu (seqEpoch_at at2 rfl (fu (listUpdate_at at2 rfl ?_ (hsz2:=zz))))
  simp only [DE,Ar,Bl]
  refine Ae (q (SortSt.mk' general' (its.toArray.zip its.toArray) #[] 7 none) (DZ _) fun i j hij hj=>?_)
  rw [pairsOf_size] at hj
  have:i=j:=by omega
  subst this
  exact BA _
 ·rw [if_neg two,if_neg two]
  obtain ⟨x,y,r,rfl⟩:∃ x y r,its=x::y::r:=by
   match its,lz,two with
   | [],_,t=>exact absurd (by simp) t
   | [_],_,t=>exact absurd (by simp) t
   | x::y::r,_,_=>exact ⟨x,y,r,rfl⟩
  rw [one _ _ _ rfl]
  refine fu (Ae (fu (D3 (rJ (κ:=κ) hO (a0:=pairsOf (x::y::r)) (st:=SortSt.mk' oneType' ((x::y::r).toArray.zip (x::y::r).toArray) #[] 7 none)
   (Q:=fun _ st=>(arrOf st).Perm (pairsOf (x::y::r))∧failedOf st=none∧SortedToK κ (arrOf st) (pairsOf (x::y::r)).size) g ⟨DZ _,rfl,rfl,rfl⟩ fun st c1 c2 c3=>⟨c1,c2,c3⟩) ?_ fun _ _ e=>e)))
  rintro ⟨⟨⟩,st⟩ s2 ⟨rfl,c1,c2,c3⟩
  dsimp only
  have zz:((arrOf st).map (·.2)).size≤sizeLine+1:=by
   rw [Array.size_map,c1.size_eq,pairsOf_size]
   omega
  refine fu (seqEpoch_at at2 rfl (fu (listUpdate_at at2 rfl ?_ (hsz2:=zz))))
  rw [c2]
  simp only [DE,Ar,Bl]
  exact Ae (q st c1 c3)
end
end Ts
namespace Wd
section
variable {α:Type}
end
end Wd
namespace PySem
end PySem
namespace L2
open PySem PySem.Spec PyProof.Rows Wd
section
variable {X:Cx}
end
end L2
namespace Wd
def img (ws:List (List L))(x:L):List L:=if x.val < 6 then ws.getD x.val [] else bk (ws.getD (x.val - 6) [])
def sub (ws:List (List L))(u:List L):List L:=u.flatMap (img ws)
def InM (n:Nat)(u:List L):Prop:=∀ x∈u,x.val % 6 < n
theorem pD:∀ (u st:List L) (x:L),x∈act u st→x∈u ∨ x∈st
 | [],st,x,h=>.inr h
 | y::u,st,x,h=>by
  rw [iP] at h
  rcases pD u _ x h with h | h
  ·exact .inl (AC _ h)
  ·cases st with
   | nil =>
    have h:x∈[y]:=h
    rw [Af] at h
    exact .inl (h ▸ Av)
   | cons z r =>
    have h:x∈(if z=inv y then r else y::z::r):=h
    split at h
    ·exact .inr (AC _ h)
    ·rcases Aw.mp h with h | h
     ·exact .inl (h ▸ Av)
     ·exact .inr h
theorem uG {u:List L}{x:L}(h:x∈red u):x∈u:=by
 unfold red at h
 rw [List.mem_reverse] at h
 rcases pD u [] x h with h | h
 ·exact h
 ·cases h
end Wd
namespace PySem
section
variable {prog:Program} {w:World} {A:Around} {E:Value→Shared→Prop}
end
end PySem
namespace L2
open PySem PySem.Spec PyProof.Rows Wd
section
variable {X:Cx} {pos:Pos}
end
section
variable {X:Cx}
end
end L2
namespace Kx
open PySem PySem.Spec PyProof.Rows L2 Wd
inductive dZ (vs:List V)(H:Hp)(Q:VK)(u3_:XK):Prop
 | mk:∀ (d:Addr) (m n:Int),(vs=[.ref d,.int m,.int n])→(Fd H d)→(1≤m)→(m≤6)→(0≤n)→(n≤60)→(∀ (u:List L) (H':Hp),u.length≤n.toNat→InM m.toNat u→Fd H' d→bE d H H'→Q (tx u) H')→dZ vs H Q u3_
theorem yl {m:Int}(h1:1≤m)(h2:m≤6):InM m.toNat (sg m):=by
 have:m=1 ∨ m=2 ∨ m=3 ∨ m=4 ∨ m=5 ∨ m=6:=by omega
 rcases this with rfl | rfl | rfl | rfl | rfl | rfl <;> (unfold InM;decide)
theorem InM.snoc {n:Nat}{u:List L}{x:L}(h:InM n u)(hx:x.val % 6 < n):InM n (u++[x]):=fun y hy=>by
 rcases Ax.mp hy with hy | hy
 ·exact h y hy
 ·rw [Af] at hy;exact hy ▸ hx
theorem InM.nil {n:Nat}:InM n []:=fun y hy=>by cases hy
end Kx
namespace Wd
end Wd
namespace L2
open PySem PySem.Spec PyProof.Rows Wd
section
variable {X:Cx}
end
end L2
namespace Kx
open PySem PySem.Spec PyProof.Rows L2 Wd
end Kx
namespace L2
open PySem PySem.Spec PyProof.Rows Wd
section
variable {X:Cx}
end
end L2
namespace L2
open PySem PySem.Spec PyProof.Rows
section
variable {prog:Program} {w:World} {A:Around} {E:Value→Shared→Prop} {s:Shared}
end
section
variable {X:Cx}
end
end L2
namespace L2
open PySem PySem.Spec PyProof.Rows Wd
section
variable {X:Cx}
end
inductive y8 (x:V)(lo:Option Int)(hi:Option Int)(H:Hp)(Q:VK):Prop
 | mk:∀ a xs,(x = .ref a)→(H a=some (.tup xs))→(∀ p H',aH H H'→H' p=some (.tup (jq xs lo hi))→Q (.ref p) H')→y8 x lo hi H Q
theorem kG {X:Cx}:SlR X y8:=by
 intro pins s σ H x v vl vu lo hi sl Q I rx hs pl pu h
 obtain ⟨a,xs,rfl,hx,q⟩:=h
 exact uv pins s σ H _ v vl vu lo hi sl Q I rx hs pl pu ⟨a,xs,rfl,SqT.of hx,fun e=>q a H (aH.refl _) (by rw [e];exact hx),fun p hp=>q p _ (aH.new hp) ah⟩
end L2
namespace Kx
open PySem PySem.Spec PyProof.Rows L2 Wd
end Kx
namespace L2
open PySem PySem.Spec PyProof.Rows Wd
section
variable {X:Cx}
end
end L2
namespace Wd
def nm (N:List L)(x:L):L:=if x.val < 6 then N.getD x.val 0 else inv (N.getD (x.val - 6) 0)
end Wd
namespace L2
open PySem PySem.Spec PyProof.Rows Wd
section
variable {X:Cx}
end
end L2
namespace Kx
open PySem PySem.Spec PyProof.Rows L2 Wd
end Kx
namespace L2
open PySem PySem.Spec PyProof.Rows
theorem gE (val:Nat→Str):∀ i,(ddp val i).Nodup
 | 0=>by unfold ddp;exact CK
 | i+1=>by
  unfold ddp
  split
  ·exact gE val i
  ·rename_i h
   exact DG.mpr ⟨gE val i,Cg.mpr ⟨AE,CK⟩,fun a ha b hb e=>h (by rw [Af] at hb;subst hb;subst e;exact ha)⟩
theorem pE (val:Nat→Str)(z:Str):∀ i,z∈ddp val i ↔ ∃ j,j < i∧val j=z
 | 0=>by unfold ddp;simp
 | i+1=>by
  have ih:=pE val z i
  unfold ddp
  split
  ·rename_i h
   rw [ih]
   constructor
   ·rintro ⟨j,hj,e⟩;exact ⟨j,by omega,e⟩
   ·rintro ⟨j,hj,e⟩
    by_cases q:j=i
    ·subst q
     rw [← e]
     rw [e] at h ⊢
     exact ih.mp h
    ·exact ⟨j,by omega,e⟩
  ·rw [Ax,ih,Af]
   constructor
   ·rintro (⟨j,hj,e⟩ | e)
    ·exact ⟨j,by omega,e⟩
    ·exact ⟨i,by omega,e.symm⟩
   ·rintro ⟨j,hj,e⟩
    by_cases q:j=i
    ·subst q;exact .inr e.symm
    ·exact .inl ⟨j,by omega,e⟩
theorem dy:∀ {dl zs:List Str},dl.Nodup→(∀ k∈dl,k∈zs)→zs.length≤dl.length→zs.Perm dl
 | [],zs,_,_,h=>by rw [BK.mp (Nat.le_zero.mp h)]
 | d::dl,zs,nd,m,h=>by
  have hd:=m d Av
  have p:=List.perm_cons_erase hd
  refine p.trans (List.Perm.cons _ ?_)
  obtain ⟨n1,n2⟩:=Cg.mp nd
  refine dy n2 (fun k hk=>?_) ?_
  ·have:=m k (AC _ hk)
   exact (CG (fun e=>n1 (by rw [← e];exact hk))).mpr this
  ·rw [Ci hd]
   simp at h
   omega
section
variable {prog:Program} {w:World} {A:Around} {E:Value→Shared→Prop} {s:Shared}
theorem jV {l:Addr}{vs:List Value}{ss:List Str}{Q:Value→Shared→Prop}(hl:s.heap.IsList l vs.toArray)(hS:StrsAre vs ss)(lim:vs.length≤sizeLine)
  (q:∀ (out:Array Value) (zs:List Str),StrsAre out.toList zs→zs.Perm ss→sortedS zs=true→Q (.ref (s.heap.objs.size+1)) { s with heap:=sortedAll s.heap vs out }) :
  wpAny (model prog w) A (call (.builtin "sorted") [.ref l]) Q E s:=by
 refine CL kind_sorted plain_sorted entry_sorted (args_sorted1 _) ?_
 unfold Builtin.«sorted»
 refine fu (m:=checkCount "sorted" 1 1 _) (Ae (fu (collect_list hl (fu (Dd ?_)) (hsz:=lim))))
 have z1:((s.heap.push (seqObj "list" #[] 0)).update s.heap.objs.size (Obj.mapSeq (· ++ vs.toArray))).objs.size=s.heap.objs.size+1:=(Heap.size_update ..).trans (size_push' ..)
 have g:(((s.heap.push (seqObj "list" #[] 0)).update s.heap.objs.size (Obj.mapSeq (· ++ vs.toArray))).push (seqObj "list" vs.toArray 0)).get? (s.heap.objs.size+1)=some (seqObj "list" vs.toArray 0):=z1 ▸ Ak _ rfl
 show wpAny _ _ _ _ _ { s with heap:=((s.heap.push (seqObj "list" #[] 0)).update s.heap.objs.size (Obj.mapSeq (· ++ vs.toArray))).push (seqObj "list" vs.toArray 0) }
 rw [z1]
 refine fu (A5 (A3 slot_list_sort ⟨_,g,rfl⟩ entry_list_sort (Ts.iZ strKind_oneLt g hS.keysOf (fun x y r e=>keyKind_strs (by rw [← e];exact hS)) lim fun st a1 a2=>⟨_,rfl,?_⟩) (args_list_sort _)))
 obtain ⟨zs,h1,h2,h3⟩:=sorted_out_str hS a1 a2
 exact Ae ⟨_,rfl,q _ zs h1 h2 h3⟩
end
section
variable {X:Cx}
inductive cu (K:PySem.W.Frag)(xs:List V)(H:Hp)(Q:VK):Prop
 | mk:∀ l ys,(xs=[.ref l])→(SqL K H l (ys.map V.str))→(∀ p zs,H p=none→zs.Perm ys→sortedS zs=true→Q (.ref p) (upd H p (.lst (zs.map V.str))))→cu K xs H Q
theorem cJ:cx X (.builtin "sorted") (cu X.K):=by
 intro pins s σ H xs us Q I r h
 obtain ⟨l,ys,rfl,hq,q⟩:=h
 obtain ⟨u,rfl,ru⟩:=cP r
 cases ru
 obtain ⟨its,rv,pl,hz⟩:=I.list hq
 have hS:=eX rv
 have hlen:its.length=ys.length:=by rw [← rv.length,Ag]
 rw [Ag] at hz
 refine jV pl.isList hS (by omega) fun out zs hO hp hs=>?_
 obtain ⟨e,he⟩:=sortedAll_at s.heap its out
 have I2:Inv X pins σ (upd H (s.heap.objs.size+1) (.lst (zs.map V.str))) { s with heap:=sortedAll s.heap its out,toks:=s.toks } :=
  I.laid (fun b o e=>sortedAll_old e) (BV _) ⟨by rw [Ag,hp.length_eq];exact hz,out.toList,e,cB hO,by simpa [seqObj] using he⟩
 exact ⟨.ref (s.heap.objs.size+1),_,I2,rfl,q _ zs (I.hok.fresh (BV _)) hp hs⟩
def StO (P:Program)(w:World)(a:Addr)(dl:List Str):HO:=.ext fun h=>ja P w h a dl
theorem ja.lay {P:Program}{w:World}{H:Hp}{h:Heap}{a:Addr}{dl:List Str}(x:ja P w h a dl):bH P w H h a (StO P w a dl):=by
 refine ⟨x,?_,fun h1 h2 y k=>y.at k⟩
 obtain ⟨o,_,_,_,e,_⟩:=x
 exact ⟨o,e⟩
inductive cZ (K:PySem.W.Frag)(P:PySem.Program)(w:PySem.World)(xs:List V)(H:Hp)(Q:VK):Prop
 | mk:∀ (l:Addr) (ys:List Str),(xs=[.ref l])→(SqL K H l (ys.map V.str))→(ys.length≤4000)→(∀ (p:Addr) (dl:List Str),H p=none→dl.Nodup→(∀ z,z∈dl ↔ z∈ys)→Q (.ref p) (upd H p (StO P w p dl)))→cZ K P w xs H Q
theorem dW (hc:X.calm=true):cx X (.type "set") (cZ X.K X.prog X.w):=by
 intro pins s σ H xs us Q I r h
 obtain ⟨l,ys,rfl,hq,hz,q⟩:=h
 obtain ⟨u,rfl,ru⟩:=cP r
 cases ru
 obtain ⟨its,rv,pl,_⟩:=I.list hq
 have hlen:its.length=ys.length:=by rw [← rv.length,Ag]
 have hat:∀ (i:Nat) (v:Value),its.toArray[i]? = some v→∃ t,v = .str (ys.getD i ⟨#[]⟩) t:=fun i v e=>by
  rw [BR] at e
  have hi:i < ys.length:=by
   have:=(Ah.mp e).1
   omega
  obtain ⟨u,eu,t,rfl⟩:=rv.get (i:=i) (x:=.str ys[i]) (by rw [Ap,Ac hi];rfl)
  rw [e] at eu
  cases eu
  exact ⟨t,by rw [AM,Ac hi];rfl⟩
 refine oX (I.ok.hd hc) pl.isList hat (by rw [Bu,hlen];show _ < 4096;omega) fun h' tk hS k=>?_
 refine ⟨.ref s.heap.objs.size,_,I.laid (fun b o e=>k b o (Ay e) e) (Al _) (ja.lay hS),rfl,q _ _ (I.hok.fresh (Al _)) (gE _ _) fun z=>?_⟩
 rw [pE,Bu,hlen]
 constructor
 ·rintro ⟨j,hj,rfl⟩
  rw [AM,Ac hj]
  exact AS _
 ·intro hm
  obtain ⟨j,hj,e⟩:=CH.mp hm
  exact ⟨j,hj,by rw [AM,Ac hj];exact e⟩
end
section
variable {prog:Program} {w:World} {A:Around} {E:Value→Shared→Prop} {s:Shared}
theorem pF:∀ (vs:List Value),(∀ v∈vs,∃ k t,v = .str k t)→∃ zs,StrsAre vs zs∧zs.length=vs.length∧∀ k t,.str k t∈vs→k∈zs
 | [],_=>⟨[],.nil,rfl,fun k t h=>by cases h⟩
 | v::vs,h=>by
  obtain ⟨k,t,rfl⟩:=h v Av
  obtain ⟨zs,h1,h2,h3⟩:=pF vs fun v hv=>h v (AC _ hv)
  refine ⟨k::zs,.cons k t h1,by simp [h2],fun k' t' hk=>?_⟩
  rcases Aw.mp hk with e | e
  ·cases e;exact Av
  ·exact AC _ (h3 k' t' e)
theorem kH {S:Addr}{dl:List Str}{Q:List Value→Shared→Prop}(hh:A.handled=none)(hS:ja prog w s.heap S dl)(nd:dl.Nodup)
  (k:∀ (h':Heap) (tk:Nat) dr (vs:List Value) (zs:List Str),(∀ b o,s.heap.get? b=some o→h'.get? b=some o)→s.heap.objs.size < h'.objs.size→StrsAre vs zs→zs.Perm dl→Q vs { s with heap:=h',drawn:=dr,toks:=tk }) :
  wpAny (model prog w) A (collect (.ref S)) Q E s:=by
 obtain ⟨o,es,ep,t,ho,hex,hd,hel,hm,hb,hf,hn,hpl,hld⟩:=hS
 have l16:sizeLine=16777216:=Dg
 have b4:es.size < 4096:=hb
 unfold collect
 refine (fu (Dv (By F.entry_proto_collect ?_)))
 rw [Bo F.plain_proto_collect _]
 show wpAny _ A.in1 (newList [] >>= fun q=>again (.builtin "list.__iadd__" ⟨[q,.ref S],[]⟩)) _ _ s
 refine (fu (Bh (Ae ⟨B5 C2 _,By F.entry_list_iadd ?_⟩)))
 rw [Bo C2 _]
 have hL:(s.heap.push { cls:=.type "list",data:=.seq ([]:List Value).toArray }).get? s.heap.objs.size=some { cls:=.type "list",data:=.seq #[] }:=Ak _ rfl
 show wpAny _ A.in1 (Builtin.List.listExtendWith (.ref s.heap.objs.size) (.ref S) (.ref s.heap.objs.size)) _ _ { s with heap:=s.heap.push { cls:=.type "list",data:=.seq ([]:List Value).toArray } }
 refine mT (R:=fun r s'=>match r with
  | .ok (.ret v)=>wpAny (model prog w) A (match v with
   | .ref a=>do
    match (← load a).data with
    | .seq xs _=>pure xs.toList
    | _=>unsupported "internal:collect"
   | _=>unsupported "internal:collect") Q E s'
  | .ok _=>False
  | .error e=>E e s') (s:={ s with heap:=s.heap.push { cls:=.type "list",data:=.seq ([]:List Value).toArray } }) hh ⟨⟨o,Ab _ ho,hex,hd⟩,hf⟩ hld (fun h1=>hpl (fun e=>by rw [e,Bs] at hn;omega)) (by omega) _ hL fun h' dr tk vs acc c' hk hL' pm hI=>?_
 show wpAny _ A (load s.heap.objs.size >>= _) _ _ { s with heap:=h',drawn:=dr,toks:=tk }
 have lv:vs.length=es.size:=by rw [pm.length_eq,Ag,Ai]
 have ea:acc.toList=vs:=by
  apply DF
  intro i
  rw [AN]
  by_cases hi:i < es.size
  ·have e1:=Bx acc i (by rw [hI.1];exact hi)
   rw [e1,hI.2 i _ e1]
  ·rw [Dp acc i (by rw [hI.1];exact hi),BS (by omega)]
 have sh:∀ v∈vs,∃ z u,v = .str z u:=fun v hv=>by
  obtain ⟨x,hx,rfl⟩:=AU.mp (pm.mem_iff.mp hv)
  obtain ⟨z,hz⟩:=hel.keys x hx
  obtain ⟨u,e⟩:=Value.isStrOf_shape hz
  exact ⟨z,u,e⟩
 obtain ⟨zs,z1,z2,z3⟩:=pF vs sh
 have q:=k h' tk dr vs zs (fun b o e=>hk b o (AK (Ay e)) (Ab _ e)) (Ay hL') z1 (dy nd (fun z hz=>?_) (by omega))
 ·refine fu (wpAny_load hL' ?_)
  rw [← ea] at q
  exact Ae q
 ·obtain ⟨x,hx,hi⟩:=(hm z).mp hz
  obtain ⟨u,e⟩:=Value.isStrOf_shape hi
  exact z3 z u (pm.mem_iff.mpr (AU.mpr ⟨x,hx,e⟩))
end
section
variable {X:Cx}
theorem Inv.dr {pins:List (Addr × Obj)}{σ:List (Option V)}{H:Hp}{s:Shared}{d}(I:Inv X pins σ H s):Inv X pins σ H { s with drawn:=d }:=⟨I.ok,I.os,I.bare,I.base,I.loc,I.cell,I.free,I.freeC,I.pin,I.hok,I.len⟩
inductive cK (P:PySem.Program)(w:PySem.World)(xs:List V)(H:Hp)(Q:VK):Prop
 | mk:∀ (a:Addr) (dl:List Str),(xs=[.ref a])→(H a=some (StO P w a dl))→(dl.Nodup)→(∀ (p:Addr) (zs:List Str),H p=none→zs.Perm dl→sortedS zs=true→Q (.ref p) (upd H p (.lst (zs.map V.str))))→cK P w xs H Q
theorem dz (hc:X.calm=true):cx X (.builtin "sorted") (cK X.prog X.w):=by
 intro pins s σ H xs us Q I r h
 obtain ⟨S,dl,rfl,hp,nd,q⟩:=h
 obtain ⟨u,rfl,ru⟩:=cP r
 cases ru
 have hS:ja X.prog X.w s.heap S dl:=(I.hok S _ hp).1
 have l16:sizeLine=16777216:=Dg
 have lz:dl.length < 4096:=by
  obtain ⟨o,es,ep,t,ho,hex,hd,hel,hm,hb,hf,hn,hpl,hld⟩:=hS
  rw [← hn]
  exact hb
 refine (CL kind_sorted plain_sorted entry_sorted (args_sorted1 _) ?_)
 unfold Builtin.«sorted»
 refine (fu (m:=checkCount "sorted" 1 1 _) (Ae ?_))
 refine fu (kH (A:=X.A.in1) (I.ok.hd hc) hS nd fun h' tk dr vs zs0 hk hlt hS0 p0=>?_)
 have hlen:vs.length=dl.length:=by rw [← p0.length_eq];exact (cB hS0).length.symm.trans (Ag ..)
 refine (fu (Dd ?_))
 have hoL:(h'.push (seqObj "list" vs.toArray 0)).get? h'.objs.size=some (seqObj "list" vs.toArray 0):=Ak _ rfl
 refine (fu (A5 (A3 slot_list_sort ⟨_,hoL,rfl⟩ entry_list_sort (Ts.iZ strKind_oneLt hoL hS0.keysOf (fun x y r e=>keyKind_strs (by rw [← e];exact hS0)) (by omega) fun st' a1 a2=>⟨_,rfl,?_⟩) (args_list_sort _))))
 obtain ⟨zs,h1,h2,h3⟩:=sorted_out_str hS0 a1 a2
 refine Ae ⟨_,rfl,?_⟩
 obtain ⟨e,he⟩:=sortedHeap_at (out:=(arrOf st').map (·.2)) hoL
 have hp2:=h2.trans p0
 have hzl:(zs.map V.str).length≤sizeLine:=by
  rw [Ag,hp2.length_eq]
  omega
 have old:∀ b o,s.heap.get? b=some o→(sortedHeap (h'.push (seqObj "list" vs.toArray 0)) h'.objs.size vs ((arrOf st').map (·.2))).get? b=some o:=fun b o eb=>by
  have e1:=hk b o eb
  have e2:=Ay e1
  rw [sortedHeap_old (AK e2) (by rw [AV];exact Bg e2)]
  exact Ab _ e1
 have I2:Inv X pins σ (upd H h'.objs.size (.lst (zs.map V.str))) { s with heap:=sortedHeap (h'.push (seqObj "list" vs.toArray 0)) h'.objs.size vs ((arrOf st').map (·.2)),toks:=tk } :=
  I.laid old (Dq hlt) ⟨hzl,((arrOf st').map (·.2)).toList,e,cB h1,by rw [Array.toArray_toList];exact he⟩
 exact ⟨.ref h'.objs.size,_,I2.dr (d:=dr),rfl,q _ zs (I.hok.fresh (Dq hlt)) hp2 h3⟩
end
end L2
namespace PySem
open Sem (wp)
abbrev fP (h:Heap)(z TI TO:Addr)(f0:Value)(fb:Bool):Prop :=
 h.get? z=some { cls:=.type "zip",dict:=none,data:=.fields #[f0,.bool fb,.bool false,.ref TI,.ref TO],slots:=#[] }
section
variable {prog:Program} {w:World} {A:Around} {E:Value→Shared→Prop} {s:Shared} {z TI TO i1 i2:Addr} {x y:Str} {t u:Tok} {k c d:Nat} {a b:Value}
theorem gF {a:Nat}{Q:Option Obj→Shared→Prop}(h:Q (s.heap.get? a) s):wpAny (model prog w) A (loadIfAlive a) Q E s:=fun _ _ _=>by
 show Sem.wp _ _ (Sem.loadIfAlive a Sem.pure) _ _ _ _
 rw [Sem.wp_loadIfAlive,Sem.wp_pure]
 exact h
theorem pG {f0:Value}{fb:Bool}{Q:Value→Shared→Prop}(D:Ap5 z TI TO i1 i2)(hf:f0 = .none ∨ ∃ n:Nat,f0=rawInt n)
  (hz:fP s.heap z TI TO f0 fb) (hTI:IsPair s.heap TI (.ref i1) (.ref i2)) (hTO:IsPair s.heap TO a b) (h1:df s.heap i1 x t k) (h2:df s.heap i2 y u k) (hx:x.cps[k]? = some c) (hy:y.cps[k]? = some d)
  (hQ:∀ h' tk t1 t2 f0' fb',(f0'=Value.none ∨ ∃ n:Nat,f0'=rawInt n)→fP h' z TI TO f0' fb'→(∃ a b,IsPair h' TO a b)→df h' i1 x t (k+1)→df h' i2 y u (k+1)→IsPair h' s.heap.objs.size (.str ⟨#[c]⟩ t1) (.str ⟨#[d]⟩ t2) →
   (∀ e o,e≠z→e≠TO→e≠i1→e≠i2→s.heap.get? e=some o→h'.get? e=some o)→h'.objs.size=s.heap.objs.size+1→Q (.ref s.heap.objs.size) { s with heap:=h',toks:=tk }) :
  wpAny (model prog w) A (Builtin.«zip.__next__» ⟨[.ref z],[]⟩) (fun fin s'=>∃ v,fin = .done (.ret v)∧Q v s') E s:=by
 show wpAny _ _ (field (.ref z) 2 >>= _) _ _ _
 refine fu (A0 hz rfl (x:=.bool false) rfl ?_)
 show wpAny _ _ (field (.ref z) 3 >>= _) _ _ _
 refine fu (A0 hz rfl (x:=.ref TI) rfl (fu (Bd hTI rfl ?_)))
 show wpAny _ _ (Builtin.SmallTypes.ownedTupleIsFree (.ref z) >>= _) _ _ _
 refine fu ?_
 unfold Builtin.SmallTypes.ownedTupleIsFree
 rcases hf with rfl | ⟨n,rfl⟩
 ·refine fu (A0 hz rfl (x:=.none) rfl (Ae ?_))
  simp only [BX]
  refine fu (Bm (fu (A0 hz rfl (x:=.ref TO) rfl (fu (AB hz (by simp) fun g1 hz1 e1=>?_)))))
  have hz1:fP g1 z TI TO .ellipsis fb:=hz1
  refine fu ?_
  simp only [B2,Cv,BG,BP]
  refine fu (fu (BH ?_))
  show wpAny _ _ (Builtin.SmallTypes.nextOf (.ref i1) >>= _) _ _ _
  refine fu (AL (h1.extBut e1.extBut D.i1z) hx fun g2 j1 e2=>Ae ?_)
  have o2:IsPair g2 TO a b:=e2.extBut _ _ D.TOi1 (e1.extBut _ _ D.TOz hTO)
  refine fu (Bd o2 rfl (fu (Bn o2 fun g3 o3 e3=>fu (Cm (Ae ?_)))))
  have o3:IsPair g3 TO (.str ⟨#[c]⟩ s.toks) b:=o3
  refine fu (fu (BH ?_))
  show wpAny _ _ (Builtin.SmallTypes.nextOf (.ref i2) >>= _) _ _ _
  refine fu (AL (((h2.extBut e1.extBut D.i2z).extBut e2.extBut D.i12.symm).extBut e3.extBut D.TOi2.symm) hy fun g4 j2 e4=>Ae ?_)
  have o4:IsPair g4 TO (.str ⟨#[c]⟩ s.toks) b:=e4.extBut _ _ D.TOi2 o3
  refine fu (Bd o4 rfl (fu (Bn o4 fun g5 o5 e5=>fu (Cm (Ae (Ae ?_))))))
  have o5:IsPair g5 TO (.str ⟨#[c]⟩ s.toks) (.str ⟨#[d]⟩ (s.toks+1)):=o5
  refine fu (Bd o5 rfl (fu (Cr ?_)))
  have hsz:g5.objs.size=s.heap.objs.size:=by rw [e5.1,e4.1,e3.1,e2.1,e1.1]
  have z5:fP g5 z TI TO .ellipsis fb:=e5.extBut _ _ D.TOz.symm (e4.extBut _ _ D.i2z.symm (e3.extBut _ _ D.TOz.symm (e2.extBut _ _ D.i1z.symm hz1)))
  have kk:∀ e o,e≠z→e≠TO→e≠i1→e≠i2→s.heap.get? e=some o→g5.get? e=some o:=fun e o n1 n2 n3 n4 q=>e5.extBut _ _ n2 (e4.extBut _ _ n4 (e3.extBut _ _ n2 (e2.extBut _ _ n3 (e1.extBut _ _ n1 q))))
  have j1':df g5 i1 x t (k+1):=((j1.extBut e3.extBut D.TOi1.symm).extBut e4.extBut D.i12).extBut e5.extBut D.TOi1.symm
  have j2':df g5 i2 y u (k+1):=j2.extBut e5.extBut D.TOi2.symm
  have zlt:z < g5.objs.size:=Ay z5
  show wpAny _ _ (Builtin.SmallTypes.ownedTupleHandOut (.ref z) (.ref g5.objs.size) >>= _) _ _ _
  refine fu ?_
  unfold Builtin.SmallTypes.ownedTupleHandOut
  have z6:fP (g5.push { cls:=.type "tuple",data:=.seq #[.str ⟨#[c]⟩ s.toks,.str ⟨#[d]⟩ (s.toks+1)] }) z TI TO .ellipsis fb:=Ab _ z5
  refine fu (AB z6 (by simp) fun g7 z7 e7=>?_)
  have z7:fP g7 z TI TO (rawInt g5.objs.size) fb:=z7
  refine AB z7 (by simp) fun g8 z8 e8=>?_
  have z8:fP g8 z TI TO (rawInt g5.objs.size) false:=z8
  have up:∀ e o,e≠z→g5.get? e=some o→g8.get? e=some o:=fun e o n1 q=>e8.extBut _ _ n1 (e7.extBut _ _ n1 (Ab _ q))
  have T8:IsPair g8 g5.objs.size (.str ⟨#[c]⟩ s.toks) (.str ⟨#[d]⟩ (s.toks+1)):=e8.extBut _ _ (Bi zlt) (e7.extBut _ _ (Bi zlt) (Ak _ rfl))
  rw [hsz] at z8 T8
  refine Ae ⟨_,rfl,?_⟩
  show Q (.ref g5.objs.size) _
  rw [hsz]
  exact hQ g8 _ _ _ _ _ (.inr ⟨_,rfl⟩) z8 ⟨_,_,up _ _ D.TOz o5⟩ (let ⟨o,ho,r⟩:=j1';⟨o,up _ o D.i1z ho,r⟩) (let ⟨o,ho,r⟩:=j2';⟨o,up _ o D.i2z ho,r⟩) T8 (fun e o n1 n2 n3 n4 q=>up e o n1 (kk e o n1 n2 n3 n4 q)) (by rw [e8.1,e7.1,AV,hsz])
 ·refine fu (A0 hz rfl (x:=rawInt n) rfl ?_)
  dsimp only [rawInt]
  refine fu (gF ?_)
  cases al:s.heap.get? (n:Int).toNat with
  | none =>
   simp only [Option.isNone_none,BX]
   refine Ae ?_
   simp only [BX]
   refine fu (Bm (fu (A0 hz rfl (x:=.ref TO) rfl (fu (AB hz (by simp) fun g1 hz1 e1=>?_)))))
   have hz1:fP g1 z TI TO .ellipsis fb:=hz1
   refine fu ?_
   simp only [B2,Cv,BG,BP]
   refine fu (fu (BH ?_))
   show wpAny _ _ (Builtin.SmallTypes.nextOf (.ref i1) >>= _) _ _ _
   refine fu (AL (h1.extBut e1.extBut D.i1z) hx fun g2 j1 e2=>Ae ?_)
   have o2:IsPair g2 TO a b:=e2.extBut _ _ D.TOi1 (e1.extBut _ _ D.TOz hTO)
   refine fu (Bd o2 rfl (fu (Bn o2 fun g3 o3 e3=>fu (Cm (Ae ?_)))))
   have o3:IsPair g3 TO (.str ⟨#[c]⟩ s.toks) b:=o3
   refine fu (fu (BH ?_))
   show wpAny _ _ (Builtin.SmallTypes.nextOf (.ref i2) >>= _) _ _ _
   refine fu (AL (((h2.extBut e1.extBut D.i2z).extBut e2.extBut D.i12.symm).extBut e3.extBut D.TOi2.symm) hy fun g4 j2 e4=>Ae ?_)
   have o4:IsPair g4 TO (.str ⟨#[c]⟩ s.toks) b:=e4.extBut _ _ D.TOi2 o3
   refine fu (Bd o4 rfl (fu (Bn o4 fun g5 o5 e5=>fu (Cm (Ae (Ae ?_))))))
   have o5:IsPair g5 TO (.str ⟨#[c]⟩ s.toks) (.str ⟨#[d]⟩ (s.toks+1)):=o5
   refine fu (Bd o5 rfl (fu (Cr ?_)))
   have hsz:g5.objs.size=s.heap.objs.size:=by rw [e5.1,e4.1,e3.1,e2.1,e1.1]
   have z5:fP g5 z TI TO .ellipsis fb:=e5.extBut _ _ D.TOz.symm (e4.extBut _ _ D.i2z.symm (e3.extBut _ _ D.TOz.symm (e2.extBut _ _ D.i1z.symm hz1)))
   have kk:∀ e o,e≠z→e≠TO→e≠i1→e≠i2→s.heap.get? e=some o→g5.get? e=some o:=fun e o n1 n2 n3 n4 q=>e5.extBut _ _ n2 (e4.extBut _ _ n4 (e3.extBut _ _ n2 (e2.extBut _ _ n3 (e1.extBut _ _ n1 q))))
   have j1':df g5 i1 x t (k+1):=((j1.extBut e3.extBut D.TOi1.symm).extBut e4.extBut D.i12).extBut e5.extBut D.TOi1.symm
   have j2':df g5 i2 y u (k+1):=j2.extBut e5.extBut D.TOi2.symm
   have zlt:z < g5.objs.size:=Ay z5
   show wpAny _ _ (Builtin.SmallTypes.ownedTupleHandOut (.ref z) (.ref g5.objs.size) >>= _) _ _ _
   refine fu ?_
   unfold Builtin.SmallTypes.ownedTupleHandOut
   have z6:fP (g5.push { cls:=.type "tuple",data:=.seq #[.str ⟨#[c]⟩ s.toks,.str ⟨#[d]⟩ (s.toks+1)] }) z TI TO .ellipsis fb:=Ab _ z5
   refine fu (AB z6 (by simp) fun g7 z7 e7=>?_)
   have z7:fP g7 z TI TO (rawInt g5.objs.size) fb:=z7
   refine AB z7 (by simp) fun g8 z8 e8=>?_
   have z8:fP g8 z TI TO (rawInt g5.objs.size) false:=z8
   have up:∀ e o,e≠z→g5.get? e=some o→g8.get? e=some o:=fun e o n1 q=>e8.extBut _ _ n1 (e7.extBut _ _ n1 (Ab _ q))
   have T8:IsPair g8 g5.objs.size (.str ⟨#[c]⟩ s.toks) (.str ⟨#[d]⟩ (s.toks+1)):=e8.extBut _ _ (Bi zlt) (e7.extBut _ _ (Bi zlt) (Ak _ rfl))
   rw [hsz] at z8 T8
   refine Ae ⟨_,rfl,?_⟩
   show Q (.ref g5.objs.size) _
   rw [hsz]
   exact hQ g8 _ _ _ _ _ (.inr ⟨_,rfl⟩) z8 ⟨_,_,up _ _ D.TOz o5⟩ (let ⟨o,ho,r⟩:=j1';⟨o,up _ o D.i1z ho,r⟩) (let ⟨o,ho,r⟩:=j2';⟨o,up _ o D.i2z ho,r⟩) T8 (fun e o n1 n2 n3 n4 q=>up e o n1 (kk e o n1 n2 n3 n4 q)) (by rw [e8.1,e7.1,AV,hsz])
  | some ob =>
   simp only [Option.isNone_some,Ar,Bl]
   refine fu (A0 hz rfl (x:=.bool fb) rfl ?_)
   cases fb with
   | true =>
    rw [if_neg (by simp)]
    refine Ae ?_
    simp only [Ar,Bl]
    refine fu ?_
    simp only [CV,BG,BP]
    refine fu (fu (A5 ?_))
    show wpAny _ _ (Builtin.SmallTypes.nextOf (.ref i1) >>= _) _ _ _
    refine fu (AL h1 hx fun g2 j1 e2=>Ae (Ae ?_))
    refine fu (fu (A5 ?_))
    show wpAny _ _ (Builtin.SmallTypes.nextOf (.ref i2) >>= _) _ _ _
    refine fu (AL ((h2).extBut e2.extBut D.i12.symm) hy fun g3 j2 e3=>Ae (Ae (Ae ?_)))
    refine fu (Cr (Ae ⟨_,rfl,?_⟩) (by show 2≤sizeLine;decide))
    have hsz:g3.objs.size=s.heap.objs.size:=by rw [e3.1,e2.1]
    show Q (.ref g3.objs.size) _
    have T4:IsPair (g3.push { cls:=.type "tuple",data:=.seq #[.str ⟨#[c]⟩ s.toks,.str ⟨#[d]⟩ (s.toks+1)] }) g3.objs.size (.str ⟨#[c]⟩ s.toks) (.str ⟨#[d]⟩ (s.toks+1)):=Ak _ rfl
    rw [hsz] at T4 ⊢
    have kk:∀ e o,e≠z→e≠i1→e≠i2→s.heap.get? e=some o→(g3.push { cls:=.type "tuple",data:=.seq #[.str ⟨#[c]⟩ s.toks,.str ⟨#[d]⟩ (s.toks+1)] }).get? e=some o:=fun e o n1 n3 n4 q=>Ab _ (e3.extBut _ _ n4 (e2.extBut _ _ n3 (q)))
    refine hQ _ _ _ _ (rawInt n) true (.inr ⟨n,rfl⟩) (Ab _ (e3.extBut _ _ D.i2z.symm (e2.extBut _ _ D.i1z.symm hz))) ⟨_,_,kk _ _ D.TOz D.TOi1 D.TOi2 hTO⟩ ?_ ?_ T4 (fun e o n1 _ n3 n4 q=>kk e o n1 n3 n4 q) (by rw [AV,hsz])
    ·obtain ⟨o,ho,r⟩:=j1.extBut e3.extBut D.i12
     exact ⟨o,Ab _ ho,r⟩
    ·obtain ⟨o,ho,r⟩:=j2
     exact ⟨o,Ab _ ho,r⟩
   | false =>
    rw [if_pos (by decide)]
    refine fu (AB hz (by simp) fun g0 z0 e0=>Ae ?_)
    have z0:fP g0 z TI TO (rawInt n) true:=z0
    simp only [Ar,Bl]
    refine fu ?_
    simp only [CV,BG,BP]
    refine fu (fu (A5 ?_))
    show wpAny _ _ (Builtin.SmallTypes.nextOf (.ref i1) >>= _) _ _ _
    refine fu (AL (h1.extBut e0.extBut D.i1z) hx fun g2 j1 e2=>Ae (Ae ?_))
    refine fu (fu (A5 ?_))
    show wpAny _ _ (Builtin.SmallTypes.nextOf (.ref i2) >>= _) _ _ _
    refine fu (AL ((h2.extBut e0.extBut D.i2z).extBut e2.extBut D.i12.symm) hy fun g3 j2 e3=>Ae (Ae (Ae ?_)))
    refine fu (Cr (Ae ⟨_,rfl,?_⟩) (by show 2≤sizeLine;decide))
    have hsz:g3.objs.size=s.heap.objs.size:=by rw [e3.1,e2.1,e0.1]
    show Q (.ref g3.objs.size) _
    have T4:IsPair (g3.push { cls:=.type "tuple",data:=.seq #[.str ⟨#[c]⟩ s.toks,.str ⟨#[d]⟩ (s.toks+1)] }) g3.objs.size (.str ⟨#[c]⟩ s.toks) (.str ⟨#[d]⟩ (s.toks+1)):=Ak _ rfl
    rw [hsz] at T4 ⊢
    have kk:∀ e o,e≠z→e≠i1→e≠i2→s.heap.get? e=some o→(g3.push { cls:=.type "tuple",data:=.seq #[.str ⟨#[c]⟩ s.toks,.str ⟨#[d]⟩ (s.toks+1)] }).get? e=some o:=fun e o n1 n3 n4 q=>Ab _ (e3.extBut _ _ n4 (e2.extBut _ _ n3 (e0.extBut _ _ n1 q)))
    refine hQ _ _ _ _ (rawInt n) true (.inr ⟨n,rfl⟩) (Ab _ (e3.extBut _ _ D.i2z.symm (e2.extBut _ _ D.i1z.symm z0))) ⟨_,_,kk _ _ D.TOz D.TOi1 D.TOi2 hTO⟩ ?_ ?_ T4 (fun e o n1 _ n3 n4 q=>kk e o n1 n3 n4 q) (by rw [AV,hsz])
    ·obtain ⟨o,ho,r⟩:=j1.extBut e3.extBut D.i12
     exact ⟨o,Ab _ ho,r⟩
    ·obtain ⟨o,ho,r⟩:=j2
     exact ⟨o,Ab _ ho,r⟩
theorem rK {f0:Value}{fb:Bool}{Q:Fin→Shared→Prop}(hh:A.handled=none)(D:Ap5 z TI TO i1 i2)(hf:f0 = .none ∨ ∃ n:Nat,f0=rawInt n)
  (hz:fP s.heap z TI TO f0 fb) (hTI:IsPair s.heap TI (.ref i1) (.ref i2)) (hTO:IsPair s.heap TO a b) (h1:df s.heap i1 x t k) (h2:df s.heap i2 y u k) (hend:x.cps[k]? = none ∨ y.cps[k]? = none)
  (hE:∀ h' tk e,(∀ c o,c≠z→c≠TO→c≠i1→c≠i2→s.heap.get? c=some o→h'.get? c=some o)→(∃ o,h'.get? e=some o∧o.cls = .type "StopIteration")→E (.ref e) { s with heap:=h',toks:=tk }) :
  wpAny (model prog w) A (Builtin.«zip.__next__» ⟨[.ref z],[]⟩) Q E s:=by
 show wpAny _ _ (field (.ref z) 2 >>= _) _ _ _
 refine fu (A0 hz rfl (x:=.bool false) rfl ?_)
 show wpAny _ _ (field (.ref z) 3 >>= _) _ _ _
 refine fu (A0 hz rfl (x:=.ref TI) rfl (fu (Bd hTI rfl ?_)))
 show wpAny _ _ (Builtin.SmallTypes.ownedTupleIsFree (.ref z) >>= _) _ _ _
 refine fu ?_
 unfold Builtin.SmallTypes.ownedTupleIsFree
 rcases hf with rfl | ⟨n,rfl⟩
 ·refine fu (A0 hz rfl (x:=.none) rfl (Ae ?_))
  simp only [BX]
  refine fu (Bm (fu (A0 hz rfl (x:=.ref TO) rfl (fu (AB hz (by simp) fun g1 hz1 e1=>?_)))))
  have hz1:fP g1 z TI TO .ellipsis fb:=hz1
  refine fu ?_
  simp only [B2,Cv,BG,BP]
  refine fu (fu (BH ?_))
  show wpAny _ _ (Builtin.SmallTypes.nextOf (.ref i1) >>= _) _ _ _
  cases hx:x.cps[k]? with
  | none =>
   refine fu (A_ hh (h1.extBut e1.extBut D.i1z) hx fun g2 e e2 he=>?_)
   obtain ⟨oe,hoe,hce⟩:=he
   have z2:fP g2 z TI TO .ellipsis fb:=e2 _ _ D.i1z.symm hz1
   have hez:e≠z:=fun q=>by subst q;rw [z2] at hoe;cases hoe;simp at hce
   exact AB z2 (by simp) fun g3 _ e3=>hE g3 _ e (fun c o n1 _ n3 _ q=>e3.extBut _ _ n1 (e2 _ _ n3 (e1.extBut _ _ n1 q))) ⟨oe,e3.extBut _ _ hez hoe,hce⟩
  | some c =>
   have hy:y.cps[k]? = none:=by
    rcases hend with h | h
    ·rw [hx] at h;cases h
    ·exact h
   refine fu (AL (h1.extBut e1.extBut D.i1z) hx fun g2 j1 e2=>Ae ?_)
   have o2:IsPair g2 TO a b:=e2.extBut _ _ D.TOi1 (e1.extBut _ _ D.TOz hTO)
   refine fu (Bd o2 rfl (fu (Bn o2 fun g3 o3 e3=>fu (Cm (Ae ?_)))))
   refine fu (fu (BH ?_))
   show wpAny _ _ (Builtin.SmallTypes.nextOf (.ref i2) >>= _) _ _ _
   refine fu (A_ hh (((h2.extBut e1.extBut D.i2z).extBut e2.extBut D.i12.symm).extBut e3.extBut D.TOi2.symm) hy fun g4 e e4 he=>?_)
   obtain ⟨oe,hoe,hce⟩:=he
   have z4:fP g4 z TI TO .ellipsis fb:=e4 _ _ D.i2z.symm (e3.extBut _ _ D.TOz.symm (e2.extBut _ _ D.i1z.symm hz1))
   have hez:e≠z:=fun q=>by subst q;rw [z4] at hoe;cases hoe;simp at hce
   exact AB z4 (by simp) fun g5 _ e5=>hE g5 _ e (fun c o n1 n2 n3 n4 q=>e5.extBut _ _ n1 (e4 _ _ n4 (e3.extBut _ _ n2 (e2.extBut _ _ n3 (e1.extBut _ _ n1 q))))) ⟨oe,e5.extBut _ _ hez hoe,hce⟩
 ·refine fu (A0 hz rfl (x:=rawInt n) rfl ?_)
  dsimp only [rawInt]
  refine fu (gF ?_)
  cases al:s.heap.get? (n:Int).toNat with
  | none =>
   simp only [Option.isNone_none,BX]
   refine Ae ?_
   simp only [BX]
   refine fu (Bm (fu (A0 hz rfl (x:=.ref TO) rfl (fu (AB hz (by simp) fun g1 hz1 e1=>?_)))))
   have hz1:fP g1 z TI TO .ellipsis fb:=hz1
   refine fu ?_
   simp only [B2,Cv,BG,BP]
   refine fu (fu (BH ?_))
   show wpAny _ _ (Builtin.SmallTypes.nextOf (.ref i1) >>= _) _ _ _
   cases hx:x.cps[k]? with
   | none =>
    refine fu (A_ hh (h1.extBut e1.extBut D.i1z) hx fun g2 e e2 he=>?_)
    obtain ⟨oe,hoe,hce⟩:=he
    have z2:fP g2 z TI TO .ellipsis fb:=e2 _ _ D.i1z.symm hz1
    have hez:e≠z:=fun q=>by subst q;rw [z2] at hoe;cases hoe;simp at hce
    exact AB z2 (by simp) fun g3 _ e3=>hE g3 _ e (fun c o n1 _ n3 _ q=>e3.extBut _ _ n1 (e2 _ _ n3 (e1.extBut _ _ n1 q))) ⟨oe,e3.extBut _ _ hez hoe,hce⟩
   | some c =>
    have hy:y.cps[k]? = none:=by
     rcases hend with h | h
     ·rw [hx] at h;cases h
     ·exact h
    refine fu (AL (h1.extBut e1.extBut D.i1z) hx fun g2 j1 e2=>Ae ?_)
    have o2:IsPair g2 TO a b:=e2.extBut _ _ D.TOi1 (e1.extBut _ _ D.TOz hTO)
    refine fu (Bd o2 rfl (fu (Bn o2 fun g3 o3 e3=>fu (Cm (Ae ?_)))))
    refine fu (fu (BH ?_))
    show wpAny _ _ (Builtin.SmallTypes.nextOf (.ref i2) >>= _) _ _ _
    refine fu (A_ hh (((h2.extBut e1.extBut D.i2z).extBut e2.extBut D.i12.symm).extBut e3.extBut D.TOi2.symm) hy fun g4 e e4 he=>?_)
    obtain ⟨oe,hoe,hce⟩:=he
    have z4:fP g4 z TI TO .ellipsis fb:=e4 _ _ D.i2z.symm (e3.extBut _ _ D.TOz.symm (e2.extBut _ _ D.i1z.symm hz1))
    have hez:e≠z:=fun q=>by subst q;rw [z4] at hoe;cases hoe;simp at hce
    exact AB z4 (by simp) fun g5 _ e5=>hE g5 _ e (fun c o n1 n2 n3 n4 q=>e5.extBut _ _ n1 (e4 _ _ n4 (e3.extBut _ _ n2 (e2.extBut _ _ n3 (e1.extBut _ _ n1 q))))) ⟨oe,e5.extBut _ _ hez hoe,hce⟩
  | some ob =>
   simp only [Option.isNone_some,Ar,Bl]
   refine fu (A0 hz rfl (x:=.bool fb) rfl ?_)
   cases fb with
   | true =>
    rw [if_neg (by simp)]
    refine Ae ?_
    simp only [Ar,Bl]
    refine fu ?_
    simp only [CV,BG,BP]
    refine fu (fu (A5 ?_))
    show wpAny _ _ (Builtin.SmallTypes.nextOf (.ref i1) >>= _) _ _ _
    cases hx:x.cps[k]? with
    | none =>
     refine fu (A_ hh h1 hx fun g2 e e2 he=>?_)
     exact hE g2 _ e (fun c o n1 _ n3 _ q=>e2 _ _ n3 (q)) he
    | some c =>
     have hy:y.cps[k]? = none:=by
      rcases hend with h | h
      ·rw [hx] at h;cases h
      ·exact h
     refine fu (AL h1 hx fun g2 j1 e2=>Ae (Ae ?_))
     refine fu (fu (A5 ?_))
     show wpAny _ _ (Builtin.SmallTypes.nextOf (.ref i2) >>= _) _ _ _
     refine fu (A_ hh ((h2).extBut e2.extBut D.i12.symm) hy fun g3 e e3 he=>?_)
     exact hE g3 _ e (fun c o n1 _ n3 n4 q=>e3 _ _ n4 (e2.extBut _ _ n3 (q))) he
   | false =>
    rw [if_pos (by decide)]
    refine fu (AB hz (by simp) fun g0 z0 e0=>Ae ?_)
    simp only [Ar,Bl]
    refine fu ?_
    simp only [CV,BG,BP]
    refine fu (fu (A5 ?_))
    show wpAny _ _ (Builtin.SmallTypes.nextOf (.ref i1) >>= _) _ _ _
    cases hx:x.cps[k]? with
    | none =>
     refine fu (A_ hh (h1.extBut e0.extBut D.i1z) hx fun g2 e e2 he=>?_)
     exact hE g2 _ e (fun c o n1 _ n3 _ q=>e2 _ _ n3 (e0.extBut _ _ n1 q)) he
    | some c =>
     have hy:y.cps[k]? = none:=by
      rcases hend with h | h
      ·rw [hx] at h;cases h
      ·exact h
     refine fu (AL (h1.extBut e0.extBut D.i1z) hx fun g2 j1 e2=>Ae (Ae ?_))
     refine fu (fu (A5 ?_))
     show wpAny _ _ (Builtin.SmallTypes.nextOf (.ref i2) >>= _) _ _ _
     refine fu (A_ hh ((h2.extBut e0.extBut D.i2z).extBut e2.extBut D.i12.symm) hy fun g3 e e3 he=>?_)
     exact hE g3 _ e (fun c o n1 _ n3 n4 q=>e3 _ _ n4 (e2.extBut _ _ n3 (e0.extBut _ _ n1 q))) he
theorem iu {v:Value→Shared→Prop}{e:Value→Shared→Prop}(hT:s.TypeIs (.ref z) "zip")(h:wpAny (model prog w) A.in1 (Builtin.«zip.__next__» ⟨[.ref z],[]⟩) (fun fin s'=>∃ r,fin = .done (.ret r)∧v r s') e s) :
  wpAny (model prog w) A (Builtin.SmallTypes.nextOf (.ref z)) v e s:=by
 unfold Builtin.SmallTypes.nextOf
 exact fu (Bk (name:=Str.ofString "__next__") hT Cw (A3 Cw hT DP (D3 h (fun f s' q=>by obtain ⟨r,e,q⟩:=q;exact ⟨r,e,Ae q⟩) fun _ _ q=>q) (Dy _)))
theorem mX {e:Addr}{i:Nat}{old f0:Value}{fb:Bool}{Q:Option Value→Shared→Prop}(D:Ap5 z TI TO i1 i2)(ne:e≠z∧e≠TI∧e≠TO∧e≠i1∧e≠i2)(he:IsEnum s.heap e z i old)(hf:f0 = .none ∨ ∃ n:Nat,f0=rawInt n)
  (hz:fP s.heap z TI TO f0 fb) (hTI:IsPair s.heap TI (.ref i1) (.ref i2)) (hTO:IsPair s.heap TO a b) (h1:df s.heap i1 x t k) (h2:df s.heap i2 y u k) (hx:x.cps[k]? = some c) (hy:y.cps[k]? = some d)
  (hQ:∀ h' tk t1 t2 t3 f0' fb',(f0'=Value.none ∨ ∃ n:Nat,f0'=rawInt n)→fP h' z TI TO f0' fb'→IsPair h' TI (.ref i1) (.ref i2)→(∃ a b,IsPair h' TO a b)→df h' i1 x t (k+1)→df h' i2 y u (k+1) →
   IsPair h' s.heap.objs.size (.str ⟨#[c]⟩ t1) (.str ⟨#[d]⟩ t2)→IsPair h' (s.heap.objs.size+1) (.int i t3) (.ref s.heap.objs.size)→IsEnumOut h' e z ((i:Int)+1) (.ref s.heap.objs.size) (s.heap.objs.size+1) →
   (∀ g o,g≠e→g≠z→g≠TO→g≠i1→g≠i2→s.heap.get? g=some o→h'.get? g=some o)→Q (some (.ref (s.heap.objs.size+1))) { s with heap:=h',toks:=tk }) :
  wpAny (model prog w) A (pyNext (.ref e)) Q E s:=by
 have hT:s.TypeIs (.ref e) "enumerate":=⟨_,he,rfl⟩
 have hel:e < s.heap.objs.size:=Ay he
 unfold pyNext
 refine fu (CB (Bk (name:=Str.ofString "__next__") hT Cz (A3 Cz hT F.entry_enumerate_next ?_ (F.args_enumerate_next_1 _))))
 show wpAny _ _ (field (.ref e) 2 >>= _) _ _ _
 refine fu (A0 he rfl (x:=.ref z) rfl ?_)
 refine fu (iu ⟨_,hz,rfl⟩ (pG D hf hz hTI hTO h1 h2 hx hy fun g1 tk t1 t2 f0' fb' hf' z1 o1 j1 j2 p1 k1 z0=>?_))
 have x1:IsEnum g1 e z i old:=k1 e _ ne.1 ne.2.2.1 ne.2.2.2.1 ne.2.2.2.2 he
 have nT:s.heap.objs.size≠e:=Bi hel
 show wpAny _ _ (field (.ref e) 3 >>= _) _ _ _
 refine fu (A0 x1 rfl (x:=rawInt i) rfl ?_)
 show wpAny _ _ (field (.ref e) 4 >>= _) _ _ _
 refine fu (A0 x1 rfl (x:=.none) rfl ?_)
 show wpAny _ _ (mkInt i >>= _) _ _ _
 refine fu (wpAny_mkInt ?_)
 show wpAny _ _ (setField (.ref e) 3 (rawInt ((i:Int)+1)) >>= _) _ _ _
 refine fu (AB x1 (by simp) fun g2 x2 e2=>?_)
 have x2:IsEnum g2 e z ((i:Int)+1) old:=x2
 show wpAny _ _ (setField (.ref e) 4 .none >>= _) _ _ _
 refine fu (AB x2 (by simp) fun g3 x3 e3=>?_)
 have x3:IsEnum g3 e z ((i:Int)+1) old:=x3
 have sz3:g3.objs.size=s.heap.objs.size+1:=by
  rw [e3.1,e2.1]
  exact z0
 refine fu (Cr ?_)
 have x4:IsEnum (g3.push { cls:=.type "tuple",data:=.seq #[.int i tk,.ref s.heap.objs.size] }) e z ((i:Int)+1) old:=Ab _ x3
 have T4:IsPair (g3.push { cls:=.type "tuple",data:=.seq #[.int i tk,.ref s.heap.objs.size] }) g3.objs.size (.int i tk) (.ref s.heap.objs.size):=Ak _ rfl
 show wpAny _ _ (Builtin.SmallTypes.ownedTupleIsFree (.ref e) >>= _) _ _ _
 rw [sz3] at T4 ⊢
 have nT2:s.heap.objs.size+1≠e:=Bi (Bg hel)
 have kp4:∀ g o,g≠e→g1.get? g=some o→(g3.push { cls:=.type "tuple",data:=.seq #[.int i tk,.ref s.heap.objs.size] }).get? g=some o:=fun g o n q=>Ab _ (e3.extBut _ _ n (e2.extBut _ _ n q))
 generalize g3.push { cls:=.type "tuple",data:=.seq #[.int i tk,.ref s.heap.objs.size] }=g4 at x4 T4 kp4 ⊢
 refine fu ?_
 unfold Builtin.SmallTypes.ownedTupleIsFree
 refine fu (A0 x4 rfl (x:=.none) rfl (Ae ?_))
 simp only [BX]
 refine fu (Bm (fu (A0 x4 rfl (x:=old) rfl (fu (AB x4 (by simp) fun g5 x5 e5=>?_)))))
 have x5:IsEnum g5 e z ((i:Int)+1) (.ref s.heap.objs.size):=x5
 refine fu ?_
 unfold Builtin.SmallTypes.ownedTupleHandOut
 refine fu (AB x5 (by simp) fun g6 x6 e6=>?_)
 have x6:IsEnumOut g6 e z ((i:Int)+1) (.ref s.heap.objs.size) (s.heap.objs.size+1):=x6
 refine AB x6 (by simp) fun g7 x7 e7=>?_
 have x7:IsEnumOut g7 e z ((i:Int)+1) (.ref s.heap.objs.size) (s.heap.objs.size+1):=x7
 have up:∀ g o,g≠e→g4.get? g=some o→g7.get? g=some o:=fun g o n q=>e7.extBut _ _ n (e6.extBut _ _ n (e5.extBut _ _ n q))
 have al:∀ g o,g≠e→g1.get? g=some o→g7.get? g=some o:=fun g o n q=>up g o n (kp4 g o n q)
 obtain ⟨oa,ob,o1⟩:=o1
 refine fu (Cm (Ae ⟨_,rfl,Ae (hQ g7 (tk+1) t1 t2 tk f0' fb' hf' (al _ _ ne.1.symm z1) (al _ _ ne.2.1.symm (k1 _ _ D.TIz D.TITO D.TIi1 D.TIi2 hTI)) ⟨oa,ob,al _ _ ne.2.2.1.symm o1⟩ ?_ ?_ (al _ _ nT p1) (up _ _ nT2 T4) x7 fun g o n1 n2 n3 n4 n5 q=>al g o n1 (k1 g o n2 n3 n4 n5 q))⟩))
 ·obtain ⟨o,ho,r⟩:=j1
  exact ⟨o,al _ _ ne.2.2.2.1.symm ho,r⟩
 ·obtain ⟨o,ho,r⟩:=j2
  exact ⟨o,al _ _ ne.2.2.2.2.symm ho,r⟩
theorem pH {e:Addr}{i:Int}{old f0:Value}{fb:Bool}{Q:Option Value→Shared→Prop}(hh:A.handled=none)(D:Ap5 z TI TO i1 i2)(he:IsEnum s.heap e z i old)(hf:f0 = .none ∨ ∃ n:Nat,f0=rawInt n)
  (hz:fP s.heap z TI TO f0 fb) (hTI:IsPair s.heap TI (.ref i1) (.ref i2)) (hTO:IsPair s.heap TO a b) (h1:df s.heap i1 x t k) (h2:df s.heap i2 y u k) (hend:x.cps[k]? = none ∨ y.cps[k]? = none)
  (hQ:∀ h' tk,(∀ c o,c≠z→c≠TO→c≠i1→c≠i2→s.heap.get? c=some o→h'.get? c=some o)→Q none { s with heap:=h',toks:=tk }):wpAny (model prog w) A (pyNext (.ref e)) Q E s:=by
 have hT:s.TypeIs (.ref e) "enumerate":=⟨_,he,rfl⟩
 unfold pyNext
 refine fu (CB (Bk (name:=Str.ofString "__next__") hT Cz (A3 Cz hT F.entry_enumerate_next ?_ (F.args_enumerate_next_1 _))))
 show wpAny _ _ (field (.ref e) 2 >>= _) _ _ _
 refine fu (A0 he rfl (x:=.ref z) rfl ?_)
 refine fu (iu ⟨_,hz,rfl⟩ (rK (by simpa using hh) D hf hz hTI hTO h1 h2 hend fun g tk ev kk hs=>?_))
 obtain ⟨o,ho,hc⟩:=hs
 refine fu (C7 (T:="StopIteration") (b:=true) ⟨o,ho,hc⟩ D5 ?_)
 exact Ae (hQ _ _ kk)
set_option maxHeartbeats 1000000 in
theorem pI (z TI TO:Addr) :
  Meets (Builtin.«enumerate.__new__» ⟨[.type "enumerate",.ref z],[]⟩) (fun _ R s=>IsZip s.heap z TI TO .none ∧
   R (.ok (.ret (.ref s.heap.objs.size))) { s with heap:=s.heap.push { cls:=.type "enumerate",data:=.fields #[.none,.bool false,.ref z,rawInt 0,.none,.none] } }) :=
 .of_wp fun prog w A R s h=>by
  obtain ⟨hp,gg,dd,tk,os⟩:=s;obtain ⟨ht,h⟩:=h
  have hsub:=sub_enumerate
  wp_walk using Cj ht
  refine wpAny_stack_any fun stk=>Ae ?_
  split
  ·rename_i cc _ _ _ _ _
   cases (cc == Value.type "enumerate")
   ·(wp_walk using Cj ht,CM ht);exact ⟨_,rfl,h⟩
   ·(wp_walk using Cj ht,CM ht);exact ⟨_,rfl,h⟩
  ·(wp_walk using Cj ht,CM ht);exact ⟨_,rfl,h⟩
theorem rL {Q:Value→Shared→Prop}(hz:IsZip s.heap z TI TO .none)
  (h:∀ h',IsEnum h' s.heap.objs.size z 0 .none→(∀ b o,s.heap.get? b=some o→h'.get? b=some o)→Q (.ref s.heap.objs.size) { s with heap:=h' }) :
  wpAny (model prog w) A (call (.type "enumerate") [.ref z]) Q E s:=by
 refine callType_new F.called_enumerate (by decide) (F.typeCall_enumerate_1 _) (F.newCall_enumerate_1 _) (fun ob=>F.args_object_init_2 ob _) F.entry_enumerate_new (pI z TI TO) ⟨hz,?_⟩
 show _∧_
 have he:=Ak s.heap (o:={ cls:=.type "enumerate",data:=.fields #[.none,.bool false,.ref z,rawInt 0,.none,.none] }) rfl
 exact ⟨⟨_,he,rfl⟩,h _ he fun b o q=>Ab _ q⟩
end
end PySem
namespace L2
open PySem PySem.Spec PyProof.Rows
def vt (x y:Str):It:=⟨fun i _=>i < min x.cps.size y.cps.size,
 fun i H v H'=>∃ (T U:Addr) (c d:Nat),H T=none∧H U=none∧U≠T∧v = .ref T∧x.cps[i]? = some c∧y.cps[i]? = some d∧H'=upd (upd H U (.tup [.str ⟨#[c]⟩,.str ⟨#[d]⟩])) T (.tup [.int i,.ref U]),
 fun i _=>i=min x.cps.size y.cps.size⟩
theorem Inv.stepT2 {X:Cx}{pins:List (Addr × Obj)}{σ:St}{H:Hp}{s:Shared}{h':Heap}{t':Nat}{ch:List Addr}{T U:Addr}{xs ys:List V}{its jts:List Value}(I:Inv X pins σ H s)(hf:∀ b∈ch,k_ X pins H b)
  (k:∀ b o,b∉ch→s.heap.get? b=some o→h'.get? b=some o) (hT:s.heap.objs.size≤T) (hU:s.heap.objs.size≤U) (hUT:U≠T) (hz:xs.length≤sizeLine) (hy:ys.length≤sizeLine) (rv:bu xs its) (rw_:bu ys jts) (ht:IsTup h' T its.toArray) (hu:IsTup h' U jts.toArray) (hnd:NoD h' T) (hne:NoD h' U)
  (there:∀ b∈ch,∃ o,s.heap.get? b=some o):Inv X pins σ (upd (upd H U (.tup ys)) T (.tup xs)) { s with heap:=h',toks:=t' }:=by
 have hn:H T=none:=I.hok.fresh hT
 have hm:H U=none:=I.hok.fresh hU
 have ne:∀ {b o},s.heap.get? b=some o→b≠T:=fun e=>AK (BU (Ay e) hT)
 have ne2:∀ {b o},s.heap.get? b=some o→b≠U:=fun e=>AK (BU (Ay e) hU)
 have nch:∀ {b u},H b=some u→b∉ch:=fun e z=>by rw [(hf _ z).1] at e;cases e
 have up:∀ {b u},H b=some u→upd (upd H U (.tup ys)) T (.tup xs) b=some u:=fun e=>by rw [aD (au e hn),aD (au e hm)];exact e
 refine I.step (g':=s.gens) (d':=s.drawn) (ch:=ch) (fun b hb=>?_) (fun b o _ _ hc e _=>k b o hc e) (fun b o _ _ hc e _=>⟨o.slots,k b o hc e⟩) (fun b o _ e n=>by rw [aD (ne e),aD (ne2 e)];exact n) (fun b o hc e=>⟨o,k b o hc e⟩)
  (fun b zs e=>up e) (fun b o u e=>up e) (fun b ps e=>⟨#[],by rw [up e];simp⟩) (fun m hm=>?_) (fun b u e=>?_) I.bare
 ·obtain ⟨_,f1,_,f3,f4,f5⟩:=hf b hb
  exact ⟨f3,f1,f4,f5⟩
 ·obtain ⟨o,es,ep,ho,r⟩:=hm
  exact ⟨o,es,ep,k _ o (fun z=>(hf _ z).2.1 rfl) ho,r⟩
 ·by_cases hb:b=T
  ·subst hb
   rw [ah] at e
   cases e
   exact ⟨hz,its,rv,ht,hnd⟩
  ·rw [aD hb] at e
   by_cases hb2:b=U
   ·subst hb2
    rw [ah] at e
    cases e
    exact ⟨hy,jts,rw_,hu,hne⟩
   ·rw [aD hb2] at e
    refine (I.hok b u e).stay (fun c v hc q=>k c v ?_ q) (fun c q=>up q) fun c zs q=>up q
    rcases hc with z | z
    ·rw [z];exact nch e
    ·exact nch z
theorem rM {P:Program}{w:World}{K:PySem.W.Frag}{elts:List Expr}{k:Nat}{pos:Pos}{e z TI TO i1 i2:Addr}(x y:Str)(t u:Tok)(D:Ap5 z TI TO i1 i2)(ne:e≠z∧e≠TI∧e≠TO∧e≠i1∧e≠i2) :
  sM P w K (.Tuple elts k pos) (vt x y) [e,z,TI,TO,i1,i2] e (fun i h=>(∃ old,IsEnum h e z (i:Int) old)∧(∃ f0 fb,(f0=Value.none ∨ ∃ n:Nat,f0=rawInt n)∧fP h z TI TO f0 fb)∧IsPair h TI (.ref i1) (.ref i2)∧(∃ a b,IsPair h TO a b)∧df h i1 x t i∧df h i2 y u i) where
 mem:=by simp
 obj:=fun i h st b hb=>by
  obtain ⟨⟨old,s0⟩,⟨f0,fb,hf,s1⟩,s2,⟨a,c,s3⟩,⟨o1,s4,_,d4⟩,⟨o2,s5,_,d5⟩⟩:=st
  simp only [Aw,AE,BI] at hb
  rcases hb with rfl | rfl | rfl | rfl | rfl | rfl
  ·exact ⟨_,s0,fun v q=>by cases q⟩
  ·exact ⟨_,s1,fun v q=>by cases q⟩
  ·exact ⟨_,s2,fun v q=>by cases q⟩
  ·exact ⟨_,s3,fun v q=>by cases q⟩
  ·exact ⟨_,s4,fun v q=>by rw [d4] at q;cases q⟩
  ·exact ⟨_,s5,fun v q=>by rw [d5] at q;cases q⟩
 keep:=fun i h h' st kk=>by
  obtain ⟨⟨old,s0⟩,⟨f0,fb,hf,s1⟩,s2,⟨a,c,s3⟩,⟨o1,s4,r4⟩,⟨o2,s5,r5⟩⟩:=st
  exact ⟨⟨old,kk e (by simp) _ s0⟩,⟨f0,fb,hf,kk z (by simp) _ s1⟩,kk TI (by simp) _ s2,⟨a,c,kk TO (by simp) _ s3⟩,⟨o1,kk i1 (by simp) _ s4,r4⟩,⟨o2,kk i2 (by simp) _ s5,r5⟩⟩
 item:=by
  intro X hP hw hK hc i pins s σ H E I hf st hg
  subst hP hw hK
  have hg:i < min x.cps.size y.cps.size:=hg
  obtain ⟨⟨old,s0⟩,⟨f0,fb,hf0,s1⟩,s2,⟨a,c,s3⟩,s4,s5⟩:=st
  have hx:x.cps[i]? = some (x.cps[i]'(by omega)):=B9 (by omega)
  have hy:y.cps[i]? = some (y.cps[i]'(by omega)):=B9 (by omega)
  generalize x.cps[i]'(by omega)=c1 at hx
  generalize y.cps[i]'(by omega)=c2 at hy
  refine mX D ne s0 hf0 s1 s2 s3 s4 s5 hx hy fun h' tk t1 t2 t3 f0' fb' hf' b1 b2 b3 b4 b5 b6 b7 b8 b9=>⟨_,rfl,?_⟩
  refine wpAny_letOwnedTupleGo_enum b8 fun h2 c1' e2=>?_
  have there:∀ b∈[e,z,TI,TO,i1,i2],∃ o,s.heap.get? b=some o:=fun b hb=>by
   obtain ⟨o1,q4,_⟩:=s4
   obtain ⟨o2,q5,_⟩:=s5
   simp only [Aw,AE,BI] at hb
   rcases hb with rfl | rfl | rfl | rfl | rfl | rfl
   ·exact ⟨_,s0⟩
   ·exact ⟨_,s1⟩
   ·exact ⟨_,s2⟩
   ·exact ⟨_,s3⟩
   ·exact ⟨_,q4⟩
   ·exact ⟨_,q5⟩
  have kk:∀ b o,b∉[e,z,TI,TO,i1,i2]→s.heap.get? b=some o→h2.get? b=some o:=fun b o hb q=>by
   simp only [Aw,AE,BI,not_or] at hb
   exact e2.extBut _ _ hb.1 (b9 b o hb.1 hb.2.1 hb.2.2.2.1 hb.2.2.2.2.1 hb.2.2.2.2.2 q)
  have hel:=Ay s0
  have n1:s.heap.objs.size≠e:=Bi hel
  have n2:s.heap.objs.size+1≠e:=Bi (Bg hel)
  have I2:Inv X pins σ (upd (upd H s.heap.objs.size (.tup [.str ⟨#[c1]⟩,.str ⟨#[c2]⟩])) (s.heap.objs.size+1) (.tup [.int i,.ref s.heap.objs.size])) { s with heap:=h2,toks:=tk } :=
   I.stepT2 (ch:=[e,z,TI,TO,i1,i2]) (its:=[.int i t3,.ref s.heap.objs.size]) (jts:=[.str ⟨#[c1]⟩ t1,.str ⟨#[c2]⟩ t2]) hf kk (BV _) (Al _) (AK (Ba _)) (by show 2≤sizeLine;decide) (by show 2≤sizeLine;decide) (.cons ⟨_,rfl⟩ (.cons rfl .nil)) (.cons ⟨_,rfl⟩ (.cons ⟨_,rfl⟩ .nil))
    ⟨_,e2.extBut _ _ n2 b7,rfl,_,rfl⟩ ⟨_,e2.extBut _ _ n1 b6,rfl,_,rfl⟩ ⟨_,e2.extBut _ _ n2 b7,rfl⟩ ⟨_,e2.extBut _ _ n1 b6,rfl⟩ there
  have hU:H s.heap.objs.size=none:=I.hok.fresh (Al _)
  have hT:H (s.heap.objs.size+1)=none:=I.hok.fresh (BV _)
  obtain ⟨oa,ob,b3⟩:=b3
  refine ⟨.ref (s.heap.objs.size+1),_,I2,rfl,⟨s.heap.objs.size+1,s.heap.objs.size,c1,c2,hT,hU,AK (Ba _),rfl,hx,hy,rfl⟩,⟨⟨_,by simpa using c1'⟩,⟨f0',fb',hf',e2.extBut _ _ ne.1.symm b1⟩,e2.extBut _ _ ne.2.1.symm b2,⟨oa,ob,e2.extBut _ _ ne.2.2.1.symm b3⟩,b4.extBut e2.extBut ne.2.2.2.1.symm,b5.extBut e2.extBut ne.2.2.2.2.symm⟩,fun b hb=>?_⟩
  obtain ⟨o,q⟩:=there b hb
  rw [aD (AK (Bg (Ay q))),aD (AK (Ay q))]
  exact (hf b hb).1
 done:=by
  intro X hP hw hK hc i pins s σ H E I hf st hg
  subst hP hw hK
  have hg:i=min x.cps.size y.cps.size:=hg
  obtain ⟨⟨old,s0⟩,⟨f0,fb,hf0,s1⟩,s2,⟨a,c,s3⟩,s4,s5⟩:=st
  refine pH (I.ok.hd hc) D s0 hf0 s1 s2 s3 s4 s5 ?_ fun h' tk kk=>⟨rfl,?_⟩
  ·by_cases hle:x.cps.size≤y.cps.size
   ·exact .inl (Ct (by omega))
   ·exact .inr (Ct (by omega))
  ·have nch:∀ {b u},H b=some u→b∉[e,z,TI,TO,i1,i2]:=fun e q=>by rw [(hf _ q).1] at e;cases e
   have k2:∀ b o,b∉[e,z,TI,TO,i1,i2]→s.heap.get? b=some o→h'.get? b=some o:=fun b o hb e=>by
    simp only [Aw,AE,BI,not_or] at hb
    exact kk b o hb.2.1 hb.2.2.2.1 hb.2.2.2.2.1 hb.2.2.2.2.2 e
   refine I.step (g':=s.gens) (d':=s.drawn) (ch:=[e,z,TI,TO,i1,i2]) (fun b hb=>?_) (fun b o _ _ hc e _=>k2 b o hc e) (fun b o _ _ hc e _=>⟨o.slots,k2 b o hc e⟩) (fun _ _ _ _ n=>n) (fun b o hc e=>⟨o,k2 b o hc e⟩)
    (fun _ _ e=>e) (fun _ _ _ e=>e) (fun b ps e=>⟨#[],by rw [e];simp⟩) (fun m hm=>?_) (fun b u e=>?_) I.bare
   ·obtain ⟨_,f1,_,f3,f4,f5⟩:=hf b hb
    exact ⟨f3,f1,f4,f5⟩
   ·obtain ⟨o,es,ep,ho,r⟩:=hm
    exact ⟨o,es,ep,k2 _ o (fun q=>(hf _ q).2.1 rfl) ho,r⟩
   ·refine (I.hok b u e).stay (fun c v hc q=>k2 c v ?_ q) (fun _ q=>q) fun _ _ q=>q
    rcases hc with q | q
    ·rw [q];exact nch e
    ·exact nch q
 self:=fun _ _ _ _ _ st h=>let ⟨⟨_,s1⟩,_⟩:=st;wpAny_pyIter_enum s1 h
section
variable {X:Cx}
def zM (ta:TA):TI:=fun σ H R=>ta σ H fun vs H1=>∃ x y,vs=[.str x,.str y]∧x.cps.all (· < 128)=true∧y.cps.all (· < 128)=true∧R (vt x y) H1
theorem wC {a b:Expr}{ta:TA}{p p2 pos pos2 tp:Pos}{elts:List Expr}{k:Nat}(hg:Gl X "enumerate")(hm:X.mg "enumerate" = none)(hb:bootBuiltins "enumerate" = some (.type "enumerate"))(hg2:Gl X "zip")(hm2:X.mg "zip" = none)(hb2:bootBuiltins "zip" = some (.type "zip"))(ha:PA X [a,b] ta)
  (hs:starEach [a,b] X.env=(false,eval a X.env)::starEach [b] X.env:=by rfl) (hs2:(backTo pos2 (starEach [b] X.env)).any (·.1)=false:=by rfl)
  (hs3:starEach [.Call (.Name "zip" p2) [a,b] [] pos2] X.env=[(false,eval (.Call (.Name "zip" p2) [a,b] [] pos2) X.env)]:=by rfl) :
  PI X (.Tuple elts k tp) (.Call (.Name "enumerate" p) [.Call (.Name "zip" p2) [a,b] [] pos2] [] pos) (zM ta):=by
 intro pins s σ H R I h
 refine Call_ (ff I hg hm hb (Cy ?_ hs3 rfl))
 rw [hs3]
 show wpAny _ _ (spliced ((false,eval (.Call (.Name "zip" p2) [a,b] [] pos2) X.env)::[])) _ _ s
 refine Calls.spliced_cons ?_
 refine Call_ (ff I hg2 hm2 hb2 (Cy (thn (ha pos2 pins s σ H _ I h) fun us s1 zq1=>?_) hs hs2))
 obtain ⟨vs,H1,I1,r1,q1⟩:=zq1
 obtain ⟨x,y,rfl,hx,hy,q⟩:=q1
 obtain ⟨u1,u2,rfl,⟨t,rfl⟩,⟨u,rfl⟩⟩:=nE r1
 refine jL hx hy fun h' b1 b2 b3 b4 b5 b6=>?_
 have I2:Inv X pins σ H1 { s1 with heap:=h',toks:=s1.toks }:=I1.kept b6
 refine Ae ?_
 refine rL (s:={ s1 with heap:=h',toks:=s1.toks }) b1 fun h2 c1 k2=>?_
 have I3:Inv X pins σ H1 { s1 with heap:=h2,toks:=s1.toks }:=I2.kept k2
 have zlt:s1.heap.objs.size+4 < h'.objs.size:=Ay b1
 refine wpAny_pyIter_enum (s:={ s1 with heap:=h2,toks:=s1.toks }) c1 ?_
 have a5:=tj s1.heap.objs.size
 refine ⟨h'.objs.size,[h'.objs.size,s1.heap.objs.size+4,s1.heap.objs.size+2,s1.heap.objs.size+3,s1.heap.objs.size,s1.heap.objs.size+1],_,vt x y,H1,rfl,I3,
  rM x y t u a5 ⟨?_,?_,?_,?_,?_⟩,⟨⟨_,c1⟩,⟨.none,false,.inl rfl,k2 _ _ b1⟩,k2 _ _ b2,⟨_,_,k2 _ _ b3⟩,?_,?_⟩,fun b hb=>?_,q⟩
 ·exact Bi zlt
 ·exact Bi (C5 (by omega) zlt)
 ·exact Bi (C5 (by omega) zlt)
 ·exact Bi (C5 (by omega) zlt)
 ·exact Bi (C5 (by omega) zlt)
 ·obtain ⟨o,ho,r⟩:=b4
  exact ⟨o,k2 _ _ ho,r⟩
 ·obtain ⟨o,ho,r⟩:=b5
  exact ⟨o,k2 _ _ ho,r⟩
 ·have hge:s1.heap.objs.size≤b:=by
   simp only [Aw,AE,BI] at hb
   rcases hb with rfl | rfl | rfl | rfl | rfl | rfl <;> omega
  exact I1.fpOk hge (I1.hok.fresh hge)
end
theorem uH {x y:Str}{g:TG}{tb:TS}{D:gZ}{σ:St}{H:Hp}(Pv:Nat→St→Hp→Prop)(h0:Pv 0 σ H)
  (hs:∀ i c d σ H T U,x.cps[i]? = some c→y.cps[i]? = some d→Pv i σ H→H T=none→H U=none→U≠T→g (.ref T) σ (upd (upd H U (.tup [.str ⟨#[c]⟩,.str ⟨#[d]⟩])) T (.tup [.int i,.ref U])) fun σ2 H2=>tb { D with nx:=Pv (i+1),ct:=Pv (i+1),bk:=D.nx } σ2 H2) (hd:∀ σ H,Pv (min x.cps.size y.cps.size) σ H→D.nx σ H) :
  ∃ W:Nat→Nat→St→Hp→Prop,(∃ m,W 0 m σ H)∧∀ i m σ H,W i m σ H →
   ((vt x y).stop i H∧D.nx σ H) ∨ ((vt x y).go i H∧∃ N:St→Hp→Prop,(∀ σ' H',N σ' H'→∃ m',m' < m∧W (i+1) m' σ' H')∧∀ v H',(vt x y).yld i H v H'→g v σ H' fun σ2 H2=>tb { D with nx:=N,ct:=N,bk:=D.nx } σ2 H2):=by
 refine ⟨fun i m σ H=>m=min x.cps.size y.cps.size - i∧i≤min x.cps.size y.cps.size∧Pv i σ H,⟨min x.cps.size y.cps.size,by simp,BF _,h0⟩,?_⟩
 rintro i m σ H ⟨rfl,hi,p⟩
 by_cases hlt:i < min x.cps.size y.cps.size
 ·refine .inr ⟨hlt,Pv (i+1),fun σ' H' p'=>⟨min x.cps.size y.cps.size - (i+1),by omega,rfl,hlt,p'⟩,?_⟩
  rintro v H' ⟨T,U,c,d,hT,hU,ne,rfl,hx,hy,rfl⟩
  exact hs i c d σ H T U hx hy p hT hU ne
 ·obtain rfl:i=min x.cps.size y.cps.size:=by omega
  exact .inl ⟨rfl,hd σ H p⟩
end L2
namespace PySem
end PySem
namespace L2
open PySem PySem.Spec PyProof.Rows Wd
section
variable {X:Cx}
end
end L2
namespace HT
open PySem PySem.Spec PyProof.Rows
section
variable {prog:Program} {w:World} {A:Around} {E:Value→Shared→Prop} {s:Shared}
end
end HT
namespace L2
open PySem PySem.Spec PyProof.Rows Wd
section
variable {X:Cx}
end
end L2
namespace HT
open PySem PySem.Spec PyProof.Rows PySem.SeqAt
end HT
namespace L2
open PySem PySem.Spec PyProof.Rows Wd
section
variable {X:Cx}
end
theorem wF:bootBuiltins "enumerate" = some (.type "enumerate"):=by kernel_rfl
end L2
namespace Wd
end Wd
namespace Kx
open PySem PySem.Spec PyProof.Rows L2 Wd
def fst (c:Option (Int × Int)):Int:=match c with | some (i,_)=>i | none=>0
def iv (r:List Nat):List V:=r.map fun i:Nat=>V.int (i:Int)
theorem uI:bootBuiltins "set" = some (.type "set"):=by kernel_rfl
structure Rgs (R:List (List L)):Prop where
 many:R.length≤7
 word:∀ r∈R,r≠[]∧r.length≤90
theorem bB (w:List L):(de w).length=max 1 w.length:=by unfold de; rw [Ag,BO]
theorem bO (w:List L):(bk w).length=w.length:=by unfold bk; rw [List.length_reverse,Ag]
theorem gG {R:List (List L)}(h:∀ r∈R,r≠[]∧r.length≤90):(trn R).length≤180*R.length:=by
 induction R with
 | nil=>exact Al _
 | cons r R ih =>
  have:=ih fun q hq=>h q (AC _ hq)
  have hr:=(h r Av).2
  unfold trn at this ⊢
  rw [List.flatMap_cons,Ad,Ad,bB,bB,bO,A2]
  omega
theorem i3 (R:List (List L))(r:List L):trn (R++[r])=trn R++(de r++de (bk r)):=by
 unfold trn
 rw [Dk,List.flatMap_singleton]
theorem tq {W:List (List L)}:∀ (zs:List Str),(∀ z∈zs,z∈W.map toS)→∃ V:List (List L),zs=V.map toS
 | [],_=>⟨[],rfl⟩
 | z::zs,h=>by
  obtain ⟨v,_,rfl⟩:=AU.mp (h z Av)
  obtain ⟨V,rfl⟩:=tq zs fun q hq=>h q (AC _ hq)
  exact ⟨v::V,rfl⟩
theorem jW {zs:List Str}{W:List (List L)}(nd:zs.Nodup)(so:sortedS zs=true)(m:∀ z,z∈zs ↔ z∈W.map toS):∃ V,zs=V.map toS∧Ord V∧∀ x,x∈V ↔ x∈W:=by
 obtain ⟨V,rfl⟩:=tq zs fun z hz=>(m z).mp hz
 refine ⟨V,rfl,⟨?_,?_⟩,fun x=>?_⟩
 ·exact (List.Pairwise.of_map toS (fun a b h e=>h (C3 toS e)) nd)
 ·have:=oR so
  exact List.Pairwise.of_map toS (fun a b h=>h) this
 ·have:=m (toS x)
  constructor
  ·intro hx
   obtain ⟨v,hv,e⟩:=AU.mp (this.mp (AU.mpr ⟨x,hx,rfl⟩))
   rw [← cm e]
   exact hv
  ·intro hx
   obtain ⟨v,hv,e⟩:=AU.mp (this.mpr (AU.mpr ⟨x,hx,rfl⟩))
   rw [← cm e]
   exact hv
inductive eK (vs:List V)(H:Hp)(Q:VK)(u3_:XK):Prop
 | mk:∀ (a:Addr) (R:List (List L)),(vs=[.ref a])→(H a=some (.tup (R.map tx)))→(Rgs R)→(∀ (l:Addr) (V:List (List L)) (H':Hp),H l=none→Ord V→(∀ x,x∈V ↔ x∈trn R)→H' l=some (.lst (V.map tx))→aH H H'→Q (.ref l) H')→eK vs H Q u3_
inductive dJ (vs:List V)(H:Hp)(Q:VK)(u3_:XK):Prop
 | mk:∀ (a:Addr) (R:List (List L)),(vs=[.ref a])→((H a=some (.tup (R.map tx)) ∨ H a=some (.lst (R.map tx))))→(Rgs R)→(∀ (l:Addr) (V:List (List L)) (H':Hp),H l=none→Ord V→(∀ x,x∈V ↔ x∈trn R)→H' l=some (.lst (V.map tx))→aH H H'→Q (.ref l) H')→dJ vs H Q u3_
inductive fc (vs:List V)(H:Hp)(Q:VK)(u3_:XK):Prop
 | mk:∀ (u v:List L),(vs=[tx u,tx v])→(u.length≤2000)→(v.length≤2000)→(∀ H',aH H H'→Q (tx (lcp u v)) H')→fc vs H Q u3_
theorem jX {w x:List L}(h:x∈de w):x.length=w.length:=by
 unfold de at h
 obtain ⟨i,hi,rfl⟩:=AU.mp h
 rw [Ad,AA,Aj]
 have:=Dw.mp hi
 omega
theorem rN {R:List (List L)}(h:∀ r∈R,r≠[]∧r.length≤90){x:List L}(hx:x∈trn R):x≠[]∧x.length≤90:=by
 unfold trn at hx
 obtain ⟨r,hr,hx⟩:=List.mem_flatMap.mp hx
 obtain ⟨h1,h2⟩:=h r hr
 have hl:x.length=r.length:=by
  rcases Ax.mp hx with q | q
  ·exact jX q
  ·rw [jX q,bO]
 have:=A6.mpr h1
 exact ⟨A6.mp (by omega),by omega⟩
theorem iw:∀ {V W:List (List L)},V.Nodup→(∀ x∈V,x∈W)→V.length≤W.length
 | [],_,_,_=>BF _
 | v::V,W,nd,h=>by
  obtain ⟨n1,n2⟩:=Cg.mp nd
  have hv:=h v Av
  have:=iw (V:=V) (W:=W.erase v) n2 fun x hx=>(CG (fun e=>n1 (by rw [← e];exact hx))).mpr (h x (AC _ hx))
  rw [Ci hv] at this
  have:=DS hv
  rw [A2]
  omega
structure Tn (R V:List (List L)):Prop where
 ord:Ord V
 mem:∀ x,x∈V ↔ x∈trn R
theorem Tn.word {R V:List (List L)}(h:Tn R V)(hR:Rgs R){x:List L}(hx:x∈V):x≠[]∧x.length≤90:=rN hR.word ((h.mem x).mp hx)
theorem Tn.len {R V:List (List L)}(h:Tn R V)(hR:Rgs R):V.length≤1260:=by
 have h1:=iw h.ord.nd fun x hx=>(h.mem x).mp hx
 have h2:=gG hR.word
 have h3:=hR.many
 omega
theorem Tn.one {R V W:List (List L)}(h:Tn R V)(g:Tn R W):V=W:=kA h.ord g.ord fun x=>(h.mem x).trans (g.mem x).symm
inductive i4 (vs:List V)(H:Hp)(Q:VK)(u3_:XK):Prop
 | mk:∀ (l:Addr) (V:List (List L)),(vs=[.ref l])→(H l=some (.lst (V.map tx)))→(V.length≤4000)→((∀ v∈V,v.length≤2000))→((∀ H':Hp,aH H H'→ik V=none→Q .non H'))→(∀ (H':Hp) (p:Addr) (t o c:List L),aH H H'→ik V=some (t,o,c)→H' p=some (.tup [tx t,tx o,tx c])→Q (.ref p) H')→i4 vs H Q u3_
theorem mY {V:List (List L)}(h:∀ t∈V,fnd V t=none):ik V=none:=by
 unfold ik
 rw [List.findSome?_eq_none_iff]
 intro t ht
 rw [h t ht]
 rfl
theorem mZ {V:List (List L)}{i:Nat}{t o:List L}(h:∀ x∈V.take i,fnd V x=none)(ht:V[i]? = some t)(ho:fnd V t=some o):ik V=some (t,o,lcp t o):=by
 unfold ik
 rw [List.findSome?_eq_some_iff]
 obtain ⟨l1,e1⟩:=Ah.mp ht
 refine ⟨V.take i,t,V.drop (i+1),?_,by rw [ho];rfl,fun x hx=>by rw [h x hx];rfl⟩
 conv=>lhs;rw [← AD i V]
 rw [BQ l1,e1]
theorem gH (F:List (List L)):(F.map tx).all iG=true:=by
 rw [C6]
 intro x hx
 obtain ⟨v,_,rfl⟩:=AU.mp hx
 rfl
theorem pJ (v:List L)(F:List (List L)):inV (tx v) (F.map tx)=decide (v∈F):=by
 unfold inV
 by_cases h:v∈F
 ·rw [An h,C8]
  exact ⟨tx v,AU.mpr ⟨v,h,rfl⟩,by simp [tx,eqV]⟩
 ·rw [AF h,List.any_eq_false]
  intro x hx
  obtain ⟨u,hu,rfl⟩:=AU.mp hx
  have:toS u≠toS v:=fun e=>h (by rw [← cm e];exact hu)
  simp [tx,eqV,this]
structure ix (S F:List (List L)):Prop where
 nd:F.Nodup
 mem:∀ x,x∈F ↔ x∈S
theorem ix.nil:ix [] []:=⟨CK,fun x=>Iff.rfl⟩
theorem ix.to {S S' F:List (List L)}(h:ix S F)(e:∀ x,x∈S ↔ x∈S'):ix S' F:=⟨h.nd,fun x=>(h.mem x).trans (e x)⟩
theorem ix.put {S F:List (List L)}(h:ix S F)(v:List L):ix (S++[v]) (if v∈F then F else F++[v]):=by
 by_cases q:v∈F
 ·rw [if_pos q]
  refine ⟨h.nd,fun x=>?_⟩
  rw [Ax,Af,h.mem]
  exact ⟨.inl,fun z=>z.elim id fun e=>e ▸ (h.mem v).mp q⟩
 ·rw [if_neg q]
  refine ⟨DG.mpr ⟨h.nd,Cg.mpr ⟨AE,CK⟩,fun a ha b hb e=>q (by rw [Af] at hb;rw [← hb,← e];exact ha)⟩,fun x=>?_⟩
  rw [Ax,Ax,h.mem]
theorem ix.len {S F:List (List L)}(h:ix S F):F.length≤S.length:=iw h.nd fun x hx=>(h.mem x).mp hx
inductive i5 (vs:List V)(H:Hp)(Q:VK)(u3_:XK):Prop
 | mk:∀ (d:Addr) (n:Nat),(vs=[.ref d,.int (n:Int)])→(Fd H d)→(n≤10)→(∀ (a:Addr) (R:List (List L)) (H':Hp),Rgs R→(∀ r∈R,r.length≤40)→R.length≤6→H' a=some (.tup (R.map tx))→Fd H' d→bE d H H'→Q (.ref a) H')→i5 vs H Q u3_
inductive kI (vs:List V)(H:Hp)(Q:VK)(u3_:XK):Prop
 | mk:∀ (d:Addr),(vs=[.ref d])→(Fd H d)→(∀ (a:Addr) (R:List (List L)) (H':Hp),Rgs R→(∀ r∈R,r.length≤40)→R.length≤6→H' a=some (.tup (R.map tx))→Fd H' d→bE d H H'→Q (.ref a) H')→kI vs H Q u3_
def Wl (n b:Nat)(W:List (List L)):Prop:=W.length≤n∧∀ v∈W,v.length≤b
theorem Wl.snoc {n b:Nat}{W:List (List L)}{v:List L}(h:Wl n b W)(hv:v.length≤b):Wl (n+1) b (W++[v]):=⟨by rw [Ad]; have:=h.1; simp; omega,fun x hx=>by
 rcases Ax.mp hx with q | q
 ·exact h.2 x q
 ·rw [Af] at q;subst q;exact hv⟩
theorem fQ (W:List (List L))(lo hi:Option Int):∃ W':List (List L),jq (W.map tx) lo hi=W'.map tx∧W'.length≤W.length∧∀ v∈W',v∈W:=by
 unfold jq
 rw [← List.map_drop,← List.map_take]
 exact ⟨_,rfl,by rw [Aj,AA];omega,fun v hv=>Ca (BM hv)⟩
theorem Wl.cut {n b:Nat}{W:List (List L)}(h:Wl n b W){W':List (List L)}(l:W'.length≤W.length)(m:∀ v∈W',v∈W):Wl n b W':=⟨Ck l h.1,fun v hv=>h.2 v (m v hv)⟩
theorem wG:Str.ofString "a" = toS [0]:=by decide +kernel
theorem ym:Str.ofString "b" = toS [1]:=by decide +kernel
theorem yn:Str.ofString "B" = toS [7]:=by decide +kernel
theorem yo:Str.ofString "e" = toS [4]:=by decide +kernel
theorem tu:Str.ofString "ab" = toS [0,1]:=by decide +kernel
theorem rO:Str.ofString "abAB" = toS [0,1,6,7]:=by decide +kernel
theorem yp:Str.ofString "abABcdCD" = toS [0,1,6,7,2,3,8,9]:=by decide +kernel
theorem yq:Str.ofString "abcdABCD" = toS [0,1,2,3,6,7,8,9]:=by decide +kernel
theorem yr:Str.ofString "aabbccdd" = toS [0,0,1,1,2,2,3,3]:=by decide +kernel
theorem yt:Str.ofString "abcABdCD" = toS [0,1,2,6,7,3,8,9]:=by decide +kernel
theorem cW {z:Str}{w:List L}(e:z=toS w){n:Int}(h0:0≤n)(h1:n≤20)(hw:w.length≤20)(hb:n*(w.length:Int)≤40):MulOk z n∧∃ u:List L,V.str (Txt.mul z n)=tx u∧u.length≤40:=by
 subst e
 refine ⟨jD _ (by omega) (by omega) (by omega),rep n.toNat w,by rw [ku];rfl,?_⟩
 rw [eY]
 obtain ⟨k,rfl⟩:=AW h0
 rw [Az]
 exact_mod_cast hb
theorem uJ {H:Hp}{d l:Addr}{o:HO}{W:List (List L)}(F:Fd H d)(h:H l=some (.lst (W.map tx)))(n:l≠d):Fd (L2.upd H l o) d:=by
 obtain ⟨c,i,ll,t,ns,h1,h2,h3,h4⟩:=F.ex
 have hc:c≠l:=fun e=>by
  subst e
  rw [h2] at h
  have h:=HO.lst.inj (A9 h)
  cases ns with
  | nil=>exact h3 rfl
  | cons a ns =>
   cases W with
   | nil=>cases h
   | cons w W=>cases (D9 h).1
 exact ⟨c,i,ll,t,ns,by rw [aD n.symm];exact h1,by rw [aD hc];exact h2,h3,h4⟩
end Kx
namespace L2
open PySem PySem.Spec PyProof.Rows
section
variable {M:Model} {A:Around} {E:Value→Shared→Prop} {s:Shared}
end
def exo (a C:Addr)(d:Option Addr)(b:Bool):Heap→Prop:=fun h =>
 ∃ oe vs,h.get? a=some oe∧oe.cls = .ref C∧oe.dict=d∧oe.data = .fields vs∧vs.size=6∧(b=true→vs[1]? = some .none)
abbrev Exo (a C:Addr)(d:Option Addr)(b:Bool):HO:=.ext (exo a C d b)
section
variable {P:Program} {w:World} {H:Hp} {h h':Heap} {fs:List Addr} {e C:Addr} {d:Option Addr} {b:Bool} {fl:Value}
end
section
variable {P:Program} {w:World} {K:PySem.W.Frag} {mg:Str→Option Value} {base:Heap} {N:List Str} {qual:Str} {scope:Scope} {f:Addr} {cd:Value} {A:Around} {outer:List Env} {s:Shared} {H:Hp} {E:XK}
end
section
variable {prog:Program} {w:World} {A:Around} {E:Value→Shared→Prop} {h:Heap} {g:Array GenState} {d:Drawn} {t:Nat} {os:OsState} {K:PySem.W.Frag} {C fI:Addr} {bm:List Value}
end
section
variable {X:Cx} {k:Nat} {f C:Addr} {fd:FuncData} {ps:List Str} {sp:Sp} {x:Str} {p pos:Pos} {e:Expr} {es:List Expr} {t:TA} {bm:List Value}
end
end L2
namespace L2
open PySem PySem.Spec PyProof.Rows Builtin Builtin.ObjectAttr
section
variable {prog:Program} {w:World} {A:Around} {E:Value→Shared→Prop} {h:Heap} {g:Array GenState} {d:Drawn} {t:Nat} {os:OsState} {K:PySem.W.Frag} {C e:Addr} {bm:List Value} {oe:Obj} {vs:Array Value}
section
variable {name:Str} {v:Value} {mA:Str→Option Value}
end
end
end L2
namespace L2
open PySem PySem.Spec PyProof.Rows
def xdt (d:Addr)(fs:List (Str × V)):Heap→Prop:=fun h=>∃ mA,h.Ns1 d mA∧(∀ f,kX (fs.lookup f) (mA f))∧PySem.Within mA (fs.map (·.1))
abbrev Xdt (d:Addr)(fs:List (Str × V)):HO:=.ext (xdt d fs)
section
variable {X:Cx} {pins:List (Addr × Obj)} {σ:St} {H:Hp} {s:Shared} {A:Around} {E:Value→Shared→Prop} {a C:Addr} {b:Bool} {f:Str} {y:V} {u:Value} {Q:Unit→Shared→Prop}
end
section
variable {X:Cx} {o e value:Expr} {es:List Expr} {f x:Str} {p pos pos' apos:Pos} {ta tv te:TE} {t:TA} {R:Addr} {E:XK}
end
section
variable {prog:Program} {w:World} {A:Around} {E:Value→Shared→Prop} {s:Shared} {K:PySem.W.Frag} {C a:Addr} {bm:List Value} {oe:Obj} {od:Option Obj} {name:Str} {fill expr:Bool} {tk:Tok}
end
section
variable {X:Cx} {pins:List (Addr × Obj)} {σ:St} {H:Hp} {s:Shared} {A:Around} {E:Value→Shared→Prop} {a C dx:Addr} {b:Bool} {fs:List (Str × V)} {f:Str} {v:V}
end
section
variable {X:Cx} {e:Expr} {f:Str} {pos:Pos} {ta:TE}
end
section
variable {X:Cx} {pins:List (Addr × Obj)} {σ:St} {H:Hp} {s:Shared}
end
section
variable {M:Model} {A:Around} {E:Value→Shared→Prop} {s:Shared}
end
section
variable {X:Cx} {E:XK} {x:Str} {ps:List Str} {k j:Nat} {sp:Sp} {e a b:Expr} {es:List Expr} {t:TA} {te tb:TE} {tt:TT} {p pos pos':Pos}
end
section
variable {K:PySem.W.Frag} {C R N:Addr} {dd d0:Option Addr} {c0 oc:Value} {cd cdR:ClassData} {k0 k1 k2 k3 k5:Option Value} {sl sl':Array (Option Value)} {es:Array DictEntry} {n:Nat} {bm bm':List Value}
end
section
variable {X:Cx} {x:Str} {C:Addr} {names:List Str} {k j:Nat} {e:Expr} {es:List Expr} {t:TA} {p pos:Pos}
end
section
variable {K:PySem.W.Frag} {C dx a:Addr} {b:Bool} {H:Hp}
end
section
variable {X:Cx} {K:PySem.W.Frag} {e:Expr} {f:Str} {pos:Pos} {ta:TE}
end
section
variable {X:Cx} {E:XK} {e a b c:Expr} {te ta tb:TE} {tA:TT} {pos:Pos}
end
end L2
namespace Kx
open PySem PySem.Spec PyProof.Rows L2 Wd
end Kx
namespace L2
open PySem PySem.Spec PyProof.Rows Wd
section
variable {X:Cx}
end
end L2
namespace Kx
open PySem PySem.Spec PyProof.Rows L2 Wd
inductive uK (vs:List V)(H:Hp)(Q:VK)(u3_:XK):Prop
 | mk:∀ (w:List L) (n:Nat),(vs=[tx w,.int (n:Int)])→(w.length≤3000)→(∀ H',aH H H'→Q (.bl (iU w n)) H')→uK vs H Q u3_
inductive uL (vs:List V)(H:Hp)(Q:VK)(u3_:XK):Prop
 | mk:∀ (p:Addr) (w:List L) (s:Stp),(vs=[tx w,.ref p])→(w.length≤3000)→(H p=some (.tup s.vs))→(Sk s)→(∀ H',aH H H'→Q (tx (chg w s)) H')→uL vs H Q u3_
def oL (o:Option (List L)):List V:=o.toList.map tx
inductive kJ (vs:List V)(H:Hp)(Q:VK)(u3_:XK):Prop
 | mk:∀ (d l:Addr) (V:List (List L)) (w:List L),(vs=[.ref d,.ref l,tx w])→(Fd H d)→(H l=some (.lst (V.map tx)))→(V.length≤4000)→((∀ v∈V,v.length≤400))→(w.length≤2000)→(∀ (s:Stp) (p:Addr) (H':Hp),Sk s→H' p=some (.tup s.vs)→Fd H' d→bE d H H'→Q (.ref p) H')→kJ vs H Q u3_
theorem uM (w:List L)(n m:Nat):cutL w (some (n:Int)) (some ((n:Int)+(m:Int)))=(w.drop n).take m:=by
 unfold cutL
 rw [show ((n:Int)+(m:Int))=((n+m:Nat):Int) by omega,HT.cQ,HT.cQ]
 by_cases h1:n≤w.length
 ·rw [BJ h1]
  by_cases h2:n+m≤w.length
  ·rw [BJ h2];congr 1;omega
  ·rw [Cp (by omega),Aq (by rw [AA];omega),Aq (by rw [AA];omega)]
 ·rw [Cp (by omega),Cp (by omega),DT (by omega),DT (by omega)]
  simp
theorem eL (x y:List L):(!(Builtin.Str.occurrences (toS x) (toS y) 0 (toS x).length 1).isEmpty)=true ↔ ∃ i,i+y.length≤x.length∧(x.drop i).take y.length=y:=by
 rw [StrLaws.found_iff]
 have key:∀ i,i+y.length≤x.length→(Builtin.Str.subAt (toS x) (toS y) i=true ↔ (x.drop i).take y.length=y):=fun i hi=>by
  rw [StrLaws.subAt_eq,ae,bV,bV,beq_iff_eq,← List.map_drop,← List.map_take]
  exact ⟨fun h=>eZ h,fun h=>by rw [h]⟩
 rw [ae,ae]
 constructor
 ·rintro ⟨i,hi,h⟩
  exact ⟨i,hi,(key i hi).mp h⟩
 ·rintro ⟨i,hi,h⟩
  exact ⟨i,hi,(key i hi).mpr h⟩
theorem some_of {P:Program}{w:World}{K:PySem.W.Frag}{mg:Str→Option Value}{base:Heap}{ps:List Str}{k:Nat}(h:Fnc P w K mg base "_law_some" ps k dZ):Fnc P w K mg base "_law_some" ps k oI:=by
 obtain ⟨f,fd,h1,h2,h3,h4⟩:=h.ex
 refine ⟨f,fd,h1,h2,h3,h4.imp fun vs H Q E q=>?_⟩
 obtain ⟨d,m,n,e,F,a,b,c,e2,k⟩:=q
 exact ⟨d,m,n,e,F,a,b,c,e2,fun u H' hl _ F' s'=>k u H' hl F' s'⟩
theorem at1 {α:Type}(a b:α)(t:List α):atI (a::b::t) (1:Int)=some b:=bP (j:=1) rfl
theorem at2 {α:Type}(a b c:α)(t:List α):atI (a::b::c::t) (2:Int)=some c:=bP (j:=2) rfl
theorem at3 {α:Type}(a b c d:α)(t:List α):atI (a::b::c::d::t) (3:Int)=some d:=bP (j:=3) rfl
theorem zN {c:Prop}[Decidable c]{ta tb:TE}{σ:L2.St}{H:Hp}{Q:VK}(ok:V→Hp→Prop)(main:∀ x H',ok x H'→Q x H')(hA:(∀ x H',ok x H'→Q x H')→c→ta σ H Q)(hB:(∀ x H',ok x H'→Q x H')→¬ c→tb σ H Q):if c then ta σ H Q else tb σ H Q:=by
 by_cases h:c
 ·rw [if_pos h];exact hA main h
 ·rw [if_neg h];exact hB main h
theorem yu {c:Bool}{t2:TT}{ta tb:TE}{σ:L2.St}{H:Hp}{Q:VK}(ok:V→Hp→Prop)(main:∀ x H',ok x H'→Q x H')(h1:(∀ x H',ok x H'→Q x H')→c=true→t2 σ H (fun b H1=>if b=true then ta σ H1 Q else tb σ H1 Q))(h2:(∀ x H',ok x H'→Q x H')→tb σ H Q) :
  IsB (V.bl c) H fun k H0=>(if k=true then t2 σ H0 (fun b H1=>if b=true then ta σ H1 Q else tb σ H1 Q) else (if false=true then ta σ H0 Q else tb σ H0 Q)):=by
 refine ⟨c,rfl,?_⟩
 cases c with
 | true=>exact vq (h1 main rfl)
 | false=>exact mM (mM (h2 main))
end Kx
namespace L2
open PySem PySem.Spec PyProof.Rows Wd
end L2
namespace Kx
open PySem PySem.Spec PyProof.Rows L2 Wd
theorem aK {n:Nat}(h:n≤16777216):n≤sizeLine:=by rw [a_]; exact h
theorem zO {t u:TS}{D:gZ}{σ:L2.St}{H:Hp}(h:t D σ H):ki t u D σ true H:=vq h
theorem xu {t u:TS}{D:gZ}{σ:L2.St}{H:Hp}(h:u D σ H):ki t u D σ false H:=mM h
theorem xv {u:TT}{σ:L2.St}{Q:Bool→Hp→Prop}{H:Hp}(h:u σ H Q):jf u σ Q false H:=mM h
theorem nkT {Q:Bool→Hp→Prop}{H:Hp}(h:Q false H):nv Q true H:=h
def XP (C:Addr)(H:Hp)(a:Addr)(z:Str)(k:Nat):Prop:=∃ dx,H a=some (Exo a C (some dx) false)∧H dx=some (Xdt dx [("word",.str z),("at",.int (k:Nat))])
end Kx
namespace PySem
open Sem (wp)
def pK (xs:Array Nat):Prop:=∀ (i j a b:Nat),i < j→xs[i]? = some a→xs[j]? = some b→a < b
theorem i6 {xs:Array Nat}{j:Nat}(hr:pK xs):∀ (f lo hi:Nat),hi - lo≤f→lo≤hi→hi≤xs.size→(∀ i a,i < lo→xs[i]? = some a→a < j)→(∀ i a,hi≤i→xs[i]? = some a→j≤a) →
  SetTable.below.go xs j f lo hi≤xs.size∧(∀ i a,i < SetTable.below.go xs j f lo hi→xs[i]? = some a→a < j)∧∀ i a,SetTable.below.go xs j f lo hi≤i→xs[i]? = some a→j≤a
 | 0,lo,hi,h,h1,h2,l,u=>by
  have e:lo=hi:=by omega
  unfold SetTable.below.go
  exact ⟨by omega,l,by rw [e];exact u⟩
 | f+1,lo,hi,h,h1,h2,l,u=>by
  unfold SetTable.below.go
  by_cases hlt:lo < hi
  ·rw [if_pos hlt]
   have hm:(lo+hi) / 2 < xs.size:=by omega
   have em:xs[(lo+hi) / 2]? = some xs[(lo+hi) / 2]:=Bx xs _ hm
   have eg:xs.getD ((lo+hi) / 2) j=xs[(lo+hi) / 2]:=by simp [Array.getD,hm]
   dsimp only
   rw [eg]
   split
   ·rename_i hx
    refine i6 hr f _ _ (by omega) (by omega) h2 (fun i a hi' e=>?_) u
    by_cases q:i=(lo+hi) / 2
    ·subst q;rw [em] at e;cases e;exact hx
    ·exact C5 (hr i _ _ _ (by omega) e em) hx
   ·rename_i hx
    refine i6 hr f _ _ (by omega) (by omega) (by omega) l (fun i a hi' e=>?_)
    by_cases q:i=(lo+hi) / 2
    ·subst q;rw [em] at e;cases e;omega
    ·have:=hr _ i _ _ (show (lo+hi) / 2 < i by omega) em e
     omega
  ·rw [if_neg hlt]
   have e:lo=hi:=by omega
   exact ⟨by omega,l,by rw [e];exact u⟩
theorem i7 {xs:Array Nat}(hr:pK xs)(j:Nat):SetTable.below xs j≤xs.size∧(∀ i a,i < SetTable.below xs j→xs[i]? = some a→a < j)∧∀ i a,SetTable.below xs j≤i→xs[i]? = some a→j≤a :=
 i6 hr xs.size 0 xs.size (by omega) (BF _) (Al _) (fun i a h=>absurd h (Nat.not_lt_zero _)) fun i a h e=>by
  have:=(CF.mp e).1
  omega
theorem m3 {xs:Array Nat}(hr:pK xs){i a:Nat}(e:xs[i]? = some a):SetTable.below xs (a+1)=i+1:=by
 obtain ⟨h1,h2,h3⟩:=i7 hr (a+1)
 have hi:=(CF.mp e).1
 have q1:¬ SetTable.below xs (a+1)≤i:=fun q=>by
  have:=h3 i a q e
  omega
 by_cases q2:i+1 < SetTable.below xs (a+1)
 ·have hi2:i+1 < xs.size:=by omega
  have e2:xs[i+1]? = some xs[i+1]:=Bx xs _ hi2
  have:=h2 (i+1) _ q2 e2
  have:=hr i (i+1) _ _ (by omega) e e2
  omega
 ·omega
theorem m4 {xs:Array Nat}(hr:pK xs):SetTable.below xs 0=0:=by
 obtain ⟨h1,h2,h3⟩:=i7 hr 0
 by_cases q:0 < SetTable.below xs 0
 ·have e:xs[0]? = some xs[0]:=Bx xs 0 (by omega)
  have:=h2 0 _ q e
  omega
 ·omega
theorem pK.put {xs:Array Nat}(hr:pK xs){j:Nat}(hn:xs[SetTable.below xs j]? ≠ some j):pK (SetTable.insertAt xs (SetTable.below xs j) j):=by
 obtain ⟨h1,h2,h3⟩:=i7 hr j
 have hl:(SetTable.insertAt xs (SetTable.below xs j) j).toList=xs.toList.take (SetTable.below xs j)++j::xs.toList.drop (SetTable.below xs j):=by
  unfold SetTable.insertAt
  simp [Bv,Aq]
 have at_:∀ k,(SetTable.insertAt xs (SetTable.below xs j) j)[k]? = if k < SetTable.below xs j then xs[k]? else if k=SetTable.below xs j then some j else xs[k - 1]?:=fun k=>by
  rw [← AN,hl]
  have z:(xs.toList.take (SetTable.below xs j)).length=SetTable.below xs j:=by rw [Aj,Ai];omega
  by_cases q1:k < SetTable.below xs j
  ·rw [if_pos q1,Be (by omega),B8,if_pos q1,AN]
  ·rw [if_neg q1,AO (by omega),z]
   by_cases q2:k=SetTable.below xs j
   ·rw [if_pos q2,q2,CQ]
    rfl
   ·rw [if_neg q2]
    obtain ⟨m,hm⟩:∃ m,k - SetTable.below xs j=m+1:=⟨k - SetTable.below xs j - 1,by omega⟩
    rw [hm,List.getElem?_cons_succ,Bb,AN]
    congr 1
    omega
 intro i k a b hik ea eb
 rw [at_] at ea eb
 have ne:∀ m c,SetTable.below xs j≤m→xs[m]? = some c→j < c:=fun m c hm e=>by
  have l:=h3 m c hm e
  by_cases q:m=SetTable.below xs j
  ·subst q
   have:c≠j:=fun z=>hn (by rw [e,z])
   omega
  ·have hb:SetTable.below xs j < xs.size:=by have:=(CF.mp e).1;omega
   have e0:xs[SetTable.below xs j]? = some xs[SetTable.below xs j]:=Bx xs _ hb
   have:=h3 _ _ (Al _) e0
   have:=hr _ m _ _ (by omega) e0 e
   omega
 split at ea
 ·rename_i c1
  split at eb
  ·exact hr i k a b hik ea eb
  ·split at eb
   ·cases eb;exact h2 i a c1 ea
   ·have:=h2 i a c1 ea
    have:=ne (k - 1) b (by omega) eb
    omega
 ·split at ea
  ·cases ea
   rw [if_neg (by omega),if_neg (by omega)] at eb
   exact ne (k - 1) b (by omega) eb
  ·rw [if_neg (by omega),if_neg (by omega)] at eb
   exact hr (i - 1) (k - 1) a b (by omega) ea eb
theorem m5 (n:Nat):pK (Array.range n):=fun i j a b h ea eb=>by
 rw [Array.getElem?_range] at ea eb
 split at ea <;> split at eb <;> simp_all
theorem rP:pK #[]:=fun i j a b h ea=>by simp at ea
theorem iy {t:SetTable}(hd:t.dummies=#[])(g:Nat→Int)(h:Int):∀ (f:Nat) (p:SetTable.Probe) (j:Nat) (d:Option Nat),p.dummy=none→SetTable.probe.go t g h f p=some (.empty j d)→d=none∧t.slot j = .empty
 | 0,p,j,d,_,e=>by unfold SetTable.probe.go at e;cases e
 | f+1,p,j,d,hp,e=>by
  unfold SetTable.probe.go at e
  have hh:∀ x,SetTable.has t.dummies x=false:=fun x=>by rw [hd];unfold SetTable.has;simp
  have hs:∀ x,t.slot x ≠ .dummy:=fun x=>by
   unfold SetTable.slot
   dsimp only
   rw [hh]
   simp only [Ar,Bl]
   split
   ·exact fun z=>by cases z
   ·exact fun z=>by cases z
  cases hq:t.slot p.j with
  | empty =>
   rw [hq] at e
   cases e
   exact ⟨hp,hq⟩
  | dummy=>exact absurd hq (hs _)
  | live i =>
   rw [hq] at e
   have ad:(t.advance p).dummy=none:=by
    unfold SetTable.advance
    split
    ·exact hp
    ·exact hp
   dsimp only at e
   split at e
   ·cases e
   ·exact iy hd g h f _ j d ad e
theorem rQ {t:SetTable}(hd:t.dummies=#[]){h:Int}{j:Nat}{b:Bool}(e:t.freeSlot h=some (j,b)):t.place[SetTable.below t.place j]? ≠ some j:=by
 unfold SetTable.freeSlot SetTable.probe at e
 split at e
 ·rename_i k d hq
  obtain ⟨rfl,hs⟩:=iy hd _ _ _ _ k d rfl hq
  cases e
  intro z
  unfold SetTable.slot at hs
  simp only [Option.getD_none] at z
  dsimp only at hs
  rw [z] at hs
  simp at hs
 ·cases e
def Tk (t:SetTable):Prop:=t.dummies=#[]∧pK t.place
theorem dM {t:SetTable}{n:Nat}:Tk (t.standIn n):=⟨rfl,m5 n⟩
theorem pL {t:SetTable}{es:Array (Int × Value)}{h:Int}{x:Value}(k:Tk t):Tk (layNew t es h x).2.1:=by
 unfold layNew
 split
 ·rename_i j d hq
  dsimp only
  unfold SetTable.orStandIn
  split
  ·refine ⟨?_,k.2.put (rQ k.1 hq)⟩
   have:SetTable.has t.dummies j=false:=by rw [k.1];unfold SetTable.has;simp
   show (if SetTable.has t.dummies j=true then _ else t.dummies)=#[]
   rw [this]
   simpa using k.1
  ·exact dM
 ·exact dM
theorem pM (n:Nat)(f:Nat→Option Nat):pK ((((List.range n).filterMap fun j=>(f j).map (j,·)).map (·.1)).toArray):=by
 have key:((((List.range n).filterMap fun j=>(f j).map (j,·)).map (·.1))).Pairwise (· < ·):=by
  rw [List.pairwise_map]
  refine List.Pairwise.filterMap _ (fun a a' hlt b hb b' hb'=>?_) List.pairwise_lt_range
  cases h1:f a with
  | none=>rw [h1] at hb;simp at hb
  | some x =>
   rw [h1] at hb
   cases h2:f a' with
   | none=>rw [h2] at hb';simp at hb'
   | some x' =>
    rw [h2] at hb'
    simp at hb hb'
    rw [← hb,← hb']
    exact hlt
 intro i j a b hij ea eb
 rw [BR] at ea eb
 obtain ⟨h1,e1⟩:=Ah.mp ea
 obtain ⟨h2,e2⟩:=Ah.mp eb
 rw [← e1,← e2]
 exact B_.mp key i j h1 h2 hij
theorem kK {t:SetTable}{es:Array (Int × Value)}{w:Nat}:Tk (relayAll t es w).2.1:=by
 unfold relayAll
 split
 ·rename_i t' order he
  dsimp only
  split
  ·unfold SetTable.relaid SetTable.laid at he
   cases hq:SetTable.layClean (SetTable.sizeAbove w - 1) (es.map (·.1)) with
   | none=>rw [hq] at he;cases he
   | some o=>rw [hq] at he;cases he;exact ⟨rfl,pM _ _⟩
  ·exact dM
 ·exact dM
def jb (val:Nat→Int):Nat→List Int
 | 0=>[]
 | i+1=>if val i∈jb val i then jb val i else jb val i++[val i]
theorem mw (val:Nat→Int):∀ i,(jb val i).length≤i
 | 0=>Al _
 | i+1=>by
  have:=mw val i
  unfold jb
  split
  ·omega
  ·rw [Ad,A4];omega
section
variable {prog:Program} {w:World} {A:Around} {E:Value→Shared→Prop} {s:Shared}
def jc (prog:Program)(w:World)(h:Heap)(a:Addr)(dl:List Int):Prop :=
 ∃ o es ep t,h.get? a=some o∧o.ExactSet∧o.data = .set es ep t∧ElemsOf (intKind prog w) es.toList∧(∀ k,k∈dl ↔ ∃ e∈es.toList,(intKind prog w).is k e.2=true)∧es.size < scanBound∧t.fits es.size=true∧es.size=dl.length∧Tk t∧t.led=ldr w
theorem y9 {a:Addr}{o:Obj}{es es1:Array (Int × Value)}{ep:Nat}{t t2:SetTable}{dl:List Int}(ho:s.heap.get? a=some o)(hex:o.ExactSet)(hd:o.data = .set es ep t)(hel:ElemsOf (intKind prog w) es1.toList)
  (hm:∀ k,k∈dl ↔ ∃ e∈es1.toList,(intKind prog w).is k e.2=true) (hb:es1.size < scanBound) (hf:t2.fits es1.size=true) (hn:es1.size=dl.length) (hp:Tk t2) (hld:t2.led=ldr w) :
  (s.heap.update a (Obj.putSet es1 t2)).get? a=some { o with data:=.set es1 (ep+1) t2 }∧jc prog w (s.heap.update a (Obj.putSet es1 t2)) a dl:=by
 have hg:(s.heap.update a (Obj.putSet es1 t2)).get? a=some { o with data:=.set es1 (ep+1) t2 }:=by
  have q:=A7 (Obj.putSet es1 t2) ho (by rw [putSet_of es1 t2 hd];rfl)
  rwa [putSet_of es1 t2 hd] at q
 exact ⟨hg,_,es1,ep+1,t2,hg,hex,rfl,hel,hm,hb,hf,hn,hp,hld⟩
theorem zP {a:Addr}{dl:List Int}{z:Int}{u:Tok}{Q:Bool→Shared→Prop}(hS:jc prog w s.heap a dl)(hroom:dl.length+1 < scanBound)
  (h:∀ h' b,Heap.SameBut a s.heap h'→jc prog w h' a (if z∈dl then dl else dl++[z])→Q b { s with heap:=h' }) :
  wpAny (model prog w) A (setAddHashed a (.int z u) ((intKind prog w).hash z)) Q E s:=by
 obtain ⟨o,es,ep,t,ho,hex,hd,hel,hm,hb,hf,hn,hpl,hld⟩:=hS
 have hkey:(intKind prog w).is z (.int z u)=true:=intKind_is prog w z u
 have hsc:(Value.int z u).scannable=true:=rfl
 unfold setAddHashed setAddHashedIn
 refine A5 (fu (DB ho hd hf ?_))
 dsimp only
 rw [byScan_of (knd:=intKind prog w) hsc hb hel]
 simp only [↓reduceIte]
 unfold setAddByScan
 refine fu (fu (Bm (fu (wpAny_setScan_of (knd:=intKind prog w) hkey ho hd hf hel ?_))))
 cases hr:List.findIdx? (fun e=>(intKind prog w).is z e.2) es.toList with
 | some j =>
  dsimp only
  obtain ⟨hj,hpj,_⟩:=CT.mp hr
  have hz:z∈dl:=(hm z).mpr ⟨es.toList[j],AS hj,hpj⟩
  refine Ae (Ae ?_)
  have q:=h s.heap false (Heap.SameBut.refl a s.heap) (by rw [if_pos hz];exact ⟨o,es,ep,t,ho,hex,hd,hel,hm,hb,hf,hn,hpl,hld⟩)
  have e:s={ s with heap:=s.heap }:=by cases s;rfl
  rw [e];exact q
 | none =>
  dsimp only
  have hz:z∉dl:=fun hz=>by
   obtain ⟨e,he,hp⟩:=(hm z).mp hz
   have q:=Du.mp hr e he
   rw [hp] at q
   cases q
  have hq:∀ h',Heap.SameBut a s.heap h'→jc prog w h' a (dl++[z])→Q true { s with heap:=h' }:=fun h' sb hs=>h h' true sb (by rw [if_neg hz];exact hs)
  have hperm:=layNew_perm t es ((intKind prog w).hash z) (.int z u)
  have hfits:=layNew_fits t es ((intKind prog w).hash z) (.int z u)
  have hoff:=pL (es:=es) (h:=(intKind prog w).hash z) (x:=.int z u) hpl
  have hl1:(layNew t es ((intKind prog w).hash z) (.int z u)).2.1.led=ldr w:=ip.trans hld
  generalize hL:layNew t es ((intKind prog w).hash z) (.int z u)=L at hperm hfits hoff hl1 ⊢
  obtain ⟨es1,t1,wasDummy,gave⟩:=L
  dsimp only at hperm hfits hoff hl1 ⊢
  rw [BN] at hperm
  have hel1:ElemsOf (intKind prog w) es1.toList:=(hel.push hkey hsc).perm hperm
  have hm1:∀ k,k∈dl++[z] ↔ ∃ e∈es1.toList,(intKind prog w).is k e.2=true:=fun k=>by
   rw [← mem_push_iff (knd:=intKind prog w) (S:=fun k=>decide (k∈dl)) hkey (fun k=>by rw [CS];exact hm k) hperm k]
   simp
  have hsz1:es1.size=(dl++[z]).length:=by rw [← Ai,hperm.length_eq,Ad,Ai,hn,Ad];rfl
  have hb1:es1.size < scanBound:=by rw [hsz1,Ad];exact hroom
  have tail:∀ t2:SetTable,Tk t2→t2.led=ldr w→t2.fits es1.size=true→wpAny (model prog w) A (do
    storeSet a es1 t2
    if (!wasDummy && t2.tooFull)=true then do
      (match (relayAll t2 es1 (SetTable.grown es1.size)).2.2 with | true=>rule "set.scan.the-table-gave-way" | false=>pure ())
      storeSet a (relayAll t2 es1 (SetTable.grown es1.size)).1 (relayAll t2 es1 (SetTable.grown es1.size)).2.1
      pure (some true)
     else pure (some true)) (fun r s'=>wpAny (model prog w) A (match r with | some added=>pure added | none=>setAddHashedIn a (.int z u) ((intKind prog w).hash z) 99999) Q E s') E s:=fun t2 hp2 hd2 hf2=>by
   refine fu (C0 ho hd ?_ (C1 hb1))
   obtain ⟨ho1,hS1⟩:=y9 ho hex hd hel1 hm1 hb1 hf2 hsz1 hp2 hd2
   have hsb1:=CN s.heap a (Obj.putSet es1 t2)
   split
   ·have hp:=relayAll_perm t2 es1 (SetTable.grown es1.size)
    have hfr:=relayAll_fits t2 es1 (SetTable.grown es1.size)
    have hof:=kK (t:=t2) (es:=es1) (w:=SetTable.grown es1.size)
    have hof2:=(fw (t:=t2) (es:=es1) (w:=SetTable.grown es1.size)).trans hd2
    generalize relayAll t2 es1 (SetTable.grown es1.size)=Rl at hp hfr hof hof2 ⊢
    obtain ⟨es2,t3,gave2⟩:=Rl
    dsimp only at hp hfr hof hof2 ⊢
    have hsz:es2.size=es1.size:=by rw [← Ai,hp.length_eq,Ai]
    have go:wpAny (model prog w) A (storeSet a es2 t3 >>= fun _=>pure (some true)) (fun r s'=>wpAny (model prog w) A (match r with | some added=>pure added | none=>setAddHashedIn a (.int z u) ((intKind prog w).hash z) 99999) Q E s') E { s with heap:=s.heap.update a (Obj.putSet es1 t2) }:=by
     refine fu (C0 ho1 rfl ?_ (C1 (by rw [hsz];exact hb1)))
     obtain ⟨_,hS2⟩:=y9 (s:={ s with heap:=s.heap.update a (Obj.putSet es1 t2) }) ho1 hex rfl (hel1.perm hp) (fun k=>(hm1 k).trans ⟨fun zq2=>(by obtain ⟨e,he,q⟩:=zq2;exact ⟨e,hp.mem_iff.mpr he,q⟩),fun zq1=>(by obtain ⟨e,he,q⟩:=zq1;exact ⟨e,hp.mem_iff.mp he,q⟩)⟩) (by rw [hsz];exact hb1) hfr (hsz.trans hsz1) hof hof2
     exact Ae (Ae (hq _ (hsb1.trans (CN _ a _)) hS2))
    cases gave2
    ·exact fu (Ae go)
    ·exact fu (Bm go)
   ·exact Ae (Ae (hq _ hsb1 hS1))
  have rest:wpAny (model prog w) A (do
    let byValue ← if t1.plain=true then hashByValue 8 (.int z u) else pure true
    storeSet a es1 (if byValue=true then t1 else { t1 with plain:=false })
    if (!wasDummy && (if byValue=true then t1 else { t1 with plain:=false }:SetTable).tooFull)=true then do
      (match (relayAll (if byValue=true then t1 else { t1 with plain:=false }) es1 (SetTable.grown es1.size)).2.2 with | true=>rule "set.scan.the-table-gave-way" | false=>pure ())
      storeSet a (relayAll (if byValue=true then t1 else { t1 with plain:=false }) es1 (SetTable.grown es1.size)).1 (relayAll (if byValue=true then t1 else { t1 with plain:=false }) es1 (SetTable.grown es1.size)).2.1
      pure (some true)
     else pure (some true)) (fun r s'=>wpAny (model prog w) A (match r with | some added=>pure added | none=>setAddHashedIn a (.int z u) ((intKind prog w).hash z) 99999) Q E s') E s:=by
   by_cases hp1:t1.plain=true
   ·rw [if_pos hp1]
    refine fu ?_
    rw [hashByValue_scannable 8 hsc]
    refine Ae ?_
    show wpAny _ _ (storeSet a es1 (if plainKind (.int z u)=true then t1 else { t1 with plain:=false }) >>= _) _ _ _
    exact tail t1 hoff hl1 hfits
   ·rw [if_neg hp1]
    refine fu (Ae ?_)
    exact tail t1 hoff hl1 hfits
  cases gave
  ·exact fu (Ae rest)
  ·exact fu (Bm rest)
theorem jc.at {h h':Heap}{a:Addr}{dl:List Int}(hS:jc prog w h a dl)(k:∀ o,h.get? a=some o→h'.get? a=some o):jc prog w h' a dl:=by
 obtain ⟨o,es,ep,t,ho,r⟩:=hS
 exact ⟨o,es,ep,t,k o ho,r⟩
section
variable {R:Result→Shared→Prop} {I:Addr} {fp wr:List Addr} {G:Array GenState→Array GenState→Prop} {n:Nat} {P:Nat→Value→Prop} {St:Nat→Shared→Prop}
theorem zQ (W:WalksS prog w A.in1 I fp wr G n P St)(S:Addr)(hSf:S∉fp)(val:Nat→Int)(hval:∀ i v,P i v→∃ t,v = .int (val i) t)(hb:n+1 < scanBound) :
  ∀ (k i:Nat) (s:Shared),n - i=k→i≤n→St i s→jc prog w s.heap S (jb val i)→(∀ s',Moved (S::wr) G s s'→jc prog w s'.heap S (jb val n)→R (.ok (.ret .none)) s') →
   codeAny (model prog w) A (.builtin "set.update.loop" ⟨[.ref S,.ref I],[]⟩) R s:=by
 have nw:S∉wr:=fun q=>hSf (W.sub _ q)
 have sub:∀ b∈wr,b∈S::wr:=fun b q=>AC _ q
 intro k
 induction k with
 | zero =>
  intro i s hk hi st hS hR
  obtain rfl:i=n:=by omega
  refine By Bz ?_
  rw [Bo A8 _]
  show wpAny _ A.in1 (pyNext (.ref I) >>= _) _ _ s
  refine fu (W.done s _ _ st fun s' mv=>?_)
  show wpAny _ A.in1 (ret Value.none) _ _ s'
  exact Ae (hR s' (mv.mono sub) (hS.at fun o q=>mv.heap S o nw q))
 | succ k ih =>
  intro i s hk hi st hS hR
  have hlt:i < n:=by omega
  refine By Bz ?_
  rw [Bo A8 _]
  show wpAny _ A.in1 (pyNext (.ref I) >>= _) _ _ s
  refine fu (W.item i s _ _ hlt st fun v s' hP st' mv=>?_)
  obtain ⟨u,rfl⟩:=hval i v hP
  have hS':jc prog w s'.heap S (jb val i):=hS.at fun o q=>mv.heap S o nw q
  show wpAny _ A.in1 (holding [Value.int (val i) u] (setAdd S (.int (val i) u)) >>= _) _ _ s'
  refine fu (A5 ?_)
  unfold setAdd
  refine A5 (fu ((intKind prog w).pyHash (k:=val i) (intKind_is _ _ _ _) ?_))
  have hl:=mw val i
  refine zP (s:={ s' with toks:=s'.toks+1 }) hS' (by omega) fun h' b sb hS2=>?_
  refine Ae ⟨B5 A8 _,ih (i+1) _ (by omega) hlt (W.frame _ s' _ _ st' (BV _) fun c hc o q=>?_) (by unfold jb;exact hS2) fun s'' mv2 hS3=>?_⟩
  ·rw [sb.2 c (fun e:c=S=>hSf (e ▸ hc))];exact q
  ·refine hR s'' (Moved.trans W.gtrans ((mv.mono sub).then_heap (BV _) fun c o hc q=>?_) mv2) hS3
   rw [sb.2 c (fun e:c=S=>hc (e ▸ Av))];exact q
end
set_option maxHeartbeats 3200000 in
theorem pN {l:Addr}{its:Array Value}{val:Nat→Int}{Q:Value→Shared→Prop}(hh:A.handled=none)(hl:s.heap.IsList l its)(hval:∀ (i:Nat) (v:Value),its[i]? = some v→∃ t,v = .int (val i) t)(hb:its.size+1 < scanBound)
  (h:∀ (h':Heap) (tk:Nat),jc prog w h' s.heap.objs.size (jb val its.size)→(∀ b o,b < s.heap.objs.size→s.heap.get? b=some o→h'.get? b=some o)→Q (.ref s.heap.objs.size) { s with heap:=h',toks:=tk }) :
  wpAny (model prog w) A (call (.type "set") [.ref l]) Q E s:=by
 obtain ⟨c,tl,hmro⟩:=F.called_set.mro
 have hmade:=F.called_set.made
 have hsub:=F.called_set.sub
 refine wpAny_call (DX ?_)
 show wpAny _ _ (callAny (.type "set") _) _ _ _
 refine Ae ⟨Code.quiet_builtin _ (by decide +kernel),By F.entry_type_call ?_⟩
 rw [Around.under_plain (weight_type_call_type "set" [.ref l] []) rfl]
 have x1:=F.called_set.notType
 have x2:=F.called_set.canCreate
 have x3:=F.typeCall_set_1 (.ref l)
 repeat (any_goals (first | assumption | wp_step))
 refine DY (eG (.ref l) (E:=E) (Q₁:=fun ob s1=>ob = .ref s.heap.objs.size∧s1={ s with heap:=s.heap.push (sob (ldr w)) }) ⟨rfl,rfl⟩) fun r s1 hr=>?_
 cases r with
 | error e=>exact hr
 | ok fl =>
  cases fl with
  | ret ob =>
   obtain ⟨rfl,rfl⟩:=hr
   have gS:(s.heap.push (sob (ldr w))).get? s.heap.objs.size=some (sob (ldr w)):=Ak _ rfl
   have hT:Shared.TypeIs { s with heap:=s.heap.push (sob (ldr w)) } (.ref s.heap.objs.size) "set":=⟨_,gS,rfl⟩
   have x4:=F.called_set.init.lookup
   have x5:=F.called_set.init.bind (.ref s.heap.objs.size)
   repeat (any_goals (first | assumption | wp_step))
   refine DY (codeAny_call_builtin (R:=wants (fun r s2=>r = .none∧∃ h' tk,s2={ s with heap:=h',toks:=tk }∧jc prog w h' s.heap.objs.size (jb val its.size)∧(∀ b o,b < s.heap.objs.size→s.heap.get? b=some o→h'.get? b=some o)) E) F.called_set.init.plain F.entry_set_init (check_set_init_1 hT ?_)) fun r2 s2 hr2=>?_
   ·obtain ⟨⟨oc,od,odt,osl⟩,gl,hc,nl,hd⟩:=hl
    simp only at hc hd
    subst hc;subst hd
    have gl':(s.heap.push (sob (ldr w))).get? l=some { cls:=.type "list",dict:=od,data:=.seq its nl,slots:=osl }:=Ab _ gl
    have y1:=F.sub_list_set
    have y2:=F.sub_list_frozenset
    have y3:(Value.type "list" == Value.type "dict")=false:=by decide
    have L1:(s.heap.push (sob (ldr w))).IsList l its:=⟨_,gl',rfl,nl,rfl⟩
    unfold Builtin.«set.__init__» noKeywords Builtin.Frozenset.updateFrom
    generalize hPI:pyIter=PI
    wp_walk
    subst hPI
    refine Cb L1 (fu (Dv ?_))
    have llt:l < s.heap.objs.size:=Ay gl
    have z1:(s.heap.push (sob (ldr w))).objs.size=s.heap.objs.size+1:=AV ..
    have nI:l≠(s.heap.push (sob (ldr w))).objs.size:=by rw [z1];exact AK (Bg llt)
    have nf:s.heap.objs.size∉[(s.heap.push (sob (ldr w))).objs.size,l]:=by
     rw [z1];simp only [Aw,Af,AE,BI,not_or]
     exact ⟨AK (Ba _),Bi llt⟩
    refine zQ ((D2 (by simp [hh]) _ l nI its).toS) s.heap.objs.size nf val hval hb (its.size - 0) 0 _ (by omega) (BF _) ⟨⟨_,Ak _ rfl,rfl,rfl⟩,L1.push _⟩ ?s0 ?rr
    case s0=>exact ⟨_,#[],0,_,Ab _ gS,⟨rfl,rfl,rfl⟩,rfl,fun e he=>by simp at he,fun k=>by simp [jb],by decide,by rfl,rfl,⟨rfl,rP⟩,rfl⟩
    case rr =>
     intro s' mv hS'
     obtain ⟨h',g',d',tk',os'⟩:=s'
     obtain rfl:g'=s.gens:=mv.gens
     obtain rfl:d'=s.drawn:=mv.drawn
     obtain rfl:os'=s.os:=mv.os
     show wpAny _ _ _ _ _ _
     refine Ae ?_
     show wpAny _ _ (ret Value.none) _ _ _
     refine Ae ⟨rfl,h',tk',rfl,hS',fun b o hlt e=>mv.heap b o ?_ (Ab _ (Ab _ e))⟩
     simp only [Aw,Af,AE,BI,not_or]
     exact ⟨AK hlt,by rw [z1];exact AK (Bg hlt)⟩
   ·cases r2 with
    | error e=>exact hr2
    | ok fl2 =>
     cases fl2 with
     | ret r =>
      obtain ⟨rfl,h',tk,rfl,hS',hk'⟩:=hr2
      repeat (any_goals (first | assumption | wp_step))
      exact h _ _ hS' hk'
     | _=>exact hr2.elim
  | _=>exact hr.elim
theorem dA {S:Addr}{sl i ep:Nat}{es:Array (Int × Value)}{t:SetTable}{Q:Option (Value × Nat)→Shared→Prop}(bt:w.params.followText "set-order" = false)(b:Sob s.heap S es ep t)(h1:¬ (!t.plain && decide (es.size > 1))=true)(hl:t.led=true)
  (q:Q (match es[SetTable.below t.place sl]?,t.place[SetTable.below t.place sl]? with | some (_,x),some j=>some (x,j+1) | _,_=>none) s):wpAny (model prog w) A (setNext S sl i ep) Q E s:=by
 unfold setNext
 refine fu (aU b ?_)
 refine fu (bG ?_)
 rw [bt]
 simp only [Ar,Bl]
 refine BL (fun hab=>absurd hab ?_) fun _=>?_
 ·show ¬ ((!t.plain && decide (es.size > 1))=true)
  exact h1
 refine fu ?_
 show wpAny _ _ (if (!t.led && !es.isEmpty)=true then unsupported "set:maker-not-led" else pure ()) _ _ _
 rw [hl,if_neg (by simp)]
 exact Ae (Ae q)
def sitP (t:SetTable)(i:Nat):Nat:=if i=0 then 0 else t.place.getD (i - 1) 0+1
theorem iz {t:SetTable}(hk:Tk t){i:Nat}(hi:i≤t.place.size):SetTable.below t.place (sitP t i)=i:=by
 unfold sitP
 by_cases z:i=0
 ·rw [if_pos z,z]
  exact m4 hk.2
 ·rw [if_neg z]
  have hl:i - 1 < t.place.size:=by omega
  have e:=Bx t.place (i - 1) hl
  have g:t.place.getD (i - 1) 0=t.place[i - 1]:=by simp [Array.getD,hl]
  rw [g,m3 hk.2 e]
  omega
theorem pO (hh:A.handled=none)(bt:w.params.followText "set-order" = false){I S:Addr}(hne:S≠I){es:Array (Int × Value)}{ep:Nat}{t:SetTable}(h1:¬ (!t.plain && decide (es.size > 1))=true)(hl:t.led=true)(hk:Tk t) :
  Walks prog w A I [I,S] [I] es.size (fun i v=>(es.toList.map (·.2))[i]? = some v) (fun i h=>Sit h I (rawInt (sitP t i:Nat)) i S es.size ep∧Sob h S es ep t) where
 sub:=fun b hb=>by rw [Af.mp hb];exact Av
 frame:=fun i h h' st k=>⟨st.1.at (k I Av),st.2.at (k S (by simp))⟩
 item:=fun i s Q E hi st q=>by
  have pz:t.place.size=es.size:=by
   have:=st.2.ft
   unfold SetTable.fits at this
   simp at this
   omega
  have e:=Bx es i hi
  have ej:=Bx t.place i (by omega)
  refine dI st.1 st.2 (fu (dA bt st.2 h1 hl ?_))
  generalize es[i]=y at e ⊢
  obtain ⟨c,x⟩:=y
  rw [iz hk (by omega),e,ej]
  refine kC (first':=rawInt ((t.place[i]+1:Nat):Int)) st.1 fun h' g k=>⟨_,rfl,q _ h' s.toks ?_ ⟨?_,st.2.at fun o eo=>k S o (by simp [hne]) eo⟩ k⟩
  ·rw [Ap,AN,e]
   rfl
  ·have hi2:i < t.place.size:=by omega
   have:sitP t (i+1)=t.place[i]+1:=by
    unfold sitP
    rw [if_neg (Nat.succ_ne_zero _),Nat.add_sub_cancel]
    simp [Array.getD,hi2]
   rw [this]
   exact g
 done:=fun s Q E st q=>by
  have pz:t.place.size=es.size:=by
   have:=st.2.ft
   unfold SetTable.fits at this
   simp at this
   omega
  refine dI st.1 st.2 (fu (dA bt st.2 h1 hl ?_))
  rw [iz hk (by omega),Dp es es.size (by omega)]
  exact kD hh st.1 fun h' k=>q h' s.toks k
 self:=fun i s Q E st q=>by
  refine Cd st.1.ty bc (A3 bc st.1.ty bT ?_ (b_ _))
  exact Ae ⟨_,rfl,"set_iterator",_,st.1.ty,aS.lookup,q⟩
theorem pP {S:Addr}{es:Array (Int × Value)}{ep:Nat}{t:SetTable}{Q:Value→Shared→Prop}(b:Sob s.heap S es ep t)(hl:t.led=ldr w)(hpl:Tk t)(hz:es.size≤sizeLine)
  (q:∀ (I:Addr) (fp:List Addr) (h':Heap) dr (vs:List Value) (St:Nat→Heap→Prop),
   (∀ A':Around,A'.handled=none→Walks prog w A' I fp [I] es.size (fun i v=>vs[i]? = some v) St)→St 0 h'→vs.Perm (es.toList.map (·.2))→(∀ b∈fp,b=S ∨ s.heap.objs.size≤b)→s.heap.objs.size≤I→I < h'.objs.size →
   (∀ b o,s.heap.get? b=some o→h'.get? b=some o)→Q (.ref I) { s with heap:=h',drawn:=dr }):wpAny (model prog w) A (pyIter (.ref S)) Q E s:=by
 obtain ⟨o,e,x,d⟩:=b.ex
 have hT:s.TypeIs (.ref S) "set":=⟨o,e,x.1⟩
 have lt:=Ay e
 refine Cd hT Dh (A3 Dh hT dv ?_ (F.args_set_iter_1 _))
 unfold Builtin.«frozenset.__iter__»
 refine fu (m:=Builtin.Frozenset.slot0 _ _) (D7 (a:=S) rfl ?_)
 refine fu (m:=Builtin.Frozenset.sizeOf S) ?_
 unfold Builtin.Frozenset.sizeOf
 refine fu (bS b (Ae ?_))
 refine fu (m:=setDrawn S) ?_
 unfold setDrawn
 refine fu (aU b (fu (bG (Ae ?_))))
 cases bt:w.params.followText "set-order" with
 | true =>
  simp only [CC,CJ,Ar,Bl]
  refine fu (Ae ?_)
  refine fu (m:=setEpoch S) ?_
  unfold setEpoch
  refine fu (aU b (Ae ?_))
  refine fu (Bh ?_)
  refine Ae ⟨_,rfl,"set_iterator",_,⟨_,Ak _ rfl,rfl⟩,aS.lookup,?_⟩
  have lz:(pickOrder (w.params.setOrder S ep) es).toList.length=es.toList.length:=(cI _ es).length_eq
  refine q s.heap.objs.size [s.heap.objs.size,S] _ s.drawn _ _ (fun A' hh=>jS (t:=t) hh bt (AK lt)) ⟨⟨_,Ak _ rfl,rfl,rfl⟩,b.at fun o eo=>Ab _ eo⟩ ((cI _ es).map _) (fun c hc=>?_) (Al _) (by rw [AV];exact Ba _) fun c o eo=>Ab _ eo
  rcases Aw.mp hc with h | h
  ·exact .inr (by rw [h];exact Al _)
  ·exact .inl (Af.mp h)
 | false =>
  have ld:t.led=true:=by rw [hl];unfold ldr;rw [bt];rfl
  by_cases dr:(!t.plain && decide (es.size > 1))=true
  ·refine BL (fun _=>?_) fun no=>absurd (show (!false && (!t.plain && decide (es.size > 1)))=true by rw [dr];rfl) no
   refine fu (cn _ _ _ _ (BO) fun ps dr2 hp=>?_)
   have lp:ps.length=es.size:=by rw [hp.length_eq,BO]
   refine fu (Bh ?_ (by show (ps.map fun (i:Nat)=>rawInt i).toArray.size≤_;simp [lp];exact hz))
   refine fu (m:=setEpoch S) ?_
   unfold setEpoch
   refine fu (aU (b.at fun o eo=>Ab _ eo) (Ae ?_))
   refine fu (Bh ?_)
   refine Ae ⟨_,rfl,"set_iterator",_,⟨_,Ak _ rfl,rfl⟩,aS.lookup,?_⟩
   have z1:(s.heap.push { cls:=.type "tuple",data:=.seq (ps.map fun (i:Nat)=>rawInt i).toArray }:Heap).objs.size=s.heap.objs.size+1:=AV ..
   rw [z1]
   refine q (s.heap.objs.size+1) [s.heap.objs.size+1,S,s.heap.objs.size] _ dr2 _ _ (fun A' hh=>ir (t:=t) (ep:=ep) hh (AK (Bg lt)) (AK (Ba _)) hp) ⟨?_,?_,?_⟩ ?_ (fun c hc=>?_) (BV _) ?_ fun c o eo=>Ab _ (Ab _ eo)
   ·have g0:=Ak (s.heap.push { cls:=.type "tuple",data:=.seq (ps.map fun (i:Nat)=>rawInt i).toArray }) (o:={ cls:=.type "set_iterator",data:=.fields #[.ref s.heap.objs.size,rawInt (0:Nat),.ref S,rawInt es.size,rawInt ep] }) rfl
    rw [z1] at g0
    exact ⟨_,g0,rfl,rfl⟩
   ·exact b.at fun o eo=>Ab _ (Ab _ eo)
   ·exact ⟨_,Ab _ (Ak _ rfl),rfl,rfl⟩
   ·rw [← jT]
    exact hp.map _
   ·simp only [Aw,AE,BI] at hc
    rcases hc with h | h | h
    ·exact .inr (by rw [h];exact BV _)
    ·exact .inl h
    ·exact .inr (by rw [h];exact Al _)
   ·rw [AV,z1]
    exact Ba _
  ·refine BL (fun yes=>absurd (show (!t.plain && decide (es.size > 1))=true from yes) dr) fun _=>?_
   refine fu (Ae ?_)
   refine fu (m:=setEpoch S) ?_
   unfold setEpoch
   refine fu (aU b (Ae ?_))
   refine fu (Bh ?_)
   refine Ae ⟨_,rfl,"set_iterator",_,⟨_,Ak _ rfl,rfl⟩,aS.lookup,?_⟩
   refine q s.heap.objs.size [s.heap.objs.size,S] _ s.drawn _ _ (fun A' hh=>pO (t:=t) (ep:=ep) hh bt (AK lt) dr ld hpl) ⟨⟨_,Ak _ rfl,rfl,rfl⟩,b.at fun o eo=>Ab _ eo⟩ (Cs _) (fun c hc=>?_) (Al _) (by rw [AV];exact Ba _) fun c o eo=>Ab _ eo
   rcases Aw.mp hc with h | h
   ·exact .inr (by rw [h];exact Al _)
   ·exact .inl (Af.mp h)
theorem kL {R:Result→Shared→Prop}{S L:Addr}{es:Array (Int × Value)}{ep c0:Nat}{t:SetTable}(hh:A.handled=none)(b:Sob s.heap S es ep t)(hl:t.led=ldr w)(hpl:Tk t)(hz:es.size≤sizeLine)(res:Value)
  (hL:s.heap.get? L=some { cls:=.type "list",data:=.seq #[] c0 })
  (hR:∀ h' dr tk (vs:List Value) acc c',(∀ b o,b≠L→s.heap.get? b=some o→h'.get? b=some o)→h'.get? L=some { cls:=.type "list",dict:=none,data:=.seq acc c',slots:=#[] }→vs.Perm (es.toList.map (·.2)) →
   ItemsOf (fun i v=>vs[i]? = some v) acc es.size→R (.ok (.ret res)) { s with heap:=h',drawn:=dr,toks:=tk }) :
  wpAny (model prog w) A.in1 (Builtin.List.listExtendWith (.ref L) (.ref S) res)
   (fun fin s'=>match fin with | .done f=>R (.ok f) s' | .again c'=>c'.quiet=true∧codeAny (model prog w) A c' R s') (fun e s'=>R (.error e) s') s:=by
 obtain ⟨o,e,x,d⟩:=b.ex
 have hT:s.TypeIs (.ref S) "set":=⟨o,e,x.1⟩
 have nLS:L≠S:=fun z=>by
  rw [z,e] at hL
  have:=A9 hL
  rw [this] at d
  cases d
 have lL:=Ay hL
 unfold Builtin.List.listExtendWith
 refine fu (Do hT ?_)
 have n1:Builtin.List.listSameRef (.ref L) (.ref S)=false:=by simp [Builtin.List.listSameRef,nLS]
 have n2:(Value.type "set" == Value.type "list")=false:=by decide
 have n3:(Value.type "set" == Value.type "tuple")=false:=by decide
 simp only [n1,n2,n3,Bool.or_false,Ar,Bl]
 refine fu (pP b hl hpl hz fun I fp h' dr vs St W st0 pm hfp gI lI k=>?_)
 have nf:L∉fp:=fun hm=>by
  rcases hfp L hm with z | z
  ·exact nLS z
  ·exact absurd lL (De.mpr z)
 have nI:L≠I:=AK (BU lL gI)
 have WS:=(W A.in1 hh).toS
 have go:∀ (h2:Heap) (c1 tk:Nat),St 0 h2→(∀ b o,b≠L→h'.get? b=some o→h2.get? b=some o)→h2.get? L=some { cls:=.type "list",data:=.seq #[] c1 } →
   codeAny (model prog w) A (.builtin "list.extend.loop" ⟨[.ref L,.ref I,res],[]⟩) R { s with heap:=h2,drawn:=dr,toks:=tk }:=fun h2 c1 tk st2 k2 hL2=>by
  refine codeAny_extend_loopS WS hz L nf res es.size 0 _ #[] c1 (by omega) (BF _) st2 hL2 (ItemsOf.nil _) fun s2 acc c2 mv hL3 hI=>?_
  rw [Moved.eq_with mv]
  refine hR s2.heap dr s2.toks vs acc c2 (fun b o hb eb=>mv.heap b o (fun hm=>?_) (k2 b o hb (k b o eb))) hL3 pm hI
  rcases Aw.mp hm with z | z
  ·exact hb z
  ·rw [Af.mp z] at eb
   exact absurd (Ay eb) (De.mpr gI)
 have hL1:=k L _ hL
 have hT1:Shared.TypeIs { s with heap:=h',drawn:=dr } (.ref S) "set":=⟨o,k S o e,x.1⟩
 refine fu (A5 (lZ hT1 ?_))
 refine BL (fun _=>?_) fun _=>Ae ⟨B5 CO _,go h' c0 _ st0 (fun _ _ _ eb=>eb) hL1⟩
 refine fu (Bm ?_)
 refine fu ?_
 show wpAny _ _ (updateSeq L (·.push .none) >>= fun _=>updateSeq L (·.pop)) _ _ _
 refine fu (Di hL1 rfl ?_)
 have hL2:=A7 (Obj.mapSeq (·.push Value.none)) hL1 rfl
 refine Di (hz:=by seq_fits) hL2 rfl ?_
 have hL3:=A7 (Obj.mapSeq (·.pop)) hL2 rfl
 have up:∀ b o,b≠L→h'.get? b=some o→((h'.update L (Obj.mapSeq (·.push Value.none))).update L (Obj.mapSeq (·.pop))).get? b=some o:=fun b o hb eb =>
  (AZ _ _ (Ne.symm hb)).trans ((AZ _ _ (Ne.symm hb)).trans eb)
 exact Ae ⟨B5 CO _,go _ _ _ ((W A.in1 hh).frame 0 h' _ st0 fun b hb o eb=>up b o (fun z=>nf (z ▸ hb)) eb) up hL3⟩
end
end PySem
namespace L2
open PySem PySem.Spec PyProof.Rows
section
variable {prog:Program} {w:World} {A:Around} {E:Value→Shared→Prop} {s:Shared}
theorem pQ:∀ (vs:List Value),(∀ v∈vs,∃ k t,v = .int k t)→∃ zs,IntsAre vs zs∧zs.length=vs.length∧∀ k t,.int k t∈vs→k∈zs
 | [],_=>⟨[],.nil,rfl,fun k t h=>by cases h⟩
 | v::vs,h=>by
  obtain ⟨k,t,rfl⟩:=h v Av
  obtain ⟨zs,h1,h2,h3⟩:=pQ vs fun v hv=>h v (AC _ hv)
  refine ⟨k::zs,.cons k t h1,by simp [h2],fun k' t' hk=>?_⟩
  rcases Aw.mp hk with e | e
  ·cases e;exact Av
  ·exact AC _ (h3 k' t' e)
theorem c_:∀ {dl zs:List Int},dl.Nodup→(∀ k∈dl,k∈zs)→zs.length≤dl.length→zs.Perm dl
 | [],zs,_,_,h=>by rw [BK.mp (Nat.le_zero.mp h)]
 | d::dl,zs,nd,m,h=>by
  have hd:=m d Av
  have p:=List.perm_cons_erase hd
  refine p.trans (List.Perm.cons _ ?_)
  obtain ⟨n1,n2⟩:=Cg.mp nd
  refine c_ n2 (fun k hk=>?_) ?_
  ·have:=m k (AC _ hk)
   exact (CG (fun e=>n1 (by rw [← e];exact hk))).mpr this
  ·rw [Ci hd]
   simp at h
   omega
theorem jY {S:Addr}{dl:List Int}{Q:List Value→Shared→Prop}(hh:A.handled=none)(hS:jc prog w s.heap S dl)(nd:dl.Nodup)
  (k:∀ (h':Heap) (tk:Nat) dr (vs:List Value) (zs:List Int),(∀ b o,s.heap.get? b=some o→h'.get? b=some o)→s.heap.objs.size < h'.objs.size→IntsAre vs zs→zs.Perm dl→Q vs { s with heap:=h',drawn:=dr,toks:=tk }) :
  wpAny (model prog w) A (collect (.ref S)) Q E s:=by
 obtain ⟨o,es,ep,t,ho,hex,hd,hel,hm,hb,hf,hn,hpl,hld⟩:=hS
 have l16:sizeLine=16777216:=Dg
 have b4:es.size < 4096:=hb
 unfold collect
 refine (fu (Dv (By F.entry_proto_collect ?_)))
 rw [Bo F.plain_proto_collect _]
 show wpAny _ A.in1 (newList [] >>= fun q=>again (.builtin "list.__iadd__" ⟨[q,.ref S],[]⟩)) _ _ s
 refine (fu (Bh (Ae ⟨B5 C2 _,By F.entry_list_iadd ?_⟩)))
 rw [Bo C2 _]
 have hL:(s.heap.push { cls:=.type "list",data:=.seq ([]:List Value).toArray }).get? s.heap.objs.size=some { cls:=.type "list",data:=.seq #[] }:=Ak _ rfl
 show wpAny _ A.in1 (Builtin.List.listExtendWith (.ref s.heap.objs.size) (.ref S) (.ref s.heap.objs.size)) _ _ { s with heap:=s.heap.push { cls:=.type "list",data:=.seq ([]:List Value).toArray } }
 refine kL (R:=fun r s'=>match r with
  | .ok (.ret v)=>wpAny (model prog w) A (match v with
   | .ref a=>do
    match (← load a).data with
    | .seq xs _=>pure xs.toList
    | _=>unsupported "internal:collect"
   | _=>unsupported "internal:collect") Q E s'
  | .ok _=>False
  | .error e=>E e s') (s:={ s with heap:=s.heap.push { cls:=.type "list",data:=.seq ([]:List Value).toArray } }) hh ⟨⟨o,Ab _ ho,hex,hd⟩,hf⟩ hld hpl (by omega) _ hL fun h' dr tk vs acc c' hk hL' pm hI=>?_
 show wpAny _ A (load s.heap.objs.size >>= _) _ _ { s with heap:=h',drawn:=dr,toks:=tk }
 have lv:vs.length=es.size:=by rw [pm.length_eq,Ag,Ai]
 have ea:acc.toList=vs:=by
  apply DF
  intro i
  rw [AN]
  by_cases hi:i < es.size
  ·have e1:=Bx acc i (by rw [hI.1];exact hi)
   rw [e1,hI.2 i _ e1]
  ·rw [Dp acc i (by rw [hI.1];exact hi),BS (by omega)]
 have sh:∀ v∈vs,∃ z u,v = .int z u:=fun v hv=>by
  obtain ⟨x,hx,rfl⟩:=AU.mp (pm.mem_iff.mp hv)
  obtain ⟨z,hz⟩:=hel.keys x hx
  obtain ⟨u,e⟩:=Value.isInt_shape hz
  exact ⟨z,u,e⟩
 obtain ⟨zs,z1,z2,z3⟩:=pQ vs sh
 have q:=k h' tk dr vs zs (fun b o e=>hk b o (AK (Ay e)) (Ab _ e)) (Ay hL') z1 (c_ nd (fun z hz=>?_) (by omega))
 ·refine fu (wpAny_load hL' ?_)
  rw [← ea] at q
  exact Ae q
 ·obtain ⟨x,hx,hi⟩:=(hm z).mp hz
  obtain ⟨u,e⟩:=Value.isInt_shape hi
  exact z3 z u (pm.mem_iff.mpr (AU.mpr ⟨x,hx,e⟩))
end
end L2
namespace Ts
open PySem PyProof.Rows
@[reducible] def intK:KeyKind where
 α:=Int
 blt a b:=decide (a < b)
 irrefl a:=by simp
 trans a b c h1 h2:=by simp only [DH] at *;omega
 negTrans a b c h:=by simp only [DH] at *;omega
 total a b h1 h2:=by simp only [decide_eq_false_iff_not] at *;omega
 keyOf v:=match v with | .int x _=>some x | _=>none
 dflt:=0
theorem m6:intK.OneLt:=by
 intro prog w A E s x y a b Q ha hb h
 cases x <;> simp only [intK,reduceCtorEq,Option.some.injEq] at ha
 cases y <;> simp only [intK,reduceCtorEq,Option.some.injEq] at hb
 cases ha;cases hb
 exact oneLt_int h
def iOf:Value→Int
 | .int x _=>x
 | _=>0
theorem eM:∀ {vs:List Value} {ns:List Int},IntsAre vs ns→∀ v,v∈vs→∃ x t,v = .int x t
 | _,_,.nil,v,hv=>by simp at hv
 | _,_,.cons x t h,v,hv=>by
  rcases Aw.mp hv with rfl | hv
  ·exact ⟨x,t,rfl⟩
  ·exact eM h v hv
theorem pR:∀ {vs:List Value} {ns:List Int},IntsAre vs ns→vs.map iOf=ns
 | _,_,.nil=>rfl
 | _,_,.cons x t h=>by rw [Dc,pR h];rfl
theorem mx:∀ (vs:List Value),(∀ v,v∈vs→∃ x t,v = .int x t)→IntsAre vs (vs.map iOf)
 | [],_=>.nil
 | v::vs,h=>by
  obtain ⟨x,t,rfl⟩:=h v (Av ..)
  exact .cons x t (mx vs fun u hu=>h u (AC _ hu))
theorem pS {vs:List Value}{ns:List Int}(hI:IntsAre vs ns):KeysOf intK (pairsOf vs):=by
 intro p hp
 rw [pairsOf_toList] at hp
 obtain ⟨x,t,e⟩:=eM hI _ (mem_zip_self hp).2
 exact ⟨x,by rw [e]⟩
theorem tB {xs:Array Keyed}{i:Nat}(hi:i < xs.size){x:Int}{t:Tok}{q:Value}(hx:xs[i]=(.int x t,q)):KK intK xs i=x:=by
 unfold KK;rw [Bx xs i hi,hx];rfl
theorem kM {vs:List Value}{ns:List Int}(hI:IntsAre vs ns){xs:Array Keyed}(hp:xs.Perm (pairsOf vs))(hs:SortedToK intK xs (pairsOf vs).size) :
  ∃ ms,IntsAre (xs.map (·.2)).toList ms∧ms.Perm ns∧ms.Pairwise (· ≤ ·):=by
 have hl:xs.toList.Perm (vs.zip vs):=by rw [← pairsOf_toList];exact B0.mp hp
 have hmem:∀ p,p∈xs.toList→p.1=p.2∧p.1∈vs:=fun p hp'=>mem_zip_self (hl.mem_iff.mp hp')
 refine ⟨xs.toList.map (fun p=>iOf p.1),?_,?_,?_⟩
 ·have e:(xs.map (·.2)).toList=xs.toList.map (·.1):=by
   rw [Array.toList_map];exact List.map_congr_left fun p hp'=>(hmem p hp').1.symm
  rw [e]
  have h1:=mx (xs.toList.map (·.1)) (by
   intro v hv
   obtain ⟨p,hp',rfl⟩:=AU.mp hv
   exact eM hI _ (hmem p hp').2)
  rwa [BD] at h1
 ·have h1:=hl.map (fun p=>iOf p.1)
  have e2:(vs.zip vs).map (fun p=>iOf p.1)=ns:=by
   have:(vs.zip vs).map (fun p=>iOf p.1)=((vs.zip vs).map Prod.fst).map iOf:=by rw [BD];rfl
   rw [this,List.map_fst_zip (Al _),pR hI]
  rwa [e2] at h1
 ·rw [B_]
  intro i j hi hj hij
  have hi':i < xs.size:=by simpa using hi
  have hj':j < xs.size:=by simpa using hj
  have h1:=hs i j (Dq hij) (by rw [← hp.size_eq];exact hj')
  obtain ⟨x,t,ex⟩:=eM hI _ (hmem xs[i] (by simp)).2
  obtain ⟨y,u,ey⟩:=eM hI _ (hmem xs[j] (by simp)).2
  rw [tB hi' (x:=x) (t:=t) (q:=xs[i].2) (Prod.ext ex rfl),tB hj' (x:=y) (t:=u) (q:=xs[j].2) (Prod.ext ey rfl)] at h1
  change decide (y < x)=false at h1
  simp only [DR,Array.getElem_toList]
  rw [show iOf xs[i].1=x by rw [ex];rfl,show iOf xs[j].1=y by rw [ey];rfl]
  simpa using h1
end Ts
namespace L2
open PySem PySem.Spec PyProof.Rows Wd Ts
section
variable {prog:Program} {w:World} {A:Around} {E:Value→Shared→Prop} {s:Shared}
end
section
variable {X:Cx}
theorem dC:∀ {us:List Value} {ns:List Int},IntsAre us ns→bu (ns.map V.int) us
 | _,_,.nil=>.nil
 | _,_,.cons n t h=>.cons ⟨t,rfl⟩ (dC h)
end
end L2
namespace L2
open PySem PySem.Spec PyProof.Rows Ts
theorem fe (val:Nat→Int):∀ i,(jb val i).Nodup
 | 0=>by unfold jb;exact CK
 | i+1=>by
  unfold jb
  split
  ·exact fe val i
  ·rename_i h
   exact DG.mpr ⟨fe val i,Cg.mpr ⟨AE,CK⟩,fun a ha b hb e=>h (by rw [Af] at hb;subst hb;subst e;exact ha)⟩
theorem my (val:Nat→Int)(z:Int):∀ i,z∈jb val i ↔ ∃ j,j < i∧val j=z
 | 0=>by unfold jb;simp
 | i+1=>by
  have ih:=my val z i
  unfold jb
  split
  ·rename_i h
   rw [ih]
   constructor
   ·rintro ⟨j,hj,e⟩;exact ⟨j,by omega,e⟩
   ·rintro ⟨j,hj,e⟩
    by_cases q:j=i
    ·subst q
     rw [← e]
     rw [e] at h ⊢
     exact ih.mp h
    ·exact ⟨j,by omega,e⟩
  ·rw [Ax,ih,Af]
   constructor
   ·rintro (⟨j,hj,e⟩ | e)
    ·exact ⟨j,by omega,e⟩
    ·exact ⟨i,by omega,e.symm⟩
   ·rintro ⟨j,hj,e⟩
    by_cases q:j=i
    ·subst q;exact .inr e.symm
    ·exact .inl ⟨j,by omega,e⟩
section
variable {X:Cx}
def StI (P:Program)(w:World)(a:Addr)(dl:List Int):HO:=.ext fun h=>jc P w h a dl
theorem jc.lay {P:Program}{w:World}{H:Hp}{h:Heap}{a:Addr}{dl:List Int}(x:jc P w h a dl):bH P w H h a (StI P w a dl):=by
 refine ⟨x,?_,fun h1 h2 y k=>y.at k⟩
 obtain ⟨o,_,_,_,e,_⟩:=x
 exact ⟨o,e⟩
inductive da (K:PySem.W.Frag)(P:PySem.Program)(w:PySem.World)(xs:List V)(H:Hp)(Q:VK):Prop
 | mk:∀ (l:Addr) (ys:List Int),(xs=[.ref l])→(SqL K H l (ys.map V.int))→(ys.length≤4000)→(∀ (p:Addr) (dl:List Int),H p=none→dl.Nodup→(∀ z,z∈dl ↔ z∈ys)→Q (.ref p) (upd H p (StI P w p dl)))→da K P w xs H Q
theorem gX (hc:X.calm=true):cx X (.type "set") (da X.K X.prog X.w):=by
 intro pins s σ H xs us Q I r h
 obtain ⟨l,ys,rfl,hq,hz,q⟩:=h
 obtain ⟨u,rfl,ru⟩:=cP r
 cases ru
 obtain ⟨its,rv,pl,_⟩:=I.list hq
 have hlen:its.length=ys.length:=by rw [← rv.length,Ag]
 have hat:∀ (i:Nat) (v:Value),its.toArray[i]? = some v→∃ t,v = .int (ys.getD i 0) t:=fun i v e=>by
  rw [BR] at e
  have hi:i < ys.length:=by
   have:=(Ah.mp e).1
   omega
  obtain ⟨u,eu,t,rfl⟩:=rv.get (i:=i) (x:=.int ys[i]) (by rw [Ap,Ac hi];rfl)
  rw [e] at eu
  cases eu
  exact ⟨t,by rw [AM,Ac hi];rfl⟩
 refine pN (I.ok.hd hc) pl.isList hat (by rw [Bu,hlen];show _ < 4096;omega) fun h' tk hS k=>?_
 refine ⟨.ref s.heap.objs.size,_,I.laid (fun b o e=>k b o (Ay e) e) (Al _) (jc.lay hS),rfl,q _ _ (I.hok.fresh (Al _)) (fe _ _) fun z=>?_⟩
 rw [my,Bu,hlen]
 constructor
 ·rintro ⟨j,hj,rfl⟩
  rw [AM,Ac hj]
  exact AS _
 ·intro hm
  obtain ⟨j,hj,e⟩:=CH.mp hm
  exact ⟨j,hj,by rw [AM,Ac hj];exact e⟩
inductive cC (P:PySem.Program)(w:PySem.World)(xs:List V)(H:Hp)(Q:VK):Prop
 | mk:∀ (a:Addr) (dl:List Int),(xs=[.ref a])→(H a=some (StI P w a dl))→(dl.Nodup)→(∀ (p:Addr) (zs:List Int),H p=none→zs.Perm dl→zs.Pairwise (· ≤ ·)→Q (.ref p) (upd H p (.lst (zs.map V.int))))→cC P w xs H Q
theorem fF (hc:X.calm=true):cx X (.builtin "sorted") (cC X.prog X.w):=by
 intro pins s σ H xs us Q I r h
 obtain ⟨S,dl,rfl,hp,nd,q⟩:=h
 obtain ⟨u,rfl,ru⟩:=cP r
 cases ru
 have hS:jc X.prog X.w s.heap S dl:=(I.hok S _ hp).1
 have l16:sizeLine=16777216:=Dg
 have lz:dl.length < 4096:=by
  obtain ⟨o,es,ep,t,ho,hex,hd,hel,hm,hb,hf,hn,hpl,hld⟩:=hS
  rw [← hn]
  exact hb
 refine (CL kind_sorted plain_sorted entry_sorted (args_sorted1 _) ?_)
 unfold Builtin.«sorted»
 refine (fu (m:=checkCount "sorted" 1 1 _) (Ae ?_))
 refine fu (jY (A:=X.A.in1) (I.ok.hd hc) hS nd fun h' tk dr vs zs0 hk hlt hS0 p0=>?_)
 have hlen:vs.length=dl.length:=by rw [← p0.length_eq];exact (dC hS0).length.symm.trans (Ag ..)
 refine (fu (Dd ?_))
 have hoL:(h'.push (seqObj "list" vs.toArray 0)).get? h'.objs.size=some (seqObj "list" vs.toArray 0):=Ak _ rfl
 refine (fu (A5 (A3 slot_list_sort ⟨_,hoL,rfl⟩ entry_list_sort (Ts.iZ m6 hoL (pS hS0) (fun x y r e=>keyKind_ints (by rw [← e];exact hS0)) (by omega) fun st' a1 a2=>⟨_,rfl,?_⟩) (args_list_sort _))))
 obtain ⟨zs,h1,h2,h3⟩:=kM hS0 a1 a2
 refine Ae ⟨_,rfl,?_⟩
 obtain ⟨e,he⟩:=sortedHeap_at (out:=(arrOf st').map (·.2)) hoL
 have hp2:=h2.trans p0
 have hzl:(zs.map V.int).length≤sizeLine:=by
  rw [Ag,hp2.length_eq]
  omega
 have old:∀ b o,s.heap.get? b=some o→(sortedHeap (h'.push (seqObj "list" vs.toArray 0)) h'.objs.size vs ((arrOf st').map (·.2))).get? b=some o:=fun b o eb=>by
  have e1:=hk b o eb
  have e2:=Ay e1
  rw [sortedHeap_old (AK e2) (by rw [AV];exact Bg e2)]
  exact Ab _ e1
 have I2:Inv X pins σ (upd H h'.objs.size (.lst (zs.map V.int))) { s with heap:=sortedHeap (h'.push (seqObj "list" vs.toArray 0)) h'.objs.size vs ((arrOf st').map (·.2)),toks:=tk } :=
  I.laid old (Dq hlt) ⟨hzl,((arrOf st').map (·.2)).toList,e,dC h1,by rw [Array.toArray_toList];exact he⟩
 exact ⟨.ref h'.objs.size,_,I2.dr (d:=dr),rfl,q _ zs (I.hok.fresh (Dq hlt)) hp2 h3⟩
end
end L2
namespace L2
open PySem PySem.Spec PyProof.Rows
def Itk (d:Addr)(o:Obj)(kvs:List (Key × V)):It:=⟨fun i H=>i < kvs.length∧H d=some (.frz o (.dK kvs)),fun i H x H'=>H'=H∧∃ k v,kvs[i]? = some (k,v)∧x=kV k,fun i H=>i=kvs.length∧H d=some (.frz o (.dK kvs))⟩
theorem yw {P:Program}{w:World}{k:Key}{u:Value}(h:(bg P w).is k u=true):bC (kV k) u:=by
 rcases bf h with ⟨i,t,rfl,rfl⟩ | ⟨x,t,rfl,rfl⟩
 ·exact ⟨t,rfl⟩
 ·exact ⟨t,rfl⟩
theorem tD {P:Program}{w:World}{H:Hp}{h:Heap}{d:Addr}{o:Obj}{kvs:List (Key × V)}{es:Array DictEntry}{ep:Nat}(hok:HOk P w H h)(e:H d=some (.frz o (.dK kvs)))(he:o.data = .dict es ep) :
  ∃ vs,KV kvs vs∧h.DictAt (bg P w) d vs ep:=by
 obtain ⟨g,z,hd,vs,rel,o',es',ep',g',ex,dt,r⟩:=hok d _ e
 rw [g] at g'
 cases g'
 rw [he] at dt
 cases dt
 exact ⟨vs,rel,o,es,g,ex,he,r⟩
theorem iA {α β:Type}{R:α→β→Prop}:∀ {xs:List α} {ys:List β},Paired R xs ys→∀ {i:Nat} {x:α},xs[i]? = some x→∃ y,ys[i]? = some y∧R x y
 | _,_,.nil,i,x,h=>by simp at h
 | _,_,.cons r q,0,x,h=>by cases h;exact ⟨_,rfl,r⟩
 | _,_,.cons r q,i+1,x,h=>iA q (i:=i) (by simpa using h)
theorem pT {P:Program}{w:World}{K:PySem.W.Frag}{tg:Expr}{d it:Addr}{o:Obj}{es:Array DictEntry}{ep:Nat}{kvs:List (Key × V)}(he:o.data = .dict es ep):sM P w K tg (Itk d o kvs) [it] it (fun i h=>h.IsKeyIter it d i kvs.length ep) where
 mem:=by simp
 obj:=fun i h st b hb=>by
  have e:b=it:=by simpa using hb
  subst e
  obtain ⟨o,e,c,dd⟩:=st
  exact ⟨o,e,fun v z=>by rw [dd] at z;cases z⟩
 keep:=fun i h h' st kk=>st.at (kk it (by simp))
 item:=by
  intro X hP hw hK hc i pins s σ H E I hf st hg
  subst hP hw hK
  obtain ⟨hi,e⟩:=hg
  obtain ⟨f0,f1,f2,f3,f4,f5⟩:=hf it (by simp)
  obtain ⟨vs,rel,hm⟩:=tD I.hok e he
  have hl:=Paired.length rel
  obtain ⟨p,hp⟩:∃ p,kvs[i]? = some p:=⟨_,Ac hi⟩
  obtain ⟨p',hp',ek,rv⟩:=iA rel hp
  rw [hl] at st
  refine wpAny_pyNext_dict_item st hm (k:=p'.1) (v:=p'.2) hp' fun key h' hk st' hsb=>⟨_,rfl,?_⟩
  refine letGo_keyiter (s':={ s with heap:=h' }) st' ⟨kV p.1,H,?_,by rw [ek];exact yw hk,⟨rfl,p.1,p.2,hp,rfl⟩,by rw [hl];exact st',fun b hb=>(hf b hb).1⟩
  exact I.turned (t':=s.toks) (fun b o hb e=>by rw [hsb.2 b hb];exact e) f0 f1 f3 f4 f5
 done:=by
  intro X hP hw hK hc i pins s σ H E I hf st hg
  subst hP hw hK
  obtain ⟨hi,e⟩:=hg
  obtain ⟨f0,f1,f2,f3,f4,f5⟩:=hf it (by simp)
  obtain ⟨vs,rel,hm⟩:=tD I.hok e he
  have hl:=Paired.length rel
  rw [hl] at st
  refine wpAny_pyNext_dict_end (I.ok.hd hc) st hm (by rw [BS];omega) fun h' hx=>⟨rfl,?_⟩
  exact I.turned (t':=s.toks) (fun b o hb e=>hx b o hb e) f0 f1 f3 f4 f5
 self:=fun A i s Q E st h=>wpAny_pyIter_keyiter st h
section
variable {X:Cx} {tg:Expr}
inductive pU (R:It→Hp→Prop)(x:V)(H1:Hp):Prop
 | mk:∀ d kvs,(x = .ref d)→(H1 d=some (.dK kvs))→(∀ o,R (Itk d o kvs) (upd H1 d (.frz o (.dK kvs))))→pU R x H1
def yy (tl:TE):TI:=fun σ H R=>tl σ H (pU R)
theorem uN {l:Expr}{tl:TE}(hl:PE X l tl):PI X tg l (yy tl):=by
 intro pins s σ H R I h
 refine thn (hl pins s σ H _ I h) fun v s1 zq1=>?_
 obtain ⟨x,H1,I1,r1,d,kvs,rfl,e,q⟩:=zq1
 cases r1
 obtain ⟨z,hd,vs,rel,o,es,ep,g,ex,he,r⟩:=tW I1.hok e
 have I2:Inv X pins σ (upd H1 d (.frz o (.dK kvs))) s1:=iI (t':=s1.toks) I1 (by rw [e];exact True.intro) ⟨rfl,fun _ _=>rfl⟩ ⟨o,g⟩ ⟨g,z,hd,vs,rel,o,es,ep,g,ex,he,r⟩
 refine wpAny_pyIter_dict hd ⟨o,es,g,ex,he,r⟩ ?_
 refine ⟨s1.heap.objs.size,[s1.heap.objs.size],_,Itk d o kvs,_,rfl,I2.kept (t':=s1.toks) fun b o e=>Ab _ e,pT he,⟨_,Ak _ rfl,rfl,by rw [Paired.length rel];rfl⟩,fun b hb=>?_,q o⟩
 have e:b=s1.heap.objs.size:=by simpa using hb
 subst e
 exact I2.fpOk (Al _) (I2.hok.fresh (Al _))
end
theorem pV (val:Nat→Int):∀ n,argBest (fun i j=>decide (val i > val j)) n≤n∧∀ i,i≤n→val i≤val (argBest (fun i j=>decide (val i > val j)) n)
 | 0=>by
  unfold argBest
  exact ⟨Al _,fun i hi=>by rw [Nat.le_zero.mp hi];exact Int.le_refl _⟩
 | n+1=>by
  obtain ⟨h1,h2⟩:=pV val n
  unfold argBest
  split
  ·rename_i h
   have h:val (n+1) > val (argBest (fun i j=>decide (val i > val j)) n):=of_decide_eq_true h
   refine ⟨Al _,fun i hi=>?_⟩
   by_cases e:i=n+1
   ·rw [e];exact Int.le_refl _
   ·have:=h2 i (by omega);omega
  ·rename_i h
   have h:¬ val (n+1) > val (argBest (fun i j=>decide (val i > val j)) n):=fun g=>h (An g)
   refine ⟨by omega,fun i hi=>?_⟩
   by_cases e:i=n+1
   ·rw [e];omega
   ·exact h2 i (by omega)
section
variable {X:Cx}
inductive cv (K:PySem.W.Frag)(xs:List V)(H:Hp)(Q:VK):Prop
 | mk:∀ (l:Addr) (ns:List Int),(xs=[.ref l])→(SqL K H l (ns.map V.int))→(ns≠[])→(∀ m,m∈ns→(∀ n∈ns,n≤m)→Q (.int m) H)→cv K xs H Q
theorem i8 {K:PySem.W.Frag}(hK:X.K=K)(hc:X.calm=true):cx X (.builtin "max") (cv K):=by
 subst hK
 intro pins s σ H xs us Q I r h
 obtain ⟨l,ns,rfl,hq,hne,q⟩:=h
 obtain ⟨u,rfl,ru⟩:=cP r
 cases ru
 obtain ⟨its,rv,pl,_⟩:=I.list hq
 have hlen:its.length=ns.length:=by rw [← rv.length,Ag]
 have hnz:0 < ns.length:=A6.mpr hne
 have hat:∀ (i:Nat) (v:Value),its.toArray[i]? = some v→∃ t,v = .int (ns.getD i 0) t:=fun i v e=>by
  rw [BR] at e
  have hi:i < ns.length:=by
   have:=(Ah.mp e).1
   omega
  obtain ⟨u,eu,t,rfl⟩:=rv.get (i:=i) (x:=.int ns[i]) (by rw [Ap,Ac hi];rfl)
  rw [e] at eu
  cases eu
  exact ⟨t,by rw [AM,Ac hi];rfl⟩
 have hl:=pl.isList
 have hlt:l < s.heap.objs.size:=by obtain ⟨_,e,_⟩:=hl;exact Ay e
 refine call_max_walk (Cb hl ?_)
 refine ⟨_,_,_,_,_,_,fun a b=>decide (ns.getD a 0 > ns.getD b 0),rfl,D2 (A:=X.A.in1) (I.ok.hd hc) _ l (AK hlt) _,⟨⟨_,Ak _ rfl,rfl,rfl⟩,hl.push _⟩,fun b hb=>?_,?_,CmpOf.ints_gt (fun i=>ns.getD i 0) hat,fun v h' tk hP hk=>?_⟩
 ·show b < (s.heap.push _).objs.size
  rw [AV]
  rcases Aw.mp hb with e | hb
  ·rw [e];exact Ba _
  ·rw [Af.mp hb];exact Bg hlt
 ·rw [Bu];omega
 ·have old:∀ b o,s.heap.get? b=some o→h'.get? b=some o:=fun b o e=>hk b o (fun z=>by rw [Af.mp z] at e;exact absurd (Ay e) (CA _)) (Ab _ e)
  obtain ⟨t,rfl⟩:=hat _ v hP
  have sz:its.toArray.size - 1=ns.length - 1:=by rw [Bu,hlen]
  rw [sz]
  obtain ⟨b1,b2⟩:=pV (fun i=>ns.getD i 0) (ns.length - 1)
  have at_:∀ i,i < ns.length→ns.getD i 0∈ns:=fun i hi=>by
   rw [AM,Ac hi]
   exact AS hi
  refine ⟨.int _,H,I.kept old,⟨t,rfl⟩,q _ (at_ _ (by omega)) fun n hn=>?_⟩
  obtain ⟨i,hi,rfl⟩:=CH.mp hn
  have:=b2 i (by omega)
  rw [show ns.getD i 0=ns[i] by rw [AM,Ac hi];rfl] at this
  exact this
end
end L2
namespace Kx
open PySem PySem.Spec PyProof.Rows L2 Wd
theorem xw {R:List (List L)}(h:∀ r∈R,r≠[]∧r.length≤120):(trn R).length≤240*R.length:=by
 induction R with
 | nil=>exact Al _
 | cons r R ih =>
  have:=ih fun q hq=>h q (AC _ hq)
  have hr:=(h r Av).2
  unfold trn at this ⊢
  rw [List.flatMap_cons,Ad,Ad,bB,bB,bO,A2]
  omega
inductive i9 (vs:List V)(H:Hp)(Q:VK)(u3_:XK):Prop
 | mk:∀ (l p:Addr) (R Vs:List (List L)) (w:List L) (s:Stp),(vs=[.ref l,tx w,.ref p])→(H l=some (.lst (Vs.map tx)))→((∀ x,x∈Vs ↔ x∈trn R))→(w.length≤2000)→(H p=some (.tup s.vs))→(Sk s)→(∀ q H',H q=none→H' q=some (.lst (oL (qu R w s)))→aH H H'→Q (.ref q) H')→i9 vs H Q u3_
theorem zZ {u:TT}{σ:L2.St}{Q:Bool→Hp→Prop}{H:Hp}(h:Q true H):jf u σ Q true H:=vq h
theorem zR {u:TT}{σ:L2.St}{Q:Bool→Hp→Prop}{H:Hp}(h:u σ H Q):kg u σ Q true H:=vq h
theorem zT {u:TT}{σ:L2.St}{Q:Bool→Hp→Prop}{H:Hp}(h:Q false H):kg u σ Q false H:=mM h
theorem z9 {ta tb:TE}{σ:L2.St}{Q:VK}{H:Hp}(h:ta σ H Q):ny ta tb σ Q true H:=vq h
theorem z_ {ta tb:TE}{σ:L2.St}{Q:VK}{H:Hp}(h:tb σ H Q):ny ta tb σ Q false H:=mM h
end Kx
namespace L2
open PySem PySem.Spec PyProof.Rows
theorem rR:∀ bs:List Bool,((List.range bs.length).any fun i=>bs.getD i true)=bs.any id:=fun bs=>by
 rw [DW,C8,C8]
 constructor
 ·rintro ⟨i,hi,e⟩
  have hi:=Dw.mp hi
  rw [AM,Ac hi] at e
  exact ⟨_,AS hi,e⟩
 ·rintro ⟨b,hb,e⟩
  obtain ⟨i,hi,rfl⟩:=CH.mp hb
  exact ⟨i,Dw.mpr hi,by rw [AM,Ac hi];exact e⟩
section
variable {X:Cx}
inductive y_ (K:PySem.W.Frag)(xs:List V)(H:Hp)(Q:VK):Prop
 | mk:∀ (l:Addr) (bs:List Bool),(xs=[.ref l])→(SqL K H l (bs.map V.bl))→(Q (.bl (bs.any id)) H)→y_ K xs H Q
theorem gY (hc:X.calm=true):cx X (.builtin "any") (y_ X.K):=by
 intro pins s σ H xs us Q I r h
 obtain ⟨l,bs,rfl,hq,q⟩:=h
 obtain ⟨u,rfl,ru⟩:=cP r
 cases ru
 obtain ⟨its,rv,pl,_⟩:=I.list hq
 have hl:=pl.isList
 have hlen:its.length=bs.length:=by rw [← rv.length,Ag]
 have hlt:l < s.heap.objs.size:=by obtain ⟨_,e,_⟩:=hl;exact Ay e
 refine call_any_walk (Cb hl ?_)
 refine ⟨_,_,_,_,_,_,fun i=>bs.getD i true,rfl,D2 (A:=X.A.in1) (I.ok.hd hc) _ l (AK hlt) its.toArray,⟨⟨_,Ak _ rfl,rfl,rfl⟩,hl.push _⟩,?_,fun h' tk hk=>?_⟩
 ·intro i v s' Q' E' hP hQ'
  have hP:its[i]? = some v:=by simpa using hP
  obtain ⟨b,hb,e⟩:=iR rv hP
  subst e
  have:bs.getD i true=b:=by rw [AM,hb];rfl
  have hQ':Q' (bs.getD i true) s':=hQ'
  rw [this] at hQ'
  exact wpAny_truthy_bool hQ'
 ·have old:∀ b o,s.heap.get? b=some o→h'.get? b=some o:=fun b o e=>hk b o (fun z=>by rw [Af.mp z] at e;exact absurd (Ay e) (CA _)) (Ab _ e)
  refine ⟨.bl _,H,I.kept old,rfl,?_⟩
  have e:((List.range its.toArray.size).any fun i=>bs.getD i true)=bs.any id:=by
   rw [Bu,hlen]
   exact rR bs
  rw [e]
  exact q
theorem yz:bootBuiltins "any" = some (.builtin "any"):=by kernel_rfl
end
end L2
namespace Kx
open PySem PySem.Spec PyProof.Rows L2 Wd
def uO (Ks:List (List L))(w:List L)(j:Nat):Prop:=iU w j=false∧∀ h∈Ks,¬ (w.drop j).take h.length=h
theorem pW {w w':List L}{p i:Nat}(e:w.take p=w'.take p)(hi:i < p):w[i]? = w'[i]?:=by
 have h1:(w.take p)[i]? = w[i]?:=by rw [B8,if_pos hi]
 have h2:(w'.take p)[i]? = w'[i]?:=by rw [B8,if_pos hi]
 rw [← h1,e,h2]
theorem pX {Ks:List (List L)}{w w':List L}{j p n:Nat}(hn:∀ h∈Ks,h.length≤n)(h2:2≤n)(hp:j+n≤p)(e:w.take p=w'.take p)(hl:p≤w.length)(hl':p≤w'.length)(h:uO Ks w j):uO Ks w' j:=by
 refine ⟨?_,fun k hk=>?_⟩
 ·have q:=h.1
  unfold iU at q ⊢
  rw [← pW e (show j < p by omega),← pW e (show j+1 < p by omega)]
  rw [An (show j+1 < w.length by omega)] at q
  rw [An (show j+1 < w'.length by omega)]
  exact q
 ·have l:=hn k hk
  have c:∀ v:List L,p≤v.length→(v.drop j).take k.length=((v.take p).drop j).take k.length:=fun v hv=>by
   rw [List.drop_take,List.take_take,BJ (by omega)]
  rw [c w' hl',← e,← c w hl]
  exact h.2 k hk
theorem rS {w:List L}{p:Nat}(hp:p≤w.length)(s:Stp)(hs:s = .out p ∨ ∃ u m,s = .rng p u m):(chg w s).take p=w.take p:=by
 have l:(w.take p).length=p:=by rw [Aj];omega
 rcases hs with rfl | ⟨u,m,rfl⟩
 ·unfold chg
  rw [C9 (by omega),Aq (by omega)]
 ·show (w.take p++bk (u.drop m)++w.drop (p+m)).take p=w.take p
  rw [Am,C9 (by omega),Aq (by omega)]
theorem kO {h w:List L}(e:h <:+: w):∃ j,j+h.length≤w.length∧(w.drop j).take h.length=h:=by
 obtain ⟨a,b,rfl⟩:=e
 refine ⟨a.length,by simp only [Ad];omega,?_⟩
 rw [Am,List.drop_left' rfl,List.take_left' rfl]
theorem uP {Ks:List (List L)}{w:List L}(h:∀ j,j < w.length→uO Ks w j){k:List L}(hk:k∈Ks)(hne:k≠[]):¬ k <:+: w:=fun e=>by
 obtain ⟨j,h1,h2⟩:=kO e
 have:=A6.mpr hne
 exact (h j (by omega)).2 k hk h2
theorem mz:∀ {w:List L},(∀ j,iU w j=false)→Wd.Rd w
 | [],_=>BC
 | [x],_=>BC
 | x::y::r,h=>by
  have h0:=h 0
  unfold iU at h0
  have hxy:y≠inv x:=fun e=>by
   rw [e] at h0
   simp at h0
  have ih:Wd.Rd (y::r):=mz fun j=>by
   have:=h (j+1)
   unfold iU at this ⊢
   simpa using this
  exact ⟨hxy,ih⟩
inductive kP (vs:List V)(H:Hp)(Q:VK)(u3_:XK):Prop
 | mk:∀ (d a:Addr) (R:List (List L)) (n:Nat),(vs=[.ref d,.ref a,.int (n:Int)])→(Fd H d)→(H a=some (.tup (R.map tx)))→(Rgs R)→(1≤n)→(n≤10)→(∀ (u:List L) (H':Hp),u.length≤98*n+6→Fd H' d→bE d H H'→Q (tx u) H')→kP vs H Q u3_
def top (i:Nat):Stmt:=PySem.Challenge.pw_ringwords_k09_short_words_and_halves.main.body.getD i (.Pass ⟨0,0,0,0⟩)
theorem jZ {α:Type}{us:List α}(h:us.length=1):∃ a0,us=[a0]:=by
 cases us with
 | nil=>cases h
 | cons a0 us =>
  cases us with
  | nil=>exact ⟨a0,rfl⟩
  | cons b us=>cases h
theorem rT {α:Type}{us:List α}(h:us.length=2):∃ a0 a1,us=[a0,a1]:=by
 cases us with
 | nil=>cases h
 | cons a0 us =>
  cases us with
  | nil=>cases h
  | cons a1 us =>
   cases us with
   | nil=>exact ⟨a0,a1,rfl⟩
   | cons b us=>cases h
theorem vv {α:Type}{us:List α}(h:us.length=3):∃ a0 a1 a2,us=[a0,a1,a2]:=by
 cases us with
 | nil=>cases h
 | cons a0 us =>
  cases us with
  | nil=>cases h
  | cons a1 us =>
   cases us with
   | nil=>cases h
   | cons a2 us =>
    cases us with
    | nil=>exact ⟨a0,a1,a2,rfl⟩
    | cons b us=>cases h
theorem zU {α:Type}{us:List α}(h:us.length=4):∃ a0 a1 a2 a3,us=[a0,a1,a2,a3]:=by
 cases us with
 | nil=>cases h
 | cons a0 us =>
  cases us with
  | nil=>cases h
  | cons a1 us =>
   cases us with
   | nil=>cases h
   | cons a2 us =>
    cases us with
    | nil=>cases h
    | cons a3 us =>
     cases us with
     | nil=>exact ⟨a0,a1,a2,a3,rfl⟩
     | cons b us=>cases h
section
variable {P:Program} {w:World} {K:PySem.W.Frag} {mg:Str→Option Value} {base:Heap} {aB:Addr}
abbrev j0:Stmt:=top 22
theorem uQ:aP ["_law_feed_here","_law_many","_law_cell","_law_mixed","_law_found"] ["_law_feed_here","_law_many"] (aj j0):=⟨rfl,rfl,rfl,by decide +kernel,rfl,by decide +kernel,by decide +kernel⟩
theorem wH (D:Df K mg "_law_draw" j0)(T:Bt K w mg aB):Fnc P w K mg base "_law_draw" ["_law_feed_here","_law_many"] 1 d_:=by
 have sc:=uQ
 refine D.ok sc (fun _ _ _ _ _ _ us hl=>by obtain ⟨_,_,rfl⟩:=rT hl;rfl) (fun vs H Q E h=>?_) (fun f cdv A outer s H vs Q E hr h=>?_)
 ·obtain ⟨d,m,rfl,_⟩:=h
  rfl
 ·obtain ⟨d,m,rfl,F,m0,m1,k⟩:=h
  have hu:=qU hr
  refine ⟨_,(@ag _ _ _ _ _ (@gj _ _ _ _ _ _ _ _ _ hu (pv 0) aL (@ax _ _ _ _ _ _ _ _ aQ (@cE _ _ _ _ _ _ hu (pv 0) aL (fun _ _=>rfl)) ai) rfl) (@ag _ _ _ _ _ (@bw _ _ _ _ _ _ _ _ (@aC _ _ _ _ _ _ _ _ bD (@cE _ _ _ _ _ _ hu (pv 0) aL (fun _ _=>rfl)) ai (aF _)) (@ag _ _ _ _ _ (@ay _ _ (2) _ _ _ _ sc.nd rfl (Or.inl rfl) (@aW _ _ _ _ _ _ _ cD (@cE _ _ _ _ _ _ hu (pv 0) aL (fun _ _=>rfl)) (@ax _ _ _ _ _ _ _ _ hJ (@cE _ _ _ _ _ _ hu (pv 0) aL (fun _ _=>rfl)) (@aq _ _ _ _ _ _ _ _ _ bF (by rfl) T.len As (@aa _ _ _ _ _ (@cE _ _ _ _ _ _ hu (pv 0) aL (fun _ _=>rfl)) af (by rfl)) (by decide) (by decide) (by rfl) (by rfl))) (fun _ _=>rfl)) (by rfl) (by first | exact .inl rfl | exact .inr rfl | assumption)) (@ag _ _ _ _ _ (@gj _ _ _ _ _ _ _ _ _ hu (pv 0) aL (@ax _ _ _ _ _ _ _ _ aQ (@cE _ _ _ _ _ _ hu (pv 0) aL (fun _ _=>rfl)) ai) rfl) (@ag _ _ _ _ _ (@bw _ _ _ _ _ _ _ _ (@aC _ _ _ _ _ _ _ _ iD (pv 2) (@ax _ _ _ _ _ _ _ _ vH ai ai) (aF _)) (@ag _ _ _ _ _ (@ay _ _ (3) _ _ _ _ sc.nd rfl (Or.inl rfl) (@ax _ _ _ _ _ _ _ _ hJ (@ax _ _ _ _ _ _ _ _ fg (@ax _ _ _ _ _ _ _ _ aQ (@ax _ _ _ _ _ _ _ _ hJ (pv 2) ai) (@ax _ _ _ _ _ _ _ _ fg ai (@cE _ _ _ _ _ _ hu (pv 0) aL (fun _ _=>rfl)))) ai) ai) (by rfl) (by first | exact .inl rfl | exact .inr rfl | assumption)) (@ag _ _ _ _ _ (@ay _ _ (3) _ _ _ _ sc.nd rfl (Or.inl rfl) (@ax _ _ _ _ _ _ _ _ hJ (@ax _ _ _ _ _ _ _ _ fg (@ax _ _ _ _ _ _ _ _ aQ (@ax _ _ _ _ _ _ _ _ dh (pv 3) ai) (@ax _ _ _ _ _ _ _ _ fg ai (@cE _ _ _ _ _ _ hu (pv 0) aL (fun _ _=>rfl)))) ai) ai) (by rfl) (by first | exact .inl rfl | exact .inr rfl | assumption)) (@ak _ _ _ (@aN _ _ _ _ (@ax _ _ _ _ _ _ _ _ hJ (@ax _ _ _ _ _ _ _ _ dh (pv 3) ai) (pv 1)))))) aV) (@ak _ _ _ (@gj _ _ _ _ _ _ _ _ _ hu (pv 0) aL (pv 2) rfl))))) aV) (@ag _ _ _ _ _ (@ay _ _ (4) _ _ _ _ sc.nd rfl (Or.inl rfl) (@ax _ _ _ _ _ _ _ _ hJ (@cE _ _ _ _ _ _ hu (pv 0) aL (fun _ _=>rfl)) (pv 1)) (by rfl) (by first | exact .inl rfl | exact .inr rfl | assumption)) (@ag _ _ _ _ _ (@gj _ _ _ _ _ _ _ _ _ hu (pv 0) aL (@ax _ _ _ _ _ _ _ _ dh (@cE _ _ _ _ _ _ hu (pv 0) aL (fun _ _=>rfl)) (pv 1)) rfl) (@ak _ _ _ (@aN _ _ _ _ (pv 4))))))),?_⟩
  obtain ⟨c,i,l,t,ns,hd,hc,hne,h64⟩:=F.ex
  have dc:c≠d:=ni hc hd (by intro z;cases z)
  have fin:∀ (r i' l' t':Int),0≤r→r < m→Q (.int r) (upd H d (.dK (fkv c i' l' t'))):=fun r i' l' t' h0 h1 =>
   k r _ h0 h1 ⟨c,i',l',t',ns,ah,by rw [aD dc];exact hc,hne,h64⟩ bE.upd
  have c1:∀ o,(upd H d o) c=some (.lst (ns.map V.int)):=fun o=>by rw [aD dc];exact hc
  have hl0:(0:Int) < ((ns.map V.int).length:Int):=by
   rw [Ag]
   have:=A6.mpr hne
   omega
  refine ⟨_,rfl,d,_,rfl,dg hd (oE c i l t),_,_,rfl,rfl,_,rfl,d,_,rfl,dp hd (gv c i l t) (v8 c i l t _),?_⟩
  refine ⟨_,rfl,d,_,rfl,dg ah (jE c i l _),rfl,_,rfl,?_⟩
  refine kd (fun _=>?_) (fun _=>?_)
  rotate_left
  ·refine ⟨_,rfl,d,_,rfl,dg ah (jE c _ _ _),_,rfl,_,_,rfl,rfl,m0,?_⟩
   refine ⟨_,rfl,d,_,rfl,dg ah (jE c _ _ _),_,rfl,_,_,rfl,rfl,⟨m0,by omega⟩,_,rfl,d,_,rfl,dp ah (gv c _ _ _) (oF c _ _ _ _),?_⟩
   refine ⟨_,rfl,?_⟩
   rw [fT]
   exact fin _ _ _ _ (D0 _ (by omega)) (Dr _ m0)
  obtain ⟨n,hn⟩:=uo hne i
  refine ⟨_,rfl,d,_,rfl,dg ah (oD c i l _),_,rfl,d,_,rfl,dg ah (yZ c i l _),_,rfl,d,_,rfl,dg ah (oD c i l _),c,_,rfl,.inl (SqL.of (c1 _)),_,_,rfl,rfl,hl0,c,_,_,_,rfl,rfl,SqL.of (c1 _),hn,?_⟩
  refine ⟨_,rfl,d,_,rfl,dg ah (yZ c i l _),_,_,rfl,rfl,_,rfl,d,_,rfl,dp ah (gv c i l _) (zH c i l _ _),?_⟩
  rw [fT]
  refine ⟨_,rfl,_,_,rfl,rfl,⟨by decide,by decide,by decide⟩,_,_,rfl,rfl,_,rfl,?_⟩
  refine kd (fun _=>?_) (fun _=>?_)
  ·refine ⟨_,rfl,_,_,rfl,rfl,(by show (0:Int) < 2147483629;decide),_,rfl,d,_,rfl,dg ah (oE c _ l _),_,_,rfl,rfl,.inl ⟨by decide,by decide⟩,_,_,rfl,rfl,_,_,rfl,rfl,.inr ⟨by decide,by decide⟩,_,_,rfl,rfl,(by show (0:Int) < 2147483647;decide),?_⟩
   refine ⟨_,rfl,_,_,rfl,rfl,⟨by decide,by decide⟩,_,rfl,d,_,rfl,dg ah (oE c _ l _),_,_,rfl,rfl,.inl ⟨by decide,by decide⟩,_,_,rfl,rfl,_,_,rfl,rfl,.inr ⟨by decide,by decide⟩,_,_,rfl,rfl,(by show (0:Int) < 2147483587;decide),?_⟩
   refine ⟨_,rfl,_,_,rfl,rfl,⟨by decide,by decide⟩,_,rfl,_,_,rfl,rfl,m0,?_⟩
   exact fin _ _ _ _ (D0 _ (by omega)) (Dr _ m0)
  ·refine ⟨_,rfl,_,rfl,d,_,rfl,dp ah (gv c _ l _) (oF c _ l _ _),?_⟩
   rw [fT]
   refine ⟨_,rfl,d,_,rfl,dg ah (jE c _ _ _),_,rfl,_,_,rfl,rfl,m0,?_⟩
   refine ⟨_,rfl,d,_,rfl,dg ah (jE c _ _ _),_,rfl,_,_,rfl,rfl,⟨m0,by omega⟩,_,rfl,d,_,rfl,dp ah (gv c _ _ _) (oF c _ _ _ _),?_⟩
   refine ⟨_,rfl,?_⟩
   rw [fT]
   exact fin _ _ _ _ (D0 _ (by omega)) (Dr _ m0)
abbrev j3:Stmt:=top 21
theorem uR:aP ["_law_script"] ["_law_script"] (aj j3):=⟨rfl,rfl,rfl,by decide +kernel,rfl,by decide +kernel,by decide +kernel⟩
theorem wI (D:Df K mg "_law_feed" j3)(T:Bt K w mg aB):Fnc P w K mg base "_law_feed" ["_law_script"] 1 (oG K):=by
 have sc:=uR
 refine D.ok sc (fun _ _ _ _ _ _ us hl=>by obtain ⟨_,rfl⟩:=jZ hl;rfl) (fun vs H Q E h=>?_) (fun f cdv A outer s H vs Q E hr h=>?_)
 ·obtain ⟨a,ns,rfl,_⟩:=h
  rfl
 ·obtain ⟨a,ns,rfl,hS,hlen,k⟩:=h
  have hu:=qU hr
  refine ⟨_,(@ak _ _ _ (@aN _ _ _ _ (@t_ _ _ _ _ _ (@fK _ _ _ _ _ _ _ _ _ aL (@ax _ _ _ _ _ _ _ _ lF (@bA _ _ _ _ _ _ _ _ _ jt (by rfl) T.list v9 (@aa _ _ _ _ _ (@aw _ _ _ _ _ _ _ _ _ _ nP (pv 0) aG (@aA _ _ _ ai)) af (by rfl)) (by decide) (by decide) (by rfl) (by rfl)) (@ax _ _ _ _ _ _ _ _ vT (@bh _ _ _ _ (@aa _ _ _ _ _ ai af (by rfl))) (@bA _ _ _ _ _ _ _ _ _ jk (by rfl) T.int v_ (@aa _ _ _ _ _ (@bq _ _ _ _ _ _ _ _ bD (@aq _ _ _ _ _ _ _ _ _ bF (by rfl) T.len As (@aa _ _ _ _ _ (pv 0) af (by rfl)) (by decide) (by decide) (by rfl) (by rfl)) ai (aF _)) af (by rfl)) (by decide) (by decide) (by rfl) (by rfl)))) (@fK _ _ _ _ _ _ _ _ _ aL ai (@fK _ _ _ _ _ _ _ _ _ aL ai (@fK _ _ _ _ _ _ _ _ _ aL ai tZ)))) rfl rfl (by simp) (by decide)))),?_⟩
  intro p hp
  have s1:aH H (upd H p (.dK [])):=aH.new hp
  have p1:(upd H p (.dK [])) p=some (.dK []):=ah
  generalize upd H p (.dK [])=H1 at s1 p1
  refine ⟨_,rfl,_,rfl,a,_,rfl,s1.seq hS,fun q1 hq1=>?_⟩
  rw [yg hlen]
  have s2:aH H1 (upd H1 q1 (.lst (ns.map V.int))):=aH.new hq1
  have l2:(upd H1 q1 (.lst (ns.map V.int))) q1=some (.lst (ns.map V.int)):=ah
  generalize upd H1 q1 (.lst (ns.map V.int))=H2 at s2 l2 ⊢
  refine ⟨q1,_,rfl,.inl (SqL.of l2),fun q2 hq2=>?_⟩
  have s3:aH H2 (upd H2 q2 (.lst (ns.map V.int))):=aH.new hq2
  have l3:(upd H2 q2 (.lst (ns.map V.int))) q2=some (.lst (ns.map V.int)):=ah
  generalize upd H2 q2 (.lst (ns.map V.int))=H3 at s3 l3 ⊢
  refine ⟨(by show 1≤sizeLine;decide),fun q4 hq4=>?_⟩
  have s4:aH H3 (upd H3 q4 (.lst [V.int 0])):=aH.new hq4
  have l4:(upd H3 q4 (.lst [V.int 0])) q4=some (.lst [V.int 0]):=ah
  generalize upd H3 q4 (.lst [V.int 0])=H4 at s4 l4 ⊢
  have s14:aH H H4:=((s1.trans s2).trans s3).trans s4
  refine ⟨_,rfl,a,_,rfl,.inl (s14.seq hS),rfl,.inr ⟨_,rfl,q4,_,_,rfl,rfl,l4,?_,?_,?_,fun q5 hq5=>?_⟩⟩
  ·split <;> decide
  ·split <;> decide
  ·split <;> decide
  have s5:aH H4 (upd H4 q5 (.lst (List.replicate ((if decide (V.int ((ns.map V.int).length:Int)=V.int 0)=true then 1 else 0:Int)).toNat [V.int 0]).flatten)):=aH.new hq5
  have l5:(upd H4 q5 (.lst (List.replicate ((if decide (V.int ((ns.map V.int).length:Int)=V.int 0)=true then 1 else 0:Int)).toNat [V.int 0]).flatten)) q5=_:=ah
  generalize upd H4 q5 (.lst (List.replicate ((if decide (V.int ((ns.map V.int).length:Int)=V.int 0)=true then 1 else 0:Int)).toNat [V.int 0]).flatten)=H5 at s5 l5 ⊢
  refine ⟨q2,q5,_,_,rfl,rfl,s5 _ _ (s4 _ _ l3),l5,?_,fun q6 hq6=>?_⟩
  ·have e:(List.replicate ((if decide (V.int ((ns.map V.int).length:Int)=V.int 0)=true then 1 else 0:Int)).toNat [V.int 0]).flatten.length≤1:=by split <;> decide
   have e2:sizeLine=16777216:=Dg
   have e3:(ns.map V.int).length=ns.length:=Ag ..
   omega
  have el:ns.map V.int++(List.replicate ((if decide (V.int ((ns.map V.int).length:Int)=V.int 0)=true then 1 else 0:Int)).toNat [V.int 0]).flatten=(if ns=[] then [0] else ns).map V.int:=by
   cases ns with
   | nil=>rfl
   | cons n r =>
    have en:¬ (decide (V.int (((n::r).map V.int).length:Int)=V.int 0)=true):=by
     rw [Ag,A2]
     simp only [V.int.injEq,DH]
     omega
    rw [if_neg en,if_neg (by simp)]
    simp
  rw [el]
  have s6:aH H5 (upd H5 q6 (.lst ((if ns=[] then [0] else ns).map V.int))):=aH.new hq6
  have l6:(upd H5 q6 (.lst ((if ns=[] then [0] else ns).map V.int))) q6=_:=ah
  generalize upd H5 q6 (.lst ((if ns=[] then [0] else ns).map V.int))=H6 at s6 l6 ⊢
  have p6:H6 p=some (.dK []):=s6 _ _ (s5 _ _ (s4 _ _ (s3 _ _ (s2 _ _ p1))))
  have pq:q6≠p:=ni l6 p6 (by intro z;cases z)
  refine ⟨p6,fkv q6 0 0 0,rfl,(by show 4≤15;decide),?_⟩
  rw [x_]
  refine k p _ hp ⟨q6,0,0,0,(if ns=[] then [0] else ns),ah,by rw [aD pq];exact l6,?_,?_⟩ fun b o e=>?_
  ·split
   ·simp
   ·assumption
  ·split
   ·decide
   ·omega
  ·rw [aD (au e hp)]
   exact s6 _ _ (s5 _ _ (s14 _ _ e))
abbrev j4:Stmt:=top 2
theorem uS:aP ["word"] ["word"] (aj j4):=⟨rfl,rfl,rfl,by decide +kernel,rfl,by decide +kernel,by decide +kernel⟩
theorem wJ (D:Df K mg "back" j4)(T:Bt K w mg aB):Fnc P w K mg base "back" ["word"] 1 lQ:=by
 have sc:=uS
 refine D.ok sc (fun _ _ _ _ _ _ us hl=>by obtain ⟨_,rfl⟩:=jZ hl;rfl) (fun vs H Q E h=>?_) (fun f cdv A outer s H vs Q E hr h=>?_)
 ·obtain ⟨u,rfl,_⟩:=h
  rfl
 ·obtain ⟨u,rfl,hu,k⟩:=h
  have l16:=a_
  refine ⟨_,(@ak _ _ _ (@aN _ _ _ _ (@gi _ _ _ _ _ _ _ _ _ _ _ _ BZ PySem.F.slot_str_join PySem.F.type_str_join n_ aL (@aa _ _ _ _ _ (@cF _ _ _ _ _ _ _ (["letter"]) (["letter"]) ([]) _ _ _ _ (@cA _ _ _ _ _ _ rfl (by kernel_rfl)) rfl (@ud _ _ _ _ _ _ rfl T.reversed mN (@aa _ _ _ _ _ (pv 0) af (by rfl)) (by rfl)) (fun _ _ _ _=>@aT _ _ (0) _ (show (["letter"]:List Str).Nodup from by decide +kernel) rfl (Or.inl rfl) (by first | exact .inl rfl | exact .inr rfl | assumption)) (fun _ _ _ _=>bX) (fun _ _ _ _=>by (exact (@oi _ _ _ _ _ _ _ _ _ T.dB rfl rfl rfl T.mgB (pv 0) (fun _ _=>rfl) (by decide)))) (by intro _ ;rfl)) af (by rfl)) (by rfl) (by rfl) (by rfl) (by rfl) (by rfl)))),?_⟩
  refine ⟨rfl,_,rfl,_,rfl,(by rw [ae];omega),?_⟩
  refine ck (own:=["letter"]) (cap:=[]) (J:=xU (toS u)) u.length (fun i ys σ H'=>H'=H∧ys=rf ((bk u).take i)∧∃ v,σ = [v]) ⟨rfl,rfl,none,rfl⟩ (fun i ys σ H' hi ⟨_,e,_⟩=>?_) (by omega) (fun i ys σ H' hi _=>?_) (fun ys σ H' _=>?_) ?_ ?_
  ·rw [e,gw,Aj];omega
  ·show i < (toS u).cps.size;rw [cT];exact hi
  ·show _=(toS u).cps.size;rw [cT]
  ·rintro i ys σ H1 x H2 N hi ⟨rfl,rfl,v,rfl⟩ ⟨rfl,c,hc,rfl⟩ hN
   rw [cT] at hc
   obtain ⟨y,hy,e⟩:=iQ hc
   obtain ⟨t,ht⟩:=T.gB y
   refine ⟨_,rfl,toS [y],toS [inv y],t,by rw [e],ht,hN _ _ _ ⟨rfl,?_,_,rfl⟩⟩
   rw [jJ (wb u hi hy),← jF]
   rfl
  ·rintro ys σ H1 l ⟨rfl,rfl,v,rfl⟩ hl
   rw [Aq (by rw [bM];exact Al _)]
   refine ⟨_,l,(bk u).map fun x=>toS [x],rfl,rfl,SqL.of (by rw [ah,lP]),jH _ (by rw [bM];omega),?_⟩
   rw [jG]
   exact k _ (aH.new hl)
end
inductive uT:List L→List L→List L × List L→Prop where
 | stop (f m:List L):(∀ x mid,m≠x::(mid++[inv x]))→uT f m (f,m)
 | step (f:List L) (x:L) (mid:List L) (r:List L × List L):uT (f++[x]) mid r→uT f (x::(mid++[inv x])) r
theorem dN {x:L}{mid:List L}:(x::(mid++[inv x]):List L).length=mid.length+2:=by simp
theorem pY (x z:L)(mid:List L):cutL (x::(mid++[z])) (some 1) (some (((x::(mid++[z]):List L).length:Int) - 1))=mid:=by
 unfold cutL
 have e1:HT.sIx (x::(mid++[z])).length 0 (some 1)=1:=by
  have q:=HT.cQ (x::(mid++[z])).length 0 1
  rw [show ((1:Nat):Int)=1 from rfl] at q
  rw [q]
  simp
 have e2:HT.sIx (x::(mid++[z])).length (x::(mid++[z])).length (some (((x::(mid++[z]):List L).length:Int) - 1))=mid.length+1:=by
  have:(((x::(mid++[z]):List L).length:Int) - 1)=((mid.length+1:Nat):Int):=by
   have:(x::(mid++[z]):List L).length=mid.length+2:=by simp
   omega
  rw [this,HT.cQ]
  simp
 rw [e1,e2]
 simp
theorem kQ (w:List L):(de w).length=max 1 w.length:=by simp [de]
def txs (ws:List (List L)):List V:=ws.map tx
inductive kR (vs:List V)(H:Hp)(Q:VK)(u3_:XK):Prop
 | mk:∀ w,(vs=[tx w])→(w.length≤200)→(∀ (l:Addr) (H':Hp),H l=none→H' l=some (.lst (txs (de w)))→aH H H'→Q (.ref l) H')→kR vs H Q u3_
section
variable {P:Program} {w:World} {K:PySem.W.Frag} {mg:Str→Option Value} {base:Heap} {aB:Addr}
abbrev gJ:Stmt:=top 5
theorem rU:aP ["word"] ["word"] (aj gJ):=⟨rfl,rfl,rfl,by decide +kernel,rfl,by decide +kernel,by decide +kernel⟩
theorem uV (D:Df K mg "turns" gJ)(T:Bt K w mg aB):Fnc P w K mg base "turns" ["word"] 1 kR:=by
 have sc:=rU
 refine D.ok sc (fun _ _ _ _ _ _ us hl=>by obtain ⟨_,rfl⟩:=jZ hl;rfl) (fun vs H Q E h=>?_) (fun f cdv A outer s H vs Q E hr h=>?_)
 ·obtain ⟨u,rfl,_⟩:=h
  rfl
 ·obtain ⟨u,rfl,hu,k⟩:=h
  have l16:=a_
  refine ⟨_,(@ag _ _ _ _ _ (@bw _ _ _ _ _ _ _ _ (@aC _ _ _ _ _ _ _ _ bD (pv 0) aL (aF _)) (@ak _ _ _ (@aN _ _ _ _ (@bh _ _ _ _ (@aa _ _ _ _ _ aL af (by rfl))))) aV) (@ak _ _ _ (@aN _ _ _ _ (@cF _ _ _ _ _ _ _ (["place","word"]) (["place"]) ([0]) _ _ _ _ (@cA _ _ _ _ _ _ rfl (by kernel_rfl)) rfl (@bz _ _ _ _ _ _ rfl T.range (@aa _ _ _ _ _ (@aq _ _ _ _ _ _ _ _ _ av (by rfl) T.len As (@aa _ _ _ _ _ (pv 0) af (by rfl)) (by decide) (by decide) (by rfl) (by rfl)) af (by rfl)) (by rfl)) (fun _ _ _ _=>@aT _ _ (0) _ (show (["place","word"]:List Str).Nodup from by decide +kernel) rfl (Or.inl rfl) (by first | exact .inl rfl | exact .inr rfl | assumption)) (fun _ _ _ _=>bX) (fun _ _ _ _=>by (exact @ax _ _ _ _ _ _ _ _ az (by (exact (@aw _ _ _ _ _ _ _ _ _ _ aR (pv 1) (@aA _ _ _ (pv 0)) aG))) (by (exact (@aw _ _ _ _ _ _ _ _ _ _ aR (pv 1) aG (@aA _ _ _ (pv 0))))))) (by intro _ ;rfl))))),?_⟩
  by_cases h0:u=[]
  ·subst h0
   refine ⟨_,rfl,rfl,_,rfl,cM (by rw [fj];simp) ?_⟩
   refine ⟨(by show 1≤sizeLine;decide),fun l hl=>k l _ hl ?_ (aH.new hl)⟩
   rw [ah,← fj]
   rfl
  ·have ne:¬ tx u=V.str ("":Str):=by
    rw [← fj]
    exact fun e=>h0 (ie e)
   have hu1:1≤u.length:=A6.mpr h0
   refine ⟨_,rfl,rfl,_,rfl,bZ (by simpa using ne) ?_⟩
   refine ⟨_,rfl,_,rfl,(by rw [ae];omega),_,rfl,(by rw [ae];omega),(by rw [ae];omega),?_⟩
   rw [ae]
   refine ck (own:=["place"]) (cap:=[0]) (J:=Itr 0 ((u.length:Int)).toNat) u.length (fun i ys σ H'=>∃ v:Option V,σ = [v,some (tx u)]∧ys=txs ((de u).take i)∧H'=H) ⟨none,rfl,rfl,rfl⟩
    (fun i ys σ H' hi ⟨v,_,e,_⟩=>?_) (by omega) (fun i ys σ H' hi _=>?_) (fun ys σ H' _=>?_) ?_ ?_
   ·rw [e];unfold txs;rw [Ag,Aj];omega
   ·show i < _;omega
   ·show _≤_;omega
   ·rintro i ys σ H1 x H2 N hi ⟨v,rfl,rfl,rfl⟩ ⟨rfl,rfl⟩ hN
    refine ⟨_,rfl,_,rfl,_,rfl,_,rfl,(by rw [ae];omega),_,rfl,_,rfl,_,rfl,_,rfl,(by rw [ae];omega),_,_,rfl,rfl,?_,hN _ _ _ ⟨_,rfl,?_,rfl⟩⟩
    ·rw [ao,ao,ae,ae]
     have h1:=bQ u (some (0+(i:Int))) none
     have h2:=bQ u none (some (0+(i:Int)))
     omega
    ·rw [ao,ao,ba u (by omega),bj u (by omega),aX]
     have e1:((0:Int)+(i:Int)).toNat=i:=by omega
     have e2:(de u)[i]? = some (u.drop i++u.take i):=by
      unfold de
      rw [Ap,Dl (by omega)]
      rfl
     rw [e1]
     unfold txs
     rw [AI,e2,AH]
     rfl
   ·rintro ys σ H1 l ⟨v,rfl,rfl,rfl⟩ hl
    rw [Aq (by rw [kQ];omega)]
    exact k l _ hl ah (aH.new hl)
abbrev pZ:Stmt:=top 7
theorem wK:aP ["rings","found","ring"] ["rings"] (aj pZ):=⟨rfl,rfl,rfl,by decide +kernel,rfl,by decide +kernel,by decide +kernel⟩
theorem yA (D:Df K mg "turns_of" pZ)(T:Bt K w mg aB)(Tset:mg "set" = none)(F_back:Fnc P w K mg base "back" ["word"] 1 lQ)(F_turns:Fnc P w K mg base "turns" ["word"] 1 kR):Fnc P w K mg base "turns_of" ["rings"] 2 eK:=by
 have sc:=wK
 refine D.ok sc (fun _ _ _ _ _ _ us hl=>by obtain ⟨_,rfl⟩:=jZ hl;rfl) (fun vs H Q E h=>?_) (fun f cdv A outer s H vs Q E hr h=>?_)
 ·obtain ⟨a,R,rfl,_⟩:=h
  rfl
 ·obtain ⟨a,R,rfl,ha,hR,k⟩:=h
  have l16:=a_
  refine ⟨_,(@ag _ _ _ _ _ (@ay _ _ (1) _ _ _ _ sc.nd rfl (Or.inl rfl) (@bh _ _ _ _ af) (by rfl) (by first | exact .inl rfl | exact .inr rfl | assumption)) (@ag _ _ _ _ _ (@bJ _ _ _ _ _ _ _ _ AQ rfl (@lj _ _ _ _ (pv 0)) (@aT _ _ (2) _ sc.nd rfl (Or.inl rfl) (by first | exact .inl rfl | exact .inr rfl | assumption)) (@ag _ _ _ _ _ (@cN _ _ _ _ (@gi _ _ _ _ _ _ _ _ _ _ _ _ Bc DI DJ jv (pv 1) (@aa _ _ _ _ _ (@aE _ _ _ _ _ _ _ _ _ _ _ F_turns hr (by decide) rfl (@aa _ _ _ _ _ (pv 2) af (by rfl)) (by decide) (by rfl) (by rfl)) af (by rfl)) (by rfl) (by rfl) (by rfl) (by rfl) (by rfl)) (by rfl)) (@ak _ _ _ (@cN _ _ _ _ (@gi _ _ _ _ _ _ _ _ _ _ _ _ Bc DI DJ jv (pv 1) (@aa _ _ _ _ _ (@aE _ _ _ _ _ _ _ _ _ _ _ F_turns hr (by decide) rfl (@aa _ _ _ _ _ (@aE _ _ _ _ _ _ _ _ _ _ _ F_back hr (by decide) rfl (@aa _ _ _ _ _ (pv 2) af (by rfl)) (by decide) (by rfl) (by rfl)) af (by rfl)) (by decide) (by rfl) (by rfl)) af (by rfl)) (by rfl) (by rfl) (by rfl) (by rfl) (by rfl)) (by rfl)))) (by intro _ ;rfl)) (@ak _ _ _ (@aN _ _ _ _ (@aq _ _ _ _ _ _ _ _ _ (@dz _ rfl) (by rfl) T.sorted ef (@aa _ _ _ _ _ (@bA _ _ _ _ _ _ _ _ _ (@dW _ rfl) (by rfl) Tset uI (@aa _ _ _ _ _ (pv 1) af (by rfl)) (by decide) (by decide) (by rfl) (by rfl)) af (by rfl)) (by decide) (by decide) (by rfl) (by rfl)))))),?_⟩
  refine ⟨(aK (n:=0) (by decide)),fun l hl=>?_⟩
  have s0:aH H (upd H l (.lst [])):=aH.new hl
  have f0:(upd H l (.lst [])) l=some (.lst []):=ah
  generalize upd H l (.lst [])=H0 at s0 f0 ⊢
  refine ⟨_,rfl,a,rfl,⟨_,SqT.of (s0 _ _ ha)⟩,?_⟩
  refine eS (xs:=R.map tx) (fun i σ H'=>∃ b:Option V,σ = [some (.ref a),some (.ref l),b]∧H' l=some (.lst ((trn (R.take i)).map tx))∧aH H H') ⟨none,rfl,f0,s0⟩ (fun i σ H' _ ⟨_,_,_,q⟩=>SqT.of (q _ _ ha)) ?_ ?_
  ·rintro i x σ H1 hx ⟨b,rfl,f1,s1⟩
   rw [Ap] at hx
   cases hr:R[i]? with
   | none=>rw [hr] at hx;cases hx
   | some r =>
    rw [hr] at hx
    cases hx
    have hm:=hR.word r (AG hr)
    have hi:=(Ah.mp hr).1
    have hR7:=hR.many
    have lt:=gG (R:=R.take i) fun q hq=>hR.word q (BM hq)
    rw [Aj] at lt
    have lr:=bB r
    have lb:=bB (bk r)
    rw [bO] at lb
    have hl1:(trn (R.take i)).length≤1260:=by omega
    refine ⟨_,rfl,.inl ⟨rfl,_,SqL.of f1⟩,_,rfl,r,rfl,by omega,fun l2 H2 hl2 f2 s2=>?_⟩
    refine ⟨l,l2,_,_,rfl,rfl,s2 _ _ f1,f2,(by unfold txs;rw [Ag,Ag];omega),?_⟩
    have nl:l≠l2:=au f1 hl2
    have f3:(upd H2 l (.lst ((trn (R.take i)).map tx++txs (de r)))) l=some (.lst ((trn (R.take i)++de r).map tx)):=by rw [ah,AH];rfl
    have s3:aH H (upd H2 l (.lst ((trn (R.take i)).map tx++txs (de r)))):=fun b o e=>by
     rw [aD (au e hl)]
     exact s2 _ _ (s1 _ _ e)
    generalize upd H2 l (.lst ((trn (R.take i)).map tx++txs (de r)))=H3 at f3 s3 ⊢
    refine ⟨_,rfl,.inl ⟨rfl,_,SqL.of f3⟩,_,rfl,r,rfl,by omega,fun H4 s4=>?_⟩
    refine ⟨bk r,rfl,by rw [bO];omega,fun l5 H5 hl5 f5 s5=>?_⟩
    have f34:=s5 _ _ (s4 _ _ f3)
    refine ⟨l,l5,_,_,rfl,rfl,f34,f5,(by unfold txs;rw [Ag,Ag,Ad];omega),?_⟩
    refine ⟨_,rfl,?_,fun b o e=>?_⟩
    ·rw [ah]
     have et:R.take (i+1)=R.take i++[r]:=by rw [AI,hr];rfl
     rw [et,i3,← Am]
     unfold txs
     simp only [AH]
    ·rw [aD (au e hl)]
     exact s5 _ _ (s4 _ _ (s3 _ _ e))
  ·rintro σ H1 ⟨b,rfl,f1,s1⟩
   rw [Aq (by simp)] at f1
   have lt:=gG hR.word
   have hR7:=hR.many
   have ee:(trn R).map tx=((trn R).map toS).map V.str:=by rw [BD];rfl
   rw [ee] at f1
   refine ⟨_,rfl,l,(trn R).map toS,rfl,SqL.of f1,by rw [Ag];omega,fun p dl hp nd mem=>?_⟩
   refine ⟨p,dl,rfl,ah,nd,fun l2 zs hl2 pm so=>?_⟩
   obtain ⟨V,rfl,oV,mV⟩:=jW (W:=trn R) (pm.nodup_iff.mpr nd) so fun z=>(pm.mem_iff).trans (mem z)
   have s2:aH H (upd (upd H1 p (StO P w p dl)) l2 (.lst ((V.map toS).map L2.V.str))):=(s1.then hp).then hl2
   refine k l2 V _ (((s1.then hp)).free hl2) oV mV ?_ s2
   rw [ah,BD]
   rfl
abbrev p9:Stmt:=top 8
theorem wL:aP ["one","other","place","pair"] ["one","other"] (aj p9):=⟨rfl,rfl,rfl,by decide +kernel,rfl,by decide +kernel,by decide +kernel⟩
theorem yB (D:Df K mg "beginning" p9)(T:Bt K w mg aB)(Te:mg "enumerate" = none):Fnc P w K mg base "beginning" ["one","other"] 1 fc:=by
 have sc:=wL
 refine D.ok sc (fun _ _ _ _ _ _ us hl=>by obtain ⟨_,_,rfl⟩:=rT hl;rfl) (fun vs H Q E h=>?_) (fun f cdv A outer s H vs Q E hr h=>?_)
 ·obtain ⟨u,v,rfl,_⟩:=h
  rfl
 ·obtain ⟨u,v,rfl,hu,hv,k⟩:=h
  have l16:=a_
  refine ⟨_,(@ag _ _ _ _ _ (@bJ _ _ _ _ _ _ _ _ AQ rfl (@wC _ _ _ _ _ _ _ _ _ _ _ rfl Te wF rfl T.zip wa (@aa _ _ _ _ _ (pv 0) (@aa _ _ _ _ _ (pv 1) af (by rfl)) (by rfl)) (by rfl) (by rfl) (by rfl)) (@sJ _ _ _ _ _ _ rfl (@fG _ _ _ _ _ (@aT _ _ (2) _ sc.nd rfl (Or.inl rfl) (by first | exact .inl rfl | exact .inr rfl | assumption)) (@fG _ _ _ _ _ (@aT _ _ (3) _ sc.nd rfl (Or.inl rfl) (by first | exact .inl rfl | exact .inr rfl | assumption)) nz (by rfl)) (by rfl)) (by rfl) (by rfl)) (@ak _ _ _ (@bw _ _ _ _ _ _ _ _ (@aC _ _ _ _ _ _ _ _ fX (@aW _ _ _ _ _ _ _ bb (pv 3) ai (fun _ _=>rfl)) (@aW _ _ _ _ _ _ _ bb (pv 3) ai (fun _ _=>rfl)) (aF _)) (@ak _ _ _ (@aN _ _ _ _ (@aw _ _ _ _ _ _ _ _ _ _ aR (pv 0) aG (@aA _ _ _ (pv 2))))) aV)) (by intro _ ;rfl)) (@ak _ _ _ (@aN _ _ _ _ (@aw _ _ _ _ _ _ _ _ _ _ aR (pv 0) aG (@aA _ _ _ (@aq _ _ _ _ _ _ _ _ _ av (by rfl) T.len As (@aa _ _ _ _ _ (pv 1) af (by rfl)) (by decide) (by decide) (by rfl) (by rfl))))))),?_⟩
  have su:(toS u).cps.size=u.length:=ae u
  have sv:(toS v).cps.size=v.length:=ae v
  refine ⟨_,rfl,_,rfl,_,_,rfl,asc u,asc v,?_⟩
  refine uH (fun i σ H'=>∃ b1 b2:Option V,σ = [some (tx u),some (tx v),b1,b2]∧aH H H'∧u.take i=v.take i) ⟨none,none,rfl,aH.refl _,rfl⟩ ?_ ?_
  ·rintro i c d σ H1 T1 U1 hc hd ⟨b1,b2,rfl,s1,e⟩ hT hU nUT
   have at_:∀ (q:List L) (c:Nat),(toS q).cps[i]? = some c→∃ x,q[i]? = some x∧c=cp x:=fun q c h=>by
    have e1:(toS q).cps[i]? = (q[i]?).map cp:=by unfold toS;simp
    rw [e1] at h
    cases hq:q[i]? with
    | none=>rw [hq] at h;cases h
    | some x=>rw [hq] at h;cases h;exact ⟨x,rfl,rfl⟩
   obtain ⟨x,hx,rfl⟩:=at_ u c hc
   obtain ⟨y,hy,rfl⟩:=at_ v d hd
   refine ⟨T1,_,rfl,SqT.of ah,rfl,_,_,rfl,_,_,rfl,rfl,?_⟩
   have s2:aH H (upd (upd H1 U1 (.tup [tx [x],tx [y]])) T1 (.tup [.int (i:Int),.ref U1])):=fun b o e=>by
    have e:=s1 _ _ e
    rw [aD (au e hT),aD (au e hU)]
    exact e
   have hp:(upd (upd H1 U1 (.tup [tx [x],tx [y]])) T1 (.tup [.int (i:Int),.ref U1])) U1=some (.tup [tx [x],tx [y]]):=by rw [aD nUT,ah]
   refine ⟨_,rfl,U1,[tx [x],tx [y]],0,_,rfl,rfl,SqT.of hp,rfl,_,rfl,U1,[tx [x],tx [y]],1,_,rfl,rfl,SqT.of hp,rfl,rfl,_,rfl,?_⟩
   show if (!decide (tx [x]=tx [y]))=true then _ else _
   rw [ox]
   by_cases h:x=y
   ·subst h
    rw [if_neg (by simp)]
    refine ⟨_,_,rfl,s2,?_⟩
    rw [AI,AI,e,hx,hy]
   ·rw [if_pos (by simp [h])]
    refine ⟨_,rfl,_,rfl,_,rfl,_,rfl,(by rw [ae];omega),?_⟩
    rw [ao,bj _ (by omega),Az,← lW e hx hy h]
    exact k _ s2
  ·rintro σ H1 ⟨b1,b2,rfl,s1,e⟩
   rw [su,sv] at e
   refine ⟨_,rfl,_,rfl,_,rfl,(by rw [ae];omega),?_⟩
   rw [ae]
   refine ⟨_,rfl,_,rfl,(by rw [ae];omega),?_⟩
   rw [ao,bj _ (by omega),Az,← oS e]
   exact k _ s1
abbrev gK:Stmt:=top 3
theorem rV:aP ["word"] ["word"] (aj gK):=⟨rfl,rfl,rfl,by decide +kernel,rfl,by decide +kernel,by decide +kernel⟩
theorem uW (D:Df K mg "is_reduced" gK)(T:Bt K w mg aB):Fnc P w K mg base "is_reduced" ["word"] 1 kz:=by
 have sc:=rV
 refine D.ok sc (fun _ _ _ _ _ _ us hl=>by obtain ⟨_,rfl⟩:=jZ hl;rfl) (fun vs H Q E h=>?_) (fun f cdv A outer s H vs Q E hr h=>?_)
 ·obtain ⟨u,rfl,_⟩:=h
  rfl
 ·obtain ⟨u,rfl,hu,k⟩:=h
  have l16:=a_
  refine ⟨_,(@ak _ _ _ (@aN _ _ _ _ (@aq _ _ _ _ _ _ _ _ _ (@gW _ rfl) (by rfl) T.all yf (@aa _ _ _ _ _ (@cF _ _ _ _ _ _ _ (["letter","behind"]) (["letter","behind"]) ([]) _ _ _ _ (@cA _ _ _ _ _ _ rfl (by kernel_rfl)) rfl (@we _ _ _ _ _ _ _ _ _ rfl T.zip wa (@aa _ _ _ _ _ (pv 0) (@aa _ _ _ _ _ (@aw _ _ _ _ _ _ _ _ _ _ aR (pv 0) (@aA _ _ _ ai) aG) af (by rfl)) (by rfl)) (by rfl) (by rfl)) (fun _ _ _ _=>@ur _ (K) _ _ _ (2) _ rfl rfl (@fG _ _ _ _ _ (@aT _ _ (0) _ (show (["letter","behind"]:List Str).Nodup from by decide +kernel) rfl (Or.inl rfl) (by first | exact .inl rfl | exact .inr rfl | assumption)) (@fG _ _ _ _ _ (@aT _ _ (1) _ (show (["letter","behind"]:List Str).Nodup from by decide +kernel) rfl (Or.inl rfl) (by first | exact .inl rfl | exact .inr rfl | assumption)) nz (by rfl)) (by rfl)) (by rfl) (by rfl)) (fun _ _ _ _=>bX) (fun _ _ _ _=>by (exact @bq _ _ _ _ _ _ _ _ fX (by (exact (@oi _ _ _ _ _ _ _ _ _ T.dB rfl rfl rfl T.mgB (pv 0) (fun _ _=>rfl) (by decide)))) (by (exact (pv 1))) (aF _))) (by intro _ ;rfl)) af (by rfl)) (by decide) (by decide) (by rfl) (by rfl)))),?_⟩
  refine ⟨_,rfl,_,rfl,_,rfl,_,rfl,(by rw [ae];omega),_,_,rfl,asc _,?_,?_⟩
  ·rw [ao];exact asc _
  rw [ao,ba _ (by decide)]
  have hm:min (toS u).cps.size (toS (u.drop 1)).cps.size=u.length - 1:=by rw [cT,cT,AA];omega
  refine ck (own:=["letter","behind"]) (cap:=[]) (J:=Itz (toS u) (toS (u.drop 1))) (u.length - 1) (fun i ys σ H'=>∃ v1 v2:Option V,σ = [v1,v2]∧ys=((chk u).take i).map V.bl∧aH H H') ⟨none,none,rfl,rfl,aH.refl _⟩ (fun i ys σ H' hi ⟨_,_,_,e,_⟩=>?_) (by omega) (fun i ys σ H' hi _=>?_) (fun ys σ H' _=>?_) ?_ ?_
  ·rw [e,Ag,Aj];omega
  ·show i < min _ _;rw [hm];exact hi
  ·show _=min _ _;rw [hm]
  ·rintro i ys σ H1 v H2 N hi ⟨v1,v2,rfl,rfl,s1⟩ ⟨t,c,d,hn,rfl,hc,hd,rfl⟩ hN
   obtain ⟨x,hx,e⟩:=iQ hc
   obtain ⟨y,hy,e2⟩:=iQ hd
   obtain ⟨tk,hb⟩:=T.gB x
   refine ⟨t,_,rfl,SqT.of ah,rfl,_,_,rfl,_,_,rfl,rfl,?_⟩
   refine ⟨_,rfl,toS [x],toS [inv x],tk,by rw [e],hb,_,rfl,rfl,hN _ _ _ ⟨_,_,rfl,?_,s1.then hn⟩⟩
   rw [AI,oO hx hy,AH,e2]
   rfl
  ·rintro ys σ H1 l ⟨v1,v2,rfl,rfl,s1⟩ hl
   refine ⟨l,_,rfl,SqL.of ah,?_⟩
   rw [Aq (by rw [ij];exact Al _),uu]
   exact k _ (s1.then hl)
abbrev gL:Stmt:=top 23
theorem rW:aP ["_law_word","_law_found","_law_sign"] ["_law_word"] (aj gL):=⟨rfl,rfl,rfl,by decide +kernel,rfl,by decide +kernel,by decide +kernel⟩
theorem uX (D:Df K mg "_law_back" gL):Fnc P w K mg base "_law_back" ["_law_word"] 1 lQ:=by
 have sc:=rW
 refine D.ok sc (fun _ _ _ _ _ _ us hl=>by obtain ⟨_,rfl⟩:=jZ hl;rfl) (fun vs H Q E h=>?_) (fun f cdv A outer s H vs Q E hr h=>?_)
 ·obtain ⟨u,rfl,_⟩:=h
  rfl
 ·obtain ⟨u,rfl,hu,k⟩:=h
  have l16:=a_
  refine ⟨_,(@ag _ _ _ _ _ (@ay _ _ (1) _ _ _ _ sc.nd rfl (Or.inl rfl) aL (by rfl) (by first | exact .inl rfl | exact .inr rfl | assumption)) (@ag _ _ _ _ _ (@bJ _ _ _ _ _ _ _ _ AQ rfl (@sU _ _ _ _ (pv 0)) (@aT _ _ (2) _ sc.nd rfl (Or.inl rfl) (by first | exact .inl rfl | exact .inr rfl | assumption)) (@ak _ _ _ (@ay _ _ (1) _ _ _ _ sc.nd rfl (Or.inl rfl) (@ax _ _ _ _ _ _ _ _ az (@bI _ _ _ _ _ _ _ _ (@aC _ _ _ _ _ _ _ _ fZ (pv 2) aL rfl) (@nQ _ _ _ _ _ _ _ _ _ BZ DU DV lM (pv 2) (by rfl) (by rfl)) (@nQ _ _ _ _ _ _ _ _ _ BZ PySem.F.slot_str_lower PySem.F.type_str_lower qV (pv 2) (by rfl) (by rfl))) (pv 1)) (by rfl) (by first | exact .inl rfl | exact .inr rfl | assumption))) (by intro _ ;rfl)) (@ak _ _ _ (@aN _ _ _ _ (pv 1))))),?_⟩
  refine ⟨_,rfl,_,rfl,uc (z:=toS u) (fun i σ H'=>∃ v,σ = [some (tx u),some (tx (bk (u.take i))),v]∧H'=H) ⟨none,(by rw [List.take_zero];show _=[some (tx u),some (tx []),none];rw [fj];rfl),rfl⟩ ?_ ?_⟩
  ·rintro i c σ H1 hc ⟨v,rfl,rfl⟩
   obtain ⟨x,hx,e⟩:=iQ hc
   rw [e]
   have hi:i < u.length:=(Ah.mp hx).1
   have fin:∀ z,z=toS [inv x]→∃ v',[some (tx u),some (V.str (z++toS (bk (u.take i)))),some (V.str (toS [x]))]=[some (tx u),some (tx (bk (u.take (i+1)))),v']∧H1=H1:=fun z ez=>by
    refine ⟨some (V.str (toS [x])),?_,rfl⟩
    rw [ez,aX,jJ hx,oj]
    rfl
   have room:∀ z,z=toS [inv x]→z.length+(toS (bk (u.take i))).length≤sizeLine:=fun z ez=>by
    rw [ez,ae,ae,bM,Aj]
    simp only [A4]
    omega
   refine ⟨_,rfl,_,_,rfl,rfl,_,rfl,?_⟩
   rw [q_]
   refine kd (fun h=>?_) (fun h=>?_)
   ·have h:x.val < 6:=by simpa using h
    exact ⟨_,rfl,rfl,_,rfl,rfl,(by rw [ae];show 1≤5592405;decide),_,rfl,_,_,rfl,rfl,room _ (gu h),fin _ (gu h)⟩
   ·have h:¬ x.val < 6:=by simpa using h
    exact ⟨_,rfl,rfl,_,rfl,rfl,(by rw [ae];show 1≤5592405;decide),_,rfl,_,_,rfl,rfl,room _ (jC h),fin _ (jC h)⟩
  ·rintro σ H1 ⟨v,rfl,rfl⟩
   rw [cT,BB]
   exact ⟨_,rfl,k _ (aH.refl _)⟩
abbrev j5:Stmt:=top 24
theorem uY:aP ["_law_word","_law_at"] ["_law_word"] (aj j5):=⟨rfl,rfl,rfl,by decide +kernel,rfl,by decide +kernel,by decide +kernel⟩
theorem wM (D:Df K mg "_law_reduced" j5)(T:Bt K w mg aB)(F_lback:Fnc P w K mg base "_law_back" ["_law_word"] 1 lQ):Fnc P w K mg base "_law_reduced" ["_law_word"] 2 oH:=by
 have sc:=uY
 refine D.ok sc (fun _ _ _ _ _ _ us hl=>by obtain ⟨_,rfl⟩:=jZ hl;rfl) (fun vs H Q E h=>?_) (fun f cdv A outer s H vs Q E hr h=>?_)
 ·obtain ⟨u,rfl,_⟩:=h
  rfl
 ·obtain ⟨u0,rfl,hu,k⟩:=h
  have l16:=a_
  refine ⟨_,(@ag _ _ _ _ _ (@ay _ _ (1) _ _ _ _ sc.nd rfl (Or.inl rfl) ai (by rfl) (by first | exact .inl rfl | exact .inr rfl | assumption)) (@ag _ _ _ _ _ (@fH _ _ _ _ _ _ AQ (@aC _ _ _ _ _ _ _ _ iD (@ax _ _ _ _ _ _ _ _ aQ (pv 1) ai) (@aq _ _ _ _ _ _ _ _ _ av (by rfl) T.len As (@aa _ _ _ _ _ (pv 0) af (by rfl)) (by decide) (by decide) (by rfl) (by rfl)) (aF _)) (@ak _ _ _ (@bw _ _ _ _ _ _ _ _ (@aC _ _ _ _ _ _ _ _ bD (@aW _ _ _ _ _ _ _ cz (pv 0) (@ax _ _ _ _ _ _ _ _ aQ (pv 1) ai) (fun _ _=>rfl)) (@aE _ _ _ _ _ _ _ _ _ _ _ F_lback hr (by decide) rfl (@aa _ _ _ _ _ (@aW _ _ _ _ _ _ _ cz (pv 0) (pv 1) (fun _ _=>rfl)) af (by rfl)) (by decide) (by rfl) (by rfl)) (aF _)) (@ag _ _ _ _ _ (@ay _ _ (0) _ _ _ _ sc.nd rfl (Or.inl rfl) (@ax _ _ _ _ _ _ _ _ az (@aw _ _ _ _ _ _ _ _ _ _ aR (pv 0) aG (@aA _ _ _ (pv 1))) (@aw _ _ _ _ _ _ _ _ _ _ aR (pv 0) (@aA _ _ _ (@ax _ _ _ _ _ _ _ _ aQ (pv 1) ai)) aG)) (by rfl) (by first | exact .inl rfl | exact .inr rfl | assumption)) (@ak _ _ _ (@ay _ _ (1) _ _ _ _ sc.nd rfl (Or.inl rfl) (@aq _ _ _ _ _ _ _ _ _ (@jj _ rfl) (by rfl) T.max uq (@aa _ _ _ _ _ ai (@aa _ _ _ _ _ (@ax _ _ _ _ _ _ _ _ fW (pv 1) ai) af (by rfl)) (by rfl)) (by decide) (by decide) (by rfl) (by rfl)) (by rfl) (by first | exact .inl rfl | exact .inr rfl | assumption)))) (@ak _ _ _ (@ay _ _ (1) _ _ _ _ sc.nd rfl (Or.inl rfl) (@ax _ _ _ _ _ _ _ _ aQ (pv 1) ai) (by rfl) (by first | exact .inl rfl | exact .inr rfl | assumption)))))) (@ak _ _ _ (@aN _ _ _ _ (pv 0))))),?_⟩
  refine ⟨fun m σ H'=>∃ (u:List L) (j:Nat),σ = [some (tx u),some (.int j)]∧aH H H'∧red u=red u0∧sY (j+1) u∧u.length≤5000∧m=2*u.length - j,⟨_,u0,0,rfl,aH.refl _,rfl,(fun i x y hi=>by omega),hu,rfl⟩,?_⟩
  rintro m σ H1 ⟨u,j,rfl,s1,hr0,hrd,hlu,rfl⟩
  refine ⟨_,rfl,_,_,rfl,rfl,_,rfl,_,rfl,(by rw [ae];omega),_,_,rfl,rfl,_,rfl,?_⟩
  rw [ae]
  refine kd (fun h=>?_) (fun h=>?_)
  ·have h:j+1 < u.length:=by
    have h:(j:Int)+1 < (u.length:Int):=by simpa using h
    omega
   have hx:u[j]? = some u[j]:=Ac (by omega)
   have hy:u[j+1]? = some u[j+1]:=Ac h
   generalize u[j]=x at hx
   generalize u[j+1]=y at hy
   refine ⟨_,fun σ' H' q=>q,?_⟩
   refine ⟨_,rfl,_,rfl,_,_,rfl,rfl,_,_,cp y,rfl,rfl,(by rw [ae];omega),bN (k:=j+1) (by omega) hy,?_⟩
   refine ⟨_,rfl,_,rfl,_,_,cp x,rfl,rfl,(by rw [ae];omega),bN (k:=j) rfl hx,[x],rfl,(by show 1≤5000;decide),fun H2 s2=>?_⟩
   refine ⟨rfl,_,rfl,?_⟩
   show if decide (tx [y]=tx (bk [x]))=true then _ else _
   rw [ox,h_]
   refine kd (fun h2=>?_) (fun h2=>?_)
   ·have h2:y=inv x:=by simpa using h2
    subst h2
    refine ⟨_,rfl,_,rfl,_,rfl,_,rfl,(by rw [ae];omega),_,rfl,_,rfl,_,_,rfl,rfl,_,rfl,_,rfl,(by rw [ae];omega),_,_,rfl,rfl,?_,?_⟩
    ·rw [ao,ao,ae,ae]
     have h1:=bQ u none (some (j:Int))
     have h2:=bQ u (some ((j:Int)+2)) none
     omega
    ·refine ⟨_,rfl,_,_,rfl,rfl,_,_,rfl,?_⟩
     have el:(u.take j++u.drop (j+2)).length=u.length - 2:=by rw [Ad,Aj,AA];omega
     refine ⟨2*(u.take j++u.drop (j+2)).length - (j - 1),by omega,u.take j++u.drop (j+2),j - 1,?_,s1.trans s2,by rw [uf hx hy];exact hr0,qZ hrd,by omega,rfl⟩
     rw [ao,ao,bj u (by omega),ba u (by omega),aX]
     have e1:((j:Int)).toNat=j:=by omega
     have e2:((j:Int)+2).toNat=j+2:=by omega
     have e3:(if ((j:Int) - 1) > 0 then ((j:Int) - 1) else 0)=((j - 1:Nat):Int):=by split <;> omega
     rw [e1,e2,e3]
     rfl
   ·have h2:¬ y=inv x:=by simpa using h2
    refine ⟨_,rfl,_,_,rfl,rfl,?_⟩
    exact ⟨2*u.length - j - 1,by omega,u,j+1,rfl,s1.trans s2,hr0,ou hrd (fun a b ha hb=>by rw [hx] at ha;rw [hy] at hb;cases ha;cases hb;exact h2),hlu,by omega⟩
  ·have h:¬ j+1 < u.length:=by
    have h:¬ (j:Int)+1 < (u.length:Int):=by simpa using h
    omega
   refine ⟨_,rfl,?_⟩
   have e:red u0=u:=by rw [← hr0,gr (by omega) hrd]
   rw [← e]
   exact k _ s1
abbrev j6:Stmt:=top 25
theorem uZ:aP ["_law_feed_here","_law_many","_law_most","_law_signs"] ["_law_feed_here","_law_many","_law_most"] (aj j6):=⟨rfl,rfl,rfl,by decide +kernel,rfl,by decide +kernel,by decide +kernel⟩
theorem wN (D:Df K mg "_law_some" j6)(T:Bt K w mg aB)(F_draw:Fnc P w K mg base "_law_draw" ["_law_feed_here","_law_many"] 1 d_):Fnc P w K mg base "_law_some" ["_law_feed_here","_law_many","_law_most"] 2 dZ:=by
 have sc:=uZ
 refine D.ok sc (fun _ _ _ _ _ _ us hl=>by obtain ⟨_,_,_,rfl⟩:=vv hl;rfl) (fun vs H Q E h=>?_) (fun f cdv A outer s H vs Q E hr h=>?_)
 ·obtain ⟨d,m,n,rfl,_⟩:=h
  rfl
 ·obtain ⟨d,m,n,rfl,F,m1,m2,n1,n2,k⟩:=h
  have l16:=a_
  refine ⟨_,(@ag _ _ _ _ _ (@ay _ _ (3) _ _ _ _ sc.nd rfl (Or.inr rfl) (@ax _ _ _ _ _ _ _ _ az (@aw _ _ _ _ _ _ _ _ _ _ aR aL aG (@aA _ _ _ (pv 1))) (@aw _ _ _ _ _ _ _ _ _ _ aR aL aG (@aA _ _ _ (pv 1)))) (by rfl) (by first | exact .inl rfl | exact .inr rfl | assumption)) (@ak _ _ _ (@aN _ _ _ _ (@gi _ _ _ _ _ _ _ _ _ _ _ _ BZ PySem.F.slot_str_join PySem.F.type_str_join n_ aL (@aa _ _ _ _ _ (@cF _ _ _ _ _ _ _ (["_law_k","_law_signs","_law_feed_here","_law_many"]) (["_law_k"]) ([3,0,1]) _ _ _ _ (@cA _ _ _ _ _ _ rfl (by kernel_rfl)) rfl (@bz _ _ _ _ _ _ rfl T.range (@aa _ _ _ _ _ (@aE _ _ _ _ _ _ _ _ _ _ _ F_draw hr (by decide) rfl (@aa _ _ _ _ _ (pv 0) (@aa _ _ _ _ _ (@ax _ _ _ _ _ _ _ _ aQ (pv 2) ai) af (by rfl)) (by rfl)) (by decide) (by rfl) (by rfl)) af (by rfl)) (by rfl)) (fun _ _ _ _=>@aT _ _ (0) _ (show (["_law_k","_law_signs","_law_feed_here","_law_many"]:List Str).Nodup from by decide +kernel) rfl (Or.inl rfl) (by first | exact .inl rfl | exact .inr rfl | assumption)) (fun _ _ _ _=>bX) (fun _ _ _ _=>by (exact (@aW _ _ _ _ _ _ _ cz (pv 1) (@aE _ _ _ _ _ _ _ _ _ _ _ F_draw hr (by decide) rfl (@aa _ _ _ _ _ (pv 2) (@aa _ _ _ _ _ (@ax _ _ _ _ _ _ _ _ fg ai (pv 3)) af (by rfl)) (by rfl)) (by decide) (by rfl) (by rfl)) (fun _ _=>rfl)))) (by intro _ ;rfl)) af (by rfl)) (by rfl) (by rfl) (by rfl) (by rfl) (by rfl))))),?_⟩
  refine ⟨_,rfl,_,rfl,_,rfl,(by rw [oJ];omega),_,rfl,_,rfl,_,rfl,(by rw [sZ];omega),_,_,rfl,rfl,?_,?_⟩
  ·have h1:=AY ("abcdef":Str) none (some m)
   have h2:=AY ("ABCDEF":Str) none (some m)
   rw [oJ] at h1
   rw [sZ] at h2
   omega
  rw [rh m1]
  refine ⟨rfl,_,rfl,_,rfl,_,_,rfl,rfl,d,_,rfl,F,by omega,by omega,fun r H1 r0 r1 F1 sb1=>?_⟩
  refine ⟨_,rfl,by omega,by omega,?_⟩
  refine ck (own:=["_law_k"]) (cap:=[3,0,1]) (J:=Itr 0 r.toNat) r.toNat (fun i ys σ H'=>∃ (v:Option V) (W:List L),σ = [v,some (tx (sg m)),some (.ref d),some (.int m)]∧ys=rf W∧W.length=i∧InM m.toNat W∧Fd H' d∧bE d H H')
   ⟨none,[],rfl,rfl,rfl,InM.nil,F1,sb1⟩ (fun i ys σ H' hi ⟨v,W,_,e,e2,_⟩=>by rw [e,gw,e2];exact Al _) (by omega) (fun i ys σ H' hi _=>hi) (fun ys σ H' _=>Al _) ?_ ?_
  ·rintro i ys σ H2 x H3 N hi ⟨v,W,rfl,rfl,hW,hI,F2,sb2⟩ ⟨rfl,rfl⟩ hN
   refine ⟨_,rfl,_,rfl,_,rfl,_,_,rfl,rfl,.inl ⟨by decide,by decide⟩,d,_,rfl,F2,by omega,by omega,fun q H4 q0 q1 F4 sb4=>?_⟩
   have hq:q.toNat < (sg m).length:=by rw [jI m1 m2];omega
   refine ⟨_,_,cp (sg m)[q.toNat],rfl,rfl,(by rw [ae,jI m1 m2];omega),bN (k:=q.toNat) (by omega) (Ac hq),hN _ _ _ ⟨_,W++[(sg m)[q.toNat]],rfl,(jF _ _),by rw [Ad,hW];rfl,InM.snoc hI (yl m1 m2 _ (AS hq)),F4,sb2.trans sb4⟩⟩
  ·rintro ys σ H2 l ⟨v,W,rfl,rfl,hW,hI,F2,sb2⟩ hl
   refine ⟨_,l,W.map fun x=>toS [x],rfl,rfl,SqL.of (by rw [ah,lP]),jH _ (by omega),?_⟩
   rw [jG]
   exact k _ _ (by omega) hI (F2.new hl) (sb2.trans (aH.new hl).b)
end
inductive rX (vs:List V)(H:Hp)(Q:VK)(u3_:XK):Prop
 | mk:∀ w,(vs=[tx w])→(w.length≤2000)→(∀ (f md:List L) (H':Hp),uT [] (red w) (f,md)→md.length≤w.length→(∀ x∈md,x∈w)→aH H H'→Q (tx md) H')→rX vs H Q u3_
theorem rY:∀ {f m:List L} {r:List L × List L},uT f m r→(∀ x∈r.2,x∈m)∧r.1.length+r.2.length≤f.length+m.length∧r.2.length≤m.length:=by
 intro f m r h
 induction h with
 | stop f m hn=>exact ⟨fun x hx=>hx,Al _,Al _⟩
 | step f x mid r h ih =>
  obtain ⟨h1,h2,h3⟩:=ih
  rw [Ad,A4] at h2
  rw [dN]
  exact ⟨fun y hy=>AC _ (AX _ (h1 y hy)),by omega,by omega⟩
section
variable {P:Program} {w:World} {K:PySem.W.Frag} {mg:Str→Option Value} {base:Heap} {aB:Addr}
abbrev p_:Stmt:=top 27
theorem wO:aP ["_law_word","_law_short"] ["_law_word"] (aj p_):=⟨rfl,rfl,rfl,by decide +kernel,rfl,by decide +kernel,by decide +kernel⟩
theorem yC (D:Df K mg "_law_middle" p_)(T:Bt K w mg aB)(F_lback:Fnc P w K mg base "_law_back" ["_law_word"] 1 lQ)(F_lred:Fnc P w K mg base "_law_reduced" ["_law_word"] 2 oH):Fnc P w K mg base "_law_middle" ["_law_word"] 3 rX:=by
 have sc:=wO
 refine D.ok sc (fun _ _ _ _ _ _ us hl=>by obtain ⟨_,rfl⟩:=jZ hl;rfl) (fun vs H Q E h=>?_) (fun f cdv A outer s H vs Q E hr h=>?_)
 ·obtain ⟨u,rfl,_⟩:=h
  rfl
 ·obtain ⟨u,rfl,hu,k⟩:=h
  have l16:=a_
  have hru:=ib u
  refine ⟨_,(@ag _ _ _ _ _ (@ay _ _ (1) _ _ _ _ sc.nd rfl (Or.inl rfl) (@aE _ _ _ _ _ _ _ _ _ _ _ F_lred hr (by decide) rfl (@aa _ _ _ _ _ (pv 0) af (by rfl)) (by decide) (by rfl) (by rfl)) (by rfl) (by first | exact .inl rfl | exact .inr rfl | assumption)) (@ag _ _ _ _ _ (@fH _ _ _ _ _ _ AQ (@PW.pt _ _ _ (@jh _ _ _ _ _ _ _ (@aC _ _ _ _ _ _ _ _ kj (@aq _ _ _ _ _ _ _ _ _ av (by rfl) T.len As (@aa _ _ _ _ _ (pv 1) af (by rfl)) (by decide) (by decide) (by rfl) (by rfl)) ai (aF _)) (@fU _ _ _ _ (@aC _ _ _ _ _ _ _ _ bD (@aW _ _ _ _ _ _ _ cz (pv 1) ai (fun _ _=>rfl)) (@aE _ _ _ _ _ _ _ _ _ _ _ F_lback hr (by decide) rfl (@aa _ _ _ _ _ (@aW _ _ _ _ _ _ _ cz (pv 1) (@ax _ _ _ _ _ _ _ _ fW (@aq _ _ _ _ _ _ _ _ _ av (by rfl) T.len As (@aa _ _ _ _ _ (pv 1) af (by rfl)) (by decide) (by decide) (by rfl) (by rfl)) ai) (fun _ _=>rfl)) af (by rfl)) (by decide) (by rfl) (by rfl)) (aF _))))) (@ak _ _ _ (@ay _ _ (1) _ _ _ _ sc.nd rfl (Or.inl rfl) (@aw _ _ _ _ _ _ _ _ _ _ aR (pv 1) (@aA _ _ _ ai) (@aA _ _ _ (@ax _ _ _ _ _ _ _ _ fW (@aq _ _ _ _ _ _ _ _ _ av (by rfl) T.len As (@aa _ _ _ _ _ (pv 1) af (by rfl)) (by decide) (by decide) (by rfl) (by rfl)) ai))) (by rfl) (by first | exact .inl rfl | exact .inr rfl | assumption)))) (@ak _ _ _ (@aN _ _ _ _ (pv 1))))),?_⟩
  refine ⟨_,rfl,u,rfl,by omega,fun H1 s1=>?_⟩
  refine ⟨fun n σ H'=>∃ (fr md:List L),σ = [some (tx u),some (tx md)]∧aH H H'∧(∀ r,uT fr md r→uT [] (red u) r)∧fr.length+md.length≤u.length∧n=md.length,⟨_,[],red u,rfl,s1,fun _ q=>q,(by simp only [Bs];omega),rfl⟩,?_⟩
  rintro n σ H2 ⟨fr,md,rfl,s2,hC,hl,rfl⟩
  have fin:(∀ x mid,md≠x::(mid++[inv x]))→∀ H3,aH H H3→Q (tx md) H3:=fun hn H3 s3=>by
   have c:=hC _ (.stop fr md hn)
   exact k fr md _ c (by omega) (fun x hx=>uG ((rY c).1 x hx)) s3
  have hmd:(toS md).length≤sizeLine:=by rw [ae];omega
  by_cases h1:1 < md.length
  ·refine ⟨_,rfl,_,rfl,hmd,_,_,rfl,rfl,_,rfl,cM (by rw [ae];exact An (by omega)) ?_⟩
   obtain ⟨x,mid,z,rfl⟩:=ro h1
   refine ⟨_,rfl,_,_,cp x,rfl,rfl,hmd,bN (k:=0) rfl rfl,_,rfl,_,rfl,_,rfl,hmd,_,_,rfl,rfl,_,_,cp z,rfl,rfl,hmd,bN (k:=mid.length+1) ?_ ?_,[z],rfl,(by show 1≤5000;decide),fun H3 s3=>⟨rfl,_,rfl,?_⟩⟩
   ·rw [ae];simp
   ·simp
   show if decide (tx [x]=tx (bk [z]))=true then _ else _
   rw [ox,h_]
   refine kd (fun h=>?_) (fun h=>?_)
   ·have h:x=inv z:=by simpa using h
    have h:z=inv x:=by rw [h,dq]
    subst h
    refine ⟨_,fun σ' H' q=>q,?_⟩
    refine ⟨_,rfl,_,rfl,_,rfl,_,rfl,hmd,_,_,rfl,rfl,_,rfl,_,rfl,hmd,?_⟩
    rw [ao,ae,pY]
    rw [dN] at hl
    refine ⟨mid.length,by rw [dN];omega,fr++[x],mid,rfl,s2.trans s3,fun q hq=>hC q (.step fr x mid q hq),?_,rfl⟩
    rw [Ad,A4]
    omega
   ·have h:¬ x=inv z:=by simpa using h
    exact ⟨_,rfl,fin (fun y m2 e=>by
     obtain ⟨e1,e2⟩:=D9 e
     subst e1
     have e3:=List.append_inj_right' e2 rfl
     exact h (by rw [(D9 e3).1,dq])) _ (s2.trans s3)⟩
  ·refine ⟨_,rfl,_,rfl,hmd,_,_,rfl,rfl,_,rfl,bZ (by rw [ae];exact AF (by omega)) (mM ?_)⟩
   exact ⟨_,rfl,fin (fun x mid e=>by rw [e,dN] at h1;omega) _ s2⟩
abbrev gM:Stmt:=top 26
theorem rZ:aP ["_law_feed_here","_law_many","_law_most","_law_way","_law_one","_law_k","_law_at","_law_sign","_law_other"] ["_law_feed_here","_law_many","_law_most"] (aj gM):=⟨rfl,rfl,rfl,by decide +kernel,rfl,by decide +kernel,by decide +kernel⟩
theorem u6 (D:Df K mg "_law_drawn" gM)(T:Bt K w mg aB)(F_draw:Fnc P w K mg base "_law_draw" ["_law_feed_here","_law_many"] 1 d_)(F_lback:Fnc P w K mg base "_law_back" ["_law_word"] 1 lQ)
  (F_some:Fnc P w K mg base "_law_some" ["_law_feed_here","_law_many","_law_most"] 2 oI):Fnc P w K mg base "_law_drawn" ["_law_feed_here","_law_many","_law_most"] 3 kx:=by
 have sc:=rZ
 refine D.ok sc (fun _ _ _ _ _ _ us hl=>by obtain ⟨_,_,_,rfl⟩:=vv hl;rfl) (fun vs H Q E h=>?_) (fun f cdv A outer s H vs Q E hr h=>?_)
 ·obtain ⟨d,m,n,rfl,_⟩:=h
  rfl
 ·obtain ⟨d,m,n,rfl,F,m1,m2,n1,n2,k⟩:=h
  have l16:=a_
  refine ⟨_,(@ag _ _ _ _ _ (@ay _ _ (3) _ _ _ _ sc.nd rfl (Or.inl rfl) (@aE _ _ _ _ _ _ _ _ _ _ _ F_draw hr (by decide) rfl (@aa _ _ _ _ _ (pv 0) (@aa _ _ _ _ _ ai af (by rfl)) (by rfl)) (by decide) (by rfl) (by rfl)) (by rfl) (by first | exact .inl rfl | exact .inr rfl | assumption)) (@ag _ _ _ _ _ (@ay _ _ (4) _ _ _ _ sc.nd rfl (Or.inl rfl) (@aE _ _ _ _ _ _ _ _ _ _ _ F_some hr (by decide) rfl (@aa _ _ _ _ _ (pv 0) (@aa _ _ _ _ _ (pv 1) (@aa _ _ _ _ _ (@bI _ _ _ _ _ _ _ _ (@aC _ _ _ _ _ _ _ _ bD (pv 3) ai (aF _)) (pv 2) (@ax _ _ _ _ _ _ _ _ dh (pv 2) ai)) af (by rfl)) (by rfl)) (by rfl)) (by decide) (by rfl) (by rfl)) (by rfl) (by first | exact .inl rfl | exact .inr rfl | assumption)) (@ag _ _ _ _ _ (@bw _ _ _ _ _ _ _ _ (@aC _ _ _ _ _ _ _ _ bD (pv 3) ai (aF _)) (@ak _ _ _ (@bJ _ _ _ _ _ _ _ _ AQ rfl (@bz _ _ _ _ _ _ rfl T.range (@aa _ _ _ _ _ (@ax _ _ _ _ _ _ _ _ aQ ai (@aE _ _ _ _ _ _ _ _ _ _ _ F_draw hr (by decide) rfl (@aa _ _ _ _ _ (pv 0) (@aa _ _ _ _ _ (@ax _ _ _ _ _ _ _ _ dh (pv 2) ai) af (by rfl)) (by rfl)) (by decide) (by rfl) (by rfl))) af (by rfl)) (by rfl)) (@aT _ _ (5) _ sc.nd rfl (Or.inl rfl) (by first | exact .inl rfl | exact .inr rfl | assumption)) (@ag _ _ _ _ _ (@ay _ _ (6) _ _ _ _ sc.nd rfl (Or.inl rfl) (@aE _ _ _ _ _ _ _ _ _ _ _ F_draw hr (by decide) rfl (@aa _ _ _ _ _ (pv 0) (@aa _ _ _ _ _ (@ax _ _ _ _ _ _ _ _ aQ (@aq _ _ _ _ _ _ _ _ _ av (by rfl) T.len As (@aa _ _ _ _ _ (pv 4) af (by rfl)) (by decide) (by decide) (by rfl) (by rfl)) ai) af (by rfl)) (by rfl)) (by decide) (by rfl) (by rfl)) (by rfl) (by first | exact .inl rfl | exact .inr rfl | assumption)) (@ag _ _ _ _ _ (@ay _ _ (7) _ _ _ _ sc.nd rfl (Or.inl rfl) (@aW _ _ _ _ _ _ _ cz aL (@aE _ _ _ _ _ _ _ _ _ _ _ F_draw hr (by decide) rfl (@aa _ _ _ _ _ (pv 0) (@aa _ _ _ _ _ (pv 1) af (by rfl)) (by rfl)) (by decide) (by rfl) (by rfl)) (fun _ _=>rfl)) (by rfl) (by first | exact .inl rfl | exact .inr rfl | assumption)) (@ag _ _ _ _ _ (@ay _ _ (7) _ _ _ _ sc.nd rfl (Or.inl rfl) (@aW _ _ _ _ _ _ _ cD (@bh _ _ _ _ (@aa _ _ _ _ _ (pv 7) (@aa _ _ _ _ _ (@nQ _ _ _ _ _ _ _ _ _ BZ DU DV lM (pv 7) (by rfl) (by rfl)) af (by rfl)) (by rfl))) (@aE _ _ _ _ _ _ _ _ _ _ _ F_draw hr (by decide) rfl (@aa _ _ _ _ _ (pv 0) (@aa _ _ _ _ _ ai af (by rfl)) (by rfl)) (by decide) (by rfl) (by rfl)) (fun _ _=>rfl)) (by rfl) (by first | exact .inl rfl | exact .inr rfl | assumption)) (@ak _ _ _ (@ay _ _ (4) _ _ _ _ sc.nd rfl (Or.inl rfl) (@ax _ _ _ _ _ _ _ _ az (@ax _ _ _ _ _ _ _ _ az (@ax _ _ _ _ _ _ _ _ az (@aw _ _ _ _ _ _ _ _ _ _ aR (pv 4) aG (@aA _ _ _ (pv 6))) (pv 7)) (@aE _ _ _ _ _ _ _ _ _ _ _ F_lback hr (by decide) rfl (@aa _ _ _ _ _ (pv 7) af (by rfl)) (by decide) (by rfl) (by rfl))) (@aw _ _ _ _ _ _ _ _ _ _ aR (pv 4) (@aA _ _ _ (pv 6)) aG)) (by rfl) (by first | exact .inl rfl | exact .inr rfl | assumption)))))) (by intro _ ;rfl))) aV) (@ag _ _ _ _ _ (@ay _ _ (8) _ _ _ _ sc.nd rfl (Or.inl rfl) (@aE _ _ _ _ _ _ _ _ _ _ _ F_some hr (by decide) rfl (@aa _ _ _ _ _ (pv 0) (@aa _ _ _ _ _ (pv 1) (@aa _ _ _ _ _ (@ax _ _ _ _ _ _ _ _ dh (pv 2) ai) af (by rfl)) (by rfl)) (by rfl)) (by decide) (by rfl) (by rfl)) (by rfl) (by first | exact .inl rfl | exact .inr rfl | assumption)) (@ag _ _ _ _ _ (@bw _ _ _ _ _ _ _ _ (@aC _ _ _ _ _ _ _ _ bD (pv 3) ai (aF _)) (@ak _ _ _ (@aN _ _ _ _ (@ax _ _ _ _ _ _ _ _ az (@ax _ _ _ _ _ _ _ _ az (pv 8) (pv 4)) (@aE _ _ _ _ _ _ _ _ _ _ _ F_lback hr (by decide) rfl (@aa _ _ _ _ _ (pv 8) af (by rfl)) (by decide) (by rfl) (by rfl))))) aV) (@ak _ _ _ (@aN _ _ _ _ (@bI _ _ _ _ _ _ _ _ (@aC _ _ _ _ _ _ _ _ iD (pv 3) ai (aF _)) (pv 4) (@ax _ _ _ _ _ _ _ _ az (@ax _ _ _ _ _ _ _ _ bo (pv 4) (@ax _ _ _ _ _ _ _ _ aQ ai (@aE _ _ _ _ _ _ _ _ _ _ _ F_draw hr (by decide) rfl (@aa _ _ _ _ _ (pv 0) (@aa _ _ _ _ _ ai af (by rfl)) (by rfl)) (by decide) (by rfl) (by rfl)))) (pv 8)))))))))),?_⟩
  have q4:n / 4≤10:=by omega
  have q1:1≤n / 4:=by omega
  -- the way
  refine ⟨_,rfl,d,_,rfl,F,by decide,by decide,fun way H1 w0 w1 F1 sb1=>?_⟩
  have hw:way=0 ∨ way=1 ∨ way=2 ∨ way=3:=by omega
  rcases hw with rfl | rfl | rfl | rfl
  ·refine ⟨_,rfl,_,rfl,_,rfl,rfl,_,rfl,cM (by decide) ⟨_,rfl,d,m,n,rfl,F1,m1,m2,by omega,by omega,fun u H2 hu F2 sb2=>?_⟩⟩
   refine ⟨_,rfl,rfl,_,rfl,bZ (by decide) ?_⟩
   refine ⟨_,rfl,_,rfl,_,rfl,_,_,rfl,rfl,⟨by decide,by decide⟩,d,m,n / 4,rfl,F2,m1,m2,by omega,by omega,fun v H8 hv F8 sb8=>?_⟩
   refine ⟨_,rfl,rfl,_,rfl,bZ (by decide) ?_⟩
   refine ⟨_,rfl,_,_,rfl,rfl,_,rfl,cM (by decide) ⟨_,rfl,?_⟩⟩
   exact k u _ (by omega) F8 ((sb1.trans sb2).trans sb8)
  ·refine ⟨_,rfl,_,rfl,_,rfl,rfl,_,rfl,bZ (by decide) ⟨_,rfl,_,_,rfl,rfl,⟨by decide,by decide⟩,d,m,n / 4,rfl,F1,m1,m2,by omega,by omega,fun u H2 hu F2 sb2=>?_⟩⟩
   refine ⟨_,rfl,rfl,_,rfl,cM (by decide) ?_⟩
   refine ⟨_,rfl,_,rfl,_,_,rfl,rfl,⟨by decide,by decide⟩,d,_,rfl,F2,by omega,by omega,fun r H3 r0 r1 F3 sb3=>⟨_,_,rfl,rfl,_,rfl,by omega,by omega,?_⟩⟩
   refine cG (lo:=0) (n:=(1+r).toNat) (fun i σ H'=>∃ (a b c:Option V) (u:List L),σ = [some (.ref d),some (.int m),some (.int n),some (.int 1),some (tx u),a,b,c,none]∧u.length≤10+2*i∧Fd H' d∧bE d H H')
    ⟨none,none,none,u,rfl,by omega,F3,(sb1.trans sb2).trans sb3⟩ ?_ ?_
   ·rintro i σ H4 hi ⟨a,b,c,u,rfl,hu,F4,sb4⟩
    refine ⟨_,rfl,_,rfl,_,rfl,(by rw [ae];omega),_,_,rfl,rfl,d,_,rfl,F4,by omega,by rw [ae];omega,fun at' H5 a0 a1 F5 sb5=>?_⟩
    refine ⟨_,rfl,_,rfl,d,_,rfl,F5,by omega,by omega,fun q H6 q0 q1 F6 sb6=>?_⟩
    obtain ⟨x,hx6,hx⟩:=ri q0 (by omega)
    refine ⟨_,_,cp x,rfl,rfl,(by rw [oJ];omega),hx,?_⟩
    refine ⟨_,rfl,_,rfl,rfl,_,rfl,rfl,(by show 1≤5592405;decide),(by show 2≤sizeLine;decide),fun l hl=>?_⟩
    have el:V.str (Txt.upper ⟨#[cp x]⟩)=tx [inv x]:=C3 V.str (gu hx6)
    rw [el]
    refine ⟨_,rfl,d,_,rfl,F6.new hl,by decide,by decide,fun q2 H7 p0 p1 F7 sb7=>?_⟩
    obtain ⟨y,hy⟩:=two_at x p0 p1
    have hl7:H7 l=some (.lst [tx [x],tx [inv x]]):=sb7 _ _ (F6.ne hl) ah
    refine ⟨l,_,_,_,rfl,rfl,SqL.of hl7,hy,?_⟩
    refine ⟨_,rfl,_,rfl,_,rfl,_,rfl,(by rw [ae];omega),_,rfl,_,_,rfl,rfl,?_,_,rfl,[y],rfl,(by show 1≤5000;decide),fun H8 s8=>?_⟩
    ·rw [ao,ae,ae]
     have h1:=bQ u none (some at')
     show _+1≤_
     omega
    rw [ao,bj u a0,aX]
    refine ⟨_,_,rfl,rfl,?_,_,rfl,_,rfl,_,rfl,_,rfl,(by rw [ae];omega),_,_,rfl,rfl,?_,?_⟩
    ·rw [ae,ae,Ad,Aj,bM]
     simp only [A4]
     omega
    ·rw [ao,dG,ae,ae,Ad,Ad,Aj,bM]
     have h1:=bQ u (some at') none
     simp only [A4]
     omega
    ·rw [ao,ba u a0,dG,aX]
     refine ⟨_,_,_,_,rfl,?_,F7.same s8,((((sb4.trans sb5).trans sb6).trans (aH.new hl).b).trans sb7).trans s8.b⟩
     rw [Ad,Ad,Ad,Aj,AA,bM]
     simp only [A4]
     omega
   ·rintro σ H2 ⟨a,b,c,u,rfl,hu,F2,sb2⟩
    refine ⟨_,rfl,_,rfl,_,rfl,_,_,rfl,rfl,⟨by decide,by decide⟩,d,m,n / 4,rfl,F2,m1,m2,by omega,by omega,fun v H8 hv F8 sb8=>?_⟩
    refine ⟨_,rfl,rfl,_,rfl,bZ (by decide) ?_⟩
    refine ⟨_,rfl,_,_,rfl,rfl,_,rfl,cM (by decide) ⟨_,rfl,?_⟩⟩
    exact k u _ (by omega) F8 (sb2.trans sb8)
  ·refine ⟨_,rfl,_,rfl,_,rfl,rfl,_,rfl,bZ (by decide) ⟨_,rfl,_,_,rfl,rfl,⟨by decide,by decide⟩,d,m,n / 4,rfl,F1,m1,m2,by omega,by omega,fun u H2 hu F2 sb2=>?_⟩⟩
   refine ⟨_,rfl,rfl,_,rfl,bZ (by decide) ?_⟩
   refine ⟨_,rfl,_,rfl,_,rfl,_,_,rfl,rfl,⟨by decide,by decide⟩,d,m,n / 4,rfl,F2,m1,m2,by omega,by omega,fun v H8 hv F8 sb8=>?_⟩
   refine ⟨_,rfl,rfl,_,rfl,cM (by decide) ?_⟩
   refine ⟨_,rfl,_,rfl,_,_,rfl,rfl,(by rw [ae,ae];omega),?_⟩
   rw [aX]
   refine ⟨_,rfl,v,rfl,by omega,fun H9 s9=>⟨_,_,rfl,rfl,(by rw [ae,ae,Ad,bM];omega),?_⟩⟩
   rw [aX]
   exact k _ _ (by rw [Ad,Ad,bM];omega) (F8.same s9) (((sb1.trans sb2).trans sb8).trans s9.b)
  ·refine ⟨_,rfl,_,rfl,_,rfl,rfl,_,rfl,bZ (by decide) ⟨_,rfl,_,_,rfl,rfl,⟨by decide,by decide⟩,d,m,n / 4,rfl,F1,m1,m2,by omega,by omega,fun u H2 hu F2 sb2=>?_⟩⟩
   refine ⟨_,rfl,rfl,_,rfl,bZ (by decide) ?_⟩
   refine ⟨_,rfl,_,rfl,_,rfl,_,_,rfl,rfl,⟨by decide,by decide⟩,d,m,n / 4,rfl,F2,m1,m2,by omega,by omega,fun v H8 hv F8 sb8=>?_⟩
   refine ⟨_,rfl,rfl,_,rfl,bZ (by decide) ?_⟩
   refine ⟨_,rfl,_,_,rfl,rfl,_,rfl,bZ (by decide) ?_⟩
   refine ⟨_,rfl,_,rfl,d,_,rfl,F8,by decide,by decide,fun r H9 r0 r1 F9 sb9=>?_⟩
   have er:(rep (1+r).toNat u).length≤30:=by
    rw [eY]
    have:(1+r).toNat*u.length≤3*10:=Nat.mul_le_mul (by omega) (by omega)
    omega
   refine ⟨_,_,rfl,rfl,_,_,rfl,rfl,jD u (by omega) (by omega) (by omega),_,rfl,_,_,rfl,rfl,?_,?_⟩
   ·rw [ku,ae,ae];omega
   rw [ku,aX]
   exact k _ _ (by rw [Ad];omega) F9 (((sb1.trans sb2).trans sb8).trans sb9)
abbrev j7:Stmt:=top 28
theorem u7:aP ["_law_rings_here","_law_found","_law_ring","_law_word","_law_k","_law_turn"] ["_law_rings_here"] (aj j7):=⟨rfl,rfl,rfl,by decide +kernel,rfl,by decide +kernel,by decide +kernel⟩
theorem wQ (D:Df K mg "_law_turns_of" j7)(T:Bt K w mg aB)(F_lback:Fnc P w K mg base "_law_back" ["_law_word"] 1 lQ):Fnc P w K mg base "_law_turns_of" ["_law_rings_here"] 2 dJ:=by
 have sc:=u7
 refine D.ok sc (fun _ _ _ _ _ _ us hl=>by obtain ⟨_,rfl⟩:=jZ hl;rfl) (fun vs H Q E h=>?_) (fun f cdv A outer s H vs Q E hr h=>?_)
 ·obtain ⟨a,R,rfl,_⟩:=h
  rfl
 ·obtain ⟨a,R,rfl,ha,hR,k⟩:=h
  have l16:=a_
  refine ⟨_,(@ag _ _ _ _ _ (@ay _ _ (1) _ _ _ _ sc.nd rfl (Or.inl rfl) (@bh _ _ _ _ af) (by rfl) (by first | exact .inl rfl | exact .inr rfl | assumption)) (@ag _ _ _ _ _ (@bJ _ _ _ _ _ _ _ _ AQ rfl (@yi _ _ _ _ (pv 0)) (@aT _ _ (2) _ sc.nd rfl (Or.inl rfl) (by first | exact .inl rfl | exact .inr rfl | assumption)) (@ak _ _ _ (@bJ _ _ _ _ _ _ _ _ AQ rfl (@lj _ _ _ _ (@cg _ _ _ _ _ (@aa _ _ _ _ _ (pv 2) (@aa _ _ _ _ _ (@aE _ _ _ _ _ _ _ _ _ _ _ F_lback hr (by decide) rfl (@aa _ _ _ _ _ (pv 2) af (by rfl)) (by decide) (by rfl) (by rfl)) af (by rfl)) (by rfl)))) (@aT _ _ (3) _ sc.nd rfl (Or.inl rfl) (by first | exact .inl rfl | exact .inr rfl | assumption)) (@ak _ _ _ (@bJ _ _ _ _ _ _ _ _ AQ rfl (@bz _ _ _ _ _ _ rfl T.range (@aa _ _ _ _ _ (@aq _ _ _ _ _ _ _ _ _ av (by rfl) T.len As (@aa _ _ _ _ _ (pv 3) af (by rfl)) (by decide) (by decide) (by rfl) (by rfl)) af (by rfl)) (by rfl)) (@aT _ _ (4) _ sc.nd rfl (Or.inl rfl) (by first | exact .inl rfl | exact .inr rfl | assumption)) (@ag _ _ _ _ _ (@ay _ _ (5) _ _ _ _ sc.nd rfl (Or.inl rfl) (@ax _ _ _ _ _ _ _ _ az (@aw _ _ _ _ _ _ _ _ _ _ aR (pv 3) (@aA _ _ _ (pv 4)) aG) (@aw _ _ _ _ _ _ _ _ _ _ aR (pv 3) aG (@aA _ _ _ (pv 4)))) (by rfl) (by first | exact .inl rfl | exact .inr rfl | assumption)) (@ak _ _ _ (@bw _ _ _ _ _ _ _ _ (@aC _ _ _ _ _ _ _ _ (@dH _ (K) rfl) (pv 5) (pv 1) rfl) (@ak _ _ _ (@cN _ _ _ _ (@gi _ _ _ _ _ _ _ _ _ _ _ _ Bc Bq Br cj (pv 1) (@aa _ _ _ _ _ (pv 5) af (by rfl)) (by rfl) (by rfl) (by rfl) (by rfl) (by rfl)) (by rfl))) aV))) (by intro _ ;rfl))) (by intro _ ;rfl))) (by intro _ ;rfl)) (@ak _ _ _ (@aN _ _ _ _ (@aq _ _ _ _ _ _ _ _ _ cJ (by rfl) T.sorted ef (@aa _ _ _ _ _ (pv 1) af (by rfl)) (by decide) (by decide) (by rfl) (by rfl)))))),?_⟩
  have hR7:=hR.many
  refine ⟨(aK (n:=0) (by decide)),fun l hl=>?_⟩
  have s0:aH H (upd H l (.lst [])):=aH.new hl
  have f0:(upd H l (.lst [])) l=some (.lst (([]:List (List L)).map tx)):=ah
  generalize upd H l (.lst [])=H0 at s0 f0 ⊢
  rcases ha with ha | ha
  ·refine ⟨_,rfl,a,_,rfl,.inr ⟨SqT.of (s0 _ _ ha),?_⟩⟩
   refine eS (xs:=R.map tx) (fun i σ H'=>∃ (b2 b3 b4 b5:Option V) (F:List (List L)),σ = [some (.ref a),some (.ref l),b2,b3,b4,b5]∧H' l=some (.lst (F.map tx))∧ix (trn (R.take i)) F∧aH H H') ⟨_,_,_,_,[],rfl,f0,ix.nil,s0⟩ (fun i σ H' _ ⟨_,_,_,_,_,_,_,_,q⟩=>SqT.of (q _ _ ha)) ?_ ?_
   ·rintro i x σ H1 hx ⟨b2,b3,b4,b5,F,rfl,f1,on,s1⟩
    rw [Ap] at hx
    cases hr:R[i]? with
    | none=>rw [hr] at hx;cases hx
    | some r =>
     rw [hr] at hx
     cases hx
     have hm:=hR.word r (AG hr)
     have hi:=(Ah.mp hr).1
     have hr1:=A6.mpr hm.1
     have lt:=gG (R:=R.take i) fun q hq=>hR.word q (BM hq)
     rw [Aj] at lt
     have hl1:(trn (R.take i)).length≤1260:=by omega
     have lb:=bO r
     refine ⟨_,rfl,_,rfl,r,rfl,by omega,fun H2 s2=>⟨(aK (n:=2) (by decide)),fun p hp=>?_⟩⟩
     have s3:aH H1 (upd H2 p (.tup [tx r,tx (bk r)])):=s2.then hp
     have f3:(upd H2 p (.tup [tx r,tx (bk r)])) p=some (.tup ([r,bk r].map tx)):=ah
     have g3:=s3 _ _ f1
     have nlp:l≠p:=au (s2 _ _ f1) hp
     have nolp:∀ b o,H b=some o→b≠l:=fun b o e=>au e hl
     show _
     generalize upd H2 p (.tup [tx r,tx (bk r)])=H3 at s3 f3 g3 ⊢
     refine ⟨p,rfl,⟨_,SqT.of f3⟩,?_⟩
     refine eS (xs:=[r,bk r].map tx) (fun j σ H'=>∃ (b3 b4 b5:Option V) (F:List (List L)),σ = [some (.ref a),some (.ref l),some (tx r),b3,b4,b5]∧H' l=some (.lst (F.map tx))∧H' p=some (.tup ([r,bk r].map tx))∧ix (trn (R.take i)++([r,bk r].take j).flatMap de) F∧aH H H') ⟨_,_,_,F,rfl,g3,f3,on.to fun x=>by simp,s1.trans s3⟩ (fun j σ H' _ ⟨_,_,_,_,_,_,q,_⟩=>SqT.of q) ?_ ?_
     ·rintro j x σ H4 hx ⟨b3,b4,b5,F,rfl,f4,p4,on,s4⟩
      rw [Ap] at hx
      cases hv:[r,bk r][j]? with
      | none=>rw [hv] at hx;cases hx
      | some v =>
       rw [hv] at hx
       cases hx
       have hj:j < 2:=(Ah.mp hv).1
       have hvl:v.length=r.length:=by
        have:=AG hv
        simp only [Aw,AE,BI] at this
        rcases this with rfl | rfl
        ·rfl
        ·exact lb
       have lv:=ae v
       refine ⟨_,rfl,_,rfl,by omega,_,rfl,by omega,by omega,?_⟩
       rw [lv,Az]
       have lm:((([r,bk r].take j).flatMap de)).length≤180:=by
        match j,hj with
        | 0,_=>simp
        | 1,_=>simp [bB];omega
       refine cG (lo:=0) (n:=v.length) (fun m σ H'=>∃ (b4 b5:Option V) (F:List (List L)),σ = [some (.ref a),some (.ref l),some (tx r),some (tx v),b4,b5]∧H' l=some (.lst (F.map tx))∧H' p=some (.tup ([r,bk r].map tx))∧ix ((trn (R.take i)++([r,bk r].take j).flatMap de)++(de v).take m) F∧aH H H') ⟨_,_,F,rfl,f4,p4,on.to fun x=>by simp,s4⟩ ?_ ?_
       ·rintro m σ H5 hm2 ⟨b4,b5,F,rfl,f5,p5,on,s5⟩
        rw [D1]
        refine ⟨_,rfl,_,rfl,_,rfl,_,rfl,by omega,_,rfl,_,rfl,_,rfl,_,rfl,by omega,_,_,rfl,rfl,?_,?_⟩
        ·have h1:=AY (toS v) (some (m:Int)) none
         have h2:=AY (toS v) none (some (m:Int))
         omega
        rw [ao,ao,ba v (by omega),bj v (by omega),aX,Az]
        have er:(de v).take (m+1)=(de v).take m++[v.drop m++v.take m]:=by
         rw [AI]
         unfold de
         rw [Ap,Dl (by omega)]
         rfl
        have ol:=on.len
        rw [Ad,Ad,Aj,bB] at ol
        have pt:=on.put (v.drop m++v.take m)
        rw [Am,← er] at pt
        refine ⟨_,rfl,_,rfl,l,_,rfl,.inl (SqL.of f5),rfl,gH _,_,rfl,?_⟩
        rw [pJ]
        by_cases q:v.drop m++v.take m∈F
        ·rw [if_pos q] at pt
         refine bZ (by simp [q]) ?_
         exact ⟨_,_,F,rfl,f5,p5,pt,s5⟩
        ·rw [if_neg q] at pt
         refine cM (by simp [q]) ?_
         refine ⟨_,rfl,.inl ⟨rfl,_,SqL.of f5⟩,_,rfl,l,_,_,rfl,rfl,f5,by rw [Ag];omega,?_⟩
         refine ⟨_,_,F++[v.drop m++v.take m],rfl,by rw [ah,AH];rfl,by rw [aD nlp.symm];exact p5,pt,fun b o e=>?_⟩
         rw [aD (nolp b o e)]
         exact s5 _ _ e
       ·rintro σ H5 ⟨b4,b5,F,rfl,f5,p5,on,s5⟩
        refine ⟨_,_,_,F,rfl,f5,p5,on.to fun x=>?_,s5⟩
        rw [show (de v).take v.length=de v from Aq (by rw [bB];omega),AI (i:=j),hv,Dk,← Am]
        simp
     ·rintro σ H4 ⟨b3,b4,b5,F,rfl,f4,p4,on,s4⟩
      refine ⟨_,_,_,_,F,rfl,f4,on.to fun x=>?_,s4⟩
      have et:R.take (i+1)=R.take i++[r]:=by rw [AI,hr];rfl
      rw [et,i3]
      simp
   ·rintro σ H1 ⟨b2,b3,b4,b5,F,rfl,f1,on,s1⟩
    rw [Aq (by simp)] at on
    have ee:F.map tx=(F.map toS).map V.str:=by rw [BD];rfl
    rw [ee] at f1
    refine ⟨_,rfl,l,F.map toS,rfl,SqL.of f1,fun l2 zs hl2 pm so=>?_⟩
    have ndF:(F.map toS).Nodup:=DK toS (fun a b h e=>h (cm e)) on.nd
    obtain ⟨V,rfl,oV,mV⟩:=jW (W:=F) (pm.nodup_iff.mpr ndF) so fun z=>pm.mem_iff
    refine k l2 V _ (s1.free hl2) oV (fun x=>(mV x).trans (on.mem x)) ?_ (s1.then hl2)
    rw [ah,BD]
    rfl
  ·refine ⟨_,rfl,a,_,rfl,.inl ⟨SqL.of (s0 _ _ ha),?_⟩⟩
   refine cy (xs:=R.map tx) (fun i σ H'=>∃ (b2 b3 b4 b5:Option V) (F:List (List L)),σ = [some (.ref a),some (.ref l),b2,b3,b4,b5]∧H' l=some (.lst (F.map tx))∧ix (trn (R.take i)) F∧aH H H') ⟨_,_,_,_,[],rfl,f0,ix.nil,s0⟩ (fun i σ H' _ ⟨_,_,_,_,_,_,_,_,q⟩=>SqL.of (q _ _ ha)) ?_ ?_
   ·rintro i x σ H1 hx ⟨b2,b3,b4,b5,F,rfl,f1,on,s1⟩
    rw [Ap] at hx
    cases hr:R[i]? with
    | none=>rw [hr] at hx;cases hx
    | some r =>
     rw [hr] at hx
     cases hx
     have hm:=hR.word r (AG hr)
     have hi:=(Ah.mp hr).1
     have hr1:=A6.mpr hm.1
     have lt:=gG (R:=R.take i) fun q hq=>hR.word q (BM hq)
     rw [Aj] at lt
     have hl1:(trn (R.take i)).length≤1260:=by omega
     have lb:=bO r
     refine ⟨_,rfl,_,rfl,r,rfl,by omega,fun H2 s2=>⟨(aK (n:=2) (by decide)),fun p hp=>?_⟩⟩
     have s3:aH H1 (upd H2 p (.tup [tx r,tx (bk r)])):=s2.then hp
     have f3:(upd H2 p (.tup [tx r,tx (bk r)])) p=some (.tup ([r,bk r].map tx)):=ah
     have g3:=s3 _ _ f1
     have nlp:l≠p:=au (s2 _ _ f1) hp
     have nolp:∀ b o,H b=some o→b≠l:=fun b o e=>au e hl
     show _
     generalize upd H2 p (.tup [tx r,tx (bk r)])=H3 at s3 f3 g3 ⊢
     refine ⟨p,rfl,⟨_,SqT.of f3⟩,?_⟩
     refine eS (xs:=[r,bk r].map tx) (fun j σ H'=>∃ (b3 b4 b5:Option V) (F:List (List L)),σ = [some (.ref a),some (.ref l),some (tx r),b3,b4,b5]∧H' l=some (.lst (F.map tx))∧H' p=some (.tup ([r,bk r].map tx))∧ix (trn (R.take i)++([r,bk r].take j).flatMap de) F∧aH H H') ⟨_,_,_,F,rfl,g3,f3,on.to fun x=>by simp,s1.trans s3⟩ (fun j σ H' _ ⟨_,_,_,_,_,_,q,_⟩=>SqT.of q) ?_ ?_
     ·rintro j x σ H4 hx ⟨b3,b4,b5,F,rfl,f4,p4,on,s4⟩
      rw [Ap] at hx
      cases hv:[r,bk r][j]? with
      | none=>rw [hv] at hx;cases hx
      | some v =>
       rw [hv] at hx
       cases hx
       have hj:j < 2:=(Ah.mp hv).1
       have hvl:v.length=r.length:=by
        have:=AG hv
        simp only [Aw,AE,BI] at this
        rcases this with rfl | rfl
        ·rfl
        ·exact lb
       have lv:=ae v
       refine ⟨_,rfl,_,rfl,by omega,_,rfl,by omega,by omega,?_⟩
       rw [lv,Az]
       have lm:((([r,bk r].take j).flatMap de)).length≤180:=by
        match j,hj with
        | 0,_=>simp
        | 1,_=>simp [bB];omega
       refine cG (lo:=0) (n:=v.length) (fun m σ H'=>∃ (b4 b5:Option V) (F:List (List L)),σ = [some (.ref a),some (.ref l),some (tx r),some (tx v),b4,b5]∧H' l=some (.lst (F.map tx))∧H' p=some (.tup ([r,bk r].map tx))∧ix ((trn (R.take i)++([r,bk r].take j).flatMap de)++(de v).take m) F∧aH H H') ⟨_,_,F,rfl,f4,p4,on.to fun x=>by simp,s4⟩ ?_ ?_
       ·rintro m σ H5 hm2 ⟨b4,b5,F,rfl,f5,p5,on,s5⟩
        rw [D1]
        refine ⟨_,rfl,_,rfl,_,rfl,_,rfl,by omega,_,rfl,_,rfl,_,rfl,_,rfl,by omega,_,_,rfl,rfl,?_,?_⟩
        ·have h1:=AY (toS v) (some (m:Int)) none
         have h2:=AY (toS v) none (some (m:Int))
         omega
        rw [ao,ao,ba v (by omega),bj v (by omega),aX,Az]
        have er:(de v).take (m+1)=(de v).take m++[v.drop m++v.take m]:=by
         rw [AI]
         unfold de
         rw [Ap,Dl (by omega)]
         rfl
        have ol:=on.len
        rw [Ad,Ad,Aj,bB] at ol
        have pt:=on.put (v.drop m++v.take m)
        rw [Am,← er] at pt
        refine ⟨_,rfl,_,rfl,l,_,rfl,.inl (SqL.of f5),rfl,gH _,_,rfl,?_⟩
        rw [pJ]
        by_cases q:v.drop m++v.take m∈F
        ·rw [if_pos q] at pt
         refine bZ (by simp [q]) ?_
         exact ⟨_,_,F,rfl,f5,p5,pt,s5⟩
        ·rw [if_neg q] at pt
         refine cM (by simp [q]) ?_
         refine ⟨_,rfl,.inl ⟨rfl,_,SqL.of f5⟩,_,rfl,l,_,_,rfl,rfl,f5,by rw [Ag];omega,?_⟩
         refine ⟨_,_,F++[v.drop m++v.take m],rfl,by rw [ah,AH];rfl,by rw [aD nlp.symm];exact p5,pt,fun b o e=>?_⟩
         rw [aD (nolp b o e)]
         exact s5 _ _ e
       ·rintro σ H5 ⟨b4,b5,F,rfl,f5,p5,on,s5⟩
        refine ⟨_,_,_,F,rfl,f5,p5,on.to fun x=>?_,s5⟩
        rw [show (de v).take v.length=de v from Aq (by rw [bB];omega),AI (i:=j),hv,Dk,← Am]
        simp
     ·rintro σ H4 ⟨b3,b4,b5,F,rfl,f4,p4,on,s4⟩
      refine ⟨_,_,_,_,F,rfl,f4,on.to fun x=>?_,s4⟩
      have et:R.take (i+1)=R.take i++[r]:=by rw [AI,hr];rfl
      rw [et,i3]
      simp
   ·rintro σ H1 ⟨b2,b3,b4,b5,F,rfl,f1,on,s1⟩
    rw [Aq (by simp)] at on
    have ee:F.map tx=(F.map toS).map V.str:=by rw [BD];rfl
    rw [ee] at f1
    refine ⟨_,rfl,l,F.map toS,rfl,SqL.of f1,fun l2 zs hl2 pm so=>?_⟩
    have ndF:(F.map toS).Nodup:=DK toS (fun a b h e=>h (cm e)) on.nd
    obtain ⟨V,rfl,oV,mV⟩:=jW (W:=F) (pm.nodup_iff.mpr ndF) so fun z=>pm.mem_iff
    refine k l2 V _ (s1.free hl2) oV (fun x=>(mV x).trans (on.mem x)) ?_ (s1.then hl2)
    rw [ah,BD]
    rfl
abbrev qa:Stmt:=top 29
theorem wR:aP ["_law_one","_law_other","_law_many"] ["_law_one","_law_other"] (aj qa):=⟨rfl,rfl,rfl,by decide +kernel,rfl,by decide +kernel,by decide +kernel⟩
theorem yD (D:Df K mg "_law_share" qa)(T:Bt K w mg aB):Fnc P w K mg base "_law_share" ["_law_one","_law_other"] 1 fc:=by
 have sc:=wR
 refine D.ok sc (fun _ _ _ _ _ _ us hl=>by obtain ⟨_,_,rfl⟩:=rT hl;rfl) (fun vs H Q E h=>?_) (fun f cdv A outer s H vs Q E hr h=>?_)
 ·obtain ⟨u,v,rfl,_⟩:=h
  rfl
 ·obtain ⟨u,v,rfl,hu,hv,k⟩:=h
  have l16:=a_
  refine ⟨_,(@ag _ _ _ _ _ (@ay _ _ (2) _ _ _ _ sc.nd rfl (Or.inl rfl) ai (by rfl) (by first | exact .inl rfl | exact .inr rfl | assumption)) (@ag _ _ _ _ _ (@fH _ _ _ _ _ _ AQ (@PW.pt _ _ _ (@jh _ _ _ _ _ _ _ (@aC _ _ _ _ _ _ _ _ iD (pv 2) (@aq _ _ _ _ _ _ _ _ _ (@nF _ rfl) (by rfl) T.min ye (@aa _ _ _ _ _ (@aq _ _ _ _ _ _ _ _ _ av (by rfl) T.len As (@aa _ _ _ _ _ (pv 0) af (by rfl)) (by decide) (by decide) (by rfl) (by rfl)) (@aa _ _ _ _ _ (@aq _ _ _ _ _ _ _ _ _ av (by rfl) T.len As (@aa _ _ _ _ _ (pv 1) af (by rfl)) (by decide) (by decide) (by rfl) (by rfl)) af (by rfl)) (by rfl)) (by decide) (by decide) (by rfl) (by rfl)) (aF _)) (@fU _ _ _ _ (@aC _ _ _ _ _ _ _ _ bD (@aw _ _ _ _ _ _ _ _ _ _ aR (pv 0) aG (@aA _ _ _ (@ax _ _ _ _ _ _ _ _ aQ (pv 2) ai))) (@aw _ _ _ _ _ _ _ _ _ _ aR (pv 1) aG (@aA _ _ _ (@ax _ _ _ _ _ _ _ _ aQ (pv 2) ai))) (aF _))))) (@ak _ _ _ (@ay _ _ (2) _ _ _ _ sc.nd rfl (Or.inl rfl) (@ax _ _ _ _ _ _ _ _ aQ (pv 2) ai) (by rfl) (by first | exact .inl rfl | exact .inr rfl | assumption)))) (@ak _ _ _ (@aN _ _ _ _ (@aw _ _ _ _ _ _ _ _ _ _ aR (pv 0) aG (@aA _ _ _ (pv 2))))))),?_⟩
  have lu:=ae u
  have lv:=ae v
  refine ⟨fun n σ H'=>∃ m:Nat,σ = [some (tx u),some (tx v),some (.int (m:Int))]∧H'=H∧m≤min u.length v.length∧u.take m=v.take m∧n=min u.length v.length - m,⟨_,0,rfl,rfl,BF _,rfl,rfl⟩,?_⟩
  rintro n σ H2 ⟨m,rfl,rfl,hm,e,rfl⟩
  refine ⟨_,rfl,_,rfl,_,rfl,by omega,_,rfl,_,rfl,by omega,_,_,rfl,_,_,rfl,rfl,_,rfl,?_⟩
  by_cases hlt:m < min u.length v.length
  ·refine cM (An (by rw [lu,lv];split <;> omega)) ?_
   refine ⟨_,rfl,_,rfl,_,_,rfl,rfl,_,rfl,_,rfl,by omega,_,rfl,_,rfl,_,_,rfl,rfl,_,rfl,_,rfl,by omega,rfl,_,rfl,?_⟩
   show if decide (V.str (Txt.slice (toS u) none (some ((m:Int)+1)))=V.str (Txt.slice (toS v) none (some ((m:Int)+1))))=true then _ else _
   rw [ao,ao,bj u (by omega),bj v (by omega),show ((m:Int)+1).toNat=m+1 by omega]
   have hx:=Ac (l:=u) (i:=m) (by omega)
   have hy:=Ac (l:=v) (i:=m) (by omega)
   by_cases q:u.take (m+1)=v.take (m+1)
   ·rw [if_pos (by rw [q];exact An rfl)]
    refine ⟨_,fun σ' H' q=>q,?_⟩
    refine ⟨_,rfl,_,_,rfl,rfl,min u.length v.length - (m+1),by omega,m+1,?_,rfl,hlt,q,rfl⟩
    show [some (tx u),some (tx v),some (V.int ((m:Int)+1))]=_
    rw [show (m:Int)+1=((m+1:Nat):Int) by omega]
   ·rw [if_neg (by rw [CS];exact fun z=>q (cm (V.str.inj z)))]
    refine ⟨_,rfl,_,rfl,_,rfl,_,rfl,by omega,?_⟩
    rw [ao,bj u (by omega),Az]
    have ne:u[m]'(by omega)≠v[m]'(by omega):=fun z=>q (by rw [AI,AI,e,hx,hy,z])
    rw [← lW e hx hy ne]
    exact k _ (aH.refl _)
  ·refine bZ (AF (by rw [lu,lv];split <;> omega)) (mM ?_)
   refine ⟨_,rfl,_,rfl,_,rfl,_,rfl,by omega,?_⟩
   have em:m=min u.length v.length:=by omega
   rw [ao,bj u (by omega),Az]
   rw [em] at e
   have e2:u.take m=u.take v.length:=by
    rw [em]
    rcases Nat.le_total u.length v.length with q | q
    ·rw [BJ q,Aq q,Aq (Al _)]
    ·rw [Cp q]
   rw [e2,← oS e]
   exact k _ (aH.refl _)
abbrev eN:Stmt:=top 30
theorem qb:aP ["_law_known","_law_turn","_law_other","_law_piece"] ["_law_known"] (aj eN):=⟨rfl,rfl,rfl,by decide +kernel,rfl,by decide +kernel,by decide +kernel⟩
theorem r6 (D:Df K mg "_law_thick" eN)(T:Bt K w mg aB)(F_lsh:Fnc P w K mg base "_law_share" ["_law_one","_law_other"] 1 fc):Fnc P w K mg base "_law_thick" ["_law_known"] 2 i4:=by
 have sc:=qb
 refine D.ok sc (fun _ _ _ _ _ _ us hl=>by obtain ⟨_,rfl⟩:=jZ hl;rfl) (fun vs H Q E h=>?_) (fun f cdv A outer s H vs Q E hr h=>?_)
 ·obtain ⟨l,V,rfl,_⟩:=h
  rfl
 ·obtain ⟨l,V,rfl,hl,hz,hw,kN,kS⟩:=h
  have l16:=a_
  refine ⟨_,(@ag _ _ _ _ _ (@bJ _ _ _ _ _ _ _ _ AQ rfl (@bU _ _ _ _ (pv 0)) (@aT _ _ (1) _ sc.nd rfl (Or.inl rfl) (by first | exact .inl rfl | exact .inr rfl | assumption)) (@ak _ _ _ (@bJ _ _ _ _ _ _ _ _ AQ rfl (@bU _ _ _ _ (pv 0)) (@aT _ _ (2) _ sc.nd rfl (Or.inl rfl) (by first | exact .inl rfl | exact .inr rfl | assumption)) (@ag _ _ _ _ _ (@ay _ _ (3) _ _ _ _ sc.nd rfl (Or.inl rfl) (@aE _ _ _ _ _ _ _ _ _ _ _ F_lsh hr (by decide) rfl (@aa _ _ _ _ _ (pv 1) (@aa _ _ _ _ _ (pv 2) af (by rfl)) (by rfl)) (by decide) (by rfl) (by rfl)) (by rfl) (by first | exact .inl rfl | exact .inr rfl | assumption)) (@ak _ _ _ (@bw _ _ _ _ _ _ _ _ (@PW.pt _ _ _ (@jh _ _ _ _ _ _ _ (@aC _ _ _ _ _ _ _ _ fX (pv 2) (pv 1) (aF _)) (@fU _ _ _ _ (@aC _ _ _ _ _ _ _ _ xH (@ax _ _ _ _ _ _ _ _ fg (@aq _ _ _ _ _ _ _ _ _ av (by rfl) T.len As (@aa _ _ _ _ _ (pv 3) af (by rfl)) (by decide) (by decide) (by rfl) (by rfl)) ai) (@aq _ _ _ _ _ _ _ _ _ av (by rfl) T.len As (@aa _ _ _ _ _ (pv 1) af (by rfl)) (by decide) (by decide) (by rfl) (by rfl)) (aF _))))) (@ak _ _ _ (@aN _ _ _ _ (@cg _ _ _ _ _ (@aa _ _ _ _ _ (pv 1) (@aa _ _ _ _ _ (pv 2) (@aa _ _ _ _ _ (pv 3) af (by rfl)) (by rfl)) (by rfl))))) aV))) (by intro _ ;rfl))) (by intro _ ;rfl)) (@ak _ _ _ (@aN _ _ _ _ je))),?_⟩
  refine ⟨_,rfl,l,rfl,⟨_,SqL.of hl⟩,?_⟩
  refine cy (xs:=V.map tx) (fun i σ H'=>∃ b1 b2 b3:Option L2.V,σ = [some (.ref l),b1,b2,b3]∧aH H H'∧∀ t∈V.take i,fnd V t=none) ⟨none,none,none,rfl,aH.refl _,fun t ht=>by cases ht⟩ (fun i σ H' _ ⟨_,_,_,_,q,_⟩=>SqL.of (q _ _ hl)) ?_ ?_
  ·rintro i x σ H1 hx ⟨b1,b2,b3,rfl,s1,no⟩
   rw [Ap] at hx
   cases ht:V[i]? with
   | none=>rw [ht] at hx;cases hx
   | some t =>
    rw [ht] at hx
    cases hx
    have wt:=hw t (AG ht)
    refine ⟨_,rfl,l,rfl,⟨_,SqL.of (s1 _ _ hl)⟩,?_⟩
    refine cy (xs:=V.map tx) (fun j σ H'=>∃ b2 b3:Option L2.V,σ = [some (.ref l),some (tx t),b2,b3]∧aH H H'∧∀ o∈V.take j,jN t o=false) ⟨_,_,rfl,s1,fun o ho=>by cases ho⟩ (fun i σ H' _ ⟨_,_,_,q,_⟩=>SqL.of (q _ _ hl)) ?_ ?_
    ·rintro j y σ H2 hy ⟨b2,b3,rfl,s2,no2⟩
     rw [Ap] at hy
     cases ho:V[j]? with
     | none=>rw [ho] at hy;cases hy
     | some o =>
      rw [ho] at hy
      cases hy
      have wo:=hw o (AG ho)
      refine ⟨_,rfl,_,rfl,t,o,rfl,wt,wo,fun H3 s3=>?_⟩
      have ll:=(dX t o).1.length_le
      have lc:=ae (lcp t o)
      have lt:=ae t
      have nxt:jN t o=false→∀ q∈V.take (j+1),jN t q=false:=fun z q hq=>by
       rw [AI,ho] at hq
       rcases Ax.mp hq with h | h
       ·exact no2 q h
       ·rw [Option.toList_some,Af] at h
        subst h
        exact z
      refine ⟨_,rfl,_,rfl,rfl,_,rfl,?_⟩
      by_cases eo:o=t
      ·refine bZ (by subst eo;simp) (mM ?_)
       exact ⟨_,_,rfl,s2.trans s3,nxt (by unfold jN;rw [AF (fun z=>z eo)];rfl)⟩
      ·refine cM (by simp;exact fun z=>eo (ie z)) ?_
       refine ⟨_,rfl,_,rfl,by omega,_,_,rfl,rfl,.inr ⟨by decide,by decide⟩,_,rfl,_,rfl,by omega,_,_,rfl,rfl,_,rfl,?_⟩
       rw [lc,lt]
       by_cases hs:t.length≤6*(lcp t o).length
       ·refine cM (An (by omega)) ?_
        have mt:jN t o=true:=by unfold jN;rw [An eo,An hs];rfl
        have hf:fnd V t=some o:=by
         unfold fnd
         obtain ⟨l1,e1⟩:=Ah.mp ho
         refine List.find?_eq_some_iff_getElem.mpr ⟨mt,j,l1,e1,fun q hq=>?_⟩
         rw [no2 _ (List.mem_take_iff_getElem.mpr ⟨q,by omega,rfl⟩)]
         rfl
        refine ⟨_,rfl,_,rfl,_,rfl,(aK (n:=3) (by decide)),fun p hp=>?_⟩
        exact kS _ p t o _ ((s2.trans s3).then hp) (mZ no ht hf) ah
       ·refine bZ (AF (by omega)) ?_
        exact ⟨_,_,rfl,s2.trans s3,nxt (by unfold jN;rw [AF hs,Ds])⟩
    ·rintro σ H2 ⟨b2,b3,rfl,s2,no2⟩
     rw [Aq (by simp)] at no2
     refine ⟨_,_,_,rfl,s2,fun q hq=>?_⟩
     rw [AI,ht] at hq
     rcases Ax.mp hq with h | h
     ·exact no q h
     ·rw [Option.toList_some,Af] at h
      subst h
      unfold fnd
      rw [List.find?_eq_none]
      intro o ho z
      rw [no2 o ho] at z
      cases z
  ·rintro σ H1 ⟨b1,b2,b3,rfl,s1,no⟩
   rw [Aq (by simp)] at no
   exact kN _ s1 (mY no)
abbrev eO:Stmt:=top 32
theorem qc:aP ["_law_feed_here","_law_most","_law_many","_law_rows","_law_some_here"] ["_law_feed_here","_law_most"] (aj eO):=⟨rfl,rfl,rfl,by decide +kernel,rfl,by decide +kernel,by decide +kernel⟩
theorem r9 (D:Df K mg "_law_rings" eO)(T:Bt K w mg aB)(F_draw:Fnc P w K mg base "_law_draw" ["_law_feed_here","_law_many"] 1 d_)(F_some:Fnc P w K mg base "_law_some" ["_law_feed_here","_law_many","_law_most"] 2 dZ)(F_mid:Fnc P w K mg base "_law_middle" ["_law_word"] 3 rX):Fnc P w K mg base "_law_rings" ["_law_feed_here","_law_most"] 4 i5:=by
 have sc:=qc
 refine D.ok sc (fun _ _ _ _ _ _ us hl=>by obtain ⟨_,_,rfl⟩:=rT hl;rfl) (fun vs H Q E h=>?_) (fun f cdv A outer s H vs Q E hr h=>?_)
 ·obtain ⟨d,n,rfl,_⟩:=h
  rfl
 ·obtain ⟨d,n,rfl,F0,hn,k⟩:=h
  have l16:=a_
  refine ⟨_,(@ag _ _ _ _ _ (@ay _ _ (2) _ _ _ _ sc.nd rfl (Or.inr rfl) (@ax _ _ _ _ _ _ _ _ aQ ai (@aE _ _ _ _ _ _ _ _ _ _ _ F_draw hr (by decide) rfl (@aa _ _ _ _ _ (pv 0) (@aa _ _ _ _ _ ai af (by rfl)) (by rfl)) (by decide) (by rfl) (by rfl))) (by rfl) (by first | exact .inl rfl | exact .inr rfl | assumption)) (@ag _ _ _ _ _ (@ay _ _ (3) _ _ _ _ sc.nd rfl (Or.inr rfl) (@aE _ _ _ _ _ _ _ _ _ _ _ F_draw hr (by decide) rfl (@aa _ _ _ _ _ (pv 0) (@aa _ _ _ _ _ ai af (by rfl)) (by rfl)) (by decide) (by rfl) (by rfl)) (by rfl) (by first | exact .inl rfl | exact .inr rfl | assumption)) (@ag _ _ _ _ _ (@iS _ (4) _ _ _ _ _ _ _ _ _ (["_law_k","_law_feed_here","_law_many","_law_most","_law_rows"]) (["_law_k"]) ([0,2,1,3]) _ _ _ _ sc.nd rfl (Or.inl rfl) (@cA _ _ _ _ _ _ rfl (by kernel_rfl)) rfl (@bz _ _ _ _ _ _ rfl T.range (@aa _ _ _ _ _ (pv 3) af (by rfl)) (by rfl)) (fun _ _ _ _=>@aT _ _ (0) _ (show (["_law_k","_law_feed_here","_law_many","_law_most","_law_rows"]:List Str).Nodup from by decide +kernel) rfl (Or.inl rfl) (by first | exact .inl rfl | exact .inr rfl | assumption)) (fun _ _ _ _=>bX) (fun _ _ _ _=>by (exact (@aE _ _ _ _ _ _ _ _ _ _ _ F_mid hr (by decide) rfl (@aa _ _ _ _ _ (@aE _ _ _ _ _ _ _ _ _ _ _ F_some hr (by decide) rfl (@aa _ _ _ _ _ (pv 1) (@aa _ _ _ _ _ (pv 2) (@aa _ _ _ _ _ (@bI _ _ _ _ _ _ _ _ (@aC _ _ _ _ _ _ _ _ iD (pv 4) ai (aF _)) (pv 3) ai) af (by rfl)) (by rfl)) (by rfl)) (by decide) (by rfl) (by rfl)) af (by rfl)) (by decide) (by rfl) (by rfl)))) (by intro _ ;rfl) (by rfl) (by first | exact .inl rfl | exact .inr rfl | assumption)) (@ak _ _ _ (@aN _ _ _ _ (@bA _ _ _ _ _ _ _ _ _ bW (by rfl) T.tuple e9 (@aa _ _ _ _ _ (@cF _ _ _ _ _ _ _ (["_law_one"]) (["_law_one"]) ([]) _ _ _ _ (@cA _ _ _ _ _ _ rfl (by kernel_rfl)) rfl (@bU _ _ _ _ (pv 4)) (fun _ _ _ _=>@aT _ _ (0) _ (show (["_law_one"]:List Str).Nodup from by decide +kernel) rfl (Or.inl rfl) (by first | exact .inl rfl | exact .inr rfl | assumption)) (fun _ _ _ _=>(@d8 _ _ _ (by exact (@aC _ _ _ _ _ _ _ _ fX (pv 0) aL (aF _))))) (fun _ _ _ _=>by (exact (pv 0))) (by intro _ ;rfl)) af (by rfl)) (by decide) (by decide) (by rfl) (by rfl))))))),?_⟩
  refine ⟨_,rfl,d,_,rfl,F0,by decide,by decide,fun r H1 r0 r1 F1 sb1=>⟨_,_,rfl,rfl,?_⟩⟩
  obtain ⟨m0,rfl⟩:=AW r0
  refine ⟨_,rfl,d,_,rfl,F1,by decide,by decide,fun r2 H2 r20 r21 F2 sb2=>?_⟩
  obtain ⟨n2,rfl⟩:=AW r20
  refine ⟨_,rfl,_,rfl,by omega,by omega,?_⟩
  rw [Az]
  refine ck (own:=["_law_k"]) (cap:=[0,2,1,3]) (J:=Itr 0 n2) n2 (fun j ys σ H'=>∃ (v:Option V) (W:List (List L)),σ = [v,some (.ref d),some (.int (1+(m0:Int))),some (.int (n:Int)),some (.int (n2:Int))]∧ys=W.map tx∧Wl j 10 W∧Fd H' d∧bE d H H') ⟨none,[],rfl,rfl,⟨Al _,fun v hv=>by cases hv⟩,F2,sb1.trans sb2⟩ (fun j ys σ H' hj ⟨_,W,_,e,wl,_⟩=>by rw [e,Ag];exact wl.1) (by omega) (fun j ys σ H' hj _=>hj) (fun ys σ H' _=>Al _) ?_ ?_
  ·rintro j ys σ HX x HY N hj ⟨v,W,rfl,rfl,wl,F3,sb3⟩ ⟨rfl,rfl⟩ hN
   refine ⟨_,rfl,_,rfl,_,rfl,_,_,rfl,rfl,_,rfl,kd (fun _=>?_) (fun _=>?_)⟩
   ·refine ⟨_,rfl,d,1+(m0:Int),(n:Int),rfl,F3,by omega,by omega,by omega,by omega,fun u H7 hu hI F7 sb7=>?_⟩
    have hu:u.length≤10:=Ck hu (by omega)
    refine ⟨u,rfl,by omega,fun fr md H8 _ hl hmem s8=>hN _ _ _ ⟨_,W++[md],rfl,by rw [AH];rfl,wl.snoc (by omega),F7.same s8,sb3.trans (sb7.trans s8.b)⟩⟩
   ·refine ⟨d,1+(m0:Int),3,rfl,F3,by omega,by omega,by decide,by decide,fun u H7 hu hI F7 sb7=>?_⟩
    have hu:u.length≤10:=Ck hu (by omega)
    refine ⟨u,rfl,by omega,fun fr md H8 _ hl hmem s8=>hN _ _ _ ⟨_,W++[md],rfl,by rw [AH];rfl,wl.snoc (by omega),F7.same s8,sb3.trans (sb7.trans s8.b)⟩⟩
  rintro ys σ H3 l ⟨v,W,rfl,rfl,wl,F3,sb3⟩ hl
  have s4:aH H3 (upd H3 l (.lst (W.map tx))):=aH.new hl
  have f4:(upd H3 l (.lst (W.map tx))) l=some (.lst (W.map tx)):=ah
  generalize upd H3 l (.lst (W.map tx))=H4 at s4 f4 ⊢
  have F4:=F3.same s4
  refine ⟨_,rfl,l,rfl,⟨_,SqL.of f4⟩,?_⟩
  have w7:=wl.1
  refine ck (own:=["_law_one"]) (cap:=[]) (J:=Itl K l) (W.map tx).length (fun j ys σ H'=>∃ (v:Option V) (V':List (List L)),σ = [v]∧ys=V'.map tx∧V'.length≤j∧(∀ x∈V',x≠[]∧x.length≤40)∧H'=H4) ⟨none,[],rfl,rfl,Al _,(fun v hv=>by cases hv),rfl⟩ (fun j ys σ H' hj ⟨_,V',_,e,e2,_⟩=>by rw [e,Ag];exact e2) (by rw [Ag];omega) (fun j ys σ H' hj ⟨_,_,_,_,_,_,e⟩=>?_) (fun ys σ H' ⟨_,_,_,_,_,_,e⟩=>?_) ?_ ?_
  ·rw [e];exact ⟨W.map tx,_,SqL.of f4,Ac hj⟩
  ·rw [e];exact ⟨W.map tx,SqL.of f4,Al _⟩
  ·rintro j ys σ HX x HY N hj ⟨v,V',rfl,rfl,hV,vm,rfl⟩ ⟨rfl,hx⟩ hN
   have hx:=hx _ (SqL.of f4)
   obtain ⟨u,hu,rfl⟩:∃ u,W[j]? = some u∧x=tx u:=by
    rw [Ap] at hx
    cases e:W[j]? with
    | none=>rw [e] at hx;cases hx
    | some u=>rw [e] at hx;exact ⟨u,rfl,(A9 hx).symm⟩
   have ul:=wl.2 u (AG hu)
   refine ⟨_,rfl,rfl,_,rfl,kd (fun h=>?_) (fun _=>hN _ _ _ ⟨_,V',rfl,rfl,by omega,vm,rfl⟩)⟩
   have ne:u≠[]:=fun z=>by subst z;rw [fj] at h;simp at h
   refine ⟨_,rfl,hN _ _ _ ⟨_,V'++[u],rfl,by rw [AH];rfl,by rw [Ad];simp;omega,fun x hx=>?_,rfl⟩⟩
   rcases Ax.mp hx with q | q
   ·exact vm x q
   ·rw [Af] at q
    subst q
    exact ⟨ne,by omega⟩
  rintro ys σ H5 l2 ⟨v,V',rfl,rfl,hV,vm,rfl⟩ hl2
  rw [Ag] at hV
  refine ⟨l2,_,rfl,.inl ⟨SqL.of ah,fun rg hrg=>?_⟩⟩
  have s9:aH H3 (upd (upd H5 l2 (.lst (V'.map tx))) rg (.tup (V'.map tx))):=s4.trans ((aH.new hl2).then hrg)
  exact k rg V' _ ⟨by omega,fun r hr=>⟨(vm r hr).1,by have:=(vm r hr).2;omega⟩⟩ (fun r hr=>(vm r hr).2) (by omega) ah (F3.same s9) (sb3.trans s9.b)
theorem qd {c:Prop}[Decidable c]{A:Prop}{D:gZ}{σ:L2.St}{H0:Hp}(ok:L2.St→Hp→Prop)(oB:ok σ H0)(main:∀ σ H,ok σ H→D.nx σ H)(hA:(∀ σ H,ok σ H→D.nx σ H)→A):if c then A else vD D σ H0:=by
 by_cases h:c
 ·rw [if_pos h];exact hA main
 ·rw [if_neg h];exact main σ H0 oB
abbrev gN:Stmt:=top 31
theorem r_:aP ["_law_feed_here","_law_way","_law_rings_here","_law_powers","_law_turned","_law_ring","_law_at","_law_fits"] ["_law_feed_here"] (aj gN):=⟨rfl,rfl,rfl,by decide +kernel,rfl,by decide +kernel,by decide +kernel⟩
theorem u9 (D:Df K mg "_law_thin" gN)(T:Bt K w mg aB)(F_draw:Fnc P w K mg base "_law_draw" ["_law_feed_here","_law_many"] 1 d_)(F_lback:Fnc P w K mg base "_law_back" ["_law_word"] 1 lQ)(F_some:Fnc P w K mg base "_law_some" ["_law_feed_here","_law_many","_law_most"] 2 dZ)(F_mid:Fnc P w K mg base "_law_middle" ["_law_word"] 3 rX)(F_ltof:Fnc P w K mg base "_law_turns_of" ["_law_rings_here"] 2 dJ)(F_lthick:Fnc P w K mg base "_law_thick" ["_law_known"] 2 i4):Fnc P w K mg base "_law_thin" ["_law_feed_here"] 4 kI:=by
 have sc:=r_
 refine D.ok sc (fun _ _ _ _ _ _ us hl=>by obtain ⟨_,rfl⟩:=jZ hl;rfl) (fun vs H Q E h=>?_) (fun f cdv A outer s H vs Q E hr h=>?_)
 ·obtain ⟨d,rfl,_⟩:=h
  rfl
 ·obtain ⟨d,rfl,F0,k⟩:=h
  have l16:=a_
  refine ⟨_,(@ag _ _ _ _ _ (@ay _ _ (1) _ _ _ _ sc.nd rfl (Or.inl rfl) (@aE _ _ _ _ _ _ _ _ _ _ _ F_draw hr (by decide) rfl (@aa _ _ _ _ _ (pv 0) (@aa _ _ _ _ _ ai af (by rfl)) (by rfl)) (by decide) (by rfl) (by rfl)) (by rfl) (by first | exact .inl rfl | exact .inr rfl | assumption)) (@ag _ _ _ _ _ (@ay _ _ (2) _ _ _ _ sc.nd rfl (Or.inl rfl) (@cg _ _ _ _ _ af) (by rfl) (by first | exact .inl rfl | exact .inr rfl | assumption)) (@ag _ _ _ _ _ (@bw _ _ _ _ _ _ _ _ (@aC _ _ _ _ _ _ _ _ bD (pv 1) ai (aF _)) (@ag _ _ _ _ _ (@iS _ (3) _ _ _ _ _ _ _ _ _ (["_law_sign","_law_feed_here"]) (["_law_sign"]) ([0]) _ _ _ _ sc.nd rfl (Or.inl rfl) (@cA _ _ _ _ _ _ rfl (by kernel_rfl)) rfl (@sU _ _ _ _ aL) (fun _ _ _ _=>@aT _ _ (0) _ (show (["_law_sign","_law_feed_here"]:List Str).Nodup from by decide +kernel) rfl (Or.inl rfl) (by first | exact .inl rfl | exact .inr rfl | assumption)) (fun _ _ _ _=>bX) (fun _ _ _ _=>by (exact @ax _ _ _ _ _ _ _ _ bo (by (exact (pv 0))) (by (exact @ax _ _ _ _ _ _ _ _ aQ (by (exact ai)) (by (exact (@aE _ _ _ _ _ _ _ _ _ _ _ F_draw hr (by decide) rfl (@aa _ _ _ _ _ (pv 1) (@aa _ _ _ _ _ ai af (by rfl)) (by rfl)) (by decide) (by rfl) (by rfl)))))))) (by intro _ ;rfl) (by rfl) (by first | exact .inl rfl | exact .inr rfl | assumption)) (@ak _ _ _ (@ay _ _ (2) _ _ _ _ sc.nd rfl (Or.inl rfl) (@aw _ _ _ _ _ _ _ _ _ _ kG (@bA _ _ _ _ _ _ _ _ _ bW (by rfl) T.tuple e9 (@aa _ _ _ _ _ (@ax _ _ _ _ _ _ _ _ lF (pv 3) (@bh _ _ _ _ (@aa _ _ _ _ _ (@ax _ _ _ _ _ _ _ _ bo aL (@ax _ _ _ _ _ _ _ _ aQ ai (@aE _ _ _ _ _ _ _ _ _ _ _ F_draw hr (by decide) rfl (@aa _ _ _ _ _ (pv 0) (@aa _ _ _ _ _ ai af (by rfl)) (by rfl)) (by decide) (by rfl) (by rfl)))) af (by rfl)))) af (by rfl)) (by decide) (by decide) (by rfl) (by rfl)) (@aA _ _ _ (@aE _ _ _ _ _ _ _ _ _ _ _ F_draw hr (by decide) rfl (@aa _ _ _ _ _ (pv 0) (@aa _ _ _ _ _ ai af (by rfl)) (by rfl)) (by decide) (by rfl) (by rfl))) aG) (by rfl) (by first | exact .inl rfl | exact .inr rfl | assumption)))) aV) (@ag _ _ _ _ _ (@bw _ _ _ _ _ _ _ _ (@aC _ _ _ _ _ _ _ _ bD (pv 1) ai (aF _)) (@ak _ _ _ (@ay _ _ (2) _ _ _ _ sc.nd rfl (Or.inl rfl) (@aw _ _ _ _ _ _ _ _ _ _ kG (@cg _ _ _ _ _ (@aa _ _ _ _ _ (@ax _ _ _ _ _ _ _ _ bo aL (@ax _ _ _ _ _ _ _ _ aQ ai (@aE _ _ _ _ _ _ _ _ _ _ _ F_draw hr (by decide) rfl (@aa _ _ _ _ _ (pv 0) (@aa _ _ _ _ _ ai af (by rfl)) (by rfl)) (by decide) (by rfl) (by rfl)))) (@aa _ _ _ _ _ (@ax _ _ _ _ _ _ _ _ bo aL (@ax _ _ _ _ _ _ _ _ aQ ai (@aE _ _ _ _ _ _ _ _ _ _ _ F_draw hr (by decide) rfl (@aa _ _ _ _ _ (pv 0) (@aa _ _ _ _ _ ai af (by rfl)) (by rfl)) (by decide) (by rfl) (by rfl)))) af (by rfl)) (by rfl))) (@aA _ _ _ (@aE _ _ _ _ _ _ _ _ _ _ _ F_draw hr (by decide) rfl (@aa _ _ _ _ _ (pv 0) (@aa _ _ _ _ _ ai af (by rfl)) (by rfl)) (by decide) (by rfl) (by rfl))) aG) (by rfl) (by first | exact .inl rfl | exact .inr rfl | assumption))) aV) (@ag _ _ _ _ _ (@bw _ _ _ _ _ _ _ _ (@aC _ _ _ _ _ _ _ _ bD (pv 1) ai (aF _)) (@ak _ _ _ (@ay _ _ (2) _ _ _ _ sc.nd rfl (Or.inl rfl) (@cg _ _ _ _ _ (@aa _ _ _ _ _ (@ax _ _ _ _ _ _ _ _ bo (@aE _ _ _ _ _ _ _ _ _ _ _ F_mid hr (by decide) rfl (@aa _ _ _ _ _ (@aE _ _ _ _ _ _ _ _ _ _ _ F_some hr (by decide) rfl (@aa _ _ _ _ _ (pv 0) (@aa _ _ _ _ _ ai (@aa _ _ _ _ _ ai af (by rfl)) (by rfl)) (by rfl)) (by decide) (by rfl) (by rfl)) af (by rfl)) (by decide) (by rfl) (by rfl)) (@ax _ _ _ _ _ _ _ _ aQ ai (@aE _ _ _ _ _ _ _ _ _ _ _ F_draw hr (by decide) rfl (@aa _ _ _ _ _ (pv 0) (@aa _ _ _ _ _ ai af (by rfl)) (by rfl)) (by decide) (by rfl) (by rfl)))) af (by rfl))) (by rfl) (by first | exact .inl rfl | exact .inr rfl | assumption))) aV) (@ag _ _ _ _ _ (@bw _ _ _ _ _ _ _ _ (@aC _ _ _ _ _ _ _ _ bD (pv 1) ai (aF _)) (@ak _ _ _ (@ay _ _ (2) _ _ _ _ sc.nd rfl (Or.inl rfl) (@cg _ _ _ _ _ (@aa _ _ _ _ _ (@ax _ _ _ _ _ _ _ _ bo aL (@ax _ _ _ _ _ _ _ _ aQ ai (@aE _ _ _ _ _ _ _ _ _ _ _ F_draw hr (by decide) rfl (@aa _ _ _ _ _ (pv 0) (@aa _ _ _ _ _ ai af (by rfl)) (by rfl)) (by decide) (by rfl) (by rfl)))) (@aa _ _ _ _ _ (@ax _ _ _ _ _ _ _ _ bo aL (@ax _ _ _ _ _ _ _ _ aQ ai (@aE _ _ _ _ _ _ _ _ _ _ _ F_draw hr (by decide) rfl (@aa _ _ _ _ _ (pv 0) (@aa _ _ _ _ _ ai af (by rfl)) (by rfl)) (by decide) (by rfl) (by rfl)))) (@aa _ _ _ _ _ (@ax _ _ _ _ _ _ _ _ bo aL (@ax _ _ _ _ _ _ _ _ aQ ai (@aE _ _ _ _ _ _ _ _ _ _ _ F_draw hr (by decide) rfl (@aa _ _ _ _ _ (pv 0) (@aa _ _ _ _ _ ai af (by rfl)) (by rfl)) (by decide) (by rfl) (by rfl)))) af (by rfl)) (by rfl)) (by rfl))) (by rfl) (by first | exact .inl rfl | exact .inr rfl | assumption))) aV) (@ag _ _ _ _ _ (@bw _ _ _ _ _ _ _ _ (@aC _ _ _ _ _ _ _ _ kj (pv 1) ai (aF _)) (@ag _ _ _ _ _ (@ay _ _ (2) _ _ _ _ sc.nd rfl (Or.inl rfl) (@cg _ _ _ _ _ (@aa _ _ _ _ _ (@aW _ _ _ _ _ _ _ cD (@bh _ _ _ _ (@aa _ _ _ _ _ aL (@aa _ _ _ _ _ aL (@aa _ _ _ _ _ aL (@aa _ _ _ _ _ aL af (by rfl)) (by rfl)) (by rfl)) (by rfl))) (@aE _ _ _ _ _ _ _ _ _ _ _ F_draw hr (by decide) rfl (@aa _ _ _ _ _ (pv 0) (@aa _ _ _ _ _ ai af (by rfl)) (by rfl)) (by decide) (by rfl) (by rfl)) (fun _ _=>rfl)) (@aa _ _ _ _ _ (@ax _ _ _ _ _ _ _ _ bo aL (@ax _ _ _ _ _ _ _ _ aQ ai (@aE _ _ _ _ _ _ _ _ _ _ _ F_draw hr (by decide) rfl (@aa _ _ _ _ _ (pv 0) (@aa _ _ _ _ _ ai af (by rfl)) (by rfl)) (by decide) (by rfl) (by rfl)))) af (by rfl)) (by rfl))) (by rfl) (by first | exact .inl rfl | exact .inr rfl | assumption)) (@ak _ _ _ (@ay _ _ (2) _ _ _ _ sc.nd rfl (Or.inl rfl) (@aw _ _ _ _ _ _ _ _ _ _ kG (pv 2) aG (@aA _ _ _ (@ax _ _ _ _ _ _ _ _ aQ ai (@aE _ _ _ _ _ _ _ _ _ _ _ F_draw hr (by decide) rfl (@aa _ _ _ _ _ (pv 0) (@aa _ _ _ _ _ ai af (by rfl)) (by rfl)) (by decide) (by rfl) (by rfl))))) (by rfl) (by first | exact .inl rfl | exact .inr rfl | assumption)))) aV) (@ag _ _ _ _ _ (@ay _ _ (4) _ _ _ _ sc.nd rfl (Or.inl rfl) (@bh _ _ _ _ af) (by rfl) (by first | exact .inl rfl | exact .inr rfl | assumption)) (@ag _ _ _ _ _ (@bJ _ _ _ _ _ _ _ _ AQ rfl (@lj _ _ _ _ (pv 2)) (@aT _ _ (5) _ sc.nd rfl (Or.inl rfl) (by first | exact .inl rfl | exact .inr rfl | assumption)) (@ag _ _ _ _ _ (@ay _ _ (6) _ _ _ _ sc.nd rfl (Or.inl rfl) (@aE _ _ _ _ _ _ _ _ _ _ _ F_draw hr (by decide) rfl (@aa _ _ _ _ _ (pv 0) (@aa _ _ _ _ _ (@ax _ _ _ _ _ _ _ _ aQ (@aq _ _ _ _ _ _ _ _ _ av (by rfl) T.len As (@aa _ _ _ _ _ (pv 5) af (by rfl)) (by decide) (by decide) (by rfl) (by rfl)) ai) af (by rfl)) (by rfl)) (by decide) (by rfl) (by rfl)) (by rfl) (by first | exact .inl rfl | exact .inr rfl | assumption)) (@ak _ _ _ (@cN _ _ _ _ (@gi _ _ _ _ _ _ _ _ _ _ _ _ Bc Bq Br cj (pv 4) (@aa _ _ _ _ _ (@aW _ _ _ _ _ _ _ cD (@bh _ _ _ _ (@aa _ _ _ _ _ (@ax _ _ _ _ _ _ _ _ az (@aw _ _ _ _ _ _ _ _ _ _ aR (pv 5) (@aA _ _ _ (pv 6)) aG) (@aw _ _ _ _ _ _ _ _ _ _ aR (pv 5) aG (@aA _ _ _ (pv 6)))) (@aa _ _ _ _ _ (@aE _ _ _ _ _ _ _ _ _ _ _ F_lback hr (by decide) rfl (@aa _ _ _ _ _ (@ax _ _ _ _ _ _ _ _ az (@aw _ _ _ _ _ _ _ _ _ _ aR (pv 5) (@aA _ _ _ (pv 6)) aG) (@aw _ _ _ _ _ _ _ _ _ _ aR (pv 5) aG (@aA _ _ _ (pv 6)))) af (by rfl)) (by decide) (by rfl) (by rfl)) af (by rfl)) (by rfl))) (@aE _ _ _ _ _ _ _ _ _ _ _ F_draw hr (by decide) rfl (@aa _ _ _ _ _ (pv 0) (@aa _ _ _ _ _ ai af (by rfl)) (by rfl)) (by decide) (by rfl) (by rfl)) (fun _ _=>rfl)) af (by rfl)) (by rfl) (by rfl) (by rfl) (by rfl) (by rfl)) (by rfl)))) (by intro _ ;rfl)) (@ag _ _ _ _ _ (@ay _ _ (7) _ _ _ _ sc.nd rfl (Or.inl rfl) (@fV _ _ _ _ _ _ _ (@bq _ _ _ _ _ _ _ _ (@dH _ (K) rfl) aL (pv 4) rfl) (@d2 _ _ _ _ _ (@bq _ _ _ _ _ _ _ _ sP (@aE _ _ _ _ _ _ _ _ _ _ _ F_lthick hr (by decide) rfl (@aa _ _ _ _ _ (@aE _ _ _ _ _ _ _ _ _ _ _ F_ltof hr (by decide) rfl (@aa _ _ _ _ _ (pv 4) af (by rfl)) (by decide) (by rfl) (by rfl)) af (by rfl)) (by decide) (by rfl) (by rfl)) je (aF _)))) (by rfl) (by first | exact .inl rfl | exact .inr rfl | assumption)) (@ak _ _ _ (@aN _ _ _ _ (@bI _ _ _ _ _ _ _ _ (@cO _ _ _ (pv 7) (fun _=>rfl)) (@bA _ _ _ _ _ _ _ _ _ bW (by rfl) T.tuple e9 (@aa _ _ _ _ _ (pv 4) af (by rfl)) (by decide) (by decide) (by rfl) (by rfl)) (@cg _ _ _ _ _ af)))))))))))))),?_⟩
  refine ⟨_,rfl,d,_,rfl,F0,by decide,by decide,fun r H1 r0 r1 F1 sb1=>?_⟩
  refine ⟨(aK (n:=0) (by decide)),fun q0 hq0=>?_⟩
  have ok0:∃ (q:Addr) (W:List (List L)) (b3:Option V),[some (.ref d),some (.int r),some (.ref q0),none,none,none,none,none]=[some (V.ref d),some (.int r),some (.ref q),b3,none,none,none,none]∧(upd H1 q0 (.tup [])) q=some (.tup (W.map tx))∧Wl 6 40 W∧Fd (upd H1 q0 (.tup [])) d∧bE d H (upd H1 q0 (.tup [])) :=
   ⟨q0,[],none,rfl,ah,⟨by simp,fun v hv=>by cases hv⟩,F1.new hq0,sb1.trans (aH.new hq0).b⟩
  refine ⟨_,rfl,rfl,_,rfl,qd (fun σ H'=>∃ (q:Addr) (W:List (List L)) (b3:Option V),σ = [some (.ref d),some (.int r),some (.ref q),b3,none,none,none,none]∧H' q=some (.tup (W.map tx))∧Wl 6 40 W∧Fd H' d∧bE d H H') ok0 ?_ (fun main=>?_)⟩
  rotate_left
  ·-- powers
   have F2:=F1.new (a:=q0) (o:=.tup []) hq0
   have sb2:=sb1.trans (aH.new (o:=.tup []) hq0).b
   generalize upd H1 q0 (.tup [])=H2 at F2 sb2 ⊢
   refine ⟨_,rfl,?_⟩
   refine ck (own:=["_law_sign"]) (cap:=[0]) (J:=Its (Str.ofString "abcde")) 5 (fun j ys σ H'=>∃ (v:Option V) (W:List (List L)),σ = [v,some (.ref d)]∧ys=W.map tx∧Wl j 40 W∧Fd H' d∧bE d H H') ⟨none,[],rfl,rfl,⟨Al _,fun v hv=>by cases hv⟩,F2,sb2⟩ (fun j ys σ H' hj ⟨_,W,_,e,wl,_⟩=>by rw [e,Ag];exact wl.1) (by omega) (fun j ys σ H' hj _=>hj) (fun ys σ H' _=>rfl) ?_ ?_
   ·rintro j ys σ HX x HY N hj ⟨v,W,rfl,rfl,wl,F3,sb3⟩ ⟨rfl,c,hc,rfl⟩ hN
    obtain ⟨x,ex⟩:∃ x:L,c=cp x:=by
     match j,hj with
     | 0,_=>exact ⟨0,A9 (hc.symm.trans (by decide +kernel:(Str.ofString "abcde").cps[0]? = some (cp 0)))⟩
     | 1,_=>exact ⟨1,A9 (hc.symm.trans (by decide +kernel:(Str.ofString "abcde").cps[1]? = some (cp 1)))⟩
     | 2,_=>exact ⟨2,A9 (hc.symm.trans (by decide +kernel:(Str.ofString "abcde").cps[2]? = some (cp 2)))⟩
     | 3,_=>exact ⟨3,A9 (hc.symm.trans (by decide +kernel:(Str.ofString "abcde").cps[3]? = some (cp 3)))⟩
     | 4,_=>exact ⟨4,A9 (hc.symm.trans (by decide +kernel:(Str.ofString "abcde").cps[4]? = some (cp 4)))⟩
    subst ex
    refine ⟨_,rfl,_,rfl,d,_,rfl,F3,by decide,by decide,fun p H4 p0 p1 F4 sb4=>⟨_,_,rfl,rfl,?_⟩⟩
    obtain ⟨mo,u,eu,hu⟩:=cW (z:=⟨#[cp x]⟩) (w:=[x]) rfl (n:=7+p) (by omega) (by omega) (by simp) (by simp;omega)
    refine ⟨_,_,rfl,rfl,mo,?_⟩
    rw [eu]
    exact hN _ _ _ ⟨_,W++[u],rfl,by rw [AH];rfl,wl.snoc hu,F4,sb3.trans sb4⟩
   rintro ys σ H3 l ⟨v,W,rfl,rfl,wl,F3,sb3⟩ hl
   have s4:aH H3 (upd H3 l (.lst (W.map tx))):=aH.new hl
   have f4:(upd H3 l (.lst (W.map tx))) l=some (.lst (W.map tx)):=ah
   generalize upd H3 l (.lst (W.map tx))=H4 at s4 f4 ⊢
   have F4:=F3.same s4
   have sb4:=sb3.trans s4.b
   refine ⟨_,rfl,_,rfl,d,_,rfl,F4,by decide,by decide,fun p H5 p0 p1 F5 sb5=>⟨_,_,rfl,rfl,?_⟩⟩
   obtain ⟨mo,u,eu,hu⟩:=cW rO (n:=2+p) (by omega) (by omega) (by decide) (by simp;omega)
   refine ⟨_,_,rfl,rfl,mo,?_⟩
   rw [eu]
   have f5:=sb5 _ _ (F4.nl f4) f4
   refine ⟨(aK (n:=1) (by decide)),fun l2 hl2=>?_⟩
   refine ⟨l,l2,_,_,rfl,rfl,(aH.new hl2) _ _ f5,ah,(by rw [Ag];have:=wl.1;show _+1≤_;omega),fun l3 hl3=>?_⟩
   have ew:W.map tx++[tx u]=(W++[u]).map tx:=by rw [AH];rfl
   rw [ew]
   refine ⟨l3,_,rfl,.inl ⟨SqL.of ah,fun rg hrg=>?_⟩⟩
   have s6:aH H5 (upd (upd (upd H5 l2 (.lst [tx u])) l3 (.lst ((W++[u]).map tx))) rg (.tup ((W++[u]).map tx))):=((aH.new hl2).then hl3).then hrg
   have f6:(upd (upd (upd H5 l2 (.lst [tx u])) l3 (.lst ((W++[u]).map tx))) rg (.tup ((W++[u]).map tx))) rg=some (.tup ((W++[u]).map tx)):=ah
   generalize upd (upd (upd H5 l2 (.lst [tx u])) l3 (.lst ((W++[u]).map tx))) rg (.tup ((W++[u]).map tx))=H6 at s6 f6 ⊢
   have F6:=F5.same s6
   refine ⟨_,rfl,d,_,rfl,F6,by decide,by decide,fun p2 H7 p20 p21 F7 sb7=>?_⟩
   refine ⟨_,rfl,rg,_,rfl,sb7 _ _ (F6.neT f6) f6,fun p3 H8 s8 f8=>?_⟩
   obtain ⟨W',e',l',m'⟩:=fQ (W++[u]) (some p2) none
   rw [e'] at f8
   exact main _ _ ⟨p3,W',_,rfl,f8,(wl.snoc hu).cut l' m',F7.same s8,sb4.trans (sb5.trans (s6.b.trans (sb7.trans s8.b)))⟩
  rintro σ H2 ⟨q,W,b3,rfl,hq,wl,F2,sb2⟩
  refine ⟨_,rfl,rfl,_,rfl,qd (fun σ H'=>∃ (q:Addr) (W:List (List L)) (b3:Option V),σ = [some (.ref d),some (.int r),some (.ref q),b3,none,none,none,none]∧H' q=some (.tup (W.map tx))∧Wl 6 40 W∧Fd H' d∧bE d H H') ⟨q,W,b3,rfl,hq,wl,F2,sb2⟩ ?_ (fun main=>?_)⟩
  rotate_left
  ·skip
   refine ⟨_,rfl,d,_,rfl,F2,by decide,by decide,fun p3 H3 p30 p31 F3 sb3=>⟨_,_,rfl,rfl,?_⟩⟩
   obtain ⟨mo3,u3,eu3,hu3⟩:=cW wG (n:=1+p3) (by omega) (by omega) (by decide) (by simp;omega)
   refine ⟨_,_,rfl,rfl,mo3,?_⟩
   rw [eu3]
   refine ⟨_,rfl,d,_,rfl,F3,by decide,by decide,fun p4 H4 p40 p41 F4 sb4=>⟨_,_,rfl,rfl,?_⟩⟩
   obtain ⟨mo4,u4,eu4,hu4⟩:=cW yn (n:=1+p4) (by omega) (by omega) (by decide) (by simp;omega)
   refine ⟨_,_,rfl,rfl,mo4,?_⟩
   rw [eu4]
   refine ⟨(aK (n:=2) (by decide)),fun q5 hq5=>?_⟩
   have s5:aH H4 (upd H4 q5 (.tup [tx u3,tx u4])):=aH.new hq5
   have f5:(upd H4 q5 (.tup [tx u3,tx u4])) q5=some (.tup ([u3,u4].map tx)):=ah
   generalize upd H4 q5 (.tup [tx u3,tx u4])=H5 at s5 f5 ⊢
   have F5:=F4.same s5
   refine ⟨_,rfl,d,_,rfl,F5,by decide,by decide,fun p6 H6 p60 p61 F6 sb6=>?_⟩
   refine ⟨_,rfl,q5,_,rfl,sb6 _ _ (F5.neT f5) f5,fun q7 H7 s7 f7=>?_⟩
   obtain ⟨W',e',l',m'⟩:=fQ [u3,u4] (some p6) none
   rw [e'] at f7
   have w0:Wl 6 40 [u3,u4]:=⟨by simp,fun v hv=>by simp only [Aw,AE,BI] at hv;rcases hv with rfl | rfl <;> assumption⟩
   exact main _ _ ⟨q7,W',_,rfl,f7,w0.cut l' m',F6.same s7,sb2.trans (sb3.trans (sb4.trans (s5.b.trans (sb6.trans s7.b))))⟩
  rintro σ H2 ⟨q,W,b3,rfl,hq,wl,F2,sb2⟩
  refine ⟨_,rfl,rfl,_,rfl,qd (fun σ H'=>∃ (q:Addr) (W:List (List L)) (b3:Option V),σ = [some (.ref d),some (.int r),some (.ref q),b3,none,none,none,none]∧H' q=some (.tup (W.map tx))∧Wl 6 40 W∧Fd H' d∧bE d H H') ⟨q,W,b3,rfl,hq,wl,F2,sb2⟩ ?_ (fun main=>?_)⟩
  rotate_left
  ·skip
   refine ⟨_,rfl,d,3,3,rfl,F2,by decide,by decide,by decide,by decide,fun u H3 hu hI F3 sb3=>?_⟩
   have hu:u.length≤3:=hu
   refine ⟨u,rfl,by omega,fun fr md H4 _ hl hmem s4=>?_⟩
   have F4:=F3.same s4
   refine ⟨_,rfl,d,_,rfl,F4,by decide,by decide,fun p5 H5 p50 p51 F5 sb5=>⟨_,_,rfl,rfl,?_⟩⟩
   obtain ⟨mo5,u5,eu5,hu5⟩:=cW (z:=toS md) (w:=md) rfl (n:=7+p5) (by omega) (by omega) (by omega) (by
    have h4:md.length=0 ∨ md.length=1 ∨ md.length=2 ∨ md.length=3:=by omega
    rcases h4 with h | h | h | h <;> rw [h] <;> omega)
   refine ⟨_,_,rfl,rfl,mo5,?_⟩
   rw [eu5]
   refine ⟨(aK (n:=1) (by decide)),fun q6 hq6=>?_⟩
   exact main _ _ ⟨q6,[u5],_,rfl,ah,⟨by simp,fun v hv=>by rw [Af] at hv;subst hv;exact hu5⟩,F5.new hq6,sb2.trans (sb3.trans (s4.b.trans (sb5.trans (aH.new hq6).b)))⟩
  rintro σ H2 ⟨q,W,b3,rfl,hq,wl,F2,sb2⟩
  refine ⟨_,rfl,rfl,_,rfl,qd (fun σ H'=>∃ (q:Addr) (W:List (List L)) (b3:Option V),σ = [some (.ref d),some (.int r),some (.ref q),b3,none,none,none,none]∧H' q=some (.tup (W.map tx))∧Wl 6 40 W∧Fd H' d∧bE d H H') ⟨q,W,b3,rfl,hq,wl,F2,sb2⟩ ?_ (fun main=>?_)⟩
  rotate_left
  ·skip
   refine ⟨_,rfl,d,_,rfl,F2,by decide,by decide,fun p3 H3 p30 p31 F3 sb3=>⟨_,_,rfl,rfl,?_⟩⟩
   obtain ⟨mo3,u3,eu3,hu3⟩:=cW wG (n:=7+p3) (by omega) (by omega) (by decide) (by simp;omega)
   refine ⟨_,_,rfl,rfl,mo3,?_⟩
   rw [eu3]
   refine ⟨_,rfl,d,_,rfl,F3,by decide,by decide,fun p4 H4 p40 p41 F4 sb4=>⟨_,_,rfl,rfl,?_⟩⟩
   obtain ⟨mo4,u4,eu4,hu4⟩:=cW ym (n:=7+p4) (by omega) (by omega) (by decide) (by simp;omega)
   refine ⟨_,_,rfl,rfl,mo4,?_⟩
   rw [eu4]
   refine ⟨_,rfl,d,_,rfl,F4,by decide,by decide,fun p5 H5 p50 p51 F5 sb5=>⟨_,_,rfl,rfl,?_⟩⟩
   obtain ⟨mo5,u5,eu5,hu5⟩:=cW tu (n:=4+p5) (by omega) (by omega) (by decide) (by simp;omega)
   refine ⟨_,_,rfl,rfl,mo5,?_⟩
   rw [eu5]
   refine ⟨(aK (n:=3) (by decide)),fun q6 hq6=>?_⟩
   exact main _ _ ⟨q6,[u3,u4,u5],_,rfl,ah,⟨by simp,fun v hv=>by simp only [Aw,AE,BI] at hv;rcases hv with rfl | rfl | rfl <;> assumption⟩,F5.new hq6,sb2.trans (sb3.trans (sb4.trans (sb5.trans (aH.new hq6).b)))⟩
  rintro σ H2 ⟨q,W,b3,rfl,hq,wl,F2,sb2⟩
  refine ⟨_,rfl,_,_,rfl,rfl,_,rfl,qd (fun σ H'=>∃ (q:Addr) (W:List (List L)) (b3:Option V),σ = [some (.ref d),some (.int r),some (.ref q),b3,none,none,none,none]∧H' q=some (.tup (W.map tx))∧Wl 6 40 W∧Fd H' d∧bE d H H') ⟨q,W,b3,rfl,hq,wl,F2,sb2⟩ ?_ (fun main=>?_)⟩
  rotate_left
  ·refine ⟨(aK (n:=4) (by decide)),fun l3 hl3=>?_⟩
   have s3:aH H2 (upd H2 l3 (.lst [V.str (Str.ofString "abABcdCD"),.str (Str.ofString "abcdABCD"),.str (Str.ofString "aabbccdd"),.str (Str.ofString "abcABdCD")])):=aH.new hl3
   have f3:(upd H2 l3 (.lst [V.str (Str.ofString "abABcdCD"),.str (Str.ofString "abcdABCD"),.str (Str.ofString "aabbccdd"),.str (Str.ofString "abcABdCD")])) l3=some (.lst [V.str (Str.ofString "abABcdCD"),.str (Str.ofString "abcdABCD"),.str (Str.ofString "aabbccdd"),.str (Str.ofString "abcABdCD")]):=ah
   generalize upd H2 l3 (.lst [V.str (Str.ofString "abABcdCD"),.str (Str.ofString "abcdABCD"),.str (Str.ofString "aabbccdd"),.str (Str.ofString "abcABdCD")])=H3 at s3 f3 ⊢
   have F3:=F2.same s3
   refine ⟨_,rfl,d,_,rfl,F3,by decide,by decide,fun p4 H4 p40 p41 F4 sb4=>?_⟩
   have hat:∃ w0:List L,atI [V.str (Str.ofString "abABcdCD"),.str (Str.ofString "abcdABCD"),.str (Str.ofString "aabbccdd"),.str (Str.ofString "abcABdCD")] p4=some (tx w0)∧w0.length≤40:=by
    obtain ⟨k4,rfl⟩:=AW p40
    match k4,(show k4 < 4 by omega) with
    | 0,_=>exact ⟨_,(bP (j:=0) rfl).trans (C3 (fun z=>some (V.str z)) yp),by decide⟩
    | 1,_=>exact ⟨_,(bP (j:=1) rfl).trans (C3 (fun z=>some (V.str z)) yq),by decide⟩
    | 2,_=>exact ⟨_,(bP (j:=2) rfl).trans (C3 (fun z=>some (V.str z)) yr),by decide⟩
    | 3,_=>exact ⟨_,(bP (j:=3) rfl).trans (C3 (fun z=>some (V.str z)) yt),by decide⟩
   obtain ⟨w0,hat,hw0⟩:=hat
   refine ⟨l3,_,_,_,rfl,rfl,SqL.of (sb4 _ _ (F3.nl f3) f3),hat,?_⟩
   refine ⟨_,rfl,d,_,rfl,F4,by decide,by decide,fun p5 H5 p50 p51 F5 sb5=>⟨_,_,rfl,rfl,?_⟩⟩
   obtain ⟨mo5,u5,eu5,hu5⟩:=cW yo (n:=1+p5) (by omega) (by omega) (by decide) (by simp;omega)
   refine ⟨_,_,rfl,rfl,mo5,?_⟩
   rw [eu5]
   refine ⟨(aK (n:=2) (by decide)),fun q6 hq6=>?_⟩
   have s6:aH H5 (upd H5 q6 (.tup [tx w0,tx u5])):=aH.new hq6
   have f6:(upd H5 q6 (.tup [tx w0,tx u5])) q6=some (.tup ([w0,u5].map tx)):=ah
   generalize upd H5 q6 (.tup [tx w0,tx u5])=H6 at s6 f6 ⊢
   have F6:=F5.same s6
   refine ⟨_,rfl,_,rfl,d,_,rfl,F6,by decide,by decide,fun p7 H7 p70 p71 F7 sb7=>⟨_,_,rfl,rfl,?_⟩⟩
   refine ⟨_,rfl,q6,_,rfl,sb7 _ _ (F6.neT f6) f6,fun q8 H8 s8 f8=>?_⟩
   obtain ⟨W',e',l',m'⟩:=fQ [w0,u5] none (some (1+p7))
   rw [e'] at f8
   have w0':Wl 6 40 [w0,u5]:=⟨by simp,fun v hv=>by simp only [Aw,AE,BI] at hv;rcases hv with rfl | rfl <;> assumption⟩
   exact main _ _ ⟨q8,W',_,rfl,f8,w0'.cut l' m',F7.same s8,sb2.trans (s3.b.trans (sb4.trans (sb5.trans (s6.b.trans (sb7.trans s8.b)))))⟩
  rintro σ H2 ⟨q,W,b3,rfl,hq,wl,F2,sb2⟩
  refine ⟨(aK (n:=0) (by decide)),fun l hl=>?_⟩
  have s3:aH H2 (upd H2 l (.lst [])):=aH.new hl
  have f3:(upd H2 l (.lst [])) l=some (.lst (([]:List (List L)).map tx)):=ah
  generalize upd H2 l (.lst [])=H3 at s3 f3 ⊢
  have F3:=F2.same s3
  refine ⟨_,rfl,q,rfl,⟨_,SqT.of (s3 _ _ hq)⟩,?_⟩
  refine eS (xs:=W.map tx) (fun j σ H'=>∃ (b5 b6:Option V) (V':List (List L)),σ = [some (.ref d),some (.int r),some (.ref q),b3,some (.ref l),b5,b6,none]∧H' q=some (.tup (W.map tx))∧H' l=some (.lst (V'.map tx))∧Wl j 40 V'∧Fd H' d∧bE d H H'∧l≠d∧q≠l) ⟨none,none,[],rfl,s3 _ _ hq,f3,⟨Al _,fun v hv=>by cases hv⟩,F3,sb2.trans s3.b,F3.nl f3,au hq hl⟩ (fun j σ H' _ ⟨_,_,_,_,e,_⟩=>SqT.of e) ?_ ?_
  ·rintro j x σ H4 hx ⟨b5,b6,V',rfl,q4,f4,vl,F4,sb4,nld,nql⟩
   rw [Ap] at hx
   cases hv:W[j]? with
   | none=>rw [hv] at hx;cases hx
   | some v =>
    rw [hv] at hx
    cases hx
    have lv:=wl.2 v (AG hv)
    have lz:=ae v
    have hj:=(Ah.mp hv).1
    have w6:=wl.1
    refine ⟨_,rfl,_,rfl,_,rfl,by omega,_,_,rfl,rfl,d,_,rfl,F4,by omega,by omega,fun p5 H5 p50 p51 F5 sb5=>?_⟩
    have f5:=sb5 _ _ nld f4
    have q5:=sb5 _ _ (F4.neT q4) q4
    refine ⟨_,rfl,.inl ⟨rfl,_,SqL.of f5⟩,?_⟩
    refine ⟨_,rfl,_,rfl,_,rfl,_,rfl,by omega,_,rfl,_,rfl,_,rfl,_,rfl,by omega,_,_,rfl,rfl,?_,?_⟩
    ·have h1:=AY (toS v) (some p5) none
     have h2:=AY (toS v) none (some p5)
     omega
    rw [ao,ao,ba v p50,bj v p50,aX]
    have lw:(v.drop p5.toNat++v.take p5.toNat).length=v.length:=by rw [Ad,AA,Aj];omega
    refine ⟨_,rfl,_,rfl,_,rfl,_,rfl,by omega,_,rfl,_,rfl,_,rfl,_,rfl,by omega,_,_,rfl,rfl,?_,?_⟩
    ·have h1:=AY (toS v) (some p5) none
     have h2:=AY (toS v) none (some p5)
     omega
    rw [ao,ao,ba v p50,bj v p50,aX]
    generalize v.drop p5.toNat++v.take p5.toNat=y at lw ⊢
    refine ⟨y,rfl,by omega,fun H6 s6=>⟨(aK (n:=2) (by decide)),fun l7 hl7=>?_⟩⟩
    have s7:aH H5 (upd H6 l7 (.lst [tx y,tx (bk y)])):=s6.then hl7
    have f7:(upd H6 l7 (.lst [tx y,tx (bk y)])) l7=some (.lst [tx y,tx (bk y)]):=ah
    generalize upd H6 l7 (.lst [tx y,tx (bk y)])=H7 at s7 f7 ⊢
    have F7:=F5.same s7
    refine ⟨_,rfl,d,_,rfl,F7,by decide,by decide,fun p8 H8 p80 p81 F8 sb8=>?_⟩
    have hat:∃ y':List L,atI [tx y,tx (bk y)] p8=some (tx y')∧y'.length≤40:=by
     obtain ⟨k8,rfl⟩:=AW p80
     match k8,(show k8 < 2 by omega) with
     | 0,_=>exact ⟨y,bP (j:=0) rfl,by omega⟩
     | 1,_=>exact ⟨bk y,bP (j:=1) rfl,by rw [bO];omega⟩
    obtain ⟨y',hat,hy'⟩:=hat
    refine ⟨l7,_,_,_,rfl,rfl,SqL.of (sb8 _ _ (F7.nl f7) f7),hat,?_⟩
    have f8:=sb8 _ _ nld (s7 _ _ f5)
    have q8:=sb8 _ _ (F7.neT (s7 _ _ q5)) (s7 _ _ q5)
    refine ⟨l,_,_,rfl,rfl,f8,by rw [Ag];have:=vl.1;omega,?_⟩
    refine ⟨_,_,V'++[y'],rfl,by rw [aD nql];exact q8,by rw [ah,AH];rfl,vl.snoc hy',?_,?_,nld,nql⟩
    ·exact uJ F8 f8 nld
    ·intro b o nb e
     have e2:=sb2 _ _ nb e
     rw [aD (au e2 hl)]
     exact sb8 _ _ nb (s7 _ _ (sb5 _ _ nb (sb4 _ _ nb e)))
  ·rintro σ H4 ⟨b5,b6,V',rfl,q4,f4,vl,F4,sb4,nld,nql⟩
   have no:∀ H5,Fd H5 d→bE d H H5→∀ q5,H5 q5=none→Q (.ref q5) (upd H5 q5 (.tup [])):=fun H5 F5 sb5 q5 hq5=>k q5 [] _ ⟨by simp,fun r hr=>by cases hr⟩ (fun r hr=>by cases hr) (by simp) ah (F5.new hq5) (sb5.trans (aH.new hq5).b)
   have w6:=wl.1
   have v6:=vl.1
   rw [Ag] at v6
   refine ⟨_,rfl,l,_,rfl,.inl (SqL.of f4),rfl,gH _,?_⟩
   have e0:inV (V.str (Str.ofString "")) (V'.map tx)=decide (([]:List L)∈V'):=by
    rw [show V.str (Str.ofString "")=tx [] from fj.symm]
    exact pJ [] V'
   refine ⟨_,rfl,?_⟩
   rw [e0]
   by_cases he:([]:List L)∈V'
   ·rw [An he]
    refine bZ rfl ?_
    exact ⟨_,rfl,_,rfl,bZ rfl ⟨(aK (n:=0) (by decide)),fun q5 hq5=>no _ F4 sb4 q5 hq5⟩⟩
   ·rw [AF he]
    refine cM rfl ?_
    have hR:Rgs V':=⟨by omega,fun x hx=>⟨fun z=>he (z ▸ hx),Ck (vl.2 x hx) (by decide)⟩⟩
    refine ⟨_,rfl,l,V',rfl,.inr f4,hR,fun l5 V5 H5 hl5 oV mV f5 s5=>?_⟩
    have tn:Tn V' V5:=⟨oV,mV⟩
    have l5z:=tn.len hR
    refine ⟨l5,V5,rfl,f5,by omega,fun v hv=>by have:=(tn.word hR hv).2;omega,fun H6 s6 _=>?_,fun H6 p t o c s6 _ hp=>?_⟩
    ·have s7:=s5.trans s6
     refine ⟨rfl,_,rfl,_,rfl,cM rfl ?_⟩
     refine ⟨_,rfl,l,_,rfl,.inl ⟨SqL.of (s7 _ _ f4),fun rg hrg=>?_⟩⟩
     exact k rg V' _ hR (fun r hr=>vl.2 r hr) (by omega) ah ((F4.same s7).new hrg) (sb4.trans (s7.b.trans (aH.new hrg).b))
    ·have s7:=s5.trans s6
     exact ⟨rfl,_,rfl,_,rfl,bZ rfl ⟨(aK (n:=0) (by decide)),fun q5 hq5=>no _ (F4.same s7) (sb4.trans s7.b) q5 hq5⟩⟩
theorem yE {q:Int}(h0:0≤q)(h1:q < 10):∃ x:L,atI ("abcdeABCDE":Str).cps.toList q=some (cp x):=by
 have hk:q.toNat < 10:=by omega
 have e:("abcdeABCDE":Str)=toS [0,1,2,3,4,6,7,8,9,10]:=by decide +kernel
 rw [e]
 have d:∀ j:Fin 10,∃ x,([0,1,2,3,4,6,7,8,9,10]:List L)[j.val]? = some x:=by decide
 obtain ⟨x,hx⟩:=d ⟨q.toNat,hk⟩
 exact ⟨x,bN (k:=q.toNat) (by omega) hx⟩
theorem qe {W:List (List L)}{q:Int}(h0:0≤q)(h1:q < (W.length:Int)):∃ u,u∈W∧atI (W.map tx) q=some (tx u):=by
 obtain ⟨n,rfl⟩:=AW h0
 have hn:n < W.length:=by omega
 exact ⟨W[n],AS hn,bP (by rw [Ap,Ac hn];rfl)⟩
abbrev j8:Stmt:=top 33
theorem u_:aP ["_law_feed_here","_law_rings_here","_law_most","_law_word","_law_k","_law_by","_law_ring","_law_at","_law_sign"] ["_law_feed_here","_law_rings_here","_law_most"] (aj j8):=⟨rfl,rfl,rfl,by decide +kernel,rfl,by decide +kernel,by decide +kernel⟩
theorem wU (D:Df K mg "_law_made" j8)(T:Bt K w mg aB)(F_draw:Fnc P w K mg base "_law_draw" ["_law_feed_here","_law_many"] 1 d_)(F_lback:Fnc P w K mg base "_law_back" ["_law_word"] 1 lQ)(F_some:Fnc P w K mg base "_law_some" ["_law_feed_here","_law_many","_law_most"] 2 dZ):Fnc P w K mg base "_law_made" ["_law_feed_here","_law_rings_here","_law_most"] 3 kP:=by
 have sc:=u_
 refine D.ok sc (fun _ _ _ _ _ _ us hl=>by obtain ⟨_,_,_,rfl⟩:=vv hl;rfl) (fun vs H Q E h=>?_) (fun f cdv A outer s H vs Q E hr h=>?_)
 ·obtain ⟨d,a,R,n,rfl,_⟩:=h
  rfl
 ·obtain ⟨d,a,R,n,rfl,F0,ha,hR,n1,n10,k⟩:=h
  have l16:=a_
  have na:a≠d:=F0.neT ha
  refine ⟨_,(@ag _ _ _ _ _ (@ay _ _ (3) _ _ _ _ sc.nd rfl (Or.inl rfl) aL (by rfl) (by first | exact .inl rfl | exact .inr rfl | assumption)) (@ag _ _ _ _ _ (@bJ _ _ _ _ _ _ _ _ AQ rfl (@bz _ _ _ _ _ _ rfl T.range (@aa _ _ _ _ _ (@ax _ _ _ _ _ _ _ _ aQ ai (@aE _ _ _ _ _ _ _ _ _ _ _ F_draw hr (by decide) rfl (@aa _ _ _ _ _ (pv 0) (@aa _ _ _ _ _ (pv 2) af (by rfl)) (by rfl)) (by decide) (by rfl) (by rfl))) af (by rfl)) (by rfl)) (@aT _ _ (4) _ sc.nd rfl (Or.inl rfl) (by first | exact .inl rfl | exact .inr rfl | assumption)) (@ag _ _ _ _ _ (@ay _ _ (5) _ _ _ _ sc.nd rfl (Or.inl rfl) (@aE _ _ _ _ _ _ _ _ _ _ _ F_some hr (by decide) rfl (@aa _ _ _ _ _ (pv 0) (@aa _ _ _ _ _ ai (@aa _ _ _ _ _ ai af (by rfl)) (by rfl)) (by rfl)) (by decide) (by rfl) (by rfl)) (by rfl) (by first | exact .inl rfl | exact .inr rfl | assumption)) (@ag _ _ _ _ _ (@ay _ _ (6) _ _ _ _ sc.nd rfl (Or.inl rfl) (@bI _ _ _ _ _ _ _ _ (@aC _ _ _ _ _ _ _ _ (@mQ _ (by exact hr.units)) (pv 1) (@cg _ _ _ _ _ af) (aF _)) (@aW _ _ _ _ _ _ _ bb (pv 1) (@aE _ _ _ _ _ _ _ _ _ _ _ F_draw hr (by decide) rfl (@aa _ _ _ _ _ (pv 0) (@aa _ _ _ _ _ (@aq _ _ _ _ _ _ _ _ _ bF (by rfl) T.len As (@aa _ _ _ _ _ (pv 1) af (by rfl)) (by decide) (by decide) (by rfl) (by rfl)) af (by rfl)) (by rfl)) (by decide) (by rfl) (by rfl)) (fun _ _=>rfl)) aL) (by rfl) (by first | exact .inl rfl | exact .inr rfl | assumption)) (@ag _ _ _ _ _ (@ay _ _ (7) _ _ _ _ sc.nd rfl (Or.inl rfl) (@aE _ _ _ _ _ _ _ _ _ _ _ F_draw hr (by decide) rfl (@aa _ _ _ _ _ (pv 0) (@aa _ _ _ _ _ (@ax _ _ _ _ _ _ _ _ aQ (@aq _ _ _ _ _ _ _ _ _ av (by rfl) T.len As (@aa _ _ _ _ _ (pv 6) af (by rfl)) (by decide) (by decide) (by rfl) (by rfl)) ai) af (by rfl)) (by rfl)) (by decide) (by rfl) (by rfl)) (by rfl) (by first | exact .inl rfl | exact .inr rfl | assumption)) (@ag _ _ _ _ _ (@ay _ _ (6) _ _ _ _ sc.nd rfl (Or.inl rfl) (@ax _ _ _ _ _ _ _ _ az (@aw _ _ _ _ _ _ _ _ _ _ aR (pv 6) (@aA _ _ _ (pv 7)) aG) (@aw _ _ _ _ _ _ _ _ _ _ aR (pv 6) aG (@aA _ _ _ (pv 7)))) (by rfl) (by first | exact .inl rfl | exact .inr rfl | assumption)) (@ak _ _ _ (@ay _ _ (3) _ _ _ _ sc.nd rfl (Or.inl rfl) (@ax _ _ _ _ _ _ _ _ az (@ax _ _ _ _ _ _ _ _ az (@ax _ _ _ _ _ _ _ _ az (pv 3) (pv 5)) (@aW _ _ _ _ _ _ _ cD (@bh _ _ _ _ (@aa _ _ _ _ _ (pv 6) (@aa _ _ _ _ _ (@aE _ _ _ _ _ _ _ _ _ _ _ F_lback hr (by decide) rfl (@aa _ _ _ _ _ (pv 6) af (by rfl)) (by decide) (by rfl) (by rfl)) af (by rfl)) (by rfl))) (@aE _ _ _ _ _ _ _ _ _ _ _ F_draw hr (by decide) rfl (@aa _ _ _ _ _ (pv 0) (@aa _ _ _ _ _ ai af (by rfl)) (by rfl)) (by decide) (by rfl) (by rfl)) (fun _ _=>rfl))) (@aE _ _ _ _ _ _ _ _ _ _ _ F_lback hr (by decide) rfl (@aa _ _ _ _ _ (pv 5) af (by rfl)) (by decide) (by rfl) (by rfl))) (by rfl) (by first | exact .inl rfl | exact .inr rfl | assumption))))))) (by intro _ ;rfl)) (@ag _ _ _ _ _ (@bJ _ _ _ _ _ _ _ _ AQ rfl (@bz _ _ _ _ _ _ rfl T.range (@aa _ _ _ _ _ (@aE _ _ _ _ _ _ _ _ _ _ _ F_draw hr (by decide) rfl (@aa _ _ _ _ _ (pv 0) (@aa _ _ _ _ _ ai af (by rfl)) (by rfl)) (by decide) (by rfl) (by rfl)) af (by rfl)) (by rfl)) (@aT _ _ (4) _ sc.nd rfl (Or.inl rfl) (by first | exact .inl rfl | exact .inr rfl | assumption)) (@ag _ _ _ _ _ (@ay _ _ (7) _ _ _ _ sc.nd rfl (Or.inl rfl) (@aE _ _ _ _ _ _ _ _ _ _ _ F_draw hr (by decide) rfl (@aa _ _ _ _ _ (pv 0) (@aa _ _ _ _ _ (@ax _ _ _ _ _ _ _ _ aQ (@aq _ _ _ _ _ _ _ _ _ av (by rfl) T.len As (@aa _ _ _ _ _ (pv 3) af (by rfl)) (by decide) (by decide) (by rfl) (by rfl)) ai) af (by rfl)) (by rfl)) (by decide) (by rfl) (by rfl)) (by rfl) (by first | exact .inl rfl | exact .inr rfl | assumption)) (@ag _ _ _ _ _ (@ay _ _ (8) _ _ _ _ sc.nd rfl (Or.inl rfl) (@aW _ _ _ _ _ _ _ cz aL (@aE _ _ _ _ _ _ _ _ _ _ _ F_draw hr (by decide) rfl (@aa _ _ _ _ _ (pv 0) (@aa _ _ _ _ _ ai af (by rfl)) (by rfl)) (by decide) (by rfl) (by rfl)) (fun _ _=>rfl)) (by rfl) (by first | exact .inl rfl | exact .inr rfl | assumption)) (@ak _ _ _ (@ay _ _ (3) _ _ _ _ sc.nd rfl (Or.inl rfl) (@ax _ _ _ _ _ _ _ _ az (@ax _ _ _ _ _ _ _ _ az (@ax _ _ _ _ _ _ _ _ az (@aw _ _ _ _ _ _ _ _ _ _ aR (pv 3) aG (@aA _ _ _ (pv 7))) (pv 8)) (@aE _ _ _ _ _ _ _ _ _ _ _ F_lback hr (by decide) rfl (@aa _ _ _ _ _ (pv 8) af (by rfl)) (by decide) (by rfl) (by rfl))) (@aw _ _ _ _ _ _ _ _ _ _ aR (pv 3) (@aA _ _ _ (pv 7)) aG)) (by rfl) (by first | exact .inl rfl | exact .inr rfl | assumption))))) (by intro _ ;rfl)) (@ak _ _ _ (@aN _ _ _ _ (pv 3)))))),?_⟩
  refine ⟨_,rfl,_,rfl,d,_,rfl,F0,by omega,by omega,fun q H1 q0 q1 F1 sb1=>⟨_,_,rfl,rfl,_,rfl,by omega,by omega,?_⟩⟩
  refine cG (lo:=0) (n:=(1+q).toNat) (fun i σ H'=>∃ (b4 b5 b6 b7 b8:Option V) (u:List L),σ = [some (.ref d),some (.ref a),some (.int (n:Int)),some (tx u),b4,b5,b6,b7,b8]∧u.length≤98*i∧Fd H' d∧bE d H H') ⟨_,_,_,_,_,[],by rw [fj];rfl,by decide,F1,sb1⟩ ?_ ?_
  ·rintro i σ H2 hi ⟨b4,b5,b6,b7,b8,u,rfl,hu,F2,sb2⟩
   have hi:i≤n:=by omega
   refine ⟨_,rfl,d,5,4,rfl,F2,by decide,by decide,by decide,by decide,fun by_ H3 hb _ F3 sb3=>?_⟩
   have hb:by_.length≤4:=hb
   have a3:=sb3 _ _ na (sb2 _ _ na ha)
   refine ⟨_,rfl,(aK (n:=0) (by decide)),fun t ht=>?_⟩
   have st:aH H3 (upd H3 t (.tup [])):=aH.new ht
   refine ⟨a,t,_,rfl,rfl,SqT.of (st _ _ a3),ah,?_⟩
   generalize upd H3 t (.tup [])=H4 at st ⊢
   have F4:=F3.same st
   have a4:=st _ _ a3
   have sb4:=(sb2.trans sb3).trans st.b
   refine ⟨_,rfl,?_⟩
   refine zN (fun x H'=>∃ r:List L,x=tx r∧r.length≤90∧Fd H' d∧bE d H H') ?_ (fun main hRe=>?_) (fun main _=>?_)
   rotate_left
   ·have hpos:0 < R.length:=by
     cases R with
     | nil=>cases hRe
     | cons _ _=>simp
    have h7:=hR.many
    refine ⟨_,rfl,_,rfl,_,rfl,a,_,rfl,.inr (SqT.of a4),d,_,rfl,F4,(by rw [Ag];omega),(by rw [Ag];omega),fun q4 HA q40 q41 FA sbA=>?_⟩
    rw [Ag] at q41
    obtain ⟨r,hr1,e1⟩:=qe q40 q41
    exact ⟨a,_,_,_,rfl,rfl,SqT.of (sbA _ _ na a4),e1,main _ _ ⟨r,rfl,(hR.word r hr1).2,FA,sb4.trans sbA⟩⟩
   ·exact main _ _ ⟨[],fj.symm,by decide,F4,sb4⟩
   clear F4 sb4 a4 st
   rintro x H4 ⟨r,rfl,hr,F4,sb4⟩
   have lr:=ae r
   refine ⟨_,rfl,_,rfl,_,rfl,by omega,_,_,rfl,rfl,d,_,rfl,F4,by omega,by omega,fun q2 H5 q20 q21 F5 sb5=>?_⟩
   obtain ⟨at_,rfl⟩:=AW q20
   refine ⟨_,rfl,_,rfl,_,rfl,_,rfl,by omega,_,rfl,_,rfl,_,rfl,_,rfl,by omega,_,_,rfl,rfl,?_,?_⟩
   ·have h1:=AY (toS r) (some (at_:Int)) none
    have h2:=AY (toS r) none (some (at_:Int))
    omega
   rw [ao,ao,ba r (by omega),bj r (by omega),aX,Az]
   have hr2:(r.drop at_++r.take at_).length≤90:=by rw [Ad,AA,Aj];omega
   generalize r.drop at_++r.take at_=r2 at hr2
   have lr2:=ae r2
   have lu:=ae u
   have lb:=ae by_
   have l3:=ae (u++by_)
   rw [Ad] at l3
   refine ⟨_,rfl,_,rfl,_,_,rfl,rfl,by omega,?_⟩
   rw [aX]
   refine ⟨_,rfl,_,rfl,r2,rfl,by omega,fun H6 s6=>⟨(aK (n:=2) (by decide)),fun l hl=>?_⟩⟩
   have s7:aH H6 (upd H6 l (.lst [tx r2,tx (bk r2)])):=aH.new hl
   have f7:(upd H6 l (.lst [tx r2,tx (bk r2)])) l=some (.lst ([r2,bk r2].map tx)):=ah
   generalize upd H6 l (.lst [tx r2,tx (bk r2)])=H7 at s7 f7 ⊢
   have F7:=(F5.same s6).same s7
   refine ⟨_,rfl,d,_,rfl,F7,by decide,by decide,fun q3 H8 q30 q31 F8 sb8=>?_⟩
   obtain ⟨r3,hr3,e3⟩:=qe (W:=[r2,bk r2]) q30 q31
   have hr3:r3.length≤90:=by
    simp only [Aw,AE,BI] at hr3
    rcases hr3 with rfl | rfl
    ·exact hr2
    ·rw [bO];exact hr2
   have lr3:=ae r3
   have l4:=ae (u++by_++r3)
   rw [Ad,Ad] at l4
   refine ⟨l,_,_,_,rfl,rfl,SqL.of (sb8 _ _ (F7.nl f7) f7),e3,_,_,rfl,rfl,by omega,?_⟩
   rw [aX]
   refine ⟨_,rfl,by_,rfl,by omega,fun H9 s9=>?_⟩
   have lbb:=ae (bk by_)
   rw [bO] at lbb
   refine ⟨_,_,rfl,rfl,by omega,?_⟩
   rw [aX]
   refine ⟨_,_,_,_,_,u++by_++r3++bk by_,rfl,?_,F8.same s9,((((sb4.trans sb5).trans s6.b).trans s7.b).trans sb8).trans s9.b⟩
   rw [Ad,Ad,Ad,bO]
   omega
  ·rintro σ H2 ⟨b4,b5,b6,b7,b8,u,rfl,hu,F2,sb2⟩
   have hu:u.length≤98*n:=by
    have:98*(1+q).toNat≤98*n:=Nat.mul_le_mul_left _ (by omega)
    omega
   refine ⟨_,rfl,d,_,rfl,F2,by decide,by decide,fun q5 H3 q50 q51 F3 sb3=>⟨_,rfl,by omega,by omega,?_⟩⟩
   refine cG (lo:=0) (n:=q5.toNat) (fun i σ H'=>∃ (b4 b5 b6 b7 b8:Option V) (u:List L),σ = [some (.ref d),some (.ref a),some (.int (n:Int)),some (tx u),b4,b5,b6,b7,b8]∧u.length≤98*n+2*i∧Fd H' d∧bE d H H') ⟨_,_,_,_,_,u,rfl,by omega,F3,sb2.trans sb3⟩ ?_ ?_
   ·rintro i σ H4 hi ⟨b4,b5,b6,b7,b8,u,rfl,hu,F4,sb4⟩
    have lu:=ae u
    refine ⟨_,rfl,_,rfl,_,rfl,by omega,_,_,rfl,rfl,d,_,rfl,F4,by omega,by omega,fun q6 H5 q60 q61 F5 sb5=>?_⟩
    obtain ⟨at_,rfl⟩:=AW q60
    refine ⟨_,rfl,d,_,rfl,F5,by decide,by decide,fun q7 H6 q70 q71 F6 sb6=>?_⟩
    obtain ⟨x,hx⟩:=yE q70 q71
    refine ⟨_,_,_,rfl,rfl,(aK (n:=10) (by decide)),hx,?_⟩
    have lx:=ae [x]
    have h1:=AY (toS u) none (some (at_:Int))
    have h2:=AY (toS u) (some (at_:Int)) none
    refine ⟨_,rfl,_,rfl,_,rfl,_,rfl,by omega,_,rfl,_,_,rfl,rfl,(by show _+1≤sizeLine;omega),?_⟩
    rw [show (⟨#[cp x]⟩:Str)=toS [x] from rfl,ao,bj u (by omega),aX,Az]
    refine ⟨_,rfl,[x],rfl,(by show 1≤5000;decide),fun H7 s7=>?_⟩
    have l1:=ae (u.take at_++[x])
    have l2:=ae (bk [x])
    have l3:=ae (u.take at_++[x]++bk [x])
    simp only [Ad,Aj,A2,Bs,bO] at l1 l2 l3
    refine ⟨_,_,rfl,rfl,by omega,?_⟩
    rw [aX]
    refine ⟨_,rfl,_,rfl,_,rfl,_,rfl,by omega,_,_,rfl,rfl,by omega,?_⟩
    rw [ao,ba u (by omega),aX,Az]
    refine ⟨_,_,_,_,_,u.take at_++[x]++bk [x]++u.drop at_,rfl,?_,F6.same s7,((sb4.trans sb5).trans sb6).trans s7.b⟩
    simp only [Ad,Aj,AA,A2,Bs,bO]
    omega
   ·rintro σ H4 ⟨b4,b5,b6,b7,b8,u,rfl,hu,F4,sb4⟩
    exact ⟨_,rfl,k u _ (by omega) F4 sb4⟩
abbrev gO:Stmt:=top 34
theorem se:aP ["_law_known","_law_word","_law_step","_law_place","_law_fits","_law_found","_law_turn","_law_many"] ["_law_known","_law_word","_law_step"] (aj gO):=⟨rfl,rfl,rfl,by decide +kernel,rfl,by decide +kernel,by decide +kernel⟩
theorem va (D:Df K mg "_law_done" gO)(T:Bt K w mg aB)(F_lback:Fnc P w K mg base "_law_back" ["_law_word"] 1 lQ):Fnc P w K mg base "_law_done" ["_law_known","_law_word","_law_step"] 2 i9:=by
 have sc:=se
 refine D.ok sc (fun _ _ _ _ _ _ us hl=>by obtain ⟨_,_,_,rfl⟩:=vv hl;rfl) (fun vs H Q E h=>?_) (fun f cdv A outer s H vs Q E hr h=>?_)
 ·obtain ⟨l,p,R,W,v,st,rfl,_⟩:=h
  rfl
 ·obtain ⟨l,p,R,W,v,st,rfl,hl,hm,hv,hp,hs,k⟩:=h
  have l16:=a_
  have lv:=ae v
  have no:∀ H',aH H H'→qu R v st=none→∀ q,H' q=none→Q (.ref q) (upd H' q (.lst [])):=fun H' s' e q hq=>k q _ (s'.free hq) (by rw [e];exact ah) (s'.then hq)
  have yes:∀ H' u,aH H H'→qu R v st=some u→∀ q,H' q=none→Q (.ref q) (upd H' q (.lst [tx u])):=fun H' u s' e q hq=>k q _ (s'.free hq) (by rw [e];exact ah) (s'.then hq)
  refine ⟨_,(@ag _ _ _ _ _ (@ay _ _ (3) _ _ _ _ sc.nd rfl (Or.inl rfl) (@aW _ _ _ _ _ _ _ bb (pv 2) ai (fun _ _=>rfl)) (by rfl) (by first | exact .inl rfl | exact .inr rfl | assumption)) (@ag _ _ _ _ _ (@bw _ _ _ _ _ _ _ _ (@aC _ _ _ _ _ _ _ _ bD (@aW _ _ _ _ _ _ _ bb (pv 2) ai (fun _ _=>rfl)) aL (aF _)) (@ag _ _ _ _ _ (@ay _ _ (4) _ _ _ _ sc.nd rfl (Or.inl rfl) (@fV _ _ _ _ _ _ _ (@bq _ _ _ _ _ _ _ _ iD (@ax _ _ _ _ _ _ _ _ aQ (pv 3) ai) (@aq _ _ _ _ _ _ _ _ _ av (by rfl) T.len As (@aa _ _ _ _ _ (pv 1) af (by rfl)) (by decide) (by decide) (by rfl) (by rfl)) (aF _)) (@d2 _ _ _ _ _ (@bq _ _ _ _ _ _ _ _ bD (@aW _ _ _ _ _ _ _ cz (pv 1) (@ax _ _ _ _ _ _ _ _ aQ (pv 3) ai) (fun _ _=>rfl)) (@aE _ _ _ _ _ _ _ _ _ _ _ F_lback hr (by decide) rfl (@aa _ _ _ _ _ (@aW _ _ _ _ _ _ _ cz (pv 1) (pv 3) (fun _ _=>rfl)) af (by rfl)) (by decide) (by rfl) (by rfl)) (aF _)))) (by rfl) (by first | exact .inl rfl | exact .inr rfl | assumption)) (@ak _ _ _ (@aN _ _ _ _ (@bI _ _ _ _ _ _ _ _ (@cO _ _ _ (pv 4) (fun _=>rfl)) (@bh _ _ _ _ (@aa _ _ _ _ _ (@ax _ _ _ _ _ _ _ _ az (@aw _ _ _ _ _ _ _ _ _ _ aR (pv 1) aG (@aA _ _ _ (pv 3))) (@aw _ _ _ _ _ _ _ _ _ _ aR (pv 1) (@aA _ _ _ (@ax _ _ _ _ _ _ _ _ aQ (pv 3) ai)) aG)) af (by rfl))) (@bh _ _ _ _ af))))) aV) (@ag _ _ _ _ _ (@bw _ _ _ _ _ _ _ _ (@aC _ _ _ _ _ _ _ _ bD (@aW _ _ _ _ _ _ _ bb (pv 2) ai (fun _ _=>rfl)) aL (aF _)) (@ag _ _ _ _ _ (@ay _ _ (5) _ _ _ _ sc.nd rfl (Or.inl rfl) (@ax _ _ _ _ _ _ _ _ az (@ax _ _ _ _ _ _ _ _ az (@ax _ _ _ _ _ _ _ _ az (@aw _ _ _ _ _ _ _ _ _ _ aR (pv 1) aG (@aA _ _ _ (pv 3))) (@aW _ _ _ _ _ _ _ bb (pv 2) ai (fun _ _=>rfl))) (@aE _ _ _ _ _ _ _ _ _ _ _ F_lback hr (by decide) rfl (@aa _ _ _ _ _ (@aW _ _ _ _ _ _ _ bb (pv 2) ai (fun _ _=>rfl)) af (by rfl)) (by decide) (by rfl) (by rfl))) (@aw _ _ _ _ _ _ _ _ _ _ aR (pv 1) (@aA _ _ _ (pv 3)) aG)) (by rfl) (by first | exact .inl rfl | exact .inr rfl | assumption)) (@ak _ _ _ (@aN _ _ _ _ (@bI _ _ _ _ _ _ _ _ (@PW.pt _ _ _ (@jh _ _ _ _ _ _ _ (@aC _ _ _ _ _ _ _ _ tJ (pv 3) (@aq _ _ _ _ _ _ _ _ _ av (by rfl) T.len As (@aa _ _ _ _ _ (pv 1) af (by rfl)) (by decide) (by decide) (by rfl) (by rfl)) (aF _)) (@fU _ _ _ _ (@aC _ _ _ _ _ _ _ _ tJ (@aq _ _ _ _ _ _ _ _ _ av (by rfl) T.len As (@aa _ _ _ _ _ (pv 5) af (by rfl)) (by decide) (by decide) (by rfl) (by rfl)) ai (aF _))))) (@bh _ _ _ _ (@aa _ _ _ _ _ (pv 5) af (by rfl))) (@bh _ _ _ _ af))))) aV) (@ag _ _ _ _ _ (@ay _ _ (6) _ _ _ _ sc.nd rfl (Or.inl rfl) (@aW _ _ _ _ _ _ _ bb (pv 2) ai (fun _ _=>rfl)) (by rfl) (by first | exact .inl rfl | exact .inr rfl | assumption)) (@ag _ _ _ _ _ (@ay _ _ (7) _ _ _ _ sc.nd rfl (Or.inl rfl) (@aW _ _ _ _ _ _ _ bb (pv 2) ai (fun _ _=>rfl)) (by rfl) (by first | exact .inl rfl | exact .inr rfl | assumption)) (@ag _ _ _ _ _ (@bw _ _ _ _ _ _ _ _ (@PW.pt _ _ _ (@kh _ _ _ _ _ _ _ (@aC _ _ _ _ _ _ _ _ (@dH _ (K) rfl) (pv 6) (pv 0) rfl) (@kh _ _ _ _ _ _ _ (@aC _ _ _ _ _ _ _ _ kj (pv 7) (@aq _ _ _ _ _ _ _ _ _ av (by rfl) T.len As (@aa _ _ _ _ _ (pv 6) af (by rfl)) (by decide) (by decide) (by rfl) (by rfl)) (aF _)) (@jg _ _ _ _ (@aC _ _ _ _ _ _ _ _ kj (@ax _ _ _ _ _ _ _ _ aQ (pv 3) (pv 7)) (@aq _ _ _ _ _ _ _ _ _ av (by rfl) T.len As (@aa _ _ _ _ _ (pv 1) af (by rfl)) (by decide) (by decide) (by rfl) (by rfl)) (aF _)))))) (@ak _ _ _ (@aN _ _ _ _ (@bh _ _ _ _ af))) aV) (@ag _ _ _ _ _ (@bw _ _ _ _ _ _ _ _ (@aC _ _ _ _ _ _ _ _ fX (@aw _ _ _ _ _ _ _ _ _ _ aR (pv 1) (@aA _ _ _ (pv 3)) (@aA _ _ _ (@ax _ _ _ _ _ _ _ _ aQ (pv 3) (pv 7)))) (@aw _ _ _ _ _ _ _ _ _ _ aR (pv 6) aG (@aA _ _ _ (pv 7))) (aF _)) (@ak _ _ _ (@aN _ _ _ _ (@bh _ _ _ _ af))) aV) (@ag _ _ _ _ _ (@ay _ _ (5) _ _ _ _ sc.nd rfl (Or.inl rfl) (@ax _ _ _ _ _ _ _ _ az (@ax _ _ _ _ _ _ _ _ az (@aw _ _ _ _ _ _ _ _ _ _ aR (pv 1) aG (@aA _ _ _ (pv 3))) (@aE _ _ _ _ _ _ _ _ _ _ _ F_lback hr (by decide) rfl (@aa _ _ _ _ _ (@aw _ _ _ _ _ _ _ _ _ _ aR (pv 6) (@aA _ _ _ (pv 7)) aG) af (by rfl)) (by decide) (by rfl) (by rfl))) (@aw _ _ _ _ _ _ _ _ _ _ aR (pv 1) (@aA _ _ _ (@ax _ _ _ _ _ _ _ _ aQ (pv 3) (pv 7))) aG)) (by rfl) (by first | exact .inl rfl | exact .inr rfl | assumption)) (@ak _ _ _ (@aN _ _ _ _ (@bI _ _ _ _ _ _ _ _ (@aC _ _ _ _ _ _ _ _ tJ (@aq _ _ _ _ _ _ _ _ _ av (by rfl) T.len As (@aa _ _ _ _ _ (pv 5) af (by rfl)) (by decide) (by decide) (by rfl) (by rfl)) ai (aF _)) (@bh _ _ _ _ (@aa _ _ _ _ _ (pv 5) af (by rfl))) (@bh _ _ _ _ af)))))))))))),?_⟩
  cases st with
  | out n =>
   have hp:H p=some (.tup [.str "out",.int (n:Int)]):=hp
   refine ⟨_,rfl,p,_,_,_,rfl,rfl,SqT.of hp,at1 _ _ _,?_⟩
   refine ⟨_,rfl,p,_,_,_,rfl,rfl,SqT.of hp,at0 _ _,rfl,_,rfl,cM (An rfl) ?_⟩
   refine ⟨_,rfl,_,_,rfl,rfl,_,rfl,_,rfl,by omega,_,_,rfl,rfl,_,rfl,?_⟩
   by_cases hn:n+1 < v.length
   ·refine cM (An (by omega)) ?_
    have e1:=Ac hn
    have e0:=Ac (show n < v.length by omega)
    refine ⟨_,rfl,_,rfl,_,_,rfl,rfl,_,_,_,rfl,rfl,by omega,bN (k:=n+1) (by omega) e1,_,rfl,_,rfl,_,_,_,rfl,rfl,by omega,bN (k:=n) rfl e0,[v[n]],rfl,(by show 1≤5000;decide),fun H1 s1=>⟨rfl,?_⟩⟩
    rw [show V.str (⟨#[cp v[n+1]]⟩:Str)=tx [v[n+1]] from rfl,h_]
    have e:decide (tx [v[n+1]]=tx [inv v[n]])=iU v n:=by
     unfold iU
     rw [An hn,DN,e1,e0]
     exact C_.mpr (oP.trans ⟨fun e=>by rw [e];rfl,fun e=>A9 e⟩)
    rw [e]
    refine ⟨_,rfl,_,rfl,?_⟩
    have hc:(chg v (.out n)).length≤2000:=by unfold chg;rw [Ad,Aj,AA];omega
    cases ho:iU v n with
    | true =>
     refine vq ?_
     refine ⟨_,rfl,_,rfl,_,rfl,_,rfl,by omega,_,rfl,_,rfl,_,_,rfl,rfl,_,rfl,_,rfl,by omega,_,_,rfl,rfl,?_,?_⟩
     ·have h1:=AY (toS v) none (some (n:Int))
      have h2:=AY (toS v) (some ((n:Int)+2)) none
      omega
     rw [ao,ao,bj v (by omega),ba v (by omega),aX,Az,show ((n:Int)+2).toNat=n+2 by omega]
     exact ⟨(aK (n:=1) (by decide)),yes _ _ s1 (fM (s:=.out n) ho hc)⟩
    | false=>exact mM ⟨(aK (n:=0) (by decide)),no _ s1 (dY (s:=.out n) ho)⟩
   ·refine bZ (AF (by omega)) ?_
    have ho:iU v n=false:=by unfold iU;rw [AF hn];rfl
    exact ⟨_,rfl,_,rfl,mM ⟨(aK (n:=0) (by decide)),no _ (aH.refl _) (dY (s:=.out n) ho)⟩⟩
  | inn n x =>
   have hp:H p=some (.tup [.str "in",.int (n:Int),tx [x]]):=hp
   have lx:=ae [x]
   refine ⟨_,rfl,p,_,_,_,rfl,rfl,SqT.of hp,at1 _ _ _,?_⟩
   refine ⟨_,rfl,p,_,_,_,rfl,rfl,SqT.of hp,at0 _ _,rfl,_,rfl,bZ (by decide +kernel) ?_⟩
   refine ⟨_,rfl,p,_,_,_,rfl,rfl,SqT.of hp,at0 _ _,rfl,_,rfl,cM (An rfl) ?_⟩
   have h1:=AY (toS v) none (some (n:Int))
   have h2:=AY (toS v) (some (n:Int)) none
   refine ⟨_,rfl,_,rfl,_,rfl,_,rfl,by omega,_,rfl,p,_,_,_,rfl,rfl,SqT.of hp,at2 _ _ _ _,_,_,rfl,rfl,(by rw [lx];simp only [A2,Bs];omega),?_⟩
   rw [ao,bj v (by omega),aX,Az]
   refine ⟨_,rfl,p,_,_,_,rfl,rfl,SqT.of hp,at2 _ _ _ _,[x],rfl,(by show 1≤5000;decide),fun H1 s1=>?_⟩
   have l1:=ae (v.take n++[x])
   have l2:=ae (bk [x])
   have l3:=ae (v.take n++[x]++bk [x])
   simp only [Ad,Aj,A2,Bs,bO] at l1 l2 l3
   refine ⟨_,_,rfl,rfl,by omega,?_⟩
   rw [aX]
   refine ⟨_,rfl,_,rfl,_,rfl,_,rfl,by omega,_,_,rfl,rfl,by omega,?_⟩
   rw [ao,ba v (by omega),aX,Az,h_]
   have ec:v.take n++[x]++[inv x]++v.drop n=chg v (.inn n x):=rfl
   rw [ec]
   have lc:=ae (chg v (.inn n x))
   have cb:(chg v (.inn n x)).length≤3000:=by
    unfold chg
    simp only [Ad,Aj,AA,A2,Bs]
    omega
   refine ⟨_,rfl,_,rfl,_,rfl,by omega,_,_,rfl,rfl,_,rfl,?_⟩
   by_cases hn:n≤v.length
   ·refine cM (An (by omega)) ?_
    refine ⟨_,rfl,_,rfl,by omega,_,_,rfl,rfl,_,rfl,?_⟩
    have hf:stB R v (.inn n x)=true:=An hn
    by_cases hc:(chg v (.inn n x)).length≤2000
    ·refine cM (An (by omega)) ?_
     exact ⟨_,rfl,(aK (n:=1) (by decide)),yes _ _ s1 (fM hf hc)⟩
    ·refine bZ (AF (by omega)) ?_
     exact ⟨(aK (n:=0) (by decide)),no _ s1 (jO (by omega))⟩
   ·refine bZ (AF (by omega)) ?_
    exact ⟨(aK (n:=0) (by decide)),no _ s1 (dY (AF hn))⟩
  | rng n u m =>
   have hp:H p=some (.tup [.str "ring",.int (n:Int),tx u,.int (m:Int)]):=hp
   have lx:=ae u
   have hu:=hs.2.1
   refine ⟨_,rfl,p,_,_,_,rfl,rfl,SqT.of hp,at1 _ _ _,?_⟩
   refine ⟨_,rfl,p,_,_,_,rfl,rfl,SqT.of hp,at0 _ _,rfl,_,rfl,bZ (by decide +kernel) ?_⟩
   refine ⟨_,rfl,p,_,_,_,rfl,rfl,SqT.of hp,at0 _ _,rfl,_,rfl,bZ (by decide +kernel) ?_⟩
   refine ⟨_,rfl,p,_,_,_,rfl,rfl,SqT.of hp,at2 _ _ _ _,?_⟩
   refine ⟨_,rfl,p,_,_,_,rfl,rfl,SqT.of hp,at3 _ _ _ _ _,?_⟩
   have no:=fun e=>no H (aH.refl _) e
   have fb:stB R v (.rng n u m)=(il v n u m && decide (u∈trn R)):=rfl
   refine ⟨_,rfl,_,rfl,l,_,rfl,.inl (SqL.of hl),rfl,gH _,_,rfl,?_⟩
   rw [pJ]
   by_cases hu1:u∈W
   ·refine bZ (by simp [hu1]) ?_
    have hu2:decide (u∈trn R)=true:=An ((hm u).mp hu1)
    rw [hu2,Bool.and_true] at fb
    unfold il at fb
    refine ⟨_,rfl,_,rfl,_,rfl,by omega,_,_,rfl,rfl,_,rfl,?_⟩
    by_cases c1:m≤u.length
    ·refine bZ (AF (by omega)) ?_
     rw [An c1,DN] at fb
     refine ⟨_,rfl,_,rfl,_,_,rfl,rfl,_,rfl,_,rfl,by omega,_,_,rfl,rfl,_,rfl,?_⟩
     by_cases c2:n+m≤v.length
     ·refine bZ (AF (by omega)) ?_
      rw [An c2,DN] at fb
      refine ⟨_,rfl,_,rfl,_,rfl,_,rfl,_,rfl,_,_,rfl,rfl,_,rfl,_,rfl,by omega,_,rfl,_,rfl,_,rfl,_,rfl,by omega,rfl,_,rfl,?_⟩
      rw [ao,ao,uM,bj u (by omega),Az]
      by_cases c3:(v.drop n).take m=u.take m
      ·rw [An c3] at fb
       refine bZ (by rw [c3];simp) ?_
       have h1:=AY (toS v) none (some (n:Int))
       have h2:=AY (toS v) (some ((n:Int)+(m:Int))) none
       refine ⟨_,rfl,_,rfl,_,rfl,_,rfl,by omega,_,rfl,_,rfl,_,rfl,_,rfl,by omega,?_⟩
       rw [ao,ao,bj v (by omega),ba u (by omega),Az,Az]
       refine ⟨u.drop m,rfl,(by rw [AA];omega),fun H1 s1=>?_⟩
       have l1:=ae (v.take n)
       have l2:=ae (bk (u.drop m))
       have l3:=ae (v.take n++bk (u.drop m))
       simp only [Ad,Aj,AA,bO] at l1 l2 l3
       refine ⟨_,_,rfl,rfl,by omega,?_⟩
       rw [aX]
       refine ⟨_,rfl,_,rfl,_,rfl,_,_,rfl,rfl,_,rfl,_,rfl,by omega,_,_,rfl,rfl,by omega,?_⟩
       rw [ao,ba v (by omega),aX,show ((n:Int)+(m:Int)).toNat=n+m by omega]
       have ec:v.take n++bk (u.drop m)++v.drop (n+m)=chg v (.rng n u m):=rfl
       rw [ec]
       have lc:=ae (chg v (.rng n u m))
       have cb:=uw hs fb
       refine ⟨_,rfl,_,rfl,by omega,_,_,rfl,rfl,_,rfl,?_⟩
       by_cases hc:(chg v (.rng n u m)).length≤2000
       ·refine cM (An (by omega)) ?_
        exact ⟨_,rfl,(aK (n:=1) (by decide)),yes _ _ s1 (fM fb hc)⟩
       ·refine bZ (AF (by omega)) ?_
        exact ⟨(aK (n:=0) (by decide)),fun q hq=>k q _ (s1.free hq) (by rw [jO (by omega)];exact ah) (s1.then hq)⟩
      ·rw [AF c3] at fb
       refine cM ?_ ⟨(aK (n:=0) (by decide)),no (dY fb)⟩
       rw [AF fun e=>c3 (cm (V.str.inj e))]
       rfl
     ·rw [AF c2,CJ] at fb
      exact cM (An (by omega)) ⟨(aK (n:=0) (by decide)),no (dY fb)⟩
    ·rw [AF c1,CJ,CJ] at fb
     exact cM (An (by omega)) ⟨(aK (n:=0) (by decide)),no (dY fb)⟩
   ·refine cM (by simp [hu1]) ?_
    rw [AF fun z=>hu1 ((hm u).mpr z),Ds] at fb
    exact ⟨(aK (n:=0) (by decide)),no (dY fb)⟩
theorem tE {q:Int}(h0:0≤q)(h1:q < 10):∃ x:L,atI ("abcdeABCDE":Str).cps.toList q=some (cp x):=by
 have hk:q.toNat < 10:=by omega
 have e:("abcdeABCDE":Str)=toS [0,1,2,3,4,6,7,8,9,10]:=by decide +kernel
 rw [e]
 have d:∀ j:Fin 10,∃ x,([0,1,2,3,4,6,7,8,9,10]:List L)[j.val]? = some x:=by decide
 obtain ⟨x,hx⟩:=d ⟨q.toNat,hk⟩
 exact ⟨x,bN (k:=q.toNat) (by omega) hx⟩
abbrev j9:Stmt:=top 35
theorem vb:aP ["_law_feed_here","_law_known","_law_word","_law_place","_law_way","_law_outs","_law_fits","_law_some_here","_law_turn","_law_many"] ["_law_feed_here","_law_known","_law_word"] (aj j9):=⟨rfl,rfl,rfl,by decide +kernel,rfl,by decide +kernel,by decide +kernel⟩
theorem wV {W:List (List L)}{q:Int}(h0:0≤q)(h1:q < ((W.map tx).length:Int)):∃ u,u∈W∧atI (W.map tx) q=some (tx u):=by
 obtain ⟨n,rfl⟩:=AW h0
 have hn:n < W.length:=by rw [Ag] at h1;omega
 exact ⟨W[n],AS hn,bP (by rw [Ap,Ac hn];rfl)⟩
theorem wW {ks:List Nat}{q:Int}(h0:0≤q)(h1:q < ((ks.map fun (n:Nat)=>V.int (n:Int)).length:Int)):∃ n,n∈ks∧atI (ks.map fun (n:Nat)=>V.int (n:Int)) q=some (.int (n:Int)):=by
 obtain ⟨n,rfl⟩:=AW h0
 have hn:n < ks.length:=by rw [Ag] at h1;omega
 exact ⟨ks[n],AS hn,bP (by rw [Ap,Ac hn];rfl)⟩
theorem wX (D:Df K mg "_law_next" j9)(T:Bt K w mg aB)(F_draw:Fnc P w K mg base "_law_draw" ["_law_feed_here","_law_many"] 1 d_)(F_lback:Fnc P w K mg base "_law_back" ["_law_word"] 1 lQ)(F_lsh:Fnc P w K mg base "_law_share" ["_law_one","_law_other"] 1 fc):Fnc P w K mg base "_law_next" ["_law_feed_here","_law_known","_law_word"] 2 kJ:=by
 have sc:=vb
 refine D.ok sc (fun _ _ _ _ _ _ us hl=>by obtain ⟨_,_,_,rfl⟩:=vv hl;rfl) (fun vs H Q E h=>?_) (fun f cdv A outer s H vs Q E hr h=>?_)
 ·obtain ⟨d,l,W,v,rfl,_⟩:=h
  rfl
 ·obtain ⟨d,l,W,v,rfl,F0,hl,hW,hWl,hv,k⟩:=h
  have l16:=a_
  have lv:=ae v
  refine ⟨_,(@ag _ _ _ _ _ (@ay _ _ (3) _ _ _ _ sc.nd rfl (Or.inr rfl) (@aE _ _ _ _ _ _ _ _ _ _ _ F_draw hr (by decide) rfl (@aa _ _ _ _ _ (pv 0) (@aa _ _ _ _ _ (@ax _ _ _ _ _ _ _ _ aQ (@aq _ _ _ _ _ _ _ _ _ av (by rfl) T.len As (@aa _ _ _ _ _ (pv 2) af (by rfl)) (by decide) (by decide) (by rfl) (by rfl)) ai) af (by rfl)) (by rfl)) (by decide) (by rfl) (by rfl)) (by rfl) (by first | exact .inl rfl | exact .inr rfl | assumption)) (@ag _ _ _ _ _ (@ay _ _ (4) _ _ _ _ sc.nd rfl (Or.inl rfl) (@aE _ _ _ _ _ _ _ _ _ _ _ F_draw hr (by decide) rfl (@aa _ _ _ _ _ (pv 0) (@aa _ _ _ _ _ ai af (by rfl)) (by rfl)) (by decide) (by rfl) (by rfl)) (by rfl) (by first | exact .inl rfl | exact .inr rfl | assumption)) (@ag _ _ _ _ _ (@bw _ _ _ _ _ _ _ _ (@aC _ _ _ _ _ _ _ _ bD (pv 4) ai (aF _)) (@ag _ _ _ _ _ (@iS _ (5) _ _ _ _ _ _ _ _ _ (["_law_k","_law_word"]) (["_law_k"]) ([2]) _ _ _ _ sc.nd rfl (Or.inl rfl) (@cA _ _ _ _ _ _ rfl (by kernel_rfl)) rfl (@bz _ _ _ _ _ _ rfl T.range (@aa _ _ _ _ _ (@ax _ _ _ _ _ _ _ _ fW (@aq _ _ _ _ _ _ _ _ _ av (by rfl) T.len As (@aa _ _ _ _ _ (pv 2) af (by rfl)) (by decide) (by decide) (by rfl) (by rfl)) ai) af (by rfl)) (by rfl)) (fun _ _ _ _=>@aT _ _ (0) _ (show (["_law_k","_law_word"]:List Str).Nodup from by decide +kernel) rfl (Or.inl rfl) (by first | exact .inl rfl | exact .inr rfl | assumption)) (fun _ _ _ _=>(@d8 _ _ _ (by exact (@aC _ _ _ _ _ _ _ _ bD (@aW _ _ _ _ _ _ _ cz (pv 1) (@ax _ _ _ _ _ _ _ _ aQ (pv 0) ai) (fun _ _=>rfl)) (@aE _ _ _ _ _ _ _ _ _ _ _ F_lback hr (by decide) rfl (@aa _ _ _ _ _ (@aW _ _ _ _ _ _ _ cz (pv 1) (pv 0) (fun _ _=>rfl)) af (by rfl)) (by decide) (by rfl) (by rfl)) (aF _))))) (fun _ _ _ _=>by (exact (pv 0))) (by intro _ ;rfl) (by rfl) (by first | exact .inl rfl | exact .inr rfl | assumption)) (@ag _ _ _ _ _ (@cN _ _ _ _ (@gi _ _ _ _ _ _ _ _ _ _ _ _ Bc Bq Br cj (pv 5) (@aa _ _ _ _ _ (pv 3) af (by rfl)) (by rfl) (by rfl) (by rfl) (by rfl) (by rfl)) (by rfl)) (@ak _ _ _ (@aN _ _ _ _ (@cg _ _ _ _ _ (@aa _ _ _ _ _ aL (@aa _ _ _ _ _ (@aW _ _ _ _ _ _ _ cD (pv 5) (@aE _ _ _ _ _ _ _ _ _ _ _ F_draw hr (by decide) rfl (@aa _ _ _ _ _ (pv 0) (@aa _ _ _ _ _ (@aq _ _ _ _ _ _ _ _ _ bF (by rfl) T.len As (@aa _ _ _ _ _ (pv 5) af (by rfl)) (by decide) (by decide) (by rfl) (by rfl)) af (by rfl)) (by rfl)) (by decide) (by rfl) (by rfl)) (fun _ _=>rfl)) af (by rfl)) (by rfl))))))) aV) (@ag _ _ _ _ _ (@bw _ _ _ _ _ _ _ _ (@PW.pt _ _ _ (@kh _ _ _ _ _ _ _ (@aC _ _ _ _ _ _ _ _ bD (pv 4) ai (aF _)) (@jg _ _ _ _ (@aC _ _ _ _ _ _ _ _ (@gy _ (by exact hr.units)) (pv 1) (@bh _ _ _ _ af) (aF _))))) (@ak _ _ _ (@aN _ _ _ _ (@cg _ _ _ _ _ (@aa _ _ _ _ _ aL (@aa _ _ _ _ _ (@ax _ _ _ _ _ _ _ _ aQ (pv 3) (@ax _ _ _ _ _ _ _ _ dh (@aE _ _ _ _ _ _ _ _ _ _ _ F_draw hr (by decide) rfl (@aa _ _ _ _ _ (pv 0) (@aa _ _ _ _ _ ai af (by rfl)) (by rfl)) (by decide) (by rfl) (by rfl)) ai)) (@aa _ _ _ _ _ (@aW _ _ _ _ _ _ _ cz aL (@aE _ _ _ _ _ _ _ _ _ _ _ F_draw hr (by decide) rfl (@aa _ _ _ _ _ (pv 0) (@aa _ _ _ _ _ ai af (by rfl)) (by rfl)) (by decide) (by rfl) (by rfl)) (fun _ _=>rfl)) af (by rfl)) (by rfl)) (by rfl))))) aV) (@ag _ _ _ _ _ (@iS _ (6) _ _ _ _ _ _ _ _ _ (["_law_turn","_law_word","_law_place"]) (["_law_turn"]) ([2,3]) _ _ _ _ sc.nd rfl (Or.inl rfl) (@cA _ _ _ _ _ _ rfl (by kernel_rfl)) rfl (@bU _ _ _ _ (pv 1)) (fun _ _ _ _=>@aT _ _ (0) _ (show (["_law_turn","_law_word","_law_place"]:List Str).Nodup from by decide +kernel) rfl (Or.inl rfl) (by first | exact .inl rfl | exact .inr rfl | assumption)) (fun _ _ _ _=>(@d8 _ _ _ (by exact (@aC _ _ _ _ _ _ _ _ bD (@aw _ _ _ _ _ _ _ _ _ _ aR (pv 0) aG (@aA _ _ _ ai)) (@aw _ _ _ _ _ _ _ _ _ _ aR (pv 1) (@aA _ _ _ (pv 2)) (@aA _ _ _ (@ax _ _ _ _ _ _ _ _ aQ (pv 2) ai))) (aF _))))) (fun _ _ _ _=>by (exact (pv 0))) (by intro _ ;rfl) (by rfl) (by first | exact .inl rfl | exact .inr rfl | assumption)) (@ag _ _ _ _ _ (@ay _ _ (7) _ _ _ _ sc.nd rfl (Or.inl rfl) (@bI _ _ _ _ _ _ _ _ (@PW.pt _ _ _ (@jh _ _ _ _ _ _ _ (@aC _ _ _ _ _ _ _ _ (@oQ _ (by exact hr.units)) (pv 6) (@bh _ _ _ _ af) (aF _)) (@fU _ _ _ _ (@aC _ _ _ _ _ _ _ _ iD (pv 4) ai (aF _))))) (pv 6) (pv 1)) (by rfl) (by first | exact .inl rfl | exact .inr rfl | assumption)) (@ag _ _ _ _ _ (@ay _ _ (8) _ _ _ _ sc.nd rfl (Or.inl rfl) (@aW _ _ _ _ _ _ _ cD (pv 7) (@aE _ _ _ _ _ _ _ _ _ _ _ F_draw hr (by decide) rfl (@aa _ _ _ _ _ (pv 0) (@aa _ _ _ _ _ (@aq _ _ _ _ _ _ _ _ _ bF (by rfl) T.len As (@aa _ _ _ _ _ (pv 7) af (by rfl)) (by decide) (by decide) (by rfl) (by rfl)) af (by rfl)) (by rfl)) (by decide) (by rfl) (by rfl)) (fun _ _=>rfl)) (by rfl) (by first | exact .inl rfl | exact .inr rfl | assumption)) (@ag _ _ _ _ _ (@ay _ _ (9) _ _ _ _ sc.nd rfl (Or.inl rfl) (@aq _ _ _ _ _ _ _ _ _ av (by rfl) T.len As (@aa _ _ _ _ _ (@aE _ _ _ _ _ _ _ _ _ _ _ F_lsh hr (by decide) rfl (@aa _ _ _ _ _ (pv 8) (@aa _ _ _ _ _ (@aw _ _ _ _ _ _ _ _ _ _ aR (pv 2) (@aA _ _ _ (pv 3)) aG) af (by rfl)) (by rfl)) (by decide) (by rfl) (by rfl)) af (by rfl)) (by decide) (by decide) (by rfl) (by rfl)) (by rfl) (by first | exact .inl rfl | exact .inr rfl | assumption)) (@ag _ _ _ _ _ (@bw _ _ _ _ _ _ _ _ (@aC _ _ _ _ _ _ _ _ bD (pv 4) ai (aF _)) (@ak _ _ _ (@ay _ _ (9) _ _ _ _ sc.nd rfl (Or.inl rfl) (@aE _ _ _ _ _ _ _ _ _ _ _ F_draw hr (by decide) rfl (@aa _ _ _ _ _ (pv 0) (@aa _ _ _ _ _ (@ax _ _ _ _ _ _ _ _ aQ (pv 9) ai) af (by rfl)) (by rfl)) (by decide) (by rfl) (by rfl)) (by rfl) (by first | exact .inl rfl | exact .inr rfl | assumption))) aV) (@ak _ _ _ (@aN _ _ _ _ (@cg _ _ _ _ _ (@aa _ _ _ _ _ aL (@aa _ _ _ _ _ (pv 3) (@aa _ _ _ _ _ (pv 8) (@aa _ _ _ _ _ (@ax _ _ _ _ _ _ _ _ aQ (pv 9) (@bA _ _ _ _ _ _ _ _ _ jk (by rfl) T.int v_ (@aa _ _ _ _ _ (@bq _ _ _ _ _ _ _ _ bD (@aE _ _ _ _ _ _ _ _ _ _ _ F_draw hr (by decide) rfl (@aa _ _ _ _ _ (pv 0) (@aa _ _ _ _ _ ai af (by rfl)) (by rfl)) (by decide) (by rfl) (by rfl)) ai (aF _)) af (by rfl)) (by decide) (by decide) (by rfl) (by rfl))) af (by rfl)) (by rfl)) (by rfl)) (by rfl)))))))))))))),?_⟩
  refine ⟨_,rfl,_,rfl,_,rfl,by omega,_,_,rfl,rfl,d,_,rfl,F0,by omega,by omega,fun pl H1 p0 p1 F1 sb1=>?_⟩
  obtain ⟨n,rfl⟩:=AW p0
  have hn:n≤v.length:=by omega
  refine ⟨_,rfl,d,_,rfl,F1,by decide,by decide,fun way H2 w0 w1 F2 sb2=>?_⟩
  have nl:l≠d:=F0.nl hl
  have l2:=sb2 _ _ nl (sb1 _ _ nl hl)
  have sb:=sb1.trans sb2
  refine ⟨_,rfl,rfl,_,rfl,kd (fun e0=>?_) (fun _=>?_)⟩
  ·refine ⟨_,rfl,_,rfl,by omega,_,_,rfl,rfl,_,rfl,by omega,by omega,?_⟩
   rw [show (((toS v).length:Int) - 1).toNat=v.length - 1 by omega]
   refine ck (own:=["_law_k"]) (cap:=[2]) (J:=Itr 0 (v.length - 1)) (v.length - 1) (fun j ys σ H'=>∃ (b:Option V) (ks:List Nat),σ = [b,some (tx v)]∧ys=ks.map (fun (n:Nat)=>V.int (n:Int))∧ks.length≤j∧(∀ x∈ks,x≤v.length)∧aH H2 H') ⟨none,[],rfl,rfl,Al _,(fun x hx=>by cases hx),aH.refl _⟩ (fun j ys σ H' hj ⟨_,ks,_,e,e2,_⟩=>by rw [e,Ag];exact e2) (by omega) (fun j ys σ H' hj _=>hj) (fun ys σ H' _=>Al _) ?_ ?_
   ·rintro j ys σ HX x HY N hj ⟨b,ks,rfl,rfl,hk,hkl,s3⟩ ⟨rfl,rfl⟩ hN
    have e1:=Ac (show j+1 < v.length by omega)
    have e0:=Ac (show j < v.length by omega)
    refine ⟨_,rfl,_,rfl,_,_,rfl,rfl,_,_,_,rfl,rfl,by omega,bN (k:=j+1) (by omega) e1,_,rfl,_,rfl,_,_,_,rfl,rfl,by omega,bN (k:=j) (by omega) e0,[v[j]],rfl,(by show 1≤5000;decide),fun H4 s4=>⟨rfl,_,rfl,kd (fun _=>?_) (fun _=>hN _ _ _ ⟨_,ks,rfl,rfl,by omega,hkl,s3.trans s4⟩)⟩⟩
    refine ⟨_,rfl,hN _ _ _ ⟨_,ks++[j],rfl,?_,by rw [Ad];simp;omega,fun x hx=>?_,s3.trans s4⟩⟩
    ·rw [AH,Dc,Ea,D1]
    ·rcases Ax.mp hx with q | q
     ·exact hkl x q
     ·rw [Af] at q;omega
   ·rintro ys σ H3 m ⟨b,ks,rfl,rfl,hk,hkl,s3⟩ hm
    refine ⟨_,rfl,.inl ⟨rfl,_,SqL.of ah⟩,_,rfl,m,_,_,rfl,rfl,ah,(by rw [Ag];omega),?_⟩
    rw [fT]
    have ek:ks.map (fun (n:Nat)=>V.int (n:Int))++[V.int (n:Int)]=(ks++[n]).map (fun (n:Nat)=>V.int (n:Int)):=by rw [AH];rfl
    rw [ek]
    have hk':∀ x∈ks++[n],x≤v.length:=fun x hx=>by
     rcases Ax.mp hx with q | q
     ·exact hkl x q
     ·rw [Af] at q;omega
    have hkl':(ks++[n]).length≤v.length+1:=by rw [Ad];simp;omega
    have hkp:0 < (ks++[n]).length:=by rw [Ad];simp
    generalize ks++[n]=ks' at hk' hkl' hkp
    have s5:aH H2 (upd H3 m (.lst (ks'.map fun (n:Nat)=>V.int (n:Int)))):=s3.then hm
    have f5:(upd H3 m (.lst (ks'.map fun (n:Nat)=>V.int (n:Int)))) m=some (.lst (ks'.map fun (n:Nat)=>V.int (n:Int))):=ah
    generalize upd H3 m (.lst (ks'.map fun (n:Nat)=>V.int (n:Int)))=H5 at s5 f5 ⊢
    have F5:=F2.same s5
    have lk:(ks'.map fun (n:Nat)=>V.int (n:Int)).length=ks'.length:=Ag ..
    refine ⟨_,rfl,_,rfl,_,rfl,m,_,rfl,.inl (SqL.of f5),d,_,rfl,F5,by omega,by omega,fun q H6 q0 q1 F6 sb6=>?_⟩
    have nm:m≠d:=F5.nl f5
    obtain ⟨i,hi,ei⟩:=wW q0 q1
    have:=hk' i hi
    refine ⟨m,_,_,_,rfl,rfl,SqL.of (sb6 _ _ nm f5),ei,(aK (n:=2) (by decide)),fun t ht=>?_⟩
    exact k (.out i) t _ (show i≤5000 by omega) ah (F6.new ht) (((sb.trans s5.b).trans sb6).trans (aH.new ht).b)
  refine ⟨_,rfl,rfl,_,rfl,kd (fun e1=>?_) (fun _=>?_)⟩
  ·refine ⟨_,rfl,_,rfl,d,_,rfl,F2,by decide,by decide,fun q H7 q0 q1 F7 sb7=>?_⟩
   refine ⟨_,_,rfl,rfl,⟨by decide,by decide⟩,_,_,rfl,rfl,?_⟩
   refine ⟨_,rfl,d,_,rfl,F7,by decide,by decide,fun q2 H8 q20 q21 F8 sb8=>?_⟩
   obtain ⟨x,hx⟩:=tE q20 q21
   refine ⟨_,_,_,rfl,rfl,(aK (n:=10) (by decide)),hx,(aK (n:=3) (by decide)),fun t ht=>?_⟩
   have eq:q / 11=((q / 11).toNat:Int):=by omega
   refine k (.inn (n+(q / 11).toNat) x) t _ (show _≤5000 by omega) ?_ (F8.new ht) (((sb.trans sb7).trans sb8).trans (aH.new ht).b)
   rw [ah]
   show some (HO.tup [V.str "in",.int ((n:Int)+q / 11),.str ⟨#[cp x]⟩])=some (HO.tup [V.str "in",.int ((n+(q / 11).toNat:Nat):Int),tx [x]])
   rw [show ((n+(q / 11).toNat:Nat):Int)=(n:Int)+q / 11 by omega]
   rfl
  refine ⟨_,rfl,(aK (n:=0) (by decide)),fun z hz=>?_⟩
  have s3:aH H2 (upd H2 z (.lst [])):=aH.new hz
  refine ⟨l,z,_,rfl,rfl,s3 _ _ l2,ah,?_⟩
  generalize upd H2 z (.lst [])=H3 at s3 ⊢
  have F3:=F2.same s3
  have l3:=s3 _ _ l2
  have sb3:=sb.trans s3.b
  refine ⟨_,rfl,kd (fun e1=>?_) (fun hne=>?_)⟩
  ·refine ⟨_,rfl,_,rfl,d,_,rfl,F3,by decide,by decide,fun q H7 q0 q1 F7 sb7=>?_⟩
   refine ⟨_,_,rfl,rfl,⟨by decide,by decide⟩,_,_,rfl,rfl,?_⟩
   refine ⟨_,rfl,d,_,rfl,F7,by decide,by decide,fun q2 H8 q20 q21 F8 sb8=>?_⟩
   obtain ⟨x,hx⟩:=tE q20 q21
   refine ⟨_,_,_,rfl,rfl,(aK (n:=10) (by decide)),hx,(aK (n:=3) (by decide)),fun t ht=>?_⟩
   have eq:q / 11=((q / 11).toNat:Int):=by omega
   refine k (.inn (n+(q / 11).toNat) x) t _ (show _≤5000 by omega) ?_ (F8.new ht) (((sb3.trans sb7).trans sb8).trans (aH.new ht).b)
   rw [ah]
   show some (HO.tup [V.str "in",.int ((n:Int)+q / 11),.str ⟨#[cp x]⟩])=some (HO.tup [V.str "in",.int ((n+(q / 11).toNat:Nat):Int),tx [x]])
   rw [show ((n+(q / 11).toNat:Nat):Int)=(n:Int)+q / 11 by omega]
   rfl
  have hne:W≠[]:=fun e=>hne (by rw [e];rfl)
  refine ⟨_,rfl,l,rfl,⟨_,SqL.of l3⟩,?_⟩
  refine eF (xs:=W.map tx) (own:=["_law_turn"]) (cap:=[2,3]) (fun j ys σ H'=>∃ (b:Option V) (U:List (List L)),σ = [b,some (tx v),some (.int (n:Int))]∧ys=U.map tx∧U.length≤j∧(∀ u∈U,u∈W)∧H'=H3) ⟨none,[],rfl,rfl,Al _,(fun u hu=>by cases hu),rfl⟩ (fun j ys σ H' hj ⟨_,U,_,e,e2,_⟩=>by rw [e,Ag];exact e2) (by rw [Ag];omega) (fun j ys σ H' ⟨_,_,_,_,_,_,e⟩=>by rw [e];exact SqL.of l3) ?_ ?_
  ·rintro j ys σ HX x N hx ⟨b,U,rfl,rfl,hU,hUW,rfl⟩ hN
   obtain ⟨u,hu,rfl⟩:∃ u,W[j]? = some u∧x=tx u:=by
    rw [Ap] at hx
    cases e:W[j]? with
    | none=>rw [e] at hx;cases hx
    | some u=>rw [e] at hx;exact ⟨u,rfl,(A9 hx).symm⟩
   have hm:=AG hu
   have ul:=hWl u hm
   have lu:=ae u
   refine ⟨_,rfl,_,rfl,_,rfl,by omega,_,rfl,_,rfl,_,rfl,_,rfl,_,_,rfl,rfl,_,rfl,_,rfl,by omega,rfl,_,rfl,kd (fun _=>?_) (fun _=>hN _ _ _ ⟨_,U,rfl,rfl,by omega,hUW,rfl⟩)⟩
   refine ⟨_,rfl,hN _ _ _ ⟨_,U++[u],rfl,by rw [AH];rfl,by rw [Ad];simp;omega,fun x hx=>?_,rfl⟩⟩
   rcases Ax.mp hx with q | q
   ·exact hUW x q
   ·rw [Af] at q;subst q;exact hm
  ·rintro ys σ H4 m ⟨b,U,rfl,rfl,hU,hUW,rfl⟩ hm
   rw [Ag] at hU
   have s5:aH H4 (upd H4 m (.lst (U.map tx))):=aH.new hm
   have f5:(upd H4 m (.lst (U.map tx))) m=some (.lst (U.map tx)):=ah
   generalize upd H4 m (.lst (U.map tx))=H5 at s5 f5 ⊢
   have F5:=F3.same s5
   have l5:=s5 _ _ l3
   have sb5:=sb3.trans s5.b
   refine ⟨_,rfl,(aK (n:=0) (by decide)),fun z2 hz2=>?_⟩
   have s6:aH H5 (upd H5 z2 (.lst [])):=aH.new hz2
   refine ⟨m,z2,_,rfl,rfl,s6 _ _ f5,ah,?_⟩
   generalize upd H5 z2 (.lst [])=H6 at s6 ⊢
   have F6:=F5.same s6
   have l6:=s6 _ _ l5
   have f6:=s6 _ _ f5
   have sb6:=sb5.trans s6.b
   refine yu (fun x H'=>∃ (y:Addr) (U':List (List L)),x = .ref y∧U'≠[]∧U'.length≤4000∧(∀ u∈U',u∈W)∧H'=H6∧H6 y=some (.lst (U'.map tx))) ?_ (fun main hue=>?_) (fun main=>⟨_,rfl,main _ _ ⟨l,W,rfl,hne,hW,fun u h=>h,rfl,l6⟩⟩)
   rotate_left
   ·have hue:U≠[]:=fun e=>by rw [e] at hue;exact absurd hue (by decide)
    exact ⟨_,rfl,_,_,rfl,rfl,_,rfl,kd (fun _=>⟨_,rfl,main _ _ ⟨m,U,rfl,hue,Ck hU hW,hUW,rfl,f6⟩⟩) (fun _=>⟨_,rfl,main _ _ ⟨l,W,rfl,hne,hW,fun u h=>h,rfl,l6⟩⟩)⟩
   rintro x H' ⟨y,U',rfl,hU',hUl,hUW',rfl,fy⟩
   refine ⟨_,rfl,_,rfl,_,rfl,y,_,rfl,.inl (SqL.of fy),d,_,rfl,F6,(by rw [Ag];have:=A6.mpr hU';omega),(by rw [Ag];have:=hUl;omega),fun qt HB qt0 qt1 FB sbB=>?_⟩
   obtain ⟨u,hu,eu⟩:=wV qt0 qt1
   refine ⟨y,_,_,_,rfl,rfl,SqL.of (sbB _ _ (F6.nl fy) fy),eu,?_⟩
   have ul:=hWl u (hUW' u hu)
   refine ⟨_,rfl,_,rfl,_,rfl,_,rfl,_,rfl,by omega,?_⟩
   rw [ao,ba v (by omega),Az]
   refine ⟨u,v.drop n,rfl,by omega,by rw [AA];omega,fun HC sC=>?_⟩
   have hc:(lcp u (v.drop n)).length≤u.length:=(dX _ _).1.length_le
   have lc:=ae (lcp u (v.drop n))
   have FC:=FB.same sC
   have sbC:=(sb6.trans sbB).trans sC.b
   refine ⟨_,rfl,by omega,?_⟩
   generalize toS (lcp u (v.drop n))=zz at lc
   refine ⟨_,rfl,rfl,_,rfl,kd (fun _=>?_) (fun _=>?_)⟩
   ·refine ⟨_,rfl,_,rfl,_,_,rfl,rfl,d,_,rfl,FC,by omega,by omega,fun qm HD qm0 qm1 FD sbD=>?_⟩
    obtain ⟨m0,rfl⟩:=AW qm0
    refine ⟨_,rfl,_,rfl,_,rfl,_,rfl,d,_,rfl,FD,by decide,by decide,fun qq HE qq0 qq1 FE sbE=>?_⟩
    refine ⟨rfl,.inr ⟨_,rfl,_,_,rfl,rfl,(aK (n:=4) (by decide)),fun t ht=>?_⟩⟩
    have hone:∃ o:Nat,o≤1∧(if decide (V.int qq=V.int 0)=true then (1:Int) else 0)=(o:Int):=by
     by_cases z:qq=0
     ·exact ⟨1,Al _,if_pos (by rw [z];simp)⟩
     ·exact ⟨0,by decide,if_neg (by simp [z])⟩
    obtain ⟨o,ho,eo⟩:=hone
    rw [eo]
    refine k (.rng n u (m0+o)) t _ ⟨by omega,ul,by omega⟩ ?_ (FE.new ht) (((sbC.trans sbD).trans sbE).trans (aH.new ht).b)
    rw [ah]
    show some (HO.tup [V.str "ring",.int (n:Int),tx u,.int (((m0:Nat):Int)+(o:Int))])=some (HO.tup [V.str "ring",.int (n:Int),tx u,.int ((m0+o:Nat):Int)])
    rw [show ((m0+o:Nat):Int)=((m0:Nat):Int)+(o:Int) by omega]
   ·refine ⟨_,rfl,_,rfl,_,rfl,_,rfl,d,_,rfl,FC,by decide,by decide,fun qq HE qq0 qq1 FE sbE=>?_⟩
    refine ⟨rfl,.inr ⟨_,rfl,_,_,rfl,rfl,(aK (n:=4) (by decide)),fun t ht=>?_⟩⟩
    have hone:∃ o:Nat,o≤1∧(if decide (V.int qq=V.int 0)=true then (1:Int) else 0)=(o:Int):=by
     by_cases z:qq=0
     ·exact ⟨1,Al _,if_pos (by rw [z];simp)⟩
     ·exact ⟨0,by decide,if_neg (by simp [z])⟩
    obtain ⟨o,ho,eo⟩:=hone
    rw [eo]
    refine k (.rng n u (zz.length+o)) t _ ⟨by omega,ul,by omega⟩ ?_ (FE.new ht) ((sbC.trans sbE).trans (aH.new ht).b)
    rw [ah]
    show some (HO.tup [V.str "ring",.int (n:Int),tx u,.int (((zz.length:Nat):Int)+(o:Int))])=some (HO.tup [V.str "ring",.int (n:Int),tx u,.int ((zz.length+o:Nat):Int)])
    rw [show ((zz.length+o:Nat):Int)=((zz.length:Nat):Int)+(o:Int) by omega]
abbrev gP:Stmt:=top 10
theorem sf:aP ["word","place"] ["word","place"] (aj gP):=⟨rfl,rfl,rfl,by decide +kernel,rfl,by decide +kernel,by decide +kernel⟩
theorem vc (D:Df K mg "is_out" gP)(T:Bt K w mg aB)(F_back:Fnc P w K mg base "back" ["word"] 1 lQ):Fnc P w K mg base "is_out" ["word","place"] 2 uK:=by
 have sc:=sf
 refine D.ok sc (fun _ _ _ _ _ _ us hl=>by obtain ⟨_,_,rfl⟩:=rT hl;rfl) (fun vs H Q E h=>?_) (fun f cdv A outer s H vs Q E hr h=>?_)
 ·obtain ⟨w,n,rfl,_⟩:=h
  rfl
 ·obtain ⟨u,n,rfl,hl,k⟩:=h
  have l16:=a_
  have lu:=ae u
  refine ⟨_,(@ak _ _ _ (@aN _ _ _ _ (@fV _ _ _ _ _ _ _ (@bq _ _ _ _ _ _ _ _ iD (@ax _ _ _ _ _ _ _ _ aQ (pv 1) ai) (@aq _ _ _ _ _ _ _ _ _ av (by rfl) T.len As (@aa _ _ _ _ _ (pv 0) af (by rfl)) (by decide) (by decide) (by rfl) (by rfl)) (aF _)) (@d2 _ _ _ _ _ (@bq _ _ _ _ _ _ _ _ bD (@aW _ _ _ _ _ _ _ cz (pv 0) (@ax _ _ _ _ _ _ _ _ aQ (pv 1) ai) (fun _ _=>rfl)) (@aE _ _ _ _ _ _ _ _ _ _ _ F_back hr (by decide) rfl (@aa _ _ _ _ _ (@aW _ _ _ _ _ _ _ cz (pv 0) (pv 1) (fun _ _=>rfl)) af (by rfl)) (by decide) (by rfl) (by rfl)) (aF _)))))),?_⟩
  refine ⟨_,rfl,_,_,rfl,rfl,_,rfl,_,rfl,by omega,_,_,rfl,rfl,_,rfl,?_⟩
  by_cases hn:n+1 < u.length
  ·refine cM (An (by omega)) ?_
   have e1:=Ac hn
   have e0:=Ac (show n < u.length by omega)
   refine ⟨_,rfl,_,rfl,_,_,rfl,rfl,_,_,_,rfl,rfl,by omega,bN (k:=n+1) (by omega) e1,_,rfl,_,rfl,_,_,_,rfl,rfl,by omega,bN (k:=n) rfl e0,[u[n]],rfl,(by show 1≤5000;decide),fun H1 s1=>⟨rfl,?_⟩⟩
   have k:=k _ s1
   unfold iU at k
   rw [An hn,DN,e1,e0] at k
   rw [show V.str (⟨#[cp u[n+1]]⟩:Str)=tx [u[n+1]] from rfl,h_]
   have e:decide (tx [u[n+1]]=tx [inv u[n]])=decide (some u[n+1]=(some u[n]).map inv):=C_.mpr (oP.trans ⟨fun e=>by rw [e];rfl,fun e=>A9 e⟩)
   rw [e]
   exact k
  ·refine bZ (AF (by omega)) ?_
   have k:=k H (aH.refl _)
   unfold iU at k
   rw [AF hn,CJ] at k
   exact k
abbrev qf:Stmt:=top 11
theorem wY:aP ["word","step","place"] ["word","step"] (aj qf):=⟨rfl,rfl,rfl,by decide +kernel,rfl,by decide +kernel,by decide +kernel⟩
theorem yF (D:Df K mg "changed" qf)(T:Bt K w mg aB)(F_back:Fnc P w K mg base "back" ["word"] 1 lQ):Fnc P w K mg base "changed" ["word","step"] 2 uL:=by
 have sc:=wY
 refine D.ok sc (fun _ _ _ _ _ _ us hl=>by obtain ⟨_,_,rfl⟩:=rT hl;rfl) (fun vs H Q E h=>?_) (fun f cdv A outer s H vs Q E hr h=>?_)
 ·obtain ⟨p,v,s,rfl,_⟩:=h
  rfl
 ·obtain ⟨p,v,st,rfl,hv,hp,hs,k⟩:=h
  have l16:=a_
  have lv:=ae v
  refine ⟨_,(@ag _ _ _ _ _ (@ay _ _ (2) _ _ _ _ sc.nd rfl (Or.inl rfl) (@aW _ _ _ _ _ _ _ bb (pv 1) ai (fun _ _=>rfl)) (by rfl) (by first | exact .inl rfl | exact .inr rfl | assumption)) (@ag _ _ _ _ _ (@bw _ _ _ _ _ _ _ _ (@aC _ _ _ _ _ _ _ _ bD (@aW _ _ _ _ _ _ _ bb (pv 1) ai (fun _ _=>rfl)) aL (aF _)) (@ak _ _ _ (@aN _ _ _ _ (@ax _ _ _ _ _ _ _ _ az (@aw _ _ _ _ _ _ _ _ _ _ aR (pv 0) aG (@aA _ _ _ (pv 2))) (@aw _ _ _ _ _ _ _ _ _ _ aR (pv 0) (@aA _ _ _ (@ax _ _ _ _ _ _ _ _ aQ (pv 2) ai)) aG)))) aV) (@ag _ _ _ _ _ (@bw _ _ _ _ _ _ _ _ (@aC _ _ _ _ _ _ _ _ bD (@aW _ _ _ _ _ _ _ bb (pv 1) ai (fun _ _=>rfl)) aL (aF _)) (@ak _ _ _ (@aN _ _ _ _ (@ax _ _ _ _ _ _ _ _ az (@ax _ _ _ _ _ _ _ _ az (@ax _ _ _ _ _ _ _ _ az (@aw _ _ _ _ _ _ _ _ _ _ aR (pv 0) aG (@aA _ _ _ (pv 2))) (@aW _ _ _ _ _ _ _ bb (pv 1) ai (fun _ _=>rfl))) (@aE _ _ _ _ _ _ _ _ _ _ _ F_back hr (by decide) rfl (@aa _ _ _ _ _ (@aW _ _ _ _ _ _ _ bb (pv 1) ai (fun _ _=>rfl)) af (by rfl)) (by decide) (by rfl) (by rfl))) (@aw _ _ _ _ _ _ _ _ _ _ aR (pv 0) (@aA _ _ _ (pv 2)) aG)))) aV) (@ak _ _ _ (@aN _ _ _ _ (@ax _ _ _ _ _ _ _ _ az (@ax _ _ _ _ _ _ _ _ az (@aw _ _ _ _ _ _ _ _ _ _ aR (pv 0) aG (@aA _ _ _ (pv 2))) (@aE _ _ _ _ _ _ _ _ _ _ _ F_back hr (by decide) rfl (@aa _ _ _ _ _ (@aw _ _ _ _ _ _ _ _ _ _ aR (@aW _ _ _ _ _ _ _ bb (pv 1) ai (fun _ _=>rfl)) (@aA _ _ _ (@aW _ _ _ _ _ _ _ bb (pv 1) ai (fun _ _=>rfl))) aG) af (by rfl)) (by decide) (by rfl) (by rfl))) (@aw _ _ _ _ _ _ _ _ _ _ aR (pv 0) (@aA _ _ _ (@ax _ _ _ _ _ _ _ _ aQ (pv 2) (@aW _ _ _ _ _ _ _ bb (pv 1) ai (fun _ _=>rfl)))) aG))))))),?_⟩
  cases st with
  | out n =>
   have hp:H p=some (.tup [.str "out",.int (n:Int)]):=hp
   refine ⟨_,rfl,p,_,_,_,rfl,rfl,SqT.of hp,at1 _ _ _,?_⟩
   refine ⟨_,rfl,p,_,_,_,rfl,rfl,SqT.of hp,at0 _ _,rfl,_,rfl,cM (An rfl) ?_⟩
   refine ⟨_,rfl,_,rfl,_,rfl,_,rfl,by omega,_,rfl,_,rfl,_,_,rfl,rfl,_,rfl,_,rfl,by omega,_,_,rfl,rfl,?_,?_⟩
   ·have h1:=AY (toS v) none (some (n:Int))
    have h2:=AY (toS v) (some ((n:Int)+2)) none
    omega
   rw [ao,ao,bj v (by omega),ba v (by omega),aX,Az,show ((n:Int)+2).toNat=n+2 by omega]
   exact k _ (aH.refl _)
  | inn n x =>
   have hp:H p=some (.tup [.str "in",.int (n:Int),tx [x]]):=hp
   have lx:=ae [x]
   refine ⟨_,rfl,p,_,_,_,rfl,rfl,SqT.of hp,at1 _ _ _,?_⟩
   refine ⟨_,rfl,p,_,_,_,rfl,rfl,SqT.of hp,at0 _ _,rfl,_,rfl,bZ (by decide +kernel) ?_⟩
   refine ⟨_,rfl,p,_,_,_,rfl,rfl,SqT.of hp,at0 _ _,rfl,_,rfl,cM (An rfl) ?_⟩
   have h1:=AY (toS v) none (some (n:Int))
   have h2:=AY (toS v) (some (n:Int)) none
   refine ⟨_,rfl,_,rfl,_,rfl,_,rfl,by omega,_,rfl,p,_,_,_,rfl,rfl,SqT.of hp,at2 _ _ _ _,_,_,rfl,rfl,(by rw [lx];simp only [A2,Bs];omega),?_⟩
   rw [ao,bj v (by omega),aX,Az]
   refine ⟨_,rfl,p,_,_,_,rfl,rfl,SqT.of hp,at2 _ _ _ _,[x],rfl,(by show 1≤5000;decide),fun H1 s1=>?_⟩
   have l1:=ae (v.take n++[x])
   have l2:=ae (bk [x])
   have l3:=ae (v.take n++[x]++bk [x])
   simp only [Ad,Aj,A2,Bs,bO] at l1 l2 l3
   refine ⟨_,_,rfl,rfl,by omega,?_⟩
   rw [aX]
   refine ⟨_,rfl,_,rfl,_,rfl,_,rfl,by omega,_,_,rfl,rfl,by omega,?_⟩
   rw [ao,ba v (by omega),aX,Az,h_]
   exact k _ s1
  | rng n u m =>
   have hp:H p=some (.tup [.str "ring",.int (n:Int),tx u,.int (m:Int)]):=hp
   have lx:=ae u
   have hu:=hs.2.1
   refine ⟨_,rfl,p,_,_,_,rfl,rfl,SqT.of hp,at1 _ _ _,?_⟩
   refine ⟨_,rfl,p,_,_,_,rfl,rfl,SqT.of hp,at0 _ _,rfl,_,rfl,bZ (by decide +kernel) ?_⟩
   refine ⟨_,rfl,p,_,_,_,rfl,rfl,SqT.of hp,at0 _ _,rfl,_,rfl,bZ (by decide +kernel) ?_⟩
   have h1:=AY (toS v) none (some (n:Int))
   have h2:=AY (toS v) (some ((n:Int)+(m:Int))) none
   refine ⟨_,rfl,_,rfl,_,rfl,_,rfl,by omega,_,rfl,p,_,_,_,rfl,rfl,SqT.of hp,at2 _ _ _ _,_,rfl,p,_,_,_,rfl,rfl,SqT.of hp,at3 _ _ _ _ _,_,rfl,_,rfl,by omega,?_⟩
   rw [ao,ao,bj v (by omega),ba u (by omega),Az,Az]
   refine ⟨u.drop m,rfl,(by rw [AA];omega),fun H1 s1=>?_⟩
   have l1:=ae (v.take n)
   have l2:=ae (bk (u.drop m))
   have l3:=ae (v.take n++bk (u.drop m))
   simp only [Ad,Aj,AA,bO] at l1 l2 l3
   refine ⟨_,_,rfl,rfl,by omega,?_⟩
   rw [aX]
   refine ⟨_,rfl,_,rfl,_,rfl,p,_,_,_,rfl,rfl,SqT.of (s1 _ _ hp),at3 _ _ _ _ _,_,_,rfl,rfl,_,rfl,_,rfl,by omega,_,_,rfl,rfl,by omega,?_⟩
   rw [ao,ba v (by omega),aX,show ((n:Int)+(m:Int)).toNat=n+m by omega]
   exact k _ s1
def hlf (u:List L):List L:=u.take (u.length / 2+1)
theorem si {kvs:List (Key × V)}{k:Key}{v:V}{p:Key × V}(h:p∈eW kvs k v):p∈kvs ∨ p=(k,v):=by
 unfold eW at h
 split at h
 ·obtain ⟨q,hq,rfl⟩:=AU.mp h
  split
  ·rename_i e
   exact .inr (by rw [e])
  ·exact .inl hq
 ·rcases Ax.mp h with h | h
  ·exact .inl h
  ·exact .inr (Af.mp h)
theorem gQ {H0 G:Hp}{l:Addr}{o:HO}(w:aH H0 G)(hl:H0 l=none):aH H0 (upd G l o):=fun b u e=>by
 rw [aD (au e hl)]
 exact w b u e
inductive mB (vs:List V)(H:Hp)(Q:VK)(u3_:XK):Prop
 | mk:∀ (u:List L),(vs=[tx u])→(u.length≤2000)→(∀ H',aH H H'→Q (tx (hlf u)) H')→mB vs H Q u3_
structure Kn (kvs:List (Key × V)) (W:List (List L)):Prop where
 of:∀ p∈kvs,∃ u∈W,p.1 = .inr (toS (hlf u))∧p.2=tx u
 all:∀ u∈W,∃ x,dj kvs (.inr (toS (hlf u)))=some x
inductive vd (vs:List V)(H:Hp)(Q:VK)(u3_:XK):Prop
 | mk:∀ (a:Addr) (R:List (List L)),(vs=[.ref a])→(H a=some (.tup (R.map tx)))→(Rgs R)→(∀ (d:Addr) (kvs:List (Key × V)) (W:List (List L)) (H':Hp),H d=none→Tn R W→Kn kvs W→kvs.length≤4000→H' d=some (.dK kvs)→aH H H'→Q (.ref d) H')→vd vs H Q u3_
abbrev j_:Stmt:=top 16
theorem ve:aP ["turn"] ["turn"] (aj j_):=⟨rfl,rfl,rfl,by decide +kernel,rfl,by decide +kernel,by decide +kernel⟩
theorem w4 (D:Df K mg "half_of" j_)(T:Bt K w mg aB):Fnc P w K mg base "half_of" ["turn"] 1 mB:=by
 have sc:=ve
 refine D.ok sc (fun _ _ _ _ _ _ us hl=>by obtain ⟨_,rfl⟩:=jZ hl;rfl) (fun vs H Q E h=>?_) (fun f cdv A outer s H vs Q E hr h=>?_)
 ·obtain ⟨u,rfl,_⟩:=h
  rfl
 ·obtain ⟨u,rfl,hu,k⟩:=h
  have l16:=a_
  refine ⟨_,(@ak _ _ _ (@aN _ _ _ _ (@aw _ _ _ _ _ _ _ _ _ _ aR (pv 0) aG (@aA _ _ _ (@ax _ _ _ _ _ _ _ _ aQ (@ax _ _ _ _ _ _ _ _ dh (@aq _ _ _ _ _ _ _ _ _ av (by rfl) T.len As (@aa _ _ _ _ _ (pv 0) af (by rfl)) (by decide) (by decide) (by rfl) (by rfl)) ai) ai))))),?_⟩
  have ul:(toS u).length≤sizeLine:=by rw [ae];omega
  refine ⟨_,rfl,_,rfl,toS u,rfl,ul,_,_,rfl,rfl,⟨by decide,by decide⟩,_,_,rfl,rfl,_,rfl,toS u,rfl,ul,?_⟩
  rw [ao,ae,bj _ (by omega)]
  have e:((u.length:Int) / 2+1).toNat=u.length / 2+1:=by omega
  rw [e]
  exact k H (aH.refl _)
abbrev qg:Stmt:=top 18
theorem w5:aP ["rings","known","turn"] ["rings"] (aj qg):=⟨rfl,rfl,rfl,by decide +kernel,rfl,by decide +kernel,by decide +kernel⟩
theorem yG (D:Df K mg "turns_by_half" qg)(T:Bt K w mg aB)(F_tof:Fnc P w K mg base "turns_of" ["rings"] 2 eK)(F_half:Fnc P w K mg base "half_of" ["turn"] 1 mB):Fnc P w K mg base "turns_by_half" ["rings"] 3 vd:=by
 have sc:=w5
 refine D.ok sc (fun _ _ _ _ _ _ us hl=>by obtain ⟨_,rfl⟩:=jZ hl;rfl) (fun vs H Q E h=>?_) (fun f cdv A outer s H vs Q E hr h=>?_)
 ·obtain ⟨a,R,rfl,_⟩:=h
  rfl
 ·obtain ⟨a,R,rfl,ha,hR,k⟩:=h
  have l16:=a_
  have hu:=qU hr
  refine ⟨_,(@ag _ _ _ _ _ (@ay _ _ (1) _ _ _ _ sc.nd rfl (Or.inl rfl) qR (by rfl) (by first | exact .inl rfl | exact .inr rfl | assumption)) (@ag _ _ _ _ _ (@bJ _ _ _ _ _ _ _ _ AQ rfl (@bU _ _ _ _ (@aE _ _ _ _ _ _ _ _ _ _ _ F_tof hr (by decide) rfl (@aa _ _ _ _ _ (pv 0) af (by rfl)) (by decide) (by rfl) (by rfl))) (@aT _ _ (2) _ sc.nd rfl (Or.inl rfl) (by first | exact .inl rfl | exact .inr rfl | assumption)) (@ak _ _ _ (@gj _ _ _ _ _ _ _ _ _ hu (pv 1) (@aE _ _ _ _ _ _ _ _ _ _ _ F_half hr (by decide) rfl (@aa _ _ _ _ _ (pv 2) af (by rfl)) (by decide) (by rfl) (by rfl)) (pv 2) rfl)) (by intro _ ;rfl)) (@ak _ _ _ (@aN _ _ _ _ (pv 1))))),?_⟩
  intro d hd
  have s1:aH H (upd H d (.dK [])):=aH.new hd
  have f1:(upd H d (.dK [])) d=some (.dK []):=ah
  generalize upd H d (.dK [])=H1 at s1 f1 ⊢
  refine ⟨_,rfl,a,R,rfl,s1 _ _ ha,hR,fun l W H2 hl hO hW fl s2=>?_⟩
  have f2:=s2 _ _ f1
  have s02:=s1.trans s2
  have tn:Tn R W:=⟨hO,hW⟩
  have tl:=tn.len hR
  have wl:∀ x∈W,1≤x.length∧x.length≤120:=fun x hx=>by
   obtain ⟨h1,h2⟩:=tn.word hR hx
   exact ⟨A6.mpr h1,by omega⟩
  refine ⟨l,rfl,⟨_,SqL.of fl⟩,cy (xs:=W.map tx) (fun j σ H'=>∃ (b:Option V) (kvs:List (Key × V)),σ = [some (.ref a),some (.ref d),b]∧Kn kvs (W.take j)∧kvs.length≤j∧H' d=some (.dK kvs)∧H' l=some (.lst (W.map tx))∧aH H H') ⟨_,[],rfl,⟨fun p hp=>(by cases hp),fun u hu=>(by simp at hu)⟩,Al _,f2,fl,s02⟩ (fun j σ H' hj ⟨_,_,_,_,_,_,f,_⟩=>SqL.of f) ?_ ?_⟩
  ·rintro j z σ H3 hz ⟨_,kvs,rfl,kn,kl,f3,fl3,s3⟩
   obtain ⟨u,hu',rfl⟩:=AU.mp (AG hz)
   obtain ⟨u1,u2⟩:=wl u hu'
   have hj:=(Ah.mp hz).1
   refine ⟨_,rfl,_,rfl,_,rfl,u,rfl,by omega,fun H4 s4=>⟨d,_,rfl,tX.k (k:=Sum.inr (toS (hlf u))) (s4 _ _ f3) (by rw [Ag] at hj;omega),?_⟩⟩
   have nl:l≠d:=fun e=>by rw [e,f3] at fl3;cases fl3
   have hju:W[j]? = some u:=by
    rw [Ap] at hz
    obtain ⟨y,hy,e⟩:=Bf.mp hz
    rw [hy,ie e]
   have et:W.take (j+1)=W.take j++[u]:=by rw [AI,hju];rfl
   refine ⟨_,_,rfl,⟨fun p hp=>?_,fun x hx=>?_⟩,Ck (cR _ _ _) (by omega),ah,by rw [aD nl];exact s4 _ _ fl3,gQ (s3.trans s4) hd⟩
   ·rw [et]
    rcases si hp with h | h
    ·obtain ⟨y,hy,r⟩:=kn.of p h
     exact ⟨y,AX _ hy,r⟩
    ·exact ⟨u,by simp,by rw [h],by rw [h]⟩
   ·rw [qP]
    split
    ·exact ⟨_,rfl⟩
    ·rename_i ne
     rw [et] at hx
     rcases Ax.mp hx with h | h
     ·exact kn.all x h
     ·exact absurd (by rw [Af.mp h]) ne
  ·rintro σ H3 ⟨_,kvs,rfl,kn,kl,f3,fl3,s3⟩
   refine ⟨_,rfl,k d kvs W H3 hd tn (by rw [Ag,BB] at kn;exact kn) (by rw [Ag] at kl;omega) f3 s3⟩
def Srt (W:List (List L))(w:List L)(p:Nat)(s:Stp):Prop:=Sk s∧(chg w s).length < w.length∧p≤(chg w s).length∧(s = .out p∧iU w p=true ∨ ∃ u m,s = .rng p u m∧u∈W∧il w p u m=true∧u.length < 2*m)
inductive vf (vs:List V)(H:Hp)(Q:VK)(u3_:XK):Prop
 | mk:∀ (d l:Addr) (kvs:List (Key × V)) (W:List (List L)) (ns:List Nat) (w:List L) (p:Nat),(vs=[.ref d,.ref l,tx w,.int (p:Int)])→(Rd H d (.dK kvs))→(Kn kvs W)→((∀ u∈W,1≤u.length∧u.length≤90))→(H l=some (.lst (ns.map fun n:Nat=>V.int (n:Int))))→((∀ u∈W,(hlf u).length∈ns))→(w.length≤2000)→(p≤w.length)→((∀ H',uO (W.map hlf) w p→aH H H'→Q .non H'))→(∀ (q:Addr) (s:Stp) (H':Hp),Srt W w p s→H' q=some (.tup s.vs)→aH H H'→Q (.ref q) H')→vf vs H Q u3_
theorem vg {W:List (List L)}{v:List L}{p:Nat}(h:iU v p=true)(hv:v.length≤2000):Srt W v p (.out p):=by
 have h0:=h
 unfold iU at h
 have h1:p+1 < v.length:=of_decide_eq_true (Bool.and_eq_true_iff.mp h).1
 have e:(chg v (.out p)).length=v.length - 2:=by
  unfold chg
  rw [Ad,Aj,AA]
  omega
 exact ⟨by show p≤5000;omega,by omega,by omega,.inl ⟨rfl,h0⟩⟩
theorem vh {W:List (List L)}{u v:List L}{p n:Nat}(hW:u∈W)(hu1:1≤u.length)(hu:u.length≤90)(hv:v.length≤2000)(hp:p≤v.length)(e:(v.drop p).take n=hlf u):Srt W v p (.rng p u (lcp u ((v.drop p).take u.length)).length):=by
 have hl:(hlf u).length=u.length / 2+1:=by unfold hlf;rw [Aj];omega
 have p1:hlf u <+: u:=B3 _ _
 have p2:hlf u <+: (v.drop p).take u.length:=by
  have q:hlf u <+: v.drop p:=by rw [← e];exact B3 _ _
  exact List.prefix_take_iff.mpr ⟨q,by omega⟩
 have p3:=(iT p1 p2).length_le
 obtain ⟨p4,p5⟩:=dX u ((v.drop p).take u.length)
 have e1:u.take (lcp u ((v.drop p).take u.length)).length=lcp u ((v.drop p).take u.length):=(DO.mp p4).symm
 have e2:(v.drop p).take (lcp u ((v.drop p).take u.length)).length=lcp u ((v.drop p).take u.length):=(DO.mp (p5.trans (B3 _ _))).symm
 have p4:=p4.length_le
 have p5:=p5.length_le
 rw [Aj,AA] at p5
 have eq:=e2.trans e1.symm
 generalize (lcp u ((v.drop p).take u.length)).length=m at p3 p4 p5 eq ⊢
 have ec:(chg v (.rng p u m)).length=p+(u.length - m)+(v.length - (p+m)):=by
  show (v.take p++bk (u.drop m)++v.drop (p+m)).length=_
  rw [Ad,Ad,bO,Aj,AA,AA,BJ hp]
 refine ⟨⟨by omega,by omega,by omega⟩,by omega,by omega,.inr ⟨u,m,rfl,hW,?_,by omega⟩⟩
 unfold il
 rw [An p4,An (show p+m≤v.length by omega),An eq]
 rfl
theorem qh (w:List L)(p n:Nat):cutL w (some (p:Int)) (some ((p:Int)+(n:Int)))=(w.drop p).take n:=by
 unfold cutL
 rw [show ((p:Int)+(n:Int))=((p+n:Nat):Int) by omega,HT.cQ,HT.cQ]
 by_cases hp:p≤w.length
 ·rw [BJ hp]
  by_cases hn:p+n≤w.length
  ·rw [BJ hn]
   congr 1
   omega
  ·rw [Cp (by omega),Aq (by rw [AA];omega),Aq (by rw [AA];omega)]
 ·rw [BY (show w.length≤min p w.length by omega),BY (show w.length≤p by omega)]
  simp
theorem mD {kvs:List (Key × V)}{k:Key}{v:V}(h:dj kvs k=some v):(k,v)∈kvs:=by
 unfold dj at h
 obtain ⟨q,hq,e⟩:=Bf.mp h
 have h1:=List.mem_of_find?_eq_some hq
 have h2:=List.find?_some hq
 have h2:q.1=k:=by simpa using h2
 rw [← h2,← e]
 exact h1
abbrev qi:Stmt:=top 19
theorem w_:aP ["known","sizes","word","place","size","turn"] ["known","sizes","word","place"] (aj qi):=⟨rfl,rfl,rfl,by decide +kernel,rfl,by decide +kernel,by decide +kernel⟩
theorem yH (D:Df K mg "shortening_at" qi)(T:Bt K w mg aB)(F_isout:Fnc P w K mg base "is_out" ["word","place"] 2 uK)(F_beg:Fnc P w K mg base "beginning" ["one","other"] 1 fc):Fnc P w K mg base "shortening_at" ["known","sizes","word","place"] 3 vf:=by
 have sc:=w_
 refine D.ok sc (fun _ _ _ _ _ _ us hl=>by obtain ⟨_,_,_,_,rfl⟩:=zU hl;rfl) (fun vs H Q E h=>?_) (fun f cdv A outer s H vs Q E hr h=>?_)
 ·obtain ⟨d,l,kvs,W,ns,w,p,rfl,_⟩:=h
  rfl
 ·obtain ⟨d,l,kvs,W,ns,v,p,rfl,hd,kn,wl,hl,hns,hv,hp,k0,k1⟩:=h
  have l16:=a_
  have hu:=qU hr
  refine ⟨_,(@ag _ _ _ _ _ (@bw _ _ _ _ _ _ _ _ (@cO _ _ _ (@aE _ _ _ _ _ _ _ _ _ _ _ F_isout hr (by decide) rfl (@aa _ _ _ _ _ (pv 2) (@aa _ _ _ _ _ (pv 3) af (by rfl)) (by rfl)) (by decide) (by rfl) (by rfl)) (fun _=>rfl)) (@ak _ _ _ (@aN _ _ _ _ (@cg _ _ _ _ _ (@aa _ _ _ _ _ aL (@aa _ _ _ _ _ (pv 3) af (by rfl)) (by rfl))))) aV) (@ag _ _ _ _ _ (@bJ _ _ _ _ _ _ _ _ AQ rfl (@bU _ _ _ _ (pv 1)) (@aT _ _ (4) _ sc.nd rfl (Or.inl rfl) (by first | exact .inl rfl | exact .inr rfl | assumption)) (@ag _ _ _ _ _ (@ay _ _ (5) _ _ _ _ sc.nd rfl (Or.inl rfl) (@qS _ _ _ _ _ _ _ hu (pv 0) (@aw _ _ _ _ _ _ _ _ _ _ aR (pv 2) (@aA _ _ _ (pv 3)) (@aA _ _ _ (@ax _ _ _ _ _ _ _ _ aQ (pv 3) (pv 4)))) ⟨rfl,rfl,rfl,rfl⟩) (by rfl) (by first | exact .inl rfl | exact .inr rfl | assumption)) (@ak _ _ _ (@bw _ _ _ _ _ _ _ _ (@aC _ _ _ _ _ _ _ _ tK (pv 5) je (aF _)) (@ak _ _ _ (@aN _ _ _ _ (@cg _ _ _ _ _ (@aa _ _ _ _ _ aL (@aa _ _ _ _ _ (pv 3) (@aa _ _ _ _ _ (pv 5) (@aa _ _ _ _ _ (@aq _ _ _ _ _ _ _ _ _ av (by rfl) T.len As (@aa _ _ _ _ _ (@aE _ _ _ _ _ _ _ _ _ _ _ F_beg hr (by decide) rfl (@aa _ _ _ _ _ (pv 5) (@aa _ _ _ _ _ (@aw _ _ _ _ _ _ _ _ _ _ aR (pv 2) (@aA _ _ _ (pv 3)) (@aA _ _ _ (@ax _ _ _ _ _ _ _ _ aQ (pv 3) (@aq _ _ _ _ _ _ _ _ _ av (by rfl) T.len As (@aa _ _ _ _ _ (pv 5) af (by rfl)) (by decide) (by decide) (by rfl) (by rfl))))) af (by rfl)) (by rfl)) (by decide) (by rfl) (by rfl)) af (by rfl)) (by decide) (by decide) (by rfl) (by rfl)) af (by rfl)) (by rfl)) (by rfl)) (by rfl))))) aV))) (by intro _ ;rfl)) (@ak _ _ _ (@aN _ _ _ _ je)))),?_⟩
  have vl:(toS v).length≤sizeLine:=by rw [ae];omega
  refine ⟨_,rfl,_,rfl,v,p,rfl,by omega,fun H1 s1=>⟨_,rfl,?_⟩⟩
  cases ho:iU v p with
  | true =>
   refine zO ⟨_,rfl,(by show 2≤sizeLine;decide),fun q hq=>?_⟩
   exact k1 q (.out p) _ (vg ho hv) ah (s1.then hq)
  | false =>
   refine xu ?_
   refine ⟨_,rfl,l,rfl,⟨_,SqL.of (s1 _ _ hl)⟩,cy (xs:=ns.map fun n:Nat=>V.int (n:Int)) (fun j σ H'=>∃ b4 b5:Option V,σ = [some (.ref d),some (.ref l),some (tx v),some (.int (p:Int)),b4,b5]∧aH H H'∧∀ n∈ns.take j,dj kvs (Sum.inr (toS ((v.drop p).take n)))=none) ⟨_,_,rfl,s1,fun n hn=>(by simp at hn)⟩ (fun j σ H' hj ⟨_,_,_,s,_⟩=>SqL.of (s _ _ hl)) ?_ ?_⟩
   ·rintro j z σ H2 hz ⟨_,_,rfl,s2,hno⟩
    obtain ⟨n,hn',rfl⟩:∃ n,ns[j]? = some n∧V.int (n:Int)=z:=by
     rw [Ap] at hz
     exact Bf.mp hz
    have rd:Rd H2 d (.dK kvs):=by
     rcases hd with h | ⟨o,h⟩
     ·exact .inl (s2 _ _ h)
     ·exact .inr ⟨o,s2 _ _ h⟩
    refine ⟨_,rfl,d,rfl,.inl ⟨kvs,rd⟩,_,rfl,_,rfl,_,rfl,_,rfl,_,rfl,_,_,rfl,rfl,_,rfl,toS v,rfl,vl,?_⟩
    rw [ao,qh]
    refine ⟨_,.inl ⟨kvs,.inr (toS ((v.drop p).take n)),rd,rfl,rfl⟩,?_⟩
    cases hg:dj kvs (Sum.inr (toS ((v.drop p).take n))) with
    | none =>
     refine ⟨_,rfl,rfl,_,rfl,bZ rfl ⟨_,_,rfl,s2,fun m hm=>?_⟩⟩
     rw [AI,hn'] at hm
     rcases Ax.mp hm with h | h
     ·exact hno m h
     ·rw [Af.mp h]
      exact hg
    | some x =>
     obtain ⟨u,mu,e1,e2⟩:=kn.of _ (mD hg)
     obtain ⟨u1,u2⟩:=wl u mu
     have e2:x=tx u:=e2
     subst e2
     have e1:(v.drop p).take n=hlf u:=cm (Sum.inr.inj e1)
     have ul:(toS u).length≤sizeLine:=by rw [ae];omega
     refine ⟨_,rfl,rfl,_,rfl,cM rfl ?_⟩
     refine ⟨_,rfl,_,rfl,_,rfl,_,rfl,_,rfl,_,rfl,_,rfl,_,rfl,toS u,rfl,ul,_,_,rfl,rfl,_,rfl,toS v,rfl,vl,?_⟩
     rw [ao,ae,qh]
     refine ⟨u,(v.drop p).take u.length,rfl,by omega,(by rw [Aj];omega),fun H3 s3=>?_⟩
     have hs:=vh mu u1 u2 hv hp e1
     have pl:=(dX u ((v.drop p).take u.length)).1.length_le
     refine ⟨_,rfl,(by rw [ae];omega),(by show 4≤sizeLine;decide),fun q hq=>?_⟩
     rw [ae]
     exact k1 q _ _ hs ah ((s2.trans s3).then hq)
   ·rintro σ H2 ⟨_,_,rfl,s2,hno⟩
    rw [Ag,BB] at hno
    refine k0 H2 ⟨ho,fun h hh e=>?_⟩ s2
    obtain ⟨u,mu,rfl⟩:=AU.mp hh
    obtain ⟨x,hx⟩:=kn.all u mu
    have:=hno _ (hns u mu)
    rw [e,hx] at this
    cases this
def Rws (H:Hp)(st:List Stp)(xs:List V):Prop:=xs.length=st.length∧∀ (i:Nat) (s:Stp),st[i]? = some s→∃ p,xs[i]? = some (.ref p)∧H p=some (.tup s.vs)
theorem Rws.snoc {H:Hp}{st:List Stp}{xs:List V}{s:Stp}{p:Addr}(h:Rws H st xs)(hp:H p=some (.tup s.vs)):Rws H (st++[s]) (xs++[.ref p]):=by
 obtain ⟨h1,h2⟩:=h
 refine ⟨by rw [Ad,Ad,h1];rfl,fun i x hx=>?_⟩
 by_cases hi:i < st.length
 ·rw [Be hi] at hx
  obtain ⟨q,hq,hq2⟩:=h2 i x hx
  exact ⟨q,by rw [Be (by omega)];exact hq,hq2⟩
 ·have hl:=(Ah.mp hx).1
  rw [Ad,A4] at hl
  have ei:i=st.length:=by omega
  subst ei
  rw [AO (Al _),CQ] at hx
  cases hx
  exact ⟨p,by rw [← h1,AO (Al _),CQ];rfl,hp⟩
theorem Rws.mono {H H':Hp}{st:List Stp}{xs:List V}(h:Rws H st xs)(k:∀ p ys,H p=some (.tup ys)→H' p=some (.tup ys)):Rws H' st xs:=⟨h.1,fun i s hs=>by
 obtain ⟨p,h1,h2⟩:=h.2 i s hs
 exact ⟨p,h1,k _ _ h2⟩⟩
def Chn (W:List (List L))(w:List L)(st:List Stp)(v:List L):Prop:=∃ f:Nat→List L,f 0=w∧f st.length=v∧∀ (i:Nat) (s:Stp),st[i]? = some s→(∃ p,Srt W (f i) p s)∧f (i+1)=chg (f i) s
theorem Chn.nil {W:List (List L)}{w:List L}:Chn W w [] w:=⟨fun _=>w,rfl,rfl,fun i s h=>by simp at h⟩
theorem Chn.snoc {W:List (List L)}{w v:List L}{st:List Stp}{s:Stp}{p:Nat}(h:Chn W w st v)(hs:Srt W v p s):Chn W w (st++[s]) (chg v s):=by
 obtain ⟨f,f0,fl,fs⟩:=h
 refine ⟨fun i=>if i≤st.length then f i else chg v s,by simp [f0],if_neg (by rw [Ad,A4];omega),fun i x hx=>?_⟩
 by_cases hi:i < st.length
 ·rw [Be hi] at hx
  have q:=fs i x hx
  simp only [show i≤st.length by omega,show i+1≤st.length by omega,BX]
  exact q
 ·have hl:=(Ah.mp hx).1
  rw [Ad,A4] at hl
  have ei:i=st.length:=by omega
  subst ei
  rw [AO (Al _),CQ] at hx
  cases hx
  simp only [Al,BX,show ¬ st.length+1≤st.length by omega,Bl]
  rw [fl]
  exact ⟨⟨p,hs⟩,rfl⟩
def zV:Key→Int
 | .inr s=>s.length
 | .inl _=>0
inductive kT (vs:List V)(H:Hp)(Q:VK)(u3_:XK):Prop
 | mk:∀ (a:Addr) (R:List (List L)) (w:List L),(vs=[.ref a,tx w])→(H a=some (.tup (R.map tx)))→(Rgs R)→(w.length≤2000)→(∀ (W:List (List L)) (t q:Addr) (v:List L) (st:List Stp) (xs:List V) (H':Hp),Tn R W→Chn W w st v→(∀ j,j < v.length→uO (W.map hlf) v j)→st.length≤2000→Rws H' st xs→H' t=some (.tup [.ref q,tx v])→H' q=some (.tup xs)→aH H H'→Q (.ref t) H')→kT vs H Q u3_
theorem zW {H4:Hp}{p l:Addr}{X O:HO}{G:Hp→Prop}(hp:H4 p=none)(hl:upd H4 p X l=none)(k:∀ H5,aH H4 H5→H5 l=none→G (upd H5 l O)):G (upd (upd H4 p X) l O):=k _ (aH.new hp) hl
theorem qj:∀ {dl zs:List Int},dl.Nodup→(∀ k∈dl,k∈zs)→dl.length≤zs.length
 | [],zs,_,_=>BF _
 | d::dl,zs,nd,m=>by
  have hd:=m d Av
  obtain ⟨n1,n2⟩:=Cg.mp nd
  have:=qj (zs:=zs.erase d) n2 fun k hk=>(CG (fun e=>n1 (by rw [← e];exact hk))).mpr (m k (AC _ hk))
  rw [Ci hd] at this
  have:=DS hd
  rw [A2]
  omega
theorem xf {zs:List Int}(h:∀ z∈zs,0≤z∧z≤1000):∃ ns:List Nat,zs.map V.int=ns.map (fun n:Nat=>V.int (n:Int))∧ns.length=zs.length∧∀ n∈ns,n≤1000:=by
 refine ⟨zs.map Int.toNat,?_,Ag _,fun n hn=>?_⟩
 ·rw [BD]
  refine List.map_congr_left fun z hz=>?_
  have:=h z hz
  show V.int z=V.int ((z.toNat:Nat):Int)
  rw [Int.toNat_of_nonneg this.1]
 ·obtain ⟨z,hz,rfl⟩:=AU.mp hn
  have:=h z hz
  omega
abbrev gR:Stmt:=top 17
theorem sj:aP ["rings","word","known","sizes","reach","steps","place","step"] ["rings","word"] (aj gR):=⟨rfl,rfl,rfl,by decide +kernel,rfl,by decide +kernel,by decide +kernel⟩
theorem vi (D:Df K mg "shortened" gR)(T:Bt K w mg aB)(Tset:mg "set" = none)(F_tbh:Fnc P w K mg base "turns_by_half" ["rings"] 3 vd)(F_sat:Fnc P w K mg base "shortening_at" ["known","sizes","word","place"] 3 vf)(F_chg:Fnc P w K mg base "changed" ["word","step"] 2 uL):Fnc P w K mg base "shortened" ["rings","word"] 4 kT:=by
 have sc:=sj
 refine D.ok sc (fun _ _ _ _ _ _ us hl=>by obtain ⟨_,_,rfl⟩:=rT hl;rfl) (fun vs H Q E h=>?_) (fun f cdv A outer s H vs Q E hr h=>?_)
 ·obtain ⟨a,R,w,rfl,_⟩:=h
  rfl
 ·obtain ⟨a,R,v,rfl,ha,hR,hv,k⟩:=h
  have l16:=a_
  refine ⟨_,(@ag _ _ _ _ _ (@ay _ _ (2) _ _ _ _ sc.nd rfl (Or.inl rfl) (@aE _ _ _ _ _ _ _ _ _ _ _ F_tbh hr (by decide) rfl (@aa _ _ _ _ _ (pv 0) af (by rfl)) (by decide) (by rfl) (by rfl)) (by rfl) (by first | exact .inl rfl | exact .inr rfl | assumption)) (@ag _ _ _ _ _ (@ay _ _ (3) _ _ _ _ sc.nd rfl (Or.inl rfl) (@aq _ _ _ _ _ _ _ _ _ (fF rfl) (by rfl) T.sorted ef (@aa _ _ _ _ _ (@bA _ _ _ _ _ _ _ _ _ (gX rfl) (by rfl) Tset uI (@aa _ _ _ _ _ (@cF _ _ _ _ _ _ _ (["half"]) (["half"]) ([]) _ _ _ _ (@cA _ _ _ _ _ _ rfl (by kernel_rfl)) rfl (uN (pv 2)) (fun _ _ _ _=>@aT _ _ (0) _ (show (["half"]:List Str).Nodup from by decide +kernel) rfl (Or.inl rfl) (by first | exact .inl rfl | exact .inr rfl | assumption)) (fun _ _ _ _=>bX) (fun _ _ _ _=>by (exact (@aq _ _ _ _ _ _ _ _ _ av (by rfl) T.len As (@aa _ _ _ _ _ (pv 0) af (by rfl)) (by decide) (by decide) (by rfl) (by rfl)))) (by intro _ ;rfl)) af (by rfl)) (by decide) (by decide) (by rfl) (by rfl)) af (by rfl)) (by decide) (by decide) (by rfl) (by rfl)) (by rfl) (by first | exact .inl rfl | exact .inr rfl | assumption)) (@ag _ _ _ _ _ (@ay _ _ (4) _ _ _ _ sc.nd rfl (Or.inl rfl) (@ax _ _ _ _ _ _ _ _ fW (@aq _ _ _ _ _ _ _ _ _ (i8 (K:=K) rfl rfl) (by rfl) T.max uq (@aa _ _ _ _ _ (@ax _ _ _ _ _ _ _ _ lF (@bh _ _ _ _ (@aa _ _ _ _ _ ai af (by rfl))) (pv 3)) af (by rfl)) (by decide) (by decide) (by rfl) (by rfl)) ai) (by rfl) (by first | exact .inl rfl | exact .inr rfl | assumption)) (@ag _ _ _ _ _ (@ay _ _ (5) _ _ _ _ sc.nd rfl (Or.inl rfl) (@bh _ _ _ _ af) (by rfl) (by first | exact .inl rfl | exact .inr rfl | assumption)) (@ag _ _ _ _ _ (@ay _ _ (6) _ _ _ _ sc.nd rfl (Or.inl rfl) ai (by rfl) (by first | exact .inl rfl | exact .inr rfl | assumption)) (@ag _ _ _ _ _ (@fH _ _ _ _ _ _ AQ (@aC _ _ _ _ _ _ _ _ iD (pv 6) (@aq _ _ _ _ _ _ _ _ _ av (by rfl) T.len As (@aa _ _ _ _ _ (pv 1) af (by rfl)) (by decide) (by decide) (by rfl) (by rfl)) (aF _)) (@ag _ _ _ _ _ (@ay _ _ (7) _ _ _ _ sc.nd rfl (Or.inl rfl) (@aE _ _ _ _ _ _ _ _ _ _ _ F_sat hr (by decide) rfl (@aa _ _ _ _ _ (pv 2) (@aa _ _ _ _ _ (pv 3) (@aa _ _ _ _ _ (pv 1) (@aa _ _ _ _ _ (pv 6) af (by rfl)) (by rfl)) (by rfl)) (by rfl)) (by decide) (by rfl) (by rfl)) (by rfl) (by first | exact .inl rfl | exact .inr rfl | assumption)) (@ak _ _ _ (@bw _ _ _ _ _ _ _ _ (@aC _ _ _ _ _ _ _ _ sP (pv 7) je (aF _)) (@ak _ _ _ (@vE _ _ (6) _ _ _ _ _ _ sc.nd rfl (Or.inl rfl) ai vF (by first | exact .inl rfl | exact .inr rfl | assumption))) (@ag _ _ _ _ _ (@cN _ _ _ _ (@gi _ _ _ _ _ _ _ _ _ _ _ _ Bc Bq Br cj (pv 5) (@aa _ _ _ _ _ (pv 7) af (by rfl)) (by rfl) (by rfl) (by rfl) (by rfl) (by rfl)) (by rfl)) (@ag _ _ _ _ _ (@ay _ _ (1) _ _ _ _ sc.nd rfl (Or.inl rfl) (@aE _ _ _ _ _ _ _ _ _ _ _ F_chg hr (by decide) rfl (@aa _ _ _ _ _ (pv 1) (@aa _ _ _ _ _ (pv 7) af (by rfl)) (by rfl)) (by decide) (by rfl) (by rfl)) (by rfl) (by first | exact .inl rfl | exact .inr rfl | assumption)) (@ak _ _ _ (@ay _ _ (6) _ _ _ _ sc.nd rfl (Or.inl rfl) (@aq _ _ _ _ _ _ _ _ _ (@jj _ rfl) (by rfl) T.max uq (@aa _ _ _ _ _ ai (@aa _ _ _ _ _ (@ax _ _ _ _ _ _ _ _ fW (pv 6) (pv 4)) af (by rfl)) (by rfl)) (by decide) (by decide) (by rfl) (by rfl)) (by rfl) (by first | exact .inl rfl | exact .inr rfl | assumption))))))))) (@ak _ _ _ (@aN _ _ _ _ (@cg _ _ _ _ _ (@aa _ _ _ _ _ (@bA _ _ _ _ _ _ _ _ _ bW (by rfl) T.tuple e9 (@aa _ _ _ _ _ (pv 5) af (by rfl)) (by decide) (by decide) (by rfl) (by rfl)) (@aa _ _ _ _ _ (pv 1) af (by rfl)) (by rfl))))))))))),?_⟩
  refine ⟨_,rfl,a,R,rfl,ha,hR,fun d kvs W H1 hd tn kn kl fd s1=>?_⟩
  have tw:∀ u∈W,1≤u.length∧u.length≤90:=fun u hu=>by
   obtain ⟨h1,h2⟩:=tn.word hR hu
   exact ⟨A6.mpr h1,h2⟩
  have hfl:∀ u∈W,(hlf u).length≤90:=fun u hu=>by
   have:=tw u hu
   unfold hlf
   rw [Aj]
   omega
  refine ⟨_,rfl,d,kvs,rfl,fd,fun o=>?_⟩
  have s2:aH H (upd H1 d (.frz o (.dK kvs))):=gQ s1 hd
  have f2:(upd H1 d (.frz o (.dK kvs))) d=some (.frz o (.dK kvs)):=ah
  generalize upd H1 d (.frz o (.dK kvs))=H2 at s2 f2 ⊢
  refine ck (own:=["half"]) (cap:=[]) (J:=Itk d o kvs) kvs.length (fun i ys σ H'=>∃ (b:Option V) (zs:List Int),σ = [b]∧H'=H2∧ys=zs.map V.int∧zs=(kvs.take i).map (fun p=>zV p.1)∧zs.length=i∧∀ z∈zs,0≤z∧z≤1000) ⟨none,[],rfl,rfl,rfl,rfl,rfl,fun z hz=>by cases hz⟩ (fun i ys σ H' hi ⟨_,zs,_,_,e,_,e2,_⟩=>by rw [e,Ag,e2];exact Al _) (by omega) (fun i ys σ H' hi ⟨_,_,_,e,_⟩=>by rw [e];exact ⟨hi,f2⟩) (fun ys σ H' ⟨_,_,_,e,_⟩=>by rw [e];exact ⟨rfl,f2⟩) ?_ ?_
  ·rintro i ys σ H3 x H4 N hi ⟨_,zs,rfl,rfl,rfl,hzs,hl,hz⟩ ⟨rfl,key,val,hkv,rfl⟩ hN
   obtain ⟨u,mu,e1,_⟩:=kn.of _ (AG hkv)
   have e1:key = .inr (toS (hlf u)):=e1
   subst e1
   have hh:=hfl u mu
   refine ⟨_,rfl,toS (hlf u),rfl,(by rw [ae];omega),hN _ _ _ ⟨_,zs++[((toS (hlf u)).length:Int)],rfl,rfl,by rw [AH];rfl,by rw [AI,hkv,AH,← hzs];rfl,by rw [Ad,hl];rfl,fun z hz'=>?_⟩⟩
   rcases Ax.mp hz' with h | h
   ·exact hz z h
   ·rw [Af.mp h,ae]
    omega
  rintro ys σ H3 l0 ⟨_,zs,rfl,rfl,rfl,hzs,hl,hz⟩ hl0
  rw [BB] at hzs
  have s3:=s2.then (o:=.lst (zs.map V.int)) hl0
  have g3:=aH.new (o:=.lst (zs.map V.int)) hl0 _ _ f2
  have f3:(upd H3 l0 (.lst (zs.map V.int))) l0=some (.lst (zs.map V.int)):=ah
  generalize upd H3 l0 (.lst (zs.map V.int))=H4 at s3 g3 f3 ⊢
  refine ⟨l0,zs,rfl,SqL.of f3,by omega,fun p dl hp nd mem=>?_⟩
  refine ⟨p,dl,rfl,ah,nd,fun l ws hl1 perm _=>?_⟩
  refine zW (G:=iC (qH 3) _ _ (.ref l)) hp hl1 fun H5 t4 hl1=>?_
  have s4:=s3.trans t4
  have g4:=t4 _ _ g3
  have hws:∀ z∈ws,0≤z∧z≤1000:=fun z h=>hz z ((mem z).mp (perm.mem_iff.mp h))
  have wl:ws.length≤4000:=by
   rw [perm.length_eq]
   have:=qj nd fun x hx=>(mem x).mp hx
   omega
  have s5:=s4.then (o:=.lst (ws.map V.int)) hl1
  have g5:=aH.new (o:=.lst (ws.map V.int)) hl1 _ _ g4
  have f5:(upd H5 l (.lst (ws.map V.int))) l=some (.lst (ws.map V.int)):=ah
  generalize upd H5 l (.lst (ws.map V.int))=H6 at s5 g5 f5 ⊢
  -- the reach
  refine ⟨(by show 1≤sizeLine;decide),fun q hq=>?_⟩
  have t7:=aH.new (o:=.lst [.int 2]) hq
  have f7:(upd H6 q (.lst [.int 2])) q=some (.lst [.int 2]):=ah
  generalize upd H6 q (.lst [.int 2])=H7 at t7 f7 ⊢
  refine ⟨_,rfl,q,l,_,_,rfl,rfl,f7,t7 _ _ f5,(by rw [Ag];show 1+_≤_;omega),fun q2 hq2=>?_⟩
  have t8:=t7.then (o:=.lst ((2::ws).map V.int)) hq2
  have f8:(upd H7 q2 (.lst ((2::ws).map V.int))) q2=some (.lst ((2::ws).map V.int)):=ah
  show cv _ _ (upd H7 q2 (.lst ((2::ws).map V.int))) _
  generalize upd H7 q2 (.lst ((2::ws).map V.int))=H8 at t8 f8 ⊢
  refine ⟨q2,2::ws,rfl,SqL.of f8,by simp,fun m hm hmax=>⟨_,_,rfl,rfl,?_⟩⟩
  have m2:=hmax 2 (by simp)
  have s8:=s5.trans t8
  have g8:=t8 _ _ g5
  have fl8:=t8 _ _ f5
  refine ⟨(by show 0≤sizeLine;decide),fun ls hls=>?_⟩
  have s9:=s8.then (o:=.lst []) hls
  have g9:=aH.new (o:=.lst []) hls _ _ g8
  have fl9:=aH.new (o:=.lst []) hls _ _ fl8
  have f9:(upd H8 ls (.lst [])) ls=some (.lst []):=ah
  have hls0:H ls=none:=s8.free hls
  have nd1:d≠ls:=au g8 hls
  have nl1:l≠ls:=au fl8 hls
  generalize upd H8 ls (.lst [])=H9 at s9 g9 fl9 f9 ⊢
  clear f8 t8 f7 t7 s8
  obtain ⟨ns,en,ln,hns⟩:=xf hws
  have hin:∀ u∈W,((hlf u).length:Int)∈ws:=fun u mu=>by
   obtain ⟨x,hx⟩:=kn.all u mu
   refine perm.mem_iff.mpr ((mem _).mpr ?_)
   rw [hzs]
   refine AU.mpr ⟨_,mD hx,?_⟩
   show (((toS (hlf u)).length:Nat):Int)=_
   rw [ae]
  have hinN:∀ u∈W,(hlf u).length∈ns:=fun u mu=>by
   have h1:V.int ((hlf u).length:Int)∈ws.map V.int:=AU.mpr ⟨_,hin u mu,rfl⟩
   rw [en] at h1
   obtain ⟨n,hn,e⟩:=AU.mp h1
   have:(n:Int)=((hlf u).length:Int):=V.int.inj e
   have:n=(hlf u).length:=by omega
   rw [← this]
   exact hn
  have hmh:∀ h∈W.map hlf,h.length≤m.toNat:=fun h hh=>by
   obtain ⟨u,mu,rfl⟩:=AU.mp hh
   have:=hmax _ (AC _ (hin u mu))
   omega
  rw [en] at fl9
  refine rn (fun n σ H'=>∃ (w':List L) (p':Nat) (xs:List V) (st:List Stp) (b:Option V),σ = [some (.ref a),some (tx w'),some (.ref d),some (.ref l),some (.int (m - 1)),some (.ref ls),some (.int (p':Int)),b]∧n=3000*w'.length+(w'.length - p')∧xs.length+w'.length≤v.length∧Chn W v st w'∧Rws H' st xs∧(∀ j,j < p'→j < w'.length→uO (W.map hlf) w' j)∧H' d=some (.frz o (.dK kvs))∧H' l=some (.lst (ns.map fun n:Nat=>V.int (n:Int)))∧H' ls=some (.lst xs)∧aH H H')
   (fun σ H'=>∃ (w':List L) (p':Nat) (xs:List V) (st:List Stp) (b:Option V),σ = [some (.ref a),some (tx w'),some (.ref d),some (.ref l),some (.int (m - 1)),some (.ref ls),some (.int (p':Int)),b]∧xs.length+w'.length≤v.length∧Chn W v st w'∧Rws H' st xs∧(∀ j,j < w'.length→uO (W.map hlf) w' j)∧H' ls=some (.lst xs)∧aH H H') ⟨_,v,0,[],[],_,rfl,rfl,by simp,Chn.nil,⟨rfl,fun i s h=>by simp at h⟩,fun j hj=>absurd hj (Nat.not_lt_zero _),g9,fl9,f9,s9⟩ ?_ ?_
  ·rintro nx hnx n σ H10 ⟨w',p',xs,st0,b,rfl,rfl,hx,hc,hr,hno,gd,gl,gs,sH⟩
   have wl':(toS w').length≤sizeLine:=by rw [ae];omega
   refine ⟨_,rfl,_,rfl,toS w',rfl,wl',_,_,rfl,rfl,_,rfl,?_⟩
   by_cases hlt:p' < w'.length
   ·refine cM (An (by rw [ae];omega)) ⟨_,fun σ' H' q=>q,?_⟩
    refine ⟨_,rfl,_,rfl,_,rfl,_,rfl,d,l,kvs,W,ns,w',p',rfl,.inr ⟨o,gd⟩,kn,tw,gl,hinN,by omega,by omega,fun H11 na s11=>?_,fun q st H11 srt fq s11=>?_⟩
    ·refine ⟨_,rfl,rfl,_,rfl,cM rfl ?_⟩
     refine ⟨_,rfl,_,_,rfl,rfl,?_⟩
     refine ⟨_,?_,w',p' + 1,xs,st0,_,rfl,rfl,hx,hc,hr.mono fun p ys h=>s11 _ _ h,fun j hj hjl=>(if e:j=p' then by rw [e];exact na else hno j (by omega) hjl),s11 _ _ gd,s11 _ _ gl,s11 _ _ gs,sH.trans s11⟩
     omega
    ·refine ⟨_,rfl,rfl,_,rfl,bZ rfl ?_⟩
     refine ⟨_,rfl,.inl ⟨rfl,_,SqL.of (s11 _ _ gs)⟩,_,rfl,ls,xs,_,rfl,rfl,s11 _ _ gs,(by omega),?_⟩
     have nq:q≠ls:=fun e=>by have:=s11 _ _ gs;rw [e,this] at fq;cases fq
     have fq':(upd H11 ls (.lst (xs++[.ref q]))) q=some (.tup st.vs):=by rw [aD nq];exact fq
     have gd':(upd H11 ls (.lst (xs++[.ref q]))) d=some (.frz o (.dK kvs)):=by rw [aD nd1];exact s11 _ _ gd
     have gl':(upd H11 ls (.lst (xs++[.ref q]))) l=some (.lst (ns.map fun n:Nat=>V.int (n:Int))):=by rw [aD nl1];exact s11 _ _ gl
     have gs':(upd H11 ls (.lst (xs++[.ref q]))) ls=some (.lst (xs++[.ref q])):=ah
     have sH':aH H (upd H11 ls (.lst (xs++[.ref q]))):=gQ (sH.trans s11) hls0
     have hup:∀ p ys,H11 p=some (.tup ys)→(upd H11 ls (.lst (xs++[.ref q]))) p=some (.tup ys):=fun p ys h=>by
      have:p≠ls:=fun e=>by have:=s11 _ _ gs;rw [e,this] at h;cases h
      rw [aD this]
      exact h
     generalize upd H11 ls (.lst (xs++[.ref q]))=H12 at fq' gd' gl' gs' sH' hup ⊢
     refine ⟨_,rfl,_,rfl,q,w',st,rfl,by omega,fq',srt.1,fun H13 s13=>?_⟩
     refine ⟨_,rfl,_,rfl,_,_,rfl,rfl,_,_,rfl,?_⟩
     have h2:=srt.2.1
     have hr':Rws H12 (st0++[st]) (xs++[.ref q]):=Rws.snoc ((hr.mono fun p ys h=>s11 _ _ h).mono fun p ys h=>hup p ys h) fq'
     have ex:∃ p2:Nat,(if (p':Int) - (m - 1) > 0 then (p':Int) - (m - 1) else 0)=(p2:Int)∧((p2:Int)=(p':Int) - (m - 1) ∨ p2=0):=by
      split
      ·exact ⟨((p':Int) - (m - 1)).toNat,by omega,.inl (by omega)⟩
      ·exact ⟨0,rfl,.inr rfl⟩
     obtain ⟨p2,e2,e3⟩:=ex
     show iC _ _ _ (V.int (if (p':Int) - (m - 1) > 0 then (p':Int) - (m - 1) else 0)) _
     rw [e2]
     refine ⟨_,?_,chg w' st,p2,xs++[.ref q],st0++[st],_,rfl,rfl,(by rw [Ad,A4];omega),hc.snoc srt,hr'.mono fun p ys h=>s13 _ _ h,fun j hj hjl=>?_,s13 _ _ gd',s13 _ _ gl',s13 _ _ gs',sH'.trans s13⟩
     ·omega
     ·have hs:st = .out p' ∨ ∃ u m,st = .rng p' u m:=by
       rcases srt.2.2.2 with ⟨h,_⟩ | ⟨u,m,h,_⟩
       ·exact .inl h
       ·exact .inr ⟨u,m,h⟩
      exact pX (n:=m.toNat) hmh (by omega) (by omega) (rS (by omega) st hs).symm (by omega) srt.2.2.1 (hno j (by omega) (by omega))
   ·exact bZ (AF (by rw [ae];omega)) (hnx _ _ ⟨w',p',xs,st0,b,rfl,hx,hc,hr,fun j hj=>hno j (by omega) hj,gs,sH⟩)
  ·rintro σ H10 ⟨w',p',xs,st0,b,rfl,hx,hc,hr,hno,gs,sH⟩
   refine ⟨_,rfl,ls,xs,rfl,.inl ⟨SqL.of gs,fun q hq=>?_⟩⟩
   have f11:(upd H10 q (.tup xs)) q=some (.tup xs):=ah
   have s11:=sH.then (o:=.tup xs) hq
   have hr:=hr.mono fun p ys h=>aH.new (o:=.tup xs) hq _ _ h
   generalize upd H10 q (.tup xs)=H11 at f11 s11 hr ⊢
   refine ⟨_,rfl,(by show 2≤sizeLine;decide),fun t ht=>?_⟩
   exact k W t q w' st0 xs _ tn hc hno (by rw [← hr.1];omega) (hr.mono fun p ys h=>aH.new ht _ _ h) ah (aH.new ht _ _ f11) (s11.then ht)
inductive fR (vs:List V)(H:Hp)(Q:VK)(u3_:XK):Prop
 | mk:∀ (a:Addr) (R:List (List L)),(vs=[.ref a])→(H a=some (.tup (R.map tx)))→(Rgs R)→(∀ (l:Addr) (V W:List (List L)) (H':Hp),H l=none→Tn R W→Ord V→(∀ x,x∈V ↔ x∈W.map hlf)→H' l=some (.lst (V.map tx))→aH H H'→Q (.ref l) H')→fR vs H Q u3_
abbrev eP:Stmt:=top 15
theorem qk:aP ["rings"] ["rings"] (aj eP):=⟨rfl,rfl,rfl,by decide +kernel,rfl,by decide +kernel,by decide +kernel⟩
theorem sk (D:Df K mg "halves" eP)(T:Bt K w mg aB)(Tset:mg "set" = none)(F_tof:Fnc P w K mg base "turns_of" ["rings"] 2 eK)(F_half:Fnc P w K mg base "half_of" ["turn"] 1 mB):Fnc P w K mg base "halves" ["rings"] 3 fR:=by
 have sc:=qk
 refine D.ok sc (fun _ _ _ _ _ _ us hl=>by obtain ⟨_,rfl⟩:=jZ hl;rfl) (fun vs H Q E h=>?_) (fun f cdv A outer s H vs Q E hr h=>?_)
 ·obtain ⟨a,R,rfl,_⟩:=h
  rfl
 ·obtain ⟨a,R,rfl,ha,hR,k⟩:=h
  have l16:=a_
  refine ⟨_,(@ak _ _ _ (@aN _ _ _ _ (@aq _ _ _ _ _ _ _ _ _ (@dz _ rfl) (by rfl) T.sorted ef (@aa _ _ _ _ _ (@bA _ _ _ _ _ _ _ _ _ (@dW _ rfl) (by rfl) Tset uI (@aa _ _ _ _ _ (@cF _ _ _ _ _ _ _ (["turn"]) (["turn"]) ([]) _ _ _ _ (@cA _ _ _ _ _ _ rfl (by kernel_rfl)) rfl (@bU _ _ _ _ (@aE _ _ _ _ _ _ _ _ _ _ _ F_tof hr (by decide) rfl (@aa _ _ _ _ _ (pv 0) af (by rfl)) (by decide) (by rfl) (by rfl))) (fun _ _ _ _=>@aT _ _ (0) _ (show (["turn"]:List Str).Nodup from by decide +kernel) rfl (Or.inl rfl) (by first | exact .inl rfl | exact .inr rfl | assumption)) (fun _ _ _ _=>bX) (fun _ _ _ _=>by (exact (@aE _ _ _ _ _ _ _ _ _ _ _ F_half hr (by decide) rfl (@aa _ _ _ _ _ (pv 0) af (by rfl)) (by decide) (by rfl) (by rfl)))) (by intro _ ;rfl)) af (by rfl)) (by decide) (by decide) (by rfl) (by rfl)) af (by rfl)) (by decide) (by decide) (by rfl) (by rfl)))),?_⟩
  refine ⟨_,rfl,a,R,rfl,ha,hR,fun l W H1 hl hO hW fl s1=>?_⟩
  have tn:Tn R W:=⟨hO,hW⟩
  have tl:=tn.len hR
  refine ⟨l,rfl,⟨_,SqL.of fl⟩,?_⟩
  refine eF (xs:=W.map tx) (own:=["turn"]) (cap:=[]) (fun j ys σ H'=>∃ v:Option V,σ = [v]∧ys=((W.take j).map fun u=>toS (hlf u)).map V.str∧aH H1 H') ⟨none,rfl,rfl,aH.refl _⟩ (fun j ys σ H' hj ⟨_,_,e,_⟩=>by rw [e,Ag,Ag,Aj];omega) (by rw [Ag];omega) (fun j ys σ H' ⟨_,_,_,s⟩=>SqL.of (s _ _ fl)) ?_ ?_
  ·rintro j ys σ H2 z N hz ⟨_,rfl,rfl,s2⟩ hN
   rw [Ap] at hz
   obtain ⟨u,hu,rfl⟩:=Bf.mp hz
   have ul:=(tn.word hR (AG hu)).2
   refine ⟨_,rfl,u,rfl,by omega,fun H3 s3=>hN _ _ _ ⟨_,rfl,?_,s2.trans s3⟩⟩
   rw [AI,hu,AH,AH]
   rfl
  rintro ys σ H2 l2 ⟨_,rfl,rfl,s2⟩ hl2
  rw [Ag,BB]
  have s3:=(s1.trans s2).then (o:=.lst ((W.map fun u=>toS (hlf u)).map V.str)) hl2
  have f3:(upd H2 l2 (.lst ((W.map fun u=>toS (hlf u)).map V.str))) l2=some (.lst ((W.map fun u=>toS (hlf u)).map V.str)):=ah
  generalize upd H2 l2 (.lst ((W.map fun u=>toS (hlf u)).map V.str))=H3 at s3 f3 ⊢
  refine ⟨l2,W.map fun u=>toS (hlf u),rfl,SqL.of f3,by rw [Ag];omega,fun p dl hp nd mem=>?_⟩
  refine ⟨p,dl,rfl,ah,nd,fun l3 zs hl3 pm so=>?_⟩
  obtain ⟨V,rfl,oV,mV⟩:=jW (W:=W.map hlf) (pm.nodup_iff.mpr nd) so fun z=>(pm.mem_iff).trans ((mem z).trans (by rw [BD];exact Iff.rfl))
  have s4:aH H (upd (upd H3 p (StO P w p dl)) l3 (.lst ((V.map toS).map L2.V.str))):=(s3.then hp).then hl3
  refine k l3 V W _ ((s3.then hp).free hl3) tn oV mV ?_ s4
  rw [ah,BD]
  rfl
inductive gT (vs:List V)(H:Hp)(Q:VK)(u3_:XK):Prop
 | mk:∀ (a:Addr) (R W:List (List L)) (w:List L),(vs=[.ref a,tx w])→(H a=some (.tup (R.map tx)))→(Rgs R)→(Tn R W)→(w.length≤500)→(∀ (b:Bool) (H':Hp),(b=true ↔ red w=w∧∀ h∈W.map hlf,¬ h <:+: w)→aH H H'→Q (.bl b) H')→gT vs H Q u3_
abbrev dD:Stmt:=top 14
theorem m7:aP ["rings","word"] ["rings","word"] (aj dD):=⟨rfl,rfl,rfl,by decide +kernel,rfl,by decide +kernel,by decide +kernel⟩
theorem ql (D:Df K mg "is_short" dD)(T:Bt K w mg aB)(Tany:mg "any" = none)(F_isred:Fnc P w K mg base "is_reduced" ["word"] 1 kz)(F_halves:Fnc P w K mg base "halves" ["rings"] 3 fR):Fnc P w K mg base "is_short" ["rings","word"] 4 gT:=by
 have sc:=m7
 refine D.ok sc (fun _ _ _ _ _ _ us hl=>by obtain ⟨_,_,rfl⟩:=rT hl;rfl) (fun vs H Q E h=>?_) (fun f cdv A outer s H vs Q E hr h=>?_)
 ·obtain ⟨a,R,W,w,rfl,_⟩:=h
  rfl
 ·obtain ⟨a,R,W,v,rfl,ha,hR,tn,hv,k⟩:=h
  have l16:=a_
  refine ⟨_,(@ak _ _ _ (@aN _ _ _ _ (@fV _ _ _ _ _ _ _ (@aE _ _ _ _ _ _ _ _ _ _ _ F_isred hr (by decide) rfl (@aa _ _ _ _ _ (pv 1) af (by rfl)) (by decide) (by rfl) (by rfl)) (@d2 _ _ _ _ _ (@vC _ _ _ _ (@aq _ _ _ _ _ _ _ _ _ (gY rfl) (by rfl) Tany yz (@aa _ _ _ _ _ (@cF _ _ _ _ _ _ _ (["half","word"]) (["half"]) ([1]) _ _ _ _ (@cA _ _ _ _ _ _ rfl (by kernel_rfl)) rfl (@bU _ _ _ _ (@aE _ _ _ _ _ _ _ _ _ _ _ F_halves hr (by decide) rfl (@aa _ _ _ _ _ (pv 0) af (by rfl)) (by decide) (by rfl) (by rfl))) (fun _ _ _ _=>@aT _ _ (0) _ (show (["half","word"]:List Str).Nodup from by decide +kernel) rfl (Or.inl rfl) (by first | exact .inl rfl | exact .inr rfl | assumption)) (fun _ _ _ _=>bX) (fun _ _ _ _=>by (exact (@bq _ _ _ _ _ _ _ _ fZ (pv 0) (pv 1) rfl))) (by intro _ ;rfl)) af (by rfl)) (by decide) (by decide) (by rfl) (by rfl))))))),?_⟩
  refine ⟨_,rfl,v,rfl,hv,fun H1 s1=>?_⟩
  refine ⟨_,rfl,?_⟩
  by_cases hred:red v=v
  ·refine cM (An hred) ?_
   refine ⟨_,rfl,a,R,rfl,s1 _ _ ha,hR,fun l V W2 H2 hl tn2 oV mV fl s2=>?_⟩
   obtain rfl:W2=W:=tn2.one tn
   refine ⟨l,rfl,⟨_,SqL.of fl⟩,?_⟩
   have vlen:V.length≤4000:=by
    have h1:=iw oV.nd fun x hx=>(mV x).mp hx
    have h2:=tn.len hR
    rw [Ag] at h1
    omega
   refine eF (xs:=V.map tx) (own:=["half"]) (cap:=[1]) (fun j ys σ H'=>∃ b:Option L2.V,σ = [b,some (tx v)]∧ys=((V.take j).map fun u=>!(Builtin.Str.occurrences (toS v) (toS u) 0 (toS v).length 1).isEmpty).map L2.V.bl∧aH H2 H') ⟨none,rfl,rfl,aH.refl _⟩ (fun j ys σ H' hj ⟨_,_,e,_⟩=>by rw [e,Ag,Ag,Aj];omega) (by rw [Ag];omega) (fun j ys σ H' ⟨_,_,_,s⟩=>SqL.of (s _ _ fl)) ?_ ?_
   ·rintro j ys σ H3 z N hz ⟨_,rfl,rfl,s3⟩ hN
    rw [Ap] at hz
    obtain ⟨u,hu,rfl⟩:=Bf.mp hz
    refine ⟨_,rfl,_,rfl,toS u,toS v,rfl,rfl,hN _ _ _ ⟨_,rfl,?_,s3⟩⟩
    rw [AI,hu,AH,AH]
    rfl
   rintro ys σ H3 l2 ⟨_,rfl,rfl,s3⟩ hl2
   rw [Ag,BB]
   refine ⟨l2,_,rfl,SqL.of ah,_,rfl,?_⟩
   refine k _ _ ?_ (((s1.trans s2).trans s3).then hl2)
   rw [Bool.not_eq_true',← Bool.not_eq_true,C8]
   constructor
   ·intro h
    refine ⟨hred,fun x hx e=>h ?_⟩
    obtain ⟨i,h1,h2⟩:=kO e
    exact ⟨_,AU.mpr ⟨x,(mV x).mpr hx,rfl⟩,(eL v x).mpr ⟨i,h1,h2⟩⟩
   ·rintro ⟨_,h⟩ ⟨b,hb,e⟩
    obtain ⟨x,hx,rfl⟩:=AU.mp hb
    obtain ⟨i,h1,h2⟩:=(eL v x).mp e
    refine h x ((mV x).mp hx) ⟨v.take i,(v.drop i).drop x.length,?_⟩
    rw [← h2,Aj,AA,BJ (by omega),Am,AD,AD]
  ·refine bZ (AF hred) (k false H1 ⟨fun h=>(by cases h),fun h=>absurd h.1 hred⟩ s1)
def xx:Stp→Bool
 | .out _=>true
 | .inn _ _=>false
 | .rng _ u m=>decide (u.length < 2*m)
inductive m8 (vs:List V)(H:Hp)(Q:VK)(u3_:XK):Prop
 | mk:∀ (p:Addr) (s:Stp),(vs=[.ref p])→(H p=some (.tup s.vs))→(Sk s)→(∀ H',aH H H'→Q (.bl (xx s)) H')→m8 vs H Q u3_
abbrev cL:Stmt:=top 13
theorem kU:aP ["step"] ["step"] (aj cL):=⟨rfl,rfl,rfl,by decide +kernel,rfl,by decide +kernel,by decide +kernel⟩
theorem m9 (D:Df K mg "shortens" cL)(T:Bt K w mg aB):Fnc P w K mg base "shortens" ["step"] 1 m8:=by
 have sc:=kU
 refine D.ok sc (fun _ _ _ _ _ _ us hl=>by obtain ⟨_,rfl⟩:=jZ hl;rfl) (fun vs H Q E h=>?_) (fun f cdv A outer s H vs Q E hr h=>?_)
 ·obtain ⟨p,s,rfl,_⟩:=h
  rfl
 ·obtain ⟨p,st,rfl,hp,hs,k⟩:=h
  have l16:=a_
  refine ⟨_,(@ak _ _ _ (@aN _ _ _ _ (@vB _ _ _ _ _ _ _ (@bq _ _ _ _ _ _ _ _ bD (@aW _ _ _ _ _ _ _ bb (pv 0) ai (fun _ _=>rfl)) aL (aF _)) (@d2 _ _ _ _ _ (@fV _ _ _ _ _ _ _ (@bq _ _ _ _ _ _ _ _ bD (@aW _ _ _ _ _ _ _ bb (pv 0) ai (fun _ _=>rfl)) aL (aF _)) (@d2 _ _ _ _ _ (@bq _ _ _ _ _ _ _ _ kj (@ax _ _ _ _ _ _ _ _ fg ai (@aW _ _ _ _ _ _ _ bb (pv 0) ai (fun _ _=>rfl))) (@aq _ _ _ _ _ _ _ _ _ av (by rfl) T.len As (@aa _ _ _ _ _ (@aW _ _ _ _ _ _ _ bb (pv 0) ai (fun _ _=>rfl)) af (by rfl)) (by decide) (by decide) (by rfl) (by rfl)) (aF _)))))))),?_⟩
  cases st with
  | out n =>
   have hp:H p=some (.tup [.str "out",.int (n:Int)]):=hp
   exact ⟨_,rfl,p,_,_,_,rfl,rfl,SqT.of hp,at0 _ _,rfl,_,rfl,cM (An rfl) (k H (aH.refl _))⟩
  | inn n x =>
   have hp:H p=some (.tup [.str "in",.int (n:Int),tx [x]]):=hp
   refine ⟨_,rfl,p,_,_,_,rfl,rfl,SqT.of hp,at0 _ _,rfl,_,rfl,bZ (by decide +kernel) ?_⟩
   exact ⟨_,rfl,p,_,_,_,rfl,rfl,SqT.of hp,at0 _ _,rfl,_,rfl,bZ (by decide +kernel) (k H (aH.refl _))⟩
  | rng n u m =>
   have hp:H p=some (.tup [.str "ring",.int (n:Int),tx u,.int (m:Int)]):=hp
   have ul:(toS u).length≤sizeLine:=by have:=hs.2.1;rw [ae];omega
   refine ⟨_,rfl,p,_,_,_,rfl,rfl,SqT.of hp,at0 _ _,rfl,_,rfl,bZ (by decide +kernel) ?_⟩
   refine ⟨_,rfl,p,_,_,_,rfl,rfl,SqT.of hp,at0 _ _,rfl,_,rfl,cM (An rfl) ?_⟩
   refine ⟨_,rfl,p,_,_,_,rfl,rfl,SqT.of hp,at3 _ _ _ _ _,_,_,rfl,rfl,.inl ⟨by decide,by decide⟩,_,rfl,p,_,_,_,rfl,rfl,SqT.of hp,at2 _ _ _ _,toS u,rfl,ul,_,_,rfl,rfl,?_⟩
   have e:decide ((((toS u).length:Nat):Int) < 2*(m:Int))=decide (u.length < 2*m):=by rw [ae];exact C_.mpr ⟨fun h=>by omega,fun h=>by omega⟩
   rw [e]
   exact k H (aH.refl _)
abbrev cw:Stmt:=top 38
theorem ka:aP ["_law_step"] ["_law_step"] (aj cw):=⟨rfl,rfl,rfl,by decide +kernel,rfl,by decide +kernel,by decide +kernel⟩
theorem kW (D:Df K mg "_law_shortens" cw)(T:Bt K w mg aB):Fnc P w K mg base "_law_shortens" ["_law_step"] 1 m8:=by
 have sc:=ka
 refine D.ok sc (fun _ _ _ _ _ _ us hl=>by obtain ⟨_,rfl⟩:=jZ hl;rfl) (fun vs H Q E h=>?_) (fun f cdv A outer s H vs Q E hr h=>?_)
 ·obtain ⟨p,s,rfl,_⟩:=h
  rfl
 ·obtain ⟨p,st,rfl,hp,hs,k⟩:=h
  have l16:=a_
  refine ⟨_,(@ak _ _ _ (@aN _ _ _ _ (@vB _ _ _ _ _ _ _ (@bq _ _ _ _ _ _ _ _ bD (@aW _ _ _ _ _ _ _ bb (pv 0) ai (fun _ _=>rfl)) aL (aF _)) (@d2 _ _ _ _ _ (@fV _ _ _ _ _ _ _ (@bq _ _ _ _ _ _ _ _ bD (@aW _ _ _ _ _ _ _ bb (pv 0) ai (fun _ _=>rfl)) aL (aF _)) (@d2 _ _ _ _ _ (@bq _ _ _ _ _ _ _ _ kj (@aW _ _ _ _ _ _ _ bb (pv 0) ai (fun _ _=>rfl)) (@ax _ _ _ _ _ _ _ _ fW (@aq _ _ _ _ _ _ _ _ _ av (by rfl) T.len As (@aa _ _ _ _ _ (@aW _ _ _ _ _ _ _ bb (pv 0) ai (fun _ _=>rfl)) af (by rfl)) (by decide) (by decide) (by rfl) (by rfl)) (@aW _ _ _ _ _ _ _ bb (pv 0) ai (fun _ _=>rfl))) (aF _)))))))),?_⟩
  cases st with
  | out n =>
   have hp:H p=some (.tup [.str "out",.int (n:Int)]):=hp
   exact ⟨_,rfl,p,_,_,_,rfl,rfl,SqT.of hp,at0 _ _,rfl,_,rfl,cM (An rfl) (k H (aH.refl _))⟩
  | inn n x =>
   have hp:H p=some (.tup [.str "in",.int (n:Int),tx [x]]):=hp
   refine ⟨_,rfl,p,_,_,_,rfl,rfl,SqT.of hp,at0 _ _,rfl,_,rfl,bZ (by decide +kernel) ?_⟩
   exact ⟨_,rfl,p,_,_,_,rfl,rfl,SqT.of hp,at0 _ _,rfl,_,rfl,bZ (by decide +kernel) (k H (aH.refl _))⟩
  | rng n u m =>
   have hp:H p=some (.tup [.str "ring",.int (n:Int),tx u,.int (m:Int)]):=hp
   have ul:(toS u).length≤sizeLine:=by have:=hs.2.1;rw [ae];omega
   refine ⟨_,rfl,p,_,_,_,rfl,rfl,SqT.of hp,at0 _ _,rfl,_,rfl,bZ (by decide +kernel) ?_⟩
   refine ⟨_,rfl,p,_,_,_,rfl,rfl,SqT.of hp,at0 _ _,rfl,_,rfl,cM (An rfl) ?_⟩
   refine ⟨_,rfl,p,_,_,_,rfl,rfl,SqT.of hp,at3 _ _ _ _ _,_,rfl,p,_,_,_,rfl,rfl,SqT.of hp,at2 _ _ _ _,toS u,rfl,ul,_,rfl,p,_,_,_,rfl,rfl,SqT.of hp,at3 _ _ _ _ _,_,_,rfl,rfl,_,_,rfl,rfl,?_⟩
   have e:decide ((((toS u).length:Nat):Int) - (m:Int) < (m:Int))=decide (u.length < 2*m):=by rw [ae];exact C_.mpr ⟨fun h=>by omega,fun h=>by omega⟩
   rw [e]
   exact k H (aH.refl _)
inductive eQ (vs:List V)(H:Hp)(Q:VK)(u3_:XK):Prop
 | mk:∀ (l:Addr) (W:List (List L)),(vs=[.ref l])→(H l=some (.lst (W.map tx)))→(W.length≤1500)→((∀ u∈W,1≤u.length∧u.length≤90))→(∀ (l2:Addr) (V:List (List L)) (H':Hp),H l2=none→Ord V→(∀ x,x∈V ↔ x∈W.map hlf)→H' l2=some (.lst (V.map tx))→aH H H'→Q (.ref l2) H')→eQ vs H Q u3_
abbrev dE:Stmt:=top 36
theorem m_:aP ["_law_known","_law_found","_law_turn","_law_many"] ["_law_known"] (aj dE):=⟨rfl,rfl,rfl,by decide +kernel,rfl,by decide +kernel,by decide +kernel⟩
theorem qo (D:Df K mg "_law_halves" dE)(T:Bt K w mg aB):Fnc P w K mg base "_law_halves" ["_law_known"] 1 eQ:=by
 have sc:=m_
 refine D.ok sc (fun _ _ _ _ _ _ us hl=>by obtain ⟨_,rfl⟩:=jZ hl;rfl) (fun vs H Q E h=>?_) (fun f cdv A outer s H vs Q E hr h=>?_)
 ·obtain ⟨l,W,rfl,_⟩:=h
  rfl
 ·obtain ⟨a,W,rfl,ha,hW,hw,k⟩:=h
  have l16:=a_
  refine ⟨_,(@ag _ _ _ _ _ (@ay _ _ (1) _ _ _ _ sc.nd rfl (Or.inl rfl) (@bh _ _ _ _ af) (by rfl) (by first | exact .inl rfl | exact .inr rfl | assumption)) (@ag _ _ _ _ _ (@bJ _ _ _ _ _ _ _ _ AQ rfl (@bU _ _ _ _ (pv 0)) (@aT _ _ (2) _ sc.nd rfl (Or.inr rfl) (by first | exact .inl rfl | exact .inr rfl | assumption)) (@ag _ _ _ _ _ (@ay _ _ (3) _ _ _ _ sc.nd rfl (Or.inl rfl) (@aW _ _ _ _ _ _ _ cD (@cF _ _ _ _ _ _ _ (["_law_k","_law_turn"]) (["_law_k"]) ([2]) _ _ _ _ (@cA _ _ _ _ _ _ rfl (by kernel_rfl)) rfl (@bz _ _ _ _ _ _ rfl T.range (@aa _ _ _ _ _ (@ax _ _ _ _ _ _ _ _ aQ (@aq _ _ _ _ _ _ _ _ _ av (by rfl) T.len As (@aa _ _ _ _ _ (pv 2) af (by rfl)) (by decide) (by decide) (by rfl) (by rfl)) ai) af (by rfl)) (by rfl)) (fun _ _ _ _=>@aT _ _ (0) _ (show (["_law_k","_law_turn"]:List Str).Nodup from by decide +kernel) rfl (Or.inl rfl) (by first | exact .inl rfl | exact .inr rfl | assumption)) (fun _ _ _ _=>(@d8 _ _ _ (by exact (@aC _ _ _ _ _ _ _ _ kj (@ax _ _ _ _ _ _ _ _ fg ai (pv 0)) (@aq _ _ _ _ _ _ _ _ _ av (by rfl) T.len As (@aa _ _ _ _ _ (pv 1) af (by rfl)) (by decide) (by decide) (by rfl) (by rfl)) (aF _))))) (fun _ _ _ _=>by (exact (pv 0))) (by intro _ ;rfl)) ai (fun _ _=>rfl)) (by rfl) (by first | exact .inl rfl | exact .inr rfl | assumption)) (@ak _ _ _ (@bw _ _ _ _ _ _ _ _ (@aC _ _ _ _ _ _ _ _ (@dH _ (K) rfl) (@aw _ _ _ _ _ _ _ _ _ _ aR (pv 2) aG (@aA _ _ _ (pv 3))) (pv 1) rfl) (@ak _ _ _ (@cN _ _ _ _ (@gi _ _ _ _ _ _ _ _ _ _ _ _ Bc Bq Br cj (pv 1) (@aa _ _ _ _ _ (@aw _ _ _ _ _ _ _ _ _ _ aR (pv 2) aG (@aA _ _ _ (pv 3))) af (by rfl)) (by rfl) (by rfl) (by rfl) (by rfl) (by rfl)) (by rfl))) aV))) (by intro _ ;rfl)) (@ak _ _ _ (@aN _ _ _ _ (@aq _ _ _ _ _ _ _ _ _ cJ (by rfl) T.sorted ef (@aa _ _ _ _ _ (pv 1) af (by rfl)) (by decide) (by decide) (by rfl) (by rfl)))))),?_⟩
  refine ⟨(aK (n:=0) (by decide)),fun l hl=>?_⟩
  have s0:aH H (upd H l (.lst [])):=aH.new hl
  have f0:(upd H l (.lst [])) l=some (.lst (([]:List (List L)).map tx)):=ah
  have nolp:∀ b o,H b=some o→b≠l:=fun b o e=>au e hl
  generalize upd H l (.lst [])=H0 at s0 f0 ⊢
  refine ⟨_,rfl,a,rfl,⟨_,SqL.of (s0 _ _ ha)⟩,?_⟩
  refine cy (xs:=W.map tx) (fun i σ H'=>∃ (b2 b3:Option V) (F:List (List L)),σ = [some (.ref a),some (.ref l),b2,b3]∧H' l=some (.lst (F.map tx))∧ix ((W.take i).map hlf) F∧aH H H') ⟨_,_,[],rfl,f0,ix.nil,s0⟩ (fun i σ H' _ ⟨_,_,_,_,_,_,q⟩=>SqL.of (q _ _ ha)) ?_ ?_
  ·rintro i x σ H1 hx ⟨b2,b3,F,rfl,f1,on,s1⟩
   rw [Ap] at hx
   obtain ⟨u,hu,rfl⟩:=Bf.mp hx
   obtain ⟨u1,u2⟩:=hw u (AG hu)
   have hi:=(Ah.mp hu).1
   have lu:=ae u
   refine ⟨_,rfl,_,rfl,by omega,_,_,rfl,rfl,_,rfl,by omega,by omega,?_⟩
   rw [lu,show ((u.length:Int)+1).toNat=u.length+1 by omega]
   refine ck (own:=["_law_k"]) (cap:=[2]) (J:=Itr 0 (u.length+1)) (u.length+1) (fun j ys σ H'=>∃ (b:Option V) (ks:List Nat),σ = [b,some (tx u)]∧ys=ks.map (fun (n:Nat)=>V.int (n:Int))∧ks.length≤j∧(j≤u.length / 2+1→ks=[])∧(u.length / 2+1 < j→ks[0]? = some (u.length / 2+1))∧aH H1 H') ⟨none,[],rfl,rfl,Al _,fun _=>rfl,fun h=>by omega,aH.refl _⟩ (fun j ys σ H' hj ⟨_,ks,_,e,e2,_⟩=>by rw [e,Ag];exact e2) (by omega) (fun j ys σ H' hj _=>hj) (fun ys σ H' _=>Al _) ?_ ?_
   ·rintro j ys σ HX x HY N hj ⟨b,ks,rfl,rfl,hk,hk0,hk1,s3⟩ ⟨rfl,rfl⟩ hN
    refine ⟨_,rfl,_,_,rfl,rfl,.inl ⟨by decide,by decide⟩,_,rfl,toS u,rfl,by omega,_,_,rfl,rfl,_,rfl,?_⟩
    by_cases hc:u.length < 2*j
    ·refine cM (An (by omega)) ⟨_,rfl,hN _ _ _ ⟨_,ks++[j],rfl,?_,by rw [Ad];simp;omega,fun h=>by omega,fun h=>?_,s3⟩⟩
     ·rw [AH,Dc,Ea,D1]
     ·by_cases e:j=u.length / 2+1
      ·rw [hk0 (by omega),e]
       rfl
      ·have h1:=hk1 (by omega)
       rw [Be (Ah.mp h1).1]
       exact h1
    ·refine bZ (AF (by omega)) (hN _ _ _ ⟨_,ks,rfl,rfl,by omega,fun h=>hk0 (by omega),fun h=>by omega,s3⟩)
   ·rintro ys σ H3 m ⟨b,ks,rfl,rfl,hk,hk0,hk1,s3⟩ hm
    have h1:(ks.map (fun (n:Nat)=>V.int (n:Int)))[0]? = some (.int ((u.length / 2+1:Nat):Int)):=by rw [Ap,hk1 (by omega)];rfl
    refine ⟨m,_,_,_,rfl,rfl,SqL.of ah,bP h1,?_⟩
    have s4:aH H (upd H3 m (.lst (ks.map fun (n:Nat)=>V.int (n:Int)))):=(s1.trans s3).then hm
    have f4:(upd H3 m (.lst (ks.map fun (n:Nat)=>V.int (n:Int)))) l=some (.lst (F.map tx)):=aH.new hm _ _ (s3 _ _ f1)
    generalize upd H3 m (.lst (ks.map fun (n:Nat)=>V.int (n:Int)))=H4 at s4 f4 ⊢
    refine ⟨_,rfl,_,rfl,_,rfl,_,rfl,by omega,?_⟩
    have eh:(toS u).length=u.length:=lu
    rw [ao,bj u (by omega),Az]
    have et:(W.take (i+1)).map hlf=(W.take i).map hlf++[hlf u]:=by rw [AI,hu,AH];rfl
    have pt:=on.put (hlf u)
    rw [← et] at pt
    have ol:=on.len
    rw [Ag,Aj] at ol
    show sN (rIn K true) (xk 1) _ _ (tx (hlf u)) _
    refine ⟨_,rfl,l,_,rfl,.inl (SqL.of f4),rfl,gH _,_,rfl,?_⟩
    rw [pJ]
    by_cases q:hlf u∈F
    ·rw [if_pos q] at pt
     refine bZ (by simp [q]) ?_
     exact ⟨_,_,F,rfl,f4,pt,s4⟩
    ·rw [if_neg q] at pt
     refine cM (by simp [q]) ?_
     refine ⟨_,rfl,.inl ⟨rfl,_,SqL.of f4⟩,_,rfl,_,rfl,_,rfl,_,rfl,by omega,?_⟩
     rw [ao,bj u (by omega),Az]
     show lq yP _ _ (tx (hlf u)) _
     refine ⟨l,_,_,rfl,rfl,f4,by rw [Ag];omega,?_⟩
     refine ⟨_,_,F++[hlf u],rfl,by rw [ah,AH];rfl,pt,fun b o e=>?_⟩
     rw [aD (nolp b o e)]
     exact s4 _ _ e
  ·rintro σ H1 ⟨b2,b3,F,rfl,f1,on,s1⟩
   rw [Ag,BB] at on
   have ee:F.map tx=(F.map toS).map V.str:=by rw [BD];rfl
   rw [ee] at f1
   refine ⟨_,rfl,l,F.map toS,rfl,SqL.of f1,fun l2 zs hl2 pm so=>?_⟩
   have ndF:(F.map toS).Nodup:=DK toS (fun a b h e=>h (cm e)) on.nd
   obtain ⟨V,rfl,oV,mV⟩:=jW (W:=F) (pm.nodup_iff.mpr ndF) so fun z=>pm.mem_iff
   refine k l2 V _ (s1.free hl2) oV (fun x=>(mV x).trans (on.mem x)) ?_ (s1.then hl2)
   rw [ah,BD]
   rfl
inductive fS (vs:List V)(H:Hp)(Q:VK)(u3_:XK):Prop
 | mk:∀ (l:Addr) (W:List (List L)) (w:List L),(vs=[.ref l,tx w])→(H l=some (.lst (W.map tx)))→(W.length≤1500)→((∀ u∈W,1≤u.length∧u.length≤90))→(w.length≤500)→(∀ (b:Bool) (H':Hp),(b=true ↔ red w=w∧∀ h∈W.map hlf,¬ h <:+: w)→aH H H'→Q (.bl b) H')→fS vs H Q u3_
abbrev eR:Stmt:=top 37
theorem qp:aP ["_law_known","_law_word"] ["_law_known","_law_word"] (aj eR):=⟨rfl,rfl,rfl,by decide +kernel,rfl,by decide +kernel,by decide +kernel⟩
theorem sq (D:Df K mg "_law_is_short" eR)(T:Bt K w mg aB)(F_lred:Fnc P w K mg base "_law_reduced" ["_law_word"] 2 oH)(F_lhalves:Fnc P w K mg base "_law_halves" ["_law_known"] 1 eQ):Fnc P w K mg base "_law_is_short" ["_law_known","_law_word"] 3 fS:=by
 have sc:=qp
 refine D.ok sc (fun _ _ _ _ _ _ us hl=>by obtain ⟨_,_,rfl⟩:=rT hl;rfl) (fun vs H Q E h=>?_) (fun f cdv A outer s H vs Q E hr h=>?_)
 ·obtain ⟨l,W,w,rfl,_⟩:=h
  rfl
 ·obtain ⟨a,W,v,rfl,ha,hW,hw,hv,k⟩:=h
  have l16:=a_
  refine ⟨_,(@ag _ _ _ _ _ (@bw _ _ _ _ _ _ _ _ (@aC _ _ _ _ _ _ _ _ fX (@aE _ _ _ _ _ _ _ _ _ _ _ F_lred hr (by decide) rfl (@aa _ _ _ _ _ (pv 1) af (by rfl)) (by decide) (by rfl) (by rfl)) (pv 1) (aF _)) (@ak _ _ _ (@aN _ _ _ _ jd)) aV) (@ak _ _ _ (@aN _ _ _ _ (@bq _ _ _ _ _ _ _ _ (@gy _ (by exact hr.units)) (@cF _ _ _ _ _ _ _ (["_law_half","_law_word"]) (["_law_half"]) ([1]) _ _ _ _ (@cA _ _ _ _ _ _ rfl (by kernel_rfl)) rfl (@bU _ _ _ _ (@aE _ _ _ _ _ _ _ _ _ _ _ F_lhalves hr (by decide) rfl (@aa _ _ _ _ _ (pv 0) af (by rfl)) (by decide) (by rfl) (by rfl))) (fun _ _ _ _=>@aT _ _ (0) _ (show (["_law_half","_law_word"]:List Str).Nodup from by decide +kernel) rfl (Or.inl rfl) (by first | exact .inl rfl | exact .inr rfl | assumption)) (fun _ _ _ _=>(@d8 _ _ _ (by exact (@aC _ _ _ _ _ _ _ _ fZ (pv 0) (pv 1) rfl)))) (fun _ _ _ _=>by (exact (pv 0))) (by intro _ ;rfl)) (@bh _ _ _ _ af) (aF _))))),?_⟩
  refine ⟨_,rfl,v,rfl,by omega,fun H1 s1=>?_⟩
  refine ⟨_,rfl,rfl,_,rfl,?_⟩
  by_cases hred:red v=v
  ·refine bZ (by rw [hred];simp) ?_
   refine ⟨_,rfl,a,W,rfl,s1 _ _ ha,hW,hw,fun l V H2 hl oV mV fl s2=>?_⟩
   refine ⟨l,rfl,⟨_,SqL.of fl⟩,?_⟩
   have vlen:V.length≤4000:=by
    have h1:=iw oV.nd fun x hx=>(mV x).mp hx
    rw [Ag] at h1
    omega
   refine eF (xs:=V.map tx) (own:=["_law_half"]) (cap:=[1]) (fun j ys σ H'=>∃ (b:Option L2.V) (U:List (List L)),σ = [b,some (tx v)]∧ys=U.map tx∧U.length≤j∧(U=[] ↔ ∀ x∈V.take j,¬ x <:+: v)∧aH H2 H') ⟨none,[],rfl,rfl,Al _,⟨fun _ x hx=>by simp at hx,fun _=>rfl⟩,aH.refl _⟩ (fun j ys σ H' hj ⟨_,_,_,e,e2,_⟩=>by rw [e,Ag];exact e2) (by rw [Ag];omega) (fun j ys σ H' ⟨_,_,_,_,_,_,s⟩=>SqL.of (s _ _ fl)) ?_ ?_
   ·rintro j ys σ H3 z N hz ⟨_,U,rfl,rfl,hU,hU2,s3⟩ hN
    rw [Ap] at hz
    obtain ⟨u,hu,rfl⟩:=Bf.mp hz
    have et:∀ x,x∈V.take (j+1) ↔ x∈V.take j ∨ x=u:=fun x=>by rw [AI,hu];simp
    refine ⟨_,rfl,_,rfl,toS u,toS v,rfl,rfl,_,rfl,?_⟩
    by_cases hin:u <:+: v
    ·refine cM (by obtain ⟨i,h1,h2⟩:=kO hin;exact (eL v u).mpr ⟨i,h1,h2⟩) ?_
     refine ⟨_,rfl,hN _ _ _ ⟨_,U++[u],rfl,by rw [AH];rfl,by rw [Ad];simp;omega,⟨fun h=>by simp at h,fun h=>absurd hin (h u ((et u).mpr (.inr rfl)))⟩,s3⟩⟩
    ·refine bZ ?_ (hN _ _ _ ⟨_,U,rfl,rfl,by omega,⟨fun h x hx=>?_,fun h=>hU2.mpr fun x hx=>h x ((et x).mpr (.inl hx))⟩,s3⟩)
     ·rw [← Bool.not_eq_true]
      intro e
      obtain ⟨i,h1,h2⟩:=(eL v u).mp e
      refine hin ⟨v.take i,(v.drop i).drop u.length,?_⟩
      rw [← h2,Aj,AA,BJ (by omega),Am,AD,AD]
     ·rcases (et x).mp hx with h' | rfl
      ·exact hU2.mp h x h'
      ·exact hin
   rintro ys σ H3 l2 ⟨_,U,rfl,rfl,hU,hU2,s3⟩ hl2
   rw [Ag,BB] at hU2
   refine ⟨(aK (n:=0) (by decide)),fun z hz=>?_⟩
   have s4:=(((s1.trans s2).trans s3).then (o:=.lst (U.map tx)) hl2).then (o:=.lst []) hz
   refine ⟨l2,z,_,rfl,rfl,aH.new hz _ _ ah,ah,k _ _ ?_ s4⟩
   rw [List.isEmpty_iff,List.map_eq_nil_iff,hU2]
   exact ⟨fun h=>⟨hred,fun x hx=>h x ((mV x).mpr hx)⟩,fun h x hx=>h.2 x ((mV x).mp hx)⟩
  ·refine cM (by simp;exact fun e=>hred (ie e)) (k false H1 ⟨fun h=>(by cases h),fun h=>absurd h.1 hred⟩ s1)
theorem tF {K:PySem.W.Frag}:PySem.W.kitOne K (.type "tuple") (.type "tuple")=some true:=by kernel_rfl
inductive i_ (vs:List V)(H:Hp)(Q:VK)(u3_:XK):Prop
 | mk:∀ (q l:Addr) (R W:List (List L)) (w:List L),(vs=[.ref q,.ref l,tx w])→(H q=some (.tup (R.map tx)))→(Rgs R)→(H l=some (.lst (W.map tx)))→(Tn R W)→(w.length≤500)→(∀ H',aH H H'→Q (.bl true) H')→i_ vs H Q u3_
theorem vj {R W:List (List L)}{v:List L}{p:Nat}{s:Stp}(tn:Tn R W)(h:Srt W v p s)(hv:v.length≤2000):qu R v s=some (chg v s):=by
 obtain ⟨_,h2,_,h4⟩:=h
 refine fM ?_ (by omega)
 rcases h4 with ⟨rfl,h⟩ | ⟨u,m,rfl,hu,ht,_⟩
 ·exact h
 ·show (il v p u m && decide (u∈trn R))=true
  rw [ht,An ((tn.mem u).mp hu)]
  rfl
theorem vk {W:List (List L)}{v:List L}{p:Nat}{s:Stp}(h:Srt W v p s):xx s=true:=by
 obtain ⟨_,_,_,h4⟩:=h
 rcases h4 with ⟨rfl,h⟩ | ⟨u,m,rfl,hu,ht,h⟩
 ·rfl
 ·exact An h
abbrev gU:Stmt:=top 39
theorem sG:aP ["_law_rings_here","_law_known","_law_word","_law_told","_law_here","_law_step","_law_found"] ["_law_rings_here","_law_known","_law_word"] (aj gU):=⟨rfl,rfl,rfl,by decide +kernel,rfl,by decide +kernel,by decide +kernel⟩
theorem vo (D:Df K mg "_law_led_right" gU)(T:Bt K w mg aB)(F_short:Fnc P w K mg base "shortened" ["rings","word"] 4 kT)(F_ldone:Fnc P w K mg base "_law_done" ["_law_known","_law_word","_law_step"] 2 i9)(F_lshortens:Fnc P w K mg base "_law_shortens" ["_law_step"] 1 m8)(F_lshort:Fnc P w K mg base "_law_is_short" ["_law_known","_law_word"] 3 fS):Fnc P w K mg base "_law_led_right" ["_law_rings_here","_law_known","_law_word"] 5 i_:=by
 have sc:=sG
 refine D.ok sc (fun _ _ _ _ _ _ us hl=>by obtain ⟨_,_,_,rfl⟩:=vv hl;rfl) (fun vs H Q E h=>?_) (fun f cdv A outer s H vs Q E hr h=>?_)
 ·obtain ⟨q,l,R,W,w,rfl,_⟩:=h
  rfl
 ·obtain ⟨q,l,R,W,v,rfl,hq,hR,hl,tn,hv,k⟩:=h
  have l16:=a_
  refine ⟨_,(@ag _ _ _ _ _ (@ay _ _ (3) _ _ _ _ sc.nd rfl (Or.inl rfl) (@aE _ _ _ _ _ _ _ _ _ _ _ F_short hr (by decide) rfl (@aa _ _ _ _ _ (pv 0) (@aa _ _ _ _ _ (pv 2) af (by rfl)) (by rfl)) (by decide) (by rfl) (by rfl)) (by rfl) (by first | exact .inl rfl | exact .inr rfl | assumption)) (@ag _ _ _ _ _ (@bw _ _ _ _ _ _ _ _ (@PW.pt _ _ _ (@kh _ _ _ _ _ _ _ (@kZ _ _ _ _ (@cO _ _ _ (@aq _ _ _ _ _ _ _ _ _ (@lV _ (K) rfl) (by rfl) T.isinstance fv (@aa _ _ _ _ _ (pv 3) (@aa _ _ _ _ _ (@nu _ _ (.ty "tuple") _ _ rfl T.tuple e9 rfl (by decide) (by decide)) af (by rfl)) (by rfl)) (by decide) (by decide) (by rfl) (by rfl)) (fun _=>rfl))) (@kh _ _ _ _ _ _ _ (@aC _ _ _ _ _ _ _ _ fX (@aq _ _ _ _ _ _ _ _ _ bF (by rfl) T.len As (@aa _ _ _ _ _ (pv 3) af (by rfl)) (by decide) (by decide) (by rfl) (by rfl)) ai (aF _)) (@jg _ _ _ _ (@kZ _ _ _ _ (@cO _ _ _ (@aq _ _ _ _ _ _ _ _ _ (@lV _ (K) rfl) (by rfl) T.isinstance fv (@aa _ _ _ _ _ (@aW _ _ _ _ _ _ _ bb (pv 3) ai (fun _ _=>rfl)) (@aa _ _ _ _ _ (@nu _ _ (.ty "tuple") _ _ rfl T.tuple e9 rfl (by decide) (by decide)) af (by rfl)) (by rfl)) (by decide) (by decide) (by rfl) (by rfl)) (fun _=>rfl))))))) (@ak _ _ _ (@aN _ _ _ _ jd)) aV) (@ag _ _ _ _ _ (@ay _ _ (4) _ _ _ _ sc.nd rfl (Or.inl rfl) (pv 2) (by rfl) (by first | exact .inl rfl | exact .inr rfl | assumption)) (@ag _ _ _ _ _ (@bJ _ _ _ _ _ _ _ _ AQ rfl (@lj _ _ _ _ (@aW _ _ _ _ _ _ _ bb (pv 3) ai (fun _ _=>rfl))) (@aT _ _ (5) _ sc.nd rfl (Or.inl rfl) (by first | exact .inl rfl | exact .inr rfl | assumption)) (@ag _ _ _ _ _ (@ay _ _ (6) _ _ _ _ sc.nd rfl (Or.inl rfl) (@aE _ _ _ _ _ _ _ _ _ _ _ F_ldone hr (by decide) rfl (@aa _ _ _ _ _ (pv 1) (@aa _ _ _ _ _ (pv 4) (@aa _ _ _ _ _ (pv 5) af (by rfl)) (by rfl)) (by rfl)) (by decide) (by rfl) (by rfl)) (by rfl) (by first | exact .inl rfl | exact .inr rfl | assumption)) (@ag _ _ _ _ _ (@bw _ _ _ _ _ _ _ _ (@PW.pt _ _ _ (@kh _ _ _ _ _ _ _ (@aC _ _ _ _ _ _ _ _ (@gy _ (by exact hr.units)) (pv 6) (@bh _ _ _ _ af) (aF _)) (@jg _ _ _ _ (@kZ _ _ _ _ (@cO _ _ _ (@aE _ _ _ _ _ _ _ _ _ _ _ F_lshortens hr (by decide) rfl (@aa _ _ _ _ _ (pv 5) af (by rfl)) (by decide) (by rfl) (by rfl)) (fun _=>rfl)))))) (@ak _ _ _ (@aN _ _ _ _ jd)) aV) (@ak _ _ _ (@ay _ _ (4) _ _ _ _ sc.nd rfl (Or.inl rfl) (@aW _ _ _ _ _ _ _ cD (pv 6) ai (fun _ _=>rfl)) (by rfl) (by first | exact .inl rfl | exact .inr rfl | assumption))))) (by intro _ ;rfl)) (@ak _ _ _ (@aN _ _ _ _ (@fV _ _ _ _ _ _ _ (@bq _ _ _ _ _ _ _ _ bD (@aq _ _ _ _ _ _ _ _ _ d9 (by rfl) T.repr dR (@aa _ _ _ _ _ (@aW _ _ _ _ _ _ _ bb (pv 3) ai (fun _ _=>rfl)) af (by rfl)) (by decide) (by decide) (by rfl) (by rfl)) (@aq _ _ _ _ _ _ _ _ _ d9 (by rfl) T.repr dR (@aa _ _ _ _ _ (pv 4) af (by rfl)) (by decide) (by decide) (by rfl) (by rfl)) (aF _)) (@d2 _ _ _ _ _ (@aE _ _ _ _ _ _ _ _ _ _ _ F_lshort hr (by decide) rfl (@aa _ _ _ _ _ (pv 1) (@aa _ _ _ _ _ (pv 4) af (by rfl)) (by rfl)) (by decide) (by rfl) (by rfl)))))))))),?_⟩
  refine ⟨_,rfl,_,rfl,q,R,v,rfl,hq,hR,by omega,fun W2 t p e st xs H1 tn2 chn no stl rws ft fp s1=>?_⟩
  obtain rfl:W2=W:=tn2.one tn
  refine ⟨_,rfl,_,_,_,_,rfl,.tup ft,tF,_,rfl,?_⟩
  refine nkT (xv ⟨_,rfl,t,_,rfl,.inr (SqT.of ft),rfl,_,rfl,?_⟩)
  show jf _ _ _ false _
  refine xv ⟨_,rfl,t,_,_,_,rfl,rfl,SqT.of ft,at0 _ _,_,_,_,_,rfl,.tup fp,tF,_,rfl,?_⟩
  refine nkT (xu ?_)
  obtain ⟨g,g0,gn,gs⟩:=chn
  have gl:∀ i,i≤st.length→(g i).length≤500:=fun i=>by
   induction i with
   | zero=>intro _;rw [g0];exact hv
   | succ i ih =>
    intro hi
    obtain ⟨⟨p,hp⟩,e2⟩:=gs i _ (Ac (show i < st.length by omega))
    rw [e2]
    have:=hp.2.1
    have:=ih (by omega)
    omega
  have l1:=s1 _ _ hl
  refine ⟨_,rfl,_,rfl,t,_,_,_,rfl,rfl,SqT.of ft,at0 _ _,p,rfl,⟨_,SqT.of fp⟩,?_⟩
  refine eS (xs:=xs) (fun i σ H'=>∃ (b5 b6:Option V),σ = [some (.ref q),some (.ref l),some (tx v),some (.ref t),some (tx (g i)),b5,b6]∧aH H1 H') ⟨_,_,by rw [g0];rfl,aH.refl _⟩ (fun i σ H' _ ⟨_,_,_,s⟩=>SqT.of (s _ _ fp)) ?_ ?_
  ·rintro i x σ H2 hx ⟨b5,b6,rfl,s2⟩
   have hi:i < st.length:=by rw [← rws.1];exact (Ah.mp hx).1
   have hs:=Ac hi
   obtain ⟨a1,ha1,fa1⟩:=rws.2 i _ hs
   obtain ⟨⟨p1,hp1⟩,e2⟩:=gs i _ hs
   rw [hx] at ha1
   cases ha1
   have gli:=gl i (by omega)
   refine ⟨_,rfl,_,rfl,_,rfl,l,a1,R,W2,g i,_,rfl,s2 _ _ l1,tn.mem,by omega,s2 _ _ fa1,hp1.1,fun fo H3 fo0 f3 s3=>?_⟩
   rw [vj tn hp1 (by omega)] at f3
   refine ⟨_,rfl,(aK (n:=0) (by decide)),fun z hz=>?_⟩
   have s4:=aH.new (o:=.lst []) hz
   refine ⟨fo,z,_,rfl,rfl,s4 _ _ f3,ah,?_⟩
   have fa4:=s4 _ _ (s3 _ _ (s2 _ _ fa1))
   have f4:=s4 _ _ f3
   generalize upd H3 z (.lst [])=H4 at s4 fa4 f4 ⊢
   refine ⟨_,rfl,?_⟩
   show jf _ _ _ false _
   refine xv ⟨_,rfl,a1,_,rfl,fa4,hp1.1,fun H5 s5=>⟨_,rfl,?_⟩⟩
   rw [vk hp1]
   refine nkT (xu ?_)
   refine ⟨_,rfl,fo,_,_,_,rfl,rfl,SqL.of (s5 _ _ f4),at0 _ _,_,_,by rw [e2];rfl,((s2.trans s3).trans s4).trans s5⟩
  ·rintro σ H2 ⟨b5,b6,rfl,s2⟩
   rw [rws.1,gn]
   have gle:=gl st.length (Al _)
   rw [gn] at gle
   have le:=ae e
   refine ⟨_,rfl,t,_,_,_,rfl,rfl,SqT.of (s2 _ _ ft),at1 _ _ _,toS e,rfl,lO _ (by omega),_,rfl,toS e,rfl,lO _ (by omega),rfl,_,rfl,cM (An rfl) ?_⟩
   have tw:∀ u∈W2,1≤u.length∧u.length≤90:=fun u hu=>by
    obtain ⟨h1,h2⟩:=tn.word hR hu
    exact ⟨A6.mpr h1,h2⟩
   have tl:=tn.len hR
   refine ⟨_,rfl,_,rfl,l,W2,e,rfl,s2 _ _ l1,by omega,tw,gle,fun b H3 hb s3=>?_⟩
   have:b=true:=hb.mpr ⟨oK (mz fun j=>?_),fun h hh=>uP no hh ?_⟩
   ·rw [this]
    exact k H3 ((s1.trans s2).trans s3)
   ·by_cases hj:j < e.length
    ·exact (no j hj).1
    ·unfold iU
     rw [AF (by omega)]
     rfl
   ·obtain ⟨u,hu,rfl⟩:=AU.mp hh
    have:=tw u hu
    unfold hlf
    intro z
    have:=C3 List.length z
    rw [Aj,Bs] at this
    omega
end
inductive qr (K:PySem.W.Frag)(vs:List V)(H:Hp)(Q:VK)(u3_:XK):Prop
 | mk:∀ (a:Addr) (ns:List Int),(vs=[.ref a])→(SqL K H a (ns.map V.int))→(ns.length≤63)→(∀ H',Q (.bl true) H')→qr K vs H Q u3_
section
variable {P:Program} {w:World} {K:PySem.W.Frag} {mg:Str→Option Value} {base:Heap} {aB:Addr}
abbrev kc:Stmt:=top 40
theorem xg:aP ["_law_script","_law_feed_here","_law_k","_law_rings_here","_law_known","_law_due","_law_found","_law_words","_law_half","_law_word","_law_step"] ["_law_script"] (aj kc):=⟨rfl,rfl,rfl,by decide +kernel,rfl,by decide +kernel,by decide +kernel⟩
theorem xh {t u:TS}{D:gZ}{σ:L2.St}{H:Hp}(R:L2.St→Hp→Prop)(h1:∀ D':gZ,(∀ σ2 H2,R σ2 H2→D'.nx σ2 H2)→t D' σ H)(h2:∀ σ2 H2,R σ2 H2→u D σ2 H2):yJ t u D σ H:=h1 _ h2
theorem vp {H:Hp}{d l:Addr}{o:HO}{ws:List (List L)}(F:Fd H d)(h:H l=some (.lst (ws.map tx)))(n:l≠d):Fd (L2.upd H l o) d:=by
 obtain ⟨c,i,ll,t,ns,h1,h2,h3,h4⟩:=F.ex
 have hc:c≠l:=fun e=>by
  subst e
  rw [h2] at h
  have h:=HO.lst.inj (A9 h)
  cases ns with
  | nil=>exact h3 rfl
  | cons a r =>
   cases ws with
   | nil=>cases h
   | cons w ws=>cases h
 exact ⟨c,i,ll,t,ns,by rw [aD n.symm];exact h1,by rw [aD hc];exact h2,h3,h4⟩
theorem yI {f:Addr}{fd:FuncData}(D:Fun K "law" "law" kc f fd)(T:Bt K w mg aB)(F_feed:Fnc P w K mg base "_law_feed" ["_law_script"] 1 (oG K))(F_draw:Fnc P w K mg base "_law_draw" ["_law_feed_here","_law_many"] 1 d_)(F_some:Fnc P w K mg base "_law_some" ["_law_feed_here","_law_many","_law_most"] 2 dZ)(F_lred:Fnc P w K mg base "_law_reduced" ["_law_word"] 2 oH)(F_lthin:Fnc P w K mg base "_law_thin" ["_law_feed_here"] 4 kI)(F_lrings:Fnc P w K mg base "_law_rings" ["_law_feed_here","_law_most"] 4 i5)(F_ltof:Fnc P w K mg base "_law_turns_of" ["_law_rings_here"] 2 dJ)(F_lhalves:Fnc P w K mg base "_law_halves" ["_law_known"] 1 eQ)(F_halves:Fnc P w K mg base "halves" ["rings"] 3 fR)(F_made:Fnc P w K mg base "_law_made" ["_law_feed_here","_law_rings_here","_law_most"] 3 kP)(F_drawn:Fnc P w K mg base "_law_drawn" ["_law_feed_here","_law_many","_law_most"] 3 kx)
  (F_isshort:Fnc P w K mg base "is_short" ["rings","word"] 4 gT) (F_lshort:Fnc P w K mg base "_law_is_short" ["_law_known","_law_word"] 3 fS) (F_right:Fnc P w K mg base "_law_led_right" ["_law_rings_here","_law_known","_law_word"] 5 i_) (F_next:Fnc P w K mg base "_law_next" ["_law_feed_here","_law_known","_law_word"] 2 kJ) (F_shortens:Fnc P w K mg base "shortens" ["step"] 1 m8) (F_lshortens:Fnc P w K mg base "_law_shortens" ["_law_step"] 1 m8):mI P w K mg base CX0 9 f fd ["_law_script"] (qr K):=by
 have sc:=xg
 refine D.ok sc (fun vs H Q E h=>?_) (fun cdv A outer s H vs Q E hr h=>?_)
 ·obtain ⟨a,ns,rfl,_⟩:=h
  rfl
 ·obtain ⟨a,ns,rfl,hS,hlen,k⟩:=h
  have l16:=a_
  refine ⟨_,(@ag _ _ _ _ _ (@ay _ _ (1) _ _ _ _ sc.nd rfl (Or.inl rfl) (@aE _ _ _ _ _ _ _ _ _ _ _ F_feed hr (by decide) rfl (@aa _ _ _ _ _ (pv 0) af (by rfl)) (by decide) (by rfl) (by rfl)) (by rfl) (by first | exact .inl rfl | exact .inr rfl | assumption)) (@ag _ _ _ _ _ (@bJ _ _ _ _ _ _ _ _ AQ rfl (@bz _ _ _ _ _ _ rfl T.range (@aa _ _ _ _ _ ai af (by rfl)) (by rfl)) (@aT _ _ (2) _ sc.nd rfl (Or.inl rfl) (by first | exact .inl rfl | exact .inr rfl | assumption)) (@ag _ _ _ _ _ (@ay _ _ (3) _ _ _ _ sc.nd rfl (Or.inl rfl) (@bI _ _ _ _ _ _ _ _ (@aC _ _ _ _ _ _ _ _ bD (@aE _ _ _ _ _ _ _ _ _ _ _ F_draw hr (by decide) rfl (@aa _ _ _ _ _ (pv 1) (@aa _ _ _ _ _ ai af (by rfl)) (by rfl)) (by decide) (by rfl) (by rfl)) ai (aF _)) (@aE _ _ _ _ _ _ _ _ _ _ _ F_lthin hr (by decide) rfl (@aa _ _ _ _ _ (pv 1) af (by rfl)) (by decide) (by rfl) (by rfl)) (@aE _ _ _ _ _ _ _ _ _ _ _ F_lrings hr (by decide) rfl (@aa _ _ _ _ _ (pv 1) (@aa _ _ _ _ _ ai af (by rfl)) (by rfl)) (by decide) (by rfl) (by rfl))) (by rfl) (by first | exact .inl rfl | exact .inr rfl | assumption)) (@ag _ _ _ _ _ (@ay _ _ (4) _ _ _ _ sc.nd rfl (Or.inl rfl) (@aE _ _ _ _ _ _ _ _ _ _ _ F_ltof hr (by decide) rfl (@aa _ _ _ _ _ (pv 3) af (by rfl)) (by decide) (by rfl) (by rfl)) (by rfl) (by first | exact .inl rfl | exact .inr rfl | assumption)) (@ag _ _ _ _ _ (@ay _ _ (5) _ _ _ _ sc.nd rfl (Or.inl rfl) (@aE _ _ _ _ _ _ _ _ _ _ _ F_lhalves hr (by decide) rfl (@aa _ _ _ _ _ (pv 4) af (by rfl)) (by decide) (by rfl) (by rfl)) (by rfl) (by first | exact .inl rfl | exact .inr rfl | assumption)) (@ag _ _ _ _ _ (@ay _ _ (6) _ _ _ _ sc.nd rfl (Or.inl rfl) (@aE _ _ _ _ _ _ _ _ _ _ _ F_halves hr (by decide) rfl (@aa _ _ _ _ _ (pv 3) af (by rfl)) (by decide) (by rfl) (by rfl)) (by rfl) (by first | exact .inl rfl | exact .inr rfl | assumption)) (@ag _ _ _ _ _ (@bw _ _ _ _ _ _ _ _ (@aC _ _ _ _ _ _ _ _ fX (@aq _ _ _ _ _ _ _ _ _ (@bY _ (by exact hr.gd) (by exact hr.units)) (by rfl) T.repr dR (@aa _ _ _ _ _ (pv 6) af (by rfl)) (by decide) (by decide) (by rfl) (by rfl)) (@aq _ _ _ _ _ _ _ _ _ (@bY _ (by exact hr.gd) (by exact hr.units)) (by rfl) T.repr dR (@aa _ _ _ _ _ (pv 5) af (by rfl)) (by decide) (by decide) (by rfl) (by rfl)) (aF _)) (@ak _ _ _ (@aN _ _ _ _ jd)) aV) (@ag _ _ _ _ _ (@cN _ _ _ _ (@gi _ _ _ _ _ _ _ _ _ _ _ _ Bc Bq Br cj (pv 6) (@aa _ _ _ _ _ aL af (by rfl)) (by rfl) (by rfl) (by rfl) (by rfl) (by rfl)) (by rfl)) (@ag _ _ _ _ _ (@ay _ _ (7) _ _ _ _ sc.nd rfl (Or.inl rfl) (@bh _ _ _ _ (@aa _ _ _ _ _ (@aE _ _ _ _ _ _ _ _ _ _ _ F_made hr (by decide) rfl (@aa _ _ _ _ _ (pv 1) (@aa _ _ _ _ _ (pv 3) (@aa _ _ _ _ _ ai af (by rfl)) (by rfl)) (by rfl)) (by decide) (by rfl) (by rfl)) (@aa _ _ _ _ _ (@aE _ _ _ _ _ _ _ _ _ _ _ F_drawn hr (by decide) rfl (@aa _ _ _ _ _ (pv 1) (@aa _ _ _ _ _ ai (@aa _ _ _ _ _ ai af (by rfl)) (by rfl)) (by rfl)) (by decide) (by rfl) (by rfl)) af (by rfl)) (by rfl))) (by rfl) (by first | exact .inl rfl | exact .inr rfl | assumption)) (@ag _ _ _ _ _ (@bJ _ _ _ _ _ _ _ _ AQ rfl (@bU _ _ _ _ (@aw _ _ _ _ _ _ _ _ _ _ nP (@ax _ _ _ _ _ _ _ _ lF (pv 5) (@bh _ _ _ _ (@aa _ _ _ _ _ aL af (by rfl)))) aG (@aA _ _ _ ai))) (@aT _ _ (8) _ sc.nd rfl (Or.inl rfl) (by first | exact .inl rfl | exact .inr rfl | assumption)) (@ag _ _ _ _ _ (@ay _ _ (9) _ _ _ _ sc.nd rfl (Or.inl rfl) (@aE _ _ _ _ _ _ _ _ _ _ _ F_lred hr (by decide) rfl (@aa _ _ _ _ _ (@aE _ _ _ _ _ _ _ _ _ _ _ F_some hr (by decide) rfl (@aa _ _ _ _ _ (pv 1) (@aa _ _ _ _ _ ai (@aa _ _ _ _ _ ai af (by rfl)) (by rfl)) (by rfl)) (by decide) (by rfl) (by rfl)) af (by rfl)) (by decide) (by rfl) (by rfl)) (by rfl) (by first | exact .inl rfl | exact .inr rfl | assumption)) (@ak _ _ _ (@cN _ _ _ _ (@gi _ _ _ _ _ _ _ _ _ _ _ _ Bc Bq Br cj (pv 7) (@aa _ _ _ _ _ (@ax _ _ _ _ _ _ _ _ az (@ax _ _ _ _ _ _ _ _ az (pv 9) (@aw _ _ _ _ _ _ _ _ _ _ aR (pv 8) (@aA _ _ _ (@aE _ _ _ _ _ _ _ _ _ _ _ F_draw hr (by decide) rfl (@aa _ _ _ _ _ (pv 1) (@aa _ _ _ _ _ ai af (by rfl)) (by rfl)) (by decide) (by rfl) (by rfl))) aG)) (@aE _ _ _ _ _ _ _ _ _ _ _ F_some hr (by decide) rfl (@aa _ _ _ _ _ (pv 1) (@aa _ _ _ _ _ ai (@aa _ _ _ _ _ ai af (by rfl)) (by rfl)) (by rfl)) (by decide) (by rfl) (by rfl))) af (by rfl)) (by rfl) (by rfl) (by rfl) (by rfl) (by rfl)) (by rfl)))) (by intro _ ;rfl)) (@ag _ _ _ _ _ (@bJ _ _ _ _ _ _ _ _ AQ rfl (@bU _ _ _ _ (pv 7)) (@aT _ _ (9) _ sc.nd rfl (Or.inl rfl) (by first | exact .inl rfl | exact .inr rfl | assumption)) (@ag _ _ _ _ _ (@bw _ _ _ _ _ _ _ _ (@aC _ _ _ _ _ _ _ _ fX (@aq _ _ _ _ _ _ _ _ _ bR (by rfl) T.repr dR (@aa _ _ _ _ _ (@aE _ _ _ _ _ _ _ _ _ _ _ F_isshort hr (by decide) rfl (@aa _ _ _ _ _ (pv 3) (@aa _ _ _ _ _ (pv 9) af (by rfl)) (by rfl)) (by decide) (by rfl) (by rfl)) af (by rfl)) (by decide) (by decide) (by rfl) (by rfl)) (@aq _ _ _ _ _ _ _ _ _ bR (by rfl) T.repr dR (@aa _ _ _ _ _ (@aE _ _ _ _ _ _ _ _ _ _ _ F_lshort hr (by decide) rfl (@aa _ _ _ _ _ (pv 4) (@aa _ _ _ _ _ (pv 9) af (by rfl)) (by rfl)) (by decide) (by rfl) (by rfl)) af (by rfl)) (by decide) (by decide) (by rfl) (by rfl)) (aF _)) (@ak _ _ _ (@aN _ _ _ _ jd)) aV) (@ak _ _ _ (@bw _ _ _ _ _ _ _ _ (@kZ _ _ _ _ (@cO _ _ _ (@aE _ _ _ _ _ _ _ _ _ _ _ F_right hr (by decide) rfl (@aa _ _ _ _ _ (pv 3) (@aa _ _ _ _ _ (pv 4) (@aa _ _ _ _ _ (pv 9) af (by rfl)) (by rfl)) (by rfl)) (by decide) (by rfl) (by rfl)) (fun _=>rfl))) (@ak _ _ _ (@aN _ _ _ _ jd)) aV))) (by intro _ ;rfl)) (@ag _ _ _ _ _ (@ay _ _ (10) _ _ _ _ sc.nd rfl (Or.inl rfl) (@aE _ _ _ _ _ _ _ _ _ _ _ F_next hr (by decide) rfl (@aa _ _ _ _ _ (pv 1) (@aa _ _ _ _ _ (pv 4) (@aa _ _ _ _ _ (@aW _ _ _ _ _ _ _ cD (pv 7) ai (fun _ _=>rfl)) af (by rfl)) (by rfl)) (by rfl)) (by decide) (by rfl) (by rfl)) (by rfl) (by first | exact .inl rfl | exact .inr rfl | assumption)) (@ak _ _ _ (@bw _ _ _ _ _ _ _ _ (@PW.pt _ _ _ (@kh _ _ _ _ _ _ _ (@aC _ _ _ _ _ _ _ _ fX (@aq _ _ _ _ _ _ _ _ _ bR (by rfl) T.repr dR (@aa _ _ _ _ _ (@aE _ _ _ _ _ _ _ _ _ _ _ F_shortens hr (by decide) rfl (@aa _ _ _ _ _ (pv 10) af (by rfl)) (by decide) (by rfl) (by rfl)) af (by rfl)) (by decide) (by decide) (by rfl) (by rfl)) (@aq _ _ _ _ _ _ _ _ _ bR (by rfl) T.repr dR (@aa _ _ _ _ _ (@aE _ _ _ _ _ _ _ _ _ _ _ F_lshortens hr (by decide) rfl (@aa _ _ _ _ _ (pv 10) af (by rfl)) (by decide) (by rfl) (by rfl)) af (by rfl)) (by decide) (by decide) (by rfl) (by rfl)) (aF _)) (@jg _ _ _ _ (@aC _ _ _ _ _ _ _ _ fX (@aq _ _ _ _ _ _ _ _ _ (@bY _ (by exact hr.gd) (by exact hr.units)) (by rfl) T.repr dR (@aa _ _ _ _ _ (@aE _ _ _ _ _ _ _ _ _ _ _ F_halves hr (by decide) rfl (@aa _ _ _ _ _ (pv 3) af (by rfl)) (by decide) (by rfl) (by rfl)) af (by rfl)) (by decide) (by decide) (by rfl) (by rfl)) (@aq _ _ _ _ _ _ _ _ _ (@bY _ (by exact hr.gd) (by exact hr.units)) (by rfl) T.repr dR (@aa _ _ _ _ _ (pv 5) af (by rfl)) (by decide) (by decide) (by rfl) (by rfl)) (aF _))))) (@ak _ _ _ (@aN _ _ _ _ jd)) aV)))))))))))) (by intro _ ;rfl)) (@ak _ _ _ (@aN _ _ _ _ jd)))),?_⟩
  refine ⟨_,rfl,a,ns,rfl,hS,hlen,fun d G0 _ F0 _=>?_⟩
  refine ⟨_,rfl,by decide,by decide,cG (lo:=0) (n:=4) (fun i σ H'=>∃ (b2 b3 b4 b5 b6 b7 b8 b9 b10:Option V),σ = [some (.ref a),some (.ref d),b2,b3,b4,b5,b6,b7,b8,b9,b10]∧Fd H' d) ⟨none,none,none,none,none,none,none,none,none,rfl,F0⟩ ?_ ?_⟩
  rotate_left
  ·rintro σ H1 ⟨b2,b3,b4,b5,b6,b7,b8,b9,b10,rfl,F1⟩
   exact k H1
  rintro i σ H1 hi ⟨b2,b3,b4,b5,b6,b7,b8,b9,b10,rfl,F1⟩
  refine xh (fun σ2 H2=>∃ (q:Addr) (R:List (List L)),σ2=[some (.ref a),some (.ref d),some (.int (0+(i:Int))),some (.ref q),b4,b5,b6,b7,b8,b9,b10]∧Rgs R∧H2 q=some (.tup (R.map tx))∧Fd H2 d) (fun D' nx=>?_) ?_
  ·refine ⟨_,rfl,d,_,rfl,F1,by decide,by decide,fun r H2 r0 r1 F2 sb2=>⟨rfl,_,rfl,kd (fun _=>?_) (fun _=>?_)⟩⟩
   ·exact ⟨_,rfl,d,rfl,F2,fun q R H3 hR h40 hR6 hq F3 sb3=>nx _ _ ⟨q,R,rfl,hR,hq,F3⟩⟩
   ·exact ⟨_,rfl,d,10,rfl,F2,by decide,fun q R H3 hR h40 hR6 hq F3 sb3=>nx _ _ ⟨q,R,rfl,hR,hq,F3⟩⟩
  rintro σ H2 ⟨q,R,rfl,hR,q2,F2⟩
  refine ⟨_,rfl,q,R,rfl,.inl q2,hR,fun l W H3 hl oW mW l3 s3=>?_⟩
  have tn:Tn R W:=⟨oW,mW⟩
  have tl:=tn.len hR
  have F3:=F2.same s3
  have q3:=s3 _ _ q2
  have ww:∀ u∈W,1≤u.length∧u.length≤90:=fun u hu=>by
   obtain ⟨h1,h2⟩:=tn.word hR hu
   exact ⟨A6.mpr h1,h2⟩
  refine ⟨_,rfl,l,W,rfl,l3,by omega,ww,fun l2 V H4 hl2 oV mV f4 s4=>?_⟩
  have F4:=F3.same s4
  have q4:=s4 _ _ q3
  have l4:=s4 _ _ l3
  refine ⟨_,rfl,q,R,rfl,q4,hR,fun l5 V2 W2 H5 hl5 tn2 oV2 mV2 f5 s5=>?_⟩
  obtain rfl:W2=W:=tn2.one tn
  obtain rfl:V2=V:=kA oV2 oV fun x=>(mV2 x).trans (mV x).symm
  have vl:∀ u∈V2,u.length≤90:=fun u hu=>by
   obtain ⟨x,hx,rfl⟩:=AU.mp ((mV u).mp hu)
   have:=(ww x hx).2
   unfold hlf
   rw [Aj]
   omega
  have vn:V2.length≤1260:=by
   have h1:=iw oV.nd fun x hx=>(mV x).mp hx
   rw [Ag] at h1
   omega
  have shl:Sh (.list (dws V2)):=wc (n:=90) vl (by have:V2.length*91≤1260*91:=Nat.mul_le_mul vn (Al _);omega)
  refine ⟨_,rfl,l5,_,rfl,.lst f5 (gx _),shl,_,rfl,l2,_,rfl,.lst (s5 _ _ f4) (gx _),shl,rfl,_,rfl,ua rfl ?_⟩
  have nl52:l2≠l5:=au f4 hl5
  have nlq:q≠l5:=au q4 hl5
  have nll:l≠l5:=au l4 hl5
  refine ⟨_,rfl,.inl ⟨rfl,_,SqL.of f5⟩,l5,_,_,rfl,rfl,f5,(by rw [Ag];omega),?_⟩
  have q6:(upd H5 l5 (.lst (V2.map tx++[L2.V.str (Str.ofString "a")]))) q=some (.tup (R.map tx)):=by rw [aD nlq];exact s5 _ _ q4
  have l6:(upd H5 l5 (.lst (V2.map tx++[L2.V.str (Str.ofString "a")]))) l=some (.lst (W2.map tx)):=by rw [aD nll];exact s5 _ _ l4
  have f6:(upd H5 l5 (.lst (V2.map tx++[L2.V.str (Str.ofString "a")]))) l2=some (.lst (V2.map tx)):=by rw [aD nl52];exact s5 _ _ f4
  have s6:aH H4 (upd H5 l5 (.lst (V2.map tx++[L2.V.str (Str.ofString "a")]))):=fun b o e=>by
   rw [aD (au e hl5)]
   exact s5 _ _ e
  have F6:=F4.same s6
  generalize upd H5 l5 (.lst (V2.map tx++[L2.V.str (Str.ofString "a")]))=H6 at q6 l6 f6 F6 ⊢
  clear s6 s5 s4 s3 F4 F3 F2 q4 q3 q2 l4 l3 f4 f5 nl52 nlq nll
  refine ⟨_,rfl,_,rfl,d,q,R,3,rfl,F6,q6,hR,by decide,by decide,fun u1 H7 hu1 F7 sb7=>?_⟩
  have q7:=sb7 _ _ (F6.neT q6) q6
  have l7:=sb7 _ _ (F6.nl l6) l6
  have f7:=sb7 _ _ (F6.nl f6) f6
  refine ⟨_,rfl,d,5,40,rfl,F7,by decide,by decide,by decide,by decide,fun u2 H8 hu2 F8 sb8=>?_⟩
  have q8:=sb8 _ _ (F7.neT q7) q7
  have l8:=sb8 _ _ (F7.nl l7) l7
  have f8:=sb8 _ _ (F7.nl f7) f7
  refine ⟨(aK (n:=2) (by decide)),fun lw hlw=>?_⟩
  have s9:=aH.new (o:=.lst ([u1,u2].map tx)) hlw
  have w9:(upd H8 lw (.lst ([u1,u2].map tx))) lw=some (.lst ([u1,u2].map tx)):=ah
  have nqw:q≠lw:=au q8 hlw
  have nlw:l≠lw:=au l8 hlw
  have nfw:l2≠lw:=au f8 hlw
  have ndw:lw≠d:=(F8.same s9).nl w9
  show iC _ _ _ _ (upd H8 lw (.lst ([u1,u2].map tx)))
  have q9:=s9 _ _ q8
  have l9:=s9 _ _ l8
  have f9:=s9 _ _ f8
  have F9:=F8.same s9
  generalize upd H8 lw (.lst ([u1,u2].map tx))=H9 at s9 w9 q9 l9 f9 F9 ⊢
  clear s9 q8 l8 f8 F8 sb8 q7 l7 f7 F7 sb7 q6 l6 f6 F6 hlw
  have w0:∀ u∈[u1,u2],u.length≤400:=fun u hu=>by
   simp only [Aw,AE,BI] at hu
   rcases hu with rfl | rfl <;> omega
  refine ⟨_,rfl,(aK (n:=1) (by decide)),fun l10 h10=>?_⟩
  have s10:=aH.new (o:=.lst [V.str (Str.ofString "ab")]) h10
  have f10:(upd H9 l10 (.lst [V.str (Str.ofString "ab")])) l10=some (.lst ([[0,1]].map tx)):=by rw [ah,tu];rfl
  generalize upd H9 l10 (.lst [V.str (Str.ofString "ab")])=H10 at s10 f10 ⊢
  refine ⟨l2,l10,_,_,rfl,rfl,s10 _ _ f9,f10,(by rw [Ag,Ag];show _+1≤_;omega),fun l11 h11=>?_⟩
  rw [← AH]
  have s11:=s10.then (o:=.lst ((V2++[[0,1]]).map tx)) h11
  have f11:(upd H10 l11 (.lst ((V2++[[0,1]]).map tx))) l11=some (.lst ((V2++[[0,1]]).map tx)):=ah
  generalize upd H10 l11 (.lst ((V2++[[0,1]]).map tx))=H11 at s11 f11 ⊢
  refine ⟨_,rfl,l11,_,rfl,SqL.of f11,fun l12 h12=>?_⟩
  obtain ⟨U,eU,_,mU⟩:=fQ (V2++[[0,1]]) none (some 6)
  have cU:(jq ((V2++[[0,1]]).map tx) none (some 6)).length≤6:=by unfold jq HT.sIx;rw [Aj];simp;omega
  rw [eU,Ag] at cU
  rw [eU]
  have uU:∀ u∈U,u.length≤90:=fun u hu=>by
   rcases Ax.mp (mU u hu) with h | h
   ·exact vl u h
   ·rw [Af.mp h];decide
  have s12:=s11.then (o:=.lst (U.map tx)) h12
  have f12:(upd H11 l12 (.lst (U.map tx))) l12=some (.lst (U.map tx)):=ah
  have n12:l12≠lw:=fun e=>by rw [e,s11 _ _ w9] at h12;cases h12
  have q12:=s12 _ _ q9
  have l12':=s12 _ _ l9
  have e12:=s12 _ _ f9
  have w12:=s12 _ _ w9
  have F12:=F9.same s12
  generalize upd H11 l12 (.lst (U.map tx))=H12 at s12 f12 q12 l12' e12 w12 F12 ⊢
  clear s12 s11 s10 f10 f11 h10 h11 h12 eU mU q9 l9 f9 w9 F9
  refine ⟨l12,rfl,⟨_,SqL.of f12⟩,?_⟩
  refine cy (xs:=U.map tx) (fun j σ H'=>∃ (b8 b9:Option V) (Z:List (List L)),σ = [some (.ref a),some (.ref d),some (.int (0+(i:Int))),some (.ref q),some (.ref l),some (.ref l2),some (.ref l5),some (.ref lw),b8,b9,b10]∧H' lw=some (.lst (Z.map tx))∧(∀ u∈Z,u.length≤400)∧Z.length=2+j∧H' q=some (.tup (R.map tx))∧H' l=some (.lst (W2.map tx))∧H' l2=some (.lst (V2.map tx))∧H' l12=some (.lst (U.map tx))∧Fd H' d) ⟨_,_,[u1,u2],rfl,w12,w0,rfl,q12,l12',e12,f12,F12⟩ (fun i σ H' _ ⟨_,_,_,_,_,_,_,_,_,_,q,_⟩=>SqL.of q) ?_ ?_
  ·rintro j x σ HA hx ⟨b8,b9,Z,rfl,wA,wZ,zl,qA,lA,eA,fA,FA⟩
   rw [Ap] at hx
   obtain ⟨h,hh,rfl⟩:=Bf.mp hx
   have hl90:=uU h (AG hh)
   have hj6:=(Ah.mp hh).1
   have lh:=ae h
   refine ⟨_,rfl,d,5,8,rfl,FA,by decide,by decide,by decide,by decide,fun x1 HB hx1 _ FB sbB=>?_⟩
   have hx1:x1.length≤8:=hx1
   have wB:=sbB _ _ (FA.nl wA) wA
   have qB:=sbB _ _ (FA.neT qA) qA
   have lB:=sbB _ _ (FA.nl lA) lA
   have eB:=sbB _ _ (FA.nl eA) eA
   have fB:=sbB _ _ (FA.nl fA) fA
   refine ⟨x1,rfl,by omega,fun HC sC=>?_⟩
   have rl:(red x1).length≤8:=Ck (ib x1) hx1
   have FC:=FB.same sC
   refine ⟨_,rfl,.inl ⟨rfl,_,SqL.of (sC _ _ wB)⟩,_,rfl,_,rfl,_,rfl,d,_,rfl,FC,by decide,by decide,fun r HD r0 r1 FD sbD=>?_⟩
   have wD:=sbD _ _ (FC.nl (sC _ _ wB)) (sC _ _ wB)
   have qD:=sbD _ _ (FC.neT (sC _ _ qB)) (sC _ _ qB)
   have lD:=sbD _ _ (FC.nl (sC _ _ lB)) (sC _ _ lB)
   have eD:=sbD _ _ (FC.nl (sC _ _ eB)) (sC _ _ eB)
   have fD:=sbD _ _ (FC.nl (sC _ _ fB)) (sC _ _ fB)
   have lr:=ae (red x1)
   refine ⟨_,rfl,toS h,rfl,by omega,?_⟩
   rw [ao]
   have cl:=bQ h (some r) none
   generalize cutL h (some r) none=h2 at cl ⊢
   have lh2:=ae h2
   refine ⟨_,_,rfl,rfl,by omega,?_⟩
   rw [aX]
   refine ⟨_,rfl,d,5,4,rfl,FD,by decide,by decide,by decide,by decide,fun x2 HE hx2 _ FE sbE=>?_⟩
   have hx2:x2.length≤4:=hx2
   have lx2:=ae x2
   have l3:=ae (red x1++h2)
   rw [Ad] at l3
   have wE:=sbE _ _ (FD.nl wD) wD
   have qE:=sbE _ _ (FD.neT qD) qD
   have lE:=sbE _ _ (FD.nl lD) lD
   have eE:=sbE _ _ (FD.nl eD) eD
   have fE:=sbE _ _ (FD.nl fD) fD
   refine ⟨_,_,rfl,rfl,by omega,?_⟩
   rw [aX]
   refine ⟨lw,_,_,rfl,rfl,wE,(by rw [Ag];omega),?_⟩
   refine ⟨_,_,Z++[red x1++h2++x2],rfl,by rw [ah,AH];rfl,fun u hu=>?_,by rw [Ad,zl];simp;omega,by rw [aD nqw];exact qE,by rw [aD nlw];exact lE,by rw [aD nfw];exact eE,by rw [aD n12];exact fE,vp FE wE ndw⟩
   rcases Ax.mp hu with h' | h'
   ·exact wZ u h'
   ·rw [Af.mp h',Ad,Ad]
    omega
  ·rintro σ HA ⟨b8,b9,Z,rfl,wA,wZ,zl,qA,lA,eA,fA,FA⟩
   refine ⟨_,rfl,lw,rfl,⟨_,SqL.of wA⟩,?_⟩
   refine cy (xs:=Z.map tx) (fun j σ H'=>∃ (b9:Option V),σ = [some (.ref a),some (.ref d),some (.int (0+(i:Int))),some (.ref q),some (.ref l),some (.ref l2),some (.ref l5),some (.ref lw),b8,b9,b10]∧aH HA H') ⟨_,rfl,aH.refl _⟩ (fun i σ H' _ ⟨_,_,s⟩=>SqL.of (s _ _ wA)) ?_ ?_
   ·rintro j x σ HB hx ⟨b9,rfl,sB⟩
    rw [Ap] at hx
    obtain ⟨v,hv,rfl⟩:=Bf.mp hx
    have v400:=wZ v (AG hv)
    refine ⟨_,rfl,_,rfl,q,R,W2,v,rfl,sB _ _ qA,hR,tn,by omega,fun b1 HC hb1 sC=>⟨b1,rfl,?_⟩⟩
    refine ⟨_,rfl,_,rfl,l,W2,v,rfl,sC _ _ (sB _ _ lA),by omega,ww,by omega,fun b2 HD hb2 sD=>⟨b2,rfl,rfl,_,rfl,?_⟩⟩
    obtain rfl:b2=b1:=by
     rw [DW,hb1,hb2]
    refine ua rfl ?_
    have sE:=sC.trans sD
    refine ⟨_,rfl,_,rfl,_,rfl,q,l,R,W2,v,rfl,sE _ _ (sB _ _ qA),hR,sE _ _ (sB _ _ lA),tn,by omega,fun HE sF=>⟨_,rfl,nkT (xu ?_)⟩⟩
    exact ⟨_,rfl,(sB.trans sE).trans sF⟩
   ·rintro σ HB ⟨b9,rfl,sB⟩
    have FB:=FA.same sB
    obtain ⟨v0,Z',rfl⟩:∃ v0 Z',Z=v0::Z':=by
     cases Z with
     | nil=>simp at zl;omega
     | cons v0 Z'=>exact ⟨v0,Z',rfl⟩
    have v0l:=wZ v0 Av
    refine ⟨_,rfl,_,rfl,_,rfl,lw,_,_,_,rfl,rfl,SqL.of (sB _ _ wA),at0 _ _,d,l,W2,v0,rfl,FB,sB _ _ lA,by omega,fun u hu=>(by have:=ww u hu;omega),by omega,fun st p HC hs pC FC sbC=>?_⟩
    have qC:=sbC _ _ (FB.neT (sB _ _ qA)) (sB _ _ qA)
    have eC:=sbC _ _ (FB.nl (sB _ _ eA)) (sB _ _ eA)
    refine ⟨_,rfl,p,st,rfl,pC,hs,fun HD sD=>⟨_,rfl,?_⟩⟩
    refine ⟨_,rfl,p,st,rfl,sD _ _ pC,hs,fun HE sE=>⟨_,rfl,rfl,_,rfl,?_⟩⟩
    have s2:=sD.trans sE
    rw [show (!decide (V.str (if xx st=true then Str.ofString "True" else Str.ofString "False")=V.str (if xx st=true then Str.ofString "True" else Str.ofString "False")))=false by simp]
    refine xv ⟨_,rfl,q,R,rfl,s2 _ _ qC,hR,fun l6 V3 W3 HF hl6 tn3 oV3 mV3 f6 sF=>?_⟩
    obtain rfl:W3=W2:=tn3.one tn
    obtain rfl:V3=V2:=kA oV3 oV fun x=>(mV3 x).trans (mV x).symm
    refine ⟨l6,_,rfl,.lst f6 (gx _),shl,_,rfl,l2,_,rfl,.lst (sF _ _ (s2 _ _ eC)) (gx _),shl,rfl,_,rfl,ua rfl ?_⟩
    exact ⟨_,_,_,_,_,_,_,_,_,rfl,FC.same (s2.trans sF)⟩
end
theorem bx {K:PySem.W.Frag}{h:Heap}{mg:Str→Option Value}{x:Str}{st:Stmt}{f:Addr}{oc:Value}{od an:Option Addr}{osl:Array (Option Value)}{kV doc pm cdv ct:Value}(X:K.In h)(G:h.Ns mainGlobals mg)(a:PySem.W.nsIn K mainGlobals x=some (some (.ref f)))
  (l:K.lookup f=some ⟨oc,od,.func (PySem.W.fnOf x x (aO st) (aM st) (aj st) .none kV doc pm an cdv ct),osl⟩) (c:PySem.W.codeIn K cdv x=true) (k:PySem.W.keepIn K (.ref f)=true):Df K mg x st:=⟨f,_,D_ X G a,sT l c k⟩
theorem xi {l:PySem.W.OpenLaw}{w:World}{K:PySem.W.Frag}{h:Heap}{mg:Str→Option Value}{fa:Addr}(X:K.In h)(G:h.Ns mainGlobals mg)(hfa:mg "law" = some (.ref fa))
  {f0:Addr} {od0 an0:Option Addr} {sl0:Array (Option Value)} {oc0 kV0 dc0 pm0 cd0 ct0:Value} {f1:Addr} {od1 an1:Option Addr} {sl1:Array (Option Value)} {oc1 kV1 dc1 pm1 cd1 ct1:Value} {f2:Addr} {od2 an2:Option Addr} {sl2:Array (Option Value)} {oc2 kV2 dc2 pm2 cd2 ct2:Value} {f3:Addr} {od3 an3:Option Addr} {sl3:Array (Option Value)} {oc3 kV3 dc3 pm3 cd3 ct3:Value} {f4:Addr} {od4 an4:Option Addr} {sl4:Array (Option Value)} {oc4 kV4 dc4 pm4 cd4 ct4:Value} {f5:Addr} {od5 an5:Option Addr} {sl5:Array (Option Value)} {oc5 kV5 dc5 pm5 cd5 ct5:Value} {f6:Addr} {od6 an6:Option Addr} {sl6:Array (Option Value)} {oc6 kV6 dc6 pm6 cd6 ct6:Value} {f7:Addr} {od7 an7:Option Addr} {sl7:Array (Option Value)} {oc7 kV7 dc7 pm7 cd7 ct7:Value} {f8:Addr} {od8 an8:Option Addr} {sl8:Array (Option Value)} {oc8 kV8 dc8 pm8 cd8 ct8:Value} {f9:Addr} {od9 an9:Option Addr} {sl9:Array (Option Value)} {oc9 kV9 dc9 pm9 cd9 ct9:Value} {f10:Addr} {od10 an10:Option Addr} {sl10:Array (Option Value)} {oc10 kV10 dc10 pm10 cd10 ct10:Value} {f11:Addr} {od11 an11:Option Addr} {sl11:Array (Option Value)} {oc11 kV11 dc11 pm11 cd11 ct11:Value} {f12:Addr} {od12 an12:Option Addr} {sl12:Array (Option Value)} {oc12 kV12 dc12 pm12 cd12 ct12:Value} {f13:Addr} {od13 an13:Option Addr} {sl13:Array (Option Value)} {oc13 kV13 dc13 pm13 cd13 ct13:Value} {f14:Addr} {od14 an14:Option Addr} {sl14:Array (Option Value)} {oc14 kV14 dc14 pm14 cd14 ct14:Value} {f15:Addr} {od15 an15:Option Addr} {sl15:Array (Option Value)} {oc15 kV15 dc15 pm15 cd15 ct15:Value} {f16:Addr} {od16 an16:Option Addr} {sl16:Array (Option Value)} {oc16 kV16 dc16 pm16 cd16 ct16:Value} {f17:Addr} {od17 an17:Option Addr} {sl17:Array (Option Value)} {oc17 kV17 dc17 pm17 cd17 ct17:Value} {f18:Addr} {od18 an18:Option Addr} {sl18:Array (Option Value)} {oc18 kV18 dc18 pm18 cd18 ct18:Value} {f19:Addr} {od19 an19:Option Addr} {sl19:Array (Option Value)} {oc19 kV19 dc19 pm19 cd19 ct19:Value} {f20:Addr} {od20 an20:Option Addr} {sl20:Array (Option Value)} {oc20 kV20 dc20 pm20 cd20 ct20:Value} {f21:Addr} {od21 an21:Option Addr} {sl21:Array (Option Value)} {oc21 kV21 dc21 pm21 cd21 ct21:Value} {f22:Addr} {od22 an22:Option Addr} {sl22:Array (Option Value)} {oc22 kV22 dc22 pm22 cd22 ct22:Value} {f23:Addr} {od23 an23:Option Addr} {sl23:Array (Option Value)} {oc23 kV23 dc23 pm23 cd23 ct23:Value} {f24:Addr} {od24 an24:Option Addr} {sl24:Array (Option Value)} {oc24 kV24 dc24 pm24 cd24 ct24:Value} {f25:Addr} {od25 an25:Option Addr} {sl25:Array (Option Value)} {oc25 kV25 dc25 pm25 cd25 ct25:Value} {f26:Addr} {od26 an26:Option Addr} {sl26:Array (Option Value)} {oc26 kV26 dc26 pm26 cd26 ct26:Value} {f27:Addr} {od27 an27:Option Addr} {sl27:Array (Option Value)} {oc27 kV27 dc27 pm27 cd27 ct27:Value} {f28:Addr} {od28 an28:Option Addr} {sl28:Array (Option Value)} {oc28 kV28 dc28 pm28 cd28 ct28:Value} {f29:Addr} {od29 an29:Option Addr} {sl29:Array (Option Value)} {oc29 kV29 dc29 pm29 cd29 ct29:Value} {f30:Addr} {od30 an30:Option Addr} {sl30:Array (Option Value)} {oc30 kV30 dc30 pm30 cd30 ct30:Value} {f31:Addr} {od31 an31:Option Addr} {sl31:Array (Option Value)} {oc31 kV31 dc31 pm31 cd31 ct31:Value} {f32:Addr} {od32 an32:Option Addr} {sl32:Array (Option Value)} {oc32 kV32 dc32 pm32 cd32 ct32:Value} {f33:Addr} {od33 an33:Option Addr} {sl33:Array (Option Value)} {oc33 kV33 dc33 pm33 cd33 ct33:Value} {aB:Addr} {es:Array DictEntry} {en:Nat}    {t0 t1 t2 t3 t4 t5 t6 t7 t8 t9 t10 t11:Tok}
  (a0:PySem.W.nsIn K mainGlobals "back" = some (some (.ref f0)))
  (l0:K.lookup f0=some ⟨oc0,od0,.func (PySem.W.fnOf "back" "back" (aO j4) (aM j4) (aj j4) .none kV0 dc0 pm0 an0 cd0 ct0),sl0⟩)
  (c0:PySem.W.codeIn K cd0 "back" = true)
  (k0:PySem.W.keepIn K (.ref f0)=true)
  (a1:PySem.W.nsIn K mainGlobals "is_reduced" = some (some (.ref f1)))
  (l1:K.lookup f1=some ⟨oc1,od1,.func (PySem.W.fnOf "is_reduced" "is_reduced" (aO gK) (aM gK) (aj gK) .none kV1 dc1 pm1 an1 cd1 ct1),sl1⟩)
  (c1:PySem.W.codeIn K cd1 "is_reduced" = true)
  (k1:PySem.W.keepIn K (.ref f1)=true)
  (a2:PySem.W.nsIn K mainGlobals "turns" = some (some (.ref f2)))
  (l2:K.lookup f2=some ⟨oc2,od2,.func (PySem.W.fnOf "turns" "turns" (aO gJ) (aM gJ) (aj gJ) .none kV2 dc2 pm2 an2 cd2 ct2),sl2⟩)
  (c2:PySem.W.codeIn K cd2 "turns" = true)
  (k2:PySem.W.keepIn K (.ref f2)=true)
  (a3:PySem.W.nsIn K mainGlobals "turns_of" = some (some (.ref f3)))
  (l3:K.lookup f3=some ⟨oc3,od3,.func (PySem.W.fnOf "turns_of" "turns_of" (aO pZ) (aM pZ) (aj pZ) .none kV3 dc3 pm3 an3 cd3 ct3),sl3⟩)
  (c3:PySem.W.codeIn K cd3 "turns_of" = true)
  (k3:PySem.W.keepIn K (.ref f3)=true)
  (a4:PySem.W.nsIn K mainGlobals "beginning" = some (some (.ref f4)))
  (l4:K.lookup f4=some ⟨oc4,od4,.func (PySem.W.fnOf "beginning" "beginning" (aO p9) (aM p9) (aj p9) .none kV4 dc4 pm4 an4 cd4 ct4),sl4⟩)
  (c4:PySem.W.codeIn K cd4 "beginning" = true)
  (k4:PySem.W.keepIn K (.ref f4)=true)
  (a5:PySem.W.nsIn K mainGlobals "is_out" = some (some (.ref f5)))
  (l5:K.lookup f5=some ⟨oc5,od5,.func (PySem.W.fnOf "is_out" "is_out" (aO gP) (aM gP) (aj gP) .none kV5 dc5 pm5 an5 cd5 ct5),sl5⟩)
  (c5:PySem.W.codeIn K cd5 "is_out" = true)
  (k5:PySem.W.keepIn K (.ref f5)=true)
  (a6:PySem.W.nsIn K mainGlobals "changed" = some (some (.ref f6)))
  (l6:K.lookup f6=some ⟨oc6,od6,.func (PySem.W.fnOf "changed" "changed" (aO qf) (aM qf) (aj qf) .none kV6 dc6 pm6 an6 cd6 ct6),sl6⟩)
  (c6:PySem.W.codeIn K cd6 "changed" = true)
  (k6:PySem.W.keepIn K (.ref f6)=true)
  (a7:PySem.W.nsIn K mainGlobals "shortens" = some (some (.ref f7)))
  (l7:K.lookup f7=some ⟨oc7,od7,.func (PySem.W.fnOf "shortens" "shortens" (aO cL) (aM cL) (aj cL) .none kV7 dc7 pm7 an7 cd7 ct7),sl7⟩)
  (c7:PySem.W.codeIn K cd7 "shortens" = true)
  (k7:PySem.W.keepIn K (.ref f7)=true)
  (a8:PySem.W.nsIn K mainGlobals "is_short" = some (some (.ref f8)))
  (l8:K.lookup f8=some ⟨oc8,od8,.func (PySem.W.fnOf "is_short" "is_short" (aO dD) (aM dD) (aj dD) .none kV8 dc8 pm8 an8 cd8 ct8),sl8⟩)
  (c8:PySem.W.codeIn K cd8 "is_short" = true)
  (k8:PySem.W.keepIn K (.ref f8)=true)
  (a9:PySem.W.nsIn K mainGlobals "halves" = some (some (.ref f9)))
  (l9:K.lookup f9=some ⟨oc9,od9,.func (PySem.W.fnOf "halves" "halves" (aO eP) (aM eP) (aj eP) .none kV9 dc9 pm9 an9 cd9 ct9),sl9⟩)
  (c9:PySem.W.codeIn K cd9 "halves" = true)
  (k9:PySem.W.keepIn K (.ref f9)=true)
  (a10:PySem.W.nsIn K mainGlobals "half_of" = some (some (.ref f10)))
  (l10:K.lookup f10=some ⟨oc10,od10,.func (PySem.W.fnOf "half_of" "half_of" (aO j_) (aM j_) (aj j_) .none kV10 dc10 pm10 an10 cd10 ct10),sl10⟩)
  (c10:PySem.W.codeIn K cd10 "half_of" = true)
  (k10:PySem.W.keepIn K (.ref f10)=true)
  (a11:PySem.W.nsIn K mainGlobals "shortened" = some (some (.ref f11)))
  (l11:K.lookup f11=some ⟨oc11,od11,.func (PySem.W.fnOf "shortened" "shortened" (aO gR) (aM gR) (aj gR) .none kV11 dc11 pm11 an11 cd11 ct11),sl11⟩)
  (c11:PySem.W.codeIn K cd11 "shortened" = true)
  (k11:PySem.W.keepIn K (.ref f11)=true)
  (a12:PySem.W.nsIn K mainGlobals "turns_by_half" = some (some (.ref f12)))
  (l12:K.lookup f12=some ⟨oc12,od12,.func (PySem.W.fnOf "turns_by_half" "turns_by_half" (aO qg) (aM qg) (aj qg) .none kV12 dc12 pm12 an12 cd12 ct12),sl12⟩)
  (c12:PySem.W.codeIn K cd12 "turns_by_half" = true)
  (k12:PySem.W.keepIn K (.ref f12)=true)
  (a13:PySem.W.nsIn K mainGlobals "shortening_at" = some (some (.ref f13)))
  (l13:K.lookup f13=some ⟨oc13,od13,.func (PySem.W.fnOf "shortening_at" "shortening_at" (aO qi) (aM qi) (aj qi) .none kV13 dc13 pm13 an13 cd13 ct13),sl13⟩)
  (c13:PySem.W.codeIn K cd13 "shortening_at" = true)
  (k13:PySem.W.keepIn K (.ref f13)=true)
  (a14:PySem.W.nsIn K mainGlobals "_law_feed" = some (some (.ref f14)))
  (l14:K.lookup f14=some ⟨oc14,od14,.func (PySem.W.fnOf "_law_feed" "_law_feed" (aO j3) (aM j3) (aj j3) .none kV14 dc14 pm14 an14 cd14 ct14),sl14⟩)
  (c14:PySem.W.codeIn K cd14 "_law_feed" = true)
  (k14:PySem.W.keepIn K (.ref f14)=true)
  (a15:PySem.W.nsIn K mainGlobals "_law_draw" = some (some (.ref f15)))
  (l15:K.lookup f15=some ⟨oc15,od15,.func (PySem.W.fnOf "_law_draw" "_law_draw" (aO j0) (aM j0) (aj j0) .none kV15 dc15 pm15 an15 cd15 ct15),sl15⟩)
  (c15:PySem.W.codeIn K cd15 "_law_draw" = true)
  (k15:PySem.W.keepIn K (.ref f15)=true)
  (a16:PySem.W.nsIn K mainGlobals "_law_back" = some (some (.ref f16)))
  (l16:K.lookup f16=some ⟨oc16,od16,.func (PySem.W.fnOf "_law_back" "_law_back" (aO gL) (aM gL) (aj gL) .none kV16 dc16 pm16 an16 cd16 ct16),sl16⟩)
  (c16:PySem.W.codeIn K cd16 "_law_back" = true)
  (k16:PySem.W.keepIn K (.ref f16)=true)
  (a17:PySem.W.nsIn K mainGlobals "_law_reduced" = some (some (.ref f17)))
  (l17:K.lookup f17=some ⟨oc17,od17,.func (PySem.W.fnOf "_law_reduced" "_law_reduced" (aO j5) (aM j5) (aj j5) .none kV17 dc17 pm17 an17 cd17 ct17),sl17⟩)
  (c17:PySem.W.codeIn K cd17 "_law_reduced" = true)
  (k17:PySem.W.keepIn K (.ref f17)=true)
  (a18:PySem.W.nsIn K mainGlobals "_law_some" = some (some (.ref f18)))
  (l18:K.lookup f18=some ⟨oc18,od18,.func (PySem.W.fnOf "_law_some" "_law_some" (aO j6) (aM j6) (aj j6) .none kV18 dc18 pm18 an18 cd18 ct18),sl18⟩)
  (c18:PySem.W.codeIn K cd18 "_law_some" = true)
  (k18:PySem.W.keepIn K (.ref f18)=true)
  (a19:PySem.W.nsIn K mainGlobals "_law_drawn" = some (some (.ref f19)))
  (l19:K.lookup f19=some ⟨oc19,od19,.func (PySem.W.fnOf "_law_drawn" "_law_drawn" (aO gM) (aM gM) (aj gM) .none kV19 dc19 pm19 an19 cd19 ct19),sl19⟩)
  (c19:PySem.W.codeIn K cd19 "_law_drawn" = true)
  (k19:PySem.W.keepIn K (.ref f19)=true)
  (a20:PySem.W.nsIn K mainGlobals "_law_middle" = some (some (.ref f20)))
  (l20:K.lookup f20=some ⟨oc20,od20,.func (PySem.W.fnOf "_law_middle" "_law_middle" (aO p_) (aM p_) (aj p_) .none kV20 dc20 pm20 an20 cd20 ct20),sl20⟩)
  (c20:PySem.W.codeIn K cd20 "_law_middle" = true)
  (k20:PySem.W.keepIn K (.ref f20)=true)
  (a21:PySem.W.nsIn K mainGlobals "_law_turns_of" = some (some (.ref f21)))
  (l21:K.lookup f21=some ⟨oc21,od21,.func (PySem.W.fnOf "_law_turns_of" "_law_turns_of" (aO j7) (aM j7) (aj j7) .none kV21 dc21 pm21 an21 cd21 ct21),sl21⟩)
  (c21:PySem.W.codeIn K cd21 "_law_turns_of" = true)
  (k21:PySem.W.keepIn K (.ref f21)=true)
  (a22:PySem.W.nsIn K mainGlobals "_law_share" = some (some (.ref f22)))
  (l22:K.lookup f22=some ⟨oc22,od22,.func (PySem.W.fnOf "_law_share" "_law_share" (aO qa) (aM qa) (aj qa) .none kV22 dc22 pm22 an22 cd22 ct22),sl22⟩)
  (c22:PySem.W.codeIn K cd22 "_law_share" = true)
  (k22:PySem.W.keepIn K (.ref f22)=true)
  (a23:PySem.W.nsIn K mainGlobals "_law_thick" = some (some (.ref f23)))
  (l23:K.lookup f23=some ⟨oc23,od23,.func (PySem.W.fnOf "_law_thick" "_law_thick" (aO eN) (aM eN) (aj eN) .none kV23 dc23 pm23 an23 cd23 ct23),sl23⟩)
  (c23:PySem.W.codeIn K cd23 "_law_thick" = true)
  (k23:PySem.W.keepIn K (.ref f23)=true)
  (a24:PySem.W.nsIn K mainGlobals "_law_thin" = some (some (.ref f24)))
  (l24:K.lookup f24=some ⟨oc24,od24,.func (PySem.W.fnOf "_law_thin" "_law_thin" (aO gN) (aM gN) (aj gN) .none kV24 dc24 pm24 an24 cd24 ct24),sl24⟩)
  (c24:PySem.W.codeIn K cd24 "_law_thin" = true)
  (k24:PySem.W.keepIn K (.ref f24)=true)
  (a25:PySem.W.nsIn K mainGlobals "_law_rings" = some (some (.ref f25)))
  (l25:K.lookup f25=some ⟨oc25,od25,.func (PySem.W.fnOf "_law_rings" "_law_rings" (aO eO) (aM eO) (aj eO) .none kV25 dc25 pm25 an25 cd25 ct25),sl25⟩)
  (c25:PySem.W.codeIn K cd25 "_law_rings" = true)
  (k25:PySem.W.keepIn K (.ref f25)=true)
  (a26:PySem.W.nsIn K mainGlobals "_law_made" = some (some (.ref f26)))
  (l26:K.lookup f26=some ⟨oc26,od26,.func (PySem.W.fnOf "_law_made" "_law_made" (aO j8) (aM j8) (aj j8) .none kV26 dc26 pm26 an26 cd26 ct26),sl26⟩)
  (c26:PySem.W.codeIn K cd26 "_law_made" = true)
  (k26:PySem.W.keepIn K (.ref f26)=true)
  (a27:PySem.W.nsIn K mainGlobals "_law_done" = some (some (.ref f27)))
  (l27:K.lookup f27=some ⟨oc27,od27,.func (PySem.W.fnOf "_law_done" "_law_done" (aO gO) (aM gO) (aj gO) .none kV27 dc27 pm27 an27 cd27 ct27),sl27⟩)
  (c27:PySem.W.codeIn K cd27 "_law_done" = true)
  (k27:PySem.W.keepIn K (.ref f27)=true)
  (a28:PySem.W.nsIn K mainGlobals "_law_next" = some (some (.ref f28)))
  (l28:K.lookup f28=some ⟨oc28,od28,.func (PySem.W.fnOf "_law_next" "_law_next" (aO j9) (aM j9) (aj j9) .none kV28 dc28 pm28 an28 cd28 ct28),sl28⟩)
  (c28:PySem.W.codeIn K cd28 "_law_next" = true)
  (k28:PySem.W.keepIn K (.ref f28)=true)
  (a29:PySem.W.nsIn K mainGlobals "_law_halves" = some (some (.ref f29)))
  (l29:K.lookup f29=some ⟨oc29,od29,.func (PySem.W.fnOf "_law_halves" "_law_halves" (aO dE) (aM dE) (aj dE) .none kV29 dc29 pm29 an29 cd29 ct29),sl29⟩)
  (c29:PySem.W.codeIn K cd29 "_law_halves" = true)
  (k29:PySem.W.keepIn K (.ref f29)=true)
  (a30:PySem.W.nsIn K mainGlobals "_law_is_short" = some (some (.ref f30)))
  (l30:K.lookup f30=some ⟨oc30,od30,.func (PySem.W.fnOf "_law_is_short" "_law_is_short" (aO eR) (aM eR) (aj eR) .none kV30 dc30 pm30 an30 cd30 ct30),sl30⟩)
  (c30:PySem.W.codeIn K cd30 "_law_is_short" = true)
  (k30:PySem.W.keepIn K (.ref f30)=true)
  (a31:PySem.W.nsIn K mainGlobals "_law_shortens" = some (some (.ref f31)))
  (l31:K.lookup f31=some ⟨oc31,od31,.func (PySem.W.fnOf "_law_shortens" "_law_shortens" (aO cw) (aM cw) (aj cw) .none kV31 dc31 pm31 an31 cd31 ct31),sl31⟩)
  (c31:PySem.W.codeIn K cd31 "_law_shortens" = true)
  (k31:PySem.W.keepIn K (.ref f31)=true)
  (a32:PySem.W.nsIn K mainGlobals "_law_led_right" = some (some (.ref f32)))
  (l32:K.lookup f32=some ⟨oc32,od32,.func (PySem.W.fnOf "_law_led_right" "_law_led_right" (aO gU) (aM gU) (aj gU) .none kV32 dc32 pm32 an32 cd32 ct32),sl32⟩)
  (c32:PySem.W.codeIn K cd32 "_law_led_right" = true)
  (k32:PySem.W.keepIn K (.ref f32)=true)
  (a33:PySem.W.nsIn K mainGlobals "law" = some (some (.ref f33)))
  (l33:K.lookup f33=some ⟨oc33,od33,.func (PySem.W.fnOf "law" "law" (aO kc) (aM kc) (aj kc) .none kV33 dc33 pm33 an33 cd33 ct33),sl33⟩)
  (c33:PySem.W.codeIn K cd33 "law" = true)
  (k33:PySem.W.keepIn K (.ref f33)=true)
  (z_len:PySem.W.nsIn K mainGlobals "len" = some none)
  (z_repr:PySem.W.nsIn K mainGlobals "repr" = some none)
  (z_abs:PySem.W.nsIn K mainGlobals "abs" = some none)
  (z_max:PySem.W.nsIn K mainGlobals "max" = some none)
  (z_int:PySem.W.nsIn K mainGlobals "int" = some none)
  (z_list:PySem.W.nsIn K mainGlobals "list" = some none)
  (z_range:PySem.W.nsIn K mainGlobals "range" = some none)
  (z_reversed:PySem.W.nsIn K mainGlobals "reversed" = some none)
  (z_min:PySem.W.nsIn K mainGlobals "min" = some none)
  (z_sorted:PySem.W.nsIn K mainGlobals "sorted" = some none)
  (z_tuple:PySem.W.nsIn K mainGlobals "tuple" = some none)
  (z_isinstance:PySem.W.nsIn K mainGlobals "isinstance" = some none)
  (z_all:PySem.W.nsIn K mainGlobals "all" = some none)
  (z_str:PySem.W.nsIn K mainGlobals "str" = some none)
  (z_zip:PySem.W.nsIn K mainGlobals "zip" = some none)
  (aBk:PySem.W.nsIn K mainGlobals "BACKS" = some (some (.ref aB)))
  (lB:K.lookup aB=some ⟨.type "dict",none,.dict es en,#[]⟩)
  (kB:PySem.W.KeysLit w.params es.toList)
  (zE:PySem.W.nsIn K mainGlobals "enumerate" = some none)
  (zS:PySem.W.nsIn K mainGlobals "set" = some none)
  (zA:PySem.W.nsIn K mainGlobals "any" = some none)
  (gl0:PySem.W.nsIn K aB "a" = some (some (.str "A" t0)))
  (gl1:PySem.W.nsIn K aB "b" = some (some (.str "B" t1)))
  (gl2:PySem.W.nsIn K aB "c" = some (some (.str "C" t2)))
  (gl3:PySem.W.nsIn K aB "d" = some (some (.str "D" t3)))
  (gl4:PySem.W.nsIn K aB "e" = some (some (.str "E" t4)))
  (gl5:PySem.W.nsIn K aB "f" = some (some (.str "F" t5)))
  (gl6:PySem.W.nsIn K aB "A" = some (some (.str "a" t6)))
  (gl7:PySem.W.nsIn K aB "B" = some (some (.str "b" t7)))
  (gl8:PySem.W.nsIn K aB "C" = some (some (.str "c" t8)))
  (gl9:PySem.W.nsIn K aB "D" = some (some (.str "d" t9)))
  (gl10:PySem.W.nsIn K aB "E" = some (some (.str "e" t10)))
  (gl11:PySem.W.nsIn K aB "F" = some (some (.str "f" t11))) :
  ∃ fd:FuncData,(∀ (s:Shared) (v:Value),BindsTo s fd ⟨[v],[]⟩ [("_law_script",v)])∧∀ base:Heap,K.In base→base.Ns mainGlobals mg→mI l.prog w K mg base CX0 9 fa fd ["_law_script"] (qr K):=by
 have e:=hfa.symm.trans (D_ X G a33)
 cases e
 have gB:∀ x:L,∃ t,PySem.W.nsIn K aB (toS [x])=some (some (.str (toS [inv x]) t)):=by
  have q:∀ (x:L) (u v:Str) (t:Tok),PySem.W.nsIn K aB u=some (some (.str v t))→toS [x]=u→toS [inv x]=v→∃ t,PySem.W.nsIn K aB (toS [x])=some (some (.str (toS [inv x]) t)):=fun x u v t g e1 e2=>⟨t,by rw [e1,e2];exact g⟩
  intro x
  match x with
  | ⟨0,_⟩=>exact q 0 "a" "A" _ gl0 (by decide +kernel) (by decide +kernel)
  | ⟨1,_⟩=>exact q 1 "b" "B" _ gl1 (by decide +kernel) (by decide +kernel)
  | ⟨2,_⟩=>exact q 2 "c" "C" _ gl2 (by decide +kernel) (by decide +kernel)
  | ⟨3,_⟩=>exact q 3 "d" "D" _ gl3 (by decide +kernel) (by decide +kernel)
  | ⟨4,_⟩=>exact q 4 "e" "E" _ gl4 (by decide +kernel) (by decide +kernel)
  | ⟨5,_⟩=>exact q 5 "f" "F" _ gl5 (by decide +kernel) (by decide +kernel)
  | ⟨6,_⟩=>exact q 6 "A" "a" _ gl6 (by decide +kernel) (by decide +kernel)
  | ⟨7,_⟩=>exact q 7 "B" "b" _ gl7 (by decide +kernel) (by decide +kernel)
  | ⟨8,_⟩=>exact q 8 "C" "c" _ gl8 (by decide +kernel) (by decide +kernel)
  | ⟨9,_⟩=>exact q 9 "D" "d" _ gl9 (by decide +kernel) (by decide +kernel)
  | ⟨10,_⟩=>exact q 10 "E" "e" _ gl10 (by decide +kernel) (by decide +kernel)
  | ⟨11,_⟩=>exact q 11 "F" "f" _ gl11 (by decide +kernel) (by decide +kernel)
 have T:Bt K w mg aB:=⟨AR X G z_len,AR X G z_repr,AR X G z_abs,AR X G z_max,AR X G z_int,AR X G z_list,AR X G z_range,AR X G z_reversed,AR X G z_min,AR X G z_sorted,AR X G z_tuple,AR X G z_isinstance,AR X G z_all,AR X G z_str,AR X G z_zip,D_ X G aBk,⟨es,en,lB,kB⟩,gB⟩
 have Te:mg "enumerate" = none:=AR X G zE
 have Tset:mg "set" = none:=AR X G zS
 have Tany:mg "any" = none:=AR X G zA
 refine ⟨PySem.W.fnOf "law" "law" (aO kc) (aM kc) (aj kc) .none kV33 dc33 pm33 an33 cd33 ct33,fun s v=>.of_eq rfl,fun base _ _=>?_⟩
 have F_back:=wJ (P:=l.prog) (w:=w) (base:=base) (bx X G a0 l0 c0 k0) T
 have F_turns:=uV (P:=l.prog) (w:=w) (base:=base) (bx X G a2 l2 c2 k2) T
 have F_tof:=yA (P:=l.prog) (w:=w) (base:=base) (bx X G a3 l3 c3 k3) T Tset F_back F_turns
 have F_beg:=yB (P:=l.prog) (w:=w) (base:=base) (bx X G a4 l4 c4 k4) T Te
 have F_isred:=uW (P:=l.prog) (w:=w) (base:=base) (bx X G a1 l1 c1 k1) T
 have F_isout:=vc (P:=l.prog) (w:=w) (base:=base) (bx X G a5 l5 c5 k5) T F_back
 have F_chg:=yF (P:=l.prog) (w:=w) (base:=base) (bx X G a6 l6 c6 k6) T F_back
 have F_half:=w4 (P:=l.prog) (w:=w) (base:=base) (bx X G a10 l10 c10 k10) T
 have F_tbh:=yG (P:=l.prog) (w:=w) (base:=base) (bx X G a12 l12 c12 k12) T F_tof F_half
 have F_sat:=yH (P:=l.prog) (w:=w) (base:=base) (bx X G a13 l13 c13 k13) T F_isout F_beg
 have F_short:=vi (P:=l.prog) (w:=w) (base:=base) (bx X G a11 l11 c11 k11) T Tset F_tbh F_sat F_chg
 have F_halves:=sk (P:=l.prog) (w:=w) (base:=base) (bx X G a9 l9 c9 k9) T Tset F_tof F_half
 have F_isshort:=ql (P:=l.prog) (w:=w) (base:=base) (bx X G a8 l8 c8 k8) T Tany F_isred F_halves
 have F_shortens:=m9 (P:=l.prog) (w:=w) (base:=base) (bx X G a7 l7 c7 k7) T
 have F_feed:=wI (P:=l.prog) (w:=w) (base:=base) (bx X G a14 l14 c14 k14) T
 have F_draw:=wH (P:=l.prog) (w:=w) (base:=base) (bx X G a15 l15 c15 k15) T
 have F_lback:=uX (P:=l.prog) (w:=w) (base:=base) (bx X G a16 l16 c16 k16)
 have F_lred:=wM (P:=l.prog) (w:=w) (base:=base) (bx X G a17 l17 c17 k17) T F_lback
 have F_some:=wN (P:=l.prog) (w:=w) (base:=base) (bx X G a18 l18 c18 k18) T F_draw
 have F_drawn:=u6 (P:=l.prog) (w:=w) (base:=base) (bx X G a19 l19 c19 k19) T F_draw F_lback (some_of F_some)
 have F_mid:=yC (P:=l.prog) (w:=w) (base:=base) (bx X G a20 l20 c20 k20) T F_lback F_lred
 have F_ltof:=wQ (P:=l.prog) (w:=w) (base:=base) (bx X G a21 l21 c21 k21) T F_lback
 have F_lsh:=yD (P:=l.prog) (w:=w) (base:=base) (bx X G a22 l22 c22 k22) T
 have F_lthick:=r6 (P:=l.prog) (w:=w) (base:=base) (bx X G a23 l23 c23 k23) T F_lsh
 have F_lthin:=u9 (P:=l.prog) (w:=w) (base:=base) (bx X G a24 l24 c24 k24) T F_draw F_lback F_some F_mid F_ltof F_lthick
 have F_lrings:=r9 (P:=l.prog) (w:=w) (base:=base) (bx X G a25 l25 c25 k25) T F_draw F_some F_mid
 have F_made:=wU (P:=l.prog) (w:=w) (base:=base) (bx X G a26 l26 c26 k26) T F_draw F_lback F_some
 have F_ldone:=va (P:=l.prog) (w:=w) (base:=base) (bx X G a27 l27 c27 k27) T F_lback
 have F_next:=wX (P:=l.prog) (w:=w) (base:=base) (bx X G a28 l28 c28 k28) T F_draw F_lback F_lsh
 have F_lhalves:=qo (P:=l.prog) (w:=w) (base:=base) (bx X G a29 l29 c29 k29) T
 have F_lshort:=sq (P:=l.prog) (w:=w) (base:=base) (bx X G a30 l30 c30 k30) T F_lred F_lhalves
 have F_lshortens:=kW (P:=l.prog) (w:=w) (base:=base) (bx X G a31 l31 c31 k31) T
 have F_right:=vo (P:=l.prog) (w:=w) (base:=base) (bx X G a32 l32 c32 k32) T F_short F_ldone F_lshortens F_lshort
 exact yI (sT l33 c33 k33) T F_feed F_draw F_some F_lred F_lthin F_lrings F_ltof F_lhalves F_halves F_made F_drawn F_isshort F_lshort F_right F_next F_shortens F_lshortens
theorem zX {l:PySem.W.OpenLaw}{q:Program}{loose:List Str}{XP:(Str→Option Value)→Heap→Prop}{YP:World→Heap→Prop}{d:DefRec}{K:Params→PySem.W.Frag}(hn:l.most=some 63)(hdf:d.params.defaults=[])
  (hY:∀ (w:World) (h:Heap),YP w h→(K w.params).In h)
  (F:∀ (w:World) (mg:Str→Option Value) (fa:Addr) (h:Heap),(K w.params).In h→h.Ns mainGlobals mg→mg d.name=some (.ref fa) →
   ∃ fd:FuncData,(∀ (s:Shared) (u:Value),BindsTo s fd ⟨[u],[]⟩ [("_law_script",u)])∧∀ base:Heap,(K w.params).In base→base.Ns mainGlobals mg→mI l.prog w (K w.params) mg base CX0 9 fa fd ["_law_script"] (qr (K w.params))) :
  PySem.W.WalkO q loose XP YP l.row.toRowW d [] (fun f vs=>PySem.call f vs) :=
 L2.n8 (n:=63) (k:=9) (x:="_law_script") (CX:=fun _=>CX0) (sp:=fun w=>qr (K w.params)) hn (by decide) hdf ⟨rfl,by decide,by decide,rfl⟩ hY F (fun _ _ a ns hl _ hS=>⟨a,ns,rfl,hS,hl,fun _=>rfl⟩) fun _ _ _ _ _ z=>z
end Kx
namespace Kx
open PySem
def xj (s:String):Str:=⟨⟨PySem.W.R.mapR Char.toNat (PySem.W.S.toListS s)⟩⟩
theorem sI:Str.ofString=xj:=by
 funext s
 rw [Str.ofString_eq_toList,PySem.W.S.toListS_eq]
 show _=(⟨⟨PySem.W.R.mapR Char.toNat (PySem.W.S.toListS s)⟩⟩:Str)
 rw [← PySem.W.R.mapR_eq]
def apG (G:(String→Str)→Program)(x:String→Str):Program:=G x
def Gs:{ G:(String→Str)→Program // apG G Str.ofString=PySem.Challenge.pw_ringwords_k09_short_words_and_halves }:=by
 refine ⟨?G,?h⟩
 case h =>
  delta PySem.Challenge.pw_ringwords_k09_short_words_and_halves
  generalize Str.ofString=x
  exact rfl
end Kx
def PySem.W.Fast.tw8002647550337121480:PySem.Program:=Kx.Gs.1 Kx.xj
theorem PySem.W.Fast.te8002647550337121480:PySem.Challenge.pw_ringwords_k09_short_words_and_halves=PySem.W.Fast.tw8002647550337121480:=Kx.Gs.2.symm.trans (C3 (Kx.apG Kx.Gs.1) Kx.sI)
theorem PySem.W.Fast.te10825605519905115811:True:=BC
theorem PySem.W.Fast.tw10505167803910703463:True:=BC
theorem PySem.W.Fast.tw11091301868030620534:True:=BC
theorem PySem.W.Fast.tw825176564607852043:True:=BC
theorem PySem.W.Fast.tw13739476304474503212:True:=BC
theorem PySem.W.Fast.tw7405938275377735408:True:=BC
theorem PySem.W.Fast.tw5617729798977767262:True:=BC
theorem PySem.W.Fast.tw4485215670760052154:True:=BC
theorem PySem.W.Fast.tw10590690116749405781:True:=BC
theorem PySem.W.Fast.tw8734434020343442318:True:=BC
theorem PySem.W.Fast.tw16267053549250172017:True:=BC
theorem PySem.W.Fast.tw298737918519837635:True:=BC
theorem PySem.W.Fast.tw15152270028229717207:True:=BC
theorem PySem.W.Fast.tw18275772913676449052:True:=BC
theorem PySem.W.Fast.tw1967979136797445557:True:=BC
theorem PySem.W.Fast.tw3787701090773308741:True:=BC
theorem PySem.W.Fast.tw2157541164554811168:True:=BC
theorem PySem.W.Fast.tw8762222464694220473:True:=BC
theorem PySem.W.Fast.tw10177506396102895374:True:=BC
open PySem PySem.W PyProof.Rows
set_option maxRecDepth 100000 in
set_option maxHeartbeats 0 in
theorem PySem.Challenge.cw_ringwords_k09_short_words_and_halves_holds : PySem.Challenge.rw_ringwords_k09_short_words_and_halves.Holds := by
 w_on; o_law; k_head; (case hw=>w_witness2)
 k_fill
 refine Kx.zX (l:=PySem.Challenge.rw_ringwords_k09_short_words_and_halves) rfl rfl (fun w h Y=>PySem.W.kIn_of Y) ?F
 case F =>
  intro w mg fa h KX G hmg
  refine' Kx.xi KX G hmg ?a0 ?l0 ?c0 ?k0 ?a1 ?l1 ?c1 ?k1 ?a2 ?l2 ?c2 ?k2 ?a3 ?l3 ?c3 ?k3 ?a4 ?l4 ?c4 ?k4 ?a5 ?l5 ?c5 ?k5 ?a6 ?l6 ?c6 ?k6 ?a7 ?l7 ?c7 ?k7 ?a8 ?l8 ?c8 ?k8 ?a9 ?l9 ?c9 ?k9 ?a10 ?l10 ?c10 ?k10 ?a11 ?l11 ?c11 ?k11 ?a12 ?l12 ?c12 ?k12 ?a13 ?l13 ?c13 ?k13 ?a14 ?l14 ?c14 ?k14 ?a15 ?l15 ?c15 ?k15 ?a16 ?l16 ?c16 ?k16 ?a17 ?l17 ?c17 ?k17 ?a18 ?l18 ?c18 ?k18 ?a19 ?l19 ?c19 ?k19 ?a20 ?l20 ?c20 ?k20 ?a21 ?l21 ?c21 ?k21 ?a22 ?l22 ?c22 ?k22 ?a23 ?l23 ?c23 ?k23 ?a24 ?l24 ?c24 ?k24 ?a25 ?l25 ?c25 ?k25 ?a26 ?l26 ?c26 ?k26 ?a27 ?l27 ?c27 ?k27 ?a28 ?l28 ?c28 ?k28 ?a29 ?l29 ?c29 ?k29 ?a30 ?l30 ?c30 ?k30 ?a31 ?l31 ?c31 ?k31 ?a32 ?l32 ?c32 ?k32 ?a33 ?l33 ?c33 ?k33 ?z_len ?z_repr ?z_abs ?z_max ?z_int ?z_list ?z_range ?z_reversed ?z_min ?z_sorted ?z_tuple ?z_isinstance ?z_all ?z_str ?z_zip ?aBk ?lB ?kB ?zE ?zS ?zA ?gl0 ?gl1 ?gl2 ?gl3 ?gl4 ?gl5 ?gl6 ?gl7 ?gl8 ?gl9 ?gl10 ?gl11
  (case a0=>k_is)
  (case l0=>k_is)
  (case c0=>k_is)
  (case k0=>k_is)
  (case a1=>k_is)
  (case l1=>k_is)
  (case c1=>k_is)
  (case k1=>k_is)
  (case a2=>k_is)
  (case l2=>k_is)
  (case c2=>k_is)
  (case k2=>k_is)
  (case a3=>k_is)
  (case l3=>k_is)
  (case c3=>k_is)
  (case k3=>k_is)
  (case a4=>k_is)
  (case l4=>k_is)
  (case c4=>k_is)
  (case k4=>k_is)
  (case a5=>k_is)
  (case l5=>k_is)
  (case c5=>k_is)
  (case k5=>k_is)
  (case a6=>k_is)
  (case l6=>k_is)
  (case c6=>k_is)
  (case k6=>k_is)
  (case a7=>k_is)
  (case l7=>k_is)
  (case c7=>k_is)
  (case k7=>k_is)
  (case a8=>k_is)
  (case l8=>k_is)
  (case c8=>k_is)
  (case k8=>k_is)
  (case a9=>k_is)
  (case l9=>k_is)
  (case c9=>k_is)
  (case k9=>k_is)
  (case a10=>k_is)
  (case l10=>k_is)
  (case c10=>k_is)
  (case k10=>k_is)
  (case a11=>k_is)
  (case l11=>k_is)
  (case c11=>k_is)
  (case k11=>k_is)
  (case a12=>k_is)
  (case l12=>k_is)
  (case c12=>k_is)
  (case k12=>k_is)
  (case a13=>k_is)
  (case l13=>k_is)
  (case c13=>k_is)
  (case k13=>k_is)
  (case a14=>k_is)
  (case l14=>k_is)
  (case c14=>k_is)
  (case k14=>k_is)
  (case a15=>k_is)
  (case l15=>k_is)
  (case c15=>k_is)
  (case k15=>k_is)
  (case a16=>k_is)
  (case l16=>k_is)
  (case c16=>k_is)
  (case k16=>k_is)
  (case a17=>k_is)
  (case l17=>k_is)
  (case c17=>k_is)
  (case k17=>k_is)
  (case a18=>k_is)
  (case l18=>k_is)
  (case c18=>k_is)
  (case k18=>k_is)
  (case a19=>k_is)
  (case l19=>k_is)
  (case c19=>k_is)
  (case k19=>k_is)
  (case a20=>k_is)
  (case l20=>k_is)
  (case c20=>k_is)
  (case k20=>k_is)
  (case a21=>k_is)
  (case l21=>k_is)
  (case c21=>k_is)
  (case k21=>k_is)
  (case a22=>k_is)
  (case l22=>k_is)
  (case c22=>k_is)
  (case k22=>k_is)
  (case a23=>k_is)
  (case l23=>k_is)
  (case c23=>k_is)
  (case k23=>k_is)
  (case a24=>k_is)
  (case l24=>k_is)
  (case c24=>k_is)
  (case k24=>k_is)
  (case a25=>k_is)
  (case l25=>k_is)
  (case c25=>k_is)
  (case k25=>k_is)
  (case a26=>k_is)
  (case l26=>k_is)
  (case c26=>k_is)
  (case k26=>k_is)
  (case a27=>k_is)
  (case l27=>k_is)
  (case c27=>k_is)
  (case k27=>k_is)
  (case a28=>k_is)
  (case l28=>k_is)
  (case c28=>k_is)
  (case k28=>k_is)
  (case a29=>k_is)
  (case l29=>k_is)
  (case c29=>k_is)
  (case k29=>k_is)
  (case a30=>k_is)
  (case l30=>k_is)
  (case c30=>k_is)
  (case k30=>k_is)
  (case a31=>k_is)
  (case l31=>k_is)
  (case c31=>k_is)
  (case k31=>k_is)
  (case a32=>k_is)
  (case l32=>k_is)
  (case c32=>k_is)
  (case k32=>k_is)
  (case a33=>k_is)
  (case l33=>k_is)
  (case c33=>k_is)
  (case k33=>k_is)
  (case z_len=>k_is)
  (case z_repr=>k_is)
  (case z_abs=>k_is)
  (case z_max=>k_is)
  (case z_int=>k_is)
  (case z_list=>k_is)
  (case z_range=>k_is)
  (case z_reversed=>k_is)
  (case z_min=>k_is)
  (case z_sorted=>k_is)
  (case z_tuple=>k_is)
  (case z_isinstance=>k_is)
  (case z_all=>k_is)
  (case z_str=>k_is)
  (case z_zip=>k_is)
  (case aBk=>k_is)
  (case lB=>k_is)
  (case kB=>exact ⟨⟨_,_,rfl,rfl⟩,⟨_,_,rfl,rfl⟩,⟨_,_,rfl,rfl⟩,⟨_,_,rfl,rfl⟩,⟨_,_,rfl,rfl⟩,⟨_,_,rfl,rfl⟩,⟨_,_,rfl,rfl⟩,⟨_,_,rfl,rfl⟩,⟨_,_,rfl,rfl⟩,⟨_,_,rfl,rfl⟩,⟨_,_,rfl,rfl⟩,⟨_,_,rfl,rfl⟩,trivial⟩)
  (case zE=>k_is)
  (case zS=>k_is)
  (case zA=>k_is)
  (case gl0=>k_is)
  (case gl1=>k_is)
  (case gl2=>k_is)
  (case gl3=>k_is)
  (case gl4=>k_is)
  (case gl5=>k_is)
  (case gl6=>k_is)
  (case gl7=>k_is)
  (case gl8=>k_is)
  (case gl9=>k_is)
  (case gl10=>k_is)
  (case gl11=>k_is)
end
