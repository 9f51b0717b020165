import PyProof.Rows.All
import Wide.All
import OpenK.AllK
import Wide.FinOn
import Lean
import PyProof.EqAt
import PyProof.EqKinds
import PyProof.TupleCall
import KE.KRevIter
import PyProof.Rows.SortShellK
import PyProof.FString5
import PyProof.NeData
import PyProof.TupleOfStr
import PyProof.IsRules
import PyProof.ListRange
import PyProof.FactsAll.tuple_3
import PyProof.ExcInit
import PyProof.InstStoreFacts
import PyProof.NsDelKeeps
import PyProof.DictWalks
import PyProof.Rows.DictUnroll
import PyProof.Rows.SumAny
import PyProof.AttrMiss
import KE.KDictOf
import PyProof.WalkInts
import PySem.Challenge.RW_ringwords_k74_words_avoided
set_option Elab.async false
set_option linter.all false
set_option maxRecDepth 100000
namespace L2
open PySem PySem.Spec PyProof.Rows
abbrev Key := Sum Int Str
def gU : Key → Value → Bool
  | .inl k, v => Value.isInt k v
  | .inr x, v => Value.isStrOf x v
def pB (w : World) : Key → Int
  | .inl k => hashInt k
  | .inr x => hashStr w x
theorem aF : ∀ {k : Key} {v : Value}, gU k v=true → (∃ i t, k=Sum.inl i ∧ v=Value.int i t) ∨ (∃ x t, k=Sum.inr x ∧ v=Value.str x t)
  | .inl i, v, h => by
    obtain ⟨t, e⟩ := Value.isInt_shape (k := i) (v := v) h
    exact .inl ⟨i, t, rfl, e⟩
  | .inr x, v, h => by
    obtain ⟨t, e⟩ := Value.isStrOf_shape (x := x) (v := v) h
    exact .inr ⟨x, t, rfl, e⟩
theorem hZ (i : Int)(t : Tok) : gU (.inl i) (.int i t)=true := by simp [gU, Value.isInt]
theorem h9 (x : Str)(t : Tok) : gU (.inr x) (.str x t)=true := by simp [gU, Value.isStrOf]
theorem mq (a b : Int) : decide ((Sum.inl a : Key)=Sum.inl b)=(a == b) := by
  by_cases e : a=b
  · subst e;simp
  · have h : ¬ (Sum.inl a : Key)=Sum.inl b := fun q => e (Sum.inl.inj q)
    rw [decide_eq_false h]
    exact (beq_eq_false_iff_ne.mpr e).symm
theorem mr (a b : Str) : decide ((Sum.inr a : Key)=Sum.inr b)=decide (a=b) := by
  by_cases e : a=b
  · subst e;simp
  · have h : ¬ (Sum.inr a : Key)=Sum.inr b := fun q => e (Sum.inr.inj q)
    rw [decide_eq_false h, decide_eq_false e]
theorem mv (a : Int)(b : Str) : decide ((Sum.inl a : Key)=Sum.inr b)=false := decide_eq_false (fun q => nomatch q)
theorem mw (a : Str)(b : Int) : decide ((Sum.inr a : Key)=Sum.inl b)=false := decide_eq_false (fun q => nomatch q)
def aD (prog : Program)(w : World) : PySem.KeyKind prog w Key where
  is := gU
  hash := pB w
  inj := fun v a b ha hb => by
    rcases aF ha with ⟨i, t, rfl, rfl⟩ | ⟨x, t, rfl, rfl⟩
    · rcases aF hb with ⟨j, u, rfl, e⟩ | ⟨y, u, rfl, e⟩
      · injection e with e1 _;rw [e1]
      · exact nomatch e
    · rcases aF hb with ⟨j, u, rfl, e⟩ | ⟨y, u, rfl, e⟩
      · exact nomatch e
      · injection e with e1 _;rw [e1]
  byValue := fun k v h => by
    rcases aF h with ⟨i, t, rfl, rfl⟩ | ⟨x, t, rfl, rfl⟩ <;> rfl
  pyHash := fun hv h => by
    rcases aF hv with ⟨i, t, rfl, rfl⟩ | ⟨x, t, rfl, rfl⟩
    · exact wpAny_pyHash_int h
    · exact wpAny_pyHash_str h
  eqBool := fun hu hv h => by
    rcases aF hu with ⟨i, t, rfl, rfl⟩ | ⟨x, t, rfl, rfl⟩
    · rcases aF hv with ⟨j, u, rfl, rfl⟩ | ⟨y, u, rfl, rfl⟩
      · rw [mq] at h;exact wpAny_eqBool_int h
      · rw [mv] at h;exact SeqAt.EqAt.int_str i t y u _ _ _ _ h
    · rcases aF hv with ⟨j, u, rfl, rfl⟩ | ⟨y, u, rfl, rfl⟩
      · rw [mw] at h;exact SeqAt.EqAt.str_int x t j u _ _ _ _ h
      · rw [mr] at h;exact wpAny_eqBool_str h
  «strs» := fun k x t v h => by
    rcases aF h with ⟨i, u, rfl, e⟩ | ⟨y, u, rfl, e⟩
    · exact nomatch e
    · injection e with e1 _
      subst e1
      cases v <;> rfl
theorem fG (prog : Program)(w : World)(i : Int)(t : Tok) : (aD prog w).is (.inl i) (.int i t)=true := hZ i t
theorem fH (prog : Program)(w : World)(x : Str)(t : Tok) : (aD prog w).is (.inr x) (.str x t)=true := h9 x t
inductive V where
  | non | bl (b : Bool) | int (i : Int) | str (x : Str) | byt (b : Array UInt8) | flt (b : UInt64) | ref (a : Addr) | ty (n : String)
  deriving DecidableEq
def aR : V → Value → Prop
  | .non, u => u=Value.none
  | .bl b, u => u=Value.bool b
  | .int i, u => ∃ t, u=Value.int i t
  | .str x, u => ∃ t, u=Value.str x t
  | .byt b, u => ∃ t, u=Value.bytes b t
  | .flt b, u => ∃ t, u=Value.float b t
  | .ref a, u => u=Value.ref a
  | .ty n, u => u=Value.type n
abbrev aL : List V → List Value → Prop := Paired aR
theorem aL.length {xs : List V}{us : List Value}(r : aL xs us) : xs.length=us.length := Paired.length r
theorem aL.get : ∀ {xs : List V} {us : List Value} {i : Nat} {x : V}, aL xs us → xs[i]? = some x → ∃ u, us[i]? = some u ∧ aR x u
  | _, _, _, _, .nil, e => by simp at e
  | _, _, 0, _, .cons r _, e => by simp at e;subst e;exact ⟨_, rfl, r⟩
  | _, _, i+1, x, .cons _ t, e => by
    obtain ⟨u, h1, h2⟩ := aL.get (i := i) (x := x) t (by simpa using e)
    exact ⟨u, by simpa using h1, h2⟩
theorem aL.append : ∀ {xs ys : List V} {us ws : List Value}, aL xs us → aL ys ws → aL (xs++ys) (us++ws)
  | _, _, _, _, .nil, s => s
  | _, _, _, _, .cons r t, s => .cons r (aL.append t s)
theorem aL.take : ∀ {xs : List V} {us : List Value} (n : Nat), aL xs us → aL (xs.take n) (us.take n)
  | _, _, 0, _ => .nil
  | _, _, _+1, .nil => .nil
  | _, _, n+1, .cons r t => .cons r (aL.take n t)
theorem aL.drop : ∀ {xs : List V} {us : List Value} (n : Nat), aL xs us → aL (xs.drop n) (us.drop n)
  | _, _, 0, r => r
  | _, _, _+1, .nil => .nil
  | _, _, n+1, .cons _ t => aL.drop n t
def gW : Option V → Option Value → Prop
  | some v, some u => aR v u
  | none, none => True
  | _, _ => False
def KV {κ : Type} : List (κ × V) → List (κ × Value) → Prop := Paired fun (p : κ × V) (q : κ × Value) => p.1=q.1 ∧ aR p.2 q.2
def kV : Key → V
  | .inl i => .int i
  | .inr x => .str x
inductive HO where
  | lst (xs : List V)
  | tup (xs : List V)
  | dK (kvs : List (Key × V)) | dT (kvs : List (List Key × V))
  | set (S : Int → Bool) (n : Nat)
  | ins (C dx : Addr) (fs : List (Str × V))
  | own (x : Addr)
  | xd (fs : List (Str × V))
  | met (f x : Addr)
  | rng (lo hi : Int)
  | frz (o : Obj) (u : HO)
  | tbl (ps : Array Value)
  | ext (φ : Heap → Prop)
abbrev Hp := Addr → Option HO
def upd (H : Hp)(a : Addr)(o : HO) : Hp := fun b => if b=a then some o else H b
theorem ae {H : Hp}{a : Addr}{o : HO} : upd H a o a=some o := by unfold upd; rw [if_pos rfl]
theorem ak {H : Hp}{a b : Addr}{o : HO}(h : b≠a) : upd H a o b=H b := by unfold upd; rw [if_neg h]
theorem d7 {H : Hp}{a : Addr}{o u : HO} : upd (upd H a o) a u=upd H a u := by
  funext b;unfold upd;split <;> rfl
theorem kQ {H : Hp}{a b : Addr}{o u : HO}(h : H a=some o)(h' : H b=some u)(d : o≠u) : a≠b := by
  intro e;subst e;rw [h] at h';exact d (Option.some.inj h')
theorem ab {H : Hp}{a b : Addr}{o : HO}(h : H a=some o)(h' : H b=none) : a≠b := by
  intro e;subst e;rw [h] at h';cases h'
section
variable (P : Program) (w : World)
def NoD (h : Heap)(a : Addr) : Prop := ∃ o, h.get? a=some o ∧ o.dict=none
def bp (H : Hp)(h : Heap)(a : Addr) : HO → Prop
  | .lst xs => xs.length≤sizeLine ∧ ∃ (its : List Value) (n : Nat), aL xs its ∧ h.get? a=some { cls := .type "list", data := .seq its.toArray n }
  | .tup xs => xs.length≤sizeLine ∧ ∃ its : List Value, aL xs its ∧ IsTup h a its.toArray ∧ NoD h a
  | .dK kvs => kvs.length≤sizeLine ∧ (a == sysModules)=false ∧ ∃ vs, KV kvs vs ∧ h.DictOf (aD P w) a vs
  | .dT kvs => kvs.length≤sizeLine ∧ (a == sysModules)=false ∧ ∃ xs : List (List Key × Addr × Value),
      Paired (fun (p : List Key × V) (q : List Key × Addr × Value) => p.1=q.1 ∧ H q.2.1=some (.tup (p.1.map kV)) ∧ aR p.2 q.2.2) kvs xs ∧
      ∃ o es ep, h.get? a=some o ∧ o.ExactDict ∧ o.data = .dict es ep ∧ es.toList=xs.map (entryOfKey (tupleKind (aD P w))) ∧ (xs.map (·.1)).Nodup
  | .set S n => h.SetOf (intKind P w) a S n
  | .ins C dx fs => H dx=some (.own a) ∧ fs.length≤1000 ∧ dx≠a ∧ h.get? a=some (PySem.W.instObj C dx) ∧
      ∃ mA, h.Ns1 dx mA ∧ (∀ f, gW (fs.lookup f) (mA f)) ∧ PySem.Within mA (fs.map (·.1))
  | .own _ => ∃ o, h.get? a=some o
  | .xd fs => ∃ mA, h.Ns1 a mA ∧ ∀ f, gW (fs.lookup f) (mA f)
  | .rng lo hi => ∃ t u v, h.get? a=some { cls := .type "range", data := .fields #[.int lo t, .int hi u, .int 1 v] }
  | .frz o u => h.get? a=some o ∧ bp H h a u
  | .tbl ps => h.get? a=some { cls := .none, data := .fields ps }
  | .met f x => h.get? a=some (PySem.W.methodObj (.ref f) (.ref x))
  | .ext φ => φ h ∧ (∃ o, h.get? a=some o) ∧ ∀ h1 h2 : Heap, φ h1 → (∀ o, h1.get? a=some o → h2.get? a=some o) → φ h2
def HOk (H : Hp)(h : Heap) : Prop := ∀ a o, H a=some o → bp P w H h a o
end
section
variable {P : Program} {w : World} {H H' : Hp} {h h' : Heap} {a : Addr} {o : HO}
theorem bp.lt (x : bp P w H h a o) : a < h.objs.size := by
  cases o with
  | lst xs => obtain ⟨_, _, _, _, e⟩ := x;exact Heap.lt_size e
  | tup xs => obtain ⟨_, _, _, p, _⟩ := x;exact p.lt
  | dK kvs => obtain ⟨_, _, _, _, o, _, _, e, _⟩ := x;exact Heap.lt_size e
  | dT kvs => obtain ⟨_, _, _, _, o, _, _, e, _⟩ := x;exact Heap.lt_size e
  | set S n => obtain ⟨o, _, _, _, e, _⟩ := x;exact Heap.lt_size e
  | ins C dx fs => obtain ⟨_, _, _, e, _⟩ := x;exact Heap.lt_size e
  | own y => obtain ⟨_, e⟩ := x;exact Heap.lt_size e
  | xd fs => obtain ⟨_, ⟨_, _, _, e, _⟩, _⟩ := x;exact Heap.lt_size e
  | rng lo hi => obtain ⟨_, _, _, e⟩ := x;exact Heap.lt_size e
  | frz ob u => obtain ⟨e, _⟩ := x;exact Heap.lt_size e
  | tbl ps => exact Heap.lt_size (show h.get? a=some _ from x)
  | met f y => exact Heap.lt_size (show h.get? a=some _ from x)
  | ext φ => obtain ⟨_, ⟨_, e⟩, _⟩ := x;exact Heap.lt_size e
theorem Paired.mapP {α β : Type}{F G : α → β → Prop} : ∀ {l₁ : List α} {l₂ : List β}, Paired F l₁ l₂ → (∀ a b, F a b → G a b) → Paired G l₁ l₂
  | _, _, .nil, _ => .nil
  | _, _, .cons r t, f => .cons (f _ _ r) (Paired.mapP t f)
theorem bp.stay (x : bp P w H h a o)(k : ∀ b u, (b=a ∨ H b=some (.own a)) → h.get? b=some u → h'.get? b=some u)
    (ho : ∀ b, H b=some (.own a) → H' b=some (.own a)) (ht : ∀ b xs, H b=some (.tup xs) → H' b=some (.tup xs)) : bp P w H' h' a o := by
  induction o with
  | lst xs => obtain ⟨z, its, n, r, e⟩ := x;exact ⟨z, its, n, r, k _ _ (.inl rfl) e⟩
  | tup xs => obtain ⟨z, its, r, ⟨ob, e, c⟩, o2, e2, c2⟩ := x;exact ⟨z, its, r, ⟨ob, k _ _ (.inl rfl) e, c⟩, o2, k _ _ (.inl rfl) e2, c2⟩
  | dK kvs => obtain ⟨z, y, vs, r, ob, es, ep, e, c⟩ := x;exact ⟨z, y, vs, r, ob, es, ep, k _ _ (.inl rfl) e, c⟩
  | dT kvs =>
    obtain ⟨z, y, xs, r, ob, es, ep, e, c⟩ := x
    exact ⟨z, y, xs, Paired.mapP r fun p q z => ⟨z.1, ht _ _ z.2.1, z.2.2⟩, ob, es, ep, k _ _ (.inl rfl) e, c⟩
  | set S n => obtain ⟨ob, es, ep, t, e, c⟩ := x;exact ⟨ob, es, ep, t, k _ _ (.inl rfl) e, c⟩
  | ins C dx fs =>
    obtain ⟨d, z, ne, e, mA, ⟨od, es, ep, e2, c⟩, r⟩ := x
    exact ⟨ho _ d, z, ne, k _ _ (.inl rfl) e, mA, ⟨od, es, ep, k _ _ (.inr d) e2, c⟩, r⟩
  | own y => obtain ⟨ob, e⟩ := x;exact ⟨ob, k _ _ (.inl rfl) e⟩
  | xd fs => obtain ⟨mA, ⟨od, es, ep, e, c⟩, r⟩ := x;exact ⟨mA, ⟨od, es, ep, k _ _ (.inl rfl) e, c⟩, r⟩
  | rng lo hi => obtain ⟨t, u, v, e⟩ := x;exact ⟨t, u, v, k _ _ (.inl rfl) e⟩
  | frz ob u ih => obtain ⟨e, q⟩ := x;exact ⟨k _ _ (.inl rfl) e, ih q⟩
  | tbl ps =>
    have e : h.get? a=some { cls := .none, data := .fields ps } := x
    show h'.get? a=some { cls := .none, data := .fields ps }
    exact k a _ (.inl rfl) e
  | met f y =>
    have e : h.get? a=some (PySem.W.methodObj (.ref f) (.ref y)) := x
    show h'.get? a=some (PySem.W.methodObj (.ref f) (.ref y))
    exact k a _ (.inl rfl) e
  | ext φ => obtain ⟨p, ⟨o, e⟩, st⟩ := x;exact ⟨st _ _ p fun o q => k _ _ (.inl rfl) q, ⟨o, k _ _ (.inl rfl) e⟩, st⟩
theorem HOk.lt (x : HOk P w H h)(e : H a=some o) : a < h.objs.size := (x a o e).lt
theorem HOk.fresh (x : HOk P w H h)(e : h.objs.size≤a) : H a=none := by
  cases q : H a with
  | none => rfl
  | some u => exact absurd (Nat.lt_of_lt_of_le (x.lt q) e) (Nat.lt_irrefl _)
theorem HOk.kept (x : HOk P w H h)(k : ∀ b u, h.get? b=some u → h'.get? b=some u) : HOk P w H h' := fun a o e =>
  (x a o e).stay (fun b u _ q => k b u q) (fun _ q => q) fun _ _ q => q
theorem HOk.laid (x : HOk P w H h)(k : ∀ b u, h.get? b=some u → h'.get? b=some u)(hp : h.objs.size≤a)(new : bp P w (upd H a o) h' a o) : HOk P w (upd H a o) h' := fun b u e => by
  have hn := x.fresh hp
  by_cases hb : b=a
  · subst hb;rw [ae] at e;cases e;exact new
  · rw [ak hb] at e
    exact (x b u e).stay (fun c v _ q => k c v q) (fun c q => by rw [ak (ab q hn)];exact q) fun c xs q => by rw [ak (ab q hn)];exact q
end
def Rd (H : Hp)(a : Addr)(u : HO) : Prop := H a=some u ∨ ∃ o, H a=some (.frz o u)
theorem Rd.ok {P : Program}{w : World}{H : Hp}{h : Heap}{a : Addr}{u : HO}(r : Rd H a u)(x : HOk P w H h) : bp P w H h a u := by
  rcases r with r | ⟨o, r⟩
  · exact x a u r
  · obtain ⟨_, q⟩ := x a _ r
    exact q
def Mut : Option HO → Prop
  | some (.lst _) => True
  | some (.dK _) => True
  | some (.dT _) => True
  | some (.set _ _) => True
  | some (.ins _ _ _) => True
  | some (.ext _) => True
  | _ => False
section
variable {P : Program} {w : World} {H : Hp} {h h' : Heap} {x e : Addr} {o' : HO}
theorem HOk.write (ok : HOk P w H h)(mu : Mut (H x))(he : e=x ∨ H e=some (.own x))(k : ∀ b u, b≠e → h.get? b=some u → h'.get? b=some u)(heo : ∃ u, h'.get? e=some u)
    (new : bp P w (upd H x o') h' x o') : HOk P w (upd H x o') h' := fun b u q => by
  have nown : ∀ c y, H c=some (.own y) → c≠x := fun c y r z => by subst z;rw [r] at mu;exact mu
  have ntup : ∀ c xs, H c=some (.tup xs) → c≠x := fun c xs r z => by subst z;rw [r] at mu;exact mu
  by_cases hb : b=x
  · subst hb;rw [ae] at q;cases q;exact new
  · rw [ak hb] at q
    by_cases hbe : b=e
    · have q' : H b=some (.own x) := by
        rcases he with z | z
        · exact absurd (hbe.trans z) hb
        · rw [hbe];exact z
      rw [q] at q';cases q'
      obtain ⟨v, hv⟩ := heo
      exact ⟨v, by rw [hbe];exact hv⟩
    · refine (ok b u q).stay (fun c v hc r => k c v ?_ r) (fun c r => by rw [ak (nown c b r)];exact r) fun c xs r => by rw [ak (ntup c xs r)];exact r
      rcases hc with rfl | hc
      · exact hbe
      · rintro rfl
        rcases he with z | z
        · exact nown c b hc z
        · rw [hc] at z;cases z;exact hb rfl
end
structure Un (fs ex : List Addr) (H H' : Hp) (h h' : Heap) : Prop where
  keep : ∀ b o, h.get? b=some o → H b=none → b∉fs → b∉ex → h'.get? b=some o
  slot : ∀ b o, h.get? b=some o → H b=none → b∈fs → b∉ex → ∃ sl, h'.get? b=some { o with slots := sl }
  free : ∀ b o, h.get? b=some o → H b=none → b∉ex → H' b=none
  there : ∀ b o, h.get? b=some o → b∉ex → ∃ o', h'.get? b=some o'
  tups : ∀ b xs, H b=some (.tup xs) → H' b=some (.tup xs)
  frzs : ∀ b o u, H b=some (.frz o u) → H' b=some (.frz o u)
  tbls : ∀ b ps, H b=some (.tbl ps) → ∃ more, H' b=some (.tbl (ps++more))
section
variable {fs fs' ex ex' : List Addr} {H H1 H2 : Hp} {h h1 h2 h' : Heap} {a x e : Addr} {o : HO}
theorem Un.any (u : Un fs ex H H1 h h1){b : Addr}{ob : Obj}(q : h.get? b=some ob)(n : H b=none)(hx : b∉ex) : ∃ sl, h1.get? b=some { ob with slots := sl } := by
  by_cases hb : b∈fs
  · exact u.slot b ob q n hb hx
  · exact ⟨ob.slots, u.keep b ob q n hb hx⟩
theorem Un.kept (k : ∀ b u, h.get? b=some u → h'.get? b=some u) : Un fs ex H H h h' :=
  ⟨fun b ob q _ _ _ => k b ob q, fun b ob q _ _ _ => ⟨ob.slots, k b ob q⟩, fun _ _ _ n _ => n, fun b ob q _ => ⟨ob, k b ob q⟩, fun _ _ q => q, fun _ _ _ q => q, fun _ ps q => ⟨#[], by rw [q];simp⟩⟩
theorem Un.refl : Un fs ex H H h h := Un.kept fun _ _ q => q
theorem Un.laid (k : ∀ b u, h.get? b=some u → h'.get? b=some u)(hp : h.objs.size≤a)(hn : H a=none) : Un fs ex H (upd H a o) h h' where
  keep := fun b u q _ _ _ => k b u q
  slot := fun b u q _ _ _ => ⟨u.slots, k b u q⟩
  free := fun b u q n _ => by rw [ak (Nat.ne_of_lt (Nat.lt_of_lt_of_le (Heap.lt_size q) hp))];exact n
  there := fun b u q _ => ⟨u, k b u q⟩
  tups := fun b xs q => by rw [ak (ab q hn)];exact q
  frzs := fun b u xs q => by rw [ak (ab q hn)];exact q
  tbls := fun b ps q => ⟨#[], by rw [ak (ab q hn), q];simp⟩
theorem Un.write (mu : Mut (H x))(he : e=x ∨ H e=some (.own x))(k : ∀ b u, b≠e → h.get? b=some u → h'.get? b=some u)(heo : ∃ u, h'.get? e=some u) : Un fs ex H (upd H x o) h h' := by
  have hx : ∀ b, H b=none → b≠x := fun b n z => by subst z;rw [n] at mu;exact mu
  have hb : ∀ b, H b=none → b≠e := fun b n z => by
    subst z
    rcases he with r | r
    · exact hx b n r
    · rw [n] at r;cases r
  have hm : ∀ b u, H b=some u → ¬ Mut (some u) → b≠x := fun b u q nm z => by subst z;rw [q] at mu;exact nm mu
  refine ⟨fun b u q n _ _ => k b u (hb b n) q, fun b u q n _ _ => ⟨u.slots, k b u (hb b n) q⟩, fun b u q n _ => by rw [ak (hx b n)];exact n, fun b u q _ => ?_,
    fun b xs q => by rw [ak (hm b _ q fun z => z)];exact q, fun b u xs q => by rw [ak (hm b _ q fun z => z)];exact q, fun b ps q => ⟨#[], by rw [ak (hm b _ q fun z => z), q];simp⟩⟩
  by_cases hbe : b=e
  · subst hbe;exact heo
  · exact ⟨u, k b u hbe q⟩
end
def trk (h : Heap)(H : Hp) : List Addr := (List.range h.objs.size).filter fun a => (H a).isSome
def jG (h : Heap)(H : Hp) : Heap := PySem.W.hideAll h (trk h H)
theorem h_ (h : Heap)(H : Hp) : (jG h H).objs.size=h.objs.size := PySem.W.hideAll_size _ _
theorem jH {h : Heap}{H : Hp}{b : Addr}{o : Obj}(e : h.get? b=some o)(n : H b=none) : (jG h H).get? b=some o :=
  PySem.W.hideAll_get _ e fun hm => by
    have q : (H b).isSome=true := (List.mem_filter.mp hm).2
    rw [n] at q;simp at q
theorem kR {h : Heap}{H : Hp}{b : Addr}{o : Obj}(e : (jG h H).get? b=some o) : h.get? b=some o ∧ H b=none := by
  have e' : h.get? b=some o := PySem.W.of_hideAll (trk h H) e
  refine ⟨e', ?_⟩
  cases q : H b with
  | none => rfl
  | some x =>
    have hm : b∈trk h H := List.mem_filter.mpr ⟨List.mem_range.mpr (Heap.lt_size e'), by simp [q]⟩
    have z : (jG h H).get? b=none := PySem.W.hideAll_none (trk h H) hm
    rw [z] at e;cases e
structure Mod (K : PySem.W.Frag) (mg : Str → Option Value) (base : Heap) : Prop where
  kin : K.In base
  glob : base.Ns mainGlobals mg
  blt : ∃ mb, base.Ns builtinsNs mb ∧ ∀ x : Str, x ≠ "__name__" → mb x=bootBuiltins x
  nolimit : base.NoLimit
/-- the context: a def's body (or a comprehension's block) running. base: fixed through the whole law;s₀, H₀: the entry;outer: the frames whose slots others may change (a def's callers);stack: all frames that run;
   ex: iterators that were made ahead of the entry and are walked here (a comprehension's);fn: the names whose cells were made at the entry (a def: all;a comprehension's block: its own);calm: not within an except suite;pn: pins that every state bears;xe: what is wanted of an exception that leaves the code -/
structure Cx where
  prog : Program
  w : World
  K : PySem.W.Frag
  mg : Str → Option Value
  base : Heap
  A : Around
  N : List Str
  s₀ : Shared
  H₀ : Hp
  env : Env
  outer : List Env
  stack : List Env
  ex : List Addr
  fn : Str → Bool
  calm : Bool
  pn : List (Addr × Obj)
  xe : Value → Shared → Prop
def frs (l : List Env) : List Addr := l.filterMap (·.frame)
abbrev Cx.fs (X : Cx) : List Addr := frs X.outer
def Vis (sc : Scope)(x : Str) : Prop := sc.names.lookup x=some .local ∨ sc.names.lookup x=some .cell ∨ sc.names.lookup x=some .free
def Loc (sc : Scope)(x : Str) : Prop := sc.names.lookup x=some .local ∨ sc.names.lookup x=some .cell
def pD (env : Env)(h : Heap)(m : Str → Option Value)(x : Str)(u : Value) : Prop :=
  (env.kindOf x=some .local ∧ m x=some u) ∨ ((env.kindOf x=some .cell ∨ env.kindOf x=some .free) ∧ ∃ c, env.cells.lookup x=some c ∧ h.IsCell c (some u))
structure Cx.Ok (X : Cx) : Prop where
  mod : Mod X.K X.mg X.base
  kind : X.env.scope.kind = .function
  glob : X.env.globals=mainGlobals
  blt : X.env.builtins=builtinsNs
  above : X.s₀.heap.objs.size≤X.env.locals
  inj : ∀ x y c, X.env.cells.lookup x=some c → X.env.cells.lookup y=some c → x=y
  has : ∀ x, (X.env.kindOf x=some .cell ∨ X.env.kindOf x=some .free) → ∃ c, X.env.cells.lookup x=some c
  cab : ∀ x c, X.fn x=true → X.env.cells.lookup x=some c → X.s₀.heap.objs.size≤c
  hd : X.calm=true → X.A.handled=none
  frames : X.A.frames=some X.stack
  stk : X.stack=X.outer ∨ (X.stack=X.env::X.outer ∧ X.env.frame=some X.env.locals)
  exf : ∀ b∈X.ex, b≠X.env.locals ∧ ∀ x c, X.env.cells.lookup x=some c → c≠b
  bs : ∀ b o, X.base.get? b=some o → X.s₀.heap.get? b=some o ∧ X.H₀ b=none
  bsz : X.base.objs.size≤X.s₀.heap.objs.size
  noex : ∀ b o, X.base.get? b=some o → b∉X.ex
  exfs : ∀ b∈X.ex, b∉X.fs
  funs : X.s₀.heap.FunFrames X.base X.outer
  frf : ∀ b∈X.fs, X.H₀ b=none
structure Inv (X : Cx) (pins : List (Addr × Obj)) (σ : List (Option V)) (H : Hp) (s : Shared) : Prop where
  ok : X.Ok
  os : s.os=X.s₀.os
  bare : AllBare s.gens
  base : Un X.fs X.ex X.H₀ H X.s₀.heap s.heap
  loc : ∃ m, s.heap.Ns X.env.locals m ∧ ∀ (i : Nat) (x : Str) (v : V), X.N[i]? = some x → σ[i]? = some (some v) → Vis X.env.scope x → ∃ u, aR v u ∧ pD X.env s.heap m x u
  cell : ∀ x c, X.env.cells.lookup x=some c → ∃ v, s.heap.IsCell c v
  free : H X.env.locals=none
  freeC : ∀ x c, X.env.cells.lookup x=some c → H c=none
  pin : ∀ p∈X.pn++pins, s.heap.get? p.1=some p.2 ∧ H p.1=none ∧ p.1≠X.env.locals ∧ p.1∉X.fs ∧ ∀ v, p.2.data ≠ .cell v
  hok : HOk X.prog X.w H s.heap
  len : σ.length=X.N.length
section
variable {X : Cx} {pins : List (Addr × Obj)} {σ : List (Option V)} {H H' : Hp} {s : Shared} {h' : Heap}
theorem Cx.Ok.nofr (ok : X.Ok){b : Addr}{o : Obj}(e : X.base.get? b=some o) : b∉X.fs := fun hb => by
  have := (ok.funs.mem hb).1
  rw [e] at this;cases this
theorem Inv.bs (I : Inv X pins σ H s) : ∀ b o, X.base.get? b=some o → s.heap.get? b=some o ∧ H b=none := fun b o e =>
  ⟨I.base.keep b o (I.ok.bs b o e).1 (I.ok.bs b o e).2 (I.ok.nofr e) (I.ok.noex b o e), I.base.free b o (I.ok.bs b o e).1 (I.ok.bs b o e).2 (I.ok.noex b o e)⟩
theorem Inv.bk (I : Inv X pins σ H s) : ∀ b o, X.base.get? b=some o → s.heap.get? b=some o := fun b o e => (I.bs b o e).1
theorem Inv.mod (I : Inv X pins σ H s) : Mod X.K X.mg X.base := I.ok.mod
theorem Inv.kIn (I : Inv X pins σ H s) : X.K.In s.heap := I.ok.mod.kin.keeps I.bk
theorem Inv.fr (I : Inv X pins σ H s) : ∃ m, Fr X.base X.env.locals s.heap m :=
  let ⟨m, hn, _⟩ := I.loc
  ⟨m, hn, I.bk, Nat.le_trans I.ok.bsz I.ok.above⟩
theorem Inv.lt (I : Inv X pins σ H s) : X.env.locals < s.heap.objs.size := let ⟨_, hn, _⟩ := I.loc; hn.lt
theorem Inv.sz (I : Inv X pins σ H s) : X.s₀.heap.objs.size≤s.heap.objs.size := Nat.le_trans I.ok.above (Nat.le_of_lt I.lt)
theorem Inv.nofs (I : Inv X pins σ H s){a : Addr}(h : s.heap.objs.size≤a) : a∉X.fs := fun hb => by
  obtain ⟨_, o, ho, _⟩ := I.ok.funs.mem hb
  exact absurd (Nat.lt_of_lt_of_le (Heap.lt_size ho) (Nat.le_trans I.sz h)) (Nat.lt_irrefl _)
theorem Inv.cne (I : Inv X pins σ H s) : ∀ x c, X.env.cells.lookup x=some c → c≠X.env.locals := fun x c e z => by
  obtain ⟨v, o, ho, hd⟩ := I.cell x c e
  obtain ⟨m, ⟨o', es, ep, ho', hd', _⟩, _⟩ := I.loc
  rw [z, ho'] at ho;cases ho;rw [hd'] at hd;cases hd
theorem Inv.funs (I : Inv X pins σ H s) : s.heap.FunFrames X.base X.outer := by
  have all : ∀ (l : List Env), (∀ b∈frs l, b∈X.fs) → X.s₀.heap.FunFrames X.base l → s.heap.FunFrames X.base l := by
    intro l
    induction l with
    | nil => intro _ _;trivial
    | cons env r ih =>
      intro hs hl
      obtain ⟨hk, ⟨L, o, hf, hn, ho, hd⟩, hr⟩ := hl
      have hL : L∈X.fs := hs L (by unfold frs;rw [List.filterMap_cons, hf];exact List.mem_cons_self)
      obtain ⟨sl, e⟩ := I.base.slot L o ho (I.ok.frf L hL) hL fun z => I.ok.exfs L z hL
      exact ⟨hk, ⟨L, _, hf, hn, e, hd⟩, ih (fun b hb => hs b (by unfold frs;rw [List.filterMap_cons, hf];exact List.mem_cons_of_mem _ hb)) hr⟩
  exact all X.outer (fun _ hb => hb) I.ok.funs
theorem Inv.stack (I : Inv X pins σ H s) : s.heap.FunFrames X.base X.stack := by
  rcases I.ok.stk with e | ⟨e, hf⟩
  · rw [e];exact I.funs
  · rw [e]
    obtain ⟨m, hn, _⟩ := I.loc
    refine .cons (by rw [I.ok.kind];decide) hf hn ?_ I.funs
    exact Heap.get?_none_of_le (Nat.le_trans I.ok.bsz I.ok.above)
theorem Inv.stkSub (I : Inv X pins σ H s) : ∀ b∈frs X.stack, b∈X.env.locals::X.fs := fun b hb => by
  rcases I.ok.stk with e | ⟨e, hf⟩
  · rw [e] at hb;exact List.mem_cons_of_mem _ hb
  · rw [e] at hb
    unfold frs at hb
    rw [List.filterMap_cons, hf] at hb
    exact hb
theorem Inv.stkFree (I : Inv X pins σ H s) : ∀ b∈frs X.stack, H b=none := fun b hb => by
  rcases List.mem_cons.mp (I.stkSub b hb) with e | hb
  · rw [e];exact I.free
  · obtain ⟨_, o, ho, _⟩ := I.ok.funs.mem hb
    exact I.base.free b o ho (I.ok.frf b hb) fun z => I.ok.exfs b z hb
theorem Inv.step {g' : Array GenState}{t' : Nat}{d' : Drawn}{ch : List Addr}(I : Inv X pins σ H s)
    (hch : ∀ b∈ch, (b∈X.ex ∨ X.s₀.heap.objs.size≤b) ∧ b≠X.env.locals ∧ (∀ x c, X.env.cells.lookup x=some c → c≠b) ∧ ∀ p∈X.pn++pins, p.1≠b)
    (keep : ∀ b o, b≠X.env.locals → b∉X.fs → b∉ch → s.heap.get? b=some o → H b=none → h'.get? b=some o)
    (slot : ∀ b o, b≠X.env.locals → b∈X.fs → b∉ch → s.heap.get? b=some o → H b=none → ∃ sl, h'.get? b=some { o with slots := sl }) (free : ∀ b o, b∉ch → s.heap.get? b=some o → H b=none → H' b=none)
    (there : ∀ b o, b∉ch → s.heap.get? b=some o → ∃ o', h'.get? b=some o')
    (tups : ∀ b xs, H b=some (.tup xs) → H' b=some (.tup xs)) (frzs : ∀ b o u, H b=some (.frz o u) → H' b=some (.frz o u)) (tbls : ∀ b ps, H b=some (.tbl ps) → ∃ more, H' b=some (.tbl (ps++more)))
    (ns : ∀ m, s.heap.Ns X.env.locals m → h'.Ns X.env.locals m) (hok : HOk X.prog X.w H' h') (hg : AllBare g') :
    Inv X pins σ H' { s with heap := h', gens := g', drawn := d', toks := t' } := by
  have neL : ∀ b o, X.s₀.heap.get? b=some o → b≠X.env.locals := fun b o e => Nat.ne_of_lt (Nat.lt_of_lt_of_le (Heap.lt_size e) I.ok.above)
  have neC : ∀ b o, X.s₀.heap.get? b=some o → b∉X.ex → b∉ch := fun b o e hx hb => by
    rcases (hch b hb).1 with z | z
    · exact hx z
    · exact absurd (Nat.lt_of_lt_of_le (Heap.lt_size e) z) (Nat.lt_irrefl _)
  have cellK : ∀ x c, X.env.cells.lookup x=some c → ∀ v, s.heap.IsCell c v → h'.IsCell c v := fun x c e v ⟨o, ho, hd⟩ => by
    have nch : c∉ch := fun z => (hch c z).2.2.1 x c e rfl
    by_cases hc : c∈X.fs
    · obtain ⟨sl, q⟩ := slot c o (I.cne x c e) hc nch ho (I.freeC x c e)
      exact ⟨_, q, hd⟩
    · exact ⟨o, keep c o (I.cne x c e) hc nch ho (I.freeC x c e), hd⟩
  refine ⟨I.ok, I.os, hg, ⟨fun b o e n hb hx => ?_, fun b o e n hb hx => ?_, fun b o e n hx => ?_, fun b o e hx => ?_, fun b xs e => tups b xs (I.base.tups b xs e), fun b o xs e => frzs b o xs (I.base.frzs b o xs e), fun b ps e => ?_⟩, ?_, fun x c e => ?_, ?_, fun x c e => ?_, fun p hp => ?_, hok, I.len⟩
  · exact keep b o (neL b o e) hb (neC b o e hx) (I.base.keep b o e n hb hx) (I.base.free b o e n hx)
  · obtain ⟨sl, e1⟩ := I.base.slot b o e n hb hx
    obtain ⟨sl', e2⟩ := slot b _ (neL b o e) hb (neC b o e hx) e1 (I.base.free b o e n hx)
    exact ⟨sl', e2⟩
  · obtain ⟨o', e1⟩ := I.base.there b o e hx
    exact free b o' (neC b o e hx) e1 (I.base.free b o e n hx)
  · obtain ⟨o', e1⟩ := I.base.there b o e hx
    exact there b o' (neC b o e hx) e1
  · obtain ⟨m1, e1⟩ := I.base.tbls b ps e
    obtain ⟨m2, e2⟩ := tbls b _ e1
    exact ⟨m1++m2, by rw [e2, Array.append_assoc]⟩
  · obtain ⟨m, hn, hl⟩ := I.loc
    refine ⟨m, ns m hn, fun i x v e1 e2 e3 => ?_⟩
    obtain ⟨u, r, l⟩ := hl i x v e1 e2 e3
    refine ⟨u, r, ?_⟩
    rcases l with l | ⟨k, c, e, z⟩
    · exact .inl l
    · exact .inr ⟨k, c, e, cellK x c e _ z⟩
  · obtain ⟨v, z⟩ := I.cell x c e
    exact ⟨v, cellK x c e v z⟩
  · obtain ⟨m, ⟨o, _, _, ho, _⟩, _⟩ := I.loc
    exact free _ o (fun z => (hch _ z).2.1 rfl) ho I.free
  · obtain ⟨v, o, ho, hd⟩ := I.cell x c e
    exact free c o (fun z => (hch c z).2.2.1 x c e rfl) ho (I.freeC x c e)
  · obtain ⟨e, n, ne, nf, d⟩ := I.pin p hp
    have nch : p.1∉ch := fun z => (hch p.1 z).2.2.2 p hp rfl
    exact ⟨keep p.1 p.2 ne nf nch e n, free p.1 p.2 nch e n, ne, nf, d⟩
theorem Inv.un {t' : Nat}(I : Inv X pins σ H s)(u : Un X.fs [] H H' s.heap h')(hok : HOk X.prog X.w H' h') : Inv X pins σ H' { s with heap := h', toks := t' } := by
  obtain ⟨m, ⟨o, es, ep, ho, r⟩, _⟩ := id I.loc
  obtain ⟨sl, hL⟩ := u.any ho I.free (by simp)
  exact I.step (g' := s.gens) (d' := s.drawn) (ch := []) (fun _ z => nomatch z) (fun b o _ hb _ e n => u.keep b o e n hb (by simp)) (fun b o _ hb _ e n => u.slot b o e n hb (by simp)) (fun b o _ e n => u.free b o e n (by simp)) (fun b o _ e => u.there b o e (by simp)) u.tups u.frzs u.tbls (fun m' hm => by
    obtain ⟨o', es', ep', ho', r'⟩ := hm
    rw [ho] at ho';cases ho'
    exact ⟨_, es', ep', hL, r'⟩) hok I.bare
theorem Inv.call {g' : Array GenState}{t' : Nat}{d' : Drawn}{ch : List Addr}(I : Inv X pins σ H s)(u : Un (frs X.stack) ch H H' s.heap h')(hok : HOk X.prog X.w H' h')(hg : AllBare g')
    (hch : ∀ b∈ch, (b∈X.ex ∨ X.s₀.heap.objs.size≤b) ∧ b≠X.env.locals ∧ (∀ x c, X.env.cells.lookup x=some c → c≠b) ∧ ∀ p∈X.pn++pins, p.1≠b) :
    Inv X pins σ H' { s with heap := h', gens := g', drawn := d', toks := t' } := by
  obtain ⟨m, ⟨o, es, ep, ho, r⟩, _⟩ := id I.loc
  obtain ⟨sl, hL⟩ := u.any ho I.free fun z => (hch _ z).2.1 rfl
  exact I.step (ch := ch) hch (fun b o hL hb hc e n => u.keep b o e n (fun z => (List.mem_cons.mp (I.stkSub b z)).elim hL hb) hc) (fun b o _ _ hc e n => u.any e n hc) (fun b o hc e n => u.free b o e n hc) (fun b o hc e => u.there b o e hc) u.tups u.frzs u.tbls (fun m' hm => by
    obtain ⟨o', es', ep', ho', r'⟩ := hm
    rw [ho] at ho';cases ho'
    exact ⟨_, es', ep', hL, r'⟩) hok hg
theorem Inv.turned {t' : Nat}{it : Addr}(I : Inv X pins σ H s)(k : ∀ b o, b≠it → s.heap.get? b=some o → h'.get? b=some o)(hn : H it=none)(hL : it≠X.env.locals)
    (h1 : it∈X.ex ∨ X.s₀.heap.objs.size≤it) (h2 : ∀ x c, X.env.cells.lookup x=some c → c≠it) (h3 : ∀ p∈X.pn++pins, p.1≠it) : Inv X pins σ H { s with heap := h', toks := t' } := by
  have nit : ∀ b u, H b=some u → b≠it := fun b u e z => by rw [z, hn] at e;cases e
  refine I.step (g' := s.gens) (d' := s.drawn) (ch := [it]) (fun b hb => ?_) (fun b o _ _ hc e _ => k b o (fun z => hc (by simp [z])) e) (fun b o _ _ hc e _ => ⟨o.slots, k b o (fun z => hc (by simp [z])) e⟩) (fun _ _ _ _ n => n)
    (fun b o hc e => ⟨o, k b o (fun z => hc (by simp [z])) e⟩) (fun _ _ e => e) (fun _ _ _ e => e) (fun b ps e => ⟨#[], by rw [e];simp⟩) (fun m hm => ?_) (fun b u e => ?_) I.bare
  · have e : b=it := by simpa using hb
    subst e
    exact ⟨h1, hL, h2, h3⟩
  · obtain ⟨o, es, ep, ho, r⟩ := hm
    exact ⟨o, es, ep, k _ o (Ne.symm hL) ho, r⟩
  · refine (I.hok b u e).stay (fun c v hc q => k c v ?_ q) (fun _ q => q) fun _ _ q => q
    rcases hc with z | z
    · rw [z];exact nit b u e
    · exact nit c _ z
theorem Inv.tok (I : Inv X pins σ H s)(t : Nat) : Inv X pins σ H { s with toks := t } := I.un (h' := s.heap) (t' := t) Un.refl I.hok
theorem Inv.kept {t' : Nat}(I : Inv X pins σ H s)(k : ∀ b u, s.heap.get? b=some u → h'.get? b=some u) : Inv X pins σ H { s with heap := h', toks := t' } := I.un (Un.kept k) (I.hok.kept k)
theorem Inv.laid {a : Addr}{o : HO}{t' : Nat}(I : Inv X pins σ H s)(k : ∀ b u, s.heap.get? b=some u → h'.get? b=some u)(hp : s.heap.objs.size≤a)(new : bp X.prog X.w (upd H a o) h' a o) :
    Inv X pins σ (upd H a o) { s with heap := h', toks := t' } := I.un (Un.laid k hp (I.hok.fresh hp)) (I.hok.laid k hp new)
theorem Inv.write {x e : Addr}{o : HO}{t' : Nat}(I : Inv X pins σ H s)(mu : Mut (H x))(he : e=x ∨ H e=some (.own x))(k : ∀ b u, b≠e → s.heap.get? b=some u → h'.get? b=some u)(heo : ∃ u, h'.get? e=some u)
    (new : bp X.prog X.w (upd H x o) h' x o) : Inv X pins σ (upd H x o) { s with heap := h', toks := t' } := I.un (Un.write mu he k heo) (I.hok.write mu he k heo new)
theorem Inv.pins_of {pins' : List (Addr × Obj)}(I : Inv X pins σ H s)(h : ∀ p∈pins', s.heap.get? p.1=some p.2 ∧ H p.1=none ∧ p.1≠X.env.locals ∧ p.1∉X.fs ∧ ∀ v, p.2.data ≠ .cell v) : Inv X pins' σ H s :=
  ⟨I.ok, I.os, I.bare, I.base, I.loc, I.cell, I.free, I.freeC, fun p hp => (List.mem_append.mp hp).elim (fun z => I.pin p (List.mem_append_left _ z)) (h p), I.hok, I.len⟩
theorem gj {N : List Str}(hN : N.Nodup){i j : Nat}{x : Str}(a : N[i]? = some x)(b : N[j]? = some x) : i=j := by
  obtain ⟨h1, e1⟩ := List.getElem?_eq_some_iff.mp a
  obtain ⟨h2, e2⟩ := List.getElem?_eq_some_iff.mp b
  exact (List.getElem_inj hN).mp (e1.trans e2.symm)
theorem ia {M : Model}{A : Around}{E : Value → Shared → Prop}{i : Nat}{x : Str}{v : V}{u : Value}{Q : Unit → Shared → Prop}(I : Inv X pins σ H s)(hN : X.N.Nodup)(hi : X.N[i]? = some x)(hx : Loc X.env.scope x)(r : aR v u)
    (h : ∀ s', Inv X pins (σ.set i (some v)) H s' → (∃ a, Heap.SameBut a s.heap s'.heap ∧ (a=X.env.locals ∨ X.env.cells.lookup x=some a)) → Q () s') (hf : X.fn x=true ∨ X.env.scope.names.lookup x=some .local := by first | exact .inl rfl | exact .inr rfl | assumption) : wpAny M A (storeName X.env x u) Q E s := by
  obtain ⟨m, hn, hl⟩ := id I.loc
  have hcls : (X.env.scope.kind == .class || (X.env.scope.kind == .module && X.env.locals != X.env.globals))=false := by rw [I.ok.kind];rfl
  have hiσ : i < σ.length := by rw [I.len];exact (List.getElem?_eq_some_iff.mp hi).1
  have cne := I.cne
  have tracked : ∀ {a : Addr} {h' : Heap}, (∃ o, s.heap.get? a=some o ∧ H a=none) → Heap.SameBut a s.heap h' → HOk X.prog X.w H h' := fun {a h'} ha hs b ob e => by
    obtain ⟨_, _, hfree⟩ := ha
    refine (I.hok b ob e).stay (fun c w' hc q => (hs.2 c ?_).trans q) (fun _ q => q) fun _ _ q => q
    rintro rfl
    rcases hc with rfl | hc
    · rw [hfree] at e;cases e
    · rw [hfree] at hc;cases hc
  rcases hx with hk | hk
  · refine wpAny_storeName_local hk hn (fun h' hn' hs => ?_) hcls
    obtain ⟨oL, _, _, hoL, _⟩ := id hn
    refine h _ ⟨I.ok, I.os, I.bare, ⟨fun b o e n hb hx => ?_, fun b o e n hb hx => ?_, I.base.free, fun b o e hx => ?_, I.base.tups, I.base.frzs, I.base.tbls⟩, ⟨_, hn', fun j y v' e1 e2 e3 => ?_⟩, fun y c e => ?_, I.free, I.freeC, fun p hp => ?_, tracked ⟨oL, hoL, I.free⟩ hs, by simpa using I.len⟩ ⟨_, hs, .inl rfl⟩
    · exact (hs.2 b (Nat.ne_of_lt (Nat.lt_of_lt_of_le (Heap.lt_size e) I.ok.above))).trans (I.base.keep b o e n hb hx)
    · obtain ⟨sl, e1⟩ := I.base.slot b o e n hb hx
      exact ⟨sl, (hs.2 b (Nat.ne_of_lt (Nat.lt_of_lt_of_le (Heap.lt_size e) I.ok.above))).trans e1⟩
    · obtain ⟨o', e1⟩ := I.base.there b o e hx
      exact ⟨o', (hs.2 b (Nat.ne_of_lt (Nat.lt_of_lt_of_le (Heap.lt_size e) I.ok.above))).trans e1⟩
    · by_cases hj : j=i
      · subst hj
        rw [hi] at e1;cases e1
        rw [List.getElem?_set_self hiσ] at e2
        cases e2
        exact ⟨u, r, .inl ⟨hk, by simp⟩⟩
      · rw [List.getElem?_set_ne (Ne.symm hj)] at e2
        obtain ⟨u', r', q⟩ := hl j y v' e1 e2 e3
        refine ⟨u', r', ?_⟩
        rcases q with ⟨k, e⟩ | ⟨k, c, e, z⟩
        · refine .inl ⟨k, ?_⟩
          have : y≠x := fun e => hj (gj hN e1 (e ▸ hi))
          simp [this, e]
        · exact .inr ⟨k, c, e, z.sameBut hs (cne y c e)⟩
    · obtain ⟨w', z⟩ := I.cell y c e
      exact ⟨w', z.sameBut hs (cne y c e)⟩
    · obtain ⟨e, n, ne, nf, d⟩ := I.pin p hp
      exact ⟨(hs.2 p.1 ne).trans e, n, ne, nf, d⟩
  · have hfn : X.fn x=true := by
      rcases hf with z | z
      · exact z
      · rw [z] at hk;cases hk
    obtain ⟨c, hc⟩ := I.ok.has x (.inl hk)
    obtain ⟨w', z⟩ := I.cell x c hc
    refine wpAny_storeName_cell I.ok.kind hk hc z (fun h' hc' hs => ?_)
    obtain ⟨oc, hoc, hocd⟩ := id z
    refine h { s with heap := h' } ⟨I.ok, I.os, I.bare, ⟨fun b o e n hb hx => ?_, fun b o e n hb hx => ?_, I.base.free, fun b o e hx => ?_, I.base.tups, I.base.frzs, I.base.tbls⟩, ⟨m, hn.sameBut hs (Ne.symm (cne x c hc)), fun j y v' e1 e2 e3 => ?_⟩, fun y c' e => ?_, I.free, I.freeC, fun p hp => ?_, tracked ⟨oc, hoc, I.freeC x c hc⟩ hs, by simpa using I.len⟩ ⟨c, hs, .inr hc⟩
    · exact (hs.2 b (Nat.ne_of_lt (Nat.lt_of_lt_of_le (Heap.lt_size e) (I.ok.cab x c hfn hc)))).trans (I.base.keep b o e n hb hx)
    · obtain ⟨sl, e1⟩ := I.base.slot b o e n hb hx
      exact ⟨sl, (hs.2 b (Nat.ne_of_lt (Nat.lt_of_lt_of_le (Heap.lt_size e) (I.ok.cab x c hfn hc)))).trans e1⟩
    · obtain ⟨o', e1⟩ := I.base.there b o e hx
      exact ⟨o', (hs.2 b (Nat.ne_of_lt (Nat.lt_of_lt_of_le (Heap.lt_size e) (I.ok.cab x c hfn hc)))).trans e1⟩
    · by_cases hj : j=i
      · subst hj
        rw [hi] at e1;cases e1
        rw [List.getElem?_set_self hiσ] at e2
        cases e2
        exact ⟨u, r, .inr ⟨.inl hk, c, hc, hc'⟩⟩
      · rw [List.getElem?_set_ne (Ne.symm hj)] at e2
        obtain ⟨u', r', q⟩ := hl j y v' e1 e2 e3
        refine ⟨u', r', ?_⟩
        rcases q with q | ⟨k, c', e, z'⟩
        · exact .inl q
        · refine .inr ⟨k, c', e, z'.sameBut hs ?_⟩
          rintro rfl
          exact hj (gj hN e1 (I.ok.inj _ _ _ e hc ▸ hi))
    · by_cases hcc : c'=c
      · subst hcc;exact ⟨_, hc'⟩
      · obtain ⟨w2, z2⟩ := I.cell y c' e
        exact ⟨w2, z2.sameBut hs hcc⟩
    · obtain ⟨e, n, ne, nf, d⟩ := I.pin p hp
      refine ⟨(hs.2 p.1 ?_).trans e, n, ne, nf, d⟩
      intro q
      rw [q, hoc] at e
      have q' : oc=p.2 := Option.some.inj e
      exact d w' (by rw [← q'];exact hocd)
theorem d8 {M : Model}{A : Around}{E : Value → Shared → Prop}{i : Nat}{x : Str}{v : V}{u : Value}{Q : Unit → Shared → Prop}(I : Inv X pins σ H s)(hN : X.N.Nodup)(hi : X.N[i]? = some x)(hx : Loc X.env.scope x)(r : aR v u)
    (h : ∀ s', Inv X pins (σ.set i (some v)) H s' → Q () s') (hf : X.fn x=true ∨ X.env.scope.names.lookup x=some .local := by first | exact .inl rfl | exact .inr rfl | assumption) : wpAny M A (storeName X.env x u) Q E s :=
  ia I hN hi hx r (fun s' I' _ => h s' I') hf
theorem Inv.call' {s' : Shared}{ch : List Addr}(I : Inv X pins σ H s)(ho : s'.os=s.os)(u : Un (frs X.stack) ch H H' s.heap s'.heap)(hok : HOk X.prog X.w H' s'.heap)(hg : AllBare s'.gens)
    (hch : ∀ b∈ch, (b∈X.ex ∨ X.s₀.heap.objs.size≤b) ∧ b≠X.env.locals ∧ (∀ x c, X.env.cells.lookup x=some c → c≠b) ∧ ∀ p∈X.pn++pins, p.1≠b) : Inv X pins σ H' s' := by
  obtain ⟨h', g', d', t', o'⟩ := s'
  have e : o'=s.os := ho
  subst e
  exact I.call (g' := g') (t' := t') (d' := d') u hok hg hch
end
abbrev XK := Value → Option Addr → Hp → Prop
abbrev St := List (Option V)
abbrev VK := V → Hp → Prop
abbrev TE := St → Hp → VK → Prop
abbrev TT := St → Hp → (Bool → Hp → Prop) → Prop
abbrev TA := St → Hp → (List V → Hp → Prop) → Prop
structure fE where
  nx : St → Hp → Prop
  rt : VK
  bk : St → Hp → Prop := fun _ _ => False
  ct : St → Hp → Prop := fun _ _ => False
abbrev TS := fE → St → Hp → Prop
def EP (X : Cx)(pins : List (Addr × Obj))(σ : St)(Q : VK)(u : Value)(s' : Shared) : Prop := ∃ v H', Inv X pins σ H' s' ∧ aR v u ∧ Q v H'
def TP (X : Cx)(pins : List (Addr × Obj))(σ : St)(Q : Bool → Hp → Prop)(b : Bool)(s' : Shared) : Prop := ∃ H', Inv X pins σ H' s' ∧ Q b H'
def AP (X : Cx)(pins : List (Addr × Obj))(σ : St)(Q : List V → Hp → Prop)(us : List Value)(s' : Shared) : Prop := ∃ vs H', Inv X pins σ H' s' ∧ aL vs us ∧ Q vs H'
def SP (X : Cx)(pins : List (Addr × Obj))(D : fE)(f : Flow)(s' : Shared) : Prop :=
  match f with
  | .next => ∃ σ' H', Inv X pins σ' H' s' ∧ D.nx σ' H'
  | .brk => ∃ σ' H', Inv X pins σ' H' s' ∧ D.bk σ' H'
  | .cont => ∃ σ' H', Inv X pins σ' H' s' ∧ D.ct σ' H'
  | .ret u => ∃ v σ' H', Inv X pins σ' H' s' ∧ aR v u ∧ D.rt v H'
def PE (X : Cx)(e : Expr)(t : TE) : Prop :=
  ∀ (pins : List (Addr × Obj)) (s : Shared) (σ : St) (H : Hp) (Q : VK), Inv X pins σ H s → t σ H Q → wpAny (model X.prog X.w) X.A (eval e X.env) (EP X pins σ Q) X.xe s
def PT (X : Cx)(e : Expr)(t : TT) : Prop :=
  ∀ (pins : List (Addr × Obj)) (s : Shared) (σ : St) (H : Hp) (Q : Bool → Hp → Prop), Inv X pins σ H s → t σ H Q → wpAny (model X.prog X.w) X.A (isTrue e X.env (eval e X.env)) (TP X pins σ Q) X.xe s
def PW (X : Cx)(e : Expr)(t : TT) : Prop :=
  ∀ (whole : Sem Value) (pins : List (Addr × Obj)) (s : Shared) (σ : St) (H : Hp) (Q : Bool → Hp → Prop), Inv X pins σ H s → t σ H Q → wpAny (model X.prog X.w) X.A (isTrue e X.env whole) (TP X pins σ Q) X.xe s
theorem PW.pt {X : Cx}{e : Expr}{t : TT}(h : PW X e t) : PT X e t := h _
def PA (X : Cx)(es : List Expr)(t : TA) : Prop :=
  ∀ (pos : Pos) (pins : List (Addr × Obj)) (s : Shared) (σ : St) (H : Hp) (Q : List V → Hp → Prop), Inv X pins σ H s → t σ H Q → wpAny (model X.prog X.w) X.A (spliced (backTo pos (starEach es X.env))) (AP X pins σ Q) X.xe s
def PS (X : Cx)(st : Stmt)(t : TS) : Prop :=
  ∀ (pins : List (Addr × Obj)) (s : Shared) (σ : St) (H : Hp) (D : fE), Inv X pins σ H s → t D σ H → wpAny (model X.prog X.w) X.A (exec st X.env) (SP X pins D) X.xe s
def PSs (X : Cx)(st : List Stmt)(t : TS) : Prop :=
  ∀ (pins : List (Addr × Obj)) (s : Shared) (σ : St) (H : Hp) (D : fE), Inv X pins σ H s → t D σ H → wpAny (model X.prog X.w) X.A (execs st X.env) (SP X pins D) X.xe s
theorem thn {α : Type}{t : Sem α}{Q Q' : α → Shared → Prop}{M : Model}{A : Around}{E : Value → Shared → Prop}{s : Shared}(h : wpAny M A t Q E s)(hQ : ∀ a s, Q a s → Q' a s) : wpAny M A t Q' E s := wpAny_mono h hQ fun _ _ x => x
section
variable {X : Cx}
inductive n6 (i : Nat)(σ : St)(H : Hp)(Q : VK) : Prop
  | mk : ∀ v, (σ[i]? = some (some v)) → (Q v H) → n6 i σ H Q
def tC (v : V) : TE := fun _ H Q => Q v H
theorem mx {i : Nat}{x : Str}{pos : Pos}(hN : X.N[i]? = some x)(hv : Vis X.env.scope x)(hd : (x == ("__debug__" : Str))=false := by decide)(hcd : (x == ("__classdict__" : Str))=false := by decide) : PE X (.Name x pos) (n6 i) := by
  intro pins s σ H Q I h
  obtain ⟨v, e, h⟩ := h
  obtain ⟨m, hn, hl⟩ := I.loc
  obtain ⟨u, r, l⟩ := hl i x v hN e hv
  have fin : EP X pins σ Q u s := ⟨v, H, I, r, h⟩
  rcases l with ⟨hk, hm⟩ | ⟨hk, c, hc, hcell⟩
  · exact wpAny_Name (wpAny_loadName_local I.ok.kind hk hn hm fin) hd
  · rcases hk with hk | hk
    · exact wpAny_Name (wpAny_loadName_cell I.ok.kind hk hc hcell fin) hd
    · exact wpAny_Name (wpAny_loadName_free I.ok.kind hk hc hcell fin hcd) hd
theorem ah {i j pos} : PE X (.Constant (.int i) j pos) (tC (.int i)) := fun _ _ _ H _ I h => wpAny_Constant_int ⟨.int i, H, I.tok _, ⟨_, rfl⟩, h⟩
theorem ib {b j pos} : PE X (.Constant (.bool b) j pos) (tC (.bl b)) := fun _ _ _ H _ I h => Constant_bool ⟨.bl b, H, I, rfl, h⟩
theorem ar {x j pos} : PE X (.Constant (.str x) j pos) (tC (.str x)) := fun _ _ _ H _ I h => Calls.Constant_str ⟨.str x, H, I.tok _, ⟨_, rfl⟩, h⟩
def Gl (X : Cx)(x : Str) : Prop := X.env.kindOf x=some .globalImplicit
theorem fJ {E : Value → Shared → Prop}{pins : List (Addr × Obj)}{s : Shared}{σ : St}{H : Hp}{x : Str}{u : Value}{pos : Pos}{Q : Value → Shared → Prop}(I : Inv X pins σ H s)(hg : Gl X x)(hm : X.mg x=some u)(h : Q u s)
    (hd : (x == ("__debug__" : Str))=false := by decide) : wpAny (model X.prog X.w) X.A (eval (.Name x pos) X.env) Q E s :=
  Calls.Name_function_global I.ok.kind hg (Calls.loadGlobal_global (by rw [I.ok.glob];exact I.mod.glob.keeps I.bk) hm h) hd
theorem gk {E : Value → Shared → Prop}{pins : List (Addr × Obj)}{s : Shared}{σ : St}{H : Hp}{x : Str}{u : Value}{pos : Pos}{Q : Value → Shared → Prop}(I : Inv X pins σ H s)(hg : Gl X x)(hm : X.mg x=none)(hv : bootBuiltins x=some u)(h : Q u s)
    (hn : x ≠ "__name__" := by decide) (hd : (x == ("__debug__" : Str))=false := by decide) : wpAny (model X.prog X.w) X.A (eval (.Name x pos) X.env) Q E s := by
  obtain ⟨mb, h1, h2⟩ := I.mod.blt
  exact Calls.Name_function_global I.ok.kind hg (Calls.loadGlobal_builtin (by rw [I.ok.glob];exact I.mod.glob.keeps I.bk) hm (by rw [I.ok.blt];exact h1.keeps I.bk) ((h2 x hn).trans hv) h) hd
theorem fK {x : Str}{v : V}{u : Value}{pos : Pos}(hg : Gl X x)(hm : X.mg x=some u)(r : aR v u)(hd : (x == ("__debug__" : Str))=false := by decide) : PE X (.Name x pos) (tC v) :=
  fun _ _ _ H _ I h => fJ I hg hm ⟨v, H, I, r, h⟩ hd
variable {a b : Expr} {ta tb : TE} {pos : Pos}
def PC (X : Cx)(op : CmpOp)(a b : Expr)(t : TE) : Prop :=
  ∀ (pins : List (Addr × Obj)) (s : Shared) (σ : St) (H : Hp) (Q : VK), Inv X pins σ H s → t σ H Q →
    wpAny (model X.prog X.w) X.A (eval a X.env) (fun v s₁ => wpAny (model X.prog X.w) X.A (eval b X.env) (fun u s₂ => wpAny (model X.prog X.w) X.A (compareOp op v u) (EP X pins σ Q) X.xe s₂) X.xe s₁) X.xe s
theorem jI (b : Expr){op : CmpOp}(h : op ≠ .In)(h2 : op ≠ .NotIn) : behindInMarks op b=false := by
  have e1 : (op == CmpOp.In)=false := by cases op <;> first | rfl | exact absurd rfl h
  have e2 : (op == CmpOp.NotIn)=false := by cases op <;> first | rfl | exact absurd rfl h2
  cases b <;> simp [behindInMarks, e1, e2]
inductive IsB (x : V)(H : Hp)(Q : Bool → Hp → Prop) : Prop
  | mk : ∀ c, (x = .bl c) → (Q c H) → IsB x H Q
def n8 (Q : (Bool → Hp → Prop)) : V → Hp → Prop := fun x H1 => IsB x H1 Q
def tB (t : TE) : TT := fun σ H Q => t σ H (n8 Q)
theorem km {op : CmpOp}{t : TE}(h : PC X op a b t)(h1 : behindInMarks op b=false := by first | exact jI _ (by decide) (by decide) | rfl) : PT X (.Compare a [op] [b] pos) (tB t) := by
  intro pins s σ H Q I hw
  refine wpAny_isTrue_Compare1 (thn (h pins s σ H _ I hw) fun v s1 h1 => thn h1 fun u s2 h2 => thn h2 fun c s3 zq5 => ?_) h1
  obtain ⟨x, H1, I1, r1, q1⟩ := zq5
  obtain ⟨d, rfl, q⟩ := q1
  cases r1
  exact wpAny_truthy_bool ⟨H1, I1, q⟩
variable {tA tB' : TT} {rest : List Expr}
def fL (u : TT)(σ : St)(Q : (Bool → Hp → Prop)) : Bool → Hp → Prop := fun c H1 => if c=true then u σ H1 Q else Q false H1
def pE (t u : TT) : TT := fun σ H Q => t σ H (fL u σ Q)
def kn (u : TT)(σ : St)(Q : (Bool → Hp → Prop)) : Bool → Hp → Prop := fun c H1 => if c=true then Q true H1 else u σ H1 Q
def tOr (t u : TT) : TT := fun σ H Q => t σ H (kn u σ Q)
def ie (Q : (Bool → Hp → Prop)) : Bool → Hp → Prop := fun c H1 => Q (!c) H1
def pF (t : TT) : TT := fun σ H Q => t σ H (ie Q)
theorem ig (ha : PT X a tA) : PW X (.BoolOp .And [a] pos) tA := by
  intro wh pins s σ H Q I h
  refine isTrue_and (thn (ha pins s σ H Q I h) fun c s1 e => ?_)
  cases c with
  | true => exact isTrue_and_nil e
  | false => exact e
theorem my (ha : PT X a tA) : PW X (.BoolOp .Or [a] pos) tA := by
  intro wh pins s σ H Q I h
  refine isTrue_or (thn (ha pins s σ H Q I h) fun c s1 e => ?_)
  cases c with
  | false => exact isTrue_or_nil e
  | true => exact e
theorem ko (ha : PT X a tA)(hb : PW X (.BoolOp .And (b::rest) pos) tB') : PW X (.BoolOp .And (a::b::rest) pos) (pE tA tB') := by
  intro wh pins s σ H Q I h
  refine isTrue_and (thn (ha pins s σ H _ I h) fun c s1 zq7 => ?_)
  obtain ⟨H1, I1, q1⟩ := zq7
  cases c with
  | true => exact hb wh pins s1 σ H1 Q I1 q1
  | false => exact ⟨H1, I1, q1⟩
theorem n9 (ha : PT X a tA)(hb : PW X (.BoolOp .Or (b::rest) pos) tB') : PW X (.BoolOp .Or (a::b::rest) pos) (tOr tA tB') := by
  intro wh pins s σ H Q I h
  refine isTrue_or (thn (ha pins s σ H _ I h) fun c s1 zq8 => ?_)
  obtain ⟨H1, I1, q1⟩ := zq8
  cases c with
  | true => exact ⟨H1, I1, q1⟩
  | false => exact hb wh pins s1 σ H1 Q I1 q1
theorem gm (ha : PT X a tA) : PT X (.UnaryOp .Not a pos) (pF tA) := by
  intro pins s σ H Q I h
  exact isTrue_not (ha pins s σ H (fun c H1 => Q (!c) H1) I h)
def mz (ta : TE)(tb : TE)(σ : St)(Q : VK) : Bool → Hp → Prop := fun c H1 => if c=true then ta σ H1 Q else tb σ H1 Q
def tIf (t : TT)(ta tb : TE) : TE := fun σ H Q => t σ H (mz ta tb σ Q)
theorem d9 {c : Expr}(hc : PT X c tA)(ha : PE X a ta)(hb : PE X b tb) : PE X (.IfExp c a b pos) (tIf tA ta tb) := by
  intro pins s σ H Q I h
  refine wpAny_IfExp (thn (hc pins s σ H _ I h) fun d s1 zq12 => ?_)
  obtain ⟨H1, I1, q1⟩ := zq12
  cases d with
  | true => exact ha pins s1 σ H1 Q I1 q1
  | false => exact hb pins s1 σ H1 Q I1 q1
end
def SqL (K : PySem.W.Frag)(H : Hp)(a : Addr)(xs : List V) : Prop :=
  Rd H a (.lst xs) ∨
    ∃ (o : Obj) (its : Array Value) (n : Nat), K.lookup a=some o ∧ o.cls = .type "list" ∧ o.dict=none ∧ o.data = .seq its n ∧ its.size≤sizeLine ∧ aL xs its.toList
def SqT (K : PySem.W.Frag)(H : Hp)(a : Addr)(xs : List V) : Prop :=
  Rd H a (.tup xs) ∨
    ∃ (o : Obj) (its : Array Value) (n : Nat), K.lookup a=some o ∧ o.cls = .type "tuple" ∧ o.data = .seq its n ∧ its.size≤sizeLine ∧ aL xs its.toList
def pG : Value → Option V
  | .none => some .non
  | .bool b => some (.bl b)
  | .int i _ => some (.int i)
  | .str x _ => some (.str x)
  | .bytes b _ => some (.byt b)
  | .float b _ => some (.flt b)
  | .ref a => some (.ref a)
  | .type n => some (.ty n)
  | _ => none
theorem aR.abs {x : V}{u : Value}(r : aR x u) : pG u=some x := by
  cases x with
  | non => cases r;rfl
  | bl _ => cases r;rfl
  | int _ => obtain ⟨t, rfl⟩ := r;rfl
  | str _ => obtain ⟨t, rfl⟩ := r;rfl
  | byt _ => obtain ⟨t, rfl⟩ := r;rfl
  | flt _ => obtain ⟨t, rfl⟩ := r;rfl
  | ref _ => cases r;rfl
  | ty _ => cases r;rfl
theorem aR.inj {x y : V}{u : Value}(r : aR x u)(q : aR y u) : x=y := Option.some.inj (r.abs.symm.trans q.abs)
theorem aL.inj : ∀ {xs ys : List V} {us : List Value}, aL xs us → aL ys us → xs=ys
  | _, _, _, .nil, .nil => rfl
  | _, _, _, .cons r t, .cons r' t' => by rw [r.inj r', aL.inj t t']
section
variable {X : Cx} {pins : List (Addr × Obj)} {σ : St} {H : Hp} {s : Shared} {a : Addr} {xs ys : List V}
theorem SqL.of {K : PySem.W.Frag}(h : H a=some (.lst xs)) : SqL K H a xs := .inl (.inl h)
theorem Inv.list (I : Inv X pins σ H s)(h : SqL X.K H a xs) : ∃ its : List Value, aL xs its ∧ PlainL s.heap a its.toArray ∧ xs.length≤sizeLine := by
  rcases h with h | ⟨o, its, n, hk, hc, hd, hs, hz, r⟩
  · obtain ⟨z, its, n, r, e⟩ := h.ok I.hok
    exact ⟨its, r, ⟨_, n, e, rfl, rfl, rfl⟩, z⟩
  · refine ⟨its.toList, r, ⟨o, n, I.kIn a o hk, hc, hd, by simpa using hs⟩, ?_⟩
    have e := r.length
    simp only [Array.length_toList] at e
    omega
theorem Inv.tuple (I : Inv X pins σ H s)(h : SqT X.K H a xs) : ∃ its : List Value, aL xs its ∧ IsTup s.heap a its.toArray ∧ xs.length≤sizeLine := by
  rcases h with h | ⟨o, its, n, hk, hc, hs, hz, r⟩
  · obtain ⟨z, its, r, p, _⟩ := h.ok I.hok
    exact ⟨its, r, p, z⟩
  · refine ⟨its.toList, r, ⟨o, I.kIn a o hk, hc, n, by simpa using hs⟩, ?_⟩
    have e := r.length
    simp only [Array.length_toList] at e
    omega
theorem Inv.list_inj (I : Inv X pins σ H s)(h : SqL X.K H a xs)(h' : SqL X.K H a ys) : xs=ys := by
  obtain ⟨its, r, ⟨o, n, e, _, _, d⟩, _⟩ := I.list h
  obtain ⟨its', r', ⟨o', n', e', _, _, d'⟩, _⟩ := I.list h'
  rw [e] at e';cases e'
  rw [d] at d'
  injection d' with d1 _
  have : its=its' := by simpa using congrArg Array.toList d1
  subst this
  exact r.inj r'
end
abbrev Cx.wish (X : Cx)(E : Value → Shared → Prop) : Cx := { X with xe := E }
abbrev Cx.nox (X : Cx) : Cx := X.wish fun _ _ => False
theorem Cx.Ok.wish {X : Cx}(ok : X.Ok)(E : Value → Shared → Prop) : (X.wish E).Ok :=
  ⟨ok.mod, ok.kind, ok.glob, ok.blt, ok.above, ok.inj, ok.has, ok.cab, ok.hd, ok.frames, ok.stk, ok.exf, ok.bs, ok.bsz, ok.noex, ok.exfs, ok.funs, ok.frf⟩
theorem Cx.Ok.unwish {X : Cx}{E : Value → Shared → Prop}(ok : (X.wish E).Ok) : X.Ok :=
  ⟨ok.mod, ok.kind, ok.glob, ok.blt, ok.above, ok.inj, ok.has, ok.cab, ok.hd, ok.frames, ok.stk, ok.exf, ok.bs, ok.bsz, ok.noex, ok.exfs, ok.funs, ok.frf⟩
section
variable {X : Cx} {pins : List (Addr × Obj)} {σ : St} {H : Hp} {s : Shared} {E : Value → Shared → Prop}
theorem Inv.wish (I : Inv X pins σ H s)(E : Value → Shared → Prop) : Inv (X.wish E) pins σ H s := ⟨I.ok.wish E, I.os, I.bare, I.base, I.loc, I.cell, I.free, I.freeC, I.pin, I.hok, I.len⟩
theorem Inv.unwish (I : Inv (X.wish E) pins σ H s) : Inv X pins σ H s := ⟨I.ok.unwish, I.os, I.bare, I.base, I.loc, I.cell, I.free, I.freeC, I.pin, I.hok, I.len⟩
theorem SP.unwish {D : fE}{f : Flow}{s' : Shared}(h : SP (X.wish E) pins D f s') : SP X pins D f s' := by
  cases f with
  | next => obtain ⟨σ', H', I, q⟩ := h;exact ⟨σ', H', I.unwish, q⟩
  | brk => obtain ⟨σ', H', I, q⟩ := h;exact ⟨σ', H', I.unwish, q⟩
  | cont => obtain ⟨σ', H', I, q⟩ := h;exact ⟨σ', H', I.unwish, q⟩
  | ret u => obtain ⟨v, σ', H', I, r, q⟩ := h;exact ⟨v, σ', H', I.unwish, r, q⟩
theorem PSs.nox {st : List Stmt}{t : TS}(h : PSs X.nox st t) : PSs X st t := fun pins s σ H D I hw =>
  wpAny_mono (h pins s σ H D (I.wish _) hw) (fun _ _ q => q.unwish) fun _ _ z => False.elim z
end
section
variable {X : Cx} {st : Stmt} {rest : List Stmt} {t u : TS} {e : Expr} {te : TE} {pos : Pos}
def n_ : TS := fun D σ H => D.nx σ H
def o5 (t u : TS) : TS := fun D σ H => t { D with nx := u D } σ H
theorem bc : PSs X [] n_ := fun _ _ σ H _ I h => wpAny_execs_nil ⟨σ, H, I, h⟩
theorem af (h1 : PS X st t)(h2 : PSs X rest u) : PSs X (st::rest) (o5 t u) := by
  intro pins s σ H D I h
  refine wpAny_execs_cons (thn (h1 pins s σ H { D with nx := u D } I h) fun f s1 q => ?_)
  cases f with
  | next =>
    obtain ⟨σ', H', I', q⟩ := q
    exact h2 pins s1 σ' H' D I' q
  | ret v => exact q
  | brk => exact q
  | cont => exact q
theorem ao (h1 : PS X st t) : PSs X [st] t := by
  intro pins s σ H D I h
  refine wpAny_execs_cons (thn (h1 pins s σ H D I h) fun f s1 q => ?_)
  cases f with
  | next => exact wpAny_execs_nil q
  | ret v => exact q
  | brk => exact q
  | cont => exact q
theorem Inv.quiet {pins : List (Addr × Obj)}{σ : St}{H : Hp}{s : Shared}(I : Inv X pins σ H s) : interactive X.env=false := by simp [interactive, I.ok.kind]
def jJ (D : fE)(σ : St) : V → Hp → Prop := fun _ H1 => D.nx σ H1
def oa (te : TE) : TS := fun D σ H => te σ H (jJ D σ)
theorem bF (he : PE X e te)(hs : swapsWith e none pos.line X.env=pure false := by rfl) : PS X (.Expr e pos) (oa te) := by
  intro pins s σ H D I h
  exact wpAny_Expr_any (thn (he pins s σ H _ I h) fun v s1 zq15 => (by obtain ⟨x, H1, I1, r1, q1⟩ := zq15;exact ⟨σ, H1, I1, q1⟩)) I.quiet hs
def pH (te : TE) : TS := fun D σ H => te σ H D.rt
theorem aP (he : PE X e te) : PS X (.Return (some e) pos) (pH te) := by
  intro pins s σ H D I h
  exact wpAny_Return_some (thn (he pins s σ H _ I h) fun v s1 zq16 => (by obtain ⟨x, H1, I1, r1, q1⟩ := zq16;exact ⟨x, σ, H1, I1, r1, q1⟩))
def fM (t : TS)(u : TS)(D : fE)(σ : St) : Bool → Hp → Prop := fun b H1 => if b=true then t D σ H1 else u D σ H1
def pI (c : TT)(t u : TS) : TS := fun D σ H => c σ H (fM t u D σ)
theorem cY {c : Expr}{a b : List Stmt}{tc : TT}(hc : PT X c tc)(ha : PSs X a t)(hb : PSs X b u) : PS X (.If c a b pos) (pI tc t u) := by
  intro pins s σ H D I h
  refine wpAny_If (thn (hc pins s σ H _ I h) fun d s1 zq17 => ?_)
  obtain ⟨H1, I1, q1⟩ := zq17
  cases d with
  | true => exact ha pins s1 σ H1 D I1 q1
  | false => exact hb pins s1 σ H1 D I1 q1
end
abbrev TG := V → St → Hp → (St → Hp → Prop) → Prop
def PG (X : Cx)(target : Expr)(t : TG) : Prop :=
  ∀ (pins : List (Addr × Obj)) (s : Shared) (σ : St) (H : Hp) (v : V) (u : Value) (Q : St → Hp → Prop), Inv X pins σ H s → aR v u → t v σ H Q →
    wpAny (model X.prog X.w) X.A (assign target X.env u) (fun _ s' => ∃ σ' H', Inv X pins σ' H' s' ∧ Q σ' H') X.xe s
abbrev TIp := V → V → Hp → VK → Prop
def PIp (X : Cx)(op : Operator)(t : TIp) : Prop :=
  ∀ (pins : List (Addr × Obj)) (s : Shared) (σ : St) (H : Hp) (x y : V) (v u : Value) (Q : VK), Inv X pins σ H s → aR x v → aR y u → t x y H Q →
    wpAny (model X.prog X.w) X.A (inplaceOp op v u) (EP X pins σ Q) X.xe s
section
variable {X : Cx} {pos : Pos}
def kT (i : Nat) : TG := fun v σ H Q => Q (σ.set i (some v)) H
theorem aG {i : Nat}{x : Str}(hN : X.N.Nodup)(hi : X.N[i]? = some x)(hx : Loc X.env.scope x)(hf : X.fn x=true ∨ X.env.scope.names.lookup x=some .local := by first | exact .inl rfl | exact .inr rfl | assumption) : PG X (.Name x pos) (kT i) := by
  intro pins s σ H v u Q I r h
  exact wpAny_assign_Name (d8 I hN hi hx r (fun s' I' => ⟨_, H, I', h⟩) hf)
def aZ (g : TG)(D : fE)(σ : St) : V → Hp → Prop := fun x H1 => g x σ H1 D.nx
def o6 (te : TE)(g : TG) : TS := fun D σ H => te σ H (aZ g D σ)
theorem aq {i : Nat}{x : Str}{e : Expr}{te : TE}{pos' : Pos}(hN : X.N.Nodup)(hi : X.N[i]? = some x)(hx : Loc X.env.scope x)(he : PE X e te)(hs : swapsWith e (some (.Name x pos')) pos.line X.env=pure false := by rfl)(hf : X.fn x=true ∨ X.env.scope.names.lookup x=some .local := by first | exact .inl rfl | exact .inr rfl | assumption) :
    PS X (.Assign [.Name x pos'] e pos) (o6 te (kT i)) := by
  intro pins s σ H D I h
  refine wpAny_Assign_Name (thn (he pins s σ H _ I h) fun v s1 zq23 => ?_) hs
  obtain ⟨y, H1, I1, r1, q1⟩ := zq23
  exact d8 I1 hN hi hx r1 (fun s2 I2 => ⟨_, H1, I2, q1⟩) hf
inductive o7 (i : Nat)(te : TE)(ti : TIp)(D : fE)(σ : St)(H : Hp) : Prop
  | mk : ∀ x, (σ[i]? = some (some x)) → (te σ H fun y H1 => ti x y H1 fun z H2 => D.nx (σ.set i (some z)) H2) → o7 i te ti D σ H
theorem mB {i : Nat}{x : Str}{e : Expr}{te : TE}{op : Operator}{ti : TIp}{pos' : Pos}(hN : X.N.Nodup)(hi : X.N[i]? = some x)(hx : Loc X.env.scope x)(he : PE X e te)(ho : PIp X op ti)(hf : X.fn x=true ∨ X.env.scope.names.lookup x=some .local := by first | exact .inl rfl | exact .inr rfl | assumption) :
    PS X (.AugAssign (.Name x pos') op e pos) (o7 i te ti) := by
  intro pins s σ H D I h
  obtain ⟨v, e1, h⟩ := h
  obtain ⟨m, hn, hl⟩ := I.loc
  have vis : Vis X.env.scope x := by rcases hx with k | k;exact .inl k;exact .inr (.inl k)
  obtain ⟨u, r, l⟩ := hl i x v hi e1 vis
  refine wpAny_AugAssign_Name ?_
  have go : wpAny (model X.prog X.w) X.A (eval e X.env) (fun w s₂ => wpAny (model X.prog X.w) X.A (inplaceOp op u w) (fun r s₃ => wpAny (model X.prog X.w) X.A (storeName X.env x r) (fun _ => SP X pins D .next) X.xe s₃) X.xe s₂) X.xe s := by
    refine thn (he pins s σ H _ I h) fun w s1 zq25 => ?_
    obtain ⟨y, H1, I1, r1, q1⟩ := zq25
    refine thn (ho pins s1 σ H1 v y u w _ I1 r r1 q1) fun z s2 zq26 => ?_
    obtain ⟨zv, H2, I2, r2, q2⟩ := zq26
    exact d8 I2 hN hi hx r2 (fun s3 I3 => ⟨_, H2, I3, q2⟩) hf
  rcases l with ⟨hk, hm⟩ | ⟨hk, c, hc, hcell⟩
  · exact wpAny_loadName_local I.ok.kind hk hn hm go
  · rcases hk with hk | hk
    · exact wpAny_loadName_cell I.ok.kind hk hc hcell go
    · rcases hx with k | k
      · have : X.env.scope.names.lookup x=some .free := hk
        rw [k] at this;cases this
      · have : X.env.scope.names.lookup x=some .free := hk
        rw [k] at this;cases this
def ipI (f : Int → Int → Int) : TIp := fun x y H Q => ∃ i j, x = .int i ∧ y = .int j ∧ Q (.int (f i j)) H
theorem mD : PIp X .Add (ipI fun i j => i+j) := by
  intro pins s σ H x y v u Q I r1 r2 h
  obtain ⟨i, j, e1, e2, q⟩ := h
  subst e1;subst e2
  obtain ⟨t, rfl⟩ := r1
  obtain ⟨t', rfl⟩ := r2
  exact iadd_int ⟨.int _, H, I.tok _, ⟨_, rfl⟩, q⟩
def kq (c : TT)(tb : TS) : TS := fun D σ H => ∃ W : Nat → St → Hp → Prop, (∃ m, W m σ H) ∧ ∀ m σ H, W m σ H →
  c σ H fun b H1 => if b=true then ∃ N : St → Hp → Prop, (∀ σ' H', N σ' H' → ∃ m', m' < m ∧ W m' σ' H') ∧ tb { D with nx := N, ct := N, bk := D.nx } σ H1 else D.nx σ H1
theorem gn {c : Expr}{body : List Stmt}{tc : TT}{tb : TS}(hp : PassesOwn (model X.prog X.w) X.A X.env X.xe)(hc : PT X c tc)(hb : PSs X body tb) : PS X (.While c body [] pos) (kq tc tb) := by
  intro pins s σ H D I h
  obtain ⟨W, ⟨m0, w0⟩, turn⟩ := h
  refine wpAny_While (codeAny_whileLoop (fun n s' => ∃ σ' H', Inv X pins σ' H' s' ∧ W n σ' H') ?_ m0 ⟨σ, H, I, w0⟩)
  rintro n s1 ⟨σ1, H1, I1, w1⟩
  refine wpAny_passesOwn hp (thn (hc pins s1 σ1 H1 _ I1 (turn n σ1 H1 w1)) fun b s2 zq33 => ?_)
  obtain ⟨H2, I2, q2⟩ := zq33
  cases b with
  | true =>
    obtain ⟨N, hN, q2⟩ := q2
    rw [if_pos rfl]
    refine wpAny_passesOwn hp (thn (hb pins s2 σ1 H2 _ I2 q2) fun f s3 q3 => ?_)
    cases f with
    | next =>
      obtain ⟨σ3, H3, I3, n3⟩ := q3
      obtain ⟨m', hm, w3⟩ := hN σ3 H3 n3
      exact ⟨m', hm, σ3, H3, I3, w3⟩
    | cont =>
      obtain ⟨σ3, H3, I3, n3⟩ := q3
      obtain ⟨m', hm, w3⟩ := hN σ3 H3 n3
      exact ⟨m', hm, σ3, H3, I3, w3⟩
    | brk => exact q3
    | ret v => exact q3
  | false =>
    rw [if_neg Bool.false_ne_true]
    exact wpAny_execs_nil ⟨σ1, H2, I2, q2⟩
end
structure It where
  go : Nat → Hp → Prop
  yld : Nat → Hp → V → Hp → Prop
  stop : Nat → Hp → Prop
def fN (X : Cx)(pins : List (Addr × Obj))(H : Hp)(b : Addr) : Prop :=
  H b=none ∧ b≠X.env.locals ∧ b∉X.fs ∧ (b∈X.ex ∨ X.s₀.heap.objs.size≤b) ∧ (∀ x c, X.env.cells.lookup x=some c → c≠b) ∧ ∀ p∈X.pn++pins, p.1≠b
theorem Inv.fpOk {X : Cx}{pins : List (Addr × Obj)}{σ : St}{H H' : Hp}{s : Shared}{b : Addr}(I : Inv X pins σ H s)(hb : s.heap.objs.size≤b)(hn : H' b=none) : fN X pins H' b := by
  refine ⟨hn, Nat.ne_of_gt (Nat.lt_of_lt_of_le I.lt hb), I.nofs hb, .inr (Nat.le_trans I.sz hb), fun x c e z => ?_, fun p hp z => ?_⟩
  · obtain ⟨v, q⟩ := I.cell x c e
    exact absurd (Nat.lt_of_lt_of_le q.lt (by rw [z];exact hb)) (Nat.lt_irrefl _)
  · exact absurd (Nat.lt_of_lt_of_le (Heap.lt_size (I.pin p hp).1) (by rw [z];exact hb)) (Nat.lt_irrefl _)
structure mE (P : Program) (w : World) (K : PySem.W.Frag) (tg : Expr) (J : It) (fp : List Addr) (it : Addr) (tn : Nat → Heap → Prop) : Prop where
  mem : it∈fp
  obj : ∀ i h, tn i h → ∀ b∈fp, ∃ o, h.get? b=some o ∧ ∀ v, o.data ≠ .cell v
  keep : ∀ i h h', tn i h → (∀ b∈fp, ∀ o, h.get? b=some o → h'.get? b=some o) → tn i h'
  item : ∀ (X : Cx), X.prog=P → X.w=w → X.K=K → X.calm=true → ∀ (i : Nat) (pins : List (Addr × Obj)) (s : Shared) (σ : St) (H : Hp) (E : Value → Shared → Prop), Inv X pins σ H s → (∀ b∈fp, fN X pins H b) → tn i s.heap → J.go i H →
    wpAny (model P w) X.A (pyNext (.ref it)) (fun r s1 => ∃ u, r=some u ∧
      wpAny (model P w) X.A (letOwnedTupleGo tg (.ref it) u) (fun _ s2 => ∃ x H', Inv X pins σ H' s2 ∧ aR x u ∧ J.yld i H x H' ∧ tn (i+1) s2.heap ∧ ∀ b∈fp, H' b=none) E s1) E s
  done : ∀ (X : Cx), X.prog=P → X.w=w → X.K=K → X.calm=true → ∀ (i : Nat) (pins : List (Addr × Obj)) (s : Shared) (σ : St) (H : Hp) (E : Value → Shared → Prop), Inv X pins σ H s → (∀ b∈fp, fN X pins H b) → tn i s.heap → J.stop i H →
    wpAny (model P w) X.A (pyNext (.ref it)) (fun r s1 => r=none ∧ Inv X pins σ H s1) E s
  self : ∀ (A : Around) (i : Nat) (s : Shared) (Q : Value → Shared → Prop) (E : Value → Shared → Prop), tn i s.heap → Q (.ref it) s → wpAny (model P w) A (pyIter (.ref it)) Q E s
abbrev TI := St → Hp → (It → Hp → Prop) → Prop
def PIE (X : Cx)(pins : List (Addr × Obj))(σ : St)(tg : Expr)(R : It → Hp → Prop)(itv : Value)(s2 : Shared) : Prop :=
  ∃ (it : Addr) (fp : List Addr) (tn : Nat → Heap → Prop) (J : It) (H' : Hp), itv = .ref it ∧ Inv X pins σ H' s2 ∧ mE X.prog X.w X.K tg J fp it tn ∧ tn 0 s2.heap ∧ (∀ b∈fp, fN X pins H' b) ∧ R J H'
def PI (X : Cx)(tg iter : Expr)(wi : TI) : Prop :=
  ∀ (pins : List (Addr × Obj)) (s : Shared) (σ : St) (H : Hp) (R : It → Hp → Prop), Inv X pins σ H s → wi σ H R →
    wpAny (model X.prog X.w) X.A (eval iter X.env) (fun v s1 => wpAny (model X.prog X.w) X.A (pyIter v) (PIE X pins σ tg R) X.xe s1) X.xe s
theorem kU {M : Model}{A : Around}{E : Value → Shared → Prop}{s : Shared}{tg : Expr}{it : Addr}{u : Value}{o : Obj}{n : String}{vs : Array Value}{Q : Unit → Shared → Prop}(ho : s.heap.get? it=some o)(hc : o.cls = .type n)(hd : o.data = .fields vs)
    (hn : ["enumerate", "zip", "dict_itemiterator", "dict_reverseitemiterator", "odict_iterator", "itertools.zip_longest", "itertools.pairwise"].contains n=false) (hQ : Q () s) : wpAny M A (letOwnedTupleGo tg (.ref it) u) Q E s := by
  unfold letOwnedTupleGo
  cases tg <;> first
    | exact wpAny_pure hQ
    | (cases u <;> first
        | exact wpAny_pure hQ
        | (refine wpAny_bind (wpAny_load ho ?_)
           rw [hc, hd]
           show wpAny M A (if (["enumerate", "zip", "dict_itemiterator", "dict_reverseitemiterator", "odict_iterator", "itertools.zip_longest", "itertools.pairwise"].contains n && vs[0]? == some (rawInt _))=true then _ else _) Q E s
           rw [if_neg (by intro h;rw [hn, Bool.false_and] at h;cases h)]
           exact wpAny_pure hQ))
def Itl (K : PySem.W.Frag)(a : Addr) : It :=
  ⟨fun i H => ∃ xs x, SqL K H a xs ∧ xs[i]? = some x, fun i H x H' => H'=H ∧ ∀ xs, SqL K H a xs → xs[i]? = some x, fun i H => ∃ xs, SqL K H a xs ∧ xs.length≤i⟩
def Itr (lo : Int)(n : Nat) : It := ⟨fun i _ => i < n, fun i H x H' => H'=H ∧ x = .int (lo+i), fun i _ => n≤i⟩
theorem ij {P : Program}{w : World}{K : PySem.W.Frag}{tg : Expr}(a it : Addr) : mE P w K tg (Itl K a) [it] it (fun i h => h.IsListIter it a i) where
  mem := by simp
  obj := fun i h st b hb => by
    have e : b=it := by simpa using hb
    subst e
    obtain ⟨o, e, c, d⟩ := st
    exact ⟨o, e, fun v z => by rw [d] at z;cases z⟩
  keep := fun i h h' st k => st.at fun o e => k it (by simp) o e
  item := by
    intro X hP hw hK hc i pins s σ H E I hf st hg
    subst hP hw hK
    obtain ⟨xs, x, hq, hx⟩ := hg
    obtain ⟨its, rv, p, hz⟩ := I.list hq
    obtain ⟨u, hu, ru⟩ := rv.get hx
    obtain ⟨f0, f1, f2, f3, f4, f5⟩ := hf it (by simp)
    refine wpAny_pyNext_list_item st p.isList (x := u) (by simpa using hu) fun h' st' sb => ?_
    have I1 : Inv X pins σ H { s with heap := h' } := I.turned (t' := s.toks) (fun b o hb e => (sb.2 b hb).trans e) f0 f1 f3 f4 f5
    obtain ⟨o, e, c, d⟩ := id st'
    exact ⟨u, rfl, kU (s := { s with heap := h' }) e c d (by decide) ⟨x, H, I1, ru, ⟨rfl, fun ys hy => by rw [I.list_inj hy hq];exact hx⟩, st', fun b hb => (hf b hb).1⟩⟩
  done := by
    intro X hP hw hK hc i pins s σ H E I hf st hg
    subst hP hw hK
    obtain ⟨xs, hq, hx⟩ := hg
    obtain ⟨its, rv, p, hz⟩ := I.list hq
    obtain ⟨f0, f1, f2, f3, f4, f5⟩ := hf it (by simp)
    have hl := rv.length
    exact wpAny_pyNext_list_end (I.ok.hd hc) st p.isList (by simp;omega) fun h' eb => ⟨rfl, I.turned (t' := s.toks) (fun b o hb e => eb b o hb e) f0 f1 f3 f4 f5⟩
  self := fun _ _ _ _ _ st h => wpAny_pyIter_listiter st h
theorem gX {P : Program}{w : World}{K : PySem.W.Frag}{tg : Expr}(it : Addr)(lo : Int)(n : Nat) : mE P w K tg (Itr lo n) [it] it (fun i h => IsRangeIter h it (lo+(i : Nat)*1) ((n : Int) - (i : Nat)) 1) where
  mem := by simp
  obj := fun i h st b hb => by
    have e : b=it := by simpa using hb
    subst e
    exact ⟨_, st, fun v z => by
      have z' : Data.fields _=Data.cell v := z
      cases z'⟩
  keep := fun i h h' st k => k it (by simp) _ st
  item := by
    intro X hP hw hK hc i pins s σ H E I hf st hg
    subst hP hw hK
    obtain ⟨f0, f1, f2, f3, f4, f5⟩ := hf it (by simp)
    have W := Walks.range (prog := X.prog) (w := X.w) (I.ok.hd hc) it lo 1 n
    refine W.item i s _ _ hg st fun v h' tk hv st' kk => ?_
    obtain ⟨t, rfl⟩ := hv
    have I1 : Inv X pins σ H { s with heap := h', toks := tk } := I.turned (fun b o hb e => kk b o (by simpa using hb) e) f0 f1 f3 f4 f5
    refine ⟨_, rfl, kU (s := { s with heap := h', toks := tk }) (n := "range_iterator") st' rfl rfl (by decide) ⟨.int (lo+i), H, I1, ⟨t, ?_⟩, ⟨rfl, rfl⟩, st', fun b hb => (hf b hb).1⟩⟩
    rw [Int.mul_one]
  done := by
    intro X hP hw hK hc i pins s σ H E I hf st hg
    subst hP hw hK
    obtain ⟨f0, f1, f2, f3, f4, f5⟩ := hf it (by simp)
    exact wpAny_pyNext_range_end (I.ok.hd hc) st (by have : n≤i := hg;omega) fun h' eb => ⟨rfl, I.turned (t' := s.toks) (fun b o hb e => eb b o hb e) f0 f1 f3 f4 f5⟩
  self := fun _ _ _ _ _ st h => wpAny_pyIter_rangeiter st h
section
variable {X : Cx} {tg : Expr}
def mF (K : PySem.W.Frag)(tl : TE) : TI := fun σ H R => tl σ H fun x H1 => ∃ a, x = .ref a ∧ (∃ xs, SqL K H1 a xs) ∧ R (Itl K a) H1
theorem cZ {l : Expr}{tl : TE}(hl : PE X l tl) : PI X tg l (mF X.K tl) := by
  intro pins s σ H R I h
  refine thn (hl pins s σ H _ I h) fun v s1 zq34 => ?_
  obtain ⟨x, H1, I1, r1, q1⟩ := zq34
  obtain ⟨a, e, ⟨xs, hq⟩, q⟩ := q1
  subst e
  cases r1
  obtain ⟨its, rv, p, hz⟩ := I1.list hq
  refine wpAny_pyIter_list p.isList ?_
  refine ⟨s1.heap.objs.size, [s1.heap.objs.size], _, _, H1, rfl, I1.kept (t' := s1.toks) fun b o e => Heap.get?_push_of_some _ e, ij a _, ⟨_, Heap.get?_push_size _ rfl, rfl, rfl⟩, fun b hb => ?_, q⟩
  have e : b=s1.heap.objs.size := by simpa using hb
  subst e
  exact I1.fpOk (Nat.le_refl _) (I1.hok.fresh (Nat.le_refl _))
theorem jK {pins : List (Addr × Obj)}{σ : St}{H : Hp}{s : Shared}{R : It → Hp → Prop}{E : Value → Shared → Prop}{lo hi : Int}{t u v : Tok}{tk : Nat}(I : Inv X pins σ H s)(h1 : -(2 ^ 62)≤lo)(h2 : lo < 2 ^ 62)(h3 : -(2 ^ 62)≤hi)(h4 : hi < 2 ^ 62)
    (q : R (Itr lo (hi - lo).toNat) H) : wpAny (model X.prog X.w) X.A (pyIter (.ref s.heap.objs.size)) (PIE X pins σ tg R) E { s with heap := s.heap.push { cls := .type "range", data := .fields #[.int lo t, .int hi u, .int 1 v] }, toks := tk } := by
  refine wpAny_pyIter_range (IsRange.new ..) (small_one h1 h2 h3 h4) ?_
  have I1 : Inv X pins σ H { s with heap := s.heap.push { cls := .type "range", data := .fields #[.int lo t, .int hi u, .int 1 v] }, toks := tk } := I.kept fun b o e => Heap.get?_push_of_some _ e
  refine ⟨(s.heap.push { cls := .type "range", data := .fields #[.int lo t, .int hi u, .int 1 v] }).objs.size, [(s.heap.push { cls := .type "range", data := .fields #[.int lo t, .int hi u, .int 1 v] }).objs.size], _, _, H, rfl,
    I1.kept (t' := tk) fun b o e => Heap.get?_push_of_some _ e, gX _ lo (hi - lo).toNat, ?_, fun b hb => ?_, q⟩
  · have e1 : lo+((0 : Nat) : Int)*1=lo := by simp
    have e2 : (((hi - lo).toNat : Nat) : Int) - ((0 : Nat) : Int)=Builtin.Range.rangeSize lo hi 1 := by rw [rangeSize_one];split <;> omega
    show IsRangeIter _ _ (lo+((0 : Nat) : Int)*1) ((((hi - lo).toNat : Nat) : Int) - ((0 : Nat) : Int)) 1
    rw [e1, e2]
    exact Heap.get?_push_size _ rfl
  · have e : b=(s.heap.push { cls := .type "range", data := .fields #[.int lo t, .int hi u, .int 1 v] }).objs.size := by simpa using hb
    subst e
    exact I1.fpOk (Nat.le_refl _) (I1.hok.fresh (Nat.le_refl _))
def og (ta : TA) : TI := fun σ H R => ta σ H fun vs H1 => ∃ j : Int, vs=[.int j] ∧ -(2 ^ 62)≤j ∧ j < 2 ^ 62 ∧ R (Itr 0 j.toNat) H1
theorem bu {a : Expr}{ta : TA}{p pos : Pos}(hg : Gl X "range")(hm : X.mg "range" = none)(ha : PA X [a] ta)(hs : starEach [a] X.env=[(false, eval a X.env)] := by rfl) : PI X tg (.Call (.Name "range" p) [a] [] pos) (og ta) := by
  intro pins s σ H R I h
  refine Call_ (gk I hg hm boot_range (PyProof.Rows.callWith_type1 (thn (ha pos pins s σ H _ I h) fun us s1 zq36 => ?_) hs rfl))
  obtain ⟨vs, H1, I1, r1, q1⟩ := zq36
  obtain ⟨j, e, q1, q2, q⟩ := q1
  subst e
  cases r1 with
  | cons r rr =>
    cases rr
    obtain ⟨t, rfl⟩ := r
    exact call_range_1 (jK I1 (by omega) (by omega) q1 q2 (by simpa using q))
def pJ (wi : TI)(g : TG)(tb : TS) : TS := fun D σ H => wi σ H fun J H1 => ∃ W : Nat → Nat → St → Hp → Prop, (∃ m, W 0 m σ H1) ∧ ∀ i m σ H, W i m σ H →
  (J.stop i H ∧ D.nx σ H) ∨ (J.go i H ∧ ∃ N : St → Hp → Prop, (∀ σ' H', N σ' H' → ∃ m', m' < m ∧ W (i+1) m' σ' H') ∧ ∀ x H', J.yld i H x H' → g x σ H' fun σ2 H2 => tb { D with nx := N, ct := N, bk := D.nx } σ2 H2)
def c_ (fp : List Addr)(h : Heap) : List (Addr × Obj) := fp.filterMap fun b => (h.get? b).map fun o => (b, o)
theorem aV {fp : List Addr}{h : Heap}{b : Addr}{o : Obj}(hb : b∈fp)(e : h.get? b=some o) : (b, o)∈c_ fp h := List.mem_filterMap.mpr ⟨b, hb, by rw [e]; rfl⟩
theorem ik {fp : List Addr}{h : Heap}{p : Addr × Obj}(hp : p∈c_ fp h) : p.1∈fp ∧ h.get? p.1=some p.2 := by
  obtain ⟨b, hb, e⟩ := List.mem_filterMap.mp hp
  cases q : h.get? b with
  | none => rw [q] at e;cases e
  | some o =>
    rw [q] at e
    have e' : (b, o)=p := Option.some.inj e
    subst e'
    exact ⟨hb, q⟩
theorem Inv.pinned {pins : List (Addr × Obj)}{σ : St}{H : Hp}{s : Shared}{fp : List Addr}(I : Inv X pins σ H s)(hf : ∀ b∈fp, fN X pins H b)(ho : ∀ b∈fp, ∃ o, s.heap.get? b=some o ∧ ∀ v, o.data ≠ .cell v) : Inv X (pins++c_ fp s.heap) σ H s :=
  I.pins_of fun p hp => (List.mem_append.mp hp).elim (fun z => I.pin p (List.mem_append_right _ z)) fun z => by
    obtain ⟨hb, e⟩ := ik z
    obtain ⟨f0, f1, f2, _⟩ := hf p.1 hb
    obtain ⟨o, e', d⟩ := ho p.1 hb
    rw [e] at e';cases e'
    exact ⟨e, f0, f1, f2, d⟩
theorem Inv.unpinned {pins pl : List (Addr × Obj)}{σ : St}{H : Hp}{s : Shared}(I : Inv X (pins++pl) σ H s) : Inv X pins σ H s := I.pins_of fun p hp => I.pin p (List.mem_append_right _ (List.mem_append_left _ hp))
theorem bO {iter : Expr}{body : List Stmt}{wi : TI}{g : TG}{tb : TS}{pos : Pos}(hp : PassesOwn (model X.prog X.w) X.A X.env X.xe)(hc : X.calm=true)(hi : PI X tg iter wi)(hg : PG X tg g)(hb : PSs X body tb)
    (hs : ∀ x, foldedSetIterable iter X.env x=pure x := by intro _;rfl) : PS X (.For tg iter body [] pos) (pJ wi g tb) := by
  intro pins s σ H D I h
  refine wpAny_For (thn (hi pins s σ H _ I h) fun v s1 h1 => thn h1 fun itv s2 h2 => ?_) hs
  obtain ⟨it, fp, tn, J, H2, e, I2, T, st2, f2, W, ⟨m0, w0⟩, turn⟩ := h2
  subst e
  -- what stays true of the iterator's objects through the loop
  have stat : ∀ {H' : Hp}, (∀ b∈fp, H' b=none) → ∀ b∈fp, fN X pins H' b := fun hn b hb => ⟨hn b hb, (f2 b hb).2⟩
  refine codeAny_forLoop_any (fun n s' => ∃ i σ' H', Inv X pins σ' H' s' ∧ tn i s'.heap ∧ (∀ b∈fp, H' b=none) ∧ W i n σ' H') ?_ m0 ⟨0, σ, H2, I2, st2, fun b hb => (f2 b hb).1, w0⟩
  rintro n s3 ⟨i, σ3, H3, I3, st3, fr3, w3⟩
  rcases turn i n σ3 H3 w3 with ⟨stop, qn⟩ | ⟨go, N, hN, step⟩
  · refine wpAny_passesOwn hp (thn (T.done X rfl rfl rfl hc i pins s3 σ3 H3 X.xe I3 (stat fr3) st3 stop) fun r s4 zq38 => ?_)
    obtain ⟨hr, I4⟩ := zq38
    subst hr
    exact wpAny_execs_nil ⟨σ3, H3, I4, qn⟩
  · refine wpAny_passesOwn hp (thn (T.item X rfl rfl rfl hc i pins s3 σ3 H3 X.xe I3 (stat fr3) st3 go) fun r s4 zq39 => ?_)
    obtain ⟨u, hr, h4⟩ := zq39
    subst hr
    refine wpAny_passesOwn hp (thn h4 fun _ s5 zq40 => ?_)
    obtain ⟨x, H5, I5, r5, y5, st5, fr5⟩ := zq40
    have I5' := I5.pinned (stat fr5) (T.obj _ _ st5)
    refine wpAny_passesOwn hp (thn (hg _ s5 σ3 H5 x u _ I5' r5 (step x H5 y5)) fun _ s6 zq41 => ?_)
    obtain ⟨σ6, H6, I6, q6⟩ := zq41
    refine wpAny_passesOwn hp (thn (hb _ s6 σ6 H6 _ I6 q6) fun f s7 q7 => ?_)
    have again : ∀ {σ7 : St} {H7 : Hp}, Inv X (pins++c_ fp s5.heap) σ7 H7 s7 → N σ7 H7 → ∃ m, m < n ∧ ∃ i σ' H', Inv X pins σ' H' s7 ∧ tn i s7.heap ∧ (∀ b∈fp, H' b=none) ∧ W i m σ' H' := fun {σ7 H7} I7 n7 => by
      obtain ⟨m', hm, w7⟩ := hN σ7 H7 n7
      refine ⟨m', hm, i+1, σ7, H7, I7.unpinned, T.keep _ _ _ st5 fun b hb o e => (I7.pin (b, o) (List.mem_append_right _ (List.mem_append_right _ (aV hb e)))).1, fun b hb => ?_, w7⟩
      obtain ⟨o, e, d⟩ := T.obj _ _ st5 b hb
      exact (I7.pin (b, o) (List.mem_append_right _ (List.mem_append_right _ (aV hb e)))).2.1
    cases f with
    | next => obtain ⟨σ7, H7, I7, n7⟩ := q7;exact again I7 n7
    | cont => obtain ⟨σ7, H7, I7, n7⟩ := q7;exact again I7 n7
    | brk => obtain ⟨σ7, H7, I7, q7⟩ := q7;exact ⟨σ7, H7, I7.unpinned, q7⟩
    | ret v => obtain ⟨x7, σ7, H7, I7, r7, q7⟩ := q7;exact ⟨x7, σ7, H7, I7.unpinned, r7, q7⟩
end
theorem gp {K : PySem.W.Frag}{a : Addr}{xs : List V}{g : TG}{tb : TS}{D : fE}{σ : St}{H : Hp}(Pv : Nat → St → Hp → Prop)(h0 : Pv 0 σ H)(hl : ∀ i σ H, i≤xs.length → Pv i σ H → SqL K H a xs)
    (hs : ∀ i x σ H, xs[i]? = some x → Pv i σ H → g x σ H fun σ2 H2 => tb { D with nx := Pv (i+1), ct := Pv (i+1), bk := D.nx } σ2 H2) (hd : ∀ σ H, Pv xs.length σ H → D.nx σ H) :
    ∃ W : Nat → Nat → St → Hp → Prop, (∃ m, W 0 m σ H) ∧ ∀ i m σ H, W i m σ H →
      ((Itl K a).stop i H ∧ D.nx σ H) ∨ ((Itl K a).go i H ∧ ∃ N : St → Hp → Prop, (∀ σ' H', N σ' H' → ∃ m', m' < m ∧ W (i+1) m' σ' H') ∧ ∀ x H', (Itl K a).yld i H x H' → g x σ H' fun σ2 H2 => tb { D with nx := N, ct := N, bk := D.nx } σ2 H2) := by
  refine ⟨fun i m σ H => m=xs.length - i ∧ i≤xs.length ∧ Pv i σ H, ⟨xs.length, by simp, Nat.zero_le _, h0⟩, ?_⟩
  rintro i m σ H ⟨rfl, hi, p⟩
  have q := hl i σ H hi p
  by_cases hlt : i < xs.length
  · refine .inr ⟨⟨xs, xs[i], q, by simp [hlt]⟩, Pv (i+1), fun σ' H' p' => ⟨xs.length - (i+1), by omega, rfl, hlt, p'⟩, fun x H' y => ?_⟩
    obtain ⟨e, y⟩ := y
    subst e
    exact hs i x σ _ (y xs q) p
  · have e : i=xs.length := by omega
    subst e
    exact .inl ⟨⟨xs, q, Nat.le_refl _⟩, hd σ H p⟩
theorem cq {lo : Int}{n : Nat}{g : TG}{tb : TS}{D : fE}{σ : St}{H : Hp}(Pv : Nat → St → Hp → Prop)(h0 : Pv 0 σ H)
    (hs : ∀ i σ H, i < n → Pv i σ H → g (.int (lo+i)) σ H fun σ2 H2 => tb { D with nx := Pv (i+1), ct := Pv (i+1), bk := D.nx } σ2 H2) (hd : ∀ σ H, Pv n σ H → D.nx σ H) :
    ∃ W : Nat → Nat → St → Hp → Prop, (∃ m, W 0 m σ H) ∧ ∀ i m σ H, W i m σ H →
      ((Itr lo n).stop i H ∧ D.nx σ H) ∨ ((Itr lo n).go i H ∧ ∃ N : St → Hp → Prop, (∀ σ' H', N σ' H' → ∃ m', m' < m ∧ W (i+1) m' σ' H') ∧ ∀ x H', (Itr lo n).yld i H x H' → g x σ H' fun σ2 H2 => tb { D with nx := N, ct := N, bk := D.nx } σ2 H2) := by
  refine ⟨fun i m σ H => m=n - i ∧ i≤n ∧ Pv i σ H, ⟨n, by simp, Nat.zero_le _, h0⟩, ?_⟩
  rintro i m σ H ⟨rfl, hi, p⟩
  by_cases hlt : i < n
  · refine .inr ⟨hlt, Pv (i+1), fun σ' H' p' => ⟨n - (i+1), by omega, rfl, hlt, p'⟩, fun x H' y => ?_⟩
    obtain ⟨e, y⟩ := y
    subst e y
    exact hs i σ _ hlt p
  · have e : i=n := by omega
    subst e
    exact .inl ⟨Nat.le_refl _, hd σ H p⟩
abbrev R2 := V → V → Hp → VK → Prop
def OpR (X : Cx)(f : Value → Value → Sem Value)(r : R2) : Prop :=
  ∀ (pins : List (Addr × Obj)) (s : Shared) (σ : St) (H : Hp) (x y : V) (v u : Value) (Q : VK), Inv X pins σ H s → aR x v → aR y u → r x y H Q →
    wpAny (model X.prog X.w) X.A (f v u) (EP X pins σ Q) X.xe s
def cC (X : Cx)(f : Value)(r : List V → Hp → VK → Prop) : Prop :=
  ∀ (pins : List (Addr × Obj)) (s : Shared) (σ : St) (H : Hp) (xs : List V) (us : List Value) (Q : VK), Inv X pins σ H s → aL xs us → r xs H Q →
    wpAny (model X.prog X.w) X.A (call f us) (EP X pins σ Q) X.xe s
def pK (X : Cx)(r : V → Hp → (Bool → Hp → Prop) → Prop) : Prop :=
  ∀ (pins : List (Addr × Obj)) (s : Shared) (σ : St) (H : Hp) (x : V) (v : Value) (Q : Bool → Hp → Prop), Inv X pins σ H s → aR x v → r x H Q →
    wpAny (model X.prog X.w) X.A (truthy v) (TP X pins σ Q) X.xe s
def mG (r : R2)(Q : VK)(x : V) : V → Hp → Prop := fun y H2 => r x y H2 Q
def mH (r : R2)(tb : TE)(σ : St)(Q : VK) : V → Hp → Prop := fun x H1 => tb σ H1 (mG r Q x)
def tOp (r : R2)(ta tb : TE) : TE := fun σ H Q => ta σ H (mH r tb σ Q)
inductive rI (C : Int → Int → Prop)(g : Int → Int → V)(x : V)(y : V)(H : Hp)(Q : VK) : Prop
  | mk : ∀ i j, (x = .int i) → (y = .int j) → (C i j) → (Q (g i j) H) → rI C g x y H Q
inductive rI0 (g : Int → Int → V)(x : V)(y : V)(H : Hp)(Q : VK) : Prop
  | mk : ∀ i j, (x = .int i) → (y = .int j) → (Q (g i j) H) → rI0 g x y H Q
section
variable {X : Cx} {a b c : Expr} {ta tb tc : TE} {pos : Pos}
theorem oh (ha : PE X a ta)(hb : PE X b tb){pins : List (Addr × Obj)}{s : Shared}{σ : St}{H : Hp}{R : V → V → Hp → Prop}(I : Inv X pins σ H s)
    (h : ta σ H fun x H1 => tb σ H1 fun y H2 => R x y H2) {Q : Value → Shared → Prop} {f : Value → Value → Sem Value}
    (hf : ∀ v u s2 x y H2, Inv X pins σ H2 s2 → aR x v → aR y u → R x y H2 → wpAny (model X.prog X.w) X.A (f v u) Q X.xe s2) :
    wpAny (model X.prog X.w) X.A (eval a X.env) (fun v s₁ => wpAny (model X.prog X.w) X.A (eval b X.env) (fun u s₂ => wpAny (model X.prog X.w) X.A (f v u) Q X.xe s₂) X.xe s₁) X.xe s := by
  refine thn (ha pins s σ H _ I h) fun v s1 zq42 => ?_
  obtain ⟨x, H1, I1, r1, q1⟩ := zq42
  refine thn (hb pins s1 σ H1 _ I1 q1) fun u s2 zq43 => ?_
  obtain ⟨y, H2, I2, r2, q2⟩ := zq43
  exact hf v u s2 x y H2 I2 r1 r2 q2
theorem av {op : Operator}{r : R2}(ho : OpR X (binaryOp op) r)(ha : PE X a ta)(hb : PE X b tb) : PE X (.BinOp a op b pos) (tOp r ta tb) := by
  intro pins s σ H Q I h
  exact wpAny_BinOp (oh ha hb I h fun v u s2 x y H2 I2 rx ry q => ho pins s2 σ H2 x y v u Q I2 rx ry q)
theorem opI {f : Value → Value → Sem Value}{C : Int → Int → Prop}{g : Int → Int → Int}
    (rule : ∀ (i j : Int) (t u : Tok) (s : Shared) (Q : Value → Shared → Prop) (E : Value → Shared → Prop), C i j → Q (.int (g i j) s.toks) { s with toks := s.toks+1 } → wpAny (model X.prog X.w) X.A (f (.int i t) (.int j u)) Q E s) :
    OpR X f (rI C fun i j => .int (g i j)) := by
  intro pins s σ H x y v u Q I rx ry h
  obtain ⟨i, j, rfl, rfl, hc, q⟩ := h
  obtain ⟨t, rfl⟩ := rx
  obtain ⟨t', rfl⟩ := ry
  exact rule i j t t' s _ _ hc ⟨.int (g i j), H, I.tok _, ⟨_, rfl⟩, q⟩
theorem o8 {f : Value → Value → Sem Value}{g : Int → Int → Int}
    (rule : ∀ (i j : Int) (t u : Tok) (s : Shared) (Q : Value → Shared → Prop) (E : Value → Shared → Prop), Q (.int (g i j) s.toks) { s with toks := s.toks+1 } → wpAny (model X.prog X.w) X.A (f (.int i t) (.int j u)) Q E s) :
    OpR X f (rI0 fun i j => .int (g i j)) := by
  intro pins s σ H x y v u Q I rx ry h
  obtain ⟨i, j, rfl, rfl, q⟩ := h
  obtain ⟨t, rfl⟩ := rx
  obtain ⟨t', rfl⟩ := ry
  exact rule i j t t' s _ _ ⟨.int (g i j), H, I.tok _, ⟨_, rfl⟩, q⟩
theorem pL {f : Value → Value → Sem Value}{g : Int → Int → Bool}
    (rule : ∀ (i j : Int) (t u : Tok) (s : Shared) (Q : Value → Shared → Prop) (E : Value → Shared → Prop), Q (.bool (g i j)) s → wpAny (model X.prog X.w) X.A (f (.int i t) (.int j u)) Q E s) :
    OpR X f (rI0 fun i j => .bl (g i j)) := by
  intro pins s σ H x y v u Q I rx ry h
  obtain ⟨i, j, rfl, rfl, q⟩ := h
  obtain ⟨t, rfl⟩ := rx
  obtain ⟨t', rfl⟩ := ry
  exact rule i j t t' s _ _ ⟨.bl (g i j), H, I, rfl, q⟩
def pM (i j : Int) : Prop := 0 < j ∧ j < 1073741824
def pN (i j : Int) : Prop := 0≤j ∧ j≤1000000 ∧ i.natAbs < 2 ^ 64
def oi (i j : Int) : Prop := (-(2 ^ 64) < i ∧ i < 2 ^ 64) ∨ (-(2 ^ 64) < j ∧ j < 2 ^ 64)
theorem oi.ok {i j : Int}(h : oi i j) : IntMulOk i j := by
  rcases h with ⟨h1, h2⟩ | ⟨h1, h2⟩
  · exact .of_left (intBits_le_64 h1 h2)
  · exact .of_right (intBits_le_64 h1 h2)
theorem bf : OpR X (binaryOp .Add) (rI0 fun i j => .int (i+j)) := o8 fun _ _ _ _ _ _ _ q => add_int q
theorem eM : OpR X (binaryOp .Sub) (rI0 fun i j => .int (i - j)) := o8 fun _ _ _ _ _ _ _ q => sub_int q
theorem dP : OpR X (binaryOp .Mult) (rI oi fun i j => .int (i*j)) := opI fun _ _ _ _ _ _ _ hc q => mul_int q hc.ok
theorem fO : OpR X (binaryOp .FloorDiv) (rI pM fun i j => .int (i / j)) := opI fun i j _ _ _ _ _ hc q => by
  have h1 : (0 : Int) < j := hc.1
  have h2 : j < 1073741824 := hc.2
  exact floordiv_int (by omega) (by rw [Int.fdiv_eq_ediv_of_nonneg i (by omega)];exact q) (.inl (PyProof.noPylong_small (by omega)))
theorem dQ : OpR X (binaryOp .Mod) (rI (fun _ j => 0 < j) fun i j => .int (i % j)) := opI fun i j _ _ _ _ _ hc q => by
  have h1 : (0 : Int) < j := hc
  exact mod_int' (by omega) (by rw [Int.fmod_eq_emod_of_nonneg i (by omega)];exact q)
theorem mI : OpR X (binaryOp .Pow) (rI pN fun i j => .int (i ^ j.toNat)) := opI fun _ _ _ _ _ _ _ hc q => pow_int_small hc.1 hc.2.1 hc.2.2 q
end
def o9 : V → V → Bool
  | .non, .non => true | .non, .int _ => true | .int _, .non => true | .non, .bl _ => true | .bl _, .non => true | .non, .str _ => true | .str _, .non => true
  | .int _, .int _ => true | .bl _, .bl _ => true | .str _, .str _ => true | .byt _, .byt _ => true
  | .int _, .str _ => true | .str _, .int _ => true | .bl _, .str _ => true | .str _, .bl _ => true
  | _, _ => false
def rEq : R2 := fun x y H Q => o9 x y=true ∧ Q (.bl (decide (x=y))) H
def rNe : R2 := fun x y H Q => o9 x y=true ∧ Q (.bl (!decide (x=y))) H
theorem dec_int {i j : Int} : decide (V.int i=V.int j)=(i == j) := by
  rw [Bool.eq_iff_iff]
  simp
theorem kr {i j : Bool} : decide (V.bl i=V.bl j)=(i == j) := by
  rw [Bool.eq_iff_iff]
  simp
theorem ip {i j : Str} : decide (V.str i=V.str j)=(i == j) := by
  rw [Bool.eq_iff_iff]
  simp
theorem iq {i j : Array UInt8} : decide (V.byt i=V.byt j)=(i.toList == j.toList) := by
  rw [Bool.eq_iff_iff]
  cases i
  cases j
  simp
section
variable {X : Cx} {a b c : Expr} {ta tb tc : TE} {pos : Pos}
theorem ax {pins : List (Addr × Obj)}{σ : St}{H : Hp}{s : Shared}{Q : VK}{k k' : Bool}(I : Inv X pins σ H s)(q : Q (.bl k) H)(e : k=k') : EP X pins σ Q (.bool k') s := by
  subst e
  exact ⟨.bl k, H, I, rfl, q⟩
theorem gY : OpR X (compareOp .Eq) rEq := by
  intro pins s σ H x y v u Q I rx ry h
  obtain ⟨hs, q⟩ := h
  cases x with
  | non =>
    cases rx
    cases y with
    | non => cases ry;exact PySem.EqNone.eq_none_none (ax I q (by simp))
    | bl j => cases ry;exact PySem.EqNone.eq_none_bool (ax I q (by simp))
    | int j => obtain ⟨t', rfl⟩ := ry;exact PySem.EqNone.eq_none_int (ax I q (by simp))
    | str j => obtain ⟨t', rfl⟩ := ry;exact PySem.EqNone.eq_none_str (ax I q (by simp))
    | _ => exact absurd (show false=true from hs) Bool.false_ne_true
  | bl i =>
    cases rx
    cases y with
    | non => cases ry;exact PySem.EqNone.eq_bool_none (ax I q (by simp))
    | bl j => cases ry;exact eq_bool (ax I q kr)
    | str j => obtain ⟨t', rfl⟩ := ry;exact PySem.EqMixed.eq_bool_str (ax I q (by simp))
    | _ => exact absurd (show false=true from hs) Bool.false_ne_true
  | int i =>
    obtain ⟨t, rfl⟩ := rx
    cases y with
    | non => cases ry;exact PySem.EqNone.eq_int_none (ax I q (by simp))
    | int j => obtain ⟨t', rfl⟩ := ry;exact eq_int (ax I q dec_int)
    | str j => obtain ⟨t', rfl⟩ := ry;exact PySem.EqMixed.eq_int_str (ax I q (by simp))
    | _ => exact absurd (show false=true from hs) Bool.false_ne_true
  | str i =>
    obtain ⟨t, rfl⟩ := rx
    cases y with
    | non => cases ry;exact PySem.EqNone.eq_str_none (ax I q (by simp))
    | bl j => cases ry;exact PySem.EqMixed.eq_str_bool (ax I q (by simp))
    | int j => obtain ⟨t', rfl⟩ := ry;exact PySem.EqMixed.eq_str_int (ax I q (by simp))
    | str j => obtain ⟨t', rfl⟩ := ry;exact eq_str (ax I q ip)
    | _ => exact absurd (show false=true from hs) Bool.false_ne_true
  | byt i =>
    obtain ⟨t, rfl⟩ := rx
    cases y with
    | byt j => obtain ⟨t', rfl⟩ := ry;exact PySem.W.eq_bytes (ax I q iq)
    | _ => exact absurd (show false=true from hs) Bool.false_ne_true
  | _ => cases y <;> exact absurd (show false=true from hs) Bool.false_ne_true
theorem mJ : OpR X (compareOp .NotEq) rNe := by
  intro pins s σ H x y v u Q I rx ry h
  obtain ⟨hs, q⟩ := h
  cases x with
  | non =>
    cases rx
    cases y with
    | non => cases ry;exact PySem.EqNone.ne_none_none (ax I q (by simp))
    | bl j => cases ry;exact PySem.EqNone.ne_none_bool (ax I q (by simp))
    | int j => obtain ⟨t', rfl⟩ := ry;exact PySem.EqNone.ne_none_int (ax I q (by simp))
    | str j => obtain ⟨t', rfl⟩ := ry;exact PySem.EqNone.ne_none_str (ax I q (by simp))
    | _ => exact absurd (show false=true from hs) Bool.false_ne_true
  | bl i =>
    cases rx
    cases y with
    | non => cases ry;exact PySem.EqNone.ne_bool_none (ax I q (by simp))
    | bl j => cases ry;exact ne_bool (ax I q (congrArg not kr))
    | str j => obtain ⟨t', rfl⟩ := ry;exact PySem.EqMixed.ne_bool_str (ax I q (by simp))
    | _ => exact absurd (show false=true from hs) Bool.false_ne_true
  | int i =>
    obtain ⟨t, rfl⟩ := rx
    cases y with
    | non => cases ry;exact PySem.EqNone.ne_int_none (ax I q (by simp))
    | int j => obtain ⟨t', rfl⟩ := ry;exact ne_int (ax I q (congrArg not dec_int))
    | str j => obtain ⟨t', rfl⟩ := ry;exact PySem.EqMixed.ne_int_str (ax I q (by simp))
    | _ => exact absurd (show false=true from hs) Bool.false_ne_true
  | str i =>
    obtain ⟨t, rfl⟩ := rx
    cases y with
    | non => cases ry;exact PySem.EqNone.ne_str_none (ax I q (by simp))
    | bl j => cases ry;exact PySem.EqMixed.ne_str_bool (ax I q (by simp))
    | int j => obtain ⟨t', rfl⟩ := ry;exact PySem.EqMixed.ne_str_int (ax I q (by simp))
    | str j => obtain ⟨t', rfl⟩ := ry;exact ne_str (ax I q (congrArg not ip))
    | _ => exact absurd (show false=true from hs) Bool.false_ne_true
  | byt i =>
    obtain ⟨t, rfl⟩ := rx
    cases y with
    | byt j => obtain ⟨t', rfl⟩ := ry;exact PySem.W.ne_bytes (ax I q (congrArg not iq))
    | _ => exact absurd (show false=true from hs) Bool.false_ne_true
  | _ => cases y <;> exact absurd (show false=true from hs) Bool.false_ne_true
theorem oj : OpR X (compareOp .Lt) (rI0 fun i j => .bl (decide (i < j))) := pL fun _ _ _ _ _ _ _ q => lt_int q
inductive de  (x : V)(y : V)(H : Hp)(Q : VK) : Prop
  | mk : ∀ i j, (x = .str i) → (y = .str j) → (Q (.bl (!(Builtin.Str.occurrences j i 0 j.length 1).isEmpty)) H) → de x y H Q
theorem ir : OpR X (compareOp .In) de := by
  intro pins s σ H x y v u Q I rx ry h
  obtain ⟨i, j, rfl, rfl, q⟩ := h
  obtain ⟨t, rfl⟩ := rx
  obtain ⟨t', rfl⟩ := ry
  exact in_str (ax I q rfl)
theorem bN (b : Expr){op : CmpOp}(h : op ≠ .In := by decide)(h2 : op ≠ .NotIn := by decide) : behindInMarks op b=false := by
  have e1 : (op == CmpOp.In)=false := by cases op <;> first | rfl | exact absurd rfl h
  have e2 : (op == CmpOp.NotIn)=false := by cases op <;> first | rfl | exact absurd rfl h2
  cases b <;> simp [behindInMarks, e1, e2]
theorem iu {op : CmpOp}{r : R2}(ho : OpR X (compareOp op) r)(ha : PE X a ta)(hb : PE X b tb)(hm : behindInMarks op b=false) : PE X (.Compare a [op] [b] pos) (tOp r ta tb) := by
  intro pins s σ H Q I h
  exact wpAny_Compare1 (oh ha hb I h fun v u s2 x y H2 I2 rx ry q => ho pins s2 σ H2 x y v u Q I2 rx ry q) hm
def jL (Q : (Bool → Hp → Prop)) : V → Hp → Prop := fun x H' => IsB x H' Q
def mK (t : TE) : TT := fun σ H Q => t σ H (jL Q)
theorem a_ {op : CmpOp}{r : R2}(ho : OpR X (compareOp op) r)(ha : PE X a ta)(hb : PE X b tb)(hm : behindInMarks op b=false) : PT X (.Compare a [op] [b] pos) (mK (tOp r ta tb)) := by
  intro pins s σ H Q I h
  refine wpAny_isTrue_Compare1 (thn (ha pins s σ H _ I h) fun v s1 ⟨x, H1, I1, r1, q1⟩ => thn (hb pins s1 σ H1 _ I1 q1) fun u s2 ⟨y, H2, I2, r2, q2⟩ =>
    thn (ho pins s2 σ H2 x y v u _ I2 r1 r2 q2) fun c s3 ⟨z, H3, I3, r3, k, e, q3⟩ => ?_) hm
  subst e
  cases r3
  exact wpAny_truthy_bool ⟨H3, I3, q3⟩
def pO (K : PySem.W.Frag)(x : V)(H : Hp)(k : Bool) : Prop :=
  match x with
  | .non => k=false
  | .bl b => k=b
  | .int i => k=(i != 0)
  | .str y => y.length≤sizeLine ∧ k=((y.length : Int) != 0)
  | .byt y => y.size≤sizeLine ∧ k=((y.size : Int) != 0)
  | .ref p => (∃ xs, SqL K H p xs ∧ k=!xs.isEmpty) ∨ (∃ xs, SqT K H p xs ∧ k=!xs.isEmpty) ∨ ∃ kvs, H p=some (.dK kvs) ∧ k=!kvs.isEmpty
  | _ => False
theorem gZ {κ : Type}{kvs : List (κ × V)}{vs : List (κ × Value)}(r : KV kvs vs) : (!vs.isEmpty)=!kvs.isEmpty := by
  cases r <;> rfl
theorem dR {xs : List V}{its : List Value}(r : aL xs its) : (!its.toArray.isEmpty)=!xs.isEmpty := by
  cases r <;> simp
theorem dS : (sizeLine : Nat) < 2 ^ 63 := by rw [sizeLine_eq]; decide
inductive kW (K : PySem.W.Frag)(x : V)(H : Hp)(Q : Bool → Hp → Prop) : Prop
  | mk : ∀ k, (pO K x H k) → (Q k H) → kW K x H Q
theorem ku : pK X (kW X.K) := by
  intro pins s σ H x v Q I rx h
  obtain ⟨k, e, q⟩ := h
  have hl := dS
  have hs : sizeLine=16777216 := sizeLine_eq
  cases x with
  | non =>
    cases rx
    have e' : k=false := e
    subst e'
    exact truthy_none ⟨H, I, q⟩
  | bl b =>
    cases rx
    have e' : k=b := e
    subst e'
    exact wpAny_truthy_bool ⟨H, I, q⟩
  | int i =>
    obtain ⟨t, rfl⟩ := rx
    have e' : k=(i != 0) := e
    subst e'
    exact PySem.P.truthy_int ⟨H, I, q⟩
  | str y =>
    obtain ⟨t, rfl⟩ := rx
    obtain ⟨hy, e'⟩ : y.length≤sizeLine ∧ k=((y.length : Int) != 0) := e
    subst e'
    exact PySem.P.truthy_str (by omega) ⟨H, I.tok _, q⟩
  | byt y =>
    obtain ⟨t, rfl⟩ := rx
    obtain ⟨hy, e'⟩ : y.size≤sizeLine ∧ k=((y.size : Int) != 0) := e
    subst e'
    exact PySem.W.truthy_bytes (by omega) ⟨H, I.tok _, q⟩
  | ref p =>
    cases rx
    have e' : (∃ xs, SqL X.K H p xs ∧ k=!xs.isEmpty) ∨ (∃ xs, SqT X.K H p xs ∧ k=!xs.isEmpty) ∨ ∃ kvs, H p=some (.dK kvs) ∧ k=!kvs.isEmpty := e
    rcases e' with ⟨xs, hx, e'⟩ | ⟨xs, hx, e'⟩ | ⟨kvs, hx, e'⟩
    · subst e'
      obtain ⟨its, r, pl, hz⟩ := I.list hx
      have hlen := r.length
      exact wpAny_truthy_list pl.isList (by simp only [List.size_toArray];omega) ⟨H, I.tok _, by rw [dR r];exact q⟩
    · subst e'
      obtain ⟨its, r, pl, hz⟩ := I.tuple hx
      have hlen := r.length
      exact truthy_tuple pl (by simp only [List.size_toArray];omega) ⟨H, I.tok _, by rw [dR r];exact q⟩
    · subst e'
      obtain ⟨hz, hS, vs, r, m⟩ : kvs.length≤sizeLine ∧ (p == sysModules)=false ∧ ∃ vs, KV kvs vs ∧ s.heap.DictOf (aD X.prog X.w) p vs := I.hok p _ hx
      have hlen : kvs.length=vs.length := Paired.length r
      exact wpAny_truthy_dict hS m (by omega) ⟨H, I.tok _, by rw [gZ r];exact q⟩
  | _ => exact (show False from e).elim
def kX (K : PySem.W.Frag)(Q : (Bool → Hp → Prop)) : V → Hp → Prop := fun x H' => kW K x H' Q
def pP (K : PySem.W.Frag)(ta : TE) : TT := fun σ H Q => ta σ H (kX K Q)
theorem cO (ha : PE X a ta)(he : ∀ whole, isTrue a X.env whole=(do let v ← whole; standAt a.pos; holding [v] (truthy v))) :
    PT X a (pP X.K ta) := by
  intro pins s σ H Q I h
  exact isTrue_plain (thn (ha pins s σ H _ I h) fun v s1 zq47 => (by obtain ⟨x, H1, I1, r1, q1⟩ := zq47;exact ku pins s1 σ H1 x v Q I1 r1 q1)) (he _)
inductive cJ  (x : V)(y : V)(H : Hp)(Q : VK) : Prop
  | mk : ∀ i j, (x = .str i) → (y = .str j) → (i.length+j.length≤sizeLine) → (Q (.str (i++j)) H) → cJ x y H Q
theorem aH : OpR X (binaryOp .Add) cJ := by
  intro pins s σ H x y v u Q I rx ry h
  obtain ⟨i, j, rfl, rfl, hz, q⟩ := h
  obtain ⟨t, rfl⟩ := rx
  obtain ⟨t', rfl⟩ := ry
  exact add_str (fun t' tk => ⟨.str (i++j), H, I.tok _, ⟨_, rfl⟩, q⟩) hz
theorem cD {x : V}{us : List Value}(r : aL [x] us) : ∃ u, us=[u] ∧ aR x u := by
  cases r with
  | cons r1 r2 => cases r2;exact ⟨_, rfl, r1⟩
theorem om {x y : V}{us : List Value}(r : aL [x, y] us) : ∃ u w', us=[u, w'] ∧ aR x u ∧ aR y w' := by
  cases r with
  | cons r1 r2 =>
    cases r2 with
    | cons r3 r4 => cases r4;exact ⟨_, _, rfl, r1, r3⟩
inductive df  (xs : List V)(H : Hp)(Q : VK) : Prop
  | mk : ∀ i j, (xs=[.int i, .int j]) → (Q (.int (if j > i then j else i)) H) → df xs H Q
theorem iw (hc : X.calm=true) : cC X (.builtin "max") df := by
  intro pins s σ H xs us Q I r h
  obtain ⟨i, j, rfl, q⟩ := h
  obtain ⟨u, w', rfl, ⟨t, rfl⟩, ⟨t', rfl⟩⟩ := om r
  refine max_two_ints (I.ok.hd hc) fun h' tk k => ⟨_, H, I.kept k, ?_, q⟩
  by_cases hj : j > i
  · rw [if_pos hj, if_pos hj];exact ⟨_, rfl⟩
  · rw [if_neg hj, if_neg hj];exact ⟨_, rfl⟩
theorem ix : cC X (.type "int") (fun xs H Q => (∃ i, xs=[.int i] ∧ Q (.int i) H) ∨ ∃ k, xs=[.bl k] ∧ Q (.int (if k then 1 else 0)) H) := by
  intro pins s σ H xs us Q I r h
  rcases h with ⟨i, rfl, q⟩ | ⟨k, rfl, q⟩
  · obtain ⟨u, rfl, t, rfl⟩ := cD r
    exact call_int_int ⟨.int i, H, I, ⟨_, rfl⟩, q⟩
  · obtain ⟨u, rfl, r1⟩ := cD r
    cases r1
    exact call_int_bool ⟨.int (if k then 1 else 0), H, I.tok _, ⟨_, rfl⟩, q⟩
end
section
variable {prog : Program} {w : World} {A : Around} {E : Value → Shared → Prop} {s : Shared} {K : PySem.W.Frag} {x dx C f : Addr} {mA : Str → Option Value} {name : Str} {v : Value}
end
theorem gW.some_of {v : V}{o : Option Value}(r : gW (some v) o) : ∃ u, o=some u ∧ aR v u := by
  cases o with
  | none => exact (show False from r).elim
  | some u => exact ⟨u, rfl, r⟩
section
variable {P : Program} {w : World} {H H' : Hp} {h h' : Heap} {a C dx : Addr} {fs fs' : List (Str × V)}
end
section
variable {X : Cx} {pins : List (Addr × Obj)} {σ : St} {H : Hp} {s : Shared} {a C dx : Addr} {fs : List (Str × V)} {f : Str} {v : V} {A : Around} {E : Value → Shared → Prop}
end
section
variable {X : Cx} {o e value : Expr} {f : Str} {pos pos' tpos : Pos} {ta tv : TE}
end
section
variable {X : Cx} {pins : List (Addr × Obj)} {σ : St} {H : Hp} {s : Shared} {A : Around} {E : Value → Shared → Prop} {Q : Value → Shared → Prop} {c : Value} {b : Bool}
end
structure dU (k : Nat) (A : Around) : Prop where
  hd : A.handled=none
  dp : A.depth+3*k+5 < recursionLimit
  un : A.units+16*k+200 < cLine
  gd : A.guards=some []
theorem dU.mono {j k : Nat}{A : Around}(r : dU k A)(h : j≤k) : dU j A := ⟨r.hd, by have := r.dp; omega, by have := r.un; omega, r.gd⟩
theorem dU.deeper {k : Nat}{A : Around}(r : dU (k+1) A)(env : Env) : dU k (A.deeper env) :=
  ⟨r.hd, by have := r.dp;show A.depth+1+3*k+5 < _;omega, by have := r.un;show A.units+3+16*k+200 < _;omega, r.gd⟩
theorem dU.depth {k : Nat}{A : Around}(r : dU k A) : A.depth < recursionLimit := by have := r.dp; omega
theorem dU.units {k : Nat}{A : Around}(r : dU k A) : A.units+64 < cLine := by have := r.un; omega
def pQ : TA := fun _ H Q => Q [] H
def jM (Q : (List V → Hp → Prop))(x : V) : List V → Hp → Prop := fun xs H2 => Q (x::xs) H2
def jN (tr : TA)(σ : St)(Q : (List V → Hp → Prop)) : V → Hp → Prop := fun x H1 => tr σ H1 (jM Q x)
def oo (ta : TE)(tr : TA) : TA := fun σ H Q => ta σ H (jN tr σ Q)
section
variable {X : Cx} {e : Expr} {es : List Expr} {te : TE} {t : TA} {pos : Pos}
theorem ag : PA X [] pQ := fun _ _ _ _ H Q I h => Calls.spliced_nil ⟨[], H, I, .nil, h⟩
theorem aa (ha : PE X e te)(hr : PA X es t)(hs : starEach (e::es) X.env=(false, eval e X.env)::starEach es X.env := by rfl) : PA X (e::es) (oo te t) := by
  intro pos pins s σ H Q I h
  rw [hs]
  show wpAny _ _ (spliced ((false, eval e X.env)::backTo pos (starEach es X.env))) _ _ s
  refine Calls.spliced_cons (thn (ha pins s σ H _ I h) fun u s1 zq54 => ?_)
  obtain ⟨x, H1, I1, r1, q1⟩ := zq54
  exact thn (hr pos pins s1 σ H1 _ I1 q1) fun us s2 zq55 => (by obtain ⟨xs, H2, I2, r2, q2⟩ := zq55;exact ⟨x::xs, H2, I2, .cons r1 r2, q2⟩)
def kY (Q : VK) : List V → Hp → Prop := fun xs H1 => xs.length≤sizeLine ∧ ∀ p, H1 p=none → Q (.ref p) (upd H1 p (.lst xs))
def pR (t : TA) : TE := fun σ H Q => t σ H (kY Q)
theorem bq (h : PA X es t) : PE X (.List es pos) (pR t) := by
  intro pins s σ H Q I hq
  refine wpAny_List_spliced (thn (h pos pins s σ H _ I hq) fun us s1 ⟨xs, H1, I1, r, z, q⟩ => ⟨by rw [← r.length];exact z, ?_⟩)
  have hf : H1 s1.heap.objs.size=none := I1.hok.fresh (Nat.le_refl _)
  refine ⟨.ref s1.heap.objs.size, upd H1 s1.heap.objs.size (.lst xs), I1.laid (t' := s1.toks) (fun b u e => Heap.get?_push_of_some _ e) (Nat.le_refl _) ?_, rfl, q _ hf⟩
  exact ⟨z, us, 0, r, Heap.get?_push_size _ rfl⟩
end
abbrev Sp := List V → Hp → VK → XK → Prop
abbrev CXT := List Env → Hp → Shared → XK → Value → Shared → Prop
structure nU (P : Program) (w : World) (K : PySem.W.Frag) (mg : Str → Option Value) (base : Heap) (A : Around) (outer : List Env) (s : Shared) (H : Hp) : Prop where
  frames : A.frames=some outer
  mod : Mod K mg base
  bs : ∀ b o, base.get? b=some o → s.heap.get? b=some o ∧ H b=none
  bsz : base.objs.size≤s.heap.objs.size
  funs : s.heap.FunFrames base outer
  frf : ∀ b∈frs outer, H b=none
  hok : HOk P w H s.heap
  bare : AllBare s.gens
def CE (outer : List Env)(P : Program)(w : World)(H : Hp)(s : Shared)(Q : VK)(u : Value)(s' : Shared) : Prop :=
  ∃ v H', s'.os=s.os ∧ AllBare s'.gens ∧ Un (frs outer) [] H H' s.heap s'.heap ∧ HOk P w H' s'.heap ∧ aR v u ∧ Q v H'
def CR (CX : CXT)(outer : List Env)(P : Program)(w : World)(H : Hp)(s : Shared)(Q : VK)(E : XK)(r : Result)(s' : Shared) : Prop :=
  match r with
  | .ok (.ret u) => CE outer P w H s Q u s'
  | .ok _ => False
  | .error e => CX outer H s E e s'
structure jD (P : Program) (w : World) (K : PySem.W.Frag) (mg : Str → Option Value) (base : Heap) (CX : CXT) (k : Nat) (f : Addr) (fd : FuncData) (ps : List Str) (sp : Sp) : Prop where
  len : ∀ vs H Q E, sp vs H Q E → vs.length=ps.length
  run : ∀ (A : Around) (outer : List Env) (s : Shared) (H : Hp) (args : Args) (us : List Value) (vs : List V) (Q : VK) (E : XK), dU k A → nU P w K mg base A outer s H → BindsTo s fd args (ps.zip us) → aL vs us → sp vs H Q E →
    codeAny (model P w) A (.call (.ref f) args) (CR CX outer P w H s Q E) s
section
variable {X : Cx} {pins : List (Addr × Obj)} {σ : St} {H : Hp} {s s' : Shared}
theorem Inv.env0 (I : Inv X pins σ H s) : nU X.prog X.w X.K X.mg X.base X.A X.stack s H :=
  ⟨I.ok.frames, I.ok.mod, I.bs, Nat.le_trans I.ok.bsz I.sz, I.stack, I.stkFree, I.hok, I.bare⟩
theorem Inv.after {Q : VK}{u : Value}(I : Inv X pins σ H s)(h : CE X.stack X.prog X.w H s Q u s') : EP X pins σ Q u s' := by
  obtain ⟨v, H', os, bare, un, hok, r, q⟩ := h
  obtain ⟨hh, g, d, t, os'⟩ := s'
  obtain rfl : os'=s.os := os
  exact ⟨v, H', I.call (h' := hh) (g' := g) (d' := d) (t' := t) (ch := []) un hok bare (fun b z => absurd z (by simp)), r, q⟩
end
def jO (sp : Sp)(dvs : List V)(E : XK)(Q : VK) : List V → Hp → Prop := fun vs H1 => sp (vs++dvs) H1 Q E
def mL (sp : Sp)(dvs : List V)(E : XK)(t : TA) : TE := fun σ H Q => t σ H (jO sp dvs E Q)
def g0 (K : PySem.W.Frag)(fd : FuncData)(ps : List Str)(ds : List Value) : Prop :=
  ∀ (s : Shared) (us : List Value), K.In s.heap → (us++ds).length=ps.length → BindsTo s fd ⟨us, []⟩ (ps.zip (us++ds))
theorem g0.all {K : PySem.W.Frag}{fd : FuncData}{ps : List Str}(h : ∀ us : List Value, us.length=ps.length → bindArgs fd ⟨us, []⟩=pure (ps.zip us)) : g0 K fd ps [] := fun s us _ hl => by
  rw [List.append_nil] at hl ⊢
  exact .of_eq (h us hl)
def iy (CX : CXT)(X : Cx)(E : XK) : Prop := ∀ (pins : List (Addr × Obj)) (σ : St) (H : Hp) (s : Shared) (e : Value) (s' : Shared), Inv X pins σ H s → CX X.stack H s E e s' → X.xe e s'
section
variable {X : Cx} {CX : CXT} {k : Nat} {f C : Addr} {fd : FuncData} {ps : List Str} {sp : Sp} {dvs : List V} {ds : List Value} {E : XK} {x m : Str} {p pos apos : Pos} {e o : Expr} {es : List Expr} {ta : TE} {t : TA}
theorem mM {pins : List (Addr × Obj)}{σ : St}{H : Hp}{s : Shared}{Q : VK}{us : List Value}{vs : List V}(F : jD X.prog X.w X.K X.mg X.base CX k f fd ps sp)(hr : dU k X.A)(hb : g0 X.K fd ps ds)(hd : aL dvs ds)(hx : iy CX X E)
    (I : Inv X pins σ H s) (r : aL vs us) (h : sp (vs++dvs) H Q E) : wpAny (model X.prog X.w) X.A (call (.ref f) us) (EP X pins σ Q) X.xe s := by
  have r2 : aL (vs++dvs) (us++ds) := r.append hd
  have hl : (us++ds).length=ps.length := by rw [← r2.length];exact F.len _ _ _ _ h
  refine wpAny_call (codeAny_mono (F.run X.A X.stack s H ⟨us, []⟩ (us++ds) (vs++dvs) Q E hr I.env0 (hb s us I.kIn hl) r2 h) fun r s' hq => ?_)
  cases r with
  | error e => exact hx pins σ H s e s' I hq
  | ok fl =>
    cases fl with
    | ret u => exact I.after hq
    | next => exact False.elim hq
    | brk => exact False.elim hq
    | cont => exact False.elim hq
theorem kZ (F : jD X.prog X.w X.K X.mg X.base CX k f fd ps sp)(hr : dU k X.A)(hg : Gl X x)(hm : X.mg x=some (.ref f))(hk : PySem.W.keepIn X.K (.ref f)=true)(hb : g0 X.K fd ps ds)(hd : aL dvs ds)(hx : iy CX X E)
    (ha : PA X (e::es) t) (hdb : (x == ("__debug__" : Str))=false := by decide) (he : starEach (e::es) X.env=(false, eval e X.env)::starEach es X.env := by rfl) (hpl : (backTo pos (starEach es X.env)).any (·.1)=false := by rfl) :
    PE X (.Call (.Name x p) (e::es) [] pos) (mL sp dvs E t) := by
  intro pins s σ H Q I h
  refine wpAny_Call_Name_kw (fJ I hg hm ?_ hdb)
  refine PySem.W.callWith_K (h₀ := X.base) I.ok.mod.kin hk (thn (ha pos pins s σ H _ I h) fun us s1 ⟨vs, H1, I1, r, q⟩ => ⟨I1.kIn, ?_⟩) he hpl
  exact mM F hr hb hd hx I1 r q
end
section
variable {X : Cx} {CX : CXT} {k : Nat} {f C : Addr} {fd : FuncData} {ps ks : List Str} {sp : Sp} {E : XK} {x m : Str} {p pos apos kpos : Pos} {e o : Expr} {es : List Expr} {kws : List Keyword} {te ta : TE} {t tk : TA} {nm : Option Str}
variable {g : List Value → List Value → List Value} {gV : List V → List V → List V}
end
structure aI (N P : List Str) (sc : Scope) : Prop where
  kind : sc.kind = .function
  co : sc.isCoroutine=false
  gen : sc.isGenerator=false
  nd : N.Nodup
  pre : N.take P.length=P
  par : ∀ x∈P, sc.names.lookup x=some .local ∨ sc.names.lookup x=some .cell
  nofree : ∀ y∈sc.names, y.2 ≠ .free
theorem eN {kindOf : Str → Option NameKind}{x : Str} : ∀ {binds : List (Str × Value)} {m : Str → Option Value}, (∀ v, (x, v)∉binds) → bindL kindOf binds m x=m x
  | [], _, _ => rfl
  | (n, v)::r, m, h => by
    unfold bindL
    rw [eN fun w hw => h w (List.mem_cons_of_mem _ hw)]
    split
    · have : x≠n := by rintro rfl;exact h v List.mem_cons_self
      simp [this]
    · rfl
theorem eO {kindOf : Str → Option NameKind}{x : Str} : ∀ {binds : List (Str × Value)} {m : Str → Option Value}, (∀ v, (x, v)∉binds) → bindC kindOf binds m x=m x
  | [], _, _ => rfl
  | (n, v)::r, m, h => by
    unfold bindC
    rw [eO fun w hw => h w (List.mem_cons_of_mem _ hw)]
    split
    · rfl
    · have : x≠n := by rintro rfl;exact h v List.mem_cons_self
      simp [this]
theorem eP {kindOf : Str → Option NameKind}{x : Str}{v : Value} : ∀ {P : List Str} {vs : List Value} {i : Nat} {m : Str → Option Value}, P.Nodup → P[i]? = some x → vs[i]? = some v → kindOf x=some .local →
    bindL kindOf (P.zip vs) m x=some v
  | [], _, _, _, _, h, _, _ => by simp at h
  | _::_, [], _, _, _, _, h, _ => by simp at h
  | p::P, w::vs, 0, m, nd, h1, h2, hk => by
    simp at h1 h2;subst h1;subst h2
    show bindL kindOf ((p, w)::P.zip vs) m p=_
    unfold bindL
    rw [eN fun v hv => (List.nodup_cons.mp nd).1 (List.of_mem_zip hv).1, if_pos hk]
    simp
  | p::P, w::vs, i+1, m, nd, h1, h2, hk => by
    show bindL kindOf ((p, w)::P.zip vs) m x=_
    unfold bindL
    exact eP (i := i) (List.nodup_cons.mp nd).2 (by simpa using h1) (by simpa using h2) hk
theorem eQ {kindOf : Str → Option NameKind}{x : Str}{v : Value} : ∀ {P : List Str} {vs : List Value} {i : Nat} {m : Str → Option Value}, P.Nodup → P[i]? = some x → vs[i]? = some v → kindOf x≠some .local →
    bindC kindOf (P.zip vs) m x=some v
  | [], _, _, _, _, h, _, _ => by simp at h
  | _::_, [], _, _, _, _, h, _ => by simp at h
  | p::P, w::vs, 0, m, nd, h1, h2, hk => by
    simp at h1 h2;subst h1;subst h2
    show bindC kindOf ((p, w)::P.zip vs) m p=_
    unfold bindC
    rw [eO fun v hv => (List.nodup_cons.mp nd).1 (List.of_mem_zip hv).1, if_neg hk]
    simp
  | p::P, w::vs, i+1, m, nd, h1, h2, hk => by
    show bindC kindOf ((p, w)::P.zip vs) m x=_
    unfold bindC
    exact eQ (i := i) (List.nodup_cons.mp nd).2 (by simpa using h1) (by simpa using h2) hk
def start (N : List Str)(vs : List V) : St := vs.map some++List.replicate (N.length - vs.length) none
def k_ (CX : CXT)(P : Program)(w : World)(K : PySem.W.Frag)(mg : Str → Option Value)(base : Heap)(N : List Str)(qual : Str)(scope : Scope)(f : Addr)(cd : Value)(A : Around)(outer : List Env)(s : Shared)(H : Hp)(E : XK) : Cx where
  prog := P
  w := w
  K := K
  mg := mg
  base := base
  A := A.deeper (envOfC qual scope s.heap.objs.size f cd)
  N := N
  s₀ := s
  H₀ := H
  env := envOfC qual scope s.heap.objs.size f cd
  outer := outer
  stack := envOfC qual scope s.heap.objs.size f cd::outer
  ex := []
  calm := true
  fn := fun _ => true
  pn := []
  xe := fun e s' => wpAny (model P w) (A.deeper (envOfC qual scope s.heap.objs.size f cd)) (leaving (envOfC qual scope s.heap.objs.size f cd) e) (fun _ s'' => CX outer H s E e s'') (fun e' s'' => CX outer H s E e' s'') s'
theorem gq {sc : Scope}{n : Nat}{x : Str}(h : sc.names.lookup x=some .cell) : ∃ c, (cellsFrom n sc.names []).lookup x=some c := by
  have q := PySem.W.cellsFrom_some sc.names n [] (.inl h)
  exact Option.isSome_iff_exists.mp q
theorem iz {CX : CXT}{P : Program}{w : World}{K : PySem.W.Frag}{mg : Str → Option Value}{base : Heap}{N ps : List Str}{qual : Str}{scope : Scope}{f : Addr}{cd : Value}{A : Around}{outer : List Env}{s s1 : Shared}{H : Hp}{E : XK}{us : List Value}{vs : List V}
    (S : aI N ps scope) (hd : A.handled=none) (e0 : nU P w K mg base A outer s H) (hl : vs.length=ps.length) (r : aL vs us)
    (x : InCallC s s.heap.objs.size (bindL (envOfC qual scope s.heap.objs.size f cd).kindOf (ps.zip us) fun _ => none) (cellsFrom (s.heap.objs.size+1) scope.names []) (bindC (envOfC qual scope s.heap.objs.size f cd).kindOf (ps.zip us) fun _ => none) s1) :
    Inv (k_ CX P w K mg base N qual scope f cd A outer s H E) [] (start N vs) H s1 := by
  have hpl : ps.length≤N.length := by have := congrArg List.length S.pre;rw [List.length_take] at this;omega
  obtain ⟨h1, tk, rfl, hk⟩ := x.done
  have noA : ∀ b : Addr, b∉(k_ CX P w K mg base N qual scope f cd A outer s H E).ex := fun b z => absurd (show b∈([] : List Addr) from z) (by simp)
  refine ⟨⟨e0.mod, S.kind, rfl, rfl, Nat.le_refl _, fun y z c h1 h2 => ?_, fun y hy => ?_, fun y c _ h => ?_, fun _ => hd, Around.frames_deeper e0.frames, .inr ⟨rfl, rfl⟩, fun b z => absurd z (noA b), e0.bs, e0.bsz, fun b _ _ => noA b, fun b z => absurd z (noA b), e0.funs, e0.frf⟩,
    rfl, e0.bare, Un.kept hk, ⟨_, x.toInCall.ns, fun i y v h1 h2 h3 => ?_⟩, fun y c h => ⟨_, x.cell y c h⟩, e0.hok.fresh (Nat.le_refl _), fun y c h => ?_, fun p hp => absurd (show p∈([] : List (Addr × Obj)) from hp) (by simp), e0.hok.kept hk, ?_⟩
  · exact name_of_addr x.apart (PySem.mem_of_lookup h1) (PySem.mem_of_lookup h2)
  · have hy : scope.names.lookup y=some .cell ∨ scope.names.lookup y=some .free := hy
    rcases hy with hy | hy
    · exact gq hy
    · exact absurd rfl (S.nofree _ (PySem.mem_of_lookup hy))
  · exact Nat.le_of_lt (x.above y c (PySem.mem_of_lookup h))
  · have hi : i < vs.length := by
      unfold start at h2
      by_cases hi : i < vs.length
      · exact hi
      · rw [List.getElem?_append_right (by simpa using hi)] at h2
        rw [List.getElem?_replicate] at h2
        split at h2 <;> cases h2
    have ha : vs[i]? = some v := by
      unfold start at h2
      rw [List.getElem?_append_left (by simpa using hi), List.getElem?_map] at h2
      cases e : vs[i]? with
      | none => rw [e] at h2;cases h2
      | some a => rw [e] at h2;cases h2;rfl
    obtain ⟨u, hu, rv⟩ := r.get ha
    have hp : ps[i]? = some y := by
      rw [← S.pre, List.getElem?_take_of_lt (by omega)];exact h1
    have ndP : ps.Nodup := by rw [← S.pre];exact S.nd.sublist (List.take_sublist _ _)
    refine ⟨u, rv, ?_⟩
    rcases S.par y (List.mem_of_getElem? hp) with k | k
    · exact .inl ⟨k, eP ndP hp hu k⟩
    · obtain ⟨c, e⟩ := gq (n := s.heap.objs.size+1) k
      refine .inr ⟨.inl k, c, e, ?_⟩
      have q := x.cell y c e
      rw [eQ ndP hp hu (by show scope.names.lookup y≠_;rw [k];decide)] at q
      exact q
  · exact e0.hok.fresh (Nat.le_of_lt (x.above y c (PySem.mem_of_lookup h)))
  · unfold start
    show _=N.length
    rw [List.length_append, List.length_map, List.length_replicate]
    omega
theorem oq {CX : CXT}{P : Program}{w : World}{K : PySem.W.Frag}{mg : Str → Option Value}{base : Heap}{k : Nat}{f : Addr}{name qual : Str}{params : Arguments}{body : List Stmt}{scope : Scope}{dV kV doc pm cdv ct oc : Value}{an od : Option Addr}
    {osl : Array (Option Value)} {N ps : List Str} {sp : Sp} (lk : K.lookup f=some ⟨oc, od, .func (PySem.W.fnOf name qual params body scope dV kV doc pm an cdv ct), osl⟩) (hcd : PySem.W.codeIn K cdv qual=true) (S : aI N ps scope)
    (len : ∀ vs H Q E, sp vs H Q E → vs.length=ps.length)
    (hbody : ∀ (A : Around) (outer : List Env) (s : Shared) (H : Hp) (vs : List V) (Q : VK) (E : XK), dU k (A.deeper (envOfC qual scope s.heap.objs.size f cdv)) → sp vs H Q E →
      ∃ t, PSs (k_ CX P w K mg base N qual scope f cdv A outer s H E) body t ∧ t { nx := fun _ H' => Q .non H', rt := Q } (start N vs) H) :
    jD P w K mg base CX (k+1) f (PySem.W.fnOf name qual params body scope dV kV doc pm an cdv ct) ps sp := by
  refine ⟨len, fun A outer s H args us vs Q E hr e0 hb r hsp => ?_⟩
  have hl := len _ _ _ _ hsp
  have KX : K.In s.heap := e0.mod.kin.keeps fun b o e => (e0.bs b o e).1
  have lim : s.heap.NoLimit := e0.mod.nolimit.keeps fun b o e => (e0.bs b o e).1
  have hkind : ∀ y∈ps.zip us, scope.names.lookup y.1=some .local ∨ (scope.names.lookup y.1=some .cell ∧ ((cellsFrom (s.heap.objs.size+1) scope.names []).lookup y.1).isSome=true) := fun ⟨n, v⟩ hy => by
    rcases S.par n (List.of_mem_zip hy).1 with q | q
    · exact .inl q
    · exact .inr ⟨q, PySem.W.cellsFrom_some _ _ _ (.inl q)⟩
  refine codeAny_call_function hr.depth (KX _ _ lk) rfl S.co S.gen rfl (PySem.W.codeRec_of KX hcd) (hb _ _ _ _ ?_)
  refine wpAny_newFunctionEnv_cells S.kind hkind fun env he s1 x => ?_
  subst he
  refine ⟨lim.keeps x.toInCall.keep, codeAny_func ?_⟩
  obtain ⟨t, ht, hq⟩ := hbody A outer s H vs Q E (hr.deeper _) hsp
  have I : Inv (k_ CX P w K mg base N qual scope f cdv A outer s H E) [] (start N vs) H s1 := iz S hr.hd e0 hl r x
  refine wpAny_mono (ht [] s1 (start N vs) H _ I hq) (fun fl s' hs => ?_) fun e s' hs => hs
  have fin : ∀ {σ' : St} {H' : Hp} {v : V} {u : Value}, Inv (k_ CX P w K mg base N qual scope f cdv A outer s H E) [] σ' H' s' → aR v u → Q v H' → CE outer P w H s Q u s' :=
    fun {σ' H' v u} J rv q => ⟨v, H', J.os, J.bare, J.base, J.hok, rv, q⟩
  cases fl with
  | ret u =>
    obtain ⟨v, σ', H', J, rv, q⟩ := hs
    exact fin J rv q
  | next =>
    obtain ⟨σ', H', J, q⟩ := hs
    exact fin (v := V.non) (u := Value.none) J rfl q
  | brk =>
    obtain ⟨_, _, _, q⟩ := hs
    exact False.elim q
  | cont =>
    obtain ⟨_, _, _, q⟩ := hs
    exact False.elim q
section
variable {X : Cx} {x : Str} {p pos : Pos} {e : Expr} {es : List Expr} {t : TA} {id T : String} {r : List V → Hp → VK → Prop}
def mN (r : List V → Hp → VK → Prop)(Q : VK) : List V → Hp → Prop := fun vs H1 => r vs H1 Q
def tCB (r : List V → Hp → VK → Prop)(t : TA) : TE := fun σ H Q => t σ H (mN r Q)
theorem aM (hc : cC X (.builtin id) r)(hg : Gl X x)(hm : X.mg x=none)(hv : bootBuiltins x=some (.builtin id))(ha : PA X (e::es) t)(hn : x ≠ "__name__" := by decide)(hdb : (x == ("__debug__" : Str))=false := by decide)
    (he : starEach (e::es) X.env=(false, eval e X.env)::starEach es X.env := by rfl) (hpl : (backTo pos (starEach es X.env)).any (·.1)=false := by rfl) : PE X (.Call (.Name x p) (e::es) [] pos) (tCB r t) := by
  intro pins s σ H Q I h
  refine wpAny_Call_Name_kw (gk I hg hm hv ?_ hn hdb)
  exact PyProof.Rows.callWith_builtin1 (thn (ha pos pins s σ H _ I h) fun us s1 zq60 => (by obtain ⟨vs, H1, I1, r1, q1⟩ := zq60;exact hc pins s1 σ H1 vs us Q I1 r1 q1)) he hpl
theorem bx (hc : cC X (.type T) r)(hg : Gl X x)(hm : X.mg x=none)(hv : bootBuiltins x=some (.type T))(ha : PA X (e::es) t)(hn : x ≠ "__name__" := by decide)(hdb : (x == ("__debug__" : Str))=false := by decide)
    (he : starEach (e::es) X.env=(false, eval e X.env)::starEach es X.env := by rfl) (hpl : (backTo pos (starEach es X.env)).any (·.1)=false := by rfl) : PE X (.Call (.Name x p) (e::es) [] pos) (tCB r t) := by
  intro pins s σ H Q I h
  refine wpAny_Call_Name_kw (gk I hg hm hv ?_ hn hdb)
  exact PyProof.Rows.callWith_type1 (thn (ha pos pins s σ H _ I h) fun us s1 zq61 => (by obtain ⟨vs, H1, I1, r1, q1⟩ := zq61;exact hc pins s1 σ H1 vs us Q I1 r1 q1)) he hpl
end
end L2
namespace HT
open PySem PyProof.Rows
section
open PySem.SeqAt
open PySem.AutoSeq1 (wpAny_loadPart')
open PySem.MeetsSeq PySem.MeetsSeq2 PySem.MeetsSeq3
end
section
variable {prog : Program} {w : World} {A : Around} {E : Value → Shared → Prop} {s : Shared}
def sIx (n d : Nat) : Option Int → Nat
  | none => d
  | some v => if v < 0 then (v+(n : Int)).toNat else min v.toNat n
theorem d_ (n d : Nat) : sIx n d none=d := rfl
theorem fP (n d k : Nat) : sIx n d (some (k : Int))=min k n := by
  show (if (k : Int) < 0 then ((k : Int)+(n : Int)).toNat else min (k : Int).toNat n)=min k n
  rw [if_neg (by omega), Int.toNat_natCast]
theorem kx (n d : Nat)(hd : d≤n)(o : Option Int) : sIx n d o≤n := by
  cases o with
  | none => exact hd
  | some v =>
    show (if v < 0 then (v+(n : Int)).toNat else min v.toNat n)≤n
    by_cases hv : v < 0
    · rw [if_pos hv];omega
    · rw [if_neg hv];exact Nat.min_le_right _ _
end
end HT
namespace L2
open PySem PySem.Spec PyProof.Rows
abbrev TO := St → Hp → (Option Int → Hp → Prop) → Prop
def PO (X : Cx)(e : Option Expr)(t : TO) : Prop :=
  ∀ (pins : List (Addr × Obj)) (s : Shared) (σ : St) (H : Hp) (Q : Option Int → Hp → Prop), Inv X pins σ H s → t σ H Q →
    wpAny (model X.prog X.w) X.A (evalPart e X.env) (fun u s' => ∃ o H', Inv X pins σ H' s' ∧ IsPart u o ∧ Q o H') X.xe s
def lh : TO := fun _ H Q => Q none H
inductive IsI (x : V)(H : Hp)(Q : Option Int → Hp → Prop) : Prop
  | mk : ∀ i, (x = .int i) → (Q (some i) H) → IsI x H Q
def jP (Q : (Option Int → Hp → Prop)) : V → Hp → Prop := fun x H1 => IsI x H1 Q
def ot (t : TE) : TO := fun σ H Q => t σ H (jP Q)
section
variable {X : Cx} {e : Expr} {te : TE} {lo hi : Option Expr} {tl th : TO} {pos p2 : Pos}
theorem aJ : PO X none lh := by
  intro pins s σ H Q I h
  rw [evalPart_none]
  exact wpAny_pure ⟨none, H, I, .none, h⟩
theorem aK (h : PE X e te) : PO X (some e) (ot te) := by
  intro pins s σ H Q I hw
  rw [evalPart_some]
  refine thn (h pins s σ H _ I hw) fun u s1 zq62 => ?_
  obtain ⟨x, H1, I1, r1, q1⟩ := zq62
  obtain ⟨i, rfl, q⟩ := q1
  obtain ⟨t, rfl⟩ := r1
  exact ⟨some i, H1, I1, .int i t, q⟩
def SlR (X : Cx)(r : V → Option Int → Option Int → Hp → VK → Prop) : Prop :=
  ∀ (pins : List (Addr × Obj)) (s : Shared) (σ : St) (H : Hp) (x : V) (v vl vu : Value) (lo hi : Option Int) (sl : Addr) (Q : VK), Inv X pins σ H s → aR x v → s.heap.IsSliceOf sl vl vu .none → IsPart vl lo → IsPart vu hi → r x lo hi H Q →
    ∃ T id, typeLookup (.type T) "__getitem__" = pure (some (.builtin id)) ∧ s.TypeIs v T ∧ wpAny (model X.prog X.w) X.A (getItem v (.ref sl)) (EP X pins σ Q) X.xe s
def mO (r : V → Option Int → Option Int → Hp → VK → Prop)(Q : VK)(x : V)(l : Option Int) : Option Int → Hp → Prop := fun u H3 => r x l u H3 Q
def mP (r : V → Option Int → Option Int → Hp → VK → Prop)(th : TO)(σ : St)(Q : VK)(x : V) : Option Int → Hp → Prop := fun l H2 => th σ H2 (mO r Q x l)
def mQ (r : V → Option Int → Option Int → Hp → VK → Prop)(tl : TO)(th : TO)(σ : St)(Q : VK) : V → Hp → Prop := fun x H1 => tl σ H1 (mP r th σ Q x)
def tSl (r : V → Option Int → Option Int → Hp → VK → Prop)(te : TE)(tl th : TO) : TE := fun σ H Q => te σ H (mQ r tl th σ Q)
theorem aw {r : V → Option Int → Option Int → Hp → VK → Prop}(hr : SlR X r)(he : PE X e te)(hl : PO X lo tl)(hu : PO X hi th) : PE X (.Subscript e (.Slice lo hi none p2) pos) (tSl r te tl th) := by
  intro pins s σ H Q I h
  refine Subscript_ (thn (he pins s σ H _ I h) fun v s1 zq63 => ?_)
  obtain ⟨x, H1, I1, r1, q1⟩ := zq63
  refine wpAny_Slice (thn (hl pins s1 σ H1 _ I1 q1) fun vl s2 ⟨l, H2, I2, pl, q2⟩ => thn (hu pins s2 σ H2 _ I2 q2) fun vu s3 zq64 => ?_)
  obtain ⟨u, H3, I3, pu, q3⟩ := zq64
  rw [evalPart_none]
  refine wpAny_pure ?_
  have I4 : Inv X pins σ H3 { s3 with heap := s3.heap.push { cls := .type "slice", data := .fields #[vl, vu, .none] } } := I3.kept (t' := s3.toks) fun b ob q => Heap.get?_push_of_some _ q
  obtain ⟨T, id, hT, ht, hg⟩ := hr pins { s3 with heap := s3.heap.push { cls := .type "slice", data := .fields #[vl, vu, .none] } } σ H3 x v vl vu l u s3.heap.objs.size Q I4 r1 (Heap.IsSliceOf.new ..) pl pu q3
  show wpAny (model X.prog X.w) X.A (subscriptTail e (.Slice lo hi none p2) v (.ref s3.heap.objs.size)) (EP X pins σ Q) X.xe { s3 with heap := s3.heap.push { cls := .type "slice", data := .fields #[vl, vu, .none] } }
  exact tail_any (ops := [.ref s3.heap.objs.size, v]) ht hT hg (by with_unfolding_all rfl)
def mm (xs : List V)(lo hi : Option Int) : List V := (xs.drop (HT.sIx xs.length 0 lo)).take (HT.sIx xs.length xs.length hi - HT.sIx xs.length 0 lo)
theorem fQ (xs : List V)(lo hi : Option Int) : (mm xs lo hi).length≤xs.length := by
  unfold mm
  rw [List.length_take, List.length_drop]
  omega
end
def ixN (n : Nat)(i : Int) : Option Nat := if 0≤i then (if i < n then some i.toNat else none) else if -(n : Int)≤i then some (i+n).toNat else none
def atI {α : Type}(xs : List α)(i : Int) : Option α := (ixN xs.length i).bind fun j => xs[j]?
theorem lj {n : Nat}{i : Int}{j : Nat}(h : ixN n i=some j) : seqIndex? i n=some j ∧ j < n ∧ -(n : Int)≤i ∧ i < n := by
  unfold ixN at h
  by_cases h0 : 0≤i
  · rw [if_pos h0] at h
    by_cases h1 : i < n
    · rw [if_pos h1] at h
      have e : i.toNat=j := Option.some.inj h
      exact ⟨by rw [seqIndex_of h0 h1, e], by omega, by omega, h1⟩
    · rw [if_neg h1] at h;cases h
  · rw [if_neg h0] at h
    by_cases h1 : -(n : Int)≤i
    · rw [if_pos h1] at h
      have e : (i+n).toNat=j := Option.some.inj h
      exact ⟨by rw [seqIndex_neg (by omega) h1, e], by omega, h1, by omega⟩
    · rw [if_neg h1] at h;cases h
theorem iA {α : Type}{xs : List α}{i : Int}{v : α}(h : atI xs i=some v) : ∃ j, seqIndex? i xs.length=some j ∧ xs[j]? = some v ∧ j < xs.length ∧ -(xs.length : Int)≤i ∧ i < xs.length := by
  unfold atI at h
  cases e : ixN xs.length i with
  | none => rw [e] at h;cases h
  | some j =>
    rw [e] at h
    obtain ⟨h1, h2, h3, h4⟩ := lj e
    exact ⟨j, h1, h, h2, h3, h4⟩
theorem bG {α : Type}{xs : List α}{j : Nat}{v : α}(h : xs[j]? = some v) : atI xs (j : Int)=some v := by
  have hj : j < xs.length := (List.getElem?_eq_some_iff.mp h).1
  have e : ixN xs.length (j : Int)=some j := by
    unfold ixN
    rw [if_pos (by omega), if_pos (by omega)];simp
  unfold atI;rw [e];exact h
def iB (b : Expr) : Prop := ∀ o i, subscripted b false o i=operate [o, i] (getItem o i)
def IxR (X : Cx)(r : R2) : Prop :=
  ∀ (value slice : Expr) (pins : List (Addr × Obj)) (s : Shared) (σ : St) (H : Hp) (x y : V) (v u : Value) (Q : VK), Inv X pins σ H s → aR x v → aR y u → r x y H Q →
    subscripted slice false v u=operate [v, u] (getItem v u) → wpAny (model X.prog X.w) X.A (subscriptTail value slice v u) (EP X pins σ Q) X.xe s
def MtR (X : Cx)(id : String)(r : V → List V → Hp → VK → Prop) : Prop :=
  ∀ (pins : List (Addr × Obj)) (s : Shared) (σ : St) (H : Hp) (x : V) (xs : List V) (v : Value) (us : List Value) (Q : VK), Inv X pins σ H s → aR x v → aL xs us → r x xs H Q →
    wpAny (model X.prog X.w) X.A (call (.builtin id) (v::us)) (EP X pins σ Q) X.xe s
section
variable {X : Cx} {a b : Expr} {ta tb : TE} {pos : Pos}
theorem ed {r : R2}(hr : IxR X r)(ha : PE X a ta)(hb : PE X b tb)(hs : iB b) : PE X (.Subscript a b pos) (tOp r ta tb) := by
  intro pins s σ H Q I h
  exact Subscript_ (oh ha hb I h fun v u s2 x y H2 I2 rx ry q => hr a b pins s2 σ H2 x y v u Q I2 rx ry q (hs _ _))
inductive o_ (K : PySem.W.Frag)(x : V)(y : V)(H : Hp)(Q : VK) : Prop
  | mk : ∀ p xs i v, (x = .ref p) → (y = .int i) → (SqL K H p xs) → (atI xs i=some v) → (Q v H) → o_ K x y H Q
inductive pb (x : V)(y : V)(H : Hp)(Q : VK) : Prop
  | mk : ∀ z i c, (x = .str z) → (y = .int i) → (z.length≤sizeLine) → (atI z.cps.toList i=some c) → (Q (.str ⟨#[c]⟩) H) → pb x y H Q
theorem cE : IxR X (o_ X.K) := by
  intro value slice pins s σ H x y v u Q I rx ry h hs
  obtain ⟨p, xs, i, z, rfl, rfl, hq, he, q⟩ := h
  cases rx
  obtain ⟨t, rfl⟩ := ry
  obtain ⟨its, r, pl, hz⟩ := I.list hq
  obtain ⟨j, h1, h2, h3, h4, h5⟩ := iA he
  obtain ⟨w, ew, rw'⟩ := r.get h2
  have hl := r.length
  have hn := dS
  have fin : EP X pins σ Q w s := ⟨z, H, I, rw', q⟩
  by_cases h0 : 0≤i
  · have hj : i.toNat=j := by
      rw [seqIndex_of h0 h5] at h1
      exact Option.some.inj h1
    exact item_listR pl.isList h0 (by omega) (by rw [hj];simpa using ew) fin hs
  · have hj : (i+(its.toArray.size : Int)).toNat=j := by
      rw [seqIndex_neg (by omega) h4] at h1
      rw [List.size_toArray, ← hl]
      exact Option.some.inj h1
    exact subscriptTail_builtinR (x := w) pl.isList.typeIs slot_list_getitem.lookup
      (wpAny_getItem_list_neg (Q := fun r s' => r=w ∧ EP X pins σ Q r s') pl.isList (by omega) (by rw [List.size_toArray] <;> omega) (by omega) (by rw [hj];simpa using ew) ⟨rfl, fin⟩) hs
theorem iC : IxR X pb := by
  intro value slice pins s σ H x y v u Q I rx ry h hs
  obtain ⟨z, i, c, rfl, rfl, hz, he, q⟩ := h
  obtain ⟨t, rfl⟩ := rx
  obtain ⟨t', rfl⟩ := ry
  obtain ⟨j, h1, h2, h3, h4, h5⟩ := iA he
  have hl : z.cps.toList.length=z.length := by simp [Str.length]
  rw [hl] at h1 h4 h5
  have hn := dS
  exact tail_any (typeIs_str s z t) slot_str_getitem.lookup (getItem_str (c := c) (by
    have e1 : decide (i < -(2 ^ 63 : Int))=false := decide_eq_false (by omega)
    have e2 : decide (i≥2 ^ 63)=false := decide_eq_false (by omega)
    rw [e1, e2, Bool.or_false]) (by rw [h1];simpa using h2) ⟨.str ⟨#[c]⟩, H, I.tok _, ⟨_, rfl⟩, q⟩) hs
theorem Inv.lst {pins : List (Addr × Obj)}{σ : St}{H : Hp}{s : Shared}{p : Addr}{xs : List V}(I : Inv X pins σ H s)(h : H p=some (.lst xs)) :
    ∃ (its : List Value) (n : Nat), aL xs its ∧ s.heap.get? p=some { cls := .type "list", data := .seq its.toArray n } ∧ xs.length≤sizeLine := by
  obtain ⟨z, its, n, r, e⟩ := I.hok p _ h
  exact ⟨its, n, r, e, z⟩
theorem eR (lo hi : Option Int)(n : Nat) : (sliceBounds lo hi none n).1=((HT.sIx n 0 lo : Nat) : Int) ∧ (sliceBounds lo hi none n).2.1=((HT.sIx n n hi : Nat) : Int) ∧ (sliceBounds lo hi none n).2.2=1 := by
  refine ⟨?_, ?_, rfl⟩
  · cases lo with
    | none => simp [sliceBounds, HT.sIx]
    | some i =>
      simp only [sliceBounds, HT.sIx, Option.getD_none, show (1 : Int) > 0 by decide, if_true]
      by_cases h : i < 0
      · simp only [h, if_true] <;> omega
      · simp only [h, if_false] <;> omega
  · cases hi with
    | none => simp [sliceBounds, HT.sIx]
    | some i =>
      simp only [sliceBounds, HT.sIx, Option.getD_none, show (1 : Int) > 0 by decide, if_true]
      by_cases h : i < 0
      · simp only [h, if_true] <;> omega
      · simp only [h, if_false] <;> omega
theorem ee (its : List Value)(lo hi : Option Int) : slicePick its.toArray lo hi none=((its.drop (HT.sIx its.length 0 lo)).take (HT.sIx its.length its.length hi - HT.sIx its.length 0 lo)).toArray := by
  obtain ⟨h1, h2, h3⟩ := eR lo hi its.toArray.size
  unfold slicePick
  rw [h1, h2, h3]
  simp only [sliceRange_one, pick_run, List.size_toArray] <;> rfl
inductive pd (K : PySem.W.Frag)(x : V)(lo : Option Int)(hi : Option Int)(H : Hp)(Q : VK) : Prop
  | mk : ∀ a xs, (x = .ref a) → (SqL K H a xs) → (∀ p, H p=none → Q (.ref p) (upd H p (.lst (mm xs lo hi)))) → pd K x lo hi H Q
theorem lq : SlR X (pd X.K) := by
  intro pins s σ H x v vl vu lo hi sl Q I rx hs pl pu h
  obtain ⟨a, xs, rfl, hx, q⟩ := h
  cases rx
  obtain ⟨its, r, ht, hz⟩ := I.list hx
  have hlen := r.length
  refine ⟨"list", _, slot_list_getitem.lookup, ht.isList.typeIs, ?_⟩
  refine wpAny_getItem_list_slice ht.isList hs pl pu .none (by simp) ?_ (by rw [List.size_toArray] <;> omega)
  rw [ee, ← hlen]
  refine ⟨.ref s.heap.objs.size, _, I.laid (t' := s.toks) (o := .lst (mm xs lo hi)) (fun b ob q => Heap.get?_push_of_some _ q) (Nat.le_refl _) ?_, rfl, q _ (I.hok.fresh (Nat.le_refl _))⟩
  exact ⟨Nat.le_trans (fQ xs lo hi) hz, _, 0, (r.drop (HT.sIx xs.length 0 lo)).take (HT.sIx xs.length xs.length hi - HT.sIx xs.length 0 lo), Heap.get?_push_size _ rfl⟩
def eS : V → Bool
  | .non => true
  | .bl _ => true
  | .int _ => true
  | .str _ => true
  | _ => false
def eqV : V → V → Bool
  | .non, .non => true
  | .bl a, .bl b => a == b
  | .bl a, .int b => (if a then 1 else 0) == b
  | .int a, .bl b => a == (if b then 1 else 0)
  | .int a, .int b => a == b
  | .str a, .str b => a == b
  | _, _ => false
theorem mR {A : Around}{s : Shared}{y x : V}{u v : Value}(ry : aR y u)(rx : aR x v)(fy : eS y=true)(fx : eS x=true) : SeqAt.EqAt A s u v (eqV y x) := by
  cases y with
  | non =>
    cases ry
    cases x with
    | non => cases rx;exact SeqAt.EqAt.same _
    | bl b => cases rx;exact SeqAt.EqAt.none_bool b
    | int b => obtain ⟨t, rfl⟩ := rx;exact SeqAt.EqAt.none_int b t
    | str b => obtain ⟨t, rfl⟩ := rx;exact SeqAt.EqAt.none_str b t
    | _ => exact absurd (show false=true from fx) Bool.false_ne_true
  | bl a =>
    cases ry
    cases x with
    | non => cases rx;exact SeqAt.EqAt.bool_none a
    | bl b => cases rx;exact SeqAt.EqAt.bool_bool a b
    | int b => obtain ⟨t, rfl⟩ := rx;exact SeqAt.EqAt.bool_int a b t
    | str b => obtain ⟨t, rfl⟩ := rx;exact SeqAt.EqAt.bool_str a b t
    | _ => exact absurd (show false=true from fx) Bool.false_ne_true
  | int a =>
    obtain ⟨t', rfl⟩ := ry
    cases x with
    | non => cases rx;exact SeqAt.EqAt.int_none a t'
    | bl b => cases rx;exact SeqAt.EqAt.int_bool a t' b
    | int b => obtain ⟨t, rfl⟩ := rx;exact SeqAt.EqAt.int_int a t' b t
    | str b => obtain ⟨t, rfl⟩ := rx;exact SeqAt.EqAt.int_str a t' b t
    | _ => exact absurd (show false=true from fx) Bool.false_ne_true
  | str a =>
    obtain ⟨t', rfl⟩ := ry
    cases x with
    | non => cases rx;exact SeqAt.EqAt.str_none a t'
    | bl b => cases rx;exact SeqAt.EqAt.str_bool a t' b
    | int b => obtain ⟨t, rfl⟩ := rx;exact SeqAt.EqAt.str_int a t' b t
    | str b => obtain ⟨t, rfl⟩ := rx;exact SeqAt.EqAt.str_str a t' b t
    | _ => exact absurd (show false=true from fx) Bool.false_ne_true
  | _ => exact absurd (show false=true from fy) Bool.false_ne_true
def eqU (x : V)(u : Value) : Bool := match u with
  | .none => eqV .non x
  | .bool b => eqV (.bl b) x
  | .int i _ => eqV (.int i) x
  | .str z _ => eqV (.str z) x
  | _ => false
theorem ky {x y : V}{u : Value}(r : aR y u)(f : eS y=true) : eqU x u=eqV y x := by
  cases y with
  | non => cases r;rfl
  | bl b => cases r;rfl
  | int i => obtain ⟨t, rfl⟩ := r;rfl
  | str z => obtain ⟨t, rfl⟩ := r;rfl
  | _ => exact absurd (show false=true from f) Bool.false_ne_true
theorem fR {x : V} : ∀ {xs : List V} {us : List Value}, aL xs us → xs.all eS=true → us.any (eqU x)=xs.any fun y => eqV y x
  | _, _, .nil, _ => rfl
  | y::xs, u::us, .cons r t, f => by
    rw [List.all_cons, Bool.and_eq_true] at f
    rw [List.any_cons, List.any_cons, ky r f.1, fR t f.2]
theorem ef {A : Around}{s : Shared}{x : V}{v : Value}(rx : aR x v)(fx : eS x=true) : ∀ {xs : List V} {us : List Value}, aL xs us → xs.all eS=true → ∀ u∈us, SeqAt.EqAt A s u v (eqU x u)
  | _, _, .nil, _ => fun u hu => by cases hu
  | y::xs, u::us, .cons r t, f => fun u' hu => by
    rw [List.all_cons, Bool.and_eq_true] at f
    rcases List.mem_cons.mp hu with rfl | hu
    · rw [ky r f.1];exact mR r rx f.1 fx
    · exact ef rx fx t f.2 u' hu
def inV (x : V)(xs : List V) : Bool := xs.any fun y => eqV y x
inductive rIn (K : PySem.W.Frag)(neg : Bool)(x : V)(y : V)(H : Hp)(Q : VK) : Prop
  | mk : ∀ p xs, (y = .ref p) → ((SqL K H p xs ∨ SqT K H p xs)) → (eS x=true) → (xs.all eS=true) → (Q (.bl (if neg then !inV x xs else inV x xs)) H) → rIn K neg x y H Q
theorem iD : OpR X (compareOp .In) (rIn X.K false) := by
  intro pins s σ H x y v u Q I rx ry h
  obtain ⟨p, xs, rfl, hq, fx, fs, q⟩ := h
  cases ry
  rcases hq with hq | hq
  · obtain ⟨its, r, pl, hz⟩ := I.list hq
    refine SeqAt.in_listAt (eqU x) pl.isList (fun w hw => ef rx fx r fs w (by simpa using hw)) ⟨.bl _, H, I, rfl, ?_⟩
    rw [show its.toArray.any (eqU x)=its.any (eqU x) by simp, fR r fs]
    exact q
  · obtain ⟨its, r, pl, hz⟩ := I.tuple hq
    refine SeqAt.in_tupleAt (eqU x) pl (fun w hw => ef rx fx r fs w (by simpa using hw)) ⟨.bl _, H, I, rfl, ?_⟩
    rw [show its.toArray.any (eqU x)=its.any (eqU x) by simp, fR r fs]
    exact q
inductive cb (K : PySem.W.Frag)(xs : List V)(H : Hp)(Q : VK) : Prop
  | mk : ∀ p ys, (xs=[.ref p]) → ((SqL K H p ys ∨ SqT K H p ys)) → (Q (.int ys.length) H) → cb K xs H Q
theorem bP : cC X (.builtin "len") (cb X.K) := by
  intro pins s σ H xs us Q I r h
  obtain ⟨p, ys, rfl, hq, q⟩ := h
  obtain ⟨u, rfl, rx⟩ := cD r
  cases rx
  have hn := dS
  rcases hq with hq | hq
  · obtain ⟨its, r', pl, hz⟩ := I.list hq
    have hlen := r'.length
    exact Calls.call_len_list pl.isList (by simp only [List.size_toArray] <;> omega) ⟨.int ys.length, H, I.tok _, ⟨s.toks+1, by rw [List.size_toArray, hlen]⟩, q⟩
  · obtain ⟨its, r', pl, hz⟩ := I.tuple hq
    have hlen := r'.length
    exact len_tuple pl (by simp only [List.size_toArray] <;> omega) ⟨.int ys.length, H, I.tok _, ⟨s.toks+1, by rw [List.size_toArray, hlen]⟩, q⟩
inductive cc  (xs : List V)(H : Hp)(Q : VK) : Prop
  | mk : ∀ z, (xs=[.str z]) → (z.length≤sizeLine) → (Q (.int z.length) H) → cc xs H Q
theorem bQ : cC X (.builtin "len") cc := by
  intro pins s σ H xs us Q I r h
  obtain ⟨z, rfl, hz, q⟩ := h
  obtain ⟨u, rfl, t, rfl⟩ := cD r
  have hn := dS
  exact len_str (by omega) ⟨.int z.length, H, I.tok _, ⟨_, rfl⟩, q⟩
inductive cf (K : PySem.W.Frag)(xs : List V)(H : Hp)(Q : VK) : Prop
  | mk : ∀ p ys, (xs=[.ref p]) → ((SqL K H p ys ∨ SqT K H p ys)) → (∀ l, H l=none → Q (.ref l) (upd H l (.lst ys))) → cf K xs H Q
theorem bR : cC X (.type "list") (cf X.K) := by
  intro pins s σ H xs us Q I r h
  obtain ⟨p, ys, rfl, hq, q⟩ := h
  obtain ⟨u, rfl, rx⟩ := cD r
  cases rx
  have fin : ∀ (its : List Value), aL ys its → ys.length≤sizeLine → ∀ (h' : Heap) (c' : Nat), (∀ b o', s.heap.get? b=some o' → h'.get? b=some o') →
      h'.get? s.heap.objs.size=some { cls := .type "list", dict := none, data := .seq its.toArray c', slots := #[] } → EP X pins σ Q (.ref s.heap.objs.size) { s with heap := h' } := fun its r' hz h' c' kp e =>
    ⟨.ref s.heap.objs.size, _, I.laid (t' := s.toks) kp (Nat.le_refl _) (show bp X.prog X.w _ h' _ (.lst ys) from ⟨hz, its, c', r', e⟩), rfl, q _ (I.hok.fresh (Nat.le_refl _))⟩
  rcases hq with hq | hq
  · obtain ⟨its, r', pl, hz⟩ := I.list hq
    have hlen := r'.length
    obtain ⟨o, ho, hc, n, hd⟩ := pl.isList
    exact call_list_seq p (.inl rfl) ho hc hd (fun h' c' kp e => fin its r' hz h' c' kp e) (by simp only [List.size_toArray] <;> omega)
  · obtain ⟨its, r', pl, hz⟩ := I.tuple hq
    have hlen := r'.length
    obtain ⟨o, ho, hc, n, hd⟩ := pl
    exact call_list_seq p (.inr rfl) ho hc hd (fun h' c' kp e => fin its r' hz h' c' kp e) (by simp only [List.size_toArray] <;> omega)
def tyV (K : PySem.W.Frag)(T : String)(x : V)(H : Hp) : Prop := match x with
  | .str _ => T = "str"
  | .int _ => T = "int"
  | .ref p => (T = "list" ∧ ∃ xs, SqL K H p xs) ∨ (T = "tuple" ∧ ((∃ o, K.lookup p=some o ∧ o.cls = .type "tuple" ∧ o.dict=none) ∨ ∃ xs, H p=some (.tup xs))) ∨
      (T = "dict" ∧ ((∃ kvs, H p=some (.dK kvs)) ∨ ∃ kvs, H p=some (.dT kvs))) ∨ (T = "set" ∧ ∃ S n, H p=some (.set S n))
  | _ => False
theorem kz {pins : List (Addr × Obj)}{σ : St}{H : Hp}{s : Shared}{T : String}{x : V}{v : Value}(I : Inv X pins σ H s)(r : aR x v)(ty : tyV X.K T x H) :
    s.TypeIs v T ∧ ∀ a, v = .ref a → ∃ ob, s.heap.get? a=some ob ∧ ob.dict=none := by
  cases x with
  | str z =>
    obtain ⟨t, rfl⟩ := r
    cases (show T = "str" from ty)
    exact ⟨typeIs_str s z t, fun _ e => nomatch e⟩
  | int i =>
    obtain ⟨t, rfl⟩ := r
    cases (show T = "int" from ty)
    exact ⟨typeIs_int s i t, fun _ e => nomatch e⟩
  | ref p =>
    cases r
    rcases ty with ⟨rfl, xs, hq⟩ | ⟨rfl, ⟨o, hk, hc, hd⟩ | ⟨xs, hk⟩⟩ | ⟨rfl, hk⟩ | ⟨rfl, S, n, hk⟩
    · obtain ⟨its, _, pl, _⟩ := I.list hq
      refine ⟨pl.isList.typeIs, fun a e => ?_⟩
      cases e
      obtain ⟨o, n, e, c, hd, _⟩ := pl
      exact ⟨o, e, hd⟩
    · refine ⟨⟨o, I.kIn p o hk, hc⟩, fun a e => ?_⟩
      cases e
      exact ⟨o, I.kIn _ o hk, hd⟩
    · obtain ⟨_, _, _, ⟨o, e, hc, _⟩, hn⟩ := I.hok p _ hk
      refine ⟨⟨o, e, hc⟩, fun a e => ?_⟩
      cases e
      exact hn
    · have z : ∃ o, s.heap.get? p=some o ∧ o.ExactDict := by
        rcases hk with ⟨kvs, hk⟩ | ⟨kvs, hk⟩
        · obtain ⟨_, _, _, _, o, _, _, e, ex, _⟩ := I.hok p _ hk
          exact ⟨o, e, ex⟩
        · obtain ⟨_, _, _, _, o, _, _, e, ex, _⟩ := I.hok p _ hk
          exact ⟨o, e, ex⟩
      obtain ⟨o, e, ex⟩ := z
      refine ⟨⟨o, e, ex.1⟩, fun a e2 => ?_⟩
      cases e2
      exact ⟨o, e, ex.2.1⟩
    · obtain ⟨o, _, _, _, e, ex, _⟩ := I.hok p _ hk
      refine ⟨⟨o, e, ex.1⟩, fun a e2 => ?_⟩
      cases e2
      exact ⟨o, e, ex.2.1⟩
  | _ => exact False.elim ty
def lr (K : PySem.W.Frag)(T : String)(r : V → List V → Hp → VK → Prop)(Q : VK) : V → Hp → Prop := fun x H1 => tyV K T x H1 ∧ r x [] H1 Q
def pT (K : PySem.W.Frag)(T : String)(r : V → List V → Hp → VK → Prop)(to : TE) : TE := fun σ H Q => to σ H (lr K T r Q)
def mS (r : V → List V → Hp → VK → Prop)(Q : VK)(x : V) : List V → Hp → Prop := fun xs H2 => r x xs H2 Q
def mT (K : PySem.W.Frag)(T : String)(r : V → List V → Hp → VK → Prop)(t : TA)(σ : St)(Q : VK) : V → Hp → Prop := fun x H1 => tyV K T x H1 ∧ t σ H1 (mS r Q x)
def tBM (K : PySem.W.Frag)(T : String)(r : V → List V → Hp → VK → Prop)(to : TE)(t : TA) : TE := fun σ H Q => to σ H (mT K T r t σ Q)
variable {o e : Expr} {es : List Expr} {to : TE} {t : TA} {name : Str} {apos cpos : Pos} {T id : String} {r : V → List V → Hp → VK → Prop}
theorem gr (pa : PlainAttrs T)(slot : Slot T name id)(hty : typeOf (.builtin id)=pure (.type "method_descriptor"))(hm : MtR X id r)(ho : PE X o to)
    (hbase : attributeBase o name X.env (eval o X.env)=eval o X.env := by rfl) (hline : (apos.endLine == cpos.line)=true := by rfl) : PE X (.Call (.Attribute o name apos) [] [] cpos) (pT X.K T r to) := by
  intro pins s σ H Q I h
  refine wpAny_Call_method0_late hbase hline (thn (ho pins s σ H _ I h) fun v s1 zq65 => ?_)
  obtain ⟨x, H1, I1, r1, ty, q1⟩ := zq65
  obtain ⟨h1, h2⟩ := kz I1 r1 ty
  exact ⟨T, id, pa, slot, hty, h1, h2, Calls.callWith_builtin rfl (PySem.evalArgs_none (hm pins s1 σ H1 x [] v [] Q I1 r1 .nil q1))⟩
theorem cL (pa : PlainAttrs T)(slot : Slot T name id)(hty : typeOf (.builtin id)=pure (.type "method_descriptor"))(hm : MtR X id r)(ho : PE X o to)(ha : PA X (e::es) t)
    (hbase : attributeBase o name X.env (eval o X.env)=eval o X.env := by rfl)
    (hfew : ((backTo cpos (starEach (e::es) X.env)).all (fun x => !x.1) && (backToKw cpos (keywordEach [] X.env)).all (fun x => x.1.isSome)
      && decide ((e::es).length+([] : List Keyword).length+(if ([] : List Keyword).isEmpty then 0 else 1) < 30))=true := by rfl)
    (hline : (apos.endLine == cpos.line)=true := by rfl) (hs : starEach (e::es) X.env=(false, eval e X.env)::starEach es X.env := by rfl) (hplain : (backTo cpos (starEach es X.env)).any (·.1)=false := by rfl) :
    PE X (.Call (.Attribute o name apos) (e::es) [] cpos) (tBM X.K T r to t) := by
  intro pins s σ H Q I h
  refine wpAny_Call_method_late hbase hfew hline rfl (thn (ho pins s σ H _ I h) fun v s1 zq66 => ?_)
  obtain ⟨x, H1, I1, r1, ty, q1⟩ := zq66
  obtain ⟨h1, h2⟩ := kz I1 r1 ty
  refine ⟨T, id, pa, slot, hty, h1, h2, ?_⟩
  have hA := ha cpos pins s1 σ H1 _ I1 q1
  rw [hs] at hA ⊢
  refine Calls.callWith_builtin (by show (false || (backTo cpos (starEach es X.env)).any (·.1))=false;rw [hplain] <;> rfl) (Calls.evalArgs_plain ?_)
  exact thn hA fun us s2 zq67 => (by obtain ⟨vs, H2, I2, r2, q2⟩ := zq67;exact hm pins s2 σ H2 x vs v us Q I2 r1 r2 q2)
/- xs.append(e), list.index on a module's tuple .. are MtR facts of 06m -/
end
def MtM (X : Cx)(id : String)(r : V → List V → Hp → VK → Prop) : Prop :=
  ∀ (pins : List (Addr × Obj)) (s : Shared) (σ : St) (H : Hp) (x : V) (xs : List V) (v : Value) (us : List Value) (Q : VK), Inv X pins σ H s → aR x v → aL xs us → r x xs H Q →
    wpAny (model X.prog X.w) X.A (call (.builtin id) (v::us)) (EP X pins σ Q) X.xe s
theorem aL.one : ∀ {x : V} {us : List Value}, aL [x] us → ∃ u, us=[u] ∧ aR x u
  | _, _, .cons r .nil => ⟨_, rfl, r⟩
theorem aL.zero : ∀ {us : List Value}, aL [] us → us=[]
  | _, .nil => rfl
theorem aL.dropLast {xs : List V}{us : List Value}(h : aL xs us) : aL xs.dropLast us.dropLast := by
  induction h with
  | nil => exact .nil
  | cons r t ih =>
    cases t with
    | nil => exact .nil
    | cons q t' => exact .cons r ih
theorem aL.reverse {xs : List V}{us : List Value}(h : aL xs us) : aL xs.reverse us.reverse := by
  induction h with
  | nil => exact .nil
  | cons r t ih => rw [List.reverse_cons, List.reverse_cons];exact aL.append ih (.cons r .nil)
theorem aL.rep {xs : List V}{us : List Value}(h : aL xs us) : ∀ k : Nat, aL (List.replicate k xs).flatten (List.replicate k us).flatten
  | 0 => .nil
  | k+1 => by
    rw [List.replicate_succ, List.replicate_succ, List.flatten_cons, List.flatten_cons]
    exact aL.append h (aL.rep h k)
theorem g9 {α : Type}(l : List α) : l.eraseIdx (l.length - 1)=l.dropLast := by
  induction l with
  | nil => rfl
  | cons a r ih =>
    cases r with
    | nil => rfl
    | cons b r =>
      have e : (a::b::r).length - 1=((b::r).length - 1)+1 := by
        have h1 : (a::b::r).length=r.length+2 := rfl
        have h2 : (b::r).length=r.length+1 := rfl
        omega
      rw [e, List.eraseIdx_cons_succ, ih]
      all_goals rfl
theorem eT (its : List Value) : ∀ (k : Nat) (acc : List Value),
    List.foldl (fun x1 x2 => x1++x2) acc.toArray (List.replicate k its.toArray)=(acc++(List.replicate k its).flatten).toArray
  | 0, acc => by simp
  | k+1, acc => by
    have e : acc.toArray++its.toArray=(acc++its).toArray := by simp
    have e2 : (acc++its)++(List.replicate k its).flatten=acc++(List.replicate (k+1) its).flatten := by
      rw [List.replicate_succ, List.flatten_cons, List.append_assoc]
    rw [← e2, ← eT its k (acc++its), ← e, List.replicate_succ, List.foldl_cons]
section
variable {X : Cx} {pins : List (Addr × Obj)} {σ : St} {H : Hp} {s : Shared} {l b : Addr} {xs ys zs : List V}
theorem Inv.lset {its its' : List Value}{n : Nat}{f : Array Value → Array Value}{t' : Nat}(I : Inv X pins σ H s)(hH : H l=some (.lst xs))
    (e : s.heap.get? l=some { cls := .type "list", data := .seq its.toArray n }) (hf : f its.toArray=its'.toArray) (hv : aL ys its') (hz : ys.length≤sizeLine) :
    Inv X pins σ (upd H l (.lst ys)) { s with heap := s.heap.update l (Obj.mapSeq f), toks := t' } := by
  have q := PySem.IsL.update e f
  rw [hf] at q
  refine I.write (x := l) (e := l) (by rw [hH];exact trivial) (.inl rfl) (fun b' u hb hu => (Heap.get?_update_other s.heap (Obj.mapSeq f) (Ne.symm hb)).trans hu) ⟨_, q⟩ ?_
  exact ⟨hz, its', _, hv, q⟩
theorem Inv.lnew {its : List Value}{t' : Nat}(I : Inv X pins σ H s)(hv : aL ys its)(hz : ys.length≤sizeLine) :
    Inv X pins σ (upd H s.heap.objs.size (.lst ys)) { s with heap := s.heap.push { cls := .type "list", data := .seq its.toArray }, toks := t' } :=
  I.laid (fun _ _ q => Heap.get?_push_of_some _ q) (Nat.le_refl _) ⟨hz, its, 0, hv, Heap.get?_push_size _ rfl⟩
theorem Inv.fresh (I : Inv X pins σ H s) : H s.heap.objs.size=none := I.hok.fresh (Nat.le_refl _)
theorem Inv.lstM (I : Inv X pins σ H s)(hH : H l=some (.lst xs)) : xs.length≤sizeLine ∧ ∃ (its : List Value) (n : Nat), aL xs its ∧ xs.length=its.length ∧ s.heap.get? l=some { cls := .type "list", data := .seq its.toArray n } := by
  obtain ⟨z, its, n, r, e⟩ := I.hok l _ hH
  exact ⟨z, its, n, r, r.length, e⟩
theorem gu {n : Nat}(h : n≤sizeLine) : Builtin.List.listTooLong n=false := by
  unfold Builtin.List.listTooLong
  exact decide_eq_false (by omega)
end
section
variable {X : Cx}
inductive iE (x : V)(vs : List V)(H : Hp)(Q : VK) : Prop
  | mk : ∀ l xs y, (x = .ref l) → (vs=[y]) → (H l=some (.lst xs)) → (xs.length < sizeLine) → (Q .non (upd H l (.lst (xs++[y])))) → iE x vs H Q
theorem bz : MtM X "list.append" iE := by
  intro pins s σ H x vs v us Q I rx rv h
  obtain ⟨l, xs, y, rfl, rfl, hH, hz, q⟩ := h
  cases rx
  obtain ⟨u, rfl, ru⟩ := rv.one
  obtain ⟨z, its, n, r, hl, e⟩ := I.lstM hH
  refine call_meets F.slot_list_append ⟨_, e, rfl⟩ F.entry_list_append (F.args_list_append_2 _ _) (PySem.list_append l its.toArray n u (by rw [List.size_toArray];omega)) ⟨e, ?_⟩
  refine ⟨.non, _, I.lset (its' := its++[u]) hH e (by simp) (r.append (.cons ru .nil)) ?_, rfl, q⟩
  rw [List.length_append, List.length_singleton]
  omega
inductive iF (x : V)(vs : List V)(H : Hp)(Q : VK) : Prop
  | mk : ∀ l b xs zs, (x = .ref l) → (vs=[.ref b]) → (H l=some (.lst xs)) → (H b=some (.lst zs)) → (xs.length+zs.length≤sizeLine) → (Q .non (upd H l (.lst (xs++zs)))) → iF x vs H Q
theorem eU : MtM X "list.extend" iF := by
  intro pins s σ H x vs v us Q I rx rv h
  obtain ⟨l, b, xs, zs, rfl, rfl, hH, hB, hz, q⟩ := h
  cases rx
  obtain ⟨u, rfl, ru⟩ := rv.one
  cases ru
  obtain ⟨z, its, n, r, hl, e⟩ := I.lstM hH
  obtain ⟨z2, its2, n2, r2, hl2, e2⟩ := I.lstM hB
  have hsz : its.toArray.size+its2.toArray.size≤sizeLine := by rw [List.size_toArray, List.size_toArray];omega
  have hlong : ¬ (!its.toArray.isEmpty && Builtin.List.listTooLong (its.toArray.size+its2.toArray.size))=true := by
    rw [gu hsz, Bool.and_false]
    exact Bool.false_ne_true
  refine call_meets F.slot_list_extend ⟨_, e, rfl⟩ F.entry_list_extend (F.args_list_extend_2 _ _)
    (AutoSeq1.list_extend_list_list_0 l its.toArray n b its2.toArray n2 hlong (by rw [List.size_toArray];omega) (by omega)) ⟨e, e2, ?_⟩
  refine ⟨.non, _, I.lset (its' := its++its2) hH e (by simp) (r.append r2) ?_, rfl, q⟩
  rw [List.length_append]
  omega
inductive pe (x : V)(vs : List V)(H : Hp)(Q : VK) : Prop
  | mk : ∀ l xs y, (x = .ref l) → (vs=[]) → (H l=some (.lst xs)) → (xs[xs.length - 1]? = some y) → (Q y (upd H l (.lst xs.dropLast))) → pe x vs H Q
theorem mU : MtM X "list.pop" pe := by
  intro pins s σ H x vs v us Q I rx rv h
  obtain ⟨l, xs, y, rfl, rfl, hH, hy, q⟩ := h
  cases rx
  have hus := rv.zero
  subst hus
  obtain ⟨z, its, n, r, hl, e⟩ := I.lstM hH
  obtain ⟨u, hu, ru⟩ := r.get hy
  have hy' : its.toArray[its.toArray.size - 1]? = some u := by
    show its.toArray[its.length - 1]? = some u
    rw [← Array.getElem?_toList, ← hl]
    exact hu
  refine call_meets F.slot_list_pop ⟨_, e, rfl⟩ F.entry_list_pop (F.args_list_pop_1 _) (MeetsSeq.list_pop_last l its.toArray n u hy' (by rw [List.size_toArray];omega)) ⟨e, ?_⟩
  refine ⟨y, _, I.lset (its' := its.dropLast) hH e ?_ r.dropLast ?_, ru, q⟩
  · show its.toArray.eraseIdxIfInBounds (its.toArray.size - 1)=its.dropLast.toArray
    rw [List.size_toArray, List.eraseIdxIfInBounds_toArray, g9]
  · rw [List.length_dropLast]
    omega
inductive gw (x : V)(vs : List V)(H : Hp)(Q : VK) : Prop
  | mk : ∀ l xs, (x = .ref l) → (vs=[]) → (H l=some (.lst xs)) → (Q .non (upd H l (.lst xs.reverse))) → gw x vs H Q
theorem g_ : MtM X "list.reverse" gw := by
  intro pins s σ H x vs v us Q I rx rv h
  obtain ⟨l, xs, rfl, rfl, hH, q⟩ := h
  cases rx
  have hus := rv.zero
  subst hus
  obtain ⟨z, its, n, r, hl, e⟩ := I.lstM hH
  refine call_meets F.slot_list_reverse ⟨_, e, rfl⟩ F.entry_list_reverse (F.args_list_reverse_1 _) (AutoSeq1.list_reverse_list_0 l its.toArray n (by rw [List.size_toArray];omega)) ⟨e, ?_⟩
  refine ⟨.non, _, I.lset (its' := its.reverse) hH e (by simp) r.reverse ?_, rfl, q⟩
  rw [List.length_reverse]
  omega
inductive pf (x : V)(y : V)(H : Hp)(Q : VK) : Prop
  | mk : ∀ l b xs zs, (x = .ref l) → (y = .ref b) → (H l=some (.lst xs)) → (H b=some (.lst zs)) → (xs.length+zs.length≤sizeLine) → (∀ p, H p=none → Q (.ref p) (upd H p (.lst (xs++zs)))) → pf x y H Q
theorem kA : OpR X (binaryOp .Add) pf := by
  intro pins s σ H x y v u Q I rx ry h
  obtain ⟨l, b, xs, zs, rfl, rfl, hH, hB, hz, q⟩ := h
  cases rx
  cases ry
  obtain ⟨z, its, n, r, hl, e⟩ := I.lstM hH
  obtain ⟨z2, its2, n2, r2, hl2, e2⟩ := I.lstM hB
  refine PySem.P.add_list e e2 ?_ (by rw [List.size_toArray, List.size_toArray];omega)
  have ea : its.toArray++its2.toArray=(its++its2).toArray := by simp
  rw [ea]
  exact ⟨.ref _, _, I.lnew (t' := s.toks) (r.append r2) (by rw [List.length_append];omega), rfl, q _ I.fresh⟩
inductive pg (x : V)(y : V)(H : Hp)(Q : VK) : Prop
  | mk : ∀ l k xs, (x = .ref l) → (y = .int k) → (H l=some (.lst xs)) → (-(2 ^ 63)≤k) → (k < 2 ^ 63) → (xs.length*k.toNat≤sizeLine) → (∀ p, H p=none → Q (.ref p) (upd H p (.lst (List.replicate k.toNat xs).flatten))) → pg x y H Q
theorem lz {α : Type}(xs : List α)(k : Nat) : (List.replicate k xs).flatten.length=k*xs.length := by
  induction k with
  | zero => simp
  | succ k ih => rw [List.replicate_succ, List.flatten_cons, List.length_append, ih, Nat.succ_mul, Nat.add_comm]
theorem mV : OpR X (binaryOp .Mult) pg := by
  intro pins s σ H x y v u Q I rx ry h
  obtain ⟨l, k, xs, rfl, rfl, hH, h1, h2, hz, q⟩ := h
  cases rx
  obtain ⟨t, rfl⟩ := ry
  obtain ⟨z, its, n, r, hl, e⟩ := I.lstM hH
  have hlen : its.toArray.size*k.toNat≤sizeLine := by rw [List.size_toArray, ← hl];exact hz
  have hcap : ¬ its.toArray.size*k.toNat > (2 ^ 63 - 1) / 8 := by
    have : (sizeLine : Nat)≤(2 ^ 63 - 1) / 8 := by decide
    omega
  have hfit : ¬ (!Builtin.List.listFitsIndex k)=true := by
    rw [fitsIndex_both h1 h2]
    exact Bool.false_ne_true
  have hlong : ¬ Builtin.List.listTooLong (its.toArray.size*k.toNat)=true := by
    rw [gu hlen]
    exact Bool.false_ne_true
  have hnew : List.foldl (fun x1 x2 => x1++x2) #[] (List.replicate (if its.toArray.isEmpty=true then 0 else k.toNat) its.toArray)=(List.replicate k.toNat its).flatten.toArray := by
    have f0 : ∀ m : Nat, List.foldl (fun x1 x2 => x1++x2) #[] (List.replicate m its.toArray)=(List.replicate m its).flatten.toArray := fun m => by
      have := eT its m []
      rw [List.nil_append] at this
      exact this
    rw [f0]
    cases its with
    | nil => simp
    | cons a r' => rw [if_neg (by simp)]
  refine wpAny_binaryOp_repeat_ref (T := "list") (U := "int") (by decide) ⟨_, e, rfl⟩ (fun s' => typeIs_int s' k t) noFill_list_mul F.fills_int_mul F.slot_int_rmul repeat_list F.slot_int_index.lookup
    (call_meets F.slot_int_rmul (typeIs_int s k t) F.entry_int_rmul (F.args_int_rmul_2 _ _) (int___rmul___int_list k t l its.toArray n)
      ⟨e, rfl, ⟨_, e, rfl⟩, call_meets F.slot_list_mul ⟨_, e, rfl⟩ F.entry_list_mul (F.args_list_mul_2 _ _) (AutoListH.list___mul___list_int_3 l its.toArray n k t hfit hcap hlong) ⟨e, ?_⟩⟩)
  rw [hnew]
  exact ⟨.ref _, _, I.lnew (t' := s.toks) (r.rep k.toNat) (by rw [lz, Nat.mul_comm];exact hz), rfl, q _ I.fresh⟩
end
section
variable {prog : Program} {w : World} {A : Around} {E : Value → Shared → Prop} {s : Shared}
end
section
variable {X : Cx}
end
section
variable {κ : Type} [DecidableEq κ]
def bH (kvs : List (κ × V))(k : κ) : Option V := (kvs.find? fun kv => decide (kv.1=k)).map (·.2)
def bI (kvs : List (κ × V))(k : κ)(v : V) : List (κ × V) :=
  if (kvs.any fun kv => decide (kv.1=k))=true then kvs.map (fun kv => if kv.1=k then (kv.1, v) else kv) else kvs++[(k, v)]
theorem aN {p : κ × V}{r : List (κ × V)}{k : κ}(e : p.1=k) : bH (p::r) k=some p.2 := by simp [bH, List.find?_cons, e]
theorem aO {p : κ × V}{r : List (κ × V)}{k : κ}(e : ¬ p.1=k) : bH (p::r) k=bH r k := by simp [bH, List.find?_cons, e]
theorem cP (k : κ) : ∀ kvs : List (κ × V), (kvs.any fun kv => decide (kv.1=k))=(bH kvs k).isSome
  | [] => rfl
  | p::r => by
    rw [List.any_cons]
    by_cases e : p.1=k
    · simp only [aN e, decide_eq_true e, Bool.true_or, Option.isSome_some]
    · rw [aO e, decide_eq_false e, Bool.false_or];exact cP k r
theorem gx (k j : κ)(y : V) : ∀ kvs : List (κ × V), bH (kvs.map fun kv => if kv.1=k then (kv.1, y) else kv) j=(bH kvs j).map fun x => if j=k then y else x
  | [] => rfl
  | p::r => by
    have ih := gx k j y r
    rw [List.map_cons]
    by_cases h : p.1=k
    · rw [if_pos h]
      by_cases e : p.1=j
      · rw [aN (p := (p.1, y)) e, aN e, Option.map_some, if_pos (e.symm.trans h)]
      · rw [aO (p := (p.1, y)) e, aO e, ih]
    · rw [if_neg h]
      by_cases e : p.1=j
      · rw [aN (p := p) e, aN e, Option.map_some, if_neg (fun z => h (e.trans z))]
      · rw [aO (p := p) e, aO e, ih]
theorem eV (k j : κ)(y : V) : ∀ kvs : List (κ × V), bH kvs k=none → bH (kvs++[(k, y)]) j=if j=k then some y else bH kvs j
  | [], _ => by
    by_cases e : k=j
    · rw [if_pos e.symm];exact aN (p := (k, y)) e
    · rw [if_neg (fun z => e z.symm)];exact aO (p := (k, y)) e
  | p::r, hn => by
    rw [List.cons_append]
    have hk : ¬ p.1=k := fun z => by rw [aN z] at hn;cases hn
    rw [aO hk] at hn
    have ih := eV k j y r hn
    by_cases e : p.1=j
    · rw [aN e, aN e, if_neg (fun z => hk (e.trans z))]
    · rw [aO e, aO e, ih]
theorem cQ (kvs : List (κ × V))(k j : κ)(y : V) : bH (bI kvs k y) j=if j=k then some y else bH kvs j := by
  unfold bI
  by_cases a : (kvs.any fun kv => decide (kv.1=k))=true
  · rw [if_pos a, gx]
    rw [cP] at a
    by_cases e : j=k
    · obtain ⟨x, hx⟩ := Option.isSome_iff_exists.mp a
      rw [if_pos e, e, hx, Option.map_some, if_pos rfl]
    · rw [if_neg e]
      cases bH kvs j with
      | none => rfl
      | some x => rw [Option.map_some, if_neg e]
  · rw [if_neg a]
    refine eV k j y kvs ?_
    rw [cP] at a
    cases q : bH kvs k with
    | none => rfl
    | some x => rw [q] at a;exact (a rfl).elim
theorem bh (kvs : List (κ × V))(k : κ)(v : V) : (bI kvs k v).length≤kvs.length+1 := by
  unfold bI
  split
  · rw [List.length_map];omega
  · rw [List.length_append, List.length_cons, List.length_nil];omega
theorem gW.isSome_eq {o : Option V}{u : Option Value}(r : gW o u) : o.isSome=u.isSome := by
  cases o with
  | none => cases u with
    | none => rfl
    | some _ => exact (show False from r).elim
  | some _ => cases u with
    | none => exact (show False from r).elim
    | some _ => rfl
theorem gW.getD {o : Option V}{u : Option Value}{d : V}{d' : Value}(r : gW o u)(rd : aR d d') : aR (o.getD d) (u.getD d') := by
  cases o with
  | none => cases u with
    | none => exact rd
    | some _ => exact (show False from r).elim
  | some _ => cases u with
    | none => exact (show False from r).elim
    | some _ => exact r
theorem KV.val {kvs : List (κ × V)}{vs : List (κ × Value)}(r : KV kvs vs)(k : κ) : gW (bH kvs k) (valueAt vs k) := by
  unfold KV at r
  induction r with
  | nil => exact True.intro
  | @cons p q ps qs h t ih =>
    obtain ⟨h1, h2⟩ := h
    by_cases e : p.1=k
    · have e' : q.1=k := h1.symm.trans e
      have b : valueAt (q::qs) k=some q.2 := by simp [valueAt, List.find?_cons, e']
      rw [aN e, b];exact h2
    · have e' : ¬ q.1=k := fun z => e (h1.trans z)
      have b : valueAt (q::qs) k=valueAt qs k := by simp [valueAt, List.find?_cons, e']
      rw [aO e, b];exact ih
theorem KV.any {kvs : List (κ × V)}{vs : List (κ × Value)}(r : KV kvs vs)(k : κ) : (kvs.any fun kv => decide (kv.1=k))=vs.any fun kv => decide (kv.1=k) := by
  unfold KV at r
  induction r with
  | nil => rfl
  | cons h t ih => rw [List.any_cons, List.any_cons, ih, h.1]
theorem KV.repl {kvs : List (κ × V)}{vs : List (κ × Value)}(r : KV kvs vs)(k : κ){y : V}{u : Value}(ry : aR y u) :
    KV (kvs.map fun kv => if kv.1=k then (kv.1, y) else kv) (vs.map fun kv => if kv.1=k then (kv.1, u) else kv) := by
  unfold KV at r ⊢
  induction r with
  | nil => exact .nil
  | @cons p q ps qs h t ih =>
    rw [List.map_cons, List.map_cons]
    refine .cons ?_ ih
    obtain ⟨h1, h2⟩ := h
    by_cases e : p.1=k
    · rw [if_pos e, if_pos (h1.symm.trans e)];exact ⟨h1, ry⟩
    · rw [if_neg e, if_neg (fun z => e (h1.trans z))];exact ⟨h1, h2⟩
theorem KV.put {kvs : List (κ × V)}{vs : List (κ × Value)}(r : KV kvs vs)(k : κ){y : V}{u : Value}(ry : aR y u) : KV (bI kvs k y) (stored vs k u) := by
  unfold bI stored
  rw [r.any k]
  by_cases e : (vs.any fun kv => decide (kv.1=k))=true
  · rw [if_pos e, if_pos e];exact r.repl k ry
  · rw [if_neg e, if_neg e];exact Paired.snoc r ⟨rfl, ry⟩
theorem KV.length {kvs : List (κ × V)}{vs : List (κ × Value)}(r : KV kvs vs) : kvs.length=vs.length := Paired.length r
end
theorem fS {P : Program}{w : World}{k : Key}{u : Value}(r : aR (kV k) u) : (aD P w).is k u=true := by
  cases k with
  | inl i => obtain ⟨t, e⟩ := (show ∃ t, u=Value.int i t from r);subst e;exact fG P w i t
  | inr x => obtain ⟨t, e⟩ := (show ∃ t, u=Value.str x t from r);subst e;exact fH P w x t
theorem eX {P : Program}{w : World} : ∀ {ks : List Key} {us : List Value}, aL (ks.map kV) us → ItemsAre (aD P w) ks us
  | [], _, r => by rw [List.map_nil] at r;cases r;exact .nil
  | k::ks, _, r => by
    rw [List.map_cons] at r
    cases r with
    | cons h t => exact .cons (fS h) (eX t)
abbrev KT (H : Hp) : List (List Key × V) → List (List Key × Addr × Value) → Prop := Paired fun p q => p.1=q.1 ∧ H q.2.1=some (.tup (p.1.map kV)) ∧ aR p.2 q.2.2
theorem KT.val {H : Hp}{kvs : List (List Key × V)}{xs : List (List Key × Addr × Value)}(r : KT H kvs xs)(k : List Key) : gW (bH kvs k) ((atKey xs k).map (·.2)) := by
  induction r with
  | nil => exact True.intro
  | @cons p q ps qs h t ih =>
    obtain ⟨h1, _, h2⟩ := h
    by_cases e : p.1=k
    · have e' : q.1=k := h1.symm.trans e
      have b : atKey (q::qs) k=some q.2 := by simp [atKey, List.find?_cons, e']
      rw [aN e, b];exact h2
    · have e' : ¬ q.1=k := fun z => e (h1.trans z)
      have b : atKey (q::qs) k=atKey qs k := by simp [atKey, List.find?_cons, e']
      rw [aO e, b];exact ih
theorem KT.repl {H : Hp}{kvs : List (List Key × V)}{xs : List (List Key × Addr × Value)}(r : KT H kvs xs)(k : List Key){y : V}{u : Value}(ry : aR y u) :
    KT H (kvs.map fun kv => if kv.1=k then (kv.1, y) else kv) (xs.map (putAt k u)) := by
  induction r with
  | nil => exact .nil
  | @cons p q ps qs h t ih =>
    rw [List.map_cons, List.map_cons]
    refine .cons ?_ ih
    obtain ⟨h1, h2, h3⟩ := h
    unfold putAt
    by_cases e : p.1=k
    · rw [if_pos e, if_pos (h1.symm.trans e)];exact ⟨h1, h2, ry⟩
    · rw [if_neg e, if_neg (fun z => e (h1.trans z))];exact ⟨h1, h2, h3⟩
theorem KT.put {H : Hp}{kvs : List (List Key × V)}{xs : List (List Key × Addr × Value)}(r : KT H kvs xs)(k : List Key){b : Addr}{y : V}{u : Value}(hb : H b=some (.tup (k.map kV)))(ry : aR y u) :
    KT H (bI kvs k y) (storedH xs k b u) := by
  have e : (kvs.any fun kv => decide (kv.1=k))=(atKey xs k).isSome := by
    rw [cP, (r.val k).isSome_eq, Option.isSome_map]
  unfold bI storedH
  rw [e]
  by_cases q : (atKey xs k).isSome=true
  · rw [if_pos q, if_pos q];exact r.repl k ry
  · rw [if_neg q, if_neg q];exact Paired.snoc r ⟨rfl, hb, ry⟩
theorem KT.keeps {H H' : Hp}{kvs : List (List Key × V)}{xs : List (List Key × Addr × Value)}(r : KT H kvs xs)(ht : ∀ b ys, H b=some (.tup ys) → H' b=some (.tup ys)) : KT H' kvs xs :=
  Paired.mapP r fun _ _ z => ⟨z.1, ht _ _ z.2.1, z.2.2⟩
section
variable {P : Program} {w : World} {H : Hp} {h : Heap} {a : Addr}
theorem mW {u : HO}(ok : HOk P w H h)(e : Rd H a u) : bp P w H h a u := e.ok ok
theorem fT {kvs : List (Key × V)}(ok : HOk P w H h)(e : Rd H a (.dK kvs)) : kvs.length≤sizeLine ∧ (a == sysModules)=false ∧ ∃ vs, KV kvs vs ∧ h.DictOf (aD P w) a vs :=
  show bp P w H h a (.dK kvs) from mW ok e
theorem hE {kvs : List (Key × V)}(ok : HOk P w H h)(e : H a=some (.dK kvs)) : kvs.length≤sizeLine ∧ (a == sysModules)=false ∧ ∃ vs, KV kvs vs ∧ h.DictOf (aD P w) a vs := fT ok (.inl e)
theorem dW {ks : List Key}(ok : HOk P w H h)(e : H a=some (.tup (ks.map kV))) : (tupleKind (aD P w)).is h ks a := by
  obtain ⟨_, its, r, ⟨o, h1, h2, n, h3⟩, _⟩ := (show bp P w H h a (.tup (ks.map kV)) from ok a _ e)
  exact ⟨o, its.toArray, n, h1, h2, h3, by simpa using eX r⟩
theorem fU {kvs : List (List Key × V)}(ok : HOk P w H h)(e : Rd H a (.dT kvs)) : kvs.length≤sizeLine ∧ (a == sysModules)=false ∧
    ∃ xs, KT H kvs xs ∧ h.DictOfH (tupleKind (aD P w)) a xs := by
  obtain ⟨z, y, xs, r, o, es, ep, h1, h2, h3, h4, h5⟩ := (show bp P w H h a (.dT kvs) from mW ok e)
  refine ⟨z, y, xs, r, o, es, ep, h1, h2, h3, h4, fun x hx => ?_, h5⟩
  have all : ∀ {l : List (List Key × V)} {m : List (List Key × Addr × Value)}, KT H l m → ∀ x∈m, (tupleKind (aD P w)).is h x.1 x.2.1 := by
    intro l m q
    induction q with
    | nil => intro x hx;exact nomatch hx
    | @cons p q ps qs hq t ih =>
      intro x hx
      rcases List.mem_cons.mp hx with e | hx
      · subst e
        exact dW ok (by rw [← hq.1];exact hq.2.1)
      · exact ih x hx
  exact all r x hx
theorem ou {kvs : List (List Key × V)}(ok : HOk P w H h)(e : H a=some (.dT kvs)) : kvs.length≤sizeLine ∧ (a == sysModules)=false ∧
    ∃ xs, KT H kvs xs ∧ h.DictOfH (tupleKind (aD P w)) a xs := fU ok (.inl e)
end
def cM (H : Hp)(a : Addr)(y : V)(r : Option V) : Prop :=
  (∃ kvs k, Rd H a (.dK kvs) ∧ y=kV k ∧ r=bH kvs k) ∨ ∃ kvs k b, Rd H a (.dT kvs) ∧ y = .ref b ∧ H b=some (.tup (k.map kV)) ∧ r=bH kvs k
def jE (H : Hp)(a : Addr)(y v : V)(H' : Hp) : Prop :=
  (∃ kvs k, H a=some (.dK kvs) ∧ y=kV k ∧ kvs.length < sizeLine ∧ H'=upd H a (.dK (bI kvs k v))) ∨
  ∃ kvs k b, H a=some (.dT kvs) ∧ y = .ref b ∧ H b=some (.tup (k.map kV)) ∧ kvs.length < sizeLine ∧ H'=upd H a (.dT (bI kvs k v))
theorem cM.k {H : Hp}{a : Addr}{kvs : List (Key × V)}{k : Key}(e : H a=some (.dK kvs)) : cM H a (kV k) (bH kvs k) := .inl ⟨kvs, k, .inl e, rfl, rfl⟩
theorem jE.k {H : Hp}{a : Addr}{kvs : List (Key × V)}{k : Key}{v : V}(e : H a=some (.dK kvs))(hl : kvs.length < sizeLine) : jE H a (kV k) v (upd H a (.dK (bI kvs k v))) := .inl ⟨kvs, k, e, rfl, hl, rfl⟩
section
variable {X : Cx} {pins : List (Addr × Obj)} {σ : St} {H : Hp} {s : Shared} {a : Addr} {y v : V} {u r : Value} {o : Option V} {A : Around} {E : Value → Shared → Prop}
theorem Inv.big (I : Inv X pins σ H s) : sysModules < s.heap.objs.size := by
  have h : mainGlobals < s.heap.objs.size := (I.mod.glob.keeps I.bk).lt
  exact Nat.lt_trans (by decide) h
theorem iG {Q : Value → Shared → Prop}(hu : A.units+1 < cLine)(I : Inv X pins σ H s)(g : cM H a y (some v))(ry : aR y u)(h : ∀ w' s', Inv X pins σ H s' → aR v w' → Q w' s') :
    wpAny (model X.prog X.w) A (getItem (.ref a) u) Q E s := by
  rcases g with ⟨kvs, k, e, ey, l⟩ | ⟨kvs, k, b, e, ey, eb, l⟩
  · subst ey
    obtain ⟨z, hd, vs, rel, dd⟩ := fT I.hok e
    obtain ⟨w', hw, rw'⟩ := gW.some_of (v := v) (o := valueAt vs k) (by rw [l];exact rel.val k)
    exact wpAny_getItem_of (fS ry) dd.mapOf hw (h w' _ (I.tok _) rw')
  · subst ey
    cases (show u=Value.ref b from ry)
    obtain ⟨z, hd, xs, rel, dd⟩ := fU I.hok e
    obtain ⟨w', hw, rw'⟩ := gW.some_of (v := v) (o := (atKey xs k).map (·.2)) (by rw [l];exact rel.val k)
    obtain ⟨p, hp, hp2⟩ := Option.map_eq_some_iff.mp hw
    refine wpAny_getItem_heap (tupleKind_room_in1 hu) (dW I.hok eb) dd hp ?_
    rw [hp2]
    exact h w' _ (I.tok _) rw'
theorem pU {Q : Value → Shared → Prop}(hu : A.units+1 < cLine)(I : Inv X pins σ H s)(g : cM H a y o)(ry : aR y u)(h : ∀ s', Inv X pins σ H s' → Q (.bool o.isSome) s') :
    wpAny (model X.prog X.w) A (compareOp .In u (.ref a)) Q E s := by
  rcases g with ⟨kvs, k, e, ey, l⟩ | ⟨kvs, k, b, e, ey, eb, l⟩
  · subst ey
    obtain ⟨z, hd, vs, rel, dd⟩ := fT I.hok e
    refine wpAny_in_of (fS ry) hd dd.mapOf ?_
    rw [← (rel.val k).isSome_eq, ← l]
    exact h _ (I.tok _)
  · subst ey
    cases (show u=Value.ref b from ry)
    obtain ⟨z, hd, xs, rel, dd⟩ := fU I.hok e
    refine wpAny_in_heap (tupleKind_room_in1 hu) (dW I.hok eb) hd dd ?_
    have q := (rel.val k).isSome_eq
    rw [Option.isSome_map] at q
    rw [← q, ← l]
    exact h _ (I.tok _)
theorem lA {Q : Value → Shared → Prop}(hu : A.units+1 < cLine)(I : Inv X pins σ H s)(g : cM H a y o)(ry : aR y u)(h : ∀ s', Inv X pins σ H s' → Q (.bool (!o.isSome)) s') :
    wpAny (model X.prog X.w) A (compareOp .NotIn u (.ref a)) Q E s := by
  rcases g with ⟨kvs, k, e, ey, l⟩ | ⟨kvs, k, b, e, ey, eb, l⟩
  · subst ey
    obtain ⟨z, hd, vs, rel, dd⟩ := fT I.hok e
    refine wpAny_notIn_of (fS ry) hd dd.mapOf ?_
    rw [← (rel.val k).isSome_eq, ← l]
    exact h _ (I.tok _)
  · subst ey
    cases (show u=Value.ref b from ry)
    obtain ⟨z, hd, xs, rel, dd⟩ := fU I.hok e
    refine wpAny_notIn_heap (tupleKind_room_in1 hu) (dW I.hok eb) hd dd ?_
    have q := (rel.val k).isSome_eq
    rw [Option.isSome_map] at q
    rw [← q, ← l]
    exact h _ (I.tok _)
theorem dh {h' : Heap}{t' : Nat}{ob : HO}(I : Inv X pins σ H s)(mu : Mut (H a))(hs : Heap.SameBut a s.heap h')(he : ∃ q, h'.get? a=some q)(new : bp X.prog X.w (upd H a ob) h' a ob) :
    Inv X pins σ (upd H a ob) { s with heap := h', toks := t' } :=
  I.write (x := a) (e := a) mu (.inl rfl) (fun b q hb z => (hs.2 b hb).trans z) he new
theorem kC {P : Program}{w : World}{H' : Hp}{h' : Heap}{kvs : List (Key × V)}{vs : List (Key × Value)}(z : kvs.length≤sizeLine)(hd : (a == sysModules)=false)(rel : KV kvs vs)(dd : h'.DictOf (aD P w) a vs) :
    bp P w H' h' a (.dK kvs) := ⟨z, hd, vs, rel, dd⟩
theorem iH {H' : Hp}{Q : Unit → Shared → Prop}(hu : A.units+1 < cLine)(I : Inv X pins σ H s)(g : jE H a y v H')(ry : aR y u)(rv : aR v r)(h : ∀ s', Inv X pins σ H' s' → Q () s') :
    wpAny (model X.prog X.w) A (setItem (.ref a) u r) Q E s := by
  rcases g with ⟨kvs, k, e, ey, l, eH⟩ | ⟨kvs, k, b, e, ey, eb, l, eH⟩
  · subst ey eH
    obtain ⟨z, hd, vs, rel, dd⟩ := hE I.hok e
    have hz : vs.length≤sizeLine := by rw [← rel.length];exact z
    have hl : (bI kvs k v).length≤sizeLine := by have := bh kvs k v;omega
    refine wpAny_setItem_pairs (hsz := hz) (fS ry) dd fun h' dd' hs => h _ ?_
    have he : ∃ q, h'.get? a=some q := let ⟨q, _, _, hq, _⟩ := dd';⟨q, hq⟩
    exact dh I (by rw [e];exact True.intro) hs he (kC hl hd (rel.put k rv) dd')
  · subst ey eH
    cases (show u=Value.ref b from ry)
    obtain ⟨z, hd, xs, rel, dd⟩ := ou I.hok e
    have hz : xs.length≤sizeLine := by rw [← Paired.length rel];exact z
    have hl : (bI kvs k v).length≤sizeLine := by have := bh kvs k v;omega
    refine wpAny_setItem_heap (hsz := hz) (tupleKind_room_in1 hu) (dW I.hok eb) dd fun h' dd' hs => h _ ?_
    obtain ⟨q, es, ep, hq, h2, h3, h4, _, h5⟩ := dd'
    refine dh I (by rw [e];exact True.intro) hs ⟨q, hq⟩ ⟨hl, hd, _, (rel.put k eb rv).keeps fun c ys ec => ?_, q, es, ep, hq, h2, h3, h4, h5⟩
    rw [ak (kQ ec e (fun z => nomatch z))]
    exact ec
end
section
variable {X : Cx} {pins : List (Addr × Obj)} {σ : St} {H : Hp} {s : Shared} {a : Addr} {kvs : List (Key × V)} {k : Key} {u : Value} {A : Around} {E : Value → Shared → Prop}
end
def ph (i : Expr) : Prop := ∀ ov iv, subscripted i false ov iv=operate [ov, iv] (getItem ov iv)
theorem lC {prog : Program}{w : World}{A : Around}{E : Value → Shared → Prop}{s : Shared}{env : Env}{value slice : Expr}{pos : Pos}{T id : String}{Q : Value → Shared → Prop}
    (hl : typeLookup (.type T) "__getitem__" = pure (some (.builtin id))) (hs : ph slice)
    (h : wpAny (model prog w) A (eval value env) (fun o s₁ => wpAny (model prog w) A (eval slice env) (fun i s₂ => s₂.TypeIs o T ∧ wpAny (model prog w) A (getItem o i) Q E s₂) E s₁) E s) :
    wpAny (model prog w) A (eval (.Subscript value slice pos) env) Q E s := by
  refine Subscript_ (wpAny_mono h (fun o s₁ h₁ => wpAny_mono h₁ (fun i s₂ h₂ => ?_) fun _ _ x => x) fun _ _ x => x)
  obtain ⟨hT, h₂⟩ := h₂
  unfold subscriptTail
  refine wpAny_bind ?_
  rw [getitemInPython_of_ne hT.not_modules]
  refine wpAny_bind (wpAny_specialOf hT hl ?_)
  have fin : wpAny (model prog w) A (subscripted slice false o i) (fun r s₃ => wpAny (model prog w) A (letTemporaryGo value o r >>= fun _ => pure r) Q E s₃) E s₂ := by
    rw [hs o i]
    exact wpAny_operating (wpAny_mono h₂ (fun r s₃ h₃ => wpAny_bind (wpAny_letTemporaryGo (wpAny_pure h₃))) fun _ _ x => x)
  first
    | exact wpAny_pure (wpAny_bind fin)
    | exact wpAny_bind (wpAny_pure (wpAny_bind fin))
    | exact wpAny_bind fin
theorem fV {X : Cx}{pins : List (Addr × Obj)}{σ : St}{H : Hp}{s : Shared}{a : Addr}{y : V}{o : Option V}(I : Inv X pins σ H s)(g : cM H a y o) : s.TypeIs (.ref a) "dict" := by
  rcases g with ⟨kvs, k, e, _, _⟩ | ⟨kvs, k, b, e, _, _, _⟩
  · obtain ⟨_, _, vs, _, dd⟩ := fT I.hok e
    exact dd.typeIs
  · obtain ⟨_, _, xs, _, dd⟩ := fU I.hok e
    exact dd.typeIs
def ow (td ty : TE) : TE := fun σ H Q => td σ H fun x H1 => ty σ H1 fun y H2 => ∃ a v, x = .ref a ∧ cM H2 a y (some v) ∧ Q v H2
def pj (ty td : TE) : TE := fun σ H Q => ty σ H fun y H1 => td σ H1 fun x H2 => ∃ a o, x = .ref a ∧ cM H2 a y o ∧ Q (.bl o.isSome) H2
def iI (ty td : TE) : TE := fun σ H Q => ty σ H fun y H1 => td σ H1 fun x H2 => ∃ a o, x = .ref a ∧ cM H2 a y o ∧ Q (.bl (!o.isSome)) H2
def ox (td ty tv : TE) : TS := fun D σ H => tv σ H fun v H1 => td σ H1 fun x H2 => ty σ H2 fun y H3 => ∃ a H4, x = .ref a ∧ jE H3 a y v H4 ∧ D.nx σ H4
section
variable {X : Cx} {o i e value : Expr} {pos pos' tpos : Pos} {td ty tv : TE}
theorem aU (hu : X.A.units+1 < cLine)(ho : PE X o td)(hi : PE X i ty)(hs : ph i) : PE X (.Subscript o i pos) (ow td ty) := by
  intro pins s σ H Q I h
  refine lC PySem.F.slot_dict_getitem.lookup hs (thn (ho pins s σ H _ I h) fun u s1 ⟨x, H1, I1, rx, q1⟩ => thn (hi pins s1 σ H1 _ I1 q1) fun iv s2 zq68 => ?_)
  obtain ⟨y, H2, I2, ry, a, v, ex, g, q2⟩ := zq68
  subst ex
  obtain rfl : u=Value.ref a := rx
  exact ⟨fV I2 g, iG hu I2 g ry fun w' s3 I3 rw' => ⟨v, H2, I3, rw', q2⟩⟩
theorem mX (hu : X.A.units+1 < cLine)(hi : PE X i ty)(ho : PE X o td) : PC X .In i o (pj ty td) := by
  intro pins s σ H Q I h
  refine thn (hi pins s σ H _ I h) fun iv s1 ⟨y, H1, I1, ry, q1⟩ => thn (ho pins s1 σ H1 _ I1 q1) fun u s2 zq69 => ?_
  obtain ⟨x, H2, I2, rx, a, ov, ex, g, q2⟩ := zq69
  subst ex
  obtain rfl : u=Value.ref a := rx
  exact pU hu I2 g ry fun s3 I3 => ⟨.bl ov.isSome, H2, I3, rfl, q2⟩
theorem iJ (hu : X.A.units+1 < cLine)(hi : PE X i ty)(ho : PE X o td) : PC X .NotIn i o (iI ty td) := by
  intro pins s σ H Q I h
  refine thn (hi pins s σ H _ I h) fun iv s1 ⟨y, H1, I1, ry, q1⟩ => thn (ho pins s1 σ H1 _ I1 q1) fun u s2 zq70 => ?_
  obtain ⟨x, H2, I2, rx, a, ov, ex, g, q2⟩ := zq70
  subst ex
  obtain rfl : u=Value.ref a := rx
  exact lA hu I2 g ry fun s3 I3 => ⟨.bl (!ov.isSome), H2, I3, rfl, q2⟩
theorem bS (hu : X.A.units+1 < cLine)(ho : PE X o td)(hi : PE X i ty)(hv : PE X value tv)(hs : swapsWith value (some (.Subscript o i pos')) pos.line X.env=pure false) :
    PS X (.Assign [.Subscript o i pos'] value pos) (ox td ty tv) := by
  intro pins s σ H D I h
  refine wpAny_Assign_Subscript (thn (hv pins s σ H _ I h) fun r s1 ⟨v, H1, I1, rv, q1⟩ => thn (ho pins s1 σ H1 _ I1 q1) fun u s2 ⟨x, H2, I2, rx, q2⟩ => thn (hi pins s2 σ H2 _ I2 q2) fun iv s3 zq71 => ?_) hs
  obtain ⟨y, H3, I3, ry, a, H4, ex, g, q3⟩ := zq71
  subst ex
  obtain rfl : u=Value.ref a := rx
  exact iH hu I3 g ry rv fun s4 I4 => ⟨σ, H4, I4, q3⟩
end
theorem gy {P : Program}{w : World}{H : Hp}(h : Heap)(hb : sysModules < h.objs.size) : bp P w H (h.push { cls := .type "dict", data := .dict #[] }) h.objs.size (.dK []) :=
  ⟨Nat.zero_le _, beq_eq_false_iff_ne.mpr (Ne.symm (Nat.ne_of_lt hb)), [], .nil, Heap.DictOf.new h⟩
def mY : TE := fun _ H Q => ∀ p, H p=none → Q (.ref p) (upd H p (.dK []))
section
variable {X : Cx} {pos : Pos}
theorem cu : PE X (.Dict [] [] pos) mY := fun pins s σ H Q I h =>
  wpAny_Dict_empty ⟨.ref s.heap.objs.size, _, I.laid (a := s.heap.objs.size) (o := .dK []) (t' := s.toks) (fun _ _ q => Heap.get?_push_of_some _ q) (Nat.le_refl _) (gy s.heap I.big), rfl, h _ (I.hok.fresh (Nat.le_refl _))⟩
end
def iK : List (TE × TE) → St → Hp → (List (V × V) → Hp → Prop) → Prop
  | [], _, H, Q => Q [] H
  | (tk, tv)::r, σ, H, Q => tk σ H fun x H1 => tv σ H1 fun y H2 => iK r σ H2 fun ps H3 => Q ((x, y)::ps) H3
abbrev VV : List (V × V) → List (Value × Value) → Prop := Paired fun p q => aR p.1 q.1 ∧ aR p.2 q.2
def PPs (X : Cx)(pos : Pos)(keys : List (Option Expr))(values : List Expr)(trs : List (TE × TE)) : Prop :=
  ∀ (pins : List (Addr × Obj)) (s : Shared) (σ : St) (H : Hp) (Q : List (V × V) → Hp → Prop), Inv X pins σ H s → iK trs σ H Q →
    wpAny (model X.prog X.w) X.A (evalPairs (pairTrees keys values X.env pos)) (fun vs s' => ∃ ps H', Inv X pins σ H' s' ∧ VV ps vs ∧ Q ps H') X.xe s
theorem fX {X : Cx}{pos : Pos} : PPs X pos [] [] [] := fun pins s σ H Q I h => pairTrees_nil_walk ⟨[], H, I, .nil, h⟩
theorem bY {X : Cx}{pos : Pos}{k v : Expr}{ks : List (Option Expr)}{vs : List Expr}{tk tv : TE}{trs : List (TE × TE)}(hk : PE X k tk)(hv : PE X v tv)(hr : PPs X pos ks vs trs) :
    PPs X pos (some k::ks) (v::vs) ((tk, tv)::trs) := fun pins s σ H Q I h =>
  pairTrees_cons_walk (thn (hk pins s σ H _ I h) fun u s1 ⟨x, H1, I1, rx, q1⟩ => thn (hv pins s1 σ H1 _ I1 q1) fun w2 s2 ⟨y, H2, I2, ry, q2⟩ =>
    thn (hr pins s2 σ H2 _ I2 q2) fun ws s3 zq75 => (by obtain ⟨ps, H3, I3, rel, q3⟩ := zq75;exact ⟨(x, y)::ps, H3, I3, .cons ⟨rx, ry⟩ rel, q3⟩))
def cv (kvs more : List (Key × V)) : List (Key × V) := more.foldl (fun acc kv => bI acc kv.1 kv.2) kvs
theorem KV.merge : ∀ {more : List (Key × V)} {rs : List (Key × Value)} {kvs : List (Key × V)} {vs : List (Key × Value)}, KV more rs → KV kvs vs → KV (cv kvs more) (merged vs rs) := by
  intro more rs kvs vs r
  unfold KV at r
  induction r generalizing kvs vs with
  | nil => intro q;exact q
  | @cons p q ps qs h t ih =>
    intro r0
    have e : KV (bI kvs p.1 p.2) (stored vs q.1 q.2) := by
      have := r0.put p.1 h.2
      rw [← h.1];exact this
    exact ih e
theorem cw : ∀ (more kvs : List (Key × V)), (cv kvs more).length≤kvs.length+more.length
  | [], kvs => by show kvs.length≤kvs.length+0;omega
  | p::r, kvs => by
    have h1 := cw r (bI kvs p.1 p.2)
    have h2 := bh kvs p.1 p.2
    show (cv (bI kvs p.1 p.2) r).length≤_
    rw [List.length_cons];omega
theorem dX {P : Program}{w : World} : ∀ {kvs : List (Key × V)} {ws : List (Value × Value)}, VV (kvs.map fun kv => (kV kv.1, kv.2)) ws → ∃ rs, Carries (aD P w) ws rs ∧ KV kvs rs
  | [], _, r => by rw [List.map_nil] at r;cases r;exact ⟨[], True.intro, .nil⟩
  | p::kvs, _, r => by
    rw [List.map_cons] at r
    cases r with
    | @cons a b as bs h t =>
      obtain ⟨rs, c, q⟩ := dX (P := P) (w := w) t
      obtain ⟨b1, b2⟩ := b
      exact ⟨(p.1, b2)::rs, ⟨fS h.1, rfl, c⟩, .cons ⟨rfl, h.2⟩ q⟩
def oy (trs : List (TE × TE)) : TE := fun σ H Q => ∀ p, H p=none → iK trs σ (upd H p (.dK [])) fun ps H2 => H2 p=some (.dK []) ∧ ∃ kvs : List (Key × V), ps=kvs.map (fun kv => (kV kv.1, kv.2)) ∧ kvs.length≤15 ∧ Q (.ref p) (upd H2 p (.dK (cv [] kvs)))
theorem fY {X : Cx}{pos : Pos}{keys : List (Option Expr)}{values : List Expr}{trs : List (TE × TE)}(h : PPs X pos keys values trs)(hall : keys.all (·.isSome)=true)(hl : keys.length=values.length)(h0 : keys≠[])
    (h15 : keys.length≤15) : PE X (.Dict keys values pos) (oy trs) := by
  intro pins s σ H Q I q
  have hn := I.hok.fresh (Nat.le_refl s.heap.objs.size)
  have I1 := I.laid (a := s.heap.objs.size) (o := .dK []) (h' := s.heap.push { cls := .type "dict", data := .dict #[] }) (t' := s.toks) (fun _ _ q => Heap.get?_push_of_some _ q) (Nat.le_refl _) (gy s.heap I.big)
  refine wpAny_Dict_walk (knd := aD X.prog X.w) hall hl h0 h15 (thn (h pins _ σ _ _ I1 (q _ hn)) fun ws s2 zq76 => ?_)
  obtain ⟨ps, H2, I2, rel, e, kvs, ep, lk, q2⟩ := zq76
  subst ep
  obtain ⟨rs, c, rk⟩ := dX (P := X.prog) (w := X.w) rel
  obtain ⟨z, hd, vs0, r0, dd⟩ := hE I2.hok e
  cases r0
  refine ⟨rs, c, dd, fun h' dd' hs => ⟨.ref s.heap.objs.size, _, ?_, rfl, q2⟩⟩
  have hz : (cv [] kvs).length≤sizeLine := by
    have h1 := cw kvs []
    rw [List.length_nil] at h1
    rw [sizeLine_eq];omega
  have he : ∃ q, h'.get? s.heap.objs.size=some q := let ⟨q, _, _, hq, _⟩ := dd';⟨q, hq⟩
  exact dh I2 (by rw [e];exact True.intro) hs he (kC hz hd (rk.merge .nil) dd')
structure M2 (X : Cx) (o : Expr) (m : Str) (apos : Pos) (e f : Expr) (cpos : Pos) : Prop where
  base : attributeBase o m X.env (eval o X.env)=eval o X.env
  few : ((backTo cpos (starEach [e, f] X.env)).all (fun x => !x.1) && (backToKw cpos (keywordEach [] X.env)).all (fun x => x.1.isSome)
    && decide (([e, f] : List Expr).length+([] : List Keyword).length+(if ([] : List Keyword).isEmpty then 0 else 1) < 30))=true
  line : (apos.endLine == cpos.line)=true
  trees : backTo cpos (starEach [e, f] X.env)=[(false, eval e X.env), (false, eval f X.env)]
def IsD (H : Hp)(a : Addr) : Prop := (∃ kvs, Rd H a (.dK kvs)) ∨ ∃ kvs, Rd H a (.dT kvs)
theorem kD {X : Cx}{pins : List (Addr × Obj)}{σ : St}{H : Hp}{s : Shared}{a : Addr}(I : Inv X pins σ H s)(d : IsD H a) :
    s.TypeIs (.ref a) "dict" ∧ (∀ b, Value.ref a = .ref b → ∃ ob, s.heap.get? b=some ob ∧ ob.dict=none) ∧ (a == sysModules)=false := by
  rcases d with ⟨kvs, e⟩ | ⟨kvs, e⟩
  · obtain ⟨_, hd, vs, _, dd⟩ := fT I.hok e
    refine ⟨dd.typeIs, fun b q => ?_, hd⟩
    cases q
    obtain ⟨ob, _, _, h1, h2, _⟩ := dd
    exact ⟨ob, h1, h2.2.1⟩
  · obtain ⟨_, hd, xs, _, dd⟩ := fU I.hok e
    refine ⟨dd.typeIs, fun b q => ?_, hd⟩
    cases q
    obtain ⟨ob, _, _, h1, h2, _⟩ := dd
    exact ⟨ob, h1, h2.2.1⟩
section
variable {X : Cx} {pins : List (Addr × Obj)} {σ : St} {H : Hp} {s : Shared} {a : Addr} {y d : V} {u r : Value} {o : Option V} {A : Around} {E : Value → Shared → Prop}
theorem mZ {Q : Value → Shared → Prop}(hu : A.units+1 < cLine)(I : Inv X pins σ H s)(g : cM H a y o)(ry : aR y u)(rd : aR d r)(h : ∀ w' s', Inv X pins σ H s' → aR (o.getD d) w' → Q w' s') :
    wpAny (model X.prog X.w) A (call (.builtin "dict.get") [.ref a, u, r]) Q E s := by
  rcases g with ⟨kvs, k, e, ey, l⟩ | ⟨kvs, k, b, e, ey, eb, l⟩
  · subst ey
    obtain ⟨z, hd, vs, rel, dd⟩ := fT I.hok e
    refine call_meetsIn PySem.F.slot_dict_get dd.typeIs PySem.F.entry_dict_get (PySem.F.args_dict_get_3 _ _ _) (meets_dict_get_default (aD X.prog X.w) a (fS ry) hd r) ⟨_, dd.mapOf, h _ _ (I.tok _) ?_⟩
    rw [l]
    exact (rel.val k).getD rd
  · subst ey
    cases (show u=Value.ref b from ry)
    obtain ⟨z, hd, xs, rel, dd⟩ := fU I.hok e
    refine call_meetsIn PySem.F.slot_dict_get dd.typeIs PySem.F.entry_dict_get (PySem.F.args_dict_get_3 _ _ _) (meetsH_dict_get_default (tupleKind (aD X.prog X.w)) a b hd r) ⟨tupleKind_room_in1 hu, k, xs, dW I.hok eb, dd, h _ _ (I.tok _) ?_⟩
    rw [l]
    exact (rel.val k).getD rd
end
def m3 (td ty tx : TE) : TE := fun σ H Q => td σ H fun x H1 => ∃ a, x = .ref a ∧ IsD H1 a ∧ ty σ H1 fun y H2 => tx σ H2 fun z H3 => ∃ o, cM H3 a y o ∧ Q (o.getD z) H3
section
variable {X : Cx} {o e f : Expr} {apos cpos : Pos} {td ty tx : TE}
theorem gz (hu : X.A.units+1 < cLine)(ho : PE X o td)(he : PE X e ty)(hf : PE X f tx)(m : M2 X o "get" apos e f cpos) : PE X (.Call (.Attribute o "get" apos) [e, f] [] cpos) (m3 td ty tx) := by
  intro pins s σ H Q I h
  refine wpAny_Call_method m.base m.few m.line PySem.F.plainAttrs_dict PySem.F.slot_dict_get PySem.F.type_dict_get (thn (ho pins s σ H _ I h) fun u s1 zq78 => ?_)
  obtain ⟨x, H1, I1, rx, a, ex, d, q1⟩ := zq78
  subst ex
  obtain rfl : u=Value.ref a := rx
  obtain ⟨t1, t2, _⟩ := kD I1 d
  refine ⟨t1, t2, ?_⟩
  rw [m.trees]
  refine Calls.callWith_builtin rfl (Calls.evalArgs_plain (Calls.spliced_cons (thn (he pins s1 σ H1 _ I1 q1) fun iv s2 ⟨y, H2, I2, ry, q2⟩ =>
    Calls.spliced_cons (thn (hf pins s2 σ H2 _ I2 q2) fun fv s3 ⟨z, H3, I3, rz, ov, g, q3⟩ => Calls.spliced_nil ?_))))
  exact mZ hu I3 g ry rz fun w' s4 I4 rw' => ⟨_, H3, I4, rw', q3⟩
end
section
variable {X : Cx} {pins : List (Addr × Obj)} {σ : St} {H : Hp} {s : Shared} {a : Addr} {kvs : List (Key × V)} {A : Around} {E : Value → Shared → Prop}
end
section
variable {X : Cx} {pins : List (Addr × Obj)} {σ : St} {H : Hp} {s : Shared} {a : Addr} {y : V} {u : Value} {A : Around} {E : Value → Shared → Prop}
end
end L2
namespace Att
open PySem PySem.W PySem.Calls PyProof.Rows
theorem di {P : Params}{h : Heap} : ∀ (ns : List Int) (vs : List Value), WellAll P h vs (ns.map WData.int) → IntsAre vs ns := by
  intro ns
  induction ns with
  | nil =>
    intro vs w
    rw [List.map_nil] at w
    cases w
    exact .nil
  | cons n ns ih =>
    intro vs w
    rw [List.map_cons] at w
    cases w with
    | cons a b =>
      cases a
      exact .cons _ _ (ih _ b)
theorem iL {l : OpenLaw}{n : Nat}(hn : l.most=some n){P : Params}{h : Heap}{args : List WData}{vals : List Value}
    (hpre : l.row.toRowW.claim.pre args=true) (hwl : WellAll P h vals args) :
    ∃ a vs ns, vals=[Value.ref a] ∧ args=[WData.list (ns.map WData.int)] ∧ h.get? a=some { cls := .type "list", data := .seq vs.toArray } ∧ IntsAre vs ns ∧ ns.length≤n := by
  have hsh : WShape.hasAll [] args [.list .int]=true := (pre_splitW hpre).1
  have hc : l.pre.holds [] { args := args }=true := (pre_splitW hpre).2
  obtain ⟨d, r, rfl, h1, h2⟩ := hasAllW_cons hsh
  obtain rfl := hasAllW_nil h2
  obtain ⟨xs, rfl, h3⟩ := hasW_list h1
  obtain ⟨ns, rfl⟩ := items_int h3
  have hlen : ns.length≤n := by
    unfold OpenLaw.pre at hc
    have h4 : (WTm.not (.lt (.lit (.int (n : Int))) (.len (.arg 0)))).holds [] { args := [.list (ns.map .int)] }=true := by
      have h4 := (holds_andW hc).1
      rw [hn] at h4
      exact h4
    have h5 := condW_of h4 (w_not (w_lt w_lit (w_len_list (w_arg rfl))))
    rw [List.length_map] at h5
    refine Nat.le_of_not_lt fun q => ?_
    have q' : (n : Int) < ((ns.length : Nat) : Int) := by omega
    first
      | (rw [decide_eq_true q'] at h5;exact absurd h5 (by decide))
      | (simp at h5;omega)
  cases hwl with
  | cons w1 w2 =>
    cases w2
    cases w1 with
    | list ho hall => exact ⟨_, _, ns, rfl, rfl, ho, di ns _ hall, hlen⟩
theorem iM (l : OpenLaw)(args : List WData) : l.row.toRowW.claim.post args (.bool true) args=true :=
  postW_of (r := l.row.toRowW) (X := (true == true))
    (show WShape.has [] (.bool true) .bool=true by first | rfl | decide | simp [WShape.has, WShape.arms, WShape.armsAll])
    (show (WTm.eq .res (.lit (.bool true))).value [] { args := args, res := some (.bool true), after := args }=some (.bool (true == true)) from w_eq_bool (w_res rfl) w_lit) rfl
theorem attach_call {l : OpenLaw}{n : Nat}{q : Program}{loose : List Str}{XP : (Str → Option Value) → Heap → Prop}{YP : World → Heap → Prop}{d : DefRec}
    (hn : l.most=some n) (hdf : d.params.defaults=[])
    (call : ∀ (w : World) (s₀ s₁ : Shared) (mg mb : Str → Option Value) (fa : Addr) (o : Obj) (pm cd doc : Value) (a : Addr) (vs : List Value) (ns : List Int),
      Ground q loose [] XP w s₀ mg mb s₁.heap → YP w s₁.heap →
      s₁.heap.get? fa=some o → o.data = .func (docDef d.name d.params d.body d.scope pm cd doc) → s₁.heap.CodeRec cd d.name → mg d.name=some (.ref fa) →
      s₁.heap.get? a=some { cls := .type "list", data := .seq vs.toArray } → IntsAre vs ns → ns.length≤n → s₁.gens=#[] →
      codeAny (model l.prog w) callerA (.call (.ref fa) ⟨[.ref a], []⟩) (fun r s' => r = .ok (.ret (.bool true)) ∧ OldK s₁.heap s'.heap ∧ s'.os=s₁.os ∧ AllBare s'.gens) s₁) :
    WalkO q loose XP YP l.row.toRowW d [] (fun f vs => PySem.call f vs) := by
  intro w s₀ s₁ mg mb G Y fa o pm cd doc dV kV ho hd hcd hD hmg hg args vals as hpre hlay hrd hwl hlo
  obtain rfl : dV = .none := Dflts.none hD hdf
  obtain rfl : kV = .none := Dflts.noKw hD
  obtain ⟨a, vs, ns, rfl, rfl, hobj, hints, hlen⟩ := iL hn hpre hwl
  refine enter_call (codeAny_mono (call w s₀ s₁ mg mb fa o pm cd doc a vs ns G Y ho (fd_plain hd) hcd hmg hobj hints hlen hg) fun r s' hq => ?_)
  obtain ⟨rfl, h2, h3, h4⟩ := hq
  exact ⟨.inl ⟨.bool true, .bool true, [], rfl, fun _ => rfl, .bool true, iM l _, fun _ => ⟨List.Pairwise.nil, fun _ hm => (nomatch hm)⟩⟩, h2, h3, h4⟩
section
variable {prog : Program} {w : World} {A : Around} {E : Value → Shared → Prop} {s : Shared} {K : Frag}
end
end Att
namespace L2
open PySem PySem.Spec PyProof.Rows
theorem eY : ∀ {vs : List Value} {ns : List Int}, IntsAre vs ns → aL (ns.map V.int) vs
  | _, _, .nil => .nil
  | _, _, .cons n t h => .cons ⟨t, rfl⟩ (eY h)
def oz (H : Hp) : Prop := ∀ b, H b=none ∨ ∃ o xs, H b=some (.frz o (.lst xs))
theorem jQ {P : Program}{w : World}{K : PySem.W.Frag}{mg mb : Str → Option Value}{CX : CXT}{k : Nat}{fa a : Addr}{fd : FuncData}{x : Str}{sp : Sp}{s₁ : Shared}{vs : List Value}{ns : List Int}
    (KX : K.In s₁.heap) (hns : s₁.heap.Ns mainGlobals mg) (hb : s₁.heap.Ns builtinsNs mb) (hbb : ∀ x : Str, x ≠ "__name__" → mb x=bootBuiltins x) (hlim : s₁.heap.NoLimit) (hg : s₁.gens=#[])
    (ha : s₁.heap.get? a=some { cls := .type "list", data := .seq vs.toArray }) (hi : IntsAre vs ns) (hl : ns.length≤sizeLine) (hr : dU k callerA)
    (F : ∀ base : Heap, K.In base → base.Ns mainGlobals mg → jD P w K mg base CX k fa fd [x] sp) (hbind : ∀ (s : Shared) (u : Value), BindsTo s fd ⟨[u], []⟩ [(x, u)])
    (hsp : ∀ H : Hp, oz H → SqL K H a (ns.map V.int) → sp [.ref a] H (fun v _ => v = .bl true) fun _ _ _ => False)
    (hCX : ∀ H e s', CX [] H s₁ (fun _ _ _ => False) e s' → False) :
    codeAny (model P w) callerA (.call (.ref fa) ⟨[.ref a], []⟩) (fun r s' => r = .ok (.ret (.bool true)) ∧ OldK s₁.heap s'.heap ∧ s'.os=s₁.os ∧ AllBare s'.gens) s₁ := by
  have rv := eY hi
  have lenV := hi.length
  -- from an abstract heap in which nothing but the script may be tracked
  have core : ∀ H : Hp, oz H → SqL K H a (ns.map V.int) → HOk P w H s₁.heap → (∀ b, H b≠none → b=a) → (H a≠none → K.lookup a=none) →
      codeAny (model P w) callerA (.call (.ref fa) ⟨[.ref a], []⟩) (fun r s' => r = .ok (.ret (.bool true)) ∧ OldK s₁.heap s'.heap ∧ s'.os=s₁.os ∧ AllBare s'.gens) s₁ := by
    intro H hO hS hok hA hK
    have base_of : ∀ {b : Addr} {o : Obj}, s₁.heap.get? b=some o → H b=none → (jG s₁.heap H).get? b=some o := fun e n => jH e n
    have noA : ∀ {b : Addr} {o : Obj} {es : Array DictEntry} {ep : Nat}, s₁.heap.get? b=some o → o.data = .dict es ep → H b=none := fun {b o es ep} e d => by
      cases q : H b with
      | none => rfl
      | some u =>
        have e' : b=a := hA b (by rw [q];simp)
        subst e'
        rw [ha] at e;cases e
        have d' : Data.seq vs.toArray _=Data.dict es ep := d
        cases d'
    have nsK : ∀ {b : Addr} {m : Str → Option Value}, s₁.heap.Ns b m → (jG s₁.heap H).Ns b m := fun {b m} ⟨o, es, ep, e, d, r⟩ => ⟨o, es, ep, base_of e (noA e d), d, r⟩
    have hKb : K.In (jG s₁.heap H) := fun b o e => base_of (KX b o e) (by
      cases q : H b with
      | none => rfl
      | some u =>
        have e' : b=a := hA b (by rw [q];simp)
        subst e'
        rw [hK (by rw [q];simp)] at e;cases e)
    have hM : Mod K mg (jG s₁.heap H) := ⟨hKb, nsK hns, ⟨mb, nsK hb, hbb⟩, let ⟨mc, h1, h2⟩ := hlim;⟨mc, nsK h1, h2⟩⟩
    have e0 : nU P w K mg (jG s₁.heap H) callerA [] s₁ H := ⟨rfl, hM, fun b o e => kR e, Nat.le_of_eq (h_ _ _), trivial, fun b hb => absurd (show b∈([] : List Addr) from hb) (by simp), hok, .of_eq hg⟩
    refine codeAny_mono ((F _ hKb (nsK hns)).run callerA [] s₁ H ⟨[.ref a], []⟩ [.ref a] [.ref a] _ _ hr e0 (hbind s₁ (.ref a)) (.cons rfl .nil) (hsp H hO hS)) fun r s' h => ?_
    cases r with
    | error e => exact (hCX H e s' h).elim
    | ok fl =>
      cases fl with
      | next => exact False.elim h
      | brk => exact False.elim h
      | cont => exact False.elim h
      | ret u =>
        obtain ⟨v, H', os, bare, un, hok', r', q⟩ := h
        have q' : v = .bl true := q
        subst q'
        obtain rfl : u=Value.bool true := r'
        refine ⟨rfl, OldK.of_keep fun b o e => ?_, os, bare⟩
        cases q : H b with
        | none => exact un.keep b o e q (by intro z;exact absurd (show b∈([] : List Addr) from z) (by simp)) (by simp)
        | some u =>
          rcases hO b with z | ⟨ob, xs, z⟩
          · rw [q] at z;cases z
          · have z2 := un.frzs b ob _ z
            obtain ⟨e1, _⟩ := hok b _ z
            obtain ⟨e2, _⟩ := hok' b _ z2
            rw [e] at e1;cases e1
            exact e2
  cases hk : K.lookup a with
  | some o =>
    -- the script is one of the module's own objects
    have e := KX a o hk
    rw [ha] at e
    cases e
    refine core (fun _ => none) (fun _ => .inl rfl) (.inr ⟨_, vs.toArray, _, hk, rfl, rfl, rfl, by rw [List.size_toArray, lenV];exact hl, by simpa using rv⟩) (fun b u z => by have z' : (none : Option HO)=some u := z;cases z') (fun b z => absurd rfl z) fun z => absurd rfl z
  | none =>
    refine core (fun b => if b=a then some (.frz { cls := .type "list", data := .seq vs.toArray } (.lst (ns.map V.int))) else none) (fun b => ?_) (.inl (.inr ⟨{ cls := .type "list", data := .seq vs.toArray }, if_pos rfl⟩)) (fun b u z => ?_) (fun b z => ?_) fun _ => hk
    · by_cases hb : b=a
      · exact .inr ⟨_, _, if_pos hb⟩
      · exact .inl (if_neg hb)
    · by_cases hb : b=a
      · have z' := (if_pos hb).symm.trans z
        cases z'
        subst hb
        exact ⟨ha, by rw [List.length_map];exact hl, vs, _, rv, ha⟩
      · have z' := (if_neg hb).symm.trans z
        cases z'
    · by_cases hb : b=a
      · exact hb
      · exact absurd (if_neg hb) z
theorem iN {l : PySem.W.OpenLaw}{n k : Nat}{q : Program}{loose : List Str}{XP : (Str → Option Value) → Heap → Prop}{YP : World → Heap → Prop}{d : DefRec}{K : Params → PySem.W.Frag}{CX : World → CXT}{sp : World → Sp}{x : Str}
    (hn : l.most=some n) (hn2 : n≤sizeLine) (hdf : d.params.defaults=[]) (hr : dU k callerA)
    (hY : ∀ (w : World) (h : Heap), YP w h → (K w.params).In h)
    (F : ∀ (w : World) (mg : Str → Option Value) (fa : Addr) (h : Heap), (K w.params).In h → h.Ns mainGlobals mg → mg d.name=some (.ref fa) →
      ∃ fd : FuncData, (∀ (s : Shared) (u : Value), BindsTo s fd ⟨[u], []⟩ [(x, u)]) ∧
        ∀ base : Heap, (K w.params).In base → base.Ns mainGlobals mg → jD l.prog w (K w.params) mg base (CX w) k fa fd [x] (sp w))
    (hsp : ∀ (w : World) (H : Hp) (a : Addr) (ns : List Int), ns.length≤n → oz H → SqL (K w.params) H a (ns.map V.int) → sp w [.ref a] H (fun v _ => v = .bl true) fun _ _ _ => False)
    (hCX : ∀ (w : World) (H : Hp) (s : Shared) (e : Value) (s' : Shared), CX w [] H s (fun _ _ _ => False) e s' → False) :
    PySem.W.WalkO q loose XP YP l.row.toRowW d [] (fun f vs => PySem.call f vs) := by
  refine Att.attach_call hn hdf fun w s₀ s₁ mg mb fa o pm cd doc a vs ns G Y ho hd hcd hmg hobj hints hlen hg => ?_
  have KX := hY w _ Y
  obtain ⟨fd, hb, hF⟩ := F w mg fa _ KX G.T.g hmg
  exact jQ KX G.T.g G.T.b G.T.builtins G.T.nolimit hg hobj hints (Nat.le_trans hlen hn2) hr hF hb (fun H hO hS => hsp w H a ns hlen hO hS) fun H e s' => hCX w H s₁ e s'
end L2
/- THE LAST THEOREM (shape;LID, My.* are yours):
   My.Adr: a structure of the addresses that your layer names (classes, functions);My.Txt K t: a structure (Prop) of the equations over K;
   My.txt_mk : {K} {implicit addresses ..} (e1 : nsIn K mainGlobals "law" = some (some (.ref f))) (e2 : K.lookup f=some ⟨oc, od, .func (fnOf "law" "law" params body scope dV kV doc pm an cdv ct), sl⟩) (e3 : codeIn K cdv "law" = true) .. : ∃ t, My.Txt K t
set_option maxRecDepth 100000 in
set_option maxHeartbeats 0 in
theorem PySem.Challenge.cw_LID_holds : PySem.Challenge.rw_LID.Holds := by
  w_on;o_law;k_head;(case hw => w_witness2)
  k_fill
  refine L2.iN (l := PySem.Challenge.rw_LID) (n := 63) (k := 40) (x := "script") (CX := fun w => ..) (sp := fun _ => My.sp_law) rfl (by decide) rfl ⟨rfl, by decide, by decide⟩ (fun w h Y => PySem.W.kIn_of Y) ?F ?S ?C
  case F =>
    intro w mg fa h KX G hmg
    have T : ∃ t, My.Txt (L2.KOf KX) t := by
      dsimp only [L2.KOf]                          -- K must stand as «<heap const> w.params» for k_is
      refine' My.txt_mk ?e1 ?e2 ?e3 ..
      (case e1 => PySem.W.k_is)                    -- in the order: a name -> its address -> its object -> its parts
      (case e2 => PySem.W.k_is)
      ..
    obtain ⟨t, T⟩ := T
    have e0 := hmg.symm.trans (PySem.W.mg_of KX G T.law)
    cases e0                                       -- fa is the law's own address
    exact ⟨_, fun s u => .of_eq rfl, fun base kb nb => My.law_fn T kb nb⟩     -- if «.of_eq rfl» comes too early: refine' ⟨_, ?b, fun base kb nb => My.law_fn T kb nb⟩;exact fun s u => .of_eq rfl
  case S => exact fun w H a ns hl hO hS => ..
  case C => exact ..
(the tactic k_is has no namespace: write k_is) -/
namespace L2
open PySem PySem.Spec PyProof.Rows
def az (s : Stmt) : Arguments := match s with
  | .FunctionDef _ a _ _ _ _ _ _ _ _ => a
  | _ => { posonlyargs := [], args := [], vararg := none, kwonlyargs := [], kw_defaults := [], kwarg := none, defaults := [] }
def au (s : Stmt) : List Stmt := match s with
  | .FunctionDef _ _ b _ _ _ _ _ _ _ => b
  | _ => []
def aj (s : Stmt) : Scope := match s with
  | .FunctionDef _ _ _ _ _ _ sc _ _ _ => sc
  | _ => { kind := .function, names := [], isGenerator := false, isCoroutine := false }
abbrev CX0 : CXT := fun _ _ _ _ _ _ => False
abbrev E0 : XK := fun _ _ _ => False
theorem oA {X : Cx} : iy CX0 X E0 := fun _ _ _ _ _ _ _ h => h.elim
structure Fun (K : PySem.W.Frag) (x qual : Str) (st : Stmt) (f : Addr) (fd : FuncData) : Prop where
  ex : ∃ (oc : Value) (od : Option Addr) (kV doc pm : Value) (an : Option Addr) (cdv ct : Value) (osl : Array (Option Value)),
    fd=PySem.W.fnOf x qual (az st) (au st) (aj st) .none kV doc pm an cdv ct ∧ K.lookup f=some ⟨oc, od, .func fd, osl⟩ ∧ PySem.W.codeIn K cdv qual=true
  kp : PySem.W.keepIn K (.ref f)=true
section
variable {P : Program} {w : World} {K : PySem.W.Frag} {mg : Str → Option Value} {base : Heap}
theorem Fun.ok {x qual : Str}{st : Stmt}{f : Addr}{fd : FuncData}{N ps : List Str}{k : Nat}{sp : Sp}(F : Fun K x qual st f fd)(S : aI N ps (aj st))(len : ∀ vs H Q E, sp vs H Q E → vs.length=ps.length)
    (hbody : ∀ (cdv : Value) (A : Around) (outer : List Env) (s : Shared) (H : Hp) (vs : List V) (Q : VK) (E : XK), dU k (A.deeper (envOfC qual (aj st) s.heap.objs.size f cdv)) → sp vs H Q E →
      ∃ t, PSs (k_ CX0 P w K mg base N qual (aj st) f cdv A outer s H E).nox (au st) t ∧ t { nx := fun _ H' => Q .non H', rt := Q } (start N vs) H) : jD P w K mg base CX0 (k+1) f fd ps sp := by
  obtain ⟨oc, od, kV, doc, pm, an, cdv, ct, osl, rfl, lk, hcd⟩ := F.ex
  refine oq lk hcd S len fun A outer s H vs Q E hr hsp => ?_
  obtain ⟨t, h, q⟩ := hbody cdv A outer s H vs Q E hr hsp
  exact ⟨t, h.nox, q⟩
theorem Fun.binds {x qual : Str}{st : Stmt}{f : Addr}{fd : FuncData}{ps : List Str}(F : Fun K x qual st f fd)
    (h : ∀ (kV doc pm : Value) (an : Option Addr) (cdv ct : Value) (us : List Value), us.length=ps.length → bindArgs (PySem.W.fnOf x qual (az st) (au st) (aj st) .none kV doc pm an cdv ct) ⟨us, []⟩=pure (ps.zip us)) : g0 K fd ps [] := by
  obtain ⟨oc, od, kV, doc, pm, an, cdv, ct, osl, rfl, lk, hcd⟩ := F.ex
  exact .all (h kV doc pm an cdv ct)
theorem kE {x qual : Str}{st : Stmt}{f : Addr}{oc : Value}{od an : Option Addr}{osl : Array (Option Value)}{kV doc pm cdv ct : Value}(l : K.lookup f=some ⟨oc, od, .func (PySem.W.fnOf x qual (az st) (au st) (aj st) .none kV doc pm an cdv ct), osl⟩)
    (c : PySem.W.codeIn K cdv qual=true) (k : PySem.W.keepIn K (.ref f)=true) : Fun K x qual st f (PySem.W.fnOf x qual (az st) (au st) (aj st) .none kV doc pm an cdv ct) := ⟨⟨oc, od, kV, doc, pm, an, cdv, ct, osl, rfl, l, c⟩, k⟩
end
theorem cN {A : Around}{k : Nat}(hr : dU k A) : A.units+1 < cLine := Nat.lt_of_le_of_lt (Nat.add_le_add_left (by decide : 1≤64) _) hr.units
section
variable {X : Cx}
theorem pv (i : Nat){x : Str}{pos : Pos}(hN : X.N[i]? = some x := by rfl)(hv : Vis X.env.scope x := by first | exact Or.inl rfl | exact Or.inr (Or.inl rfl) | exact Or.inr (Or.inr rfl))(hd : (x == ("__debug__" : Str))=false := by decide)
    (hcd : (x == ("__classdict__" : Str))=false := by decide) : PE X (.Name x pos) (n6 i) := mx hN hv hd hcd
end
theorem nV {A B : Prop}(h : B) : if false=true then A else B := by
  rw [if_neg Bool.false_ne_true]
  exact h
theorem oB {A B : Prop}(h : A) : if true=true then A else B := by
  rw [if_pos rfl]
  exact h
theorem oD {c A B : Prop}[Decidable c](h1 : c → A)(h2 : ¬ c → B) : if c then A else B := by
  by_cases h : c
  · rw [if_pos h]
    exact h1 h
  · rw [if_neg h]
    exact h2 h
def aA (H H' : Hp) : Prop := ∀ b o, H b=some o → H' b=some o
theorem aA.refl (H : Hp) : aA H H := fun _ _ h => h
theorem aA.trans {H H1 H2 : Hp}(a : aA H H1)(b : aA H1 H2) : aA H H2 := fun c o h => b c o (a c o h)
theorem aA.free {H H' : Hp}(e : aA H H'){l : Addr}(h : H' l=Option.none) : H l=Option.none := by
  cases q : H l with
  | none => rfl
  | some o =>
    rw [e l o q] at h
    cases h
theorem aA.seq {K : PySem.W.Frag}{H H' : Hp}{a : Addr}{xs : List V}(e : aA H H')(h : SqL K H a xs) : SqL K H' a xs := by
  rcases h with (h | ⟨o, h⟩) | h
  · exact .inl (.inl (e _ _ h))
  · exact .inl (.inr ⟨o, e _ _ h⟩)
  · exact .inr h
section
variable {κ : Type} [DecidableEq κ]
end
end L2
set_option Elab.async false
set_option linter.all false
set_option maxRecDepth 100000
namespace L2
open PySem PySem.Spec PyProof.Rows
def cg (cells : List (Str × Addr)) : List (Str × NameKind) → List (Str × Addr) → List (Str × Addr)
  | [], acc => acc
  | (x, k)::r, acc => if k == NameKind.free then cg cells r ((x, (cells.lookup x).getD 0)::acc) else cg cells r acc
theorem cR {cells : List (Str × Addr)}{p : Str × Addr} : ∀ {names : List (Str × NameKind)} {acc : List (Str × Addr)}, p∈cg cells names acc → p∈acc ∨ ((p.1, NameKind.free)∈names ∧ p.2=(cells.lookup p.1).getD 0)
  | [], _, h => .inl h
  | (x, k)::r, acc, h => by
    unfold cg at h
    by_cases hk : (k == NameKind.free)=true
    · rw [if_pos hk] at h
      have ek : k=NameKind.free := by simpa using hk
      subst ek
      rcases cR h with h | ⟨h, e⟩
      · rcases List.mem_cons.mp h with h | h
        · subst h
          exact .inr ⟨List.mem_cons_self, rfl⟩
        · exact .inl h
      · exact .inr ⟨List.mem_cons_of_mem _ h, e⟩
    · rw [if_neg hk] at h
      rcases cR h with h | ⟨h, e⟩
      · exact .inl h
      · exact .inr ⟨List.mem_cons_of_mem _ h, e⟩
theorem eh {cells : List (Str × Addr)}{p : Str × Addr} : ∀ {names : List (Str × NameKind)} {acc : List (Str × Addr)}, p∈acc → p∈cg cells names acc
  | [], _, h => h
  | (x, k)::r, acc, h => by
    unfold cg
    split
    · exact eh (List.mem_cons_of_mem _ h)
    · exact eh h
theorem cT {cells : List (Str × Addr)}{x : Str} : ∀ {names : List (Str × NameKind)} {acc : List (Str × Addr)}, (x, NameKind.free)∈names → (x, (cells.lookup x).getD 0)∈cg cells names acc
  | [], _, h => by simp at h
  | (y, k)::r, acc, h => by
    unfold cg
    rcases List.mem_cons.mp h with h | h
    · have e1 : x=y := congrArg Prod.fst h
      have e2 : NameKind.free=k := congrArg Prod.snd h
      subst e1 e2
      rw [if_pos (by simp)]
      exact eh List.mem_cons_self
    · split
      · exact cT h
      · exact cT h
theorem bJ {x : Str}{c : Addr} : ∀ {l : List (Str × Addr)}, (x, c)∈l → ∃ d, l.lookup x=some d
  | [], h => by simp at h
  | (y, d)::r, h => by
    rw [List.lookup_cons]
    by_cases e : (x == y)=true
    · rw [e];exact ⟨d, rfl⟩
    · have e' : (x == y)=false := by simpa using e
      rw [e']
      rcases List.mem_cons.mp h with h | h
      · have : x=y := congrArg Prod.fst h
        exact absurd (by simpa using this) e
      · exact bJ h
theorem bK {env : Env}{scope : Scope}(h : ∀ y∈scope.names, y.2=NameKind.free → ∃ c, env.cells.lookup y.1=some c) : closureFor scope env=pure (cg env.cells scope.names []) := by
  have all : ∀ (names : List (Str × NameKind)) (acc : List (Str × Addr)), (∀ y∈names, y.2=NameKind.free → ∃ c, env.cells.lookup y.1=some c) →
      (forIn names acc (fun (p : Str × NameKind) (r : List (Str × Addr)) => (if (p.2 == NameKind.free)=true then (do let a ← cellOf env p.1;pure (ForInStep.yield ((p.1, a)::r))) else pure (ForInStep.yield r) : Sem (ForInStep (List (Str × Addr))))))=(pure (cg env.cells names acc) : Sem (List (Str × Addr))) := by
    intro names
    induction names with
    | nil => intro acc _;rfl
    | cons p r ih =>
      intro acc hh
      obtain ⟨x, k⟩ := p
      have hr : ∀ y∈r, y.2=NameKind.free → ∃ c, env.cells.lookup y.1=some c := fun y hy => hh y (List.mem_cons_of_mem _ hy)
      rw [List.forIn_cons]
      unfold cg
      by_cases hk : (k == NameKind.free)=true
      · obtain ⟨c, hc⟩ := hh (x, k) List.mem_cons_self (by simpa using hk)
        have hc : env.cells.lookup x=some c := hc
        have ec : cellOf env x=pure c := by
          unfold cellOf
          rw [hc]
        simp only [hk, if_true, ec, pure_bind, hc, Option.getD_some]
        exact ih _ hr
      · simp only [hk, if_false, pure_bind]
        exact ih _ hr
  have e := all scope.names [] h
  unfold closureFor
  simp only [bind_pure]
  exact e
def m4 (scope sc : Scope)(NB own : List Str)(cap : List Nat)(N : List Str) : Bool :=
  (scope.kind == .function) && (sc.kind == .function) &&
  (scope.names.all fun y => match y.2 with
    | .cell => false
    | .free => sc.names.lookup y.1 == some NameKind.cell
    | .local => scope.names.lookup y.1 == some NameKind.local
    | _ => true) &&
  (own.all fun x => scope.names.lookup x == some NameKind.local && scope.names.all fun y => !(y.1 == x) || y.2 == NameKind.local) &&
  (NB == own++cap.map fun i => N.getD i "") && (cap.all fun i => decide (i < N.length) && scope.names.lookup (N.getD i "") == some NameKind.free)
structure Blk (X : Cx) (scope : Scope) (NB own : List Str) (cap : List Nat) : Prop where
  kind : scope.kind = .function
  outk : X.env.scope.kind = .function
  nocell : ∀ y∈scope.names, y.2 ≠ .cell
  free : ∀ y∈scope.names, y.2 = .free → X.env.kindOf y.1=some .cell
  names : ∀ y∈scope.names, y.2 = .local → scope.names.lookup y.1=some .local
  owns : ∀ x∈own, ∀ y∈scope.names, y.1=x → y.2 = .local
  nb : NB=own++cap.map fun i => X.N.getD i ""
  caps : ∀ i∈cap, i < X.N.length ∧ scope.names.lookup (X.N.getD i "")=some .free
theorem dj {X : Cx}{scope sc : Scope}{NB own : List Str}{cap : List Nat}(hs : X.env.scope=sc)(h : m4 scope sc NB own cap X.N=true) : Blk X scope NB own cap := by
  unfold m4 at h
  simp only [Bool.and_eq_true] at h
  obtain ⟨⟨⟨⟨⟨h1, h2⟩, h3⟩, h4⟩, h5⟩, h6⟩ := h
  rw [List.all_eq_true] at h3 h4 h6
  subst hs
  refine ⟨by simpa using h1, by simpa using h2, fun y hy e => ?_, fun y hy e => ?_, fun y hy e => ?_, fun x hx y hy e => ?_, by simpa using h5, fun i hi => ?_⟩
  · have := h3 y hy
    rw [e] at this
    exact absurd this (by simp)
  · have := h3 y hy
    rw [e] at this
    show X.env.scope.names.lookup y.1=some .cell
    simpa using this
  · have := h3 y hy
    rw [e] at this
    simpa using this
  · have := h4 x hx
    simp only [Bool.and_eq_true, List.all_eq_true] at this
    have q := this.2 y hy
    subst e
    simpa using q
  · have := h6 i hi
    simp only [Bool.and_eq_true] at this
    exact ⟨of_decide_eq_true this.1, by simpa using this.2⟩
def cxB (X : Cx)(NB own : List Str)(scope : Scope)(C : Addr)(fp : List Addr)(s₀ : Shared)(H₀ : Hp) : Cx where
  prog := X.prog
  w := X.w
  K := X.K
  mg := X.mg
  base := X.base
  A := X.A
  N := NB
  s₀ := s₀
  H₀ := H₀
  env := compEnvC scope (cg X.env.cells scope.names []) C X.env
  outer := X.stack
  stack := X.stack
  ex := fp
  fn := fun x => own.contains x
  calm := X.calm
  pn := []
  xe := fun _ _ => False
theorem bT {env : Env}{x : Str}{k : NameKind}(hk : k = .cell ∨ k = .free) : ∀ {names : List (Str × NameKind)}, (∀ y∈names, y.2 ≠ .cell) →
    (names.map fun (n, k) => if (k == NameKind.free && env.scope.kind == .function && env.kindOf n == some .cell) then (n, NameKind.cell) else (n, k)).lookup x=some k → (x, NameKind.free)∈names
  | [], _, h => by simp at h
  | (n, q)::r, hn, h => by
    have ih := @bT env x k hk r fun y hy => hn y (List.mem_cons_of_mem _ hy)
    rw [List.map_cons, List.lookup_cons] at h
    have key : (if (q == NameKind.free && env.scope.kind == .function && env.kindOf n == some .cell)=true then (n, NameKind.cell) else (n, q)).1=n := by split <;> rfl
    by_cases e : (x == n)=true
    · have en : x=n := by simpa using e
      subst en
      by_cases hq : q = .free
      · subst hq;exact List.mem_cons_self
      · have hqf : (q == NameKind.free)=false := by simpa using hq
        simp only [hqf, Bool.false_and, Bool.false_eq_true, if_false, beq_self_eq_true] at h
        have h' : q=k := Option.some.inj h
        rcases hk with z | z
        · exact absurd (h'.trans z) (hn (x, q) List.mem_cons_self)
        · exact absurd (h'.trans z) hq
    · have e' : (x == n)=false := by simpa using e
      refine List.mem_cons_of_mem _ (ih ?_)
      have e2 : (x == (if (q == NameKind.free && env.scope.kind == .function && env.kindOf n == some .cell)=true then (n, NameKind.cell) else (n, q)).1)=false := by rw [key];exact e'
      rw [e2] at h
      exact h
theorem cj {env : Env}{x : Str}(hk : env.scope.kind = .function)(hc : env.kindOf x=some .cell) : ∀ {names : List (Str × NameKind)}, names.lookup x=some .free →
    (names.map fun (n, k) => if (k == NameKind.free && env.scope.kind == .function && env.kindOf n == some .cell) then (n, NameKind.cell) else (n, k)).lookup x=some .cell
  | [], h => by simp at h
  | (n, q)::r, h => by
    have ih := @cj env x hk hc r
    rw [List.lookup_cons] at h
    rw [List.map_cons, List.lookup_cons]
    by_cases e : (x == n)=true
    · have en : x=n := by simpa using e
      subst en
      rw [e] at h
      have hq : q = .free := Option.some.inj h
      subst hq
      simp [hk, hc]
    · have e' : (x == n)=false := by simpa using e
      rw [e'] at h
      have key : (if (q == NameKind.free && env.scope.kind == .function && env.kindOf n == some .cell)=true then (n, NameKind.cell) else (n, q)).1=n := by split <;> rfl
      have e2 : (x == (if (q == NameKind.free && env.scope.kind == .function && env.kindOf n == some .cell)=true then (n, NameKind.cell) else (n, q)).1)=false := by rw [key];exact e'
      rw [e2]
      exact ih h
def stB (own : List Str)(cap : List Nat)(σ : St) : St := (own.map fun _ => none)++cap.map fun i => (σ[i]?).getD none
section
variable {X : Cx} {pins : List (Addr × Obj)} {σ : St} {H : Hp} {s : Shared} {scope : Scope} {NB own : List Str} {cap : List Nat} {fp : List Addr} {C : Addr}
theorem Blk.cells (B : Blk X scope NB own cap)(ok : X.Ok){x : Str}{c : Addr}(h : (cg X.env.cells scope.names []).lookup x=some c) : X.env.cells.lookup x=some c ∧ (x, NameKind.free)∈scope.names := by
  rcases cR (PySem.mem_of_lookup h) with q | ⟨q, e⟩
  · simp at q
  · obtain ⟨d, hd⟩ := ok.has x (.inl (B.free (x, .free) q rfl))
    have e : c=(X.env.cells.lookup x).getD 0 := e
    rw [hd] at e
    refine ⟨?_, q⟩
    rw [hd, e];rfl
theorem Blk.cell (B : Blk X scope NB own cap)(ok : X.Ok){x : Str}(h : (x, NameKind.free)∈scope.names) : ∃ c, (cg X.env.cells scope.names []).lookup x=some c := bJ (cT h)
theorem Blk.start (B : Blk X scope NB own cap)(I : Inv X pins σ H s)(hf : ∀ b∈fp, fN X pins H b)(hfs : ∀ b∈fp, ∃ o, s.heap.get? b=some o){h' : Heap}{tk : Nat}{m : Str → Option Value}(hC : s.heap.objs.size≤C)
    (k : ∀ b o, s.heap.get? b=some o → h'.get? b=some o) (hn : h'.Ns C m) :
    Inv (cxB X NB own scope C fp s H) [] (stB own cap σ) H { s with heap := h', toks := tk } := by
  have hlen : NB.length=own.length+cap.length := by rw [B.nb];simp
  have okB : (cxB X NB own scope C fp s H).Ok := by
    refine ⟨I.ok.mod, B.kind, I.ok.glob, I.ok.blt, hC, fun x y c h1 h2 => I.ok.inj x y c (B.cells I.ok h1).1 (B.cells I.ok h2).1, fun x hx => ?_, fun x c h1 h2 => ?_, I.ok.hd, I.ok.frames, .inl rfl, fun b hb => ⟨?_, fun x c h => ?_⟩, I.bs, Nat.le_trans I.ok.bsz I.sz, fun b o e hb => ?_, fun b hb z => ?_, I.stack, I.stkFree⟩
    · have : (x, NameKind.free)∈scope.names := by
        rcases hx with z | z
        · exact bT (.inl rfl) B.nocell z
        · exact bT (.inr rfl) B.nocell z
      exact B.cell I.ok this
    · have hx : x∈own := by simpa [cxB] using h1
      have q := B.owns x hx _ (B.cells I.ok h2).2 rfl
      exact absurd q (by simp)
    · obtain ⟨o, e⟩ := hfs b hb
      exact Nat.ne_of_lt (Nat.lt_of_lt_of_le (Heap.lt_size e) hC)
    · exact (hf b hb).2.2.2.2.1 x c (B.cells I.ok h).1
    · have hb : b∈fp := hb
      rcases (hf b hb).2.2.2.1 with z | z
      · exact I.ok.noex b o e z
      · exact absurd (Nat.lt_of_lt_of_le (Heap.lt_size e) (Nat.le_trans I.ok.bsz z)) (Nat.lt_irrefl _)
    · rcases List.mem_cons.mp (I.stkSub b z) with z | z
      · exact (hf b hb).2.1 z
      · exact (hf b hb).2.2.1 z
  refine ⟨okB, rfl, I.bare, Un.kept k, ⟨m, hn, fun i x v e1 e2 e3 => ?_⟩, fun x c h => ?_, I.hok.fresh hC, fun x c h => I.freeC x c (B.cells I.ok h).1, fun p hp => absurd (show p∈([] : List (Addr × Obj)) from hp) (by simp), I.hok.kept k, ?_⟩
  · have e1 : NB[i]? = some x := e1
    have hi : ¬ i < own.length := fun hi => by
      unfold stB at e2
      rw [List.getElem?_append_left (by simpa using hi), List.getElem?_map] at e2
      cases q : own[i]? <;> rw [q] at e2 <;> cases e2
    unfold stB at e2
    rw [List.getElem?_append_right (by simpa using hi), List.getElem?_map] at e2
    rw [B.nb, List.getElem?_append_right (by omega), List.getElem?_map] at e1
    simp only [List.length_map] at e2
    cases q : cap[i - own.length]? with
    | none => rw [q] at e1;cases e1
    | some j =>
      rw [q] at e1 e2
      have ex : X.N.getD j "" = x := Option.some.inj e1
      have ev : (σ[j]?).getD none=some v := Option.some.inj e2
      obtain ⟨hj, hjf⟩ := B.caps j (List.mem_of_getElem? q)
      rw [ex] at hjf
      have hN : X.N[j]? = some x := by rw [← ex, List.getD_eq_getElem?_getD, List.getElem?_eq_getElem hj];rfl
      have hσ : σ[j]? = some (some v) := by
        cases z : σ[j]? with
        | none => rw [z] at ev;cases ev
        | some u => rw [z] at ev;exact congrArg some ev
      have hmem : (x, NameKind.free)∈scope.names := PySem.mem_of_lookup hjf
      have hkc := B.free _ hmem rfl
      obtain ⟨m0, hn0, hl⟩ := I.loc
      obtain ⟨u, r, l⟩ := hl j x v hN hσ (.inr (.inl hkc))
      refine ⟨u, r, .inr ⟨.inl (cj B.outk hkc hjf), ?_⟩⟩
      obtain ⟨c, hc⟩ := B.cell I.ok hmem
      refine ⟨c, hc, ?_⟩
      rcases l with ⟨z, _⟩ | ⟨_, c', hc', ⟨oc, hoc, hd⟩⟩
      · rw [show X.env.kindOf x=some .cell from hkc] at z;cases z
      · have := (B.cells I.ok hc).1
        rw [hc'] at this
        have : c'=c := Option.some.inj this
        subst this
        exact ⟨oc, k _ _ hoc, hd⟩
  · obtain ⟨v, oc, hoc, hd⟩ := I.cell x c (B.cells I.ok h).1
    exact ⟨v, oc, k _ _ hoc, hd⟩
  · show (stB own cap σ).length=NB.length
    unfold stB
    rw [hlen];simp
theorem Blk.done (B : Blk X scope NB own cap)(I : Inv X pins σ H s)(hf : ∀ b∈fp, fN X pins H b){σB : St}{H' : Hp}{s' : Shared}{h'' : Heap}{D : Addr}{ys : List V}{its : List Value}{n : Nat}(hC : s.heap.objs.size≤C)(hD : s.heap.objs.size≤D)(hDC : D≠C)
    (J : Inv (cxB X NB own scope C fp s H) [] σB H' s') (hn : H' D=none) (e : s'.heap.get? D=some { cls := .type "list", data := .seq its.toArray n }) (hv : aL ys its) (hz : ys.length≤sizeLine)
    (sb : Heap.SameBut C s'.heap h'') : Inv X pins σ (upd H' D (.lst ys)) { s' with heap := h'' } := by
  have un : Un (frs X.stack) fp H H' s.heap s'.heap := J.base
  have neC : ∀ {b o}, s.heap.get? b=some o → b≠C := fun q => Nat.ne_of_lt (Nat.lt_of_lt_of_le (Heap.lt_size q) hC)
  have neD : ∀ {b o}, s.heap.get? b=some o → b≠D := fun q => Nat.ne_of_lt (Nat.lt_of_lt_of_le (Heap.lt_size q) hD)
  have hCn : H' C=none := J.free
  refine I.call' (s' := { s' with heap := h'' }) (ch := fp) J.os ⟨fun b o q n hb hx => ?_, fun b o q n hb hx => ?_, fun b o q n hx => ?_, fun b o q hx => ?_, fun b xs q => ?_, fun b o u q => ?_, fun b ps q => ?_⟩ (fun b u q => ?_) J.bare fun b hb => ?_
  · exact (sb.2 b (neC q)).trans (un.keep b o q n hb hx)
  · obtain ⟨sl, r⟩ := un.slot b o q n hb hx
    exact ⟨sl, (sb.2 b (neC q)).trans r⟩
  · rw [ak (neD q)]
    exact un.free b o q n hx
  · obtain ⟨o', r⟩ := un.there b o q hx
    exact ⟨o', (sb.2 b (neC q)).trans r⟩
  · have r := un.tups b xs q
    rw [ak (ab r hn)]
    exact r
  · have r := un.frzs b o u q
    rw [ak (ab r hn)]
    exact r
  · obtain ⟨more, r⟩ := un.tbls b ps q
    exact ⟨more, by rw [ak (ab r hn)];exact r⟩
  · by_cases hb : b=D
    · subst hb
      rw [ae] at q
      cases q
      exact ⟨hz, its, n, hv, (sb.2 b hDC).trans e⟩
    · rw [ak hb] at q
      refine (J.hok b u q).stay (fun c v hc r => (sb.2 c ?_).trans r) (fun c r => ?_) fun c xs r => ?_
      · rcases hc with z | z
        · rw [z];exact ab q hCn
        · exact ab z hCn
      · rw [ak (ab r hn)];exact r
      · rw [ak (ab r hn)];exact r
  · obtain ⟨_, f1, _, f3, f4, f5⟩ := hf b hb
    exact ⟨f3, f1, f4, f5⟩
end
def PIf (X : Cx)(ifs : List Expr)(t : TT) : Prop :=
  ∀ (pins : List (Addr × Obj)) (s : Shared) (σ : St) (H : Hp) (Q : Bool → Hp → Prop), Inv X pins σ H s → t σ H Q →
    wpAny (model X.prog X.w) X.A (forIn ifs true fun c r => if r=true then do let ok ← isTrue c X.env (eval c X.env);pure (ForInStep.yield ok) else pure (ForInStep.yield r)) (TP X pins σ Q) X.xe s
def pV : TT := fun _ H Q => Q true H
theorem bZ {X : Cx} : PIf X [] pV := fun _ _ _ H _ I h => wpAny_tests_nil ⟨H, I, h⟩
theorem gA {X : Cx}{c : Expr}{t : TT}(h : PT X c t) : PIf X [c] t := fun pins s σ H Q I q => wpAny_tests_one (h pins s σ H Q I q)
section
variable {prog : Program} {w : World} {A : Around} {R : Result → Shared → Prop} {s : Shared}
abbrev noE : Value → Shared → Prop := fun _ _ => False
theorem dk {elt tg iter : Expr}{ifs : List Expr}{scope : Scope}{pos : Pos}{it acc : Value}{env : Env}(I : Nat → Shared → Prop)
    (turn : ∀ n s, I n s → wpAny (model prog w) A (pyNext it) (fun r s₁ => match r with
      | none => R (.ok .next) s₁
      | some v => wpAny (model prog w) A (letOwnedTupleGo tg it v) (fun _ s₀ => wpAny (model prog w) A (assign tg env v) (fun _ s₂ =>
          wpAny (model prog w) A (forIn ifs true fun c r => if r=true then do let ok ← isTrue c env (eval c env);pure (ForInStep.yield ok) else pure (ForInStep.yield r)) (fun ok s₃ =>
            if ok=true then wpAny (model prog w) A (eval elt env) (fun x s₄ => wpAny (model prog w) A (call (.builtin "list.append") [acc, x]) (fun _ s₅ => ∃ m, m < n ∧ I m s₅) noE s₄) noE s₃
            else ∃ m, m < n ∧ I m s₃) noE s₂) noE s₀) noE s₁) noE s)
    (n : Nat) (h : I n s) : codeAny (model prog w) A (.compLoop (.ListComp elt [⟨tg, iter, ifs, 0⟩] scope pos) 0 it acc env) R s := by
  refine codeAny_loop rfl I (fun n s hI => ?_) n h
  show wpAny _ A ((compTurn (.ListComp elt [⟨tg, iter, ifs, 0⟩] scope pos) 0 it acc env).onRaise (fun x => do noteFrame x env;theTreesLotGoes x)) _ _ s
  refine wpAny_noted ?_
  rw [compTurn_list]
  refine wpAny_bind (wpAny_standAt (wpAny_bind (wpAny_mono (turn n s hI) (fun r s₁ h₁ => ?_) fun _ _ z => False.elim z)))
  cases r with
  | none => exact wpAny_pure h₁
  | some v =>
    refine wpAny_bind (wpAny_mono h₁ (fun _ s₀ h₀ => wpAny_bind (wpAny_mono h₀ (fun _ s₂ h₂ => wpAny_bind (wpAny_mono h₂ (fun ok s₃ h₃ => ?_) fun _ _ z => False.elim z)) fun _ _ z => False.elim z)) fun _ _ z => False.elim z)
    cases ok with
    | false => exact wpAny_pure ⟨rfl, h₃⟩
    | true => exact wpAny_bind (wpAny_bind (wpAny_mono h₃ (fun x s₄ h₄ => wpAny_bind (wpAny_mono h₄ (fun _ s₅ h₅ => wpAny_pure (wpAny_pure ⟨rfl, h₅⟩)) fun _ _ z => False.elim z)) fun _ _ z => False.elim z))
end
def lD (own : List Str)(cap : List Nat)(g : TG)(ti : TT)(te : TE)(Q : VK)(σ : St)(J : It)(H1 : Hp) : Prop := ∃ W : Nat → Nat → List V → St → Hp → Prop, (∃ m, W 0 m [] (stB own cap σ) H1) ∧ ∀ i m ys σ H, W i m ys σ H →
  (J.stop i H ∧ ys.length≤sizeLine ∧ ∀ D, H D=none → Q (.ref D) (upd H D (.lst ys))) ∨
  (J.go i H ∧ ys.length < sizeLine ∧ ∀ x H', J.yld i H x H' → g x σ H' fun σ2 H2 => ti σ2 H2 fun b H3 => if b=true then te σ2 H3 fun y H4 => ∃ m', m' < m ∧ W (i+1) m' (ys++[y]) σ2 H4 else ∃ m', m' < m ∧ W (i+1) m' ys σ2 H3)
def lE (own : List Str)(cap : List Nat)(wi : TI)(g : TG)(ti : TT)(te : TE) : TE := fun σ H Q => wi σ H fun J H1 => lD own cap g ti te Q σ J H1
theorem cF {X : Cx}{elt iter tg : Expr}{ifs : List Expr}{scope : Scope}{pos : Pos}{NB own : List Str}{cap : List Nat}{wi : TI}{g : TG}{ti : TT}{te : TE}(B : Blk X scope NB own cap)(hc : X.calm=true)(hi : PI X tg iter wi)
    (hg : ∀ C fp s₀ H₀, PG (cxB X NB own scope C fp s₀ H₀) tg g) (ht : ∀ C fp s₀ H₀, PIf (cxB X NB own scope C fp s₀ H₀) ifs ti) (he : ∀ C fp s₀ H₀, PE (cxB X NB own scope C fp s₀ H₀) elt te)
    (hs : ∀ x, foldedSetIterable iter X.env x=pure x := by intro _;rfl) : PE X (.ListComp elt [⟨tg, iter, ifs, 0⟩] scope pos) (lE own cap wi g ti te) := by
  intro pins s σ H Q I0 h
  rw [eval_ListComp]
  have hclos := bK (env := X.env) (scope := scope) fun y hy e => I0.ok.has y.1 (.inl (B.free y hy e))
  refine wpAny_comprehension_free (use := none) rfl hs hclos B.kind B.names (thn (hi pins s σ H _ I0 h) fun v s1 h1 => thn h1 fun itv s2 h2 => ?_)
  obtain ⟨it, fp, tn, J, H2, rfl, I, T, st2, f2, W, ⟨m0, w0⟩, turn⟩ := h2
  refine wpAny_newList ?_
  refine wpAny_newFunctionEnv B.nocell (by intro y hy;simp at hy) (fun h₁ hns₁ hsb₁ => ?_) B.kind
  dsimp only at hns₁ hsb₁ ⊢
  generalize hP : s2.heap.push { cls := .type "list", dict := none, data := .seq ([] : List Value).toArray }=P at hns₁ hsb₁ ⊢
  have hC : P.objs.size=s2.heap.objs.size+1 := by rw [← hP, Heap.size_push]
  have hDC : s2.heap.objs.size≠P.objs.size := by rw [hC];exact Nat.ne_of_lt (Nat.lt_succ_self _)
  have hCle : s2.heap.objs.size≤P.objs.size := by rw [hC];exact Nat.le_succ _
  have old : ∀ b o, s2.heap.get? b=some o → h₁.get? b=some o := fun b o e => by
    refine (hsb₁.2 b ?_).trans (Heap.get?_push_of_some _ (hP ▸ Heap.get?_push_of_some _ e))
    exact Nat.ne_of_lt (Nat.lt_of_lt_of_le (Heap.lt_size e) hCle)
  have hD : h₁.get? s2.heap.objs.size=some { cls := .type "list", data := .seq ([] : List Value).toArray 0 } := by
    refine (hsb₁.2 _ hDC).trans (Heap.get?_push_of_some _ ?_)
    rw [← hP]
    exact Heap.get?_push_size _ rfl
  have hfs : ∀ b∈fp, ∃ o, s2.heap.get? b=some o := fun b hb => let ⟨o, e, _⟩ := T.obj _ _ st2 b hb;⟨o, e⟩
  have st4 : tn 0 h₁ := T.keep _ _ _ st2 fun b _ o e => old b o e
  generalize htk : s2.toks+([] : List (Str × Value)).length=tk4
  have I4 := B.start (C := P.objs.size) (tk := tk4) I f2 hfs hCle old hns₁
  have fOk : ∀ {H' : Hp} {b : Addr} {ob : Obj}, b∈fp → H' b=none → fN (cxB X NB own scope P.objs.size fp s2 H2) [(s2.heap.objs.size, ob)] H' b := fun {H' b ob} hb hn => by
    obtain ⟨o, e⟩ := hfs b hb
    refine ⟨hn, (I4.ok.exf b hb).1, I4.ok.exfs b hb, .inl hb, (I4.ok.exf b hb).2, fun p hp => ?_⟩
    have ep : p=(s2.heap.objs.size, ob) := List.mem_singleton.mp (show p∈[(s2.heap.objs.size, ob)] from hp)
    rw [ep]
    exact fun z => absurd (Heap.lt_size e) (by rw [← z];exact Nat.lt_irrefl _)
  have dnf : s2.heap.objs.size∉frs X.stack := fun z => by
    rcases List.mem_cons.mp (I.stkSub _ z) with z | z
    · exact absurd I.lt (by rw [← z];exact Nat.lt_irrefl _)
    · exact I.nofs (Nat.le_refl _) z
  have I3D : ∀ {σ3 : St} {H3 : Hp} {s3 : Shared} {its : List Value} {k : Nat}, Inv (cxB X NB own scope P.objs.size fp s2 H2) [] σ3 H3 s3 → s3.heap.get? s2.heap.objs.size=some { cls := .type "list", data := .seq its.toArray k } → H3 s2.heap.objs.size=none →
      Inv (cxB X NB own scope P.objs.size fp s2 H2) [(s2.heap.objs.size, { cls := .type "list", data := .seq its.toArray k })] σ3 H3 s3 := fun I3 e n => I3.pins_of fun p hp => by
    have ep := List.mem_singleton.mp hp
    subst ep
    exact ⟨e, n, hDC, dnf, fun v z => by cases z⟩
  have ndf : s2.heap.objs.size∉fp := fun z => by
    obtain ⟨o, e⟩ := hfs _ z
    exact absurd (Heap.lt_size e) (Nat.lt_irrefl _)
  have nCD : ∀ x c, (cxB X NB own scope P.objs.size fp s2 H2).env.cells.lookup x=some c → c≠s2.heap.objs.size := fun x c e z => by
    obtain ⟨v, o, ho, _⟩ := I.cell x c (B.cells I.ok e).1
    rw [z] at ho
    exact absurd (Heap.lt_size ho) (Nat.lt_irrefl _)
  have loop : ∀ s₃ : Shared, s₃ = { s2 with heap := h₁, toks := tk4 } → codeAny (model X.prog X.w) X.A (.compLoop (.ListComp elt [⟨tg, iter, ifs, 0⟩] scope pos) 0 (.ref it) (.ref s2.heap.objs.size) (cxB X NB own scope P.objs.size fp s2 H2).env)
      (compPost (model X.prog X.w) X.A X.xe none (EP X pins σ Q) (.ref s2.heap.objs.size) P.objs.size) s₃ := by
    rintro s₃ rfl
    refine dk (fun n s' => ∃ i σB H' ys its k, Inv (cxB X NB own scope P.objs.size fp s2 H2) [] σB H' s' ∧ tn i s'.heap ∧ (∀ b∈fp, H' b=none) ∧ s'.heap.get? s2.heap.objs.size=some { cls := .type "list", data := .seq (its : List Value).toArray k } ∧ aL ys its ∧ H' s2.heap.objs.size=none ∧ W i n ys σB H') ?_ m0
      ⟨0, stB own cap σ, H2, [], [], 0, I4, st4, fun b hb => (f2 b hb).1, hD, .nil, I.hok.fresh (Nat.le_refl _), w0⟩
    rintro n s3 ⟨i, σ3, H3, ys, its, k, I3, st3, fr3, hD3, rv, hn3, w3⟩
    rcases turn i n ys σ3 H3 w3 with ⟨stop, hz, q⟩ | ⟨go, hz, step⟩
    · refine thn (T.done (cxB X NB own scope P.objs.size fp s2 H2) rfl rfl rfl hc i _ s3 σ3 H3 noE (I3D I3 hD3 hn3) (fun b hb => fOk hb (fr3 b hb)) st3 stop) fun r s4 zq1 => ?_
      obtain ⟨hr, I4'⟩ := zq1
      subst hr
      have hD4 : s4.heap.get? s2.heap.objs.size=some { cls := .type "list", data := .seq (its : List Value).toArray k } := (I4'.pin (s2.heap.objs.size, _) (List.mem_append_right _ (List.mem_singleton.mpr rfl))).1
      have I5 : Inv (cxB X NB own scope P.objs.size fp s2 H2) [] σ3 H3 s4 := I4'.pins_of fun p hp => absurd (show p∈([] : List (Addr × Obj)) from hp) (by simp)
      obtain ⟨mC, hnC, _⟩ := I5.loc
      exact ⟨mC, hnC, fun h'' sb => ⟨.ref s2.heap.objs.size, _, B.done I f2 hCle (Nat.le_refl _) hDC I5 hn3 hD4 rv hz sb, rfl, q _ hn3⟩⟩
    · refine thn (T.item (cxB X NB own scope P.objs.size fp s2 H2) rfl rfl rfl hc i _ s3 σ3 H3 noE (I3D I3 hD3 hn3) (fun b hb => fOk hb (fr3 b hb)) st3 go) fun r s4 zq2 => ?_
      obtain ⟨u, hr, h4⟩ := zq2
      subst hr
      refine thn h4 fun _ s5 zq3 => ?_
      obtain ⟨x, H5, I5, r5, y5, st5, fr5⟩ := zq3
      have I5' := I5.pinned (fun b hb => fOk hb (fr5 b hb)) (T.obj _ _ st5)
      refine thn (hg _ fp s2 H2 _ s5 σ3 H5 x u _ I5' r5 (step x H5 y5)) fun _ s6 zq4 => ?_
      obtain ⟨σ6, H6, I6, q6⟩ := zq4
      refine thn (ht _ fp s2 H2 _ s6 σ6 H6 _ I6 q6) fun b s7 zq5 => ?_
      obtain ⟨H7, I7, q7⟩ := zq5
      have pinned : ∀ {σ8 : St} {H8 : Hp} {s8 : Shared}, Inv (cxB X NB own scope P.objs.size fp s2 H2) ([(s2.heap.objs.size, { cls := .type "list", data := .seq (its : List Value).toArray k })]++c_ fp s5.heap) σ8 H8 s8 →
          tn (i+1) s8.heap ∧ (∀ b∈fp, H8 b=none) ∧ s8.heap.get? s2.heap.objs.size=some { cls := .type "list", data := .seq (its : List Value).toArray k } ∧ H8 s2.heap.objs.size=none := fun {σ8 H8 s8} I8 => by
        refine ⟨T.keep _ _ _ st5 fun b hb o e => (I8.pin (b, o) (List.mem_append_right _ (List.mem_append_right _ (aV hb e)))).1, fun b hb => ?_, ?_, ?_⟩
        · obtain ⟨o, e, d⟩ := T.obj _ _ st5 b hb
          exact (I8.pin (b, o) (List.mem_append_right _ (List.mem_append_right _ (aV hb e)))).2.1
        · exact (I8.pin (s2.heap.objs.size, _) (List.mem_append_right _ (List.mem_append_left _ (List.mem_singleton.mpr rfl)))).1
        · exact (I8.pin (s2.heap.objs.size, _) (List.mem_append_right _ (List.mem_append_left _ (List.mem_singleton.mpr rfl)))).2.1
      have nopin : ∀ {pp : List (Addr × Obj)} {σ8 : St} {H8 : Hp} {s8 : Shared}, Inv (cxB X NB own scope P.objs.size fp s2 H2) pp σ8 H8 s8 → Inv (cxB X NB own scope P.objs.size fp s2 H2) [] σ8 H8 s8 := fun I8 => I8.pins_of fun p hp => absurd (show p∈([] : List (Addr × Obj)) from hp) (by simp)
      cases b with
      | false =>
        rw [if_neg Bool.false_ne_true] at q7 ⊢
        obtain ⟨m', hm, w7⟩ := q7
        obtain ⟨p1, p2, p3, p4⟩ := pinned I7
        exact ⟨m', hm, i+1, σ6, H7, ys, its, k, nopin I7, p1, p2, p3, rv, p4, w7⟩
      | true =>
        rw [if_pos rfl] at q7 ⊢
        refine thn (he _ fp s2 H2 _ s7 σ6 H7 _ I7 q7) fun yv s8 zq6 => ?_
        obtain ⟨y, H8, I8, r8, m', hm, w8⟩ := zq6
        obtain ⟨p1, p2, p3, p4⟩ := pinned I8
        refine call_meets F.slot_list_append ⟨_, p3, rfl⟩ F.entry_list_append (F.args_list_append_2 _ _) (PySem.list_append s2.heap.objs.size its.toArray k yv (by rw [List.size_toArray, ← rv.length];omega)) ⟨p3, ?_⟩
        have q := PySem.IsL.update p3 fun a => a.push yv
        have ea : its.toArray.push yv=(its++[yv]).toArray := by simp
        rw [ea] at q
        have I9 : Inv (cxB X NB own scope P.objs.size fp s2 H2) [] σ6 H8 { s8 with heap := s8.heap.update s2.heap.objs.size (Obj.mapSeq fun a => a.push yv), toks := s8.toks } :=
          (nopin I8).turned (it := s2.heap.objs.size) (fun b o hb e => (Heap.get?_update_other s8.heap _ (Ne.symm hb)).trans e) p4 hDC (.inr (Nat.le_refl _)) (fun x c e => nCD x c e) fun p hp => absurd (show p∈([] : List (Addr × Obj)) from hp) (by simp)
        refine ⟨m', hm, i+1, σ6, H8, ys++[y], its++[yv], _, I9, ?_, p2, q, rv.append (.cons r8 .nil), p4, w8⟩
        refine T.keep _ _ _ p1 fun b hb o e => (Heap.get?_update_other s8.heap _ ?_).trans e
        intro z
        rw [z] at ndf
        exact ndf hb
  exact codeAny_compStart_list (loop _ rfl) (T.self X.A 0 _ _ _ st4 (loop _ rfl))
theorem cG {own : List Str}{cap : List Nat}{J : It}{g : TG}{ti : TT}{te : TE}{σ : St}{H : Hp}{Q : VK}(n : Nat)(Pv : Nat → List V → St → Hp → Prop)(h0 : Pv 0 [] (stB own cap σ) H)(hz : ∀ i ys σ H, i≤n → Pv i ys σ H → ys.length≤i)(hn : n≤sizeLine)
    (hgo : ∀ i ys σ H, i < n → Pv i ys σ H → J.go i H) (hst : ∀ ys σ H, Pv n ys σ H → J.stop n H)
    (hs : ∀ i ys σ H x H' (N : List V → St → Hp → Prop), i < n → Pv i ys σ H → J.yld i H x H' → (∀ ys' σ' H'', Pv (i+1) ys' σ' H'' → N ys' σ' H'') → g x σ H' fun σ2 H2 => ti σ2 H2 fun b H3 => if b=true then te σ2 H3 fun y H4 => N (ys++[y]) σ2 H4 else N ys σ2 H3)
    (hd : ∀ ys σ H D, Pv n ys σ H → H D=none → Q (.ref D) (upd H D (.lst ys))) :
    lD own cap g ti te Q σ J H := by
  refine ⟨fun i m ys σ H => m=n - i ∧ i≤n ∧ Pv i ys σ H, ⟨n, by simp, Nat.zero_le _, h0⟩, ?_⟩
  rintro i m ys σ H ⟨rfl, hi, p⟩
  have hl := hz i ys σ H hi p
  by_cases hlt : i < n
  · refine .inr ⟨hgo i ys σ H hlt p, by omega, fun x H' y => ?_⟩
    exact hs i ys σ H x H' (fun ys' σ' H'' => ∃ m', m' < n - i ∧ m'=n - (i+1) ∧ i+1≤n ∧ Pv (i+1) ys' σ' H'') hlt p y fun ys' σ' H'' q => ⟨n - (i+1), by omega, rfl, hlt, q⟩
  · have e : i=n := by omega
    subst e
    exact .inl ⟨hst ys σ H p, by omega, fun D hD => hd ys σ H D p hD⟩
end L2
set_option Elab.async false
set_option linter.all false
set_option maxRecDepth 100000
namespace L2
open PySem PySem.Spec PyProof.Rows
def Its (z : Str) : It := ⟨fun i _ => i < z.cps.size, fun i H x H' => H'=H ∧ ∃ c, z.cps[i]? = some c ∧ x = .str ⟨#[c]⟩, fun i _ => i=z.cps.size⟩
theorem bL {P : Program}{w : World}{K : PySem.W.Frag}{tg : Expr}{it n : Nat}{Pv : Nat → Value → Prop}{st : Nat → Heap → Prop}{J : It}{T : String}{fl : Nat → Array Value}
    (W : ∀ A : Around, A.handled=none → Walks P w A it [it] [it] n Pv st) (hst : ∀ i h, st i h → ∃ o, h.get? it=some o ∧ o.cls = .type T ∧ o.data = .fields (fl i))
    (hT : ["enumerate", "zip", "dict_itemiterator", "dict_reverseitemiterator", "odict_iterator", "itertools.zip_longest", "itertools.pairwise"].contains T=false)
    (hgo : ∀ i H, J.go i H → i < n) (hstop : ∀ i H, J.stop i H → i=n) (hy : ∀ i H u, J.go i H → Pv i u → ∃ x, aR x u ∧ J.yld i H x H)
    (hself : ∀ (A : Around) (i : Nat) (s : Shared) (Q : Value → Shared → Prop) (E : Value → Shared → Prop), st i s.heap → Q (.ref it) s → wpAny (model P w) A (pyIter (.ref it)) Q E s) : mE P w K tg J [it] it st where
  mem := by simp
  obj := fun i h s b hb => by
    have e : b=it := by simpa using hb
    subst e
    obtain ⟨o, e, c, d⟩ := hst i h s
    exact ⟨o, e, fun v z => by rw [d] at z;cases z⟩
  keep := fun i h h' s k => (W {} rfl).frame i h h' s k
  item := by
    intro X hP hw hK hc i pins s σ H E I hf s0 hg
    subst hP hw hK
    obtain ⟨f0, f1, f2, f3, f4, f5⟩ := hf it (by simp)
    refine (W X.A (I.ok.hd hc)).item i s _ _ (hgo i H hg) s0 fun v h' tk hv st' kk => ?_
    have I1 : Inv X pins σ H { s with heap := h', toks := tk } := I.turned (fun b o hb e => kk b o (by simpa using hb) e) f0 f1 f3 f4 f5
    obtain ⟨o, e, c, d⟩ := hst _ _ st'
    obtain ⟨x, rx, yx⟩ := hy i H v hg hv
    exact ⟨v, rfl, kU (s := { s with heap := h', toks := tk }) e c d hT ⟨x, H, I1, rx, yx, st', fun b hb => (hf b hb).1⟩⟩
  done := by
    intro X hP hw hK hc i pins s σ H E I hf s0 hg
    subst hP hw hK
    obtain ⟨f0, f1, f2, f3, f4, f5⟩ := hf it (by simp)
    have e := hstop i H hg
    subst e
    exact (W X.A (I.ok.hd hc)).done s _ _ s0 fun h' tk kk => ⟨rfl, I.turned (fun b o hb e => kk b o (by simpa using hb) e) f0 f1 f3 f4 f5⟩
  self := hself
section
variable {X : Cx} {tg : Expr}
def pW (tl : TE) : TI := fun σ H R => tl σ H fun x H1 => ∃ z, x = .str z ∧ R (Its z) H1
theorem iO {z : Str}{i : Nat}{H : Hp}{u : Value}(h : SignAt z i u) : ∃ x, aR x u ∧ (Its z).yld i H x H := by
  obtain ⟨c, t, e, rfl⟩ := h
  exact ⟨.str ⟨#[c]⟩, ⟨t, rfl⟩, rfl, c, e, rfl⟩
theorem gC {l : Expr}{tl : TE}(hl : PE X l tl) : PI X tg l (pW tl) := by
  intro pins s σ H R I h
  refine thn (hl pins s σ H _ I h) fun v s1 zq1 => ?_
  obtain ⟨x, H1, I1, r1, q1⟩ := zq1
  obtain ⟨z, rfl, q⟩ := q1
  obtain ⟨t, rfl⟩ := r1
  have fp : ∀ b∈[s1.heap.objs.size], fN X pins H1 b := fun b hb => by
    have e : b=s1.heap.objs.size := by simpa using hb
    subst e
    exact I1.fpOk (Nat.le_refl _) (I1.hok.fresh (Nat.le_refl _))
  cases ha : z.cps.all (· < 128)
  · refine wpAny_pyIter_wide ha ⟨s1.heap.objs.size, [s1.heap.objs.size], _, Its z, H1, rfl, I1.kept (t' := s1.toks) fun b o e => Heap.get?_push_of_some _ e,
      bL (T := "str_iterator") (fl := fun i => #[.str z t, .int i 0]) (fun A hh => Walks.strWide hh _ z t) (fun i h st => st) (by decide) (fun i H g => g) (fun i H g => g) (fun i H u _ hu => iO hu) (fun A i s Q E st h => wpAny_pyIter_striter_wide st h), ⟨_, Heap.get?_push_size _ rfl, rfl, rfl⟩, fp, q⟩
  · refine wpAny_pyIter_ascii ha ⟨s1.heap.objs.size, [s1.heap.objs.size], _, Its z, H1, rfl, I1.kept (t' := s1.toks) fun b o e => Heap.get?_push_of_some _ e,
      bL (T := "str_ascii_iterator") (fl := fun i => #[.str z t, .int i 0]) (fun A hh => Walks.strAscii hh _ z t) (fun i h st => st) (by decide) (fun i H g => g) (fun i H g => g) (fun i H u _ hu => iO hu) (fun A i s Q E st h => wpAny_pyIter_striter_ascii st h), ⟨_, Heap.get?_push_size _ rfl, rfl, rfl⟩, fp, q⟩
inductive pk (x : V)(lo : Option Int)(hi : Option Int)(H : Hp)(Q : VK) : Prop
  | mk : ∀ z, (x = .str z) → (z.length≤sizeLine) → (Q (.str (Txt.slice z lo hi)) H) → pk x lo hi H Q
theorem aX : SlR X pk := by
  intro pins s σ H x v vl vu lo hi sl Q I rx hs pl pu h
  obtain ⟨z, rfl, hz, q⟩ := h
  obtain ⟨t, rfl⟩ := rx
  have fin : ∀ (lo hi : Option Int), Q (.str (Txt.slice z lo hi)) H → ∀ t' k, EP X pins σ Q (.str (Txt.slice z lo hi) t') { s with toks := k } := fun lo hi q t' k => ⟨.str _, H, I.tok _, ⟨_, rfl⟩, q⟩
  refine ⟨"str", _, F.slot_str_getitem.lookup, typeIs_str _ _ _, ?_⟩
  cases pl with
  | none =>
    cases pu with
    | none => exact wpAny_getItem_str_slice (l := none) (u := none) (st := none) hs rfl (post_val_or_str ⟨Nat.le_trans (Txt.slice_le z _ _) hz, fun t' k => fin _ _ q t' k⟩)
    | int j uj => exact wpAny_getItem_str_slice (l := none) (u := some (j, uj)) (st := none) hs rfl (post_val_or_str ⟨Nat.le_trans (Txt.slice_le z _ _) hz, fun t' k => fin _ _ q t' k⟩)
  | int i ui =>
    cases pu with
    | none => exact wpAny_getItem_str_slice (l := some (i, ui)) (u := none) (st := none) hs rfl (post_val_or_str ⟨Nat.le_trans (Txt.slice_le z _ _) hz, fun t' k => fin _ _ q t' k⟩)
    | int j uj => exact wpAny_getItem_str_slice (l := some (i, ui)) (u := some (j, uj)) (st := none) hs rfl (post_val_or_str ⟨Nat.le_trans (Txt.slice_le z _ _) hz, fun t' k => fin _ _ q t' k⟩)
inductive kF (x : V)(vs : List V)(H : Hp)(Q : VK) : Prop
  | mk : ∀ z, (x = .str z) → (vs=[]) → (z.length≤5592405) → (Q (.str (Txt.upper z)) H) → kF x vs H Q
inductive kG (x : V)(vs : List V)(H : Hp)(Q : VK) : Prop
  | mk : ∀ z, (x = .str z) → (vs=[]) → (z.length≤5592405) → (Q (.str (Txt.lower z)) H) → kG x vs H Q
theorem jR : MtR X "str.upper" kF := by
  intro pins s σ H x vs v us Q I rx rv h
  obtain ⟨z, rfl, rfl, hz, q⟩ := h
  obtain ⟨t, rfl⟩ := rx
  cases rv
  exact SCL.upper hz fun _ => ⟨.str _, H, I.tok _, ⟨_, rfl⟩, q⟩
theorem jS : MtR X "str.lower" kG := by
  intro pins s σ H x vs v us Q I rx rv h
  obtain ⟨z, rfl, rfl, hz, q⟩ := h
  obtain ⟨t, rfl⟩ := rx
  cases rv
  exact SCL.lower hz fun _ => ⟨.str _, H, I.tok _, ⟨_, rfl⟩, q⟩
theorem dY : ∀ {ys : List Str} {us : List Value}, aL (ys.map V.str) us → StrsAre us ys
  | [], _, r => by
    rw [List.map_nil] at r
    cases r
    exact .nil
  | y::ys, us, r => by
    rw [List.map_cons] at r
    cases r with
    | cons r1 r2 =>
      obtain ⟨t, e⟩ := r1
      subst e
      exact .cons y t (dY r2)
inductive m5 (K : PySem.W.Frag)(x : V)(vs : List V)(H : Hp)(Q : VK) : Prop
  | mk : ∀ z p ys, (x = .str z) → (vs=[.ref p]) → (SqL K H p (ys.map V.str)) → ((ys.map (·.length)).sum+ys.length*z.length≤16777216) → (Q (.str (Txt.join z ys)) H) → m5 K x vs H Q
theorem fZ : MtR X "str.join" (m5 X.K) := by
  intro pins s σ H x vs v us Q I rx rv h
  obtain ⟨z, p, ys, rfl, rfl, hq, hz, q⟩ := h
  obtain ⟨t, rfl⟩ := rx
  obtain ⟨u, rfl, ru⟩ := cD rv
  cases ru
  obtain ⟨its, r, pl, _⟩ := I.list hq
  exact join_list pl.isList (by simpa using dY r) hz fun t' k => ⟨.str _, H, I.tok _, ⟨_, rfl⟩, q⟩
end
theorem f_ {z : Str}{g : TG}{tb : TS}{D : fE}{σ : St}{H : Hp}(Pv : Nat → St → Hp → Prop)(h0 : Pv 0 σ H)
    (hs : ∀ i c σ H, z.cps[i]? = some c → Pv i σ H → g (.str ⟨#[c]⟩) σ H fun σ2 H2 => tb { D with nx := Pv (i+1), ct := Pv (i+1), bk := D.nx } σ2 H2) (hd : ∀ σ H, Pv z.cps.size σ H → D.nx σ H) :
    ∃ W : Nat → Nat → St → Hp → Prop, (∃ m, W 0 m σ H) ∧ ∀ i m σ H, W i m σ H →
      ((Its z).stop i H ∧ D.nx σ H) ∨ ((Its z).go i H ∧ ∃ N : St → Hp → Prop, (∀ σ' H', N σ' H' → ∃ m', m' < m ∧ W (i+1) m' σ' H') ∧ ∀ x H', (Its z).yld i H x H' → g x σ H' fun σ2 H2 => tb { D with nx := N, ct := N, bk := D.nx } σ2 H2) := by
  refine ⟨fun i m σ H => m=z.cps.size - i ∧ i≤z.cps.size ∧ Pv i σ H, ⟨z.cps.size, by simp, Nat.zero_le _, h0⟩, ?_⟩
  rintro i m σ H ⟨rfl, hi, p⟩
  by_cases hlt : i < z.cps.size
  · refine .inr ⟨hlt, Pv (i+1), fun σ' H' p' => ⟨z.cps.size - (i+1), by omega, rfl, hlt, p'⟩, fun x H' y => ?_⟩
    obtain ⟨e, c, hc, ex⟩ := y
    subst e ex
    exact hs i c σ _ hc p
  · have e : i=z.cps.size := by omega
    subst e
    exact .inl ⟨rfl, hd σ H p⟩
end L2
set_option Elab.async false
set_option linter.all false
set_option maxRecDepth 100000
namespace PySem
open Sem (wp)
open Builtin Builtin.SmallTypes
namespace F
theorem lookup_str_reversed : typeLookup (.type "str") "__reversed__" = pure none := by rw [typeLookup_type, builtinLookup_eq_fast]; kernel_rfl
theorem ej : Slot "reversed" "__init__" "object.__init__" :=
  .of (owner := "object") (n := "__init__") (by rw [typeLookup_type, builtinLookup_eq_fast];kernel_rfl) (by decide +kernel) (by decide +kernel) (by decide +kernel)
    (by first | exact .inl (by decide +kernel) | exact .inr (by decide +kernel)) (by rw [isSubtype_type];kernel_rfl)
theorem called_rvs : TypeCalled "reversed" "reversed.__new__" "object.__init__" :=
  ⟨by decide +kernel, create_reversed, ⟨_, _, mro_reversed⟩, made_reversed, plain_reversed_new, sub_reversed_self, ej⟩
end F
set_option maxHeartbeats 1000000 in
theorem iP (x : Str)(t : Tok) : Meets (Builtin.«reversed.__new__» ⟨[.type "reversed", .str x t], []⟩) (fun _ R s => ¬ (x.length : Int)≥2 ^ 63 ∧
      ∀ tk, R (.ok (.ret (.ref s.heap.objs.size))) { s with heap := s.heap.push { cls := .type "reversed", data := .fields #[.str x t, rawInt ((x.length : Int) - 1)] }, toks := tk }) :=
  .of_wp fun prog w A R s h => by
    obtain ⟨hx, h⟩ := h
    unfold Builtin.«reversed.__new__»
    refine wpAny_bind (wpAny_of_eq (newClass_reversed _) ?_)
    try dsimp only
    refine wpAny_bind (wpAny_of_eq (a := ()) (by first | rfl | kernel_rfl) ?_)
    refine wpAny_bind (wpAny_of_eq (a := ()) (by first | rfl | kernel_rfl) ?_)
    try dsimp only
    refine wpAny_bind (wpAny_specialOf (typeIs_str s x t) F.lookup_str_reversed ?_)
    try dsimp only
    refine wpAny_bind ?_
    have hl := F.slot_str_getitem.lookup
    have hT := typeIs_str s x t
    have hD : isSubtype (.type "str") (.type "dict")=pure false := by rw [isSubtype_type];kernel_rfl
    repeat (any_goals (first | assumption | refine PySem.P.len_str hx ?_ | wp_step))
    exact ⟨_, rfl, h _⟩
def Heap.IsRvs (h : Heap)(a : Addr)(x : Str)(t : Tok)(i : Int) : Prop := ∃ o, h.get? a=some o ∧ o.cls = .type "reversed" ∧ o.data = .fields #[.str x t, rawInt i]
theorem Heap.IsRvs.typeIs {s : Shared}{a : Addr}{x : Str}{t : Tok}{i : Int}(y : s.heap.IsRvs a x t i) : s.TypeIs (.ref a) "reversed" := let ⟨o, ho, hc, _⟩ := y; ⟨o, ho, hc⟩
namespace F
theorem slot_rvs_next : Slot "reversed" "__next__" "reversed.__next__" :=
  .of (owner := "reversed") (n := "__next__") (by rw [typeLookup_type, builtinLookup_eq_fast];kernel_rfl) (by decide +kernel) (by decide +kernel) (by decide +kernel)
    (by first | exact .inl (by decide +kernel) | exact .inr (by decide +kernel)) (by rw [isSubtype_type];kernel_rfl)
theorem entry_rvs_next : entryFor table "reversed.__next__" = some Builtin.«reversed.__next__» := entryFor_of_tree (by kernel_rfl)
theorem args_rvs_next (a : Value) : argsOk "reversed.__next__" ⟨[a], []⟩ := by unfold argsOk; kernel_rfl
theorem slot_rvs_iter : Slot "reversed" "__iter__" "reversed.__iter__" :=
  .of (owner := "reversed") (n := "__iter__") (by rw [typeLookup_type, builtinLookup_eq_fast];kernel_rfl) (by decide +kernel) (by decide +kernel) (by decide +kernel)
    (by first | exact .inl (by decide +kernel) | exact .inr (by decide +kernel)) (by rw [isSubtype_type];kernel_rfl)
theorem args_rvs_iter (a : Value) : argsOk "reversed.__iter__" ⟨[a], []⟩ := by unfold argsOk; kernel_rfl
theorem entry_rvs_iter : entryFor table "reversed.__iter__" = some Builtin.«dict_keyiterator.__iter__» :=
  entryFor_alias (id' := "dict_keyiterator.__iter__") (by kernel_rfl) rfl (by decide +kernel) (by kernel_rfl)
end F
section
variable {prog : Program} {w : World} {A : Around} {E : Value → Shared → Prop} {s : Shared} {x : Str} {t : Tok}
theorem eZ {Q : Value → Shared → Prop}(hx : ¬ (x.length : Int)≥2 ^ 63)
    (h : ∀ tk, Q (.ref s.heap.objs.size) { s with heap := s.heap.push { cls := .type "reversed", data := .fields #[.str x t, rawInt ((x.length : Int) - 1)] }, toks := tk }) : wpAny (model prog w) A (call (.type "reversed") [.str x t]) Q E s :=
  callType_new F.called_rvs (by decide) (F.typeCall_reversed_1 _) (F.newCall_reversed_1 _) (fun obj => F.args_object_init_2 obj _) F.entry_reversed_new (iP x t) ⟨hx, fun tk => ⟨⟨_, Heap.get?_push_size _ rfl, rfl⟩, h tk⟩⟩
theorem er {it : Addr}{i : Int}{Q : Value → Shared → Prop}(hit : s.heap.IsRvs it x t i)(h : Q (.ref it) s) : wpAny (model prog w) A (pyIter (.ref it)) Q E s := by
  refine wpAny_pyIter_slot hit.typeIs F.slot_rvs_iter (wpAny_call_entry F.slot_rvs_iter hit.typeIs F.entry_rvs_iter ?_ (F.args_rvs_iter _))
  show wpAny _ _ (ret (.ref it)) _ _ s
  exact wpAny_pure ⟨_, rfl, "reversed", _, hit.typeIs, F.slot_rvs_next.lookup, h⟩
theorem eA {it : Addr}{i : Nat}{c : Nat}{Q : Option Value → Shared → Prop}(hit : s.heap.IsRvs it x t (i : Int))(hx : x.cps[i]? = some c)(h63 : (i : Int) < 2 ^ 63)
    (hQ : ∀ h' tk u, h'.IsRvs it x t ((i : Int) - 1) → Heap.SameBut it s.heap h' → Q (some (.str ⟨#[c]⟩ u)) { s with heap := h', toks := tk }) : wpAny (model prog w) A (pyNext (.ref it)) Q E s := by
  obtain ⟨o, ho, hc, hd⟩ := id hit
  unfold pyNext
  refine wpAny_bind (wpAny_attempt (wpAny_callSpecial?_slot (name := Str.ofString "__next__") hit.typeIs F.slot_rvs_next
    (wpAny_call_entry F.slot_rvs_next hit.typeIs F.entry_rvs_next ?_ (F.args_rvs_next _))))
  unfold Builtin.«reversed.__next__»
  refine wpAny_bind (wpAny_of_eq (a := (Value.ref it, [])) rfl ?_)
  try dsimp only
  refine wpAny_bind (wpAny_field ho hd (x := .str x t) rfl ?_)
  refine wpAny_bind (wpAny_field ho hd (x := rawInt (i : Int)) rfl ?_)
  show wpAny _ _ (if (i : Int) < 0 then _ else _) _ _ s
  rw [if_neg (by omega)]
  refine wpAny_bind (wpAny_specialOf (typeIs_str s x t) F.slot_str_getitem.lookup ?_)
  show wpAny _ _ (if (some (Value.builtin "str.__getitem__")).isNone=true then _ else _) _ _ s
  rw [if_neg (by decide)]
  refine wpAny_bind (wpAny_mkInt ?_)
  have hlt : i < x.length := by
    have := Array.getElem?_eq_some_iff.mp hx
    exact this.1
  refine wpAny_bind (wpAny_attempt (PySem.P.getItem_str (c := c) ?_ ?_ ?_))
  · have e1 : decide ((i : Int) < -(2 ^ 63 : Int))=false := decide_eq_false (by omega)
    have e2 : decide ((i : Int)≥2 ^ 63)=false := decide_eq_false (by omega)
    rw [e1, e2, Bool.or_false]
  · rw [PySem.StrLaws.seqIndex_nonneg (by omega) (by omega)]
    simpa using hx
  try dsimp only
  refine wpAny_bind (wpAny_field ho hd (x := rawInt (i : Int)) rfl ?_)
  show wpAny _ _ (setField (.ref it) 1 (rawInt ((i : Int) - 1)) >>= _) _ _ _
  refine wpAny_bind (wpAny_setField ho hd (by simp) ?_)
  refine wpAny_pure ⟨_, rfl, wpAny_pure (hQ _ _ _ ?_ (Heap.SameBut.update ..))⟩
  exact ⟨_, Heap.get?_update_self _ ho (Obj.isFreed_of_fields (Obj.data_mapFields hd _)), (Obj.cls_mapFields ..).trans hc, by
    rw [Obj.data_mapFields hd];simp⟩
theorem e4 {it : Addr}{Q : Option Value → Shared → Prop}(hh : A.handled=none)(hit : s.heap.IsRvs it x t (-1))
    (hQ : ∀ h', (∀ b o, b≠it → s.heap.get? b=some o → h'.get? b=some o) → Q none { s with heap := h' }) : wpAny (model prog w) A (pyNext (.ref it)) Q E s := by
  obtain ⟨o, ho, hc, hd⟩ := id hit
  unfold pyNext
  refine wpAny_bind (wpAny_attempt (wpAny_callSpecial?_slot (name := Str.ofString "__next__") hit.typeIs F.slot_rvs_next
    (wpAny_call_entry F.slot_rvs_next hit.typeIs F.entry_rvs_next ?_ (F.args_rvs_next _))))
  unfold Builtin.«reversed.__next__»
  refine wpAny_bind (wpAny_of_eq (a := (Value.ref it, [])) rfl ?_)
  try dsimp only
  refine wpAny_bind (wpAny_field ho hd (x := .str x t) rfl ?_)
  refine wpAny_bind (wpAny_field ho hd (x := rawInt (-1)) rfl ?_)
  show wpAny _ _ (if (-1 : Int) < 0 then _ else _) _ _ s
  rw [if_pos (by decide)]
  refine wpAny_bind (wpAny_rule ?_)
  refine wpAny_bind ?_
  show wpAny _ _ (setField (.ref it) 1 (rawInt (-1)) >>= fun _ => setField (.ref it) 0 .none) _ _ s
  refine wpAny_bind (wpAny_setField ho hd (by simp) ?_)
  have ho2 := Heap.get?_update_self (Obj.mapFields fun a => a.setIfInBounds 1 (rawInt (-1))) ho (Obj.isFreed_of_fields (Obj.data_mapFields hd _))
  have hd2 := Obj.data_mapFields hd fun a => a.setIfInBounds 1 (rawInt (-1))
  refine wpAny_setField ho2 hd2 (by simp) ?_
  generalize hh2 : (s.heap.update it _).update it _=h2
  have kk : ∀ b o, b≠it → s.heap.get? b=some o → h2.get? b=some o := fun b o hb e => by
    rw [← hh2]
    exact (Heap.get?_update_other _ _ (Ne.symm hb)).trans ((Heap.get?_update_other _ _ (Ne.symm hb)).trans e)
  have hz : A.in1.handled=none := hh
  have sub := isSubtype_stop
  repeat (any_goals (first | assumption | wp_step))
  unfold raiseNew
  refine wpAny_bind (wpAny_handled ?_)
  rw [hz]
  refine wpAny_bind (wpAny_pure (wpAny_throw ?_))
  refine wpAny_bind (wpAny_isInstance (T := "StopIteration") (b := true) ?_ sub (wpAny_pure (hQ _ fun b o hb e => ?_)))
  · exact ⟨_, Heap.get?_push_size _ rfl, rfl⟩
  exact Heap.get?_push_of_some _ (Heap.get?_push_of_some _ (kk b o hb e))
theorem iQ (hh : A.handled=none)(it : Addr)(x : Str)(t : Tok)(h63 : (x.cps.size : Int) < 2 ^ 63) :
    Walks prog w A it [it] [it] x.cps.size (fun i v => ∃ c u, x.cps[x.cps.size - 1 - i]? = some c ∧ v = .str ⟨#[c]⟩ u) (fun i h => i≤x.cps.size ∧ h.IsRvs it x t ((x.cps.size : Int) - 1 - (i : Int))) where
  sub := fun _ hb => hb
  frame := fun _ _ _ st hk => let ⟨l, o, ho, r⟩ := st;⟨l, o, hk it (by simp) o ho, r⟩
  item := fun i s Q E hi y hQ => by
    have e : (x.cps.size : Int) - 1 - (i : Int)=((x.cps.size - 1 - i : Nat) : Int) := by omega
    have hit := y.2
    rw [e] at hit
    have hx : x.cps[x.cps.size - 1 - i]? = some (x.cps[x.cps.size - 1 - i]'(by omega)) := Array.getElem?_eq_getElem (by omega)
    refine eA hit hx (by omega) fun h' tk u hit' hs' => ?_
    have e2 : ((x.cps.size - 1 - i : Nat) : Int) - 1=(x.cps.size : Int) - 1 - ((i+1 : Nat) : Int) := by omega
    rw [e2] at hit'
    exact hQ _ h' tk ⟨_, u, hx, rfl⟩ ⟨hi, hit'⟩ fun b o hb eo => hs'.extBut b o (fun h => hb (by simp [h])) eo
  done := fun s Q E y hQ => by
    have e : (x.cps.size : Int) - 1 - (x.cps.size : Int) = -1 := by omega
    have hit := y.2
    rw [e] at hit
    exact e4 hh hit fun h' he' => hQ h' s.toks fun b o hb eo => he' b o (fun h => hb (by simp [h])) eo
  self := fun _ _ _ _ y hQ => er y.2 hQ
end
end PySem
namespace L2
open PySem PySem.Spec PyProof.Rows
def oE (z : Str) : It := ⟨fun i _ => i < z.cps.size, fun i H x H' => H'=H ∧ ∃ c, z.cps[z.cps.size - 1 - i]? = some c ∧ x = .str ⟨#[c]⟩, fun i _ => i=z.cps.size⟩
section
variable {X : Cx} {tg : Expr}
def oF (ta : TA) : TI := fun σ H R => ta σ H fun vs H1 => ∃ z, vs=[.str z] ∧ z.length≤sizeLine ∧ R (oE z) H1
theorem lF {a : Expr}{ta : TA}{p pos : Pos}(hg : Gl X "reversed")(hm : X.mg "reversed" = none)(hb : bootBuiltins "reversed" = some (.type "reversed"))(ha : PA X [a] ta)(hs : starEach [a] X.env=[(false, eval a X.env)] := by rfl) :
    PI X tg (.Call (.Name "reversed" p) [a] [] pos) (oF ta) := by
  intro pins s σ H R I h
  refine Call_ (gk I hg hm hb (PyProof.Rows.callWith_type1 (thn (ha pos pins s σ H _ I h) fun us s1 zq1 => ?_) hs rfl))
  obtain ⟨vs, H1, I1, r1, q1⟩ := zq1
  obtain ⟨z, rfl, hz, q⟩ := q1
  obtain ⟨u, rfl, t, rfl⟩ := cD r1
  have hn := dS
  have hsz : z.cps.size=z.length := rfl
  refine eZ (by omega) fun tk => ?_
  have hit : Heap.IsRvs (s1.heap.push { cls := .type "reversed", data := .fields #[.str z t, rawInt ((z.length : Int) - 1)] }) s1.heap.objs.size z t ((z.length : Int) - 1) := ⟨_, Heap.get?_push_size _ rfl, rfl, rfl⟩
  refine er (s := { s1 with heap := s1.heap.push { cls := .type "reversed", data := .fields #[.str z t, rawInt ((z.length : Int) - 1)] }, toks := tk }) hit ?_
  refine ⟨s1.heap.objs.size, [s1.heap.objs.size], _, oE z, H1, rfl, I1.kept (t' := tk) fun b o e => Heap.get?_push_of_some _ e,
    bL (T := "reversed") (fl := fun i => #[.str z t, rawInt ((z.cps.size : Int) - 1 - (i : Int))]) (fun A hh => iQ hh _ z t (by omega)) (fun i h st => st.2) (by decide) (fun i H g => g) (fun i H g => g)
      (fun i H u _ ⟨c, t', e, eu⟩ => ⟨.str ⟨#[c]⟩, ⟨t', eu⟩, rfl, c, e, rfl⟩) (fun A i s Q E st h => er st.2 h), ⟨Nat.zero_le _, by simpa [hsz] using hit⟩, fun b hb => ?_, q⟩
  have e : b=s1.heap.objs.size := by simpa using hb
  subst e
  exact I1.fpOk (Nat.le_refl _) (I1.hok.fresh (Nat.le_refl _))
structure DTx (K : PySem.W.Frag) (w : World) (a : Addr) : Prop where
  ob : ∃ (es : Array DictEntry) (n : Nat), K.lookup a=some ⟨.type "dict", none, .dict es n, #[]⟩ ∧ PySem.W.KeysLit w.params es.toList
theorem jT {a : Addr}(D : DTx X.K X.w a) : IxR X (fun x y H Q => ∃ z z' t, x = .ref a ∧ y = .str z ∧ PySem.W.nsIn X.K a z=some (some (.str z' t)) ∧ Q (.str z') H) := by
  intro value slice pins s σ H x y v u Q I rx ry h hs
  obtain ⟨z, z', t', rfl, rfl, e, q⟩ := h
  cases rx
  obtain ⟨t, rfl⟩ := ry
  obtain ⟨es, n, hl, hk⟩ := D.ob
  obtain ⟨m, F⟩ := I.fr
  exact PySem.W.topItem_K F I.ok.mod.kin hl hk e ⟨.str z', H, I.tok _, ⟨_, rfl⟩, q⟩ hs
def jU (K : PySem.W.Frag)(a : Addr)(Q : VK) : V → Hp → Prop := fun y H1 => ∃ z z' t, y = .str z ∧ PySem.W.nsIn K a z=some (some (.str z' t)) ∧ Q (.str z') H1
def oG (K : PySem.W.Frag)(a : Addr)(ti : TE) : TE := fun σ H Q => ti σ H (jU K a Q)
theorem lG {K : PySem.W.Frag}{w : World}{a : Addr}{x : Str}{i : Expr}{ti : TE}{p pos : Pos}(D : DTx K w a)(hK : X.K=K)(hw : X.w=w)(hg : Gl X x)(hm : X.mg x=some (.ref a))(hi : PE X i ti)(hs : iB i)
    (hd : (x == ("__debug__" : Str))=false := by decide) : PE X (.Subscript (.Name x p) i pos) (oG K a ti) := by
  subst hK hw
  intro pins s σ H Q I h
  refine Subscript_ (fJ I hg hm (thn (hi pins s σ H _ I h) fun u s2 zq2 => ?_) hd)
  obtain ⟨y, H2, I2, ry, z, z', t', e1, e2, q⟩ := zq2
  exact jT D _ _ pins s2 σ H2 (.ref a) y (.ref a) u Q I2 rfl ry ⟨z, z', t', rfl, e1, e2, q⟩ (hs _ _)
end
end L2
set_option linter.all false
namespace Wd
abbrev L := Fin 12
def inv (x : L) : L := if h : x.val < 6 then ⟨x.val+6, by omega⟩ else ⟨x.val - 6, by omega⟩
theorem eB : ∀ x : L, inv (inv x)=x := by decide
def bk (w : List L) : List L := (w.map inv).reverse
theorem iR (u v : List L) : bk (u++v)=bk v++bk u := by simp [bk]
theorem bB (w : List L) : (bk w).length=w.length := by simp [bk]
def push (st : List L)(x : L) : List L := match st with
  | [] => [x]
  | y::r => if y=inv x then r else x::y::r
def Rd : List L → Prop
  | [] => True
  | [_] => True
  | x::y::r => y≠inv x ∧ Rd (y::r)
def rep : Nat → List L → List L
  | 0, _ => []
  | n+1, w => rep n w++w
end Wd
set_option Elab.async false
set_option linter.all false
set_option maxRecDepth 100000
namespace L2
open PySem PySem.Spec PyProof.Rows Wd
def cp (x : L) : Nat := if x.val < 6 then 97+x.val else 59+x.val
theorem jV : ∀ x : L, cp x < 128 := by decide
theorem m7 : ∀ x y : L, cp x=cp y → x=y := by decide
def toS (w : List L) : Str := ⟨(w.map cp).toArray⟩
def tx (w : List L) : V := .str (toS w)
theorem bj (w : List L) : (toS w).cps.toList=w.map cp := by simp [toS]
theorem ai (w : List L) : (toS w).length=w.length := by simp [toS, Str.length]
theorem br (w : List L) : (toS w).cps.size=w.length := by simp [toS]
theorem cH (u v : List L) : toS u++toS v=toS (u++v) := by
  apply Str.ext'
  rw [Str.cps_append]
  simp [toS]
theorem dZ : ∀ {u v : List L}, u.map cp=v.map cp → u=v
  | [], [], _ => rfl
  | [], _::_, h => by simp at h
  | _::_, [], h => by simp at h
  | x::u, y::v, h => by
    simp only [List.map_cons, List.cons.injEq] at h
    rw [m7 x y h.1, dZ h.2]
theorem bt {u v : List L}(h : toS u=toS v) : u=v := by
  have : (toS u).cps.toList=(toS v).cps.toList := by rw [h]
  rw [bj, bj] at this
  exact dZ this
theorem lH : toS []=("" : Str) := by decide +kernel
theorem d2 : tx []=V.str ("" : Str) := congrArg V.str lH
theorem m8 : toS [0, 1, 2, 3, 4, 5]=("abcdef" : Str) := by decide +kernel
theorem big : toS [6, 7, 8, 9, 10, 11]=("ABCDEF" : Str) := by decide +kernel
theorem dm {w : List L}{i c : Nat}(h : (toS w).cps[i]? = some c) : ∃ x, w[i]? = some x ∧ (⟨#[c]⟩ : Str)=toS [x] := by
  have h : ((w.map cp).toArray)[i]? = some c := h
  rw [List.getElem?_toArray, List.getElem?_map] at h
  cases e : w[i]? with
  | none => rw [e] at h;cases h
  | some x =>
    rw [e] at h
    have : cp x=c := Option.some.inj h
    exact ⟨x, rfl, by rw [← this];rfl⟩
theorem iS {w : List L}{k : Nat}{x : L}{i : Int}(hk : i=(k : Int))(h : w[k]? = some x) : atI (toS w).cps.toList i=some (cp x) := by
  subst hk
  rw [bj]
  obtain ⟨hl, e⟩ := List.getElem?_eq_some_iff.mp h
  unfold atI ixN
  rw [if_pos (by omega), if_pos (by rw [List.length_map];omega)]
  show (w.map cp)[((k : Nat) : Int).toNat]? = _
  rw [Int.toNat_natCast, List.getElem?_map, h]
  rfl
def hX (w : List L)(lo hi : Option Int) : List L := (w.drop (HT.sIx w.length 0 lo)).take (HT.sIx w.length w.length hi - HT.sIx w.length 0 lo)
theorem lI (lo hi : Option Int)(n : Nat) : Builtin.Str.strSliceIndices lo hi 1 n=(List.range (HT.sIx n n hi - HT.sIx n 0 lo)).map (fun k => HT.sIx n 0 lo+k) := by
  have cl : ∀ v : Int, max (0 : Int) (min (if v < 0 then v+(n : Int) else v) (n : Int))=(((if v < 0 then (v+(n : Int)).toNat else min v.toNat n) : Nat) : Int) := fun v => by
    by_cases hv : v < 0
    · simp only [if_pos hv];omega
    · simp only [if_neg hv];omega
  have fin : ∀ a b : Nat, sliceRange (a : Int) (b : Int) 1=(List.range (b - a)).map (fun k => a+k) := fun a b => by
    unfold sliceRange
    simp only [show ((1 : Int) > 0)=True from by simp, if_true]
    by_cases hlt : (a : Int) < b
    · have e3 : (((b : Int) - a+1 - 1) / 1).toNat=b - a := by first | omega | (simp;done) | (simp;omega)
      simp only [hlt, if_true, e3]
      exact List.map_congr_left fun k _ => by omega
    · have : b - a=0 := by omega
      simp [hlt, this]
  unfold Builtin.Str.strSliceIndices
  simp only [show ((1 : Int) > 0)=True from by simp, if_true]
  cases lo with
  | none =>
    cases hi with
    | none => exact fin 0 n
    | some j => simp only [cl];exact fin 0 _
  | some i =>
    cases hi with
    | none => simp only [cl];exact fin _ n
    | some j => simp only [cl];exact fin _ _
theorem aT (w : List L)(lo hi : Option Int) : Txt.slice (toS w) lo hi=toS (hX w lo hi) := by
  have h1 := HT.kx w.length 0 (Nat.zero_le _) lo
  have h2 := HT.kx w.length w.length (Nat.le_refl _) hi
  unfold Txt.slice
  rw [lI, ai]
  split
  · rename_i h
    have hl : HT.sIx w.length w.length hi - HT.sIx w.length 0 lo=w.length := by simpa using h
    have e : hX w lo hi=w := by
      unfold hX
      rw [hl]
      have ha : HT.sIx w.length 0 lo=0 ∨ w.length=0 := by omega
      rcases ha with ha | ha
      · rw [ha, List.drop_zero, List.take_length]
      · have : w=[] := List.eq_nil_of_length_eq_zero ha
        subst this
        simp
    rw [e]
  · apply Str.ext'
    show (List.filterMap _ _).toArray=_
    have e := StrLaws.picks (w.map cp) (HT.sIx w.length w.length hi - HT.sIx w.length 0 lo) (HT.sIx w.length 0 lo)
    by_cases hle : HT.sIx w.length 0 lo≤HT.sIx w.length w.length hi
    · have e := e (by rw [List.length_map];omega)
      have e2 : (fun k : Nat => (toS w).cps[k]?)=fun k : Nat => (w.map cp)[k]? := funext fun k => by simp [toS]
      rw [e2, e]
      simp [toS, hX, List.map_take, List.map_drop]
    · have z : HT.sIx w.length w.length hi - HT.sIx w.length 0 lo=0 := by omega
      rw [z]
      simp [toS, hX, z]
theorem d3 (w : List L){n : Int}(h : 0≤n) : hX w none (some n)=w.take n.toNat := by
  obtain ⟨k, rfl⟩ := Int.eq_ofNat_of_zero_le h
  unfold hX
  rw [HT.d_, HT.fP, List.drop_zero, Nat.sub_zero, Int.toNat_natCast]
  by_cases hk : k≤w.length
  · rw [Nat.min_eq_left hk]
  · rw [Nat.min_eq_right (by omega), List.take_length, List.take_of_length_le (by omega)]
theorem cU (w : List L){n : Int}(h : 0≤n) : hX w (some n) none=w.drop n.toNat := by
  obtain ⟨k, rfl⟩ := Int.eq_ofNat_of_zero_le h
  unfold hX
  rw [HT.d_, HT.fP, Int.toNat_natCast]
  by_cases hk : k≤w.length
  · rw [Nat.min_eq_left hk, List.take_of_length_le (by rw [List.length_drop];omega)]
  · rw [Nat.min_eq_right (by omega), List.drop_length, List.drop_eq_nil_of_le (by omega)]
    simp
theorem iT (w : List L) : Txt.upper (toS w)=⟨((w.map cp).map up1).toArray⟩ := by
  rw [upper_ascii fun c hc => by rw [bj] at hc;obtain ⟨x, _, rfl⟩ := List.mem_map.mp hc;exact jV x]
  simp [toS]
theorem iU (w : List L) : Txt.lower (toS w)=⟨((w.map cp).map lo1).toArray⟩ := by
  rw [lower_ascii fun c hc => by rw [bj] at hc;obtain ⟨x, _, rfl⟩ := List.mem_map.mp hc;exact jV x]
  simp [toS]
theorem oH : ∀ x : L, x.val < 6 → up1 (cp x)=cp (inv x) := by decide
theorem oI : ∀ x : L, ¬ x.val < 6 → lo1 (cp x)=cp (inv x) := by decide
theorem e6 {x : L}(h : x.val < 6) : Txt.upper (toS [x])=toS [inv x] := by
  rw [iT]
  show (⟨#[up1 (cp x)]⟩ : Str)=⟨#[cp (inv x)]⟩
  rw [oH x h]
theorem e7 {x : L}(h : ¬ x.val < 6) : Txt.lower (toS [x])=toS [inv x] := by
  rw [iU]
  show (⟨#[lo1 (cp x)]⟩ : Str)=⟨#[cp (inv x)]⟩
  rw [oI x h]
theorem ex1 : ∀ x : L, cp x∈List.map cp [0, 1, 2, 3, 4, 5] → x.val < 6 := by decide
theorem ex2 : ∀ x : L, x.val < 6 → (List.map cp [0, 1, 2, 3, 4, 5])[x.val]? = some (cp x) := by decide
theorem jW (x : L) : (!(Builtin.Str.occurrences ("abcdef" : Str) (toS [x]) 0 ("abcdef" : Str).length 1).isEmpty)=decide (x.val < 6) := by
  have h := StrLaws.found_iff ("abcdef" : Str) (toS [x])
  have e : (∃ i, i+(toS [x]).length≤("abcdef" : Str).length ∧ Builtin.Str.subAt ("abcdef" : Str) (toS [x]) i=true) ↔ x.val < 6 := by
    have e2 : ∀ i, (i+(toS [x]).length≤("abcdef" : Str).length ∧ Builtin.Str.subAt ("abcdef" : Str) (toS [x]) i=true) ↔ ("abcdef" : Str).cps.toList[i]? = some (cp x) := fun i => StrLaws.subAt_one _ _ _
    rw [show (("abcdef" : Str))=toS [0, 1, 2, 3, 4, 5] from m8.symm] at e2 ⊢
    constructor
    · rintro ⟨i, hi⟩
      have hi := (e2 i).mp hi
      rw [bj] at hi
      exact ex1 x (List.mem_of_getElem? hi)
    · intro hx
      refine ⟨x.val, (e2 x.val).mpr ?_⟩
      rw [bj]
      exact ex2 x hx
  rw [Bool.eq_iff_iff, h, e, decide_eq_true_iff]
theorem jX : ∀ w : List L, Txt.join ("" : Str) (w.map fun x => toS [x])=toS w := by
  intro w
  have e0 : ("" : Str)=Str.empty := by decide +kernel
  unfold Txt.join
  rw [StrLaws.glued_eq_join, e0]
  induction w with
  | nil => rfl
  | cons x r ih =>
    cases r with
    | nil => rfl
    | cons y r =>
      show toS [x]++Str.empty++Str.join Str.empty ((y::r).map fun x => toS [x])=_
      rw [ih, Str.append_empty, cH]
      rfl
theorem lJ (w : List L) : ((w.map fun x => toS [x]).map (·.length)).sum=w.length := by
  induction w with
  | nil => rfl
  | cons x r ih =>
    simp only [List.map_cons, List.sum_cons, List.length_cons]
    rw [ih, ai]
    simp only [List.length_singleton]
    omega
end L2
set_option Elab.async false
set_option linter.all false
set_option maxRecDepth 100000
namespace L2
open PySem PySem.Spec PyProof.Rows Wd
structure Fnc (P : Program) (w : World) (K : PySem.W.Frag) (mg : Str → Option Value) (base : Heap) (x : Str) (ps : List Str) (k : Nat) (sp : Sp) : Prop where
  ex : ∃ (f : Addr) (fd : FuncData), mg x=some (.ref f) ∧ PySem.W.keepIn K (.ref f)=true ∧ g0 K fd ps [] ∧ jD P w K mg base CX0 k f fd ps sp
theorem aC {X : Cx}{x : Str}{ps : List Str}{k j : Nat}{sp : Sp}{e : Expr}{es : List Expr}{t : TA}{p pos : Pos}(F : Fnc X.prog X.w X.K X.mg X.base x ps j sp)(hr : dU k X.A)(hj : j≤k)(hg : Gl X x)(ha : PA X (e::es) t)
    (hdb : (x == ("__debug__" : Str))=false := by decide) (he : starEach (e::es) X.env=(false, eval e X.env)::starEach es X.env := by rfl) (hpl : (backTo pos (starEach es X.env)).any (·.1)=false := by rfl) :
    PE X (.Call (.Name x p) (e::es) [] pos) (mL sp [] E0 t) := by
  obtain ⟨f, fd, hm, hk, hb, F⟩ := F.ex
  exact kZ F (hr.mono hj) hg hm hk hb .nil oA ha hdb he hpl
structure Df (K : PySem.W.Frag) (mg : Str → Option Value) (x : Str) (st : Stmt) : Prop where
  ex : ∃ (f : Addr) (fd : FuncData), mg x=some (.ref f) ∧ Fun K x x st f fd
theorem Df.ok {P : Program}{w : World}{K : PySem.W.Frag}{mg : Str → Option Value}{base : Heap}{x : Str}{st : Stmt}{N ps : List Str}{k : Nat}{sp : Sp}(D : Df K mg x st)(S : aI N ps (aj st))
    (hb : ∀ (kV doc pm : Value) (an : Option Addr) (cdv ct : Value) (us : List Value), us.length=ps.length → bindArgs (PySem.W.fnOf x x (az st) (au st) (aj st) .none kV doc pm an cdv ct) ⟨us, []⟩=pure (ps.zip us))
    (len : ∀ vs H Q E, sp vs H Q E → vs.length=ps.length)
    (hbody : ∀ (f : Addr) (cdv : Value) (A : Around) (outer : List Env) (s : Shared) (H : Hp) (vs : List V) (Q : VK) (E : XK), dU k (A.deeper (envOfC x (aj st) s.heap.objs.size f cdv)) → sp vs H Q E →
      ∃ t, PSs (k_ CX0 P w K mg base N x (aj st) f cdv A outer s H E).nox (au st) t ∧ t { nx := fun _ H' => Q .non H', rt := Q } (start N vs) H) : Fnc P w K mg base x ps (k+1) sp := by
  obtain ⟨f, fd, hm, F⟩ := D.ex
  exact ⟨f, fd, hm, F.kp, F.binds hb, F.ok S len fun cdv A outer s H vs Q E hr h => hbody f cdv A outer s H vs Q E hr h⟩
def aQ (d : Addr)(H H' : Hp) : Prop := ∀ b o, b≠d → H b=some o → H' b=some o
theorem aQ.refl (d : Addr)(H : Hp) : aQ d H H := fun _ _ _ h => h
theorem aQ.trans {d : Addr}{H H1 H2 : Hp}(a : aQ d H H1)(b : aQ d H1 H2) : aQ d H H2 := fun c o n h => b c o n (a c o n h)
theorem aA.b {d : Addr}{H H' : Hp}(a : aA H H') : aQ d H H' := fun b o _ h => a b o h
theorem aA.new {H : Hp}{a : Addr}{o : HO}(h : H a=none) : aA H (upd H a o) := fun b u e => by rw [ak (ab e h)]; exact e
theorem aQ.upd {d : Addr}{H : Hp}{o : HO} : aQ d H (upd H d o) := fun b u n e => by rw [ak n]; exact e
theorem aA.then {H H1 : Hp}{a : Addr}{o : HO}(s : aA H H1)(h : H1 a=none) : aA H (L2.upd H1 a o) := s.trans (aA.new h)
def kS (x : Str) : Key := .inr x
def fkv (c : Addr)(i l t : Int) : List (Key × V) := [(kS "cells", .ref c), (kS "at", .int i), (kS "left", .int l), (kS "turn", .int t)]
theorem oJ : ¬ (kS "cells" = kS "at") := by decide +kernel
theorem oK : ¬ (kS "cells" = kS "left") := by decide +kernel
theorem oM : ¬ (kS "cells" = kS "turn") := by decide +kernel
theorem nW : ¬ (kS "at" = kS "left") := by decide +kernel
theorem nX : ¬ (kS "at" = kS "turn") := by decide +kernel
theorem nY : ¬ (kS "left" = kS "turn") := by decide +kernel
theorem cV {κ : Type}[DecidableEq κ]{k : κ}{v : V}{r : List (κ × V)} : bH ((k, v)::r) k=some v := by unfold bH; simp
theorem bC {κ : Type}[DecidableEq κ]{k k' : κ}{v : V}{r : List (κ × V)}(h : ¬ k'=k) : bH ((k', v)::r) k=bH r k := by unfold bH; simp [h]
theorem iV (c : Addr)(i l t : Int) : bH (fkv c i l t) (kS "cells")=some (.ref c) := cV
theorem pw (c : Addr)(i l t : Int) : bH (fkv c i l t) (kS "at")=some (.int i) := (bC oJ).trans cV
theorem e8 (c : Addr)(i l t : Int) : bH (fkv c i l t) (kS "left")=some (.int l) := (bC oK).trans ((bC nW).trans cV)
theorem iW (c : Addr)(i l t : Int) : bH (fkv c i l t) (kS "turn")=some (.int t) := (bC oM).trans ((bC nX).trans ((bC nY).trans cV))
theorem pX : ¬ (kS "turn" = kS "at") := fun e => nX e.symm
theorem pY : ¬ (kS "left" = kS "at") := fun e => nW e.symm
theorem pZ : ¬ (kS "turn" = kS "left") := fun e => nY e.symm
theorem p0 (c : Addr)(i l t z : Int) : bI (fkv c i l t) (kS "at") (.int z)=fkv c z l t := by simp [bI, fkv, oJ, pY, pX]
theorem iX (c : Addr)(i l t z : Int) : bI (fkv c i l t) (kS "left") (.int z)=fkv c i z t := by simp [bI, fkv, oK, nW, pZ]
theorem m9 (c : Addr)(i l t z : Int) : bI (fkv c i l t) (kS "turn") (.int z)=fkv c i l z := by simp [bI, fkv, oM, nX, nY]
theorem dn (c : Addr)(i l t : Int) : (fkv c i l t).length < sizeLine := by show 4 < sizeLine; decide
theorem oN (c : Addr)(i l t : Int) : cv [] (fkv c i l t)=fkv c i l t := by simp [cv, bI, fkv, oJ, oK, oM, nW, nX, nY]
structure Fd (H : Hp) (d : Addr) : Prop where
  ex : ∃ (c : Addr) (i l t : Int) (ns : List Int), H d=some (.dK (fkv c i l t)) ∧ H c=some (.lst (ns.map V.int)) ∧ ns≠[] ∧ ns.length≤64
theorem Fd.same {H H' : Hp}{d : Addr}(F : Fd H d)(s : aA H H') : Fd H' d := by
  obtain ⟨c, i, l, t, ns, h1, h2, h3, h4⟩ := F.ex
  exact ⟨c, i, l, t, ns, s _ _ h1, s _ _ h2, h3, h4⟩
theorem Fd.new {H : Hp}{d a : Addr}{o : HO}(F : Fd H d)(h : H a=none) : Fd (upd H a o) d := F.same (aA.new h)
theorem Fd.ne {H : Hp}{d a : Addr}(F : Fd H d)(h : H a=none) : a≠d := by
  obtain ⟨c, i, l, t, ns, h1, h2, h3, h4⟩ := F.ex
  exact (ab h1 h).symm
inductive d4 (vs : List V)(H : Hp)(Q : VK)(u3_ : XK) : Prop
  | mk : ∀ (d : Addr) (m : Int), (vs=[.ref d, .int m]) → (Fd H d) → (0 < m) → (m < 1000000) → (∀ (r : Int) (H' : Hp), 0≤r → r < m → Fd H' d → aQ d H H' → Q (.int r) H') → d4 vs H Q u3_
inductive iY (K : PySem.W.Frag)(vs : List V)(H : Hp)(Q : VK)(u3_ : XK) : Prop
  | mk : ∀ (a : Addr) (ns : List Int), (vs=[.ref a]) → (SqL K H a (ns.map V.int)) → (ns.length≤63) → (∀ (d : Addr) (H' : Hp), H d=none → Fd H' d → aA H H' → Q (.ref d) H') → iY K vs H Q u3_
theorem lK {ns : List Int}(h : ns≠[])(i : Int) : ∃ n : Int, atI (ns.map V.int) (i % ((ns.map V.int).length : Int))=some (.int n) := by
  have hl : 0 < ns.length := List.length_pos_iff.mpr h
  rw [List.length_map]
  have h0 := Int.emod_nonneg i (show (ns.length : Int)≠0 by omega)
  have h1 := Int.emod_lt_of_pos i (show (0 : Int) < ns.length by omega)
  obtain ⟨k, hk⟩ := Int.eq_ofNat_of_zero_le h0
  rw [hk] at h1 ⊢
  have hk' : k < ns.length := by omega
  refine ⟨ns[k], ?_⟩
  unfold atI ixN
  rw [if_pos (by omega), if_pos (by rw [List.length_map];omega)]
  show (ns.map V.int)[((k : Nat) : Int).toNat]? = _
  rw [Int.toNat_natCast, List.getElem?_map, List.getElem?_eq_getElem hk']
  rfl
end L2
set_option Elab.async false
set_option linter.all false
set_option maxRecDepth 100000
namespace L2
open PySem PySem.Spec PyProof.Rows Wd
mutual
inductive Dt (H : Hp) : V → PyData → Prop where
  | non : Dt H .non .none
  | bl (b : Bool) : Dt H (.bl b) (.bool b)
  | int (i : Int) : Dt H (.int i) (.int i)
  | str (x : Str) : Dt H (.str x) (.str x)
  | lst {a : Addr} {xs : List V} {ds : List PyData} : H a=some (.lst xs) → Dts H xs ds → Dt H (.ref a) (.list ds)
  | tup {a : Addr} {xs : List V} {ds : List PyData} : H a=some (.tup xs) → Dts H xs ds → Dt H (.ref a) (.tuple ds)
inductive Dts (H : Hp) : List V → List PyData → Prop where
  | nil : Dts H [] []
  | cons {v : V} {d : PyData} {vs : List V} {ds : List PyData} : Dt H v d → Dts H vs ds → Dts H (v::vs) (d::ds)
end
section
variable {P : Program} {w : World} {H : Hp} {h : Heap}
mutual
theorem Dt.reads (ok : HOk P w H h) : ∀ {v : V} {d : PyData}, Dt H v d → ∀ {u : Value}, aR v u → ∃ as, Reads h u d as
  | _, _, .non, u, r => by cases r;exact ⟨_, .none⟩
  | _, _, .bl b, u, r => by cases r;exact ⟨_, .bool b⟩
  | _, _, .int i, u, r => by obtain ⟨t, rfl⟩ := r;exact ⟨_, .int i t⟩
  | _, _, .str x, u, r => by obtain ⟨t, rfl⟩ := r;exact ⟨_, .str x t⟩
  | _, _, .lst e q, u, r => by
    cases r
    obtain ⟨_, its, n, rv, g⟩ := ok _ _ e
    obtain ⟨as, ra⟩ := Dts.reads ok q rv
    exact ⟨_, .list g rfl rfl (by simpa using ra)⟩
  | _, _, .tup e q, u, r => by
    cases r
    obtain ⟨_, its, rv, ⟨ob, g, c, n, d⟩, _⟩ := ok _ _ e
    obtain ⟨as, ra⟩ := Dts.reads ok q rv
    exact ⟨_, .tuple g c d (by simpa using ra)⟩
theorem Dts.reads (ok : HOk P w H h) : ∀ {vs : List V} {ds : List PyData}, Dts H vs ds → ∀ {us : List Value}, aL vs us → ∃ as, ReadsAll h us ds as
  | _, _, .nil, _, r => by cases r;exact ⟨_, .nil⟩
  | _, _, .cons q qs, _, r => by
    cases r with
    | cons r rs =>
      obtain ⟨as, a1⟩ := Dt.reads ok q r
      obtain ⟨bs, a2⟩ := Dts.reads ok qs rs
      exact ⟨_, .cons a1 a2⟩
end
end
theorem Dts.ints {H : Hp} : ∀ (ns : List Int), Dts H (ns.map V.int) (ns.map PyData.int)
  | [] => .nil
  | y::ys => .cons (.int y) (Dts.ints ys)
structure Sh (d : PyData) : Prop where
  sh : d.showable=true
  nd : d.hasDict=false
  dp : d.depth≤10
  sz : d.shown.length≤sizeLine
section
variable {X : Cx}
inductive bU  (xs : List V)(H : Hp)(Q : VK) : Prop
  | mk : ∀ a d, (xs=[.ref a]) → (Dt H (.ref a) d) → (Sh d) → (Q (.str d.shown) H) → bU xs H Q
theorem ba (hg : X.A.guards=some [])(hu : X.A.units+64 < cLine) : cC X (.builtin "repr") bU := by
  intro pins s σ H xs us Q I r h
  obtain ⟨a, d, rfl, q, S, hQ⟩ := h
  obtain ⟨u, rfl, ru⟩ := cD r
  cases ru
  obtain ⟨as, rd⟩ := q.reads I.hok (u := .ref a) rfl
  refine repr_of_reads' rd S.sh (PyData.noDict_hsm S.nd) hg (by have := S.dp;omega) (fun _ _ e => e) (fun h' u tk hk => ?_) S.sz
  exact ⟨.str _, H, I.kept hk, ⟨_, rfl⟩, hQ⟩
end
end L2
set_option Elab.async false
set_option linter.all false
set_option maxRecDepth 100000
set_option maxHeartbeats 0
namespace Kx
open PySem PySem.Spec PyProof.Rows L2 Wd
theorem e9 : bootBuiltins "list" = some (.type "list") := by kernel_rfl
theorem oO : bootBuiltins "int" = some (.type "int") := by kernel_rfl
theorem oP : bootBuiltins "max" = some (.builtin "max") := by kernel_rfl
theorem gD : bootBuiltins "repr" = some (.builtin "repr") := by kernel_rfl
theorem hG : bootBuiltins "reversed" = some (.type "reversed") := by kernel_rfl
structure Bt (K : PySem.W.Frag) (w : World) (mg : Str → Option Value) (aB : Addr) : Prop where
  len : mg "len" = none
  repr : mg "repr" = none
  abs : mg "abs" = none
  max : mg "max" = none
  int : mg "int" = none
  list : mg "list" = none
  range : mg "range" = none
  reversed : mg "reversed" = none
  min : mg "min" = none
  sorted : mg "sorted" = none
  tuple : mg "tuple" = none
  isinstance : mg "isinstance" = none
  all : mg "all" = none
  str : mg "str" = none
  zip : mg "zip" = none
  mgB : mg "BACKS" = some (.ref aB)
  dB : DTx K w aB
  gB : ∀ x : L, ∃ t, PySem.W.nsIn K aB (toS [x])=some (some (.str (toS [inv x]) t))
theorem dg {H : Hp}{d : Addr}{kvs : List (Key × V)}{k : Str}{v : V}(h : H d=some (.dK kvs))(e : bH kvs (kS k)=some v) : cM H d (.str k) (some v) := by
  have q := cM.k (k := kS k) h
  rw [e] at q
  exact q
theorem dp {H : Hp}{d : Addr}{kvs kvs' : List (Key × V)}{k : Str}{v : V}(h : H d=some (.dK kvs))(hl : kvs.length < sizeLine)(e : bI kvs (kS k) v=kvs') : jE H d (.str k) v (upd H d (.dK kvs')) := by
  have q := jE.k (k := kS k) (v := v) h hl
  rw [e] at q
  exact q
theorem oQ {ns : List Int}(h : ns.length≤63) : mm (ns.map V.int) none (some 63)=ns.map V.int := by
  unfold mm
  have e : HT.sIx (ns.map V.int).length (ns.map V.int).length (some 63)=(ns.map V.int).length := by
    have := HT.fP (ns.map V.int).length (ns.map V.int).length 63
    rw [show ((63 : Nat) : Int)=63 from rfl] at this
    rw [this, List.length_map]
    omega
  rw [e, HT.d_, List.drop_zero, Nat.sub_zero, List.take_length]
def gE (w : List L) : List V := w.map fun x => tx [x]
theorem eC (w : List L) : gE w=(w.map fun x => toS [x]).map V.str := by unfold gE; rw [List.map_map]; rfl
theorem dq (w : List L)(x : L) : gE w++[tx [x]]=gE (w++[x]) := by unfold gE; rw [List.map_append]; rfl
theorem ck (w : List L) : (gE w).length=w.length := by unfold gE; rw [List.length_map]
theorem dr (w : List L) : V.str (Txt.join ("" : Str) (w.map fun x => toS [x]))=tx w := congrArg V.str (jX w)
theorem du (w : List L)(h : w.length≤1000000) : ((w.map fun x => toS [x]).map (·.length)).sum+(w.map fun x => toS [x]).length*("" : Str).length≤16777216 := by
  have e : ("" : Str).length=0 := by decide +kernel
  rw [e, lJ]
  omega
theorem bo : sizeLine=16777216 := sizeLine_eq
inductive mn (vs : List V)(H : Hp)(Q : VK)(u3_ : XK) : Prop
  | mk : ∀ w, (vs=[tx w]) → (w.length≤5000) → (∀ H', aA H H' → Q (tx (bk w)) H') → mn vs H Q u3_
theorem cK (u v : List L) : V.str (toS u++toS v)=tx (u++v) := congrArg V.str (cH u v)
def sg (m : Int) : List L := ([0, 1, 2, 3, 4, 5] : List L).take m.toNat++([6, 7, 8, 9, 10, 11] : List L).take m.toNat
theorem e_ {m : Int}(h1 : 1≤m)(h2 : m≤6) : (sg m).length=2*m.toNat := by
  unfold sg
  rw [List.length_append, List.length_take, List.length_take]
  simp only [List.length_cons, List.length_nil]
  omega
inductive iZ (vs : List V)(H : Hp)(Q : VK)(u3_ : XK) : Prop
  | mk : ∀ (d : Addr) (m n : Int), (vs=[.ref d, .int m, .int n]) → (Fd H d) → (1≤m) → (m≤6) → (0≤n) → (n≤60) → (∀ (u : List L) (H' : Hp), u.length≤n.toNat → Fd H' d → aQ d H H' → Q (tx u) H') → iZ vs H Q u3_
theorem eD {m : Int}(h1 : 1≤m) : V.str (Txt.slice ("abcdef" : Str) none (some m)++Txt.slice ("ABCDEF" : Str) none (some m))=tx (sg m) := by
  rw [← m8, ← big, aT, aT, d3 _ (by omega), d3 _ (by omega), cK]
  rfl
theorem kH : ("abcdef" : Str).length=6 := by decide +kernel
theorem kI : ("ABCDEF" : Str).length=6 := by decide +kernel
theorem m_ (u : List L){i : Nat}{y : L}(hi : i < u.length)(h : u[u.length - 1 - i]? = some y) : (bk u)[i]? = some (inv y) := by
  unfold bk
  rw [List.getElem?_reverse (by rw [List.length_map];exact hi), List.length_map, List.getElem?_map, h]
  rfl
theorem fc {u : List L}{i : Nat}{x : L}(h : u[i]? = some x) : u.take (i+1)=u.take i++[x] := by
  obtain ⟨hl, e⟩ := List.getElem?_eq_some_iff.mp h
  rw [List.take_add_one, h]
  rfl
theorem nZ {c : Bool}{A B : Prop}(hc : c=true)(h : A) : if c=true then A else B := by rw [if_pos hc]; exact h
theorem ng {c : Bool}{A B : Prop}(hc : c=false)(h : B) : if c=true then A else B := by rw [hc]; exact nV h
theorem sm6 : ∀ j : Fin 6, ([0, 1, 2, 3, 4, 5] : List L)[j.val]? = some ⟨j.val, Nat.lt_trans j.isLt (by decide)⟩ := by decide
def dws (ws : List (List L)) : List PyData := ws.map fun w => .str (toS w)
theorem gb {H : Hp} : ∀ (ws : List (List L)), Dts H (ws.map tx) (dws ws)
  | [] => .nil
  | w::r => .cons (.str (toS w)) (gb r)
theorem gF : ∀ (ws : List (List L)), PyData.showableAll (dws ws)=true ∧ PyData.hasDictAll (dws ws)=false ∧ PyData.depthAll (dws ws)=0 ∧ PyData.leavesShortAll 13 (dws ws)=true
  | [] => ⟨rfl, rfl, rfl, rfl⟩
  | w::r => by
    obtain ⟨h1, h2, h3, h4⟩ := gF r
    refine ⟨?_, ?_, ?_, ?_⟩
    · show (PyData.showable (.str (toS w)) && PyData.showableAll (dws r))=true
      rw [h1];rfl
    · show (PyData.hasDict (.str (toS w)) || PyData.hasDictAll (dws r))=false
      rw [h2];rfl
    · show max (PyData.depth (.str (toS w))) (PyData.depthAll (dws r))=0
      rw [h3];rfl
    · show (PyData.leavesShort 13 (.str (toS w)) && PyData.leavesShortAll 13 (dws r))=true
      rw [h4, Bool.and_true]
      show ((toS w).cps.toList.all fun c => decide (c < 16 ^ 8))=true
      rw [List.all_eq_true]
      intro c hc
      rw [bj] at hc
      obtain ⟨x, _, rfl⟩ := List.mem_map.mp hc
      exact decide_eq_true (Nat.lt_of_lt_of_le (jV x) (by decide))
end Kx
set_option linter.all false
namespace Wd
end Wd
set_option linter.all false
namespace Wd
def J (u v : List L) : Prop := ∀ x y, u.getLast? = some x → v.head? = some y → y≠inv x
end Wd
set_option Elab.async false
set_option linter.all false
set_option maxRecDepth 100000
namespace L2
open PySem PySem.Spec PyProof.Rows Wd
end L2
set_option linter.all false
namespace Wd
end Wd
namespace L2
open PySem PySem.Spec PyProof.Rows Wd
end L2
set_option Elab.async false
set_option linter.all false
set_option maxRecDepth 100000
namespace L2
open PySem PySem.Spec PyProof.Rows Wd
section
variable {X : Cx} {tg : Expr}
end
section
variable {X : Cx} {o e : Expr} {es : List Expr} {to : TE} {t : TA} {name : Str} {apos cpos : Pos} {T id : String} {r : V → List V → Hp → VK → Prop} {K : PySem.W.Frag}
theorem kJ (hK : X.K=K)(pa : PlainAttrs T)(slot : Slot T name id)(hty : typeOf (.builtin id)=pure (.type "method_descriptor"))(hm : MtR X id r)(ho : PE X o to)(ha : PA X (e::es) t)
    (hbase : attributeBase o name X.env (eval o X.env)=eval o X.env := by rfl)
    (hfew : ((backTo cpos (starEach (e::es) X.env)).all (fun x => !x.1) && (backToKw cpos (keywordEach [] X.env)).all (fun x => x.1.isSome)
      && decide ((e::es).length+([] : List Keyword).length+(if ([] : List Keyword).isEmpty then 0 else 1) < 30))=true := by rfl)
    (hline : (apos.endLine == cpos.line)=true := by rfl) (hs : starEach (e::es) X.env=(false, eval e X.env)::starEach es X.env := by rfl) (hplain : (backTo cpos (starEach es X.env)).any (·.1)=false := by rfl) :
    PE X (.Call (.Attribute o name apos) (e::es) [] cpos) (tBM K T r to t) := by
  subst hK
  exact cL pa slot hty hm ho ha hbase hfew hline hs hplain
end
end L2
set_option Elab.async false
set_option linter.all false
set_option maxRecDepth 100000
namespace L2
open PySem PySem.Spec PyProof.Rows Wd
theorem gG : ∀ {bs : List Bool} {us : List Value} {i : Nat} {v : Value}, aL (bs.map V.bl) us → us[i]? = some v → ∃ b, bs[i]? = some b ∧ v = .bool b
  | [], us, i, v, r, h => by
    rw [List.map_nil] at r
    cases r
    simp at h
  | b::bs, us, i, v, r, h => by
    rw [List.map_cons] at r
    cases r with
    | cons r1 r2 =>
      cases i with
      | zero =>
        simp at h
        subst h
        exact ⟨b, rfl, r1⟩
      | succ i =>
        obtain ⟨b', e1, e2⟩ := gG (i := i) r2 (by simpa using h)
        exact ⟨b', by simpa using e1, e2⟩
section
variable {X : Cx}
inductive kK (x : V)(y : V)(H : Hp)(Q : VK) : Prop
  | mk : ∀ a b xs, (x = .ref a) → (y = .ref b) → (H a=some (.lst xs)) → (H b=some (.lst [])) → (Q (.bl xs.isEmpty) H) → kK x y H Q
theorem i0 (hu : X.A.units+64 < cLine) : OpR X (compareOp .Eq) kK := by
  intro pins s σ H x y v u Q I rx ry h
  obtain ⟨a, b, xs, rfl, rfl, ha, hb, q⟩ := h
  cases rx
  cases ry
  obtain ⟨its, n, rv, ea, _⟩ := I.lst ha
  obtain ⟨its2, n2, rv2, eb, _⟩ := I.lst hb
  cases rv2
  have hla : s.heap.IsList a its.toArray := ⟨_, ea, rfl, _, rfl⟩
  have hlb : s.heap.IsList b ([] : List Value).toArray := ⟨_, eb, rfl, _, rfl⟩
  cases xs with
  | nil =>
    cases rv
    refine EqBoolInt.of_rc (SeqAt.RcAt.lists (e := fun _ => true) hla hlb rfl (by omega) (fun j hj => by simp at hj)) ?_
    exact ⟨.bl true, H, I, rfl, q⟩
  | cons z r =>
    cases rv with
    | cons r1 r2 =>
      refine EqBoolInt.of_rc (SeqAt.RcAt.lists_lengths hla hlb (by simp) (by omega)) ?_
      exact ⟨.bl false, H, I, rfl, q⟩
def gc (z : Str) : List V := z.cps.toList.map fun c => .str ⟨#[c]⟩
theorem hJ {z : Str}{acc : Array Value}(h : ItemsOf (SignAt z) acc z.cps.size) : aL (gc z) acc.toList := by
  have all : ∀ (cs : List Nat) (us : List Value), cs.length=us.length → (∀ (j : Nat) (v : Value), us[j]? = some v → ∃ c u, cs[j]? = some c ∧ v = .str ⟨#[c]⟩ u) → aL (cs.map fun c => V.str ⟨#[c]⟩) us := by
    intro cs
    induction cs with
    | nil =>
      intro us hl _
      cases us with
      | nil => exact .nil
      | cons _ _ => simp at hl
    | cons c cs ih =>
      intro us hl hh
      cases us with
      | nil => simp at hl
      | cons u us =>
        obtain ⟨c', t, e1, e2⟩ := hh 0 u rfl
        have : c=c' := Option.some.inj e1
        subst this
        exact .cons ⟨t, e2⟩ (ih us (by simpa using hl) fun j v hj => hh (j+1) v (by simpa using hj))
  refine all _ _ (by rw [Array.length_toList, Array.length_toList];exact h.1.symm) fun j v hj => ?_
  obtain ⟨c, u, e1, e2⟩ := h.2 j v (by simpa using hj)
  exact ⟨c, u, by simpa using e1, e2⟩
inductive bD  (xs : List V)(H : Hp)(Q : VK) : Prop
  | mk : ∀ z, (xs=[.str z]) → (z.length≤sizeLine) → (∀ p, H p=none → Q (.ref p) (upd H p (.lst (gc z)))) → bD xs H Q
theorem bV (hc : X.calm=true) : cC X (.type "list") bD := by
  intro pins s σ H xs us Q I r h
  obtain ⟨z, rfl, hz, q⟩ := h
  obtain ⟨u, rfl, t, rfl⟩ := cD r
  refine call_list_str (I.ok.hd hc) z t (fun h' tk acc' c' kp e hI => ?_) hz
  have hl : (gc z).length≤sizeLine := by unfold gc;rw [List.length_map, Array.length_toList];exact hz
  exact ⟨.ref s.heap.objs.size, _, I.laid kp (Nat.le_refl _) (show bp X.prog X.w _ h' _ (.lst (gc z)) from ⟨hl, acc'.toList, c', hJ hI, by simpa using e⟩), rfl, q _ (I.hok.fresh (Nat.le_refl _))⟩
end
end L2
set_option Elab.async false
set_option linter.all false
set_option maxRecDepth 100000
namespace PySem
open Sem (wp)
section
variable {prog : Program} {w : World} {A : Around} {E : Value → Shared → Prop} {s : Shared} {z TI TO i1 i2 : Addr} {x y : Str} {t u : Tok} {k c d : Nat} {a b : Value}
end
end PySem
set_option Elab.async false
set_option linter.all false
set_option maxRecDepth 100000
namespace PySem
end PySem
namespace L2
open PySem PySem.Spec PyProof.Rows
section
variable {X : Cx}
end
end L2
set_option Elab.async false
set_option linter.all false
set_option maxRecDepth 100000
set_option maxHeartbeats 0
namespace L2
open PySem PySem.Spec PyProof.Rows Wd
def oR : List Str := ([0, 1, 2, 3, 4, 5, 6, 7, 8, 9, 10, 11] : List L).map fun x => toS [x]
end L2
namespace Kx
open PySem PySem.Spec PyProof.Rows L2 Wd
end Kx
set_option Elab.async false
set_option linter.all false
set_option maxRecDepth 100000
set_option maxHeartbeats 0
namespace L2
open PySem PySem.Spec PyProof.Rows Wd
section
variable {X : Cx}
inductive kL (x : V)(y : V)(H : Hp)(Q : VK) : Prop
  | mk : ∀ a b xs, (x = .ref a) → (y = .ref b) → (H a=some (.lst xs)) → (H b=some (.lst [])) → (Q (.bl (!xs.isEmpty)) H) → kL x y H Q
theorem i3 (hu : X.A.units+64 < cLine) : OpR X (compareOp .NotEq) kL := by
  intro pins s σ H x y v u Q I rx ry h
  obtain ⟨a, b, xs, rfl, rfl, ha, hb, q⟩ := h
  cases rx
  cases ry
  obtain ⟨its, n, rv, ea, _⟩ := I.lst ha
  obtain ⟨its2, n2, rv2, eb, _⟩ := I.lst hb
  cases rv2
  have hla : s.heap.IsList a its.toArray := ⟨_, ea, rfl, _, rfl⟩
  have hlb : s.heap.IsList b ([] : List Value).toArray := ⟨_, eb, rfl, _, rfl⟩
  cases xs with
  | nil =>
    cases rv
    refine EqBoolInt.of_rcne (SeqAt.RcNeAt.lists (e := fun _ => true) hla hlb rfl (by omega) (fun j hj => by simp at hj)) ?_
    exact ⟨.bl false, H, I, rfl, q⟩
  | cons z r =>
    cases rv with
    | cons r1 r2 =>
      refine EqBoolInt.of_rcne (SeqAt.RcNeAt.lists_lengths hla hlb (by simp) (by omega)) ?_
      exact ⟨.bl true, H, I, rfl, q⟩
end
end L2
namespace Kx
open PySem PySem.Spec PyProof.Rows L2 Wd
theorem s12 : toS [0, 1, 2, 3, 4, 5, 6, 7, 8, 9, 10, 11]=("abcdefABCDEF" : Str) := by decide +kernel
end Kx
namespace L2
open PySem PySem.Spec PyProof.Rows Wd
theorem dv {K : PySem.W.Frag}{a : Addr}{xs : List V}{own : List Str}{cap : List Nat}{g : TG}{ti : TT}{te : TE}{σ : St}{H : Hp}{Q : VK}(Pv : Nat → List V → St → Hp → Prop)(h0 : Pv 0 [] (stB own cap σ) H)(hz : ∀ i ys σ H, i≤xs.length → Pv i ys σ H → ys.length≤i)(hn : xs.length≤sizeLine)
    (hl : ∀ i ys σ H, Pv i ys σ H → SqL K H a xs)
    (hs : ∀ i ys σ H x (N : List V → St → Hp → Prop), xs[i]? = some x → Pv i ys σ H → (∀ ys' σ' H'', Pv (i+1) ys' σ' H'' → N ys' σ' H'') → g x σ H fun σ2 H2 => ti σ2 H2 fun b H3 => if b=true then te σ2 H3 fun y H4 => N (ys++[y]) σ2 H4 else N ys σ2 H3)
    (hd : ∀ ys σ H D, Pv xs.length ys σ H → H D=none → Q (.ref D) (upd H D (.lst ys))) :
    lD own cap g ti te Q σ (Itl K a) H := by
  refine cG (J := Itl K a) xs.length Pv h0 hz hn (fun i ys σ H hi p => ⟨xs, xs[i], hl i ys σ H p, List.getElem?_eq_getElem hi⟩) (fun ys σ H p => ⟨xs, hl _ ys σ H p, Nat.le_refl _⟩) ?_ hd
  rintro i ys σ H x H' N hi p ⟨rfl, hx⟩ hN
  exact hs i ys σ _ x N (hx xs (hl i ys σ _ p)) p hN
theorem nh {X : Cx}{a : Expr}{ta : TE}(ha : PE X a ta)(he : ∀ whole, isTrue a X.env whole=(do let v ← whole; standAt a.pos; holding [v] (truthy v))) : PT X a (mK ta) := by
  intro pins s σ H Q I h
  refine isTrue_plain (thn (ha pins s σ H _ I h) fun v s1 ⟨x, H1, I1, r1, q1⟩ => ku pins s1 σ H1 x v Q I1 r1 ?_) (he _)
  obtain ⟨k, e, q⟩ := q1
  subst e
  exact ⟨k, rfl, q⟩
theorem gH {c : TT}{tb : TS}{D : fE}{σ : St}{H : Hp}(W : Nat → St → Hp → Prop)(E : St → Hp → Prop)(h0 : ∃ m, W m σ H)
    (turn : ∀ nx : St → Hp → Prop, (∀ σ H, E σ H → nx σ H) → ∀ m σ H, W m σ H → c σ H fun b H1 => if b=true then ∃ N : St → Hp → Prop, (∀ σ' H', N σ' H' → ∃ m', m' < m ∧ W m' σ' H') ∧ tb { D with nx := N, ct := N, bk := nx } σ H1 else nx σ H1)
    (he : ∀ σ H, E σ H → D.nx σ H) : kq c tb D σ H := ⟨W, h0, turn D.nx he⟩
end L2
set_option Elab.async false
set_option linter.all false
set_option maxRecDepth 100000
namespace L2
open PySem PySem.Spec PyProof.Rows
theorem lL {X : Cx}{i : Nat}{y : Str}{py spos : Pos}{elt iter tg : Expr}{ifs : List Expr}{scope : Scope}{pos : Pos}{NB own : List Str}{cap : List Nat}{wi : TI}{g : TG}{ti : TT}{te : TE}(hN : X.N.Nodup)(hi0 : X.N[i]? = some y)(hx : Loc X.env.scope y)(B : Blk X scope NB own cap)(hc : X.calm=true)(hi : PI X tg iter wi)
    (hg : ∀ C fp s₀ H₀, PG (cxB X NB own scope C fp s₀ H₀) tg g) (ht : ∀ C fp s₀ H₀, PIf (cxB X NB own scope C fp s₀ H₀) ifs ti) (he : ∀ C fp s₀ H₀, PE (cxB X NB own scope C fp s₀ H₀) elt te)
    (hs : ∀ x, foldedSetIterable iter X.env x=pure x := by intro _;rfl) (hsw : swapsWith (.ListComp elt [⟨tg, iter, ifs, 0⟩] scope pos) (some (.Name y py)) spos.line X.env=pure true := by rfl) (hf : X.fn y=true ∨ X.env.scope.names.lookup y=some .local := by first | exact .inl rfl | exact .inr rfl | assumption) : PS X (.Assign [.Name y py] (.ListComp elt [⟨tg, iter, ifs, 0⟩] scope pos) spos) (o6 (lE own cap wi g ti te) (kT i)) := by
  intro pins s σ H DD I0 h
  rw [exec_Assign_Name_used _ _ _ _ hsw]
  refine wpAny_bind (wpAny_standAt (wpAny_bind ?_))
  show wpAny _ X.A (do let _ ← comprehension (.ListComp elt [⟨tg, iter, ifs, 0⟩] scope pos) scope X.env _ (newList []) false (eval iter X.env) (some (assign (.Name y py) X.env))) _ _ s
  have hclos := bK (env := X.env) (scope := scope) fun y hy e => I0.ok.has y.1 (.inl (B.free y hy e))
  refine wpAny_bind (wpAny_mono (wpAny_comprehension_free (use := some (assign (.Name y py) X.env)) (Q := fun _ s' => SP X pins DD .next s') rfl hs hclos B.kind B.names (thn (hi pins s σ H _ I0 h) fun v s1 h1 => thn h1 fun itv s2 h2 => ?_)) (fun _ s' hq => wpAny_pure (wpAny_pure hq)) fun _ _ e => e)
  obtain ⟨it, fp, tn, J, H2, rfl, I, T, st2, f2, W, ⟨m0, w0⟩, turn⟩ := h2
  refine wpAny_newList ?_
  refine wpAny_newFunctionEnv B.nocell (by intro y hy;simp at hy) (fun h₁ hns₁ hsb₁ => ?_) B.kind
  dsimp only at hns₁ hsb₁ ⊢
  generalize hP : s2.heap.push { cls := .type "list", dict := none, data := .seq ([] : List Value).toArray }=P at hns₁ hsb₁ ⊢
  have hC : P.objs.size=s2.heap.objs.size+1 := by rw [← hP, Heap.size_push]
  have hDC : s2.heap.objs.size≠P.objs.size := by rw [hC];exact Nat.ne_of_lt (Nat.lt_succ_self _)
  have hCle : s2.heap.objs.size≤P.objs.size := by rw [hC];exact Nat.le_succ _
  have old : ∀ b o, s2.heap.get? b=some o → h₁.get? b=some o := fun b o e => by
    refine (hsb₁.2 b ?_).trans (Heap.get?_push_of_some _ (hP ▸ Heap.get?_push_of_some _ e))
    exact Nat.ne_of_lt (Nat.lt_of_lt_of_le (Heap.lt_size e) hCle)
  have hD : h₁.get? s2.heap.objs.size=some { cls := .type "list", data := .seq ([] : List Value).toArray 0 } := by
    refine (hsb₁.2 _ hDC).trans (Heap.get?_push_of_some _ ?_)
    rw [← hP]
    exact Heap.get?_push_size _ rfl
  have hfs : ∀ b∈fp, ∃ o, s2.heap.get? b=some o := fun b hb => let ⟨o, e, _⟩ := T.obj _ _ st2 b hb;⟨o, e⟩
  have st4 : tn 0 h₁ := T.keep _ _ _ st2 fun b _ o e => old b o e
  generalize htk : s2.toks+([] : List (Str × Value)).length=tk4
  have I4 := B.start (C := P.objs.size) (tk := tk4) I f2 hfs hCle old hns₁
  have fOk : ∀ {H' : Hp} {b : Addr} {ob : Obj}, b∈fp → H' b=none → fN (cxB X NB own scope P.objs.size fp s2 H2) [(s2.heap.objs.size, ob)] H' b := fun {H' b ob} hb hn => by
    obtain ⟨o, e⟩ := hfs b hb
    refine ⟨hn, (I4.ok.exf b hb).1, I4.ok.exfs b hb, .inl hb, (I4.ok.exf b hb).2, fun p hp => ?_⟩
    have ep : p=(s2.heap.objs.size, ob) := List.mem_singleton.mp (show p∈[(s2.heap.objs.size, ob)] from hp)
    rw [ep]
    exact fun z => absurd (Heap.lt_size e) (by rw [← z];exact Nat.lt_irrefl _)
  have dnf : s2.heap.objs.size∉frs X.stack := fun z => by
    rcases List.mem_cons.mp (I.stkSub _ z) with z | z
    · exact absurd I.lt (by rw [← z];exact Nat.lt_irrefl _)
    · exact I.nofs (Nat.le_refl _) z
  have I3D : ∀ {σ3 : St} {H3 : Hp} {s3 : Shared} {its : List Value} {k : Nat}, Inv (cxB X NB own scope P.objs.size fp s2 H2) [] σ3 H3 s3 → s3.heap.get? s2.heap.objs.size=some { cls := .type "list", data := .seq its.toArray k } → H3 s2.heap.objs.size=none →
      Inv (cxB X NB own scope P.objs.size fp s2 H2) [(s2.heap.objs.size, { cls := .type "list", data := .seq its.toArray k })] σ3 H3 s3 := fun I3 e n => I3.pins_of fun p hp => by
    have ep := List.mem_singleton.mp hp
    subst ep
    exact ⟨e, n, hDC, dnf, fun v z => by cases z⟩
  have ndf : s2.heap.objs.size∉fp := fun z => by
    obtain ⟨o, e⟩ := hfs _ z
    exact absurd (Heap.lt_size e) (Nat.lt_irrefl _)
  have nCD : ∀ x c, (cxB X NB own scope P.objs.size fp s2 H2).env.cells.lookup x=some c → c≠s2.heap.objs.size := fun x c e z => by
    obtain ⟨v, o, ho, _⟩ := I.cell x c (B.cells I.ok e).1
    rw [z] at ho
    exact absurd (Heap.lt_size ho) (Nat.lt_irrefl _)
  have loop : ∀ s₃ : Shared, s₃ = { s2 with heap := h₁, toks := tk4 } → codeAny (model X.prog X.w) X.A (.compLoop (.ListComp elt [⟨tg, iter, ifs, 0⟩] scope pos) 0 (.ref it) (.ref s2.heap.objs.size) (cxB X NB own scope P.objs.size fp s2 H2).env)
      (compPost (model X.prog X.w) X.A X.xe (some (assign (.Name y py) X.env)) (fun _ s' => SP X pins DD .next s') (.ref s2.heap.objs.size) P.objs.size) s₃ := by
    rintro s₃ rfl
    refine dk (fun n s' => ∃ i σB H' ys its k, Inv (cxB X NB own scope P.objs.size fp s2 H2) [] σB H' s' ∧ tn i s'.heap ∧ (∀ b∈fp, H' b=none) ∧ s'.heap.get? s2.heap.objs.size=some { cls := .type "list", data := .seq (its : List Value).toArray k } ∧ aL ys its ∧ H' s2.heap.objs.size=none ∧ W i n ys σB H') ?_ m0
      ⟨0, stB own cap σ, H2, [], [], 0, I4, st4, fun b hb => (f2 b hb).1, hD, .nil, I.hok.fresh (Nat.le_refl _), w0⟩
    rintro n s3 ⟨i, σ3, H3, ys, its, k, I3, st3, fr3, hD3, rv, hn3, w3⟩
    rcases turn i n ys σ3 H3 w3 with ⟨stop, hz, q⟩ | ⟨go, hz, step⟩
    · refine thn (T.done (cxB X NB own scope P.objs.size fp s2 H2) rfl rfl rfl hc i _ s3 σ3 H3 noE (I3D I3 hD3 hn3) (fun b hb => fOk hb (fr3 b hb)) st3 stop) fun r s4 zq1 => ?_
      obtain ⟨hr, I4'⟩ := zq1
      subst hr
      have hD4 : s4.heap.get? s2.heap.objs.size=some { cls := .type "list", data := .seq (its : List Value).toArray k } := (I4'.pin (s2.heap.objs.size, _) (List.mem_append_right _ (List.mem_singleton.mpr rfl))).1
      have I5 : Inv (cxB X NB own scope P.objs.size fp s2 H2) [] σ3 H3 s4 := I4'.pins_of fun p hp => absurd (show p∈([] : List (Addr × Obj)) from hp) (by simp)
      obtain ⟨mC, hnC, _⟩ := I5.loc
      have I6 : Inv X pins σ (upd H3 s2.heap.objs.size (.lst ys)) s4 := B.done (h'' := s4.heap) I f2 hCle (Nat.le_refl _) hDC I5 hn3 hD4 rv hz ⟨rfl, fun _ _ => rfl⟩
      obtain ⟨oC, es, ep, hoC, hdC, rC⟩ := hnC
      have hCn : (upd H3 s2.heap.objs.size (.lst ys)) P.objs.size=none := by rw [ak hDC.symm];exact I5.free
      have nL : P.objs.size≠X.env.locals := fun z => absurd I.lt (by rw [← z];exact Nat.not_lt.mpr hCle)
      have I7 : Inv X (pins++[(P.objs.size, oC)]) σ (upd H3 s2.heap.objs.size (.lst ys)) s4 := I6.pins_of fun p hp => by
        rcases List.mem_append.mp hp with z | z
        · exact I6.pin p (List.mem_append_right _ z)
        · have ep := List.mem_singleton.mp z
          subst ep
          exact ⟨hoC, hCn, nL, I.nofs hCle, fun v z => by rw [hdC] at z;cases z⟩
      refine thn (aG (pos := py) hN hi0 hx hf (pins++[(P.objs.size, oC)]) s4 σ _ (.ref s2.heap.objs.size) (.ref s2.heap.objs.size) (fun σ' H' => DD.nx σ' H' ∧ H'=upd H3 s2.heap.objs.size (.lst ys)) I7 rfl ⟨q _ hn3, rfl⟩) fun _ s5 zq2 => ?_
      obtain ⟨σ5, H5, I8, q5, e5⟩ := zq2
      subst e5
      have pC := (I8.pin (P.objs.size, oC) (List.mem_append_right _ (List.mem_append_right _ (List.mem_singleton.mpr rfl)))).1
      refine ⟨mC, ⟨oC, es, ep, pC, hdC, rC⟩, fun h'' sb => ⟨σ5, _, ?_, q5⟩⟩
      have I9 : Inv X pins σ5 (upd H3 s2.heap.objs.size (.lst ys)) s5 := I8.pins_of fun p hp => I8.pin p (List.mem_append_right _ (List.mem_append_left _ hp))
      refine I9.turned (t' := s5.toks) (it := P.objs.size) (fun b o hb e => (sb.2 b hb).trans e) hCn nL (.inr (Nat.le_trans I.sz hCle)) (fun x c e z => ?_) fun p hp z => ?_
      · obtain ⟨v, o, ho, _⟩ := I.cell x c e
        exact absurd (Heap.lt_size ho) (by rw [z];exact Nat.not_lt.mpr hCle)
      · exact absurd (Heap.lt_size (I.pin p hp).1) (by rw [z];exact Nat.not_lt.mpr hCle)
    · refine thn (T.item (cxB X NB own scope P.objs.size fp s2 H2) rfl rfl rfl hc i _ s3 σ3 H3 noE (I3D I3 hD3 hn3) (fun b hb => fOk hb (fr3 b hb)) st3 go) fun r s4 zq3 => ?_
      obtain ⟨u, hr, h4⟩ := zq3
      subst hr
      refine thn h4 fun _ s5 zq4 => ?_
      obtain ⟨x, H5, I5, r5, y5, st5, fr5⟩ := zq4
      have I5' := I5.pinned (fun b hb => fOk hb (fr5 b hb)) (T.obj _ _ st5)
      refine thn (hg _ fp s2 H2 _ s5 σ3 H5 x u _ I5' r5 (step x H5 y5)) fun _ s6 zq5 => ?_
      obtain ⟨σ6, H6, I6, q6⟩ := zq5
      refine thn (ht _ fp s2 H2 _ s6 σ6 H6 _ I6 q6) fun b s7 zq6 => ?_
      obtain ⟨H7, I7, q7⟩ := zq6
      have pinned : ∀ {σ8 : St} {H8 : Hp} {s8 : Shared}, Inv (cxB X NB own scope P.objs.size fp s2 H2) ([(s2.heap.objs.size, { cls := .type "list", data := .seq (its : List Value).toArray k })]++c_ fp s5.heap) σ8 H8 s8 →
          tn (i+1) s8.heap ∧ (∀ b∈fp, H8 b=none) ∧ s8.heap.get? s2.heap.objs.size=some { cls := .type "list", data := .seq (its : List Value).toArray k } ∧ H8 s2.heap.objs.size=none := fun {σ8 H8 s8} I8 => by
        refine ⟨T.keep _ _ _ st5 fun b hb o e => (I8.pin (b, o) (List.mem_append_right _ (List.mem_append_right _ (aV hb e)))).1, fun b hb => ?_, ?_, ?_⟩
        · obtain ⟨o, e, d⟩ := T.obj _ _ st5 b hb
          exact (I8.pin (b, o) (List.mem_append_right _ (List.mem_append_right _ (aV hb e)))).2.1
        · exact (I8.pin (s2.heap.objs.size, _) (List.mem_append_right _ (List.mem_append_left _ (List.mem_singleton.mpr rfl)))).1
        · exact (I8.pin (s2.heap.objs.size, _) (List.mem_append_right _ (List.mem_append_left _ (List.mem_singleton.mpr rfl)))).2.1
      have nopin : ∀ {pp : List (Addr × Obj)} {σ8 : St} {H8 : Hp} {s8 : Shared}, Inv (cxB X NB own scope P.objs.size fp s2 H2) pp σ8 H8 s8 → Inv (cxB X NB own scope P.objs.size fp s2 H2) [] σ8 H8 s8 := fun I8 => I8.pins_of fun p hp => absurd (show p∈([] : List (Addr × Obj)) from hp) (by simp)
      cases b with
      | false =>
        rw [if_neg Bool.false_ne_true] at q7 ⊢
        obtain ⟨m', hm, w7⟩ := q7
        obtain ⟨p1, p2, p3, p4⟩ := pinned I7
        exact ⟨m', hm, i+1, σ6, H7, ys, its, k, nopin I7, p1, p2, p3, rv, p4, w7⟩
      | true =>
        rw [if_pos rfl] at q7 ⊢
        refine thn (he _ fp s2 H2 _ s7 σ6 H7 _ I7 q7) fun yv s8 zq7 => ?_
        obtain ⟨y, H8, I8, r8, m', hm, w8⟩ := zq7
        obtain ⟨p1, p2, p3, p4⟩ := pinned I8
        refine call_meets F.slot_list_append ⟨_, p3, rfl⟩ F.entry_list_append (F.args_list_append_2 _ _) (PySem.list_append s2.heap.objs.size its.toArray k yv (by rw [List.size_toArray, ← rv.length];omega)) ⟨p3, ?_⟩
        have q := PySem.IsL.update p3 fun a => a.push yv
        have ea : its.toArray.push yv=(its++[yv]).toArray := by simp
        rw [ea] at q
        have I9 : Inv (cxB X NB own scope P.objs.size fp s2 H2) [] σ6 H8 { s8 with heap := s8.heap.update s2.heap.objs.size (Obj.mapSeq fun a => a.push yv), toks := s8.toks } :=
          (nopin I8).turned (it := s2.heap.objs.size) (fun b o hb e => (Heap.get?_update_other s8.heap _ (Ne.symm hb)).trans e) p4 hDC (.inr (Nat.le_refl _)) (fun x c e => nCD x c e) fun p hp => absurd (show p∈([] : List (Addr × Obj)) from hp) (by simp)
        refine ⟨m', hm, i+1, σ6, H8, ys++[y], its++[yv], _, I9, ?_, p2, q, rv.append (.cons r8 .nil), p4, w8⟩
        refine T.keep _ _ _ p1 fun b hb o e => (Heap.get?_update_other s8.heap _ ?_).trans e
        intro z
        rw [z] at ndf
        exact ndf hb
  exact codeAny_compStart_list (loop _ rfl) (T.self X.A 0 _ _ _ st4 (loop _ rfl))
end L2
namespace L2
open PySem PySem.Spec PyProof.Rows Wd
end L2
set_option Elab.async false
set_option linter.all false
set_option maxRecDepth 100000
namespace L2
open PySem PySem.Spec PyProof.Rows Wd
section
variable {X : Cx}
theorem i4 {i o : Expr}{ty td : TE}{pos : Pos}(hu : X.A.units+1 < cLine)(hi : PE X i ty)(ho : PE X o td)(h1 : behindInMarks .NotIn o=false) : PT X (.Compare i [.NotIn] [o] pos) (tB (iI ty td)) := km (iJ hu hi ho) h1
theorem ni {i o : Expr}{ty td : TE}{pos : Pos}(hu : X.A.units+1 < cLine)(hi : PE X i ty)(ho : PE X o td)(h1 : behindInMarks .In o=false) : PT X (.Compare i [.In] [o] pos) (tB (pj ty td)) := km (mX hu hi ho) h1
end
end L2
set_option Elab.async false
set_option linter.all false
set_option maxRecDepth 100000
namespace L2
open PySem PySem.Spec PyProof.Rows
section
variable {X : Cx}
end
end L2
set_option Elab.async false
set_option linter.all false
set_option maxRecDepth 100000
namespace L2
open PySem PySem.Spec PyProof.Rows
section
variable {prog : Program} {w : World} {A : Around} {E : Value → Shared → Prop} {s : Shared}
end
section
variable {X : Cx}
end
end L2
set_option Elab.async false
set_option linter.all false
set_option maxRecDepth 100000
namespace PySem
open Sem (wp)
open AutoSeq1 (wpAny_loadPart')
section
variable {prog : Program} {w : World} {A : Around} {E : Value → Shared → Prop} {s : Shared}
end
end PySem
namespace L2
open PySem PySem.Spec PyProof.Rows Wd
section
variable {X : Cx}
theorem fp2 {pins : List (Addr × Obj)}{σ : St}{H : Hp}{s : Shared}(I : Inv X pins σ H s) : ∀ b∈[s.heap.objs.size+1, s.heap.objs.size], fN X pins H b := fun b hb => by
  have hge : s.heap.objs.size≤b := by
    simp only [List.mem_cons, List.not_mem_nil, or_false] at hb
    rcases hb with rfl | rfl <;> omega
  exact I.fpOk hge (I.hok.fresh hge)
end
end L2
set_option Elab.async false
set_option linter.all false
set_option maxRecDepth 100000
namespace PySem
open Sem (wp)
section
variable {prog : Program} {w : World} {A : Around} {E : Value → Shared → Prop} {s : Shared} {z TI TO i1 i2 : Addr} {k n1 n2 : Nat} {a b : Value} {fp1 fp2 : List Addr} {P1 P2 : Nat → Value → Prop} {S1 S2 : Nat → Heap → Prop}
end
end PySem
set_option Elab.async false
set_option linter.all false
set_option maxRecDepth 100000
namespace PySem
end PySem
namespace L2
open PySem PySem.Spec PyProof.Rows Wd
section
variable {X : Cx}
end
end L2
set_option Elab.async false
set_option linter.all false
set_option maxRecDepth 100000
namespace L2
open PySem PySem.Spec PyProof.Rows Wd
section
variable {X : Cx}
end
end L2
set_option Elab.async false
set_option linter.all false
set_option maxRecDepth 100000
set_option maxHeartbeats 0
namespace Kx
open PySem PySem.Spec PyProof.Rows L2 Wd
end Kx
namespace L2
open PySem PySem.Spec PyProof.Rows Wd
section
variable {X : Cx} {tg : Expr}
end
end L2
namespace Kx
open PySem PySem.Spec PyProof.Rows L2 Wd
def dV : V → PyData
  | .int i => .int i
  | .str z => .str z
  | _ => .none
end Kx
set_option Elab.async false
set_option linter.all false
set_option maxRecDepth 100000
set_option maxHeartbeats 0
namespace Wd
end Wd
namespace Kx
open PySem PySem.Spec PyProof.Rows L2 Wd
def gs (S : List Nat) : List V := S.map fun g : Nat => V.int (g : Int)
end Kx
set_option Elab.async false
set_option linter.all false
set_option maxRecDepth 100000
set_option maxHeartbeats 0
namespace Wd
def rfI (u : List L)(a b : L) : Int := ((u.idxOf b : Int) - (u.idxOf a : Int)) % (u.length : Int)
def ic (u : List L)(x z : L) : Int := if rfI u x z < rfI u x (inv x) then 1 else 0
def sd (u : List L)(x y : L) : Int := ic u x y - ic u x (inv y)
def lt6 (j : Nat) : L := if h : j < 12 then ⟨j, h⟩ else 0
def bg (u : List L)(y : L)(g : Nat) : Int := ic u y (u.getD g 0)
end Wd
set_option Elab.async false
set_option linter.all false
set_option maxRecDepth 100000
set_option maxHeartbeats 0
namespace L2
open PySem PySem.Spec PyProof.Rows
section
variable {X : Cx}
end
end L2
namespace Kx
open PySem PySem.Spec PyProof.Rows L2 Wd
def qc (k : Nat) : List L := (List.range k).map lt6++bk ((List.range k).map lt6)
end Kx
set_option Elab.async false
set_option linter.all false
set_option maxRecDepth 100000
namespace Wd
open PySem L2
def lcp : List L → List L → List L
  | x::u, y::v => if x=y then x::lcp u v else []
  | _, _ => []
def p5 (t o : List L) : Bool := decide (o≠t) && decide (t.length≤6*(lcp t o).length)
end Wd
set_option Elab.async false
set_option linter.all false
set_option maxRecDepth 100000
namespace HT
open PySem PySem.Spec PyProof.Rows
section
variable {prog : Program} {w : World} {A : Around} {E : Value → Shared → Prop} {s : Shared}
end
end HT
namespace L2
open PySem PySem.Spec PyProof.Rows Wd
end L2
set_option Elab.async false
set_option linter.all false
set_option maxRecDepth 100000
set_option maxHeartbeats 0
namespace Kx
open PySem PySem.Spec PyProof.Rows L2 Wd
theorem tl : ¬ ("turn" : Str) = "letter" := by decide +kernel
end Kx
set_option Elab.async false
set_option linter.all false
set_option maxRecDepth 100000
set_option maxHeartbeats 0
namespace Kx
open PySem PySem.Spec PyProof.Rows L2 Wd
end Kx
set_option Elab.async false
set_option linter.all false
set_option maxRecDepth 100000
namespace Wd
open PySem L2
end Wd
namespace Kx
open PySem L2 Wd
end Kx
set_option Elab.async false
set_option linter.all false
set_option maxRecDepth 100000
namespace PySem
open Sem (wp)
section
variable {prog : Program} {w : World} {A : Around} {E : Value → Shared → Prop} {s : Shared}
section
variable {R : Result → Shared → Prop} {I : Addr} {fp wr : List Addr} {G : Array GenState → Array GenState → Prop} {n : Nat} {P : Nat → Value → Prop} {St : Nat → Shared → Prop}
end
end
end PySem
set_option Elab.async false
set_option linter.all false
set_option maxRecDepth 100000
namespace PySem
open Sem (wp)
section
variable {prog : Program} {w : World} {A : Around} {E : Value → Shared → Prop} {s : Shared}
end
end PySem
set_option Elab.async false
set_option linter.all false
set_option maxRecDepth 100000
namespace PySem
open Sem (wp)
section
variable {prog : Program} {w : World} {A : Around} {E : Value → Shared → Prop} {s : Shared}
section
variable {R : Result → Shared → Prop} {I : Addr} {fp wr : List Addr} {G : Array GenState → Array GenState → Prop} {n : Nat} {P : Nat → Value → Prop} {St : Nat → Shared → Prop}
end
end
end PySem
set_option Elab.async false
set_option linter.all false
set_option maxRecDepth 100000
namespace PySem
open Sem (wp)
section
variable {prog : Program} {w : World} {A : Around} {E : Value → Shared → Prop} {s : Shared}
end
end PySem
set_option Elab.async false
set_option linter.all false
set_option maxRecDepth 100000
namespace PySem
open Sem (wp)
section
variable {prog : Program} {w : World} {A : Around} {E : Value → Shared → Prop} {s : Shared}
end
end PySem
set_option Elab.async false
set_option linter.all false
set_option maxRecDepth 100000
namespace PySem
open Sem (wp)
section
variable {prog : Program} {w : World} {A : Around} {E : Value → Shared → Prop} {s : Shared}
end
end PySem
set_option Elab.async false
set_option linter.all false
set_option maxRecDepth 100000
namespace Ts
open PySem PyProof.Rows
section
variable {prog : Program} {w : World} {A : Around} {E : Value → Shared → Prop} {s : Shared} {κ : KeyKind}
end
end Ts
set_option Elab.async false
set_option linter.all false
set_option maxRecDepth 100000
namespace Ts
open PySem PyProof.Rows
end Ts
set_option Elab.async false
set_option linter.all false
set_option maxRecDepth 100000
namespace Ts
open PySem PyProof.Rows
variable {κ : KeyKind}
end Ts
set_option Elab.async false
set_option linter.all false
set_option maxRecDepth 100000
namespace Ts
open PySem PyProof.Rows
section
variable {prog : Program} {w : World} {A : Around} {E : Value → Shared → Prop} {s : Shared} {κ : KeyKind}
end
end Ts
set_option Elab.async false
set_option linter.all false
set_option maxRecDepth 100000
namespace Ts
open PySem PyProof.Rows
variable {κ : KeyKind}
section
variable {prog : Program} {w : World} {A : Around} {E : Value → Shared → Prop} {s : Shared}
end
end Ts
set_option Elab.async false
set_option linter.all false
set_option maxRecDepth 100000
namespace Ts
open PySem PyProof.Rows
variable {κ : KeyKind}
section
variable {prog : Program} {w : World} {A : Around} {E : Value → Shared → Prop} {s : Shared}
end
end Ts
set_option Elab.async false
set_option linter.all false
set_option maxRecDepth 100000
namespace Ts
open PySem PyProof.Rows
variable {κ : KeyKind}
section
variable {prog : Program} {w : World} {A : Around} {E : Value → Shared → Prop} {s : Shared}
end
end Ts
set_option Elab.async false
set_option linter.all false
set_option maxRecDepth 100000
namespace Ts
open PySem PyProof.Rows
variable {κ : KeyKind}
section
variable {prog : Program} {w : World} {A : Around} {E : Value → Shared → Prop} {s : Shared}
end
end Ts
set_option Elab.async false
set_option linter.all false
set_option maxRecDepth 100000
namespace Ts
open PySem PyProof.Rows
variable {κ : KeyKind}
section
variable {prog : Program} {w : World} {A : Around} {E : Value → Shared → Prop} {s : Shared}
end
end Ts
set_option Elab.async false
set_option linter.all false
set_option maxRecDepth 100000
namespace Ts
open PySem PyProof.Rows
variable {κ : KeyKind}
section
variable {prog : Program} {w : World} {A : Around} {E : Value → Shared → Prop} {s : Shared}
end
end Ts
set_option Elab.async false
set_option linter.all false
set_option maxRecDepth 100000
set_option maxHeartbeats 0
namespace Wd
section
variable {α : Type}
end
end Wd
set_option Elab.async false
set_option linter.all false
set_option maxRecDepth 100000
set_option maxHeartbeats 0
namespace Wd
section
variable {α : Type}
end
end Wd
set_option Elab.async false
set_option linter.all false
set_option maxRecDepth 100000
set_option maxHeartbeats 0
namespace Wd
end Wd
set_option Elab.async false
set_option linter.all false
set_option maxRecDepth 100000
set_option maxHeartbeats 0
namespace Wd
section
variable {α : Type}
end
end Wd
set_option Elab.async false
set_option linter.all false
set_option maxRecDepth 100000
set_option maxHeartbeats 0
namespace Wd
section
variable {α : Type}
end
end Wd
set_option Elab.async false
set_option linter.all false
set_option maxRecDepth 100000
set_option maxHeartbeats 0
namespace Wd
end Wd
set_option Elab.async false
set_option linter.all false
set_option maxRecDepth 100000
set_option maxHeartbeats 0
namespace Wd
end Wd
set_option Elab.async false
set_option linter.all false
set_option maxRecDepth 100000
namespace PySem
end PySem
namespace L2
open PySem PySem.Spec PyProof.Rows Wd
section
variable {X : Cx}
end
end L2
set_option Elab.async false
set_option linter.all false
set_option maxRecDepth 100000
namespace L2
open PySem PySem.Spec PyProof.Rows Wd
section
variable {X : Cx}
end
end L2
set_option linter.all false
namespace Wd
def img (ws : List (List L))(x : L) : List L := if x.val < 6 then ws.getD x.val [] else bk (ws.getD (x.val - 6) [])
def sub (ws : List (List L))(u : List L) : List L := u.flatMap (img ws)
end Wd
set_option Elab.async false
set_option linter.all false
set_option maxRecDepth 100000
namespace PySem
section
variable {prog : Program} {w : World} {A : Around} {E : Value → Shared → Prop}
end
end PySem
namespace L2
open PySem PySem.Spec PyProof.Rows Wd
section
variable {X : Cx} {pos : Pos}
inductive px (x : V)(y : V)(H : Hp)(Q : VK) : Prop
  | mk : ∀ da db, (Dt H x da) → (Dt H y db) → (da.canLay0=true) → (db.canLay0=true) → (da.depth≤10) → (Q (.bl (!PyData.eqv da db)) H) → px x y H Q
theorem i5 (hu : X.A.units+64 < cLine) : OpR X (compareOp .NotEq) px := by
  intro pins s σ H x y v u Q I rx ry h
  obtain ⟨da, db, ha, hb, la, lb, dp, q⟩ := h
  obtain ⟨as, ra⟩ := ha.reads I.hok rx
  obtain ⟨bs, rb⟩ := hb.reads I.hok ry
  exact EqBoolInt.of_rcne (SeqAt.rcNeAt_reads ra rb la lb (by omega)) ⟨.bl _, H, I, rfl, q⟩
end
theorem lM (u : List L) : (PyData.str (toS u)).canLay0=true := by
  unfold PyData.canLay0 PyData.strOk
  rw [← Array.all_toList, bj, List.all_eq_true]
  intro c hc
  obtain ⟨x, _, rfl⟩ := List.mem_map.mp hc
  have := jV x
  exact decide_eq_true (by omega)
theorem fh : ∀ ws : List (List L), PyData.canLayAll0 (ws.map fun u => .str (toS u))=true
  | [] => rfl
  | u::ws => by
    rw [List.map_cons, PyData.canLayAll0, lM, fh ws]
    rfl
end L2
set_option Elab.async false
set_option linter.all false
set_option maxRecDepth 100000
set_option maxHeartbeats 0
namespace L2
open PySem PySem.Spec PyProof.Rows Wd
section
variable {X : Cx}
end
end L2
namespace Kx
open PySem PySem.Spec PyProof.Rows L2 Wd
end Kx
set_option Elab.async false
set_option linter.all false
set_option maxRecDepth 100000
set_option maxHeartbeats 0
namespace Wd
end Wd
set_option Elab.async false
set_option linter.all false
set_option maxRecDepth 100000
set_option maxHeartbeats 0
namespace L2
open PySem PySem.Spec PyProof.Rows Wd
section
variable {X : Cx}
end
end L2
namespace Kx
open PySem PySem.Spec PyProof.Rows L2 Wd
end Kx
namespace L2
open PySem PySem.Spec PyProof.Rows Wd
section
variable {X : Cx}
end
end L2
set_option Elab.async false
set_option linter.all false
set_option maxRecDepth 100000
namespace L2
open PySem PySem.Spec PyProof.Rows
section
variable {prog : Program} {w : World} {A : Around} {E : Value → Shared → Prop} {s : Shared}
end
section
variable {X : Cx}
end
end L2
set_option Elab.async false
set_option linter.all false
set_option maxRecDepth 100000
set_option maxHeartbeats 0
namespace L2
open PySem PySem.Spec PyProof.Rows Wd
section
variable {X : Cx}
end
end L2
namespace Kx
open PySem PySem.Spec PyProof.Rows L2 Wd
end Kx
set_option Elab.async false
set_option linter.all false
namespace Kx
open PySem PySem.Spec PyProof.Rows L2 Wd
end Kx
set_option Elab.async false
set_option linter.all false
set_option maxRecDepth 100000
set_option maxHeartbeats 0
namespace L2
open PySem PySem.Spec PyProof.Rows Wd
section
variable {X : Cx}
end
end L2
set_option Elab.async false
set_option linter.all false
set_option maxRecDepth 100000
set_option maxHeartbeats 0
namespace Wd
def nm (N : List L)(x : L) : L := if x.val < 6 then N.getD x.val 0 else inv (N.getD (x.val - 6) 0)
end Wd
namespace L2
open PySem PySem.Spec PyProof.Rows Wd
section
variable {X : Cx}
end
end L2
namespace Kx
open PySem PySem.Spec PyProof.Rows L2 Wd
end Kx
set_option Elab.async false
set_option linter.all false
set_option maxRecDepth 100000
namespace L2
open PySem PySem.Spec PyProof.Rows
section
variable {prog : Program} {w : World} {A : Around} {E : Value → Shared → Prop} {s : Shared}
end
section
variable {X : Cx}
end
section
variable {prog : Program} {w : World} {A : Around} {E : Value → Shared → Prop} {s : Shared}
end
section
variable {X : Cx}
end
end L2
set_option Elab.async false
set_option linter.all false
set_option maxRecDepth 100000
namespace PySem
open Sem (wp)
section
variable {prog : Program} {w : World} {A : Around} {E : Value → Shared → Prop} {s : Shared} {z TI TO i1 i2 : Addr} {x y : Str} {t u : Tok} {k c d : Nat} {a b : Value}
end
end PySem
set_option Elab.async false
set_option linter.all false
set_option maxRecDepth 100000
namespace L2
open PySem PySem.Spec PyProof.Rows
section
variable {X : Cx}
end
end L2
set_option Elab.async false
set_option linter.all false
set_option maxRecDepth 100000
namespace PySem
end PySem
namespace L2
open PySem PySem.Spec PyProof.Rows Wd
section
variable {X : Cx}
end
end L2
set_option Elab.async false
set_option linter.all false
set_option maxRecDepth 100000
namespace HT
open PySem PySem.Spec PyProof.Rows
section
variable {prog : Program} {w : World} {A : Around} {E : Value → Shared → Prop} {s : Shared}
end
end HT
namespace L2
open PySem PySem.Spec PyProof.Rows Wd
section
variable {X : Cx}
end
end L2
set_option Elab.async false
set_option linter.all false
set_option maxRecDepth 100000
namespace L2
open PySem PySem.Spec PyProof.Rows Wd
section
variable {X : Cx}
end
end L2
namespace HT
open PySem PySem.Spec PyProof.Rows PySem.SeqAt
end HT
namespace L2
open PySem PySem.Spec PyProof.Rows Wd
section
variable {X : Cx}
end
theorem jY {X : Cx}{tg : Expr}{K : PySem.W.Frag}(hK : X.K=K){l : Expr}{tl : TE}(hl : PE X l tl) : PI X tg l (mF K tl) := by
  subst hK
  exact cZ hl
end L2
set_option Elab.async false
set_option linter.all false
namespace Wd
end Wd
set_option Elab.async false
set_option linter.all false
set_option maxRecDepth 100000
set_option maxHeartbeats 0
namespace Kx
open PySem PySem.Spec PyProof.Rows L2 Wd
def fst (c : Option (Int × Int)) : Int := match c with | some (i, _) => i | none => 0
end Kx
set_option Elab.async false
set_option linter.all false
set_option maxRecDepth 100000
set_option maxHeartbeats 0
namespace Kx
open PySem PySem.Spec PyProof.Rows L2 Wd
end Kx
set_option Elab.async false
set_option linter.all false
set_option maxRecDepth 100000
set_option maxHeartbeats 0
namespace Kx
open PySem PySem.Spec PyProof.Rows L2 Wd
def iv (r : List Nat) : List V := r.map fun i : Nat => V.int (i : Int)
end Kx
set_option Elab.async false
set_option linter.all false
set_option maxRecDepth 100000
namespace Kx
open PySem PySem.Spec PyProof.Rows L2 Wd
end Kx
set_option Elab.async false
set_option linter.all false
set_option maxRecDepth 100000
namespace L2
open PySem PySem.Spec PyProof.Rows
section
variable {M : Model} {A : Around} {E : Value → Shared → Prop} {s : Shared}
end
end L2
set_option Elab.async false
set_option linter.all false
set_option maxRecDepth 100000
namespace L2
open PySem PySem.Spec PyProof.Rows
def exo (a C : Addr)(d : Option Addr)(b : Bool) : Heap → Prop := fun h =>
  ∃ oe vs, h.get? a=some oe ∧ oe.cls = .ref C ∧ oe.dict=d ∧ oe.data = .fields vs ∧ vs.size=6 ∧ (b=true → vs[1]? = some .none)
abbrev Exo (a C : Addr)(d : Option Addr)(b : Bool) : HO := .ext (exo a C d b)
section
variable {P : Program} {w : World} {H : Hp} {h h' : Heap} {fs : List Addr} {e C : Addr} {d : Option Addr} {b : Bool} {fl : Value}
end
section
variable {P : Program} {w : World} {K : PySem.W.Frag} {mg : Str → Option Value} {base : Heap} {N : List Str} {qual : Str} {scope : Scope} {f : Addr} {cd : Value} {A : Around} {outer : List Env} {s : Shared} {H : Hp} {E : XK}
end
end L2
set_option Elab.async false
set_option linter.all false
set_option maxRecDepth 100000
namespace L2
open PySem PySem.Spec PyProof.Rows
section
variable {prog : Program} {w : World} {A : Around} {E : Value → Shared → Prop} {h : Heap} {g : Array GenState} {d : Drawn} {t : Nat} {os : OsState} {K : PySem.W.Frag} {C fI : Addr} {bm : List Value}
end
section
variable {X : Cx} {k : Nat} {f C : Addr} {fd : FuncData} {ps : List Str} {sp : Sp} {x : Str} {p pos : Pos} {e : Expr} {es : List Expr} {t : TA} {bm : List Value}
end
end L2
set_option Elab.async false
set_option linter.all false
set_option maxRecDepth 100000
namespace L2
open PySem PySem.Spec PyProof.Rows Builtin Builtin.ObjectAttr
section
variable {prog : Program} {w : World} {A : Around} {E : Value → Shared → Prop} {h : Heap} {g : Array GenState} {d : Drawn} {t : Nat} {os : OsState} {K : PySem.W.Frag} {C e : Addr} {bm : List Value} {oe : Obj} {vs : Array Value}
section
variable {name : Str} {v : Value} {mA : Str → Option Value}
end
end
end L2
set_option Elab.async false
set_option linter.all false
set_option maxRecDepth 100000
namespace L2
open PySem PySem.Spec PyProof.Rows
def xdt (d : Addr)(fs : List (Str × V)) : Heap → Prop := fun h => ∃ mA, h.Ns1 d mA ∧ (∀ f, gW (fs.lookup f) (mA f)) ∧ PySem.Within mA (fs.map (·.1))
abbrev Xdt (d : Addr)(fs : List (Str × V)) : HO := .ext (xdt d fs)
section
variable {X : Cx} {pins : List (Addr × Obj)} {σ : St} {H : Hp} {s : Shared} {A : Around} {E : Value → Shared → Prop} {a C : Addr} {b : Bool} {f : Str} {y : V} {u : Value} {Q : Unit → Shared → Prop}
end
section
variable {X : Cx} {o e value : Expr} {es : List Expr} {f x : Str} {p pos pos' apos : Pos} {ta tv te : TE} {t : TA} {R : Addr} {E : XK}
end
end L2
set_option Elab.async false
set_option linter.all false
set_option maxRecDepth 100000
namespace L2
open PySem PySem.Spec PyProof.Rows
section
variable {prog : Program} {w : World} {A : Around} {E : Value → Shared → Prop} {s : Shared} {K : PySem.W.Frag} {C a : Addr} {bm : List Value} {oe : Obj} {od : Option Obj} {name : Str} {fill expr : Bool} {tk : Tok}
end
section
variable {X : Cx} {pins : List (Addr × Obj)} {σ : St} {H : Hp} {s : Shared} {A : Around} {E : Value → Shared → Prop} {a C dx : Addr} {b : Bool} {fs : List (Str × V)} {f : Str} {v : V}
end
section
variable {X : Cx} {e : Expr} {f : Str} {pos : Pos} {ta : TE}
end
end L2
set_option Elab.async false
set_option linter.all false
set_option maxRecDepth 100000
namespace L2
open PySem PySem.Spec PyProof.Rows
section
variable {X : Cx} {pins : List (Addr × Obj)} {σ : St} {H : Hp} {s : Shared}
end
section
variable {M : Model} {A : Around} {E : Value → Shared → Prop} {s : Shared}
end
end L2
set_option Elab.async false
set_option linter.all false
set_option maxRecDepth 100000
namespace L2
open PySem PySem.Spec PyProof.Rows
section
variable {X : Cx} {E : XK} {x : Str} {ps : List Str} {k j : Nat} {sp : Sp} {e a b : Expr} {es : List Expr} {t : TA} {te tb : TE} {tt : TT} {p pos pos' : Pos}
end
end L2
set_option Elab.async false
set_option linter.all false
set_option maxRecDepth 100000
namespace L2
open PySem PySem.Spec PyProof.Rows
section
variable {K : PySem.W.Frag} {C R N : Addr} {dd d0 : Option Addr} {c0 oc : Value} {cd cdR : ClassData} {k0 k1 k2 k3 k5 : Option Value} {sl sl' : Array (Option Value)} {es : Array DictEntry} {n : Nat} {bm bm' : List Value}
end
end L2
set_option Elab.async false
set_option linter.all false
set_option maxRecDepth 100000
namespace L2
open PySem PySem.Spec PyProof.Rows
section
variable {X : Cx} {x : Str} {C : Addr} {names : List Str} {k j : Nat} {e : Expr} {es : List Expr} {t : TA} {p pos : Pos}
end
section
variable {K : PySem.W.Frag} {C dx a : Addr} {b : Bool} {H : Hp}
end
section
variable {X : Cx} {K : PySem.W.Frag} {e : Expr} {f : Str} {pos : Pos} {ta : TE}
end
end L2
set_option Elab.async false
set_option linter.all false
set_option maxRecDepth 100000
namespace L2
open PySem PySem.Spec PyProof.Rows
section
variable {X : Cx} {E : XK} {e a b c : Expr} {te ta tb : TE} {tA : TT} {pos : Pos}
end
end L2
set_option Elab.async false
set_option linter.all false
set_option maxRecDepth 100000
namespace Kx
open PySem PySem.Spec PyProof.Rows L2 Wd
end Kx
set_option Elab.async false
set_option linter.all false
set_option maxRecDepth 100000
namespace L2
open PySem PySem.Spec PyProof.Rows Wd
section
variable {X : Cx}
end
end L2
namespace Kx
open PySem PySem.Spec PyProof.Rows L2 Wd
def oL (o : Option (List L)) : List V := o.toList.map tx
end Kx
set_option Elab.async false
set_option linter.all false
set_option maxRecDepth 100000
set_option maxHeartbeats 0
namespace L2
open PySem PySem.Spec PyProof.Rows Wd
end L2
namespace Kx
open PySem PySem.Spec PyProof.Rows L2 Wd
theorem aE {n : Nat}(h : n≤16777216) : n≤sizeLine := by rw [bo]; exact h
theorem nj {t u : TS}{D : fE}{σ : L2.St}{H : Hp}(h : t D σ H) : fM t u D σ true H := oB h
theorem i7 {t u : TS}{D : fE}{σ : L2.St}{H : Hp}(h : u D σ H) : fM t u D σ false H := nV h
theorem p7 {u : TT}{σ : L2.St}{Q : Bool → Hp → Prop}{H : Hp}(h : u σ H Q) : kn u σ Q false H := nV h
theorem nk {u : TT}{σ : L2.St}{Q : Bool → Hp → Prop}{H : Hp}(h : u σ H Q) : fL u σ Q true H := oB h
theorem nq {u : TT}{σ : L2.St}{Q : Bool → Hp → Prop}{H : Hp}(h : Q false H) : fL u σ Q false H := nV h
def XP (C : Addr)(H : Hp)(a : Addr)(z : Str)(k : Nat) : Prop := ∃ dx, H a=some (Exo a C (some dx) false) ∧ H dx=some (Xdt dx [("word", .str z), ("at", .int (k : Nat))])
end Kx
set_option Elab.async false
set_option linter.all false
set_option maxRecDepth 100000
namespace L2
open PySem PySem.Spec PyProof.Rows
def Itk (d : Addr)(o : Obj)(kvs : List (Key × V)) : It := ⟨fun i H => i < kvs.length ∧ H d=some (.frz o (.dK kvs)), fun i H x H' => H'=H ∧ ∃ k v, kvs[i]? = some (k, v) ∧ x=kV k, fun i H => i=kvs.length ∧ H d=some (.frz o (.dK kvs))⟩
theorem oS {P : Program}{w : World}{k : Key}{u : Value}(h : (aD P w).is k u=true) : aR (kV k) u := by
  rcases aF h with ⟨i, t, rfl, rfl⟩ | ⟨x, t, rfl, rfl⟩
  · exact ⟨t, rfl⟩
  · exact ⟨t, rfl⟩
theorem kM {P : Program}{w : World}{H : Hp}{h : Heap}{d : Addr}{o : Obj}{kvs : List (Key × V)}{es : Array DictEntry}{ep : Nat}(hok : HOk P w H h)(e : H d=some (.frz o (.dK kvs)))(he : o.data = .dict es ep) :
    ∃ vs, KV kvs vs ∧ h.DictAt (aD P w) d vs ep := by
  obtain ⟨g, z, hd, vs, rel, o', es', ep', g', ex, dt, r⟩ := hok d _ e
  rw [g] at g'
  cases g'
  rw [he] at dt
  cases dt
  exact ⟨vs, rel, o, es, g, ex, he, r⟩
theorem d5 {α β : Type}{R : α → β → Prop} : ∀ {xs : List α} {ys : List β}, Paired R xs ys → ∀ {i : Nat} {x : α}, xs[i]? = some x → ∃ y, ys[i]? = some y ∧ R x y
  | _, _, .nil, i, x, h => by simp at h
  | _, _, .cons r q, 0, x, h => by cases h;exact ⟨_, rfl, r⟩
  | _, _, .cons r q, i+1, x, h => d5 q (i := i) (by simpa using h)
theorem dw {P : Program}{w : World}{K : PySem.W.Frag}{tg : Expr}{d it : Addr}{o : Obj}{es : Array DictEntry}{ep : Nat}{kvs : List (Key × V)}(he : o.data = .dict es ep) : mE P w K tg (Itk d o kvs) [it] it (fun i h => h.IsKeyIter it d i kvs.length ep) where
  mem := by simp
  obj := fun i h st b hb => by
    have e : b=it := by simpa using hb
    subst e
    obtain ⟨o, e, c, dd⟩ := st
    exact ⟨o, e, fun v z => by rw [dd] at z;cases z⟩
  keep := fun i h h' st kk => st.at (kk it (by simp))
  item := by
    intro X hP hw hK hc i pins s σ H E I hf st hg
    subst hP hw hK
    obtain ⟨hi, e⟩ := hg
    obtain ⟨f0, f1, f2, f3, f4, f5⟩ := hf it (by simp)
    obtain ⟨vs, rel, hm⟩ := kM I.hok e he
    have hl := Paired.length rel
    obtain ⟨p, hp⟩ : ∃ p, kvs[i]? = some p := ⟨_, List.getElem?_eq_getElem hi⟩
    obtain ⟨p', hp', ek, rv⟩ := d5 rel hp
    rw [hl] at st
    refine wpAny_pyNext_dict_item st hm (k := p'.1) (v := p'.2) hp' fun key h' hk st' hsb => ⟨_, rfl, ?_⟩
    refine letGo_keyiter (s' := { s with heap := h' }) st' ⟨kV p.1, H, ?_, by rw [ek];exact oS hk, ⟨rfl, p.1, p.2, hp, rfl⟩, by rw [hl];exact st', fun b hb => (hf b hb).1⟩
    exact I.turned (t' := s.toks) (fun b o hb e => by rw [hsb.2 b hb];exact e) f0 f1 f3 f4 f5
  done := by
    intro X hP hw hK hc i pins s σ H E I hf st hg
    subst hP hw hK
    obtain ⟨hi, e⟩ := hg
    obtain ⟨f0, f1, f2, f3, f4, f5⟩ := hf it (by simp)
    obtain ⟨vs, rel, hm⟩ := kM I.hok e he
    have hl := Paired.length rel
    rw [hl] at st
    refine wpAny_pyNext_dict_end (I.ok.hd hc) st hm (by rw [List.getElem?_eq_none];omega) fun h' hx => ⟨rfl, ?_⟩
    exact I.turned (t' := s.toks) (fun b o hb e => hx b o hb e) f0 f1 f3 f4 f5
  self := fun A i s Q E st h => wpAny_pyIter_keyiter st h
section
variable {X : Cx} {tg : Expr}
inductive i8 (R : It → Hp → Prop)(x : V)(H1 : Hp) : Prop
  | mk : ∀ d kvs, (x = .ref d) → (H1 d=some (.dK kvs)) → (∀ o, R (Itk d o kvs) (upd H1 d (.frz o (.dK kvs)))) → i8 R x H1
def oT (tl : TE) : TI := fun σ H R => tl σ H (i8 R)
theorem lN {l : Expr}{tl : TE}(hl : PE X l tl) : PI X tg l (oT tl) := by
  intro pins s σ H R I h
  refine thn (hl pins s σ H _ I h) fun v s1 zq1 => ?_
  obtain ⟨x, H1, I1, r1, d, kvs, rfl, e, q⟩ := zq1
  cases r1
  obtain ⟨z, hd, vs, rel, o, es, ep, g, ex, he, r⟩ := hE I1.hok e
  have I2 : Inv X pins σ (upd H1 d (.frz o (.dK kvs))) s1 := dh (t' := s1.toks) I1 (by rw [e];exact True.intro) ⟨rfl, fun _ _ => rfl⟩ ⟨o, g⟩ ⟨g, z, hd, vs, rel, o, es, ep, g, ex, he, r⟩
  refine wpAny_pyIter_dict hd ⟨o, es, g, ex, he, r⟩ ?_
  refine ⟨s1.heap.objs.size, [s1.heap.objs.size], _, Itk d o kvs, _, rfl, I2.kept (t' := s1.toks) fun b o e => Heap.get?_push_of_some _ e, dw he, ⟨_, Heap.get?_push_size _ rfl, rfl, by rw [Paired.length rel];rfl⟩, fun b hb => ?_, q o⟩
  have e : b=s1.heap.objs.size := by simpa using hb
  subst e
  exact I2.fpOk (Nat.le_refl _) (I2.hok.fresh (Nat.le_refl _))
end
end L2
set_option Elab.async false
set_option linter.all false
set_option maxRecDepth 100000
set_option maxHeartbeats 0
namespace PySem
open Sem (wp)
namespace F
end F
section
variable {prog : Program} {w : World} {A : Around} {E : Value → Shared → Prop} {s : Shared} {a : Addr} {its : Array Value} {n : Nat} {sl : Array (Option Value)}
end
end PySem
namespace L2
open PySem PySem.Spec PyProof.Rows Wd
theorem i9 : ∀ {ns : List Int} {us : List Value}, aL (ns.map V.int) us → ∃ ps : List (Int × Tok), us=ps.map (fun p => Value.int p.1 p.2) ∧ ps.map Prod.fst=ns
  | [], _, .nil => ⟨[], rfl, rfl⟩
  | n::ns, _, .cons r q => by
    obtain ⟨ps, rfl, e⟩ := i9 q
    obtain ⟨t, rfl⟩ := r
    exact ⟨(n, t)::ps, rfl, by rw [List.map_cons, e]⟩
section
variable {X : Cx}
inductive d6 (K : PySem.W.Frag)(xs : List V)(H : Hp)(Q : VK) : Prop
  | mk : ∀ (l : Addr) (ns : List Int), xs=[.ref l] → SqL K H l (ns.map V.int) → Q (.int ns.sum) H → d6 K xs H Q
theorem jZ (hc : X.calm=true) : cC X (.builtin "sum") (d6 X.K) := by
  intro pins s σ H xs us Q I r h
  obtain ⟨l, ns, rfl, hq, q⟩ := h
  obtain ⟨u, rfl, ru⟩ := cD r
  cases ru
  obtain ⟨its, rv, pl, _⟩ := I.list hq
  obtain ⟨ps, rfl, e⟩ := i9 rv
  have hl : s.heap.IsList l (intItems ps.toArray) := by
    have := pl.isList
    unfold intItems
    simpa using this
  refine sum_intListG (I.ok.hd hc) hl fun h' tk t' hk => ?_
  refine ⟨.int ns.sum, H, I.kept hk, ⟨t', ?_⟩, q⟩
  rw [preSum_eq, List.take_of_length_le (by simp)]
  have : (ps.toArray.toList.map Prod.fst)=ns := by simpa using e
  exact congrArg (fun l : List Int => Value.int l.sum t') this
end
section
variable {P : Program} {w : World} {A : Around} {E : Value → Shared → Prop} {I : Addr} {fp wr : List Addr} {G : Array GenState → Array GenState → Prop} {n : Nat} {Pv : Nat → Value → Prop} {St' : Nat → Shared → Prop}
end
end L2
set_option Elab.async false
set_option linter.all false
set_option maxRecDepth 100000
set_option maxHeartbeats 0
namespace L2
open PySem PySem.Spec PyProof.Rows Wd
section
variable {X : Cx}
end
end L2
set_option Elab.async false
set_option linter.all false
set_option maxRecDepth 100000
set_option maxHeartbeats 0
namespace L2
open PySem PySem.Spec PyProof.Rows Wd
section
variable {X : Cx}
end
end L2
set_option Elab.async false
set_option linter.all false
set_option maxRecDepth 100000
namespace L2
open PySem PySem.Spec PyProof.Rows
section
variable {X : Cx} {x : Str} {ps : List Str} {k j : Nat} {sp : Sp} {e : Expr} {es : List Expr} {t : TA} {p pos : Pos}
end
section
variable {prog : Program} {w : World} {A : Around} {E : Value → Shared → Prop} {h : Heap} {g : Array GenState} {d : Drawn} {t : Nat} {os : OsState} {K : PySem.W.Frag} {C : Addr} {bm : List Value}
end
end L2
set_option Elab.async false
set_option linter.all false
set_option maxRecDepth 100000
set_option maxHeartbeats 0
namespace Kx
open PySem PySem.Spec PyProof.Rows L2 Wd
theorem kN : bootBuiltins "ValueError" = some (.type "ValueError") := by first | rfl | decide +kernel | kernel_rfl
theorem dec_int (j n : Nat) : decide (V.int (0+(j : Int))=V.int (n : Int))=decide (n=j) := by
  by_cases e : n=j
  · subst e;simp
  · rw [decide_eq_false e, decide_eq_false]
    intro z
    have := V.int.inj z
    omega
end Kx
set_option Elab.async false
set_option linter.all false
set_option maxRecDepth 100000
set_option maxHeartbeats 0
namespace L2
open PySem PySem.Spec PyProof.Rows Wd
section
variable {X : Cx}
end
end L2
namespace Kx
open PySem PySem.Spec PyProof.Rows L2 Wd
theorem nt : bootBuiltins "sum" = some (.builtin "sum") := by kernel_rfl
end Kx
set_option Elab.async false
set_option linter.all false
set_option maxRecDepth 100000
set_option maxHeartbeats 0
namespace L2
open PySem PySem.Spec PyProof.Rows Wd
def VwO (v d : Addr) : HO := .ext fun h => h.IsValuesView v d
theorem VwO.lay {P : Program}{w : World}{H : Hp}{h : Heap}{v d : Addr}(x : h.IsValuesView v d) : bp P w H h v (VwO v d) := by
  refine ⟨x, ?_, fun h1 h2 y k => ?_⟩
  · obtain ⟨o, e, _⟩ := x
    exact ⟨o, e⟩
  · obtain ⟨o, e, r⟩ := y
    exact ⟨o, k _ e, r⟩
section
variable {X : Cx} {o : Expr} {apos cpos : Pos} {to : TE}
inductive i_ (Q : VK)(x : V)(H1 : Hp) : Prop
  | mk : ∀ d kvs, (x = .ref d) → (H1 d=some (.dK kvs)) → (∀ v, H1 v=none → Q (.ref v) (upd H1 v (VwO v d))) → i_ Q x H1
def oU (to : TE) : TE := fun σ H Q => to σ H (i_ Q)
theorem ja (ho : PE X o to)(hbase : attributeBase o "values" X.env (eval o X.env)=eval o X.env := by rfl)(hline : (apos.endLine == cpos.line)=true := by rfl) : PE X (.Call (.Attribute o "values" apos) [] [] cpos) (oU to) := by
  intro pins s σ H Q I h
  refine wpAny_Call_method0_late hbase hline (thn (ho pins s σ H _ I h) fun v s1 zq65 => ?_)
  obtain ⟨x, H1, I1, r1, d, kvs, rfl, e, q⟩ := zq65
  cases r1
  obtain ⟨t1, t2, hd⟩ := kD I1 (.inl ⟨kvs, .inl e⟩)
  obtain ⟨z, _, vs, rel, dd⟩ := hE I1.hok e
  refine ⟨"dict", "dict.values", PySem.F.plainAttrs_dict, PySem.F.slot_dict_values, PySem.F.type_dict_values, t1, t2, Calls.callWith_builtin rfl (PySem.evalArgs_none ?_)⟩
  refine call_meetsIn PySem.F.slot_dict_values dd.typeIs PySem.F.entry_dict_values (PySem.F.args_dict_values_1 _) (meets_dict_values (aD X.prog X.w) d hd) ⟨⟨_, dd⟩, ?_⟩
  refine ⟨.ref s1.heap.objs.size, _, I1.laid (t' := s1.toks) (fun b o e => Heap.get?_push_of_some _ e) (Nat.le_refl _) (VwO.lay ⟨_, Heap.get?_push_size _ rfl, rfl, rfl⟩), rfl, q _ (I1.hok.fresh (Nat.le_refl _))⟩
inductive dy (xs : List V)(H : Hp)(Q : VK) : Prop
  | mk : ∀ (v d : Addr) (kvs : List (Key × V)) (ns : List Int), xs=[.ref v] → H v=some (VwO v d) → H d=some (.dK kvs) → kvs.map Prod.snd=ns.map V.int → Q (.int ns.sum) H → dy xs H Q
theorem fi {val : Nat → Int} : ∀ {ns : List Int}, (∀ i n, ns[i]? = some n → val i=n) → ∀ j, j≤ns.length → preSum val j=(ns.take j).sum
  | ns, h, 0, _ => by simp [preSum]
  | ns, h, j+1, hj => by
    have e := List.getElem?_eq_getElem (show j < ns.length by omega)
    rw [preSum, fi h j (by omega), h j _ e, List.take_add_one, e, List.sum_append]
    simp
theorem fj {α β : Type}{R : α → β → Prop} : ∀ {xs : List α} {ys : List β}, Paired R xs ys → ∀ {i : Nat} {y : β}, ys[i]? = some y → ∃ x, xs[i]? = some x ∧ R x y
  | _, _, .nil, i, x, h => by simp at h
  | _, _, .cons r q, 0, x, h => by cases h;exact ⟨_, rfl, r⟩
  | _, _, .cons r q, i+1, x, h => fj q (i := i) (by simpa using h)
theorem jb (hc : X.calm=true) : cC X (.builtin "sum") dy := by
  intro pins s σ H xs us Q I r h
  obtain ⟨v, d, kvs, ns, rfl, hv, hd, hn, q⟩ := h
  obtain ⟨u, rfl, ru⟩ := cD r
  cases ru
  obtain ⟨z, hds, vs, rel, o, es, ep, g, ex, he, r⟩ := hE I.hok hd
  have hV : s.heap.IsValuesView v d := (I.hok v _ hv).1
  have hlen : vs.length=kvs.length := (Paired.length rel).symm
  have hnl : ns.length=kvs.length := by have := congrArg List.length hn;simpa using this.symm
  have hm : s.heap.DictAt (aD X.prog X.w) d vs ep := ⟨o, es, g, ex, he, r⟩
  have hlt : d < s.heap.objs.size := Heap.lt_size g
  refine call_sum_walkG (wpAny_pyIter_values hV hm ?_)
  refine ⟨_, _, _, _, _, _, fun i => ns.getD i 0, rfl, Walks.dictValues (A := X.A.in1) (I.ok.hd hc) _ d (Nat.ne_of_lt hlt) vs ep, ⟨⟨_, Heap.get?_push_size _ rfl, rfl, rfl⟩, hm.at' fun o e => Heap.get?_push_of_some _ e⟩, fun b hb => ?_, fun i x hP => ?_, fun h' tk t' hk => ?_⟩
  · have hb : b=s.heap.objs.size ∨ b=d := by simpa using hb
    have e : (s.heap.push { cls := .type "dict_valueiterator", data := .fields #[.ref d, .int 0 0, .int vs.length 0, .int ep 0] }).objs.size=s.heap.objs.size+1 := Array.size_push ..
    show b < (s.heap.push _).objs.size
    rw [e]
    rcases hb with rfl | rfl
    · exact Nat.lt_succ_self _
    · exact Nat.lt_succ_of_lt hlt
  · obtain ⟨k, hx⟩ := hP
    obtain ⟨⟨k', y⟩, hy, _, ry⟩ := fj rel hx
    have e2 : (kvs.map Prod.snd)[i]? = some y := by rw [List.getElem?_map, hy];rfl
    rw [hn, List.getElem?_map] at e2
    obtain ⟨n, hn2, rfl⟩ := Option.map_eq_some_iff.mp e2
    obtain ⟨t, rfl⟩ := ry
    refine ⟨t, ?_⟩
    show Value.int n t=Value.int (ns.getD i 0) t
    rw [List.getD_eq_getElem?_getD, hn2]
    rfl
  · have old : ∀ b o, s.heap.get? b=some o → h'.get? b=some o := fun b o e => hk b o (fun z => by rw [List.mem_singleton.mp z] at e;exact absurd (Heap.lt_size e) (Nat.lt_irrefl _)) (Heap.get?_push_of_some _ e)
    refine ⟨.int ns.sum, H, I.kept old, ⟨t', ?_⟩, q⟩
    rw [hlen, ← hnl, fi (ns := ns) (fun i n e => by rw [List.getD_eq_getElem?_getD, e];rfl) _ (Nat.le_refl _), List.take_length]
inductive nu (x : V)(vs : List V)(H : Hp)(Q : VK) : Prop
  | mk : ∀ z y, (x = .str z) → (vs=[.str y]) → (Q (.bl (Txt.endswith z y)) H) → nu x vs H Q
theorem jc : MtR X "str.endswith" nu := by
  intro pins s σ H x vs v us Q I rx rv h
  obtain ⟨z, y, rfl, rfl, q⟩ := h
  obtain ⟨t, rfl⟩ := rx
  obtain ⟨u1, rfl, ⟨t1, rfl⟩⟩ := cD rv
  exact SC.endswith ⟨.bl _, H, I, rfl, q⟩
end
end L2
set_option Elab.async false
set_option linter.all false
set_option maxRecDepth 100000
namespace PySem
open Sem (wp)
end PySem
set_option Elab.async false
set_option linter.all false
set_option maxRecDepth 100000
namespace PySem
open Sem (wp)
section
variable {prog : Program} {w : World} {A : Around} {E : Value → Shared → Prop} {s : Shared}
section
variable {R : Result → Shared → Prop} {I : Addr} {fp wr : List Addr} {G : Array GenState → Array GenState → Prop} {n : Nat} {P : Nat → Value → Prop} {St : Nat → Shared → Prop}
end
end
end PySem
set_option Elab.async false
set_option linter.all false
set_option maxRecDepth 100000
namespace PySem
open Sem (wp)
section
variable {prog : Program} {w : World} {A : Around} {E : Value → Shared → Prop} {s : Shared}
end
end PySem
namespace L2
open PySem PySem.Spec PyProof.Rows
section
variable {prog : Program} {w : World} {A : Around} {E : Value → Shared → Prop} {s : Shared}
end
end L2
set_option Elab.async false
set_option linter.all false
set_option maxRecDepth 100000
namespace Ts
open PySem PyProof.Rows
end Ts
namespace L2
open PySem PySem.Spec PyProof.Rows Wd Ts
section
variable {prog : Program} {w : World} {A : Around} {E : Value → Shared → Prop} {s : Shared}
end
section
variable {X : Cx}
end
end L2
set_option Elab.async false
set_option linter.all false
set_option maxRecDepth 100000
namespace L2
open PySem PySem.Spec PyProof.Rows Ts
section
variable {X : Cx}
end
end L2
set_option Elab.async false
set_option linter.all false
set_option maxRecDepth 100000
namespace L2
open PySem PySem.Spec PyProof.Rows
section
variable {X : Cx}
end
end L2
set_option Elab.async false
set_option linter.all false
set_option maxRecDepth 100000
namespace L2
open PySem PySem.Spec PyProof.Rows
theorem j0 : ∀ bs : List Bool, ((List.range bs.length).any fun i => bs.getD i true)=bs.any id := fun bs => by
  rw [Bool.eq_iff_iff, List.any_eq_true, List.any_eq_true]
  constructor
  · rintro ⟨i, hi, e⟩
    have hi := List.mem_range.mp hi
    rw [List.getD_eq_getElem?_getD, List.getElem?_eq_getElem hi] at e
    exact ⟨_, List.getElem_mem hi, e⟩
  · rintro ⟨b, hb, e⟩
    obtain ⟨i, hi, rfl⟩ := List.mem_iff_getElem.mp hb
    exact ⟨i, List.mem_range.mpr hi, by rw [List.getD_eq_getElem?_getD, List.getElem?_eq_getElem hi];exact e⟩
section
variable {X : Cx}
inductive oV (K : PySem.W.Frag)(xs : List V)(H : Hp)(Q : VK) : Prop
  | mk : ∀ (l : Addr) (bs : List Bool), (xs=[.ref l]) → (SqL K H l (bs.map V.bl)) → (Q (.bl (bs.any id)) H) → oV K xs H Q
theorem dO (hc : X.calm=true) : cC X (.builtin "any") (oV X.K) := by
  intro pins s σ H xs us Q I r h
  obtain ⟨l, bs, rfl, hq, q⟩ := h
  obtain ⟨u, rfl, ru⟩ := cD r
  cases ru
  obtain ⟨its, rv, pl, _⟩ := I.list hq
  have hl := pl.isList
  have hlen : its.length=bs.length := by rw [← rv.length, List.length_map]
  have hlt : l < s.heap.objs.size := by obtain ⟨_, e, _⟩ := hl;exact Heap.lt_size e
  refine call_any_walk (wpAny_pyIter_list hl ?_)
  refine ⟨_, _, _, _, _, _, fun i => bs.getD i true, rfl, Walks.list (A := X.A.in1) (I.ok.hd hc) _ l (Nat.ne_of_lt hlt) its.toArray, ⟨⟨_, Heap.get?_push_size _ rfl, rfl, rfl⟩, hl.push _⟩, ?_, fun h' tk hk => ?_⟩
  · intro i v s' Q' E' hP hQ'
    have hP : its[i]? = some v := by simpa using hP
    obtain ⟨b, hb, e⟩ := gG rv hP
    subst e
    have : bs.getD i true=b := by rw [List.getD_eq_getElem?_getD, hb];rfl
    have hQ' : Q' (bs.getD i true) s' := hQ'
    rw [this] at hQ'
    exact wpAny_truthy_bool hQ'
  · have old : ∀ b o, s.heap.get? b=some o → h'.get? b=some o := fun b o e => hk b o (fun z => by rw [List.mem_singleton.mp z] at e;exact absurd (Heap.lt_size e) (Nat.lt_irrefl _)) (Heap.get?_push_of_some _ e)
    refine ⟨.bl _, H, I.kept old, rfl, ?_⟩
    have e : ((List.range its.toArray.size).any fun i => bs.getD i true)=bs.any id := by
      rw [List.size_toArray, hlen]
      exact j0 bs
    rw [e]
    exact q
theorem oW : bootBuiltins "any" = some (.builtin "any") := by kernel_rfl
end
end L2
set_option Elab.async false
set_option linter.all false
set_option maxRecDepth 100000
set_option maxHeartbeats 0
namespace L2
open PySem PySem.Spec PyProof.Rows Wd
theorem fk {x : Str} : ∀ {names : List (Str × NameKind)}, names.filter (fun y => y.2 == .cell)=[(x, .cell)] → ∀ (n : Nat) (acc : List (Str × Addr)) (h : Heap), cellsFrom n names acc=(x, n)::acc ∧ pushCells h names=h.push { cls := .type "cell", data := .cell none }
  | [], e, _, _, _ => by cases e
  | (y, k)::r, e, n, acc, h => by
    by_cases hk : (k == NameKind.cell)=true
    · rw [List.filter_cons_of_pos (by simpa using hk)] at e
      have e1 := (List.cons.inj e).1
      have e2 := (List.cons.inj e).2
      have no : ∀ (r : List (Str × NameKind)), r.filter (fun y => y.2 == .cell)=[] → ∀ (n : Nat) (acc : List (Str × Addr)) (h : Heap), cellsFrom n r acc=acc ∧ pushCells h r=h := fun r => by
        induction r with
        | nil => intro _ n acc h;exact ⟨rfl, rfl⟩
        | cons p r ih =>
          intro e n acc h
          obtain ⟨z, k2⟩ := p
          by_cases h2 : (k2 == NameKind.cell)=true
          · rw [List.filter_cons_of_pos (by simpa using h2)] at e;cases e
          · rw [List.filter_cons_of_neg (by simpa using h2)] at e
            unfold cellsFrom pushCells
            rw [if_neg h2, if_neg h2]
            exact ih e n acc h
      have ey : y=x := congrArg Prod.fst e1
      subst ey
      unfold cellsFrom pushCells
      rw [if_pos hk, if_pos hk]
      exact no r e2 _ _ _
    · rw [List.filter_cons_of_neg (by simpa using hk)] at e
      unfold cellsFrom pushCells
      rw [if_neg hk, if_neg hk]
      exact fk e n acc h
theorem j1 {M : Model}{A : Around}{E : Value → Shared → Prop}{s : Shared}{scope : Scope}{globals : Addr}{closure : List (Str × Addr)}{qual : Str}{func : Option Addr}{code : Value}{outer : Env}{builtins : Addr}{Q : Env → Shared → Prop}{x : Str}
    (hx : scope.names.filter (fun y => y.2 == .cell)=[(x, .cell)])
    (hQ : Q (newEnv scope s.heap.objs.size globals ((x, s.heap.objs.size+1)::closure) qual func code (some outer) builtins) { s with heap := (s.heap.push { cls := .type "dict", data := .dict #[] }).push { cls := .type "cell", data := .cell none } }) :
    wpAny M A (newFunctionEnv scope globals closure [] qual func code (some outer) builtins) Q E s := by
  simp only [newFunctionEnv, Option.isSome_some, if_true]
  refine wpAny_bind (wpAny_alloc ?_)
  refine wpAny_bind (wpAny_layCells _ (fun name kind cells => by cases hkc : kind == NameKind.cell <;> simp [hkc]) _ _ _ _ ?_)
  obtain ⟨e1, e2⟩ := fk hx (s.heap.push { cls := .type "dict", data := .dict #[] }).objs.size closure (s.heap.push { cls := .type "dict", data := .dict #[] })
  dsimp only
  rw [e1, e2, Heap.size_push]
  refine wpAny_bind ?_
  rw [List.forIn_nil]
  exact wpAny_pure (wpAny_pure hQ)
def kO (scope sc : Scope)(NB own : List Str)(cap : List Nat)(N : List Str)(x : Str) : Bool :=
  (scope.kind == .function) && (sc.kind == .function) &&
  (scope.names.all fun y => match y.2 with
    | .cell => true
    | .free => sc.names.lookup y.1 == some NameKind.cell
    | .local => scope.names.lookup y.1 == some NameKind.local
    | _ => true) &&
  (own.all fun z => scope.names.all fun y => !(y.1 == z) || !(y.2 == NameKind.free)) &&
  (NB == own++cap.map fun i => N.getD i "") && (cap.all fun i => decide (i < N.length) && scope.names.lookup (N.getD i "") == some NameKind.free) &&
  (scope.names.filter (fun y => y.2 == .cell) == [(x, .cell)]) && (scope.names.lookup x == some NameKind.cell)
structure jF (X : Cx) (scope : Scope) (NB own : List Str) (cap : List Nat) (xc : Str) : Prop where
  kind : scope.kind = .function
  outk : X.env.scope.kind = .function
  one : scope.names.filter (fun y => y.2 == .cell)=[(xc, .cell)]
  isc : scope.names.lookup xc=some .cell
  free : ∀ y∈scope.names, y.2 = .free → X.env.kindOf y.1=some .cell
  names : ∀ y∈scope.names, y.2 = .local → scope.names.lookup y.1=some .local
  owns : ∀ x∈own, ∀ y∈scope.names, y.1=x → y.2 ≠ .free
  nb : NB=own++cap.map fun i => X.N.getD i ""
  caps : ∀ i∈cap, i < X.N.length ∧ scope.names.lookup (X.N.getD i "")=some .free
theorem lO {X : Cx}{scope sc : Scope}{NB own : List Str}{cap : List Nat}{xc : Str}(hs : X.env.scope=sc)(h : kO scope sc NB own cap X.N xc=true) : jF X scope NB own cap xc := by
  unfold kO at h
  simp only [Bool.and_eq_true] at h
  obtain ⟨⟨⟨⟨⟨⟨⟨h1, h2⟩, h3⟩, h4⟩, h5⟩, h6⟩, h7⟩, h8⟩ := h
  rw [List.all_eq_true] at h3 h4 h6
  subst hs
  refine ⟨by simpa using h1, by simpa using h2, by simpa using h7, by simpa using h8, fun y hy e => ?_, fun y hy e => ?_, fun x hx y hy e => ?_, by simpa using h5, fun i hi => ?_⟩
  · have := h3 y hy
    rw [e] at this
    show X.env.scope.names.lookup y.1=some .cell
    simpa using this
  · have := h3 y hy
    rw [e] at this
    simpa using this
  · have := h4 x hx
    rw [List.all_eq_true] at this
    have q := this y hy
    subst e
    simpa using q
  · have := h6 i hi
    simp only [Bool.and_eq_true] at this
    exact ⟨of_decide_eq_true this.1, by simpa using this.2⟩
def cxC (X : Cx)(NB own : List Str)(scope : Scope)(C : Addr)(cells : List (Str × Addr))(fp : List Addr)(s₀ : Shared)(H₀ : Hp) : Cx where
  prog := X.prog
  w := X.w
  K := X.K
  mg := X.mg
  base := X.base
  A := X.A
  N := NB
  s₀ := s₀
  H₀ := H₀
  env := compEnvC scope cells C X.env
  outer := X.stack
  stack := X.stack
  ex := fp
  fn := fun x => own.contains x
  calm := X.calm
  pn := []
  xe := fun _ _ => False
theorem bM {env : Env}{x xc : Str}{k : NameKind}(hk : k = .cell ∨ k = .free) : ∀ {names : List (Str × NameKind)}, (∀ y∈names, y.2 = .cell → y.1=xc) →
    (names.map fun (n, k) => if (k == NameKind.free && env.scope.kind == .function && env.kindOf n == some .cell) then (n, NameKind.cell) else (n, k)).lookup x=some k → x=xc ∨ (x, NameKind.free)∈names
  | [], _, h => by simp at h
  | (n, q)::r, hn, h => by
    have ih := @bM env x xc k hk r fun y hy => hn y (List.mem_cons_of_mem _ hy)
    rw [List.map_cons, List.lookup_cons] at h
    have key : (if (q == NameKind.free && env.scope.kind == .function && env.kindOf n == some .cell)=true then (n, NameKind.cell) else (n, q)).1=n := by split <;> rfl
    by_cases e : (x == n)=true
    · have en : x=n := by simpa using e
      subst en
      by_cases hq : q = .free
      · subst hq;exact .inr List.mem_cons_self
      · have hqf : (q == NameKind.free)=false := by simpa using hq
        simp only [hqf, Bool.false_and, Bool.false_eq_true, if_false, beq_self_eq_true] at h
        have h' : q=k := Option.some.inj h
        rcases hk with z | z
        · exact .inl (hn (x, q) List.mem_cons_self (h'.trans z))
        · exact absurd (h'.trans z) hq
    · have e' : (x == n)=false := by simpa using e
      have e2 : (x == (if (q == NameKind.free && env.scope.kind == .function && env.kindOf n == some .cell)=true then (n, NameKind.cell) else (n, q)).1)=false := by rw [key];exact e'
      rw [e2] at h
      rcases ih h with z | z
      · exact .inl z
      · exact .inr (List.mem_cons_of_mem _ z)
section
variable {X : Cx} {pins : List (Addr × Obj)} {σ : St} {H : Hp} {s : Shared} {scope : Scope} {NB own : List Str} {cap : List Nat} {fp : List Addr} {C c : Addr} {xc : Str}
theorem jF.cells (B : jF X scope NB own cap xc)(ok : X.Ok){x : Str}{b : Addr}(h : ((xc, c)::cg X.env.cells scope.names []).lookup x=some b) : (x=xc ∧ b=c) ∨ (X.env.cells.lookup x=some b ∧ (x, NameKind.free)∈scope.names) := by
  rw [List.lookup_cons] at h
  by_cases e : (x == xc)=true
  · rw [e] at h
    exact .inl ⟨by simpa using e, (Option.some.inj h).symm⟩
  · rw [show (x == xc)=false by simpa using e] at h
    right
    rcases cR (PySem.mem_of_lookup h) with q | ⟨q, e⟩
    · simp at q
    · obtain ⟨d, hd⟩ := ok.has x (.inl (B.free (x, .free) q rfl))
      have e : b=(X.env.cells.lookup x).getD 0 := e
      rw [hd] at e
      refine ⟨?_, q⟩
      rw [hd, e];rfl
theorem jF.cell (B : jF X scope NB own cap xc){x : Str}(h : x=xc ∨ (x, NameKind.free)∈scope.names) : ∃ b, ((xc, c)::cg X.env.cells scope.names []).lookup x=some b := by
  rw [List.lookup_cons]
  by_cases e : (x == xc)=true
  · rw [e];exact ⟨_, rfl⟩
  · rw [show (x == xc)=false by simpa using e]
    rcases h with h | h
    · exact absurd (by rw [h];exact beq_self_eq_true _) e
    · exact bJ (cT h)
theorem jF.cellOnly (B : jF X scope NB own cap xc) : ∀ y∈scope.names, y.2 = .cell → y.1=xc := fun y hy e => by
  have : y∈scope.names.filter (fun y => y.2 == .cell) := List.mem_filter.mpr ⟨hy, by simp [e]⟩
  rw [B.one] at this
  rw [List.mem_singleton.mp this]
theorem jF.start (B : jF X scope NB own cap xc)(I : Inv X pins σ H s)(hf : ∀ b∈fp, fN X pins H b)(hfs : ∀ b∈fp, ∃ o, s.heap.get? b=some o){h' : Heap}{tk : Nat}{m : Str → Option Value}(hC : s.heap.objs.size≤C)(hc : s.heap.objs.size≤c)
    (k : ∀ b o, s.heap.get? b=some o → h'.get? b=some o) (hn : h'.Ns C m) (hcel : h'.IsCell c none) :
    Inv (cxC X NB own scope C ((xc, c)::cg X.env.cells scope.names []) fp s H) [] (stB own cap σ) H { s with heap := h', toks := tk } := by
  have hlen : NB.length=own.length+cap.length := by rw [B.nb];simp
  have oldc : ∀ {x b}, X.env.cells.lookup x=some b → b < s.heap.objs.size := fun h => by
    obtain ⟨v, o, ho, _⟩ := I.cell _ _ h
    exact Heap.lt_size ho
  have okB : (cxC X NB own scope C ((xc, c)::cg X.env.cells scope.names []) fp s H).Ok := by
    refine ⟨I.ok.mod, B.kind, I.ok.glob, I.ok.blt, hC, fun x y b h1 h2 => ?_, fun x hx => ?_, fun x b h1 h2 => ?_, I.ok.hd, I.ok.frames, .inl rfl, fun b hb => ⟨?_, fun x d h => ?_⟩, I.bs, Nat.le_trans I.ok.bsz I.sz, fun b o e hb => ?_, fun b hb z => ?_, I.stack, I.stkFree⟩
    · rcases B.cells I.ok h1 with ⟨a1, a2⟩ | ⟨a1, _⟩ <;> rcases B.cells I.ok h2 with ⟨b1, b2⟩ | ⟨b1, _⟩
      · rw [a1, b1]
      · rw [a2] at b1;exact absurd (Nat.lt_of_lt_of_le (oldc b1) hc) (Nat.lt_irrefl _)
      · rw [b2] at a1;exact absurd (Nat.lt_of_lt_of_le (oldc a1) hc) (Nat.lt_irrefl _)
      · exact I.ok.inj x y b a1 b1
    · refine B.cell ?_
      rcases hx with z | z
      · exact bM (.inl rfl) B.cellOnly z
      · exact bM (.inr rfl) B.cellOnly z
    · rcases B.cells I.ok h2 with ⟨_, a2⟩ | ⟨_, a2⟩
      · rw [a2];exact hc
      · have hx : x∈own := by simpa [cxC] using h1
        exact absurd rfl (B.owns x hx _ a2 rfl)
    · obtain ⟨o, e⟩ := hfs b hb
      exact Nat.ne_of_lt (Nat.lt_of_lt_of_le (Heap.lt_size e) hC)
    · rcases B.cells I.ok h with ⟨_, a2⟩ | ⟨a1, _⟩
      · obtain ⟨o, e⟩ := hfs b hb
        rw [a2]
        exact (Nat.ne_of_lt (Nat.lt_of_lt_of_le (Heap.lt_size e) hc)).symm
      · exact (hf b hb).2.2.2.2.1 x d a1
    · have hb : b∈fp := hb
      rcases (hf b hb).2.2.2.1 with z | z
      · exact I.ok.noex b o e z
      · exact absurd (Nat.lt_of_lt_of_le (Heap.lt_size e) (Nat.le_trans I.ok.bsz z)) (Nat.lt_irrefl _)
    · rcases List.mem_cons.mp (I.stkSub b z) with z | z
      · exact (hf b hb).2.1 z
      · exact (hf b hb).2.2.1 z
  refine ⟨okB, rfl, I.bare, Un.kept k, ⟨m, hn, fun i x v e1 e2 e3 => ?_⟩, fun x b h => ?_, I.hok.fresh hC, fun x b h => ?_, fun p hp => absurd (show p∈([] : List (Addr × Obj)) from hp) (by simp), I.hok.kept k, ?_⟩
  · have e1 : NB[i]? = some x := e1
    have hi : ¬ i < own.length := fun hi => by
      unfold stB at e2
      rw [List.getElem?_append_left (by simpa using hi), List.getElem?_map] at e2
      cases q : own[i]? <;> rw [q] at e2 <;> cases e2
    unfold stB at e2
    rw [List.getElem?_append_right (by simpa using hi), List.getElem?_map] at e2
    rw [B.nb, List.getElem?_append_right (by omega), List.getElem?_map] at e1
    simp only [List.length_map] at e2
    cases q : cap[i - own.length]? with
    | none => rw [q] at e1;cases e1
    | some j =>
      rw [q] at e1 e2
      have ex : X.N.getD j "" = x := Option.some.inj e1
      have ev : (σ[j]?).getD none=some v := Option.some.inj e2
      obtain ⟨hj, hjf⟩ := B.caps j (List.mem_of_getElem? q)
      rw [ex] at hjf
      have hN : X.N[j]? = some x := by rw [← ex, List.getD_eq_getElem?_getD, List.getElem?_eq_getElem hj];rfl
      have hσ : σ[j]? = some (some v) := by
        cases z : σ[j]? with
        | none => rw [z] at ev;cases ev
        | some u => rw [z] at ev;exact congrArg some ev
      have hmem : (x, NameKind.free)∈scope.names := PySem.mem_of_lookup hjf
      have hkc := B.free _ hmem rfl
      have nx : x≠xc := fun z => by rw [z, B.isc] at hjf;cases hjf
      obtain ⟨m0, hn0, hl⟩ := I.loc
      obtain ⟨u, r, l⟩ := hl j x v hN hσ (.inr (.inl hkc))
      refine ⟨u, r, .inr ⟨.inl (cj B.outk hkc hjf), ?_⟩⟩
      obtain ⟨b, hb⟩ := B.cell (c := c) (.inr hmem)
      refine ⟨b, hb, ?_⟩
      rcases l with ⟨z, _⟩ | ⟨_, c', hc', ⟨oc, hoc, hd⟩⟩
      · rw [show X.env.kindOf x=some .cell from hkc] at z;cases z
      · rcases B.cells I.ok hb with ⟨z, _⟩ | ⟨this, _⟩
        · exact absurd z nx
        · rw [hc'] at this
          have : c'=b := Option.some.inj this
          subst this
          exact ⟨oc, k _ _ hoc, hd⟩
  · rcases B.cells I.ok h with ⟨_, a2⟩ | ⟨a1, _⟩
    · rw [a2];exact ⟨none, hcel⟩
    · obtain ⟨v, oc, hoc, hd⟩ := I.cell x b a1
      exact ⟨v, oc, k _ _ hoc, hd⟩
  · rcases B.cells I.ok h with ⟨_, a2⟩ | ⟨a1, _⟩
    · rw [a2];exact I.hok.fresh hc
    · exact I.freeC x b a1
  · show (stB own cap σ).length=NB.length
    unfold stB
    rw [hlen];simp
theorem jd {cells : List (Str × Addr)}(I : Inv X pins σ H s)(hf : ∀ b∈fp, fN X pins H b){σB : St}{H' : Hp}{s' : Shared}{h'' : Heap}{D : Addr}{ys : List V}{its : List Value}{n : Nat}(hC : s.heap.objs.size≤C)(hD : s.heap.objs.size≤D)(hDC : D≠C)
    (J : Inv (cxC X NB own scope C cells fp s H) [] σB H' s') (hn : H' D=none) (e : s'.heap.get? D=some { cls := .type "list", data := .seq its.toArray n }) (hv : aL ys its) (hz : ys.length≤sizeLine)
    (sb : Heap.SameBut C s'.heap h'') : Inv X pins σ (upd H' D (.lst ys)) { s' with heap := h'' } := by
  have un : Un (frs X.stack) fp H H' s.heap s'.heap := J.base
  have neC : ∀ {b o}, s.heap.get? b=some o → b≠C := fun q => Nat.ne_of_lt (Nat.lt_of_lt_of_le (Heap.lt_size q) hC)
  have neD : ∀ {b o}, s.heap.get? b=some o → b≠D := fun q => Nat.ne_of_lt (Nat.lt_of_lt_of_le (Heap.lt_size q) hD)
  have hCn : H' C=none := J.free
  refine I.call' (s' := { s' with heap := h'' }) (ch := fp) J.os ⟨fun b o q n hb hx => ?_, fun b o q n hb hx => ?_, fun b o q n hx => ?_, fun b o q hx => ?_, fun b xs q => ?_, fun b o u q => ?_, fun b ps q => ?_⟩ (fun b u q => ?_) J.bare fun b hb => ?_
  · exact (sb.2 b (neC q)).trans (un.keep b o q n hb hx)
  · obtain ⟨sl, r⟩ := un.slot b o q n hb hx
    exact ⟨sl, (sb.2 b (neC q)).trans r⟩
  · rw [ak (neD q)]
    exact un.free b o q n hx
  · obtain ⟨o', r⟩ := un.there b o q hx
    exact ⟨o', (sb.2 b (neC q)).trans r⟩
  · have r := un.tups b xs q
    rw [ak (ab r hn)]
    exact r
  · have r := un.frzs b o u q
    rw [ak (ab r hn)]
    exact r
  · obtain ⟨more, r⟩ := un.tbls b ps q
    exact ⟨more, by rw [ak (ab r hn)];exact r⟩
  · by_cases hb : b=D
    · subst hb
      rw [ae] at q
      cases q
      exact ⟨hz, its, n, hv, (sb.2 b hDC).trans e⟩
    · rw [ak hb] at q
      refine (J.hok b u q).stay (fun c v hc r => (sb.2 c ?_).trans r) (fun c r => ?_) fun c xs r => ?_
      · rcases hc with z | z
        · rw [z];exact ab q hCn
        · exact ab z hCn
      · rw [ak (ab r hn)];exact r
      · rw [ak (ab r hn)];exact r
  · obtain ⟨_, f1, _, f3, f4, f5⟩ := hf b hb
    exact ⟨f3, f1, f4, f5⟩
end
theorem j2 {X : Cx}{elt iter tg : Expr}{ifs : List Expr}{scope : Scope}{pos : Pos}{NB own : List Str}{cap : List Nat}{xc : Str}{wi : TI}{g : TG}{ti : TT}{te : TE}(B : jF X scope NB own cap xc)(hc : X.calm=true)(hi : PI X tg iter wi)
    (hg : ∀ C cl fp s₀ H₀, PG (cxC X NB own scope C cl fp s₀ H₀) tg g) (ht : ∀ C cl fp s₀ H₀, PIf (cxC X NB own scope C cl fp s₀ H₀) ifs ti) (he : ∀ C cl fp s₀ H₀, PE (cxC X NB own scope C cl fp s₀ H₀) elt te)
    (hs : ∀ x, foldedSetIterable iter X.env x=pure x := by intro _;rfl) : PE X (.ListComp elt [⟨tg, iter, ifs, 0⟩] scope pos) (lE own cap wi g ti te) := by
  intro pins s σ H Q I0 h
  rw [eval_ListComp]
  have hclos := bK (env := X.env) (scope := scope) fun y hy e => I0.ok.has y.1 (.inl (B.free y hy e))
  refine wpAny_comprehension_free (use := none) rfl hs hclos B.kind B.names (thn (hi pins s σ H _ I0 h) fun v s1 h1 => thn h1 fun itv s2 h2 => ?_)
  obtain ⟨it, fp, tn, J, H2, rfl, I, T, st2, f2, W, ⟨m0, w0⟩, turn⟩ := h2
  refine wpAny_newList ?_
  refine j1 B.one ?_
  dsimp only
  generalize hP : s2.heap.push { cls := .type "list", dict := none, data := .seq ([] : List Value).toArray }=P
  generalize hh₁ : (P.push { cls := .type "dict", data := .dict #[] }).push { cls := .type "cell", data := .cell none }=h₁
  have hns₁ : h₁.Ns P.objs.size (fun _ => none) := by rw [← hh₁];exact (Heap.Ns.new P (.type "dict")).keeps fun b o e => Heap.get?_push_of_some _ e
  have hcel : h₁.IsCell (P.objs.size+1) none := by rw [← hh₁];exact ⟨_, by rw [← Heap.size_push P { cls := .type "dict", data := .dict #[] }];exact Heap.get?_push_size _ rfl, rfl⟩
  have hC : P.objs.size=s2.heap.objs.size+1 := by rw [← hP, Heap.size_push]
  have hDC : s2.heap.objs.size≠P.objs.size := by rw [hC];exact Nat.ne_of_lt (Nat.lt_succ_self _)
  have hCle : s2.heap.objs.size≤P.objs.size := by rw [hC];exact Nat.le_succ _
  have old : ∀ b o, s2.heap.get? b=some o → h₁.get? b=some o := fun b o e => by
    rw [← hh₁]
    exact Heap.get?_push_of_some _ (Heap.get?_push_of_some _ (hP ▸ Heap.get?_push_of_some _ e))
  have hD : h₁.get? s2.heap.objs.size=some { cls := .type "list", data := .seq ([] : List Value).toArray 0 } := by
    rw [← hh₁]
    refine Heap.get?_push_of_some _ (Heap.get?_push_of_some _ ?_)
    rw [← hP]
    exact Heap.get?_push_size _ rfl
  have hfs : ∀ b∈fp, ∃ o, s2.heap.get? b=some o := fun b hb => let ⟨o, e, _⟩ := T.obj _ _ st2 b hb;⟨o, e⟩
  have st4 : tn 0 h₁ := T.keep _ _ _ st2 fun b _ o e => old b o e
  generalize htk : s2.toks=tk4
  have I4 := B.start (C := P.objs.size) (c := P.objs.size+1) (tk := tk4) I f2 hfs hCle (Nat.le_succ_of_le hCle) old hns₁ hcel
  have fOk : ∀ {H' : Hp} {b : Addr} {ob : Obj}, b∈fp → H' b=none → fN (cxC X NB own scope P.objs.size ((xc, P.objs.size+1)::cg X.env.cells scope.names []) fp s2 H2) [(s2.heap.objs.size, ob)] H' b := fun {H' b ob} hb hn => by
    obtain ⟨o, e⟩ := hfs b hb
    refine ⟨hn, (I4.ok.exf b hb).1, I4.ok.exfs b hb, .inl hb, (I4.ok.exf b hb).2, fun p hp => ?_⟩
    have ep : p=(s2.heap.objs.size, ob) := List.mem_singleton.mp (show p∈[(s2.heap.objs.size, ob)] from hp)
    rw [ep]
    exact fun z => absurd (Heap.lt_size e) (by rw [← z];exact Nat.lt_irrefl _)
  have dnf : s2.heap.objs.size∉frs X.stack := fun z => by
    rcases List.mem_cons.mp (I.stkSub _ z) with z | z
    · exact absurd I.lt (by rw [← z];exact Nat.lt_irrefl _)
    · exact I.nofs (Nat.le_refl _) z
  have I3D : ∀ {σ3 : St} {H3 : Hp} {s3 : Shared} {its : List Value} {k : Nat}, Inv (cxC X NB own scope P.objs.size ((xc, P.objs.size+1)::cg X.env.cells scope.names []) fp s2 H2) [] σ3 H3 s3 → s3.heap.get? s2.heap.objs.size=some { cls := .type "list", data := .seq its.toArray k } → H3 s2.heap.objs.size=none →
      Inv (cxC X NB own scope P.objs.size ((xc, P.objs.size+1)::cg X.env.cells scope.names []) fp s2 H2) [(s2.heap.objs.size, { cls := .type "list", data := .seq its.toArray k })] σ3 H3 s3 := fun I3 e n => I3.pins_of fun p hp => by
    have ep := List.mem_singleton.mp hp
    subst ep
    exact ⟨e, n, hDC, dnf, fun v z => by cases z⟩
  have ndf : s2.heap.objs.size∉fp := fun z => by
    obtain ⟨o, e⟩ := hfs _ z
    exact absurd (Heap.lt_size e) (Nat.lt_irrefl _)
  have nCD : ∀ x c, (cxC X NB own scope P.objs.size ((xc, P.objs.size+1)::cg X.env.cells scope.names []) fp s2 H2).env.cells.lookup x=some c → c≠s2.heap.objs.size := fun x c e z => by
    rcases B.cells I.ok e with ⟨_, q⟩ | ⟨q, _⟩
    · rw [z, hC] at q
      exact absurd q (Nat.ne_of_lt (Nat.lt_succ_of_lt (Nat.lt_succ_self _)))
    · obtain ⟨v, o, ho, _⟩ := I.cell x c q
      rw [z] at ho
      exact absurd (Heap.lt_size ho) (Nat.lt_irrefl _)
  have loop : ∀ s₃ : Shared, s₃ = { s2 with heap := h₁, toks := tk4 } → codeAny (model X.prog X.w) X.A (.compLoop (.ListComp elt [⟨tg, iter, ifs, 0⟩] scope pos) 0 (.ref it) (.ref s2.heap.objs.size) (cxC X NB own scope P.objs.size ((xc, P.objs.size+1)::cg X.env.cells scope.names []) fp s2 H2).env)
      (compPost (model X.prog X.w) X.A X.xe none (EP X pins σ Q) (.ref s2.heap.objs.size) P.objs.size) s₃ := by
    rintro s₃ rfl
    refine dk (fun n s' => ∃ i σB H' ys its k, Inv (cxC X NB own scope P.objs.size ((xc, P.objs.size+1)::cg X.env.cells scope.names []) fp s2 H2) [] σB H' s' ∧ tn i s'.heap ∧ (∀ b∈fp, H' b=none) ∧ s'.heap.get? s2.heap.objs.size=some { cls := .type "list", data := .seq (its : List Value).toArray k } ∧ aL ys its ∧ H' s2.heap.objs.size=none ∧ W i n ys σB H') ?_ m0
      ⟨0, stB own cap σ, H2, [], [], 0, I4, st4, fun b hb => (f2 b hb).1, hD, .nil, I.hok.fresh (Nat.le_refl _), w0⟩
    rintro n s3 ⟨i, σ3, H3, ys, its, k, I3, st3, fr3, hD3, rv, hn3, w3⟩
    rcases turn i n ys σ3 H3 w3 with ⟨stop, hz, q⟩ | ⟨go, hz, step⟩
    · refine thn (T.done (cxC X NB own scope P.objs.size ((xc, P.objs.size+1)::cg X.env.cells scope.names []) fp s2 H2) rfl rfl rfl hc i _ s3 σ3 H3 noE (I3D I3 hD3 hn3) (fun b hb => fOk hb (fr3 b hb)) st3 stop) fun r s4 zq1 => ?_
      obtain ⟨hr, I4'⟩ := zq1
      subst hr
      have hD4 : s4.heap.get? s2.heap.objs.size=some { cls := .type "list", data := .seq (its : List Value).toArray k } := (I4'.pin (s2.heap.objs.size, _) (List.mem_append_right _ (List.mem_singleton.mpr rfl))).1
      have I5 : Inv (cxC X NB own scope P.objs.size ((xc, P.objs.size+1)::cg X.env.cells scope.names []) fp s2 H2) [] σ3 H3 s4 := I4'.pins_of fun p hp => absurd (show p∈([] : List (Addr × Obj)) from hp) (by simp)
      obtain ⟨mC, hnC, _⟩ := I5.loc
      exact ⟨mC, hnC, fun h'' sb => ⟨.ref s2.heap.objs.size, _, jd I f2 hCle (Nat.le_refl _) hDC I5 hn3 hD4 rv hz sb, rfl, q _ hn3⟩⟩
    · refine thn (T.item (cxC X NB own scope P.objs.size ((xc, P.objs.size+1)::cg X.env.cells scope.names []) fp s2 H2) rfl rfl rfl hc i _ s3 σ3 H3 noE (I3D I3 hD3 hn3) (fun b hb => fOk hb (fr3 b hb)) st3 go) fun r s4 zq2 => ?_
      obtain ⟨u, hr, h4⟩ := zq2
      subst hr
      refine thn h4 fun _ s5 zq3 => ?_
      obtain ⟨x, H5, I5, r5, y5, st5, fr5⟩ := zq3
      have I5' := I5.pinned (fun b hb => fOk hb (fr5 b hb)) (T.obj _ _ st5)
      refine thn (hg _ _ fp s2 H2 _ s5 σ3 H5 x u _ I5' r5 (step x H5 y5)) fun _ s6 zq4 => ?_
      obtain ⟨σ6, H6, I6, q6⟩ := zq4
      refine thn (ht _ _ fp s2 H2 _ s6 σ6 H6 _ I6 q6) fun b s7 zq5 => ?_
      obtain ⟨H7, I7, q7⟩ := zq5
      have pinned : ∀ {σ8 : St} {H8 : Hp} {s8 : Shared}, Inv (cxC X NB own scope P.objs.size ((xc, P.objs.size+1)::cg X.env.cells scope.names []) fp s2 H2) ([(s2.heap.objs.size, { cls := .type "list", data := .seq (its : List Value).toArray k })]++c_ fp s5.heap) σ8 H8 s8 →
          tn (i+1) s8.heap ∧ (∀ b∈fp, H8 b=none) ∧ s8.heap.get? s2.heap.objs.size=some { cls := .type "list", data := .seq (its : List Value).toArray k } ∧ H8 s2.heap.objs.size=none := fun {σ8 H8 s8} I8 => by
        refine ⟨T.keep _ _ _ st5 fun b hb o e => (I8.pin (b, o) (List.mem_append_right _ (List.mem_append_right _ (aV hb e)))).1, fun b hb => ?_, ?_, ?_⟩
        · obtain ⟨o, e, d⟩ := T.obj _ _ st5 b hb
          exact (I8.pin (b, o) (List.mem_append_right _ (List.mem_append_right _ (aV hb e)))).2.1
        · exact (I8.pin (s2.heap.objs.size, _) (List.mem_append_right _ (List.mem_append_left _ (List.mem_singleton.mpr rfl)))).1
        · exact (I8.pin (s2.heap.objs.size, _) (List.mem_append_right _ (List.mem_append_left _ (List.mem_singleton.mpr rfl)))).2.1
      have nopin : ∀ {pp : List (Addr × Obj)} {σ8 : St} {H8 : Hp} {s8 : Shared}, Inv (cxC X NB own scope P.objs.size ((xc, P.objs.size+1)::cg X.env.cells scope.names []) fp s2 H2) pp σ8 H8 s8 → Inv (cxC X NB own scope P.objs.size ((xc, P.objs.size+1)::cg X.env.cells scope.names []) fp s2 H2) [] σ8 H8 s8 := fun I8 => I8.pins_of fun p hp => absurd (show p∈([] : List (Addr × Obj)) from hp) (by simp)
      cases b with
      | false =>
        rw [if_neg Bool.false_ne_true] at q7 ⊢
        obtain ⟨m', hm, w7⟩ := q7
        obtain ⟨p1, p2, p3, p4⟩ := pinned I7
        exact ⟨m', hm, i+1, σ6, H7, ys, its, k, nopin I7, p1, p2, p3, rv, p4, w7⟩
      | true =>
        rw [if_pos rfl] at q7 ⊢
        refine thn (he _ _ fp s2 H2 _ s7 σ6 H7 _ I7 q7) fun yv s8 zq6 => ?_
        obtain ⟨y, H8, I8, r8, m', hm, w8⟩ := zq6
        obtain ⟨p1, p2, p3, p4⟩ := pinned I8
        refine call_meets F.slot_list_append ⟨_, p3, rfl⟩ F.entry_list_append (F.args_list_append_2 _ _) (PySem.list_append s2.heap.objs.size its.toArray k yv (by rw [List.size_toArray, ← rv.length];omega)) ⟨p3, ?_⟩
        have q := PySem.IsL.update p3 fun a => a.push yv
        have ea : its.toArray.push yv=(its++[yv]).toArray := by simp
        rw [ea] at q
        have I9 : Inv (cxC X NB own scope P.objs.size ((xc, P.objs.size+1)::cg X.env.cells scope.names []) fp s2 H2) [] σ6 H8 { s8 with heap := s8.heap.update s2.heap.objs.size (Obj.mapSeq fun a => a.push yv), toks := s8.toks } :=
          (nopin I8).turned (it := s2.heap.objs.size) (fun b o hb e => (Heap.get?_update_other s8.heap _ (Ne.symm hb)).trans e) p4 hDC (.inr (Nat.le_refl _)) (fun x c e => nCD x c e) fun p hp => absurd (show p∈([] : List (Addr × Obj)) from hp) (by simp)
        refine ⟨m', hm, i+1, σ6, H8, ys++[y], its++[yv], _, I9, ?_, p2, q, rv.append (.cons r8 .nil), p4, w8⟩
        refine T.keep _ _ _ p1 fun b hb o e => (Heap.get?_update_other s8.heap _ ?_).trans e
        intro z
        rw [z] at ndf
        exact ndf hb
  exact codeAny_compStart_list (loop _ rfl) (T.self X.A 0 _ _ _ st4 (loop _ rfl))
theorem hR {X : Cx}{K : PySem.W.Frag}(hK : X.K=K)(hc : X.calm=true) : cC X (.builtin "any") (oV K) := by subst hK; exact dO hc
end L2
set_option Elab.async false
set_option linter.all false
set_option maxRecDepth 100000
set_option maxHeartbeats 0
namespace L2
open PySem PySem.Spec PyProof.Rows Wd
section
variable {X : Cx} {tg : Expr}
inductive gI (R : It → Hp → Prop)(x : V)(H1 : Hp) : Prop
  | mk : ∀ d kvs, (x = .ref d) → (Rd H1 d (.dK kvs)) → (∀ o H2, H2 d=some (.frz o (.dK kvs)) → (∀ b, b≠d → H2 b=H1 b) → R (Itk d o kvs) H2) → gI R x H1
def nv (tl : TE) : TI := fun σ H R => tl σ H (gI R)
theorem gJ {l : Expr}{tl : TE}(hl : PE X l tl) : PI X tg l (nv tl) := by
  intro pins s σ H R I h
  refine thn (hl pins s σ H _ I h) fun v s1 zq1 => ?_
  obtain ⟨x, H1, I1, r1, d, kvs, rfl, e, q⟩ := zq1
  cases r1
  rcases e with e | ⟨o, e⟩
  · obtain ⟨z, hd, vs, rel, o, es, ep, g, ex, he, r⟩ := hE I1.hok e
    have I2 : Inv X pins σ (upd H1 d (.frz o (.dK kvs))) s1 := dh (t' := s1.toks) I1 (by rw [e];exact True.intro) ⟨rfl, fun _ _ => rfl⟩ ⟨o, g⟩ ⟨g, z, hd, vs, rel, o, es, ep, g, ex, he, r⟩
    refine wpAny_pyIter_dict hd ⟨o, es, g, ex, he, r⟩ ?_
    refine ⟨s1.heap.objs.size, [s1.heap.objs.size], _, Itk d o kvs, _, rfl, I2.kept (t' := s1.toks) fun b o e => Heap.get?_push_of_some _ e, dw he, ⟨_, Heap.get?_push_size _ rfl, rfl, by rw [Paired.length rel];rfl⟩, fun b hb => ?_, q o _ ae fun b n => ak n⟩
    have e : b=s1.heap.objs.size := by simpa using hb
    subst e
    exact I2.fpOk (Nat.le_refl _) (I2.hok.fresh (Nat.le_refl _))
  · obtain ⟨g, z, hd, vs, rel, o', es, ep, g', ex, he, r⟩ := I1.hok d _ e
    rw [g] at g'
    cases g'
    refine wpAny_pyIter_dict hd ⟨o, es, g, ex, he, r⟩ ?_
    refine ⟨s1.heap.objs.size, [s1.heap.objs.size], _, Itk d o kvs, _, rfl, I1.kept (t' := s1.toks) fun b o e => Heap.get?_push_of_some _ e, dw he, ⟨_, Heap.get?_push_size _ rfl, rfl, by rw [Paired.length rel];rfl⟩, fun b hb => ?_, q o _ e fun b n => rfl⟩
    have e : b=s1.heap.objs.size := by simpa using hb
    subst e
    exact I1.fpOk (Nat.le_refl _) (I1.hok.fresh (Nat.le_refl _))
end
end L2
set_option Elab.async false
set_option linter.all false
set_option maxRecDepth 100000
set_option maxHeartbeats 0
namespace Kx
open PySem PySem.Spec PyProof.Rows L2 Wd
theorem je : ∀ {ps : List (Key × L2.V)} {p : Key × L2.V}, (ps.map Prod.fst).Nodup → p∈ps → bH ps p.1=some p.2
  | [], p, _, h => by cases h
  | q::ps, p, nd, h => by
    rw [List.map_cons, List.nodup_cons] at nd
    rcases List.mem_cons.mp h with rfl | h
    · exact aN rfl
    · rw [aO fun e => nd.1 (by rw [e];exact List.mem_map.mpr ⟨p, h, rfl⟩)]
      exact je nd.2 h
def sgN (m : Nat) : List L := ([0, 1, 2, 3, 4, 5] : List L).take m++([6, 7, 8, 9, 10, 11] : List L).take m
theorem kP (m : Nat) : sg (m : Int)=sgN m := by
  unfold sg sgN
  rw [Int.toNat_natCast]
theorem cM.f {H : Hp}{a : Addr}{o : Obj}{kvs : List (Key × L2.V)}{k : Key}(e : H a=some (.frz o (.dK kvs))) : cM H a (kV k) (bH kvs k) := .inl ⟨kvs, k, .inr ⟨o, e⟩, rfl, rfl⟩
end Kx
set_option Elab.async false
set_option linter.all false
set_option maxRecDepth 100000
set_option maxHeartbeats 0
namespace Kx
open PySem PySem.Spec PyProof.Rows L2 Wd
def okB (bar : List (List L))(t : List L) : Bool := !(bar.any fun w => w.isSuffixOf t)
def bb (bar : List (List L))(t : List L) : Bool := bar.any fun w => decide (t.length < w.length) && t.isPrefixOf w
def lng (bar : List (List L)) : List L → List L
  | [] => []
  | x::r => if bb bar (x::r)=true then x::r else lng bar r
theorem bE {bar : List (List L)}{t : List L} : bb bar t=true ↔ ∃ w∈bar, t.length < w.length ∧ t <+: w := by
  unfold bb
  rw [List.any_eq_true]
  constructor
  · rintro ⟨w, hw, e⟩
    rw [Bool.and_eq_true, decide_eq_true_iff, List.isPrefixOf_iff_prefix] at e
    exact ⟨w, hw, e⟩
  · rintro ⟨w, hw, e⟩
    refine ⟨w, hw, ?_⟩
    rw [Bool.and_eq_true, decide_eq_true_iff, List.isPrefixOf_iff_prefix]
    exact e
theorem dz (bar : List (List L)) : ∀ t, lng bar t <:+ t
  | [] => List.suffix_refl _
  | x::r => by
    unfold lng
    split
    · exact List.suffix_refl _
    · exact (dz bar r).trans (List.suffix_cons x r)
theorem dA {bar : List (List L)}(h0 : bb bar []=true) : ∀ t, bb bar (lng bar t)=true
  | [] => h0
  | x::r => by
    unfold lng
    split
    · assumption
    · exact dA h0 r
theorem dC {bar : List (List L)}{u : List L}(hu : bb bar u=true) : ∀ {t}, u <:+ t → u <:+ lng bar t
  | [], h => h
  | x::r, h => by
    unfold lng
    split
    · exact h
    · rename_i nb
      rcases List.suffix_cons_iff.mp h with e | e
      · rw [e] at hu;exact absurd hu nb
      · exact dC hu e
theorem lP {bar : List (List L)}{u : List L}{x : L}(h : bb bar (u++[x])=true) : bb bar u=true := by
  obtain ⟨w, hw, h1, h2⟩ := bE.mp h
  refine bE.mpr ⟨w, hw, ?_, (List.prefix_append u [x]).trans h2⟩
  rw [List.length_append, List.length_singleton] at h1
  omega
theorem aW {b t : List L}{x : L} : b <:+ t++[x] ↔ b=[] ∨ ∃ c, b=c++[x] ∧ c <:+ t := by
  rcases List.eq_nil_or_concat b with rfl | ⟨c, y, rfl⟩
  · exact ⟨fun _ => .inl rfl, fun _ => List.nil_suffix⟩
  · rw [List.suffix_concat_iff]
theorem ny {bar : List (List L)}(ne : []∉bar)(w : List L)(x : L) : okB bar (lng bar w++[x])=okB bar (w++[x]) := by
  unfold okB
  congr 1
  rw [Bool.eq_iff_iff, List.any_eq_true, List.any_eq_true]
  constructor
  · rintro ⟨b, hb, h⟩
    refine ⟨b, hb, ?_⟩
    rw [List.isSuffixOf_iff_suffix] at h ⊢
    rcases aW.mp h with e | ⟨c, e, hc⟩
    · rw [e] at hb;exact absurd hb ne
    · exact aW.mpr (.inr ⟨c, e, hc.trans (dz bar w)⟩)
  · rintro ⟨b, hb, h⟩
    refine ⟨b, hb, ?_⟩
    rw [List.isSuffixOf_iff_suffix] at h ⊢
    rcases aW.mp h with e | ⟨c, e, hc⟩
    · rw [e] at hb;exact absurd hb ne
    · refine aW.mpr (.inr ⟨c, e, dC (bE.mpr ⟨b, hb, ?_, ?_⟩) hc⟩)
      · rw [e, List.length_append, List.length_singleton];omega
      · rw [e];exact List.prefix_append c [x]
theorem lQ {bar : List (List L)}(h0 : bb bar []=true)(w : List L)(x : L) : lng bar (lng bar w++[x])=lng bar (w++[x]) := by
  have s1 : lng bar w++[x] <:+ w++[x] := by
    obtain ⟨p, hp⟩ := dz bar w
    exact ⟨p, by rw [← List.append_assoc, hp]⟩
  have a := dC (dA h0 (lng bar w++[x])) ((dz bar _).trans s1)
  have b : lng bar (w++[x]) <:+ lng bar (lng bar w++[x]) := by
    refine dC (dA h0 _) ?_
    rcases aW.mp (dz bar (w++[x])) with e | ⟨c, e, hc⟩
    · rw [e];exact List.nil_suffix
    · rw [e]
      refine aW.mpr (.inr ⟨c, rfl, dC ?_ hc⟩)
      have := dA h0 (w++[x])
      rw [e] at this
      exact lP this
  exact List.IsSuffix.eq_of_length a (Nat.le_antisymm a.length_le b.length_le)
def nxt (sg : List L)(bar : List (List L))(w : List L) : List (List L) := (sg.filter fun x => okB bar (w++[x])).map fun x => w++[x]
def avs (sg : List L)(bar : List (List L)) : Nat → List (List L)
  | 0 => [[]]
  | n+1 => (avs sg bar n).flatMap (nxt sg bar)
def dlt (sg : List L)(bar : List (List L))(s : List L) : List (List L) := (sg.filter fun x => okB bar (s++[x])).map fun x => lng bar (s++[x])
theorem lR {sg : List L}{bar : List (List L)}(ne : []∉bar)(h0 : bb bar []=true)(w : List L) : dlt sg bar (lng bar w)=(nxt sg bar w).map (lng bar) := by
  unfold dlt nxt
  rw [List.map_map]
  have e : (sg.filter fun x => okB bar (lng bar w++[x]))=sg.filter fun x => okB bar (w++[x]) := List.filter_congr fun x _ => ny ne w x
  rw [e]
  exact List.map_congr_left fun x _ => lQ h0 w x
theorem j3 {sg : List L}{bar : List (List L)}(ne : []∉bar)(h0 : bb bar []=true)(n : Nat) : ((avs sg bar n).map (lng bar)).flatMap (dlt sg bar)=(avs sg bar (n+1)).map (lng bar) := by
  rw [avs, List.flatMap_map, List.map_flatMap]
  congr 1
  funext w
  exact lR ne h0 w
def tlK (k : Nat)(t : List L) : List L := t.drop (t.length - k)
theorem dD (k : Nat)(t : List L) : tlK k t <:+ t := List.drop_suffix _ _
theorem cI (k : Nat)(t : List L) : (tlK k t).length=min k t.length := by unfold tlK; rw [List.length_drop]; omega
theorem jf {k : Nat}{u t : List L}(h : u <:+ t)(hu : u.length≤k) : u <:+ tlK k t := by
  have h2 := h.length_le
  refine List.suffix_of_suffix_length_le h (dD k t) ?_
  rw [cI]
  omega
theorem nz {k : Nat}(w : List L)(x : L) : tlK k (tlK k w++[x])=tlK k (w++[x]) := by
  have s1 : tlK k w++[x] <:+ w++[x] := by
    obtain ⟨p, hp⟩ := dD k w
    exact ⟨p, by rw [← List.append_assoc, hp]⟩
  have e : tlK k (tlK k w++[x]) <:+ tlK k (w++[x]) := jf ((dD k _).trans s1) (by rw [cI];omega)
  refine List.IsSuffix.eq_of_length e ?_
  rw [cI, cI, List.length_append, List.length_append, cI, List.length_singleton]
  omega
theorem oX {bar : List (List L)}{k : Nat}(ne : []∉bar)(hk : ∀ b∈bar, b.length≤k+1)(w : List L)(x : L) : okB bar (tlK k w++[x])=okB bar (w++[x]) := by
  unfold okB
  congr 1
  rw [Bool.eq_iff_iff, List.any_eq_true, List.any_eq_true]
  constructor
  · rintro ⟨b, hb, h⟩
    refine ⟨b, hb, ?_⟩
    rw [List.isSuffixOf_iff_suffix] at h ⊢
    rcases aW.mp h with e | ⟨c, e, hc⟩
    · rw [e] at hb;exact absurd hb ne
    · exact aW.mpr (.inr ⟨c, e, hc.trans (dD k w)⟩)
  · rintro ⟨b, hb, h⟩
    refine ⟨b, hb, ?_⟩
    rw [List.isSuffixOf_iff_suffix] at h ⊢
    rcases aW.mp h with e | ⟨c, e, hc⟩
    · rw [e] at hb;exact absurd hb ne
    · refine aW.mpr (.inr ⟨c, e, jf hc ?_⟩)
      have := hk b hb
      rw [e, List.length_append, List.length_singleton] at this
      omega
def dtl (sg : List L)(bar : List (List L))(k : Nat)(s : List L) : List (List L) := (sg.filter fun x => okB bar (s++[x])).map fun x => tlK k (s++[x])
theorem nA {sg : List L}{bar : List (List L)}{k : Nat}(ne : []∉bar)(hk : ∀ b∈bar, b.length≤k+1)(n : Nat) : ((avs sg bar n).map (tlK k)).flatMap (dtl sg bar k)=(avs sg bar (n+1)).map (tlK k) := by
  rw [avs, List.flatMap_map, List.map_flatMap]
  congr 1
  funext w
  unfold dtl nxt
  rw [List.map_map]
  have e : (sg.filter fun x => okB bar (tlK k w++[x]))=sg.filter fun x => okB bar (w++[x]) := List.filter_congr fun x _ => oX ne hk w x
  rw [e]
  exact List.map_congr_left fun x _ => nz w x
abbrev Cts := List (List L × Nat)
def mul (l : Cts) : List (List L) := l.flatMap fun p => List.replicate p.2 p.1
def eE : Cts → List L → Nat → Cts
  | [], s, v => [(s, v)]
  | p::r, s, v => if p.1=s then (s, p.2+v)::r else p::eE r s v
def nB (l : Cts)(s : List L) : Nat := ((l.find? fun p => decide (p.1=s)).map (·.2)).getD 0
theorem b_ (p : List L × Nat)(l : Cts) : mul (p::l)=List.replicate p.2 p.1++mul l := by unfold mul; rw [List.flatMap_cons]
theorem jg : ∀ (l : Cts) (s : List L) (v : Nat), (mul (eE l s v)).Perm (mul l++List.replicate v s)
  | [], s, v => by simp [eE, mul]
  | p::r, s, v => by
    unfold eE
    split
    · rename_i e
      rw [b_, b_, e]
      show (List.replicate (p.2+v) s++mul r).Perm _
      rw [← List.replicate_append_replicate, List.append_assoc, List.append_assoc]
      exact List.Perm.append_left _ List.perm_append_comm
    · rw [b_, b_, List.append_assoc]
      exact List.Perm.append_left _ (jg r s v)
theorem dE : ∀ (l : Cts) (s : List L) (v : Nat) (t : List L), t∈(eE l s v).map Prod.fst ↔ t∈l.map Prod.fst ∨ t=s
  | [], s, v, t => by simp [eE]
  | p::r, s, v, t => by
    unfold eE
    split
    · rename_i e
      rw [List.map_cons, List.map_cons, List.mem_cons, List.mem_cons, e]
      exact ⟨.inl, fun h => h.elim id .inl⟩
    · rw [List.map_cons, List.mem_cons, dE r s v t, List.map_cons, List.mem_cons, or_assoc]
theorem jh : ∀ (l : Cts) (s : List L) (v : Nat), (l.map Prod.fst).Nodup → ((eE l s v).map Prod.fst).Nodup
  | [], s, v, _ => by simp [eE]
  | p::r, s, v, h => by
    rw [List.map_cons, List.nodup_cons] at h
    unfold eE
    split
    · rename_i e
      rw [List.map_cons, List.nodup_cons]
      rw [e] at h
      exact h
    · rename_i e
      rw [List.map_cons, List.nodup_cons]
      refine ⟨fun hm => ?_, jh r s v h.2⟩
      rcases (dE r s v _).mp hm with q | q
      · exact h.1 q
      · exact e q
def aY (p : List L × Nat) : Key × L2.V := (.inr (toS p.1), .int (p.2 : Int))
theorem gK (l : Cts)(s : List L) : (bH (l.map aY) (.inr (toS s))).getD (.int 0) = .int ((nB l s : Nat) : Int) := by
  induction l with
  | nil => rfl
  | cons p r ih =>
    unfold nB
    by_cases e : p.1=s
    · rw [List.map_cons, aN (show (aY p).1=_ by rw [← e];rfl), List.find?_cons_of_pos (by simpa using e)]
      rfl
    · rw [List.map_cons, aO (show (aY p).1≠_ from fun z => e (bt (Sum.inr.inj z))), List.find?_cons_of_neg (by simpa using e)]
      exact ih
theorem j4 {q : Key × L2.V}{qs : List (Key × L2.V)}{k : Key}{v : L2.V}(e : q.1=k)(h : k∉qs.map Prod.fst) : bI (q::qs) k v=(k, v)::qs := by
  have : qs.map (fun kv => if kv.1=k then (kv.1, v) else kv)=qs := by
    have e2 : qs.map (fun kv => if kv.1=k then (kv.1, v) else kv)=qs.map id := List.map_congr_left fun kv hk => if_neg fun z => h (List.mem_map.mpr ⟨kv, hk, z⟩)
    rw [e2, List.map_id]
  unfold bI
  rw [if_pos (by rw [List.any_cons, decide_eq_true e];rfl), List.map_cons, if_pos e, this, e]
theorem j5 {q : Key × L2.V}{qs : List (Key × L2.V)}{k : Key}{v : L2.V}(e : q.1≠k) : bI (q::qs) k v=q::bI qs k v := by
  unfold bI
  rw [List.any_cons, decide_eq_false e, Bool.false_or, List.map_cons, if_neg e]
  split <;> rfl
theorem eF : ∀ (l : Cts) (s : List L) (v : Nat), (l.map Prod.fst).Nodup → bI (l.map aY) (.inr (toS s)) (.int ((nB l s : Nat)+(v : Nat) : Int))=(eE l s v).map aY
  | [], s, v, _ => by simp [nB, eE, aY, bI]
  | p::r, s, v, nd => by
    rw [List.map_cons, List.nodup_cons] at nd
    unfold eE nB
    by_cases e : p.1=s
    · rw [if_pos e, List.find?_cons_of_pos (by simpa using e), List.map_cons, j4 (show (aY p).1=_ by rw [← e];rfl)]
      · rfl
      · intro hm
        rw [List.map_map] at hm
        obtain ⟨q, hq, z⟩ := List.mem_map.mp hm
        have : q.1=s := bt (Sum.inr.inj z)
        exact nd.1 (List.mem_map.mpr ⟨q, hq, by rw [this, e]⟩)
    · rw [if_neg e, List.find?_cons_of_neg (by simpa using e), List.map_cons, j5 (show (aY p).1≠_ from fun z => e (bt (Sum.inr.inj z))), List.map_cons]
      exact congrArg _ (eF r s v nd.2)
theorem gf {l : Cts}(nd : (l.map Prod.fst).Nodup){p : List L × Nat}(hp : p∈l) : bH (l.map aY) (.inr (toS p.1))=some (.int (p.2 : Int)) := by
  refine je (p := aY p) ?_ (List.mem_map.mpr ⟨p, hp, rfl⟩)
  rw [List.map_map]
  have : (l.map (Prod.fst ∘ aY))=(l.map Prod.fst).map fun u => (Sum.inr (toS u) : Key) := by rw [List.map_map];rfl
  rw [this]
  exact List.Pairwise.map _ (fun a b n e => n (bt (Sum.inr.inj e))) nd
theorem lS (l : Cts) : (mul l).length=(l.map (·.2)).sum := by
  induction l with
  | nil => rfl
  | cons p r ih => rw [b_, List.length_append, List.length_replicate, ih, List.map_cons, List.sum_cons]
theorem j6 (f : List L → List (List L))(s : List L)(v : Nat) : ((f s).flatMap fun b => List.replicate v b).Perm ((List.replicate v s).flatMap f) := by
  induction v with
  | zero => simp
  | succ v ih =>
    rw [List.replicate_succ, List.flatMap_cons]
    refine List.Perm.trans ?_ (ih.append_left (f s))
    generalize f s=l
    induction l with
    | nil => simp
    | cons b l ih2 =>
      rw [List.flatMap_cons, List.flatMap_cons, List.replicate_succ, List.cons_append, List.cons_append]
      refine List.Perm.cons b ?_
      refine (List.Perm.append_left _ ih2).trans ?_
      rw [← List.append_assoc, ← List.append_assoc]
      exact List.Perm.append_right _ List.perm_append_comm
def nC (f : List L → List (List L))(l : Cts) : Cts := l.foldl (fun a p => (f p.1).foldl (fun a b => eE a b p.2) a) []
theorem gL (v : Nat) : ∀ (bs : List (List L)) (a : Cts), (mul (bs.foldl (fun a b => eE a b v) a)).Perm (mul a++bs.flatMap fun b => List.replicate v b)
  | [], a => by simp
  | b::bs, a => by
    rw [List.foldl_cons, List.flatMap_cons, ← List.append_assoc]
    exact (gL v bs _).trans (List.Perm.append_right _ (jg a b v))
theorem fm (f : List L → List (List L))(l : Cts) : (mul (nC f l)).Perm ((mul l).flatMap f) := by
  have go : ∀ (l a : Cts), (mul (l.foldl (fun a p => (f p.1).foldl (fun a b => eE a b p.2) a) a)).Perm (mul a++(mul l).flatMap f) := fun l => by
    induction l with
    | nil => intro a;simp [mul]
    | cons p r ih =>
      intro a
      rw [List.foldl_cons, b_, List.flatMap_append, ← List.append_assoc]
      exact (ih _).trans (List.Perm.append_right _ ((gL p.2 _ a).trans (List.Perm.append_left _ (j6 f p.1 p.2))))
  have := go l []
  simpa [mul, nC] using this
def smN (m : Nat) : List L := ([0, 1, 2, 3, 4, 5] : List L).take m
def sgP (m : Nat) : List L := smN m++bk (smN m)
def barP (m : Nat)(W : List (List L)) : List (List L) := W++(smN m).flatMap fun x => [[x, inv x], [inv x, x]]
def n0 (kvs : List (Key × L2.V))(bar : List (List L)) : Prop := ∀ t : List L, (bH kvs (.inr (toS t))).isSome=bb bar t
inductive ji (vs : List L2.V)(H : Hp)(Q : VK)(E : XK) : Prop
  | mk : ∀ (a : Addr) (bar : List (List L)), vs=[.ref a] → H a=some (.lst (bar.map tx)) → bar.length≤200 → (∀ w∈bar, w.length≤10) → (∀ (d : Addr) (kvs : List (Key × L2.V)) (H' : Hp), H d=none → H' d=some (.dK kvs) → n0 kvs bar → aA H H' → Q (.ref d) H') → ji vs H Q E
inductive dF (vs : List L2.V)(H : Hp)(Q : VK)(E : XK) : Prop
  | mk : ∀ (d : Addr) (kvs : List (Key × L2.V)) (bar : List (List L)) (t : List L), vs=[.ref d, tx t] → H d=some (.dK kvs) → n0 kvs bar → bb bar []=true → t.length≤20 → Q (tx (lng bar t)) H → dF vs H Q E
theorem j7 (bar : List (List L))(w t : List L) : bb (bar++[w]) t=(bb bar t || (decide (t.length < w.length) && t.isPrefixOf w)) := by
  unfold bb
  rw [List.any_append]
  simp
theorem nD : ("abcdef" : Str)=toS [0, 1, 2, 3, 4, 5] := by decide +kernel
theorem cW {m : Nat} : Txt.slice ("abcdef" : Str) none (some (m : Int))=toS (smN m) := by
  rw [nD, aT, d3 _ (by omega), Int.toNat_natCast]
  rfl
theorem dG (m : Nat) : (smN m).length≤6 := by unfold smN; rw [List.length_take]; show min m 6≤6; omega
theorem jj (m : Nat) : (sgP m).length≤12 := by unfold sgP; rw [List.length_append, bB]; have := dG m; omega
theorem gM (u p : List L) : Txt.endswith (toS u) (toS p)=p.isSuffixOf u := by
  have key : (toS u).cps.extract ((toS u).length - (toS p).length) ((toS u).length - (toS p).length+(toS p).length)=((((u.drop (u.length - p.length)).take p.length).map cp).toArray) := by
    rw [ai, ai]
    apply Array.ext'
    rw [Array.toList_extract, bj, List.extract_eq_drop_take, List.map_take, List.map_drop]
    congr 1
    omega
  unfold Txt.endswith Builtin.Str.subAt
  rw [key, Nat.zero_add, ai, ai]
  have e2 : (u.drop (u.length - p.length)).take p.length=u.drop (u.length - p.length) := List.take_of_length_le (by rw [List.length_drop];omega)
  rw [e2, Bool.eq_iff_iff, Bool.and_eq_true, decide_eq_true_iff, List.isSuffixOf_iff_suffix, List.suffix_iff_eq_drop]
  constructor
  · rintro ⟨_, z⟩
    have z := eq_of_beq z
    have z : ((u.drop (u.length - p.length)).map cp).toArray=(p.map cp).toArray := z
    have := bt (u := u.drop (u.length - p.length)) (v := p) (by unfold toS;rw [z])
    exact this.symm
  · intro z
    have hl : p.length≤u.length := by have := congrArg List.length z;rw [List.length_drop] at this;omega
    refine ⟨hl, ?_⟩
    rw [← z]
    show ((p.map cp).toArray == (p.map cp).toArray)=true
    exact beq_self_eq_true _
theorem lT (m : Nat)(bar : List (List L))(s : List L) : (dlt (sgP m) bar s).length≤12 := by
  unfold dlt
  rw [List.length_map]
  exact Nat.le_trans (List.length_filter_le _ _) (jj m)
inductive eG (vs : List L2.V)(H : Hp)(Q : VK)(E : XK) : Prop
  | mk : ∀ (m : Nat) (a d : Addr) (kvs : List (Key × L2.V)) (bar : List (List L)) (st : List L), vs=[.int (m : Int), .ref a, .ref d, tx st] → m≤6 → H a=some (.lst (bar.map tx)) → H d=some (.dK kvs) → n0 kvs bar → bb bar []=true → bar.length≤200 → (∀ w∈bar, w.length≤10) → st.length≤10 → (∀ (l : Addr) (H' : Hp), H l=none → H' l=some (.lst ((dlt (sgP m) bar st).map tx)) → aA H H' → Q (.ref l) H') → eG vs H Q E
def oY (bar : List (List L)) : List (List L) := bar.flatMap fun w => (List.range w.length).map fun k => w.take k
theorem jk {bar : List (List L)}{t : List L}(h : bb bar t=true) : t∈oY bar := by
  obtain ⟨w, hw, h1, h2⟩ := bE.mp h
  exact List.mem_flatMap.mpr ⟨w, hw, List.mem_map.mpr ⟨t.length, List.mem_range.mpr h1, (List.prefix_iff_eq_take.mp h2).symm⟩⟩
theorem gN {bar : List (List L)}(bw : ∀ w∈bar, w.length≤10) : (oY bar).length≤bar.length*10 := by
  unfold oY
  induction bar with
  | nil => simp
  | cons w r ih =>
    rw [List.flatMap_cons, List.length_append, List.length_map, List.length_range, List.length_cons]
    have := ih fun v hv => bw v (List.mem_cons_of_mem _ hv)
    have := bw w List.mem_cons_self
    omega
theorem j8 {α : Type}[DecidableEq α] : ∀ {l s : List α}, l.Nodup → (∀ x∈l, x∈s) → l.length≤s.length
  | [], s, _, _ => Nat.zero_le _
  | x::l, s, nd, h => by
    rw [List.nodup_cons] at nd
    have hx := h x List.mem_cons_self
    have := j8 (l := l) (s := s.erase x) nd.2 fun y hy => (List.mem_erase_of_ne (fun e => nd.1 (by rw [← e];exact hy))).mpr (h y (List.mem_cons_of_mem _ hy))
    rw [List.length_erase_of_mem hx] at this
    have := List.length_pos_of_mem hx
    rw [List.length_cons]
    omega
structure eI (H : Hp) (kvs : List (Key × L2.V)) (m : Nat) (bar : List (List L)) (wa : Addr) (ss wt : List (List L)) : Prop where
  nd : ss.Nodup
  beg : ∀ s∈ss, bb bar s=true
  kl : kvs.length≤ss.length
  key : ∀ t : List L, (bH kvs (.inr (toS t))).isSome=decide (t∈ss)
  val : ∀ s∈ss, ∃ r, bH kvs (.inr (toS s))=some (.ref r) ∧ r≠wa ∧ H r=some (.lst ((dlt (sgP m) bar s).map tx)) ∧ ∀ b∈dlt (sgP m) bar s, b∈ss ∨ b∈wt
theorem eI.mono {H H' : Hp}{kvs : List (Key × L2.V)}{m : Nat}{bar : List (List L)}{wa : Addr}{ss wt : List (List L)}(F : eI H kvs m bar wa ss wt)(k : ∀ r xs, r≠wa → H r=some (.lst xs) → H' r=some (.lst xs)) : eI H' kvs m bar wa ss wt :=
  ⟨F.nd, F.beg, F.kl, F.key, fun s hs => let ⟨r, a, b, c, d⟩ := F.val s hs;⟨r, a, b, k _ _ b c, d⟩⟩
theorem eI.pop {H : Hp}{kvs : List (Key × L2.V)}{m : Nat}{bar : List (List L)}{wa : Addr}{ss wt : List (List L)}{u : List L}(F : eI H kvs m bar wa ss (wt++[u]))(hu : u∈ss) : eI H kvs m bar wa ss wt :=
  ⟨F.nd, F.beg, F.kl, F.key, fun s hs => let ⟨r, a, b, c, d⟩ := F.val s hs;⟨r, a, b, c, fun x hx => by
    rcases d x hx with q | q
    · exact .inl q
    · rcases List.mem_append.mp q with q | q
      · exact .inr q
      · rw [List.mem_singleton.mp q];exact .inl hu⟩⟩
theorem eI.put {H : Hp}{kvs : List (Key × L2.V)}{m : Nat}{bar : List (List L)}{wa r : Addr}{ss wt : List (List L)}{u : List L}(F : eI H kvs m bar wa ss (wt++[u]))(hu : u∉ss)(hb : bb bar u=true)(hr : H r=some (.lst ((dlt (sgP m) bar u).map tx)))(nr : r≠wa) :
    eI H (bI kvs (.inr (toS u)) (.ref r)) m bar wa (ss++[u]) (wt++dlt (sgP m) bar u) := by
  refine ⟨?_, fun s hs => ?_, Nat.le_trans (bh _ _ _) ?_, fun t => ?_, fun s hs => ?_⟩
  · rw [List.nodup_append]
    exact ⟨F.nd, by simp, fun a ha b hb e => hu (by rw [← List.mem_singleton.mp hb, ← e];exact ha)⟩
  · rcases List.mem_append.mp hs with q | q
    · exact F.beg s q
    · rw [List.mem_singleton.mp q];exact hb
  · have := F.kl
    rw [List.length_append, List.length_singleton];omega
  · rw [cQ]
    by_cases e : t=u
    · rw [if_pos (by rw [e]), e];simp
    · rw [if_neg (fun z => e (bt (Sum.inr.inj z))), F.key t]
      simp [e]
  · rw [cQ]
    by_cases e : s=u
    · rw [if_pos (by rw [e]), e]
      exact ⟨r, rfl, nr, hr, fun b hb => .inr (List.mem_append_right _ hb)⟩
    · rw [if_neg (fun z => e (bt (Sum.inr.inj z)))]
      have hs : s∈ss := by
        rcases List.mem_append.mp hs with q | q
        · exact q
        · exact absurd (List.mem_singleton.mp q) e
      obtain ⟨r1, a, b, c, d⟩ := F.val s hs
      refine ⟨r1, a, b, c, fun x hx => ?_⟩
      rcases d x hx with q | q
      · exact .inl (List.mem_append_left _ q)
      · rcases List.mem_append.mp q with q | q
        · exact .inr (List.mem_append_left _ q)
        · exact .inl (List.mem_append_right _ q)
theorem jl {m : Nat}{W : List (List L)}(h : []∉W) : []∉barP m W := fun hm => by
  unfold barP at hm
  rcases List.mem_append.mp hm with q | q
  · exact h q
  · obtain ⟨x, _, q⟩ := List.mem_flatMap.mp q
    simp at q
theorem nE {m : Nat}{W : List (List L)}(m1 : 1≤m) : bb (barP m W) []=true := by
  refine bE.mpr ⟨[0, inv 0], List.mem_append_right _ (List.mem_flatMap.mpr ⟨0, ?_, by simp⟩), by decide, List.nil_prefix⟩
  unfold smN
  obtain ⟨k, rfl⟩ : ∃ k, m=k+1 := ⟨m - 1, by omega⟩
  simp
theorem jm (m : Nat)(W : List (List L)) : (barP m W).length≤W.length+12 := by
  unfold barP
  rw [List.length_append]
  have : ∀ l : List L, (l.flatMap fun x => [[x, inv x], [inv x, x]]).length=2*l.length := fun l => by
    induction l with
    | nil => rfl
    | cons x r ih => rw [List.flatMap_cons, List.length_append, ih];simp;omega
  rw [this]
  have := dG m
  omega
theorem lU {m : Nat}{W : List (List L)}{k : Nat}(k2 : 2≤k)(h : ∀ w∈W, w.length≤k) : ∀ w∈barP m W, w.length≤k := fun w hw => by
  rcases List.mem_append.mp hw with q | q
  · exact h w q
  · obtain ⟨x, _, q⟩ := List.mem_flatMap.mp q
    simp at q
    rcases q with q | q <;> rw [q] <;> exact k2
inductive lV (vs : List L2.V)(H : Hp)(Q : VK)(E : XK) : Prop
  | mk : ∀ (m : Nat) (a : Addr) (W : List (List L)), vs=[.int (m : Int), .ref a] → 1≤m → m≤6 → H a=some (.lst (W.map tx)) → []∉W → W.length≤100 → (∀ w∈W, w.length≤10) → (∀ (d wa : Addr) (kvs : List (Key × L2.V)) (ss : List (List L)) (H' : Hp), H d=none → H' d=some (.dK kvs) → eI H' kvs m (barP m W) wa ss [] → []∈ss → aA H H' → Q (.ref d) H') → lV vs H Q E
def inC (a : Cts)(v : Nat)(bs : List (List L)) : Cts := bs.foldl (fun a b => eE a b v) a
def stC (f : List L → List (List L))(l : Cts) : Cts := l.foldl (fun a p => inC a p.2 (f p.1)) []
theorem gO (a : Cts)(v : Nat)(bs : List (List L))(b : List L) : inC a v (bs++[b])=eE (inC a v bs) b v := by unfold inC; rw [List.foldl_append]; rfl
theorem gP (f : List L → List (List L))(l : Cts)(p : List L × Nat) : stC f (l++[p])=inC (stC f l) p.2 (f p.1) := by unfold stC; rw [List.foldl_append]; rfl
structure CtD (l : Cts) (ss : List (List L)) : Prop where
  nd : (l.map Prod.fst).Nodup
  sub : ∀ t∈l.map Prod.fst, t∈ss
theorem CtD.add {l : Cts}{ss : List (List L)}(c : CtD l ss){s : List L}(hs : s∈ss)(v : Nat) : CtD (eE l s v) ss :=
  ⟨jh l s v c.nd, fun t ht => by
    rcases (dE l s v t).mp ht with q | q
    · exact c.sub t q
    · rw [q];exact hs⟩
theorem CtD.ins {l : Cts}{ss : List (List L)}(c : CtD l ss)(v : Nat) : ∀ {bs : List (List L)}, (∀ b∈bs, b∈ss) → CtD (inC l v bs) ss := fun {bs} h => by
  induction bs generalizing l with
  | nil => exact c
  | cons b bs ih => exact ih (c.add (h b List.mem_cons_self) v) fun x hx => h x (List.mem_cons_of_mem _ hx)
theorem CtD.len {l : Cts}{ss : List (List L)}(c : CtD l ss) : l.length≤ss.length := by
  have := j8 c.nd c.sub
  rwa [List.length_map] at this
theorem CtD.nil (ss : List (List L)) : CtD [] ss := ⟨List.nodup_nil, fun t ht => absurd ht List.not_mem_nil⟩
theorem CtD.step {f : List L → List (List L)}{l : Cts}{ss : List (List L)}(h : ∀ p∈l, ∀ b∈f p.1, b∈ss) : CtD (stC f l) ss := by
  have go : ∀ (l a : Cts), CtD a ss → (∀ p∈l, ∀ b∈f p.1, b∈ss) → CtD (l.foldl (fun a p => inC a p.2 (f p.1)) a) ss := fun l => by
    induction l with
    | nil => intro a c _;exact c
    | cons p r ih => intro a c h;rw [List.foldl_cons];exact ih _ (c.ins p.2 (h p List.mem_cons_self)) fun q hq => h q (List.mem_cons_of_mem _ hq)
  exact go l [] (CtD.nil ss) h
theorem eI.in {H : Hp}{kvs : List (Key × L2.V)}{m : Nat}{bar : List (List L)}{wa : Addr}{ss : List (List L)}(F : eI H kvs m bar wa ss []){s b : List L}(hs : s∈ss)(hb : b∈dlt (sgP m) bar s) : b∈ss := by
  obtain ⟨r, _, _, _, d⟩ := F.val s hs
  rcases d b hb with q | q
  · exact q
  · cases q
inductive oZ (vs : List L2.V)(H : Hp)(Q : VK)(E : XK) : Prop
  | mk : ∀ (sd rd wa : Addr) (kvs : List (Key × L2.V)) (m : Nat) (bar ss : List (List L)) (l : Cts), vs=[.ref sd, .ref rd] → H sd=some (.dK kvs) → eI H kvs m bar wa ss [] → H rd=some (.dK (l.map aY)) → rd≠sd → CtD l ss → ss.length≤2000 →
      (∀ (d : Addr) (H' : Hp), H d=none → H' d=some (.dK ((stC (dlt (sgP m) bar) l).map aY)) → aQ rd H H' → Q (.ref d) H') → oZ vs H Q E
theorem eI.re {H : Hp}{kvs : List (Key × L2.V)}{m : Nat}{bar : List (List L)}{wa t : Addr}{ss wt : List (List L)}(F : eI H kvs m bar wa ss wt)(ht : H t=none) : eI H kvs m bar t ss wt :=
  ⟨F.nd, F.beg, F.kl, F.key, fun s hs => let ⟨r, a, b, c, d⟩ := F.val s hs;⟨r, a, ab c ht, c, d⟩⟩
theorem jn (l : Cts) : (l.map fun p => (p.2 : Int)).sum=((mul l).length : Int) := by
  rw [lS]
  induction l with
  | nil => rfl
  | cons p r ih => rw [List.map_cons, List.sum_cons, ih, List.map_cons, List.sum_cons];omega
theorem j9 (l : Cts) : (l.map aY).map Prod.snd=(l.map fun p => (p.2 : Int)).map L2.V.int := by rw [List.map_map, List.map_map]; rfl
def fF (m : Nat)(W : List (List L))(k : Nat) : List Int := (List.range k).map fun n => ((avs (sgP m) (barP m W) n).length : Int)
theorem jo (m : Nat)(W : List (List L))(k : Nat) : fF m W (k+1)=fF m W k++[((avs (sgP m) (barP m W) k).length : Int)] := by unfold fF; rw [List.range_succ, List.map_append]; rfl
inductive gg (vs : List L2.V)(H : Hp)(Q : VK)(E : XK) : Prop
  | mk : ∀ (m N : Nat) (a : Addr) (W : List (List L)), vs=[.int (m : Int), .ref a, .int (N : Int)] → 1≤m → m≤6 → H a=some (.lst (W.map tx)) → []∉W → W.length≤100 → (∀ w∈W, w.length≤10) → N≤100 → (∀ (l : Addr) (H' : Hp), H l=none → H' l=some (.lst ((fF m W (N+1)).map L2.V.int)) → aA H H' → Q (.ref l) H') → gg vs H Q E
theorem lW (A B : List (List L))(t : List L) : okB (A++B) t=(okB A t && okB B t) := by unfold okB; rw [List.any_append, Bool.not_or]
theorem jq {m : Nat}{x : L}(h : x∈sgN m) : x∈smN m ∨ inv x∈smN m := by
  unfold sgN at h
  rcases List.mem_append.mp h with q | q
  · exact .inl q
  · right
    have e : ([6, 7, 8, 9, 10, 11] : List L)=([0, 1, 2, 3, 4, 5] : List L).map inv := by decide
    rw [e, ← List.map_take] at q
    obtain ⟨y, hy, rfl⟩ := List.mem_map.mp q
    rw [eB]
    exact hy
theorem eJ {a b x : L}{t : List L} : [a, b] <:+ t++[x] ↔ b=x ∧ t.drop (t.length - 1)=[a] := by
  rw [aW]
  constructor
  · rintro (e | ⟨c, e, h⟩)
    · cases e
    · have e2 : [a]++[b]=c++[x] := e
      have := List.append_inj' e2 rfl
      refine ⟨by simpa using this.2, ?_⟩
      rw [← this.1] at h
      exact (List.suffix_iff_eq_drop.mp h).symm
  · rintro ⟨rfl, h⟩
    exact .inr ⟨[a], rfl, by rw [← h];exact List.drop_suffix _ _⟩
theorem j_ {m : Nat}{x : L}(hx : x∈sgN m)(t : List L) : okB ((smN m).flatMap fun y => [[y, inv y], [inv y, y]]) (t++[x])=!decide (L2.V.str (toS [x])=tx (bk (t.drop (t.length - 1)))) := by
  unfold okB
  congr 1
  rw [Bool.eq_iff_iff, List.any_eq_true, decide_eq_true_iff]
  constructor
  · rintro ⟨b, hb, h⟩
    obtain ⟨y, hy, hb⟩ := List.mem_flatMap.mp hb
    rw [List.isSuffixOf_iff_suffix] at h
    simp only [List.mem_cons, List.not_mem_nil, or_false] at hb
    rcases hb with rfl | rfl
    · obtain ⟨e1, e2⟩ := eJ.mp h
      rw [e2, ← e1];rfl
    · obtain ⟨e1, e2⟩ := eJ.mp h
      rw [e2, ← e1]
      show _=tx [inv (inv y)]
      rw [eB];rfl
  · intro h
    have h := bt (L2.V.str.inj h)
    have hl : (t.drop (t.length - 1)).length≤1 := by rw [List.length_drop];omega
    match hd : t.drop (t.length - 1), hl with
    | [], _ => rw [hd] at h;cases h
    | [a], _ =>
      rw [hd] at h
      have ea : x=inv a := by simpa [bk] using h
      have ei : inv x=a := by rw [ea, eB]
      rcases jq hx with q | q
      · refine ⟨[inv x, x], List.mem_flatMap.mpr ⟨x, q, by simp⟩, ?_⟩
        rw [List.isSuffixOf_iff_suffix]
        exact eJ.mpr ⟨rfl, by rw [hd, ei]⟩
      · refine ⟨[inv x, inv (inv x)], List.mem_flatMap.mpr ⟨inv x, q, by simp⟩, ?_⟩
        rw [List.isSuffixOf_iff_suffix, eB]
        exact eJ.mpr ⟨rfl, by rw [hd, ei]⟩
theorem nF {m : Nat}{W : List (List L)}{x : L}(hx : x∈sgN m)(t : List L) : okB (barP m W) (t++[x])=(!decide (L2.V.str (toS [x])=tx (bk (t.drop (t.length - 1)))) && okB W (t++[x])) := by
  unfold barP
  rw [lW, j_ hx, Bool.and_comm]
def upW (sg : List L) : Nat → List (List L)
  | 0 => [[]]
  | k+1 => []::(upW sg k).flatMap fun w => sg.map fun x => x::w
def upN (s : Nat) : Nat → Nat
  | 0 => 1
  | k+1 => upN s k*s+1
theorem jr (sg : List L) : ∀ k, (upW sg k).length=upN sg.length k
  | 0 => rfl
  | k+1 => by
    have : ∀ l : List (List L), (l.flatMap fun w => sg.map fun x => x::w).length=l.length*sg.length := fun l => by
      induction l with
      | nil => simp
      | cons w r ih => rw [List.flatMap_cons, List.length_append, List.length_map, ih, List.length_cons, Nat.add_mul];omega
    rw [upW, upN, List.length_cons, this, jr sg k]
theorem gh {sg : List L} : ∀ {k : Nat} {w : List L}, w.length≤k → (∀ x∈w, x∈sg) → w∈upW sg k
  | 0, [], _, _ => by simp [upW]
  | 0, x::r, h, _ => by simp at h
  | k+1, [], _, _ => List.mem_cons_self
  | k+1, x::r, h, hs => List.mem_cons_of_mem _ (List.mem_flatMap.mpr ⟨r, gh (by simpa using h) fun y hy => hs y (List.mem_cons_of_mem _ hy), List.mem_map.mpr ⟨x, hs x List.mem_cons_self, rfl⟩⟩)
theorem gi {sg : List L} : ∀ {k : Nat} {w : List L}, w∈upW sg k → w.length≤k ∧ ∀ x∈w, x∈sg
  | 0, w, h => by
    rw [List.mem_singleton.mp h]
    exact ⟨Nat.le_refl _, fun x hx => absurd hx List.not_mem_nil⟩
  | k+1, w, h => by
    rcases List.mem_cons.mp h with rfl | h
    · exact ⟨Nat.zero_le _, fun x hx => absurd hx List.not_mem_nil⟩
    · obtain ⟨v, hv, h⟩ := List.mem_flatMap.mp h
      obtain ⟨x, hx, rfl⟩ := List.mem_map.mp h
      obtain ⟨h1, h2⟩ := gi hv
      refine ⟨by rw [List.length_cons];omega, fun y hy => ?_⟩
      rcases List.mem_cons.mp hy with rfl | hy
      · exact hx
      · exact h2 y hy
theorem js {sg : List L}{bar : List (List L)}{k : Nat}{t b : List L}(ht : t∈upW sg k)(hb : b∈dtl sg bar k t) : b∈upW sg k := by
  unfold dtl at hb
  obtain ⟨x, hx, rfl⟩ := List.mem_map.mp hb
  have hx := (List.mem_filter.mp hx).1
  refine gh (by rw [cI];omega) fun y hy => ?_
  rcases List.mem_append.mp ((dD k _).mem hy) with q | q
  · exact (gi ht).2 y q
  · rw [List.mem_singleton.mp q];exact hx
def cm (m : Nat)(W : List (List L))(k : Nat) : List Int := (List.range k).map fun n => ((avs (sgN m) (barP m W) n).length : Int)
theorem jt (m : Nat)(W : List (List L))(k : Nat) : cm m W (k+1)=cm m W k++[((avs (sgN m) (barP m W) k).length : Int)] := by unfold cm; rw [List.range_succ, List.map_append]; rfl
theorem fo {f g : List L → List (List L)}(h : ∀ w, (f w).Perm (g w)) : ∀ (l : List (List L)), (l.flatMap f).Perm (l.flatMap g)
  | [] => List.Perm.refl _
  | w::l => by rw [List.flatMap_cons, List.flatMap_cons];exact (h w).append (fo h l)
theorem gQ {sg sg' : List L}(p : sg.Perm sg')(bar : List (List L)) : ∀ n, (avs sg bar n).Perm (avs sg' bar n)
  | 0 => List.Perm.refl _
  | n+1 => ((gQ p bar n).flatMap_right _).trans (fo (fun w => (p.filter _).map _) _)
theorem ka : ∀ m, m≤6 → (sgP m).Perm (sgN m) := by decide
theorem gR {m : Nat}(m6 : m≤6)(W : List (List L))(k : Nat) : fF m W k=cm m W k := by
  unfold fF cm
  refine List.map_congr_left fun n _ => ?_
  rw [(gQ (ka m m6) (barP m W) n).length_eq]
theorem ju {m : Nat}(m6 : m≤6)(bar : List (List L)) : ∀ n, (avs (sgN m) bar n).length≤12 ^ n
  | 0 => Nat.le_refl _
  | n+1 => by
    have hs : (sgN m).length≤12 := by unfold sgN;rw [List.length_append, List.length_take, List.length_take];show min m 6+min m 6≤12;omega
    have : ∀ l : List (List L), (l.flatMap (nxt (sgN m) bar)).length≤l.length*12 := fun l => by
      induction l with
      | nil => simp
      | cons w r ih =>
        have : (nxt (sgN m) bar w).length≤12 := by unfold nxt;rw [List.length_map];exact Nat.le_trans (List.length_filter_le _ _) hs
        rw [List.flatMap_cons, List.length_append, List.length_cons, Nat.add_mul]
        omega
    rw [avs, Nat.pow_succ]
    exact Nat.le_trans (this _) (Nat.mul_le_mul_right _ (ju m6 bar n))
inductive cX (vs : List L2.V)(H : Hp)(Q : VK)(E : XK) : Prop
  | mk : ∀ (m k N : Nat) (a : Addr) (W : List (List L)), vs=[.int (m : Int), .ref a, .int (k : Int), .int (N : Int)] → 1≤m → m≤6 → 1≤k → k≤20 → H a=some (.lst (W.map tx)) → []∉W → W.length≤100 → (∀ w∈W, w.length≤k+1) → N≤100 → upN (sgN m).length k≤100000 → (∀ (l : Addr) (H' : Hp), H l=none → H' l=some (.lst ((cm m W (N+1)).map L2.V.int)) → aA H H' → Q (.ref l) H') → cX vs H Q E
theorem jv {H : Hp}{d l : Addr}{o : HO}{ws : List (List L)}(F : Fd H d)(h : H l=some (.lst (ws.map tx)))(n : l≠d) : Fd (L2.upd H l o) d := by
  obtain ⟨c, i, ll, t, ns, h1, h2, h3, h4⟩ := F.ex
  have hc : c≠l := fun e => by
    subst e
    rw [h2] at h
    have h := HO.lst.inj (Option.some.inj h)
    cases ns with
    | nil => exact h3 rfl
    | cons a r =>
      cases ws with
      | nil => cases h
      | cons w ws => cases h
  exact ⟨c, i, ll, t, ns, by rw [ak n.symm];exact h1, by rw [ak hc];exact h2, h3, h4⟩
theorem jw : ∀ (ns : List Int), (∀ x∈ns, x.natAbs < 10 ^ 80) → PyData.showableAll (ns.map PyData.int)=true ∧ PyData.hasDictAll (ns.map PyData.int)=false ∧ PyData.depthAll (ns.map PyData.int)=0 ∧ PyData.leavesShortAll 81 (ns.map PyData.int)=true ∧ PyData.weightAll (ns.map PyData.int)≤ns.length*300
  | [], _ => ⟨rfl, rfl, rfl, rfl, Nat.zero_le _⟩
  | x::r, h => by
    obtain ⟨a, b, c, d, e⟩ := jw r fun y hy => h y (List.mem_cons_of_mem _ hy)
    have hx := h x List.mem_cons_self
    have h3 : x.natAbs.log2 < 280 := by
      by_cases z : x.natAbs=0
      · rw [z];decide
      · exact (Nat.log2_lt z).mpr (Nat.lt_of_lt_of_le hx (by decide +kernel))
    have h2 : x.natAbs.log2 < 1920 := by omega
    refine ⟨?_, ?_, ?_, ?_, ?_⟩
    · show (PyData.showable (.int x) && PyData.showableAll (r.map PyData.int))=true
      rw [a, Bool.and_true]
      exact decide_eq_true h2
    · show (PyData.hasDict (.int x) || PyData.hasDictAll (r.map PyData.int))=false
      rw [b];rfl
    · show max (PyData.depth (.int x)) (PyData.depthAll (r.map PyData.int))=0
      rw [c];rfl
    · show (PyData.leavesShort 81 (.int x) && PyData.leavesShortAll 81 (r.map PyData.int))=true
      rw [d, Bool.and_true]
      refine decide_eq_true ?_
      rw [PyData.shown_int]
      show (Str.ofString (toString x)).length≤81
      have := int_text_length_le10 (a := x) (k := 80) (by decide) hx
      rw [PySem.ofString_length]
      exact this
    · show PyData.weight (.int x)+1+PyData.weightAll (r.map PyData.int)≤(r.length+1)*300
      have : PyData.weight (.int x)≤280 := by unfold PyData.weight;split <;> omega
      omega
theorem nG {m N : Nat}(m6 : m≤6)(hN : N≤60)(W : List (List L)) : Sh (.list ((cm m W (N+1)).map PyData.int)) := by
  have h : ∀ x∈cm m W (N+1), x.natAbs < 10 ^ 80 := fun x hx => by
    unfold cm at hx
    obtain ⟨n, hn, rfl⟩ := List.mem_map.mp hx
    have hn := List.mem_range.mp hn
    rw [Int.natAbs_natCast]
    exact Nat.lt_of_le_of_lt (Nat.le_trans (ju m6 _ n) (Nat.pow_le_pow_right (by decide) (show n≤60 by omega))) (by decide +kernel)
  obtain ⟨a, b, c, d, e⟩ := jw _ h
  have el : (cm m W (N+1)).length=N+1 := by unfold cm;rw [List.length_map, List.length_range]
  refine ⟨a, b, by show PyData.depthAll _+1≤10;omega, ?_⟩
  have := PyData.shown_le 81 (by decide) (.list ((cm m W (N+1)).map PyData.int)) d
  have w : PyData.weight (.list ((cm m W (N+1)).map PyData.int))=PyData.weightAll ((cm m W (N+1)).map PyData.int) := rfl
  rw [w] at this
  have e2 : sizeLine=16777216 := sizeLine_eq
  rw [e2]
  omega
theorem dH (ws : List (List L)) : (PyData.list (dws ws)).canLay0=true := by
  have : dws ws=ws.map fun u => .str (toS u) := rfl
  rw [this]
  exact fh ws
inductive eK (vs : List L2.V)(H : Hp)(Q : VK)(E : XK) : Prop
  | mk : ∀ (d : Addr) (m c z : Nat), vs=[.ref d, .int (m : Int), .int (c : Int), .int (z : Int)] → Fd H d → 1≤m → m≤6 → c≤50 → 1≤z → z≤10 → (∀ (l : Addr) (W : List (List L)) (H' : Hp), H l=none → H' l=some (.lst (W.map tx)) → []∉W → W.length≤c → (∀ w∈W, w.length≤z) → Fd H' d → aQ d H H' → Q (.ref l) H') → eK vs H Q E
inductive cx (vs : List L2.V)(H : Hp)(Q : VK)(E : XK) : Prop
  | mk : ∀ (m N : Nat) (a e : Addr) (W : List (List L)), vs=[.int (m : Int), .ref a, .int (N : Int), .ref e] → 1≤m → m≤6 → H a=some (.lst (W.map tx)) → H e=some (.lst ((cm m W (N+1)).map L2.V.int)) → []∉W → W.length≤100 → (∀ w∈W, w.length≤10) → N≤60 → (∀ H', aA H H' → Q (.bl true) H') → cx vs H Q E
end Kx
set_option Elab.async false
set_option linter.all false
set_option maxRecDepth 100000
set_option maxHeartbeats 0
namespace Kx
open PySem PySem.Spec PyProof.Rows L2 Wd
def top (i : Nat) : Stmt := PySem.Challenge.pw_ringwords_k74_words_avoided.main.body.getD i (.Pass ⟨0, 0, 0, 0⟩)
theorem nH {α : Type}{us : List α}(h : us.length=1) : ∃ a0, us=[a0] := by
  cases us with
  | nil => cases h
  | cons a0 us =>
    cases us with
    | nil => exact ⟨a0, rfl⟩
    | cons b us => cases h
theorem n4 {α : Type}{us : List α}(h : us.length=2) : ∃ a0 a1, us=[a0, a1] := by
  cases us with
  | nil => cases h
  | cons a0 us =>
    cases us with
    | nil => cases h
    | cons a1 us =>
      cases us with
      | nil => exact ⟨a0, a1, rfl⟩
      | cons b us => cases h
theorem pz {α : Type}{us : List α}(h : us.length=3) : ∃ a0 a1 a2, us=[a0, a1, a2] := by
  cases us with
  | nil => cases h
  | cons a0 us =>
    cases us with
    | nil => cases h
    | cons a1 us =>
      cases us with
      | nil => cases h
      | cons a2 us =>
        cases us with
        | nil => exact ⟨a0, a1, a2, rfl⟩
        | cons b us => cases h
theorem n5 {α : Type}{us : List α}(h : us.length=4) : ∃ a0 a1 a2 a3, us=[a0, a1, a2, a3] := by
  cases us with
  | nil => cases h
  | cons a0 us =>
    cases us with
    | nil => cases h
    | cons a1 us =>
      cases us with
      | nil => cases h
      | cons a2 us =>
        cases us with
        | nil => cases h
        | cons a3 us =>
          cases us with
          | nil => exact ⟨a0, a1, a2, a3, rfl⟩
          | cons b us => cases h
end Kx
set_option Elab.async false
set_option linter.all false
set_option maxRecDepth 100000
set_option maxHeartbeats 0
namespace Kx
open PySem PySem.Spec PyProof.Rows L2 Wd
section
variable {P : Program} {w : World} {K : PySem.W.Frag} {mg : Str → Option Value} {base : Heap} {aB : Addr}
abbrev fq : Stmt := top 14
theorem lX : aI ["_law_feed_here", "_law_many", "_law_cell", "_law_mixed", "_law_found"] ["_law_feed_here", "_law_many"] (aj fq) := ⟨rfl, rfl, rfl, by decide +kernel, rfl, by decide +kernel, by decide +kernel⟩
theorem nI (D : Df K mg "_law_draw" fq)(T : Bt K w mg aB) : Fnc P w K mg base "_law_draw" ["_law_feed_here", "_law_many"] 1 d4 := by
  have sc := lX
  refine D.ok sc (fun _ _ _ _ _ _ us hl => by obtain ⟨_, _, rfl⟩ := n4 hl;rfl) (fun vs H Q E h => ?_) (fun f cdv A outer s H vs Q E hr h => ?_)
  · obtain ⟨d, m, rfl, _⟩ := h
    rfl
  · obtain ⟨d, m, rfl, F, m0, m1, k⟩ := h
    have hu := cN hr
    refine ⟨_, (@af _ _ _ _ _ (@bS _ _ _ _ _ _ _ _ _ hu (pv 0) ar (@av _ _ _ _ _ _ _ _ bf (@aU _ _ _ _ _ _ hu (pv 0) ar (fun _ _ => rfl)) ah) rfl) (@af _ _ _ _ _ (@cY _ _ _ _ _ _ _ _ (@a_ _ _ _ _ _ _ _ _ gY (@aU _ _ _ _ _ _ hu (pv 0) ar (fun _ _ => rfl)) ah (bN _)) (@af _ _ _ _ _ (@aq _ _ (2) _ _ _ _ sc.nd rfl (Or.inl rfl) (@ed _ _ _ _ _ _ _ cE (@aU _ _ _ _ _ _ hu (pv 0) ar (fun _ _ => rfl)) (@av _ _ _ _ _ _ _ _ dQ (@aU _ _ _ _ _ _ hu (pv 0) ar (fun _ _ => rfl)) (@aM _ _ _ _ _ _ _ _ _ bP (by rfl) T.len PySem.boot_len (@aa _ _ _ _ _ (@aU _ _ _ _ _ _ hu (pv 0) ar (fun _ _ => rfl)) ag (by rfl)) (by decide) (by decide) (by rfl) (by rfl))) (fun _ _ => rfl)) (by rfl) (by first | exact .inl rfl | exact .inr rfl | assumption)) (@af _ _ _ _ _ (@bS _ _ _ _ _ _ _ _ _ hu (pv 0) ar (@av _ _ _ _ _ _ _ _ bf (@aU _ _ _ _ _ _ hu (pv 0) ar (fun _ _ => rfl)) ah) rfl) (@af _ _ _ _ _ (@cY _ _ _ _ _ _ _ _ (@a_ _ _ _ _ _ _ _ _ oj (pv 2) (@av _ _ _ _ _ _ _ _ mI ah ah) (bN _)) (@af _ _ _ _ _ (@aq _ _ (3) _ _ _ _ sc.nd rfl (Or.inl rfl) (@av _ _ _ _ _ _ _ _ dQ (@av _ _ _ _ _ _ _ _ dP (@av _ _ _ _ _ _ _ _ bf (@av _ _ _ _ _ _ _ _ dQ (pv 2) ah) (@av _ _ _ _ _ _ _ _ dP ah (@aU _ _ _ _ _ _ hu (pv 0) ar (fun _ _ => rfl)))) ah) ah) (by rfl) (by first | exact .inl rfl | exact .inr rfl | assumption)) (@af _ _ _ _ _ (@aq _ _ (3) _ _ _ _ sc.nd rfl (Or.inl rfl) (@av _ _ _ _ _ _ _ _ dQ (@av _ _ _ _ _ _ _ _ dP (@av _ _ _ _ _ _ _ _ bf (@av _ _ _ _ _ _ _ _ fO (pv 3) ah) (@av _ _ _ _ _ _ _ _ dP ah (@aU _ _ _ _ _ _ hu (pv 0) ar (fun _ _ => rfl)))) ah) ah) (by rfl) (by first | exact .inl rfl | exact .inr rfl | assumption)) (@ao _ _ _ (@aP _ _ _ _ (@av _ _ _ _ _ _ _ _ dQ (@av _ _ _ _ _ _ _ _ fO (pv 3) ah) (pv 1)))))) bc) (@ao _ _ _ (@bS _ _ _ _ _ _ _ _ _ hu (pv 0) ar (pv 2) rfl))))) bc) (@af _ _ _ _ _ (@aq _ _ (4) _ _ _ _ sc.nd rfl (Or.inl rfl) (@av _ _ _ _ _ _ _ _ dQ (@aU _ _ _ _ _ _ hu (pv 0) ar (fun _ _ => rfl)) (pv 1)) (by rfl) (by first | exact .inl rfl | exact .inr rfl | assumption)) (@af _ _ _ _ _ (@bS _ _ _ _ _ _ _ _ _ hu (pv 0) ar (@av _ _ _ _ _ _ _ _ fO (@aU _ _ _ _ _ _ hu (pv 0) ar (fun _ _ => rfl)) (pv 1)) rfl) (@ao _ _ _ (@aP _ _ _ _ (pv 4))))))), ?_⟩
    obtain ⟨c, i, l, t, ns, hd, hc, hne, h64⟩ := F.ex
    have dc : c≠d := kQ hc hd (by intro z;cases z)
    have fin : ∀ (r i' l' t' : Int), 0≤r → r < m → Q (.int r) (upd H d (.dK (fkv c i' l' t'))) := fun r i' l' t' h0 h1 =>
      k r _ h0 h1 ⟨c, i', l', t', ns, ae, by rw [ak dc];exact hc, hne, h64⟩ aQ.upd
    have c1 : ∀ o, (upd H d o) c=some (.lst (ns.map V.int)) := fun o => by rw [ak dc];exact hc
    have hl0 : (0 : Int) < ((ns.map V.int).length : Int) := by
      rw [List.length_map]
      have := List.length_pos_iff.mpr hne
      omega
    refine ⟨_, rfl, d, _, rfl, dg hd (iW c i l t), _, _, rfl, rfl, _, rfl, d, _, rfl, dp hd (dn c i l t) (m9 c i l t _), ?_⟩
    refine ⟨_, rfl, d, _, rfl, dg ae (e8 c i l _), rfl, _, rfl, ?_⟩
    refine oD (fun _ => ?_) (fun _ => ?_)
    rotate_left
    · refine ⟨_, rfl, d, _, rfl, dg ae (e8 c _ _ _), _, rfl, _, _, rfl, rfl, m0, ?_⟩
      refine ⟨_, rfl, d, _, rfl, dg ae (e8 c _ _ _), _, rfl, _, _, rfl, rfl, ⟨m0, by omega⟩, _, rfl, d, _, rfl, dp ae (dn c _ _ _) (iX c _ _ _ _), ?_⟩
      refine ⟨_, rfl, ?_⟩
      rw [d7]
      exact fin _ _ _ _ (Int.emod_nonneg _ (by omega)) (Int.emod_lt_of_pos _ m0)
    obtain ⟨n, hn⟩ := lK hne i
    refine ⟨_, rfl, d, _, rfl, dg ae (iV c i l _), _, rfl, d, _, rfl, dg ae (pw c i l _), _, rfl, d, _, rfl, dg ae (iV c i l _), c, _, rfl, .inl (SqL.of (c1 _)), _, _, rfl, rfl, hl0, c, _, _, _, rfl, rfl, SqL.of (c1 _), hn, ?_⟩
    refine ⟨_, rfl, d, _, rfl, dg ae (pw c i l _), _, _, rfl, rfl, _, rfl, d, _, rfl, dp ae (dn c i l _) (p0 c i l _ _), ?_⟩
    rw [d7]
    refine ⟨_, rfl, _, _, rfl, rfl, ⟨by decide, by decide, by decide⟩, _, _, rfl, rfl, _, rfl, ?_⟩
    refine oD (fun _ => ?_) (fun _ => ?_)
    · refine ⟨_, rfl, _, _, rfl, rfl, (by show (0 : Int) < 2147483629;decide), _, rfl, d, _, rfl, dg ae (iW c _ l _), _, _, rfl, rfl, .inl ⟨by decide, by decide⟩, _, _, rfl, rfl, _, _, rfl, rfl, .inr ⟨by decide, by decide⟩, _, _, rfl, rfl, (by show (0 : Int) < 2147483647;decide), ?_⟩
      refine ⟨_, rfl, _, _, rfl, rfl, ⟨by decide, by decide⟩, _, rfl, d, _, rfl, dg ae (iW c _ l _), _, _, rfl, rfl, .inl ⟨by decide, by decide⟩, _, _, rfl, rfl, _, _, rfl, rfl, .inr ⟨by decide, by decide⟩, _, _, rfl, rfl, (by show (0 : Int) < 2147483587;decide), ?_⟩
      refine ⟨_, rfl, _, _, rfl, rfl, ⟨by decide, by decide⟩, _, rfl, _, _, rfl, rfl, m0, ?_⟩
      exact fin _ _ _ _ (Int.emod_nonneg _ (by omega)) (Int.emod_lt_of_pos _ m0)
    · refine ⟨_, rfl, _, rfl, d, _, rfl, dp ae (dn c _ l _) (iX c _ l _ _), ?_⟩
      rw [d7]
      refine ⟨_, rfl, d, _, rfl, dg ae (e8 c _ _ _), _, rfl, _, _, rfl, rfl, m0, ?_⟩
      refine ⟨_, rfl, d, _, rfl, dg ae (e8 c _ _ _), _, rfl, _, _, rfl, rfl, ⟨m0, by omega⟩, _, rfl, d, _, rfl, dp ae (dn c _ _ _) (iX c _ _ _ _), ?_⟩
      refine ⟨_, rfl, ?_⟩
      rw [d7]
      exact fin _ _ _ _ (Int.emod_nonneg _ (by omega)) (Int.emod_lt_of_pos _ m0)
abbrev ft : Stmt := top 13
theorem lY : aI ["_law_script"] ["_law_script"] (aj ft) := ⟨rfl, rfl, rfl, by decide +kernel, rfl, by decide +kernel, by decide +kernel⟩
theorem nJ (D : Df K mg "_law_feed" ft)(T : Bt K w mg aB) : Fnc P w K mg base "_law_feed" ["_law_script"] 1 (iY K) := by
  have sc := lY
  refine D.ok sc (fun _ _ _ _ _ _ us hl => by obtain ⟨_, rfl⟩ := nH hl;rfl) (fun vs H Q E h => ?_) (fun f cdv A outer s H vs Q E hr h => ?_)
  · obtain ⟨a, ns, rfl, _⟩ := h
    rfl
  · obtain ⟨a, ns, rfl, hS, hlen, k⟩ := h
    have hu := cN hr
    refine ⟨_, (@ao _ _ _ (@aP _ _ _ _ (@fY _ _ _ _ _ (@bY _ _ _ _ _ _ _ _ _ ar (@av _ _ _ _ _ _ _ _ kA (@bx _ _ _ _ _ _ _ _ _ bR (by rfl) T.list e9 (@aa _ _ _ _ _ (@aw _ _ _ _ _ _ _ _ _ _ lq (pv 0) aJ (@aK _ _ _ ah)) ag (by rfl)) (by decide) (by decide) (by rfl) (by rfl)) (@av _ _ _ _ _ _ _ _ mV (@bq _ _ _ _ (@aa _ _ _ _ _ ah ag (by rfl))) (@bx _ _ _ _ _ _ _ _ _ ix (by rfl) T.int oO (@aa _ _ _ _ _ (@iu _ _ _ _ _ _ _ _ gY (@aM _ _ _ _ _ _ _ _ _ bP (by rfl) T.len PySem.boot_len (@aa _ _ _ _ _ (pv 0) ag (by rfl)) (by decide) (by decide) (by rfl) (by rfl)) ah (bN _)) ag (by rfl)) (by decide) (by decide) (by rfl) (by rfl)))) (@bY _ _ _ _ _ _ _ _ _ ar ah (@bY _ _ _ _ _ _ _ _ _ ar ah (@bY _ _ _ _ _ _ _ _ _ ar ah fX)))) rfl rfl (by simp) (by decide)))), ?_⟩
    intro p hp
    have s1 : aA H (upd H p (.dK [])) := aA.new hp
    have p1 : (upd H p (.dK [])) p=some (.dK []) := ae
    generalize upd H p (.dK [])=H1 at s1 p1
    refine ⟨_, rfl, _, rfl, a, _, rfl, s1.seq hS, fun q1 hq1 => ?_⟩
    rw [oQ hlen]
    have s2 : aA H1 (upd H1 q1 (.lst (ns.map V.int))) := aA.new hq1
    have l2 : (upd H1 q1 (.lst (ns.map V.int))) q1=some (.lst (ns.map V.int)) := ae
    generalize upd H1 q1 (.lst (ns.map V.int))=H2 at s2 l2 ⊢
    refine ⟨q1, _, rfl, .inl (SqL.of l2), fun q2 hq2 => ?_⟩
    have s3 : aA H2 (upd H2 q2 (.lst (ns.map V.int))) := aA.new hq2
    have l3 : (upd H2 q2 (.lst (ns.map V.int))) q2=some (.lst (ns.map V.int)) := ae
    generalize upd H2 q2 (.lst (ns.map V.int))=H3 at s3 l3 ⊢
    refine ⟨(by show 1≤sizeLine;decide), fun q4 hq4 => ?_⟩
    have s4 : aA H3 (upd H3 q4 (.lst [V.int 0])) := aA.new hq4
    have l4 : (upd H3 q4 (.lst [V.int 0])) q4=some (.lst [V.int 0]) := ae
    generalize upd H3 q4 (.lst [V.int 0])=H4 at s4 l4 ⊢
    have s14 : aA H H4 := ((s1.trans s2).trans s3).trans s4
    refine ⟨_, rfl, a, _, rfl, .inl (s14.seq hS), rfl, .inr ⟨_, rfl, q4, _, _, rfl, rfl, l4, ?_, ?_, ?_, fun q5 hq5 => ?_⟩⟩
    · split <;> decide
    · split <;> decide
    · split <;> decide
    have s5 : aA H4 (upd H4 q5 (.lst (List.replicate ((if decide (V.int ((ns.map V.int).length : Int)=V.int 0)=true then 1 else 0 : Int)).toNat [V.int 0]).flatten)) := aA.new hq5
    have l5 : (upd H4 q5 (.lst (List.replicate ((if decide (V.int ((ns.map V.int).length : Int)=V.int 0)=true then 1 else 0 : Int)).toNat [V.int 0]).flatten)) q5=_ := ae
    generalize upd H4 q5 (.lst (List.replicate ((if decide (V.int ((ns.map V.int).length : Int)=V.int 0)=true then 1 else 0 : Int)).toNat [V.int 0]).flatten)=H5 at s5 l5 ⊢
    refine ⟨q2, q5, _, _, rfl, rfl, s5 _ _ (s4 _ _ l3), l5, ?_, fun q6 hq6 => ?_⟩
    · have e : (List.replicate ((if decide (V.int ((ns.map V.int).length : Int)=V.int 0)=true then 1 else 0 : Int)).toNat [V.int 0]).flatten.length≤1 := by split <;> decide
      have e2 : sizeLine=16777216 := sizeLine_eq
      have e3 : (ns.map V.int).length=ns.length := List.length_map ..
      omega
    have el : ns.map V.int++(List.replicate ((if decide (V.int ((ns.map V.int).length : Int)=V.int 0)=true then 1 else 0 : Int)).toNat [V.int 0]).flatten=(if ns=[] then [0] else ns).map V.int := by
      cases ns with
      | nil => rfl
      | cons n r =>
        have en : ¬ (decide (V.int (((n::r).map V.int).length : Int)=V.int 0)=true) := by
          rw [List.length_map, List.length_cons]
          simp only [V.int.injEq, decide_eq_true_eq]
          omega
        rw [if_neg en, if_neg (by simp)]
        simp
    rw [el]
    have s6 : aA H5 (upd H5 q6 (.lst ((if ns=[] then [0] else ns).map V.int))) := aA.new hq6
    have l6 : (upd H5 q6 (.lst ((if ns=[] then [0] else ns).map V.int))) q6=_ := ae
    generalize upd H5 q6 (.lst ((if ns=[] then [0] else ns).map V.int))=H6 at s6 l6 ⊢
    have p6 : H6 p=some (.dK []) := s6 _ _ (s5 _ _ (s4 _ _ (s3 _ _ (s2 _ _ p1))))
    have pq : q6≠p := kQ l6 p6 (by intro z;cases z)
    refine ⟨p6, fkv q6 0 0 0, rfl, (by show 4≤15;decide), ?_⟩
    rw [oN]
    refine k p _ hp ⟨q6, 0, 0, 0, (if ns=[] then [0] else ns), ae, by rw [ak pq];exact l6, ?_, ?_⟩ fun b o e => ?_
    · split
      · simp
      · assumption
    · split
      · decide
      · omega
    · rw [ak (ab e hp)]
      exact s6 _ _ (s5 _ _ (s14 _ _ e))
end
end Kx
set_option Elab.async false
set_option linter.all false
set_option maxRecDepth 100000
set_option maxHeartbeats 0
namespace Kx
open PySem PySem.Spec PyProof.Rows L2 Wd
section
variable {P : Program} {w : World} {K : PySem.W.Frag} {mg : Str → Option Value} {base : Heap} {aB : Addr}
abbrev fz : Stmt := top 3
theorem lZ : aI ["word"] ["word"] (aj fz) := ⟨rfl, rfl, rfl, by decide +kernel, rfl, by decide +kernel, by decide +kernel⟩
theorem nK (D : Df K mg "back" fz)(T : Bt K w mg aB) : Fnc P w K mg base "back" ["word"] 1 mn := by
  have sc := lZ
  refine D.ok sc (fun _ _ _ _ _ _ us hl => by obtain ⟨_, rfl⟩ := nH hl;rfl) (fun vs H Q E h => ?_) (fun f cdv A outer s H vs Q E hr h => ?_)
  · obtain ⟨u, rfl, _⟩ := h
    rfl
  · obtain ⟨u, rfl, hu, k⟩ := h
    have l16 := bo
    refine ⟨_, (@ao _ _ _ (@aP _ _ _ _ (@cL _ _ _ _ _ _ _ _ _ _ _ _ PySem.F.plainAttrs_str PySem.F.slot_str_join PySem.F.type_str_join fZ ar (@aa _ _ _ _ _ (@cF _ _ _ _ _ _ _ (["letter"]) (["letter"]) ([]) _ _ _ _ (@dj _ _ _ _ _ _ rfl (by kernel_rfl)) rfl (@lF _ _ _ _ _ _ rfl T.reversed hG (@aa _ _ _ _ _ (pv 0) ag (by rfl)) (by rfl)) (fun _ _ _ _ => @aG _ _ (0) _ (show (["letter"] : List Str).Nodup from by decide +kernel) rfl (Or.inl rfl) (by first | exact .inl rfl | exact .inr rfl | assumption)) (fun _ _ _ _ => bZ) (fun _ _ _ _ => by (exact (@lG _ _ _ _ _ _ _ _ _ T.dB rfl rfl rfl T.mgB (pv 0) (fun _ _ => rfl) (by decide)))) (by intro _ ;rfl)) ag (by rfl)) (by rfl) (by rfl) (by rfl) (by rfl) (by rfl)))), ?_⟩
    refine ⟨rfl, _, rfl, _, rfl, (by rw [ai];omega), ?_⟩
    refine cG (own := ["letter"]) (cap := []) (J := oE (toS u)) u.length (fun i ys σ H' => H'=H ∧ ys=gE ((bk u).take i) ∧ ∃ v, σ = [v]) ⟨rfl, rfl, none, rfl⟩ (fun i ys σ H' hi ⟨_, e, _⟩ => ?_) (by omega) (fun i ys σ H' hi _ => ?_) (fun ys σ H' _ => ?_) ?_ ?_
    · rw [e, ck, List.length_take];omega
    · show i < (toS u).cps.size;rw [br];exact hi
    · show _=(toS u).cps.size;rw [br]
    · rintro i ys σ H1 x H2 N hi ⟨rfl, rfl, v, rfl⟩ ⟨rfl, c, hc, rfl⟩ hN
      rw [br] at hc
      obtain ⟨y, hy, e⟩ := dm hc
      obtain ⟨t, ht⟩ := T.gB y
      refine ⟨_, rfl, toS [y], toS [inv y], t, by rw [e], ht, hN _ _ _ ⟨rfl, ?_, _, rfl⟩⟩
      rw [fc (m_ u hi hy), ← dq]
      rfl
    · rintro ys σ H1 l ⟨rfl, rfl, v, rfl⟩ hl
      rw [List.take_of_length_le (by rw [bB];exact Nat.le_refl _)]
      refine ⟨_, l, (bk u).map fun x => toS [x], rfl, rfl, SqL.of (by rw [ae, eC]), du _ (by rw [bB];omega), ?_⟩
      rw [dr]
      exact k _ (aA.new hl)
end
end Kx
set_option Elab.async false
set_option linter.all false
set_option maxRecDepth 100000
set_option maxHeartbeats 0
namespace Kx
open PySem PySem.Spec PyProof.Rows L2 Wd
section
variable {P : Program} {w : World} {K : PySem.W.Frag} {mg : Str → Option Value} {base : Heap} {aB : Addr}
abbrev dI : Stmt := top 15
theorem kc : aI ["_law_word", "_law_found", "_law_sign"] ["_law_word"] (aj dI) := ⟨rfl, rfl, rfl, by decide +kernel, rfl, by decide +kernel, by decide +kernel⟩
theorem l_ (D : Df K mg "_law_back" dI) : Fnc P w K mg base "_law_back" ["_law_word"] 1 mn := by
  have sc := kc
  refine D.ok sc (fun _ _ _ _ _ _ us hl => by obtain ⟨_, rfl⟩ := nH hl;rfl) (fun vs H Q E h => ?_) (fun f cdv A outer s H vs Q E hr h => ?_)
  · obtain ⟨u, rfl, _⟩ := h
    rfl
  · obtain ⟨u, rfl, hu, k⟩ := h
    have l16 := bo
    refine ⟨_, (@af _ _ _ _ _ (@aq _ _ (1) _ _ _ _ sc.nd rfl (Or.inl rfl) ar (by rfl) (by first | exact .inl rfl | exact .inr rfl | assumption)) (@af _ _ _ _ _ (@bO _ _ _ _ _ _ _ _ PassesOwn.never rfl (@gC _ _ _ _ (pv 0)) (@aG _ _ (2) _ sc.nd rfl (Or.inl rfl) (by first | exact .inl rfl | exact .inr rfl | assumption)) (@ao _ _ _ (@aq _ _ (1) _ _ _ _ sc.nd rfl (Or.inl rfl) (@av _ _ _ _ _ _ _ _ aH (@d9 _ _ _ _ _ _ _ _ (@a_ _ _ _ _ _ _ _ _ ir (pv 2) ar rfl) (@gr _ _ _ _ _ _ _ _ _ PySem.F.plainAttrs_str PySem.F.slot_str_upper PySem.F.type_str_upper jR (pv 2) (by rfl) (by rfl)) (@gr _ _ _ _ _ _ _ _ _ PySem.F.plainAttrs_str PySem.F.slot_str_lower PySem.F.type_str_lower jS (pv 2) (by rfl) (by rfl))) (pv 1)) (by rfl) (by first | exact .inl rfl | exact .inr rfl | assumption))) (by intro _ ;rfl)) (@ao _ _ _ (@aP _ _ _ _ (pv 1))))), ?_⟩
    refine ⟨_, rfl, _, rfl, f_ (z := toS u) (fun i σ H' => ∃ v, σ = [some (tx u), some (tx (bk (u.take i))), v] ∧ H'=H) ⟨none, (by rw [List.take_zero];show _=[some (tx u), some (tx []), none];rw [d2];rfl), rfl⟩ ?_ ?_⟩
    · rintro i c σ H1 hc ⟨v, rfl, rfl⟩
      obtain ⟨x, hx, e⟩ := dm hc
      rw [e]
      have hi : i < u.length := (List.getElem?_eq_some_iff.mp hx).1
      have fin : ∀ z, z=toS [inv x] → ∃ v', [some (tx u), some (V.str (z++toS (bk (u.take i)))), some (V.str (toS [x]))]=[some (tx u), some (tx (bk (u.take (i+1)))), v'] ∧ H1=H1 := fun z ez => by
        refine ⟨some (V.str (toS [x])), ?_, rfl⟩
        rw [ez, cK, fc hx, iR]
        rfl
      have room : ∀ z, z=toS [inv x] → z.length+(toS (bk (u.take i))).length≤sizeLine := fun z ez => by
        rw [ez, ai, ai, bB, List.length_take]
        simp only [List.length_singleton]
        omega
      refine ⟨_, rfl, _, _, rfl, rfl, _, rfl, ?_⟩
      rw [jW]
      refine oD (fun h => ?_) (fun h => ?_)
      · have h : x.val < 6 := by simpa using h
        exact ⟨_, rfl, rfl, _, rfl, rfl, (by rw [ai];show 1≤5592405;decide), _, rfl, _, _, rfl, rfl, room _ (e6 h), fin _ (e6 h)⟩
      · have h : ¬ x.val < 6 := by simpa using h
        exact ⟨_, rfl, rfl, _, rfl, rfl, (by rw [ai];show 1≤5592405;decide), _, rfl, _, _, rfl, rfl, room _ (e7 h), fin _ (e7 h)⟩
    · rintro σ H1 ⟨v, rfl, rfl⟩
      rw [br, List.take_length]
      exact ⟨_, rfl, k _ (aA.refl _)⟩
end
end Kx
set_option Elab.async false
set_option linter.all false
set_option maxRecDepth 100000
set_option maxHeartbeats 0
namespace Kx
open PySem PySem.Spec PyProof.Rows L2 Wd
section
variable {P : Program} {w : World} {K : PySem.W.Frag} {mg : Str → Option Value} {base : Heap} {aB : Addr}
abbrev fA : Stmt := top 6
theorem ma : aI ["barred", "found", "word", "size"] ["barred"] (aj fA) := ⟨rfl, rfl, rfl, by decide +kernel, rfl, by decide +kernel, by decide +kernel⟩
theorem nM (D : Df K mg "beginnings" fA)(T : Bt K w mg aB) : Fnc P w K mg base "beginnings" ["barred"] 1 ji := by
  have sc := ma
  refine D.ok sc (fun _ _ _ _ _ _ us hl => by obtain ⟨_, rfl⟩ := nH hl;rfl) (fun vs H Q E h => ?_) (fun f cdv A outer s H vs Q E hr h => ?_)
  · obtain ⟨a, bar, rfl, _⟩ := h
    rfl
  · obtain ⟨a, bar, rfl, ha, bl, bw, k⟩ := h
    have l16 := bo
    have hu := cN hr
    refine ⟨_, (@af _ _ _ _ _ (@aq _ _ (1) _ _ _ _ sc.nd rfl (Or.inl rfl) cu (by rfl) (by first | exact .inl rfl | exact .inr rfl | assumption)) (@af _ _ _ _ _ (@bO _ _ _ _ _ _ _ _ PassesOwn.never rfl (@cZ _ _ _ _ (pv 0)) (@aG _ _ (2) _ sc.nd rfl (Or.inl rfl) (by first | exact .inl rfl | exact .inr rfl | assumption)) (@ao _ _ _ (@bO _ _ _ _ _ _ _ _ PassesOwn.never rfl (@bu _ _ _ _ _ _ rfl T.range (@aa _ _ _ _ _ (@aM _ _ _ _ _ _ _ _ _ bQ (by rfl) T.len PySem.boot_len (@aa _ _ _ _ _ (pv 2) ag (by rfl)) (by decide) (by decide) (by rfl) (by rfl)) ag (by rfl)) (by rfl)) (@aG _ _ (3) _ sc.nd rfl (Or.inl rfl) (by first | exact .inl rfl | exact .inr rfl | assumption)) (@ao _ _ _ (@bS _ _ _ _ _ _ _ _ _ hu (pv 1) (@aw _ _ _ _ _ _ _ _ _ _ aX (pv 2) aJ (@aK _ _ _ (pv 3))) ib rfl)) (by intro _ ;rfl))) (by intro _ ;rfl)) (@ao _ _ _ (@aP _ _ _ _ (pv 1))))), ?_⟩
    intro d hd
    have s1 := aA.new (o := .dK []) hd
    have f1 : (upd H d (.dK [])) d=some (.dK []) := ae
    generalize upd H d (.dK [])=H1 at s1 f1 ⊢
    refine ⟨_, rfl, a, rfl, ⟨_, SqL.of (s1 _ _ ha)⟩, ?_⟩
    refine gp (xs := bar.map tx) (fun i σ H' => ∃ (b2 b3 : Option V) (kvs : List (Key × V)), σ = [some (.ref a), some (.ref d), b2, b3] ∧ H' d=some (.dK kvs) ∧ kvs.length≤i*10 ∧ n0 kvs (bar.take i) ∧ aA H H') ⟨none, none, [], rfl, f1, Nat.zero_le _, fun t => rfl, s1⟩ (fun i σ H' _ ⟨_, _, _, _, _, _, _, e⟩ => SqL.of (e _ _ ha)) ?_ ?_
    · rintro i x σ H2 hx ⟨b2, b3, kvs, rfl, f2, kl, bg, s2⟩
      rw [List.getElem?_map] at hx
      obtain ⟨v, hv, rfl⟩ := Option.map_eq_some_iff.mp hx
      have vl := bw v (List.mem_of_getElem? hv)
      have lv := ai v
      have il := (List.getElem?_eq_some_iff.mp hv).1
      refine ⟨_, rfl, toS v, rfl, by omega, ?_⟩
      rw [lv]
      refine ⟨_, rfl, by omega, by omega, ?_⟩
      rw [Int.toNat_natCast]
      refine cq (lo := 0) (n := v.length) (fun j σ H' => ∃ (b3 : Option V) (kvs : List (Key × V)), σ = [some (.ref a), some (.ref d), some (tx v), b3] ∧ H' d=some (.dK kvs) ∧ kvs.length≤i*10+j ∧ (∀ t : List L, (bH kvs (.inr (toS t))).isSome=(bb (bar.take i) t || (decide (t.length < j) && t.isPrefixOf v))) ∧ aA H H') ⟨_, kvs, rfl, f2, kl, fun t => by rw [bg t];simp, s2⟩ ?_ ?_
      · rintro j σ H3 hj ⟨b3, kvs, rfl, f3, kl, bg, s3⟩
        rw [Int.zero_add]
        refine ⟨_, rfl, _, rfl, _, rfl, _, rfl, toS v, rfl, by omega, ?_⟩
        rw [aT, d3 _ (by omega), Int.toNat_natCast]
        refine ⟨d, _, rfl, jE.k (k := .inr (toS (v.take j))) f3 (by omega), ?_⟩
        refine ⟨_, _, rfl, ae, Nat.le_trans (bh _ _ _) (by omega), fun t => ?_, fun b o e => by rw [ak (ab e hd)];exact s3 _ _ e⟩
        rw [cQ]
        by_cases e : t=v.take j
        · rw [if_pos (by rw [e])]
          have h1 : (v.take j).length=j := by rw [List.length_take];omega
          have h2 : (v.take j).isPrefixOf v=true := List.isPrefixOf_iff_prefix.mpr (List.take_prefix j v)
          rw [e, h1, h2, decide_eq_true (Nat.lt_succ_self j)]
          simp
        · rw [if_neg (fun z => e (bt (Sum.inr.inj z))), bg t]
          congr 1
          rw [Bool.eq_iff_iff, Bool.and_eq_true, Bool.and_eq_true, decide_eq_true_iff, decide_eq_true_iff, List.isPrefixOf_iff_prefix]
          constructor
          · rintro ⟨a1, a2⟩;exact ⟨by omega, a2⟩
          · rintro ⟨a1, a2⟩
            refine ⟨?_, a2⟩
            rcases Nat.lt_or_ge t.length j with q | q
            · exact q
            · have : t.length=j := by omega
              exact absurd (by rw [← this];exact List.prefix_iff_eq_take.mp a2) e
      · rintro σ H3 ⟨b3, kvs, rfl, f3, kl, bg, s3⟩
        refine ⟨_, _, kvs, rfl, f3, by omega, fun t => ?_, s3⟩
        rw [bg t, List.take_add_one, hv]
        exact (j7 _ _ _).symm
    · rintro σ H2 ⟨b2, b3, kvs, rfl, f2, kl, bg, s2⟩
      rw [List.length_map, List.take_length] at bg
      exact ⟨_, rfl, k d kvs H2 hd f2 bg s2⟩
abbrev bX : Stmt := top 8
theorem hU : aI ["begins", "text", "place"] ["begins", "text"] (aj bX) := ⟨rfl, rfl, rfl, by decide +kernel, rfl, by decide +kernel, by decide +kernel⟩
theorem jx (D : Df K mg "longest_end" bX)(T : Bt K w mg aB) : Fnc P w K mg base "longest_end" ["begins", "text"] 1 dF := by
  have sc := hU
  refine D.ok sc (fun _ _ _ _ _ _ us hl => by obtain ⟨_, _, rfl⟩ := n4 hl;rfl) (fun vs H Q E h => ?_) (fun f cdv A outer s H vs Q E hr h => ?_)
  · obtain ⟨d, kvs, bar, t, rfl, _⟩ := h
    rfl
  · obtain ⟨d, kvs, bar, t, rfl, hd, bg, b0, tl, k⟩ := h
    have l16 := bo
    have hu := cN hr
    have lt := ai t
    refine ⟨_, (@af _ _ _ _ _ (@aq _ _ (2) _ _ _ _ sc.nd rfl (Or.inl rfl) ah (by rfl) (by first | exact .inl rfl | exact .inr rfl | assumption)) (@af _ _ _ _ _ (@gn _ _ _ _ _ _ PassesOwn.never (@i4 _ _ _ _ _ _ hu (@aw _ _ _ _ _ _ _ _ _ _ aX (pv 1) (@aK _ _ _ (pv 2)) aJ) (pv 0) rfl) (@ao _ _ _ (@mB _ _ (2) _ _ _ _ _ _ sc.nd rfl (Or.inl rfl) ah mD (by first | exact .inl rfl | exact .inr rfl | assumption)))) (@ao _ _ _ (@aP _ _ _ _ (@aw _ _ _ _ _ _ _ _ _ _ aX (pv 1) (@aK _ _ _ (pv 2)) aJ))))), ?_⟩
    refine gH (fun n σ H' => ∃ p : Nat, σ = [some (.ref d), some (tx t), some (.int (p : Int))] ∧ H'=H ∧ p+n=t.length ∧ lng bar (t.drop p)=lng bar t)
      (fun σ H' => ∃ p : Nat, σ = [some (.ref d), some (tx t), some (.int (p : Int))] ∧ H'=H ∧ p≤t.length ∧ t.drop p=lng bar t) ⟨t.length, 0, rfl, rfl, by omega, rfl⟩ ?_ ?_
    · rintro nx hnx n σ H' ⟨p, rfl, rfl, hp, e⟩
      have g := cM.k (k := .inr (toS (t.drop p))) hd
      refine ⟨_, rfl, _, rfl, _, rfl, toS t, rfl, by omega, ?_⟩
      rw [aT, cU _ (by omega), Int.toNat_natCast]
      refine ⟨_, rfl, d, _, rfl, g, _, rfl, ?_⟩
      rw [bg]
      cases hb : bb bar (t.drop p) with
      | true =>
        refine ng rfl (hnx _ _ ⟨p, rfl, rfl, by omega, ?_⟩)
        rw [← e]
        cases ht : t.drop p with
        | nil => rfl
        | cons x r => rw [ht] at hb;rw [lng, if_pos hb]
      | false =>
        have ht : t.drop p≠[] := fun z => by rw [z, b0] at hb;cases hb
        have pl : p < t.length := by
          rcases Nat.lt_or_ge p t.length with q | q
          · exact q
          · exact absurd (List.drop_of_length_le q) ht
        refine nZ rfl ⟨_, fun σ' H' q => q, ?_⟩
        refine ⟨_, rfl, _, _, rfl, rfl, n - 1, by omega, p+1, ?_, rfl, by omega, ?_⟩
        · rw [show ((p+1 : Nat) : Int)=(p : Int)+1 by omega];rfl
        · rw [← e, List.drop_eq_getElem_cons pl]
          rw [List.drop_eq_getElem_cons pl] at hb
          rw [lng, if_neg (by rw [hb];exact Bool.false_ne_true)]
    · rintro σ H' ⟨p, rfl, rfl, hp, e⟩
      refine ⟨_, rfl, _, rfl, _, rfl, toS t, rfl, by omega, ?_⟩
      rw [aT, cU _ (by omega), Int.toNat_natCast, e]
      exact k
end
end Kx
set_option Elab.async false
set_option linter.all false
set_option maxRecDepth 100000
set_option maxHeartbeats 0
namespace Kx
open PySem PySem.Spec PyProof.Rows L2 Wd
section
variable {P : Program} {w : World} {K : PySem.W.Frag} {mg : Str → Option Value} {base : Heap} {aB : Addr}
theorem nk2 {Q : Bool → Hp → Prop}{H : Hp}{b : Bool}(h : Q (!b) H) : ie Q b H := h
abbrev cy : Stmt := top 7
theorem jy : aI ["many", "barred", "begins", "state", "read"] ["many", "barred", "begins", "state"] (aj cy) := ⟨rfl, rfl, rfl, by decide +kernel, rfl, by decide +kernel, by decide +kernel⟩
theorem kd (D : Df K mg "states_behind" cy)(T : Bt K w mg aB)(S : ∃ t, mg "SMALL" = some (.str "abcdef" t))(Tany : mg "any" = none)(F_back : Fnc P w K mg base "back" ["word"] 1 mn)(F_longest : Fnc P w K mg base "longest_end" ["begins", "text"] 1 dF) : Fnc P w K mg base "states_behind" ["many", "barred", "begins", "state"] 2 eG := by
  obtain ⟨_, mgS⟩ := S
  have sc := jy
  refine D.ok sc (fun _ _ _ _ _ _ us hl => by obtain ⟨_, _, _, _, rfl⟩ := n5 hl;rfl) (fun vs H Q E h => ?_) (fun f cdv A outer s H vs Q E hr h => ?_)
  · obtain ⟨m, a, d, kvs, bar, st, rfl, _⟩ := h
    rfl
  · obtain ⟨m, a, d, kvs, bar, st, rfl, m6, ha, hd, bg, b0, bl, bw, sl, k⟩ := h
    have l16 := bo
    have hu := cN hr
    have ls := ai st
    have sm := dG m
    have lsm := ai (smN m)
    refine ⟨_, (@af _ _ _ _ _ (@lL _ (4) _ _ _ _ _ _ _ _ _ (["letter", "state"]) (["letter"]) ([3]) _ _ _ _ sc.nd rfl (Or.inl rfl) (@dj _ _ _ _ _ _ rfl (by kernel_rfl)) rfl (@gC _ _ _ _ (@av _ _ _ _ _ _ _ _ aH (@aw _ _ _ _ _ _ _ _ _ _ aX (@fK _ _ (.str "abcdef") _ _ rfl mgS ⟨_, rfl⟩ (by decide)) aJ (@aK _ _ _ (pv 0))) (@aC _ _ _ _ _ _ _ _ _ _ _ F_back hr (by decide) rfl (@aa _ _ _ _ _ (@aw _ _ _ _ _ _ _ _ _ _ aX (@fK _ _ (.str "abcdef") _ _ rfl mgS ⟨_, rfl⟩ (by decide)) aJ (@aK _ _ _ (pv 0))) ag (by rfl)) (by decide) (by rfl) (by rfl)))) (fun _ _ _ _ => @aG _ _ (0) _ (show (["letter", "state"] : List Str).Nodup from by decide +kernel) rfl (Or.inl rfl) (by first | exact .inl rfl | exact .inr rfl | assumption)) (fun _ _ _ _ => bZ) (fun _ _ _ _ => by (exact @av _ _ _ _ _ _ _ _ aH (by (exact (pv 1))) (by (exact (pv 0))))) (by intro _ ;rfl) (by rfl) (by first | exact .inl rfl | exact .inr rfl | assumption)) (@ao _ _ _ (@aP _ _ _ _ (@j2 _ _ _ _ _ _ _ (["text", "begins", "barred"]) (["text"]) ([2, 1]) ("text") _ _ _ _ (@lO _ _ _ _ _ _ _ rfl (by kernel_rfl)) rfl (@cZ _ _ _ _ (pv 4)) (fun _ _ _ _ _ => @aG _ _ (0) _ (show (["text", "begins", "barred"] : List Str).Nodup from by decide +kernel) rfl (Or.inr rfl) (by first | exact .inl rfl | exact .inr rfl | assumption)) (fun _ _ _ _ _ => (@gA _ _ _ (by exact (@gm _ _ _ _ (@nh _ _ _ (@aM _ _ _ _ _ _ _ _ _ (@hR _ (K) rfl rfl) (by rfl) Tany oW (@aa _ _ _ _ _ (@cF _ _ _ _ _ _ _ (["word", "text"]) (["word"]) ([0]) _ _ _ _ (@dj _ _ _ _ _ _ rfl (by kernel_rfl)) rfl (@jY _ _ (K) rfl _ _ (pv 2)) (fun _ _ _ _ => @aG _ _ (0) _ (show (["word", "text"] : List Str).Nodup from by decide +kernel) rfl (Or.inl rfl) (by first | exact .inl rfl | exact .inr rfl | assumption)) (fun _ _ _ _ => bZ) (fun _ _ _ _ => by (exact (@kJ _ _ _ _ _ _ _ _ _ _ _ _ (K) rfl PySem.F.plainAttrs_str PySem.F.slot_str_endswith PySem.F.type_str_endswith jc (pv 1) (@aa _ _ _ _ _ (pv 0) ag (by rfl)) (by rfl) (by rfl) (by rfl) (by rfl) (by rfl)))) (by intro _ ;rfl)) ag (by rfl)) (by decide) (by decide) (by rfl) (by rfl)) (fun _ => rfl)))))) (fun _ _ _ _ _ => by (exact (@aC _ _ _ _ _ _ _ _ _ _ _ F_longest hr (by decide) rfl (@aa _ _ _ _ _ (pv 1) (@aa _ _ _ _ _ (pv 0) ag (by rfl)) (by rfl)) (by decide) (by rfl) (by rfl)))) (by intro _ ;rfl))))), ?_⟩
    refine ⟨_, rfl, _, rfl, _, rfl, (aE (n := 6) (by decide)), _, rfl, _, rfl, _, rfl, (aE (n := 6) (by decide)), ?_⟩
    rw [cW]
    refine ⟨smN m, rfl, by omega, fun H0 s0 => ?_⟩
    have lbk := ai (bk (smN m))
    rw [bB] at lbk
    refine ⟨_, _, rfl, rfl, by omega, ?_⟩
    rw [cH]
    show ∃ z, V.str (toS (sgP m))=V.str z ∧ _
    have lsg := jj m
    refine ⟨_, rfl, ?_⟩
    refine cG (own := ["letter"]) (cap := [3]) (J := Its (toS (sgP m))) (sgP m).length (fun j ys σ H' => ∃ b : Option V, σ = [b, some (tx st)] ∧ ys=(((sgP m).take j).map fun x => st++[x]).map tx ∧ H'=H0) ⟨none, rfl, rfl, rfl⟩ (fun j ys σ H' hj ⟨_, _, e, _⟩ => by rw [e, List.length_map, List.length_map, List.length_take];omega) (by omega) (fun j ys σ H' hj _ => ?_) (fun ys σ H' _ => ?_) ?_ ?_
    · show j < (toS _).cps.size;rw [br];exact hj
    · show _=(toS _).cps.size;rw [br]
    · rintro j ys σ' H7 z H8 N hj ⟨b, rfl, rfl, rfl⟩ ⟨rfl, c, hc, rfl⟩ hN
      obtain ⟨x, hx, e⟩ := dm hc
      rw [e]
      have lx := ai [x]
      have ls1 : [x].length=1 := rfl
      refine ⟨_, rfl, _, rfl, _, _, rfl, rfl, by omega, ?_⟩
      rw [cK]
      refine hN _ _ _ ⟨_, rfl, ?_, rfl⟩
      rw [List.take_add_one, hx, List.map_append, List.map_append]
      rfl
    rintro ys σ' H1 l0 ⟨b, rfl, rfl, rfl⟩ hl0
    rw [List.take_length]
    have s1 := s0.then (o := .lst (((sgP m).map fun x => st++[x]).map tx)) hl0
    have f1 : (upd H1 l0 (.lst (((sgP m).map fun x => st++[x]).map tx))) l0=some (.lst (((sgP m).map fun x => st++[x]).map tx)) := ae
    generalize upd H1 l0 (.lst (((sgP m).map fun x => st++[x]).map tx))=H2 at s1 f1 ⊢
    refine ⟨_, rfl, l0, rfl, ⟨_, SqL.of f1⟩, ?_⟩
    refine dv (xs := ((sgP m).map fun x => st++[x]).map tx) (own := ["text"]) (cap := [2, 1]) (fun j ys σ H' => ∃ b : Option V, σ = [b, some (.ref d), some (.ref a)] ∧ ys=(((sgP m).take j).filter fun x => okB bar (st++[x])).map (fun x => tx (lng bar (st++[x]))) ∧ aA H2 H') ⟨none, rfl, rfl, aA.refl _⟩ (fun j ys σ H' hj ⟨_, _, e, _⟩ => by rw [e, List.length_map];exact Nat.le_trans (List.length_filter_le _ _) (by rw [List.length_take];omega)) (by rw [List.length_map, List.length_map];omega) (fun j ys σ H' ⟨_, _, _, e⟩ => SqL.of (e _ _ f1)) ?_ ?_
    · rintro j ys σ H3 z N hz ⟨b, rfl, rfl, s3⟩ hN
      rw [List.getElem?_map, List.getElem?_map] at hz
      obtain ⟨t0, ht0, rfl⟩ := Option.map_eq_some_iff.mp hz
      obtain ⟨x, hx, rfl⟩ := Option.map_eq_some_iff.mp ht0
      have ha3 := s3 _ _ (s1 _ _ ha)
      have hd3 := s3 _ _ (s1 _ _ hd)
      have lt := ai (st++[x])
      rw [List.length_append, List.length_singleton] at lt
      refine ⟨_, rfl, a, rfl, ⟨_, SqL.of ha3⟩, ?_⟩
      refine dv (xs := bar.map tx) (own := ["word"]) (cap := [0]) (fun i ys σ H' => ∃ b : Option V, σ = [b, some (tx (st++[x]))] ∧ ys=((bar.take i).map fun w => w.isSuffixOf (st++[x])).map V.bl ∧ H'=H3) ⟨none, rfl, rfl, rfl⟩ (fun i ys σ H' hi ⟨_, _, e, _⟩ => by rw [e, List.length_map, List.length_map, List.length_take];omega) (by rw [List.length_map];omega) (fun i ys σ H' ⟨_, _, _, e⟩ => by rw [e];exact SqL.of ha3) ?_ ?_
      · rintro i ys σ H4 z N hz ⟨b, rfl, rfl, rfl⟩ hN
        rw [List.getElem?_map] at hz
        obtain ⟨w1, hw1, rfl⟩ := Option.map_eq_some_iff.mp hz
        refine ⟨_, rfl, rfl, _, rfl, _, _, rfl, rfl, ?_⟩
        rw [gM]
        refine hN _ _ _ ⟨_, rfl, ?_, rfl⟩
        rw [List.take_add_one, hw1, List.map_append, List.map_append]
        rfl
      rintro ys σ H4 q ⟨b, rfl, rfl, rfl⟩ hq
      rw [List.length_map, List.take_length]
      have s5 := s3.then (o := .lst ((bar.map fun w => w.isSuffixOf (st++[x])).map V.bl)) hq
      have f5 : (upd H4 q (.lst ((bar.map fun w => w.isSuffixOf (st++[x])).map V.bl))) q=some (.lst ((bar.map fun w => w.isSuffixOf (st++[x])).map V.bl)) := ae
      have hd5 := aA.new (o := .lst ((bar.map fun w => w.isSuffixOf (st++[x])).map V.bl)) hq _ _ hd3
      generalize upd H4 q (.lst ((bar.map fun w => w.isSuffixOf (st++[x])).map V.bl))=H5 at s5 f5 hd5 ⊢
      refine ⟨q, _, rfl, SqL.of f5, _, rfl, ?_⟩
      have eo : ((bar.map fun w => w.isSuffixOf (st++[x])).any id)=!(okB bar (st++[x])) := by
        unfold okB
        rw [Bool.not_not, List.any_map]
        rfl
      rw [eo]
      cases ho : okB bar (st++[x]) with
      | true =>
        refine nk2 (b := false) (nZ rfl ?_)
        refine ⟨_, rfl, _, rfl, d, kvs, bar, st++[x], rfl, hd5, bg, b0, by rw [List.length_append, List.length_singleton];omega, hN _ _ _ ⟨_, rfl, ?_, s5⟩⟩
        rw [List.take_add_one, hx, List.filter_append, List.map_append]
        simp [ho]
      | false =>
        refine nk2 (b := true) (ng rfl ?_)
        refine hN _ _ _ ⟨_, rfl, ?_, s5⟩
        rw [List.take_add_one, hx, List.filter_append]
        simp [ho]
    rintro ys σ H3 l ⟨b, rfl, rfl, s3⟩ hl
    rw [List.length_map, List.length_map, List.take_length]
    refine k l _ ((s1.trans s3).free hl) ?_ ((s1.trans s3).then hl)
    rw [ae]
    unfold dlt
    rw [List.map_map]
    rfl
end
end Kx
set_option Elab.async false
set_option linter.all false
set_option maxRecDepth 100000
set_option maxHeartbeats 0
namespace Kx
open PySem PySem.Spec PyProof.Rows L2 Wd
section
variable {P : Program} {w : World} {K : PySem.W.Frag} {mg : Str → Option Value} {base : Heap} {aB : Addr}
abbrev jz : Stmt := top 5
theorem nN : aI ["many", "words", "barred", "letter", "begins", "found", "waiting", "state"] ["many", "words"] (aj jz) := ⟨rfl, rfl, rfl, by decide +kernel, rfl, by decide +kernel, by decide +kernel⟩
theorem o1 (D : Df K mg "followed" jz)(T : Bt K w mg aB)(S : ∃ t, mg "SMALL" = some (.str "abcdef" t))(F_back : Fnc P w K mg base "back" ["word"] 1 mn)(F_begs : Fnc P w K mg base "beginnings" ["barred"] 1 ji)(F_behind : Fnc P w K mg base "states_behind" ["many", "barred", "begins", "state"] 2 eG) : Fnc P w K mg base "followed" ["many", "words"] 3 lV := by
  obtain ⟨_, mgS⟩ := S
  have sc := nN
  refine D.ok sc (fun _ _ _ _ _ _ us hl => by obtain ⟨_, _, rfl⟩ := n4 hl;rfl) (fun vs H Q E h => ?_) (fun f cdv A outer s H vs Q E hr h => ?_)
  · obtain ⟨m, a, W, rfl, _⟩ := h
    rfl
  · obtain ⟨m, a, W, rfl, m1, m6, ha, wne, wl, ww, k⟩ := h
    have l16 := bo
    have hu := cN hr
    have sm := dG m
    refine ⟨_, (@af _ _ _ _ _ (@aq _ _ (2) _ _ _ _ sc.nd rfl (Or.inl rfl) (@bx _ _ _ _ _ _ _ _ _ bR (by rfl) T.list e9 (@aa _ _ _ _ _ (pv 1) ag (by rfl)) (by decide) (by decide) (by rfl) (by rfl)) (by rfl) (by first | exact .inl rfl | exact .inr rfl | assumption)) (@af _ _ _ _ _ (@bO _ _ _ _ _ _ _ _ PassesOwn.never rfl (@gC _ _ _ _ (@aw _ _ _ _ _ _ _ _ _ _ aX (@fK _ _ (.str "abcdef") _ _ rfl mgS ⟨_, rfl⟩ (by decide)) aJ (@aK _ _ _ (pv 0)))) (@aG _ _ (3) _ sc.nd rfl (Or.inl rfl) (by first | exact .inl rfl | exact .inr rfl | assumption)) (@ao _ _ _ (@bF _ _ _ _ (@cL _ _ _ _ _ _ _ _ _ _ _ _ PySem.F.plainAttrs_list PySem.F.slot_list_extend PySem.F.type_list_extend eU (pv 2) (@aa _ _ _ _ _ (@bq _ _ _ _ (@aa _ _ _ _ _ (@av _ _ _ _ _ _ _ _ aH (pv 3) (@aC _ _ _ _ _ _ _ _ _ _ _ F_back hr (by decide) rfl (@aa _ _ _ _ _ (pv 3) ag (by rfl)) (by decide) (by rfl) (by rfl))) (@aa _ _ _ _ _ (@av _ _ _ _ _ _ _ _ aH (@aC _ _ _ _ _ _ _ _ _ _ _ F_back hr (by decide) rfl (@aa _ _ _ _ _ (pv 3) ag (by rfl)) (by decide) (by rfl) (by rfl)) (pv 3)) ag (by rfl)) (by rfl))) ag (by rfl)) (by rfl) (by rfl) (by rfl) (by rfl) (by rfl)) (by rfl))) (by intro _ ;rfl)) (@af _ _ _ _ _ (@aq _ _ (4) _ _ _ _ sc.nd rfl (Or.inl rfl) (@aC _ _ _ _ _ _ _ _ _ _ _ F_begs hr (by decide) rfl (@aa _ _ _ _ _ (pv 2) ag (by rfl)) (by decide) (by rfl) (by rfl)) (by rfl) (by first | exact .inl rfl | exact .inr rfl | assumption)) (@af _ _ _ _ _ (@aq _ _ (5) _ _ _ _ sc.nd rfl (Or.inl rfl) cu (by rfl) (by first | exact .inl rfl | exact .inr rfl | assumption)) (@af _ _ _ _ _ (@aq _ _ (6) _ _ _ _ sc.nd rfl (Or.inl rfl) (@d9 _ _ _ _ _ _ _ _ (@a_ _ _ _ _ _ _ _ _ iD ar (pv 2) rfl) (@bq _ _ _ _ ag) (@bq _ _ _ _ (@aa _ _ _ _ _ ar ag (by rfl)))) (by rfl) (by first | exact .inl rfl | exact .inr rfl | assumption)) (@af _ _ _ _ _ (@gn _ _ _ _ _ _ PassesOwn.never (@cO _ _ _ (pv 6) (fun _ => rfl)) (@af _ _ _ _ _ (@aq _ _ (7) _ _ _ _ sc.nd rfl (Or.inl rfl) (@gr _ _ _ _ _ _ _ _ _ PySem.F.plainAttrs_list PySem.F.slot_list_pop PySem.F.type_list_pop mU (pv 6) (by rfl) (by rfl)) (by rfl) (by first | exact .inl rfl | exact .inr rfl | assumption)) (@ao _ _ _ (@cY _ _ _ _ _ _ _ _ (@i4 _ _ _ _ _ _ hu (pv 7) (pv 5) rfl) (@af _ _ _ _ _ (@bS _ _ _ _ _ _ _ _ _ hu (pv 5) (pv 7) (@aC _ _ _ _ _ _ _ _ _ _ _ F_behind hr (by decide) rfl (@aa _ _ _ _ _ (pv 0) (@aa _ _ _ _ _ (pv 2) (@aa _ _ _ _ _ (pv 4) (@aa _ _ _ _ _ (pv 7) ag (by rfl)) (by rfl)) (by rfl)) (by rfl)) (by decide) (by rfl) (by rfl)) rfl) (@ao _ _ _ (@bF _ _ _ _ (@cL _ _ _ _ _ _ _ _ _ _ _ _ PySem.F.plainAttrs_list PySem.F.slot_list_extend PySem.F.type_list_extend eU (pv 6) (@aa _ _ _ _ _ (@aU _ _ _ _ _ _ hu (pv 5) (pv 7) (fun _ _ => rfl)) ag (by rfl)) (by rfl) (by rfl) (by rfl) (by rfl) (by rfl)) (by rfl)))) bc)))) (@ao _ _ _ (@aP _ _ _ _ (pv 5))))))))), ?_⟩
    refine ⟨_, rfl, a, _, rfl, .inl (SqL.of ha), fun b hb => ?_⟩
    have s1 := aA.new (o := .lst (W.map tx)) hb
    have f1 : (upd H b (.lst (W.map tx))) b=some (.lst (W.map tx)) := ae
    show aZ _ _ _ _ (upd H b (.lst (W.map tx)))
    generalize upd H b (.lst (W.map tx))=H1 at s1 f1 ⊢
    refine ⟨_, rfl, _, rfl, _, rfl, (aE (n := 6) (by decide)), ?_⟩
    rw [cW]
    refine ⟨toS (smN m), rfl, f_ (z := toS (smN m)) (fun i σ H' => ∃ (b3 : Option V), σ = [some (.int (m : Int)), some (.ref a), some (.ref b), b3, none, none, none, none] ∧ H' b=some (.lst ((W++((smN m).take i).flatMap fun x => [[x, inv x], [inv x, x]]).map tx)) ∧ aA H H') ⟨none, rfl, by simpa using f1, s1⟩ ?_ ?_⟩
    · rintro i c σ H2 hc ⟨b3, rfl, f2, s2⟩
      obtain ⟨x, hx, e⟩ := dm hc
      rw [e]
      have lx := ai [x]
      have ls1 : [x].length=1 := rfl
      have lb := ai (bk [x])
      rw [bB] at lb
      have i6 := (List.getElem?_eq_some_iff.mp hx).1
      refine ⟨_, rfl, .inl ⟨rfl, _, SqL.of f2⟩, _, rfl, _, rfl, [x], rfl, (by omega), fun H3 s3 => ⟨_, _, rfl, rfl, by omega, ?_⟩⟩
      refine ⟨_, rfl, [x], rfl, (by omega), fun H4 s4 => ⟨_, rfl, _, _, rfl, rfl, by omega, ?_⟩⟩
      rw [cK, cK]
      refine ⟨(aE (n := 2) (by decide)), fun q hq => ?_⟩
      have f4 := aA.new (o := .lst [tx ([x]++bk [x]), tx (bk [x]++[x])]) hq _ _ (s4 _ _ (s3 _ _ f2))
      have fl : ∀ l : List L, (l.flatMap fun x => [[x, inv x], [inv x, x]]).length=2*l.length := fun l => by
        induction l with
        | nil => rfl
        | cons x r ih => rw [List.flatMap_cons, List.length_append, ih];simp;omega
      have ln : (W++((smN m).take i).flatMap fun x => [[x, inv x], [inv x, x]]).length≤200 := by rw [List.length_append, fl, List.length_take];omega
      refine ⟨b, q, _, _, rfl, rfl, f4, ae, (by rw [List.length_map];show _+2≤_;omega), ?_⟩
      refine ⟨_, rfl, ?_, fun b' o z => ?_⟩
      · rw [ae, List.take_add_one, hx, Option.toList_some, List.flatMap_append, List.flatMap_singleton, ← List.append_assoc, List.map_append (l₂ := [[x, inv x], [inv x, x]])]
        rfl
      · rw [ak (ab z hb)]
        exact aA.new hq _ _ (s4 _ _ (s3 _ _ (s2 _ _ z)))
    · rintro σ H2 ⟨b3, rfl, f2, s2⟩
      rw [br, List.take_length] at f2
      have f2 : H2 b=some (.lst ((barP m W).map tx)) := f2
      have bl := jm m W
      have bw := lU (m := m) (k := 10) (by decide) ww
      have b0 := nE (m := m) (W := W) m1
      have bne := jl (m := m) wne
      generalize barP m W=bar at f2 bl bw b0 bne k
      refine ⟨_, rfl, b, bar, rfl, f2, by omega, bw, fun g gv H3 hg f3 bg s3 => ?_⟩
      intro fd hfd
      have s4 := (s2.trans s3).then (o := .dK []) hfd
      have t4 := aA.new (o := .dK []) hfd
      have f4 : (upd H3 fd (.dK [])) fd=some (.dK []) := ae
      have fb4 := t4 _ _ (s3 _ _ f2)
      have fg4 := t4 _ _ f3
      have hfd0 : H fd=none := (s2.trans s3).free hfd
      generalize upd H3 fd (.dK [])=H4 at s4 f4 fb4 fg4 ⊢
      clear t4
      refine ⟨_, rfl, b, _, rfl, .inl (SqL.of fb4), rfl, ?_, _, rfl, ?_⟩
      · rw [List.all_map, List.all_eq_true];intro x _;rfl
      have nin : inV (V.str (Str.ofString "")) (bar.map tx)=false := by
        unfold inV
        rw [List.any_map, List.any_eq_false]
        intro w1 hw1 z
        have z : (toS w1 == Str.ofString "")=true := z
        have z := eq_of_beq z
        have e0 : toS w1=toS [] := z.trans (V.str.inj d2).symm
        rw [bt e0] at hw1
        exact bne hw1
      refine ng nin ⟨(aE (n := 1) (by decide)), fun wa hwa => ?_⟩
      have t5 := aA.new (o := .lst [V.str (Str.ofString "")]) hwa
      have s5 := s4.trans t5
      have f5 : (upd H4 wa (.lst [V.str (Str.ofString "")])) wa=some (.lst (([[]] : List (List L)).map tx)) := by rw [ae];exact congrArg (fun z => some (HO.lst [z])) d2.symm
      have fb5 := t5 _ _ fb4
      have fg5 := t5 _ _ fg4
      have ff5 := t5 _ _ f4
      have hwa0 : H wa=none := s4.free hwa
      show aZ _ _ _ _ (upd H4 wa (.lst [V.str (Str.ofString "")]))
      generalize upd H4 wa (.lst [V.str (Str.ofString "")])=H5 at s5 f5 fb5 fg5 ff5 ⊢
      have nbw : b≠wa := ab fb4 hwa
      have ngw : g≠wa := ab fg4 hwa
      have nfw : fd≠wa := ab f4 hwa
      have nbf : b≠fd := fun z => by rw [z, f4] at fb4;cases fb4
      have ngf : g≠fd := ab f3 hfd
      clear t5
      refine gH (fun n σ H' => ∃ (b7 : Option V) (kvs : List (Key × V)) (ss wt : List (List L)), σ = [some (.int (m : Int)), some (.ref a), some (.ref b), b3, some (.ref g), some (.ref fd), some (.ref wa), b7] ∧ H' b=some (.lst (bar.map tx)) ∧ H' g=some (.dK gv) ∧ H' fd=some (.dK kvs) ∧ H' wa=some (.lst (wt.map tx)) ∧ eI H' kvs m bar wa ss wt ∧ ([]∈ss ∨ []∈wt) ∧ (∀ u∈wt, bb bar u=true) ∧ 13*(2000 - ss.length)+wt.length≤n ∧ wt.length≤13*ss.length+1 ∧ aA H H')
        (fun σ H' => ∃ (b7 : Option V) (kvs : List (Key × V)) (ss : List (List L)), σ = [some (.int (m : Int)), some (.ref a), some (.ref b), b3, some (.ref g), some (.ref fd), some (.ref wa), b7] ∧ H' fd=some (.dK kvs) ∧ eI H' kvs m bar wa ss [] ∧ []∈ss ∧ aA H H')
        ⟨26001, none, [], [], [[]], rfl, fb5, fg5, ff5, f5, ⟨List.nodup_nil, fun s hs => absurd hs List.not_mem_nil, Nat.zero_le _, fun t => rfl, fun s hs => absurd hs List.not_mem_nil⟩, .inr (by simp), (fun u hu => by rw [List.mem_singleton.mp hu];exact b0), by simp, by simp, s5⟩ ?_ ?_
      · rintro nx hnx n σ H6 ⟨b7, kvs, ss, wt, rfl, fb, fg, ff, fw, F, h0, hbeg, hn, hwl, s6⟩
        have sl : ss.length≤1200 := by
          have := j8 F.nd fun x hx => jk (F.beg x hx)
          have := gN bw
          omega
        refine ⟨_, rfl, _, .inl ⟨_, SqL.of fw, rfl⟩, ?_⟩
        rcases List.eq_nil_or_concat wt with rfl | ⟨ws, u, ewt⟩
        · exact ng rfl (hnx _ _ ⟨_, kvs, ss, rfl, ff, F, h0.resolve_right (by simp), s6⟩)
        · rw [List.concat_eq_append] at ewt
          subst ewt
          have hub := hbeg u (by simp)
          have ul : u.length≤10 := by
            obtain ⟨w1, hw1, h1, _⟩ := bE.mp hub
            have := bw w1 hw1
            omega
          refine nZ (by simp) ⟨_, fun σ' H' q => q, ?_⟩
          refine ⟨_, rfl, .inl ⟨rfl, _, SqL.of fw⟩, wa, _, tx u, rfl, rfl, fw, by simp, ?_⟩
          have ew : ((ws++[u]).map tx).dropLast=ws.map tx := by rw [List.map_append];simp
          rw [ew]
          have fw7 : (upd H6 wa (.lst (ws.map tx))) wa=some (.lst (ws.map tx)) := ae
          have k7 : ∀ c o, c≠wa → H6 c=some o → (upd H6 wa (.lst (ws.map tx))) c=some o := fun c o nc e => by rw [ak nc];exact e
          have fb7 := k7 _ _ nbw fb
          have fg7 := k7 _ _ ngw fg
          have ff7 := k7 _ _ nfw ff
          have F7 := F.mono (H' := upd H6 wa (.lst (ws.map tx))) fun r xs nr e => k7 _ _ nr e
          have s7 : aA H (upd H6 wa (.lst (ws.map tx))) := fun c o e => by rw [ak (ab e hwa0)];exact s6 _ _ e
          show aZ _ _ _ _ (upd H6 wa (.lst (ws.map tx)))
          generalize upd H6 wa (.lst (ws.map tx))=H7 at fw7 fb7 fg7 ff7 F7 s7 ⊢
          clear k7
          rw [List.length_append, List.length_singleton] at hn hwl
          have gt := cM.k (k := .inr (toS u)) ff7
          refine ⟨_, rfl, _, rfl, fd, _, rfl, gt, _, rfl, ?_⟩
          rw [F7.key u]
          by_cases hus : u∈ss
          · rw [decide_eq_true hus]
            refine i7 ⟨n - 1, by omega, _, kvs, ss, ws, rfl, fb7, fg7, ff7, fw7, F7.pop hus, ?_, fun x hx => hbeg x (List.mem_append_left _ hx), by omega, by omega, s7⟩
            rcases h0 with q | q
            · exact .inl q
            · rcases List.mem_append.mp q with q | q
              · exact .inr q
              · rw [← List.mem_singleton.mp q] at hus;exact .inl hus
          · rw [decide_eq_false hus]
            refine nj ?_
            refine ⟨_, rfl, _, rfl, _, rfl, _, rfl, m, b, g, gv, bar, u, rfl, m6, fb7, fg7, bg, b0, by omega, bw, ul, fun l H8 hl fl s8 => ?_⟩
            have dl := lT m bar u
            have kl := F7.kl
            refine ⟨_, rfl, _, rfl, fd, _, rfl, jE.k (k := .inr (toS u)) (s8 _ _ ff7) (by omega), ?_⟩
            have nlw : l≠wa := (ab fw7 hl).symm
            have nlf : l≠fd := (ab ff7 hl).symm
            have k9 : ∀ c o, c≠fd → H8 c=some o → (upd H8 fd (.dK (bI kvs (.inr (toS u)) (.ref l)))) c=some o := fun c o nc e => by rw [ak nc];exact e
            have ff9 : (upd H8 fd (.dK (bI kvs (.inr (toS u)) (.ref l)))) fd=some (.dK (bI kvs (.inr (toS u)) (.ref l))) := ae
            have fb9 := k9 _ _ nbf (s8 _ _ fb7)
            have fg9 := k9 _ _ ngf (s8 _ _ fg7)
            have fw9 := k9 _ _ nfw.symm (s8 _ _ fw7)
            have fl9 := k9 _ _ nlf fl
            have F9 := ((F7.mono (H' := H8) fun r xs _ e => s8 _ _ e).mono (H' := upd H8 fd (.dK (bI kvs (.inr (toS u)) (.ref l)))) fun r xs _ e => k9 _ _ (fun z => by rw [z, s8 _ _ ff7] at e;cases e) e).put hus hub fl9 nlw
            have s9 : aA H (upd H8 fd (.dK (bI kvs (.inr (toS u)) (.ref l)))) := fun c o e => by rw [ak (ab e hfd0)];exact s8 _ _ (s7 _ _ e)
            generalize upd H8 fd (.dK (bI kvs (.inr (toS u)) (.ref l)))=H9 at ff9 fb9 fg9 fw9 fl9 F9 s9 ⊢
            clear k9
            have gl := cM.k (k := .inr (toS u)) ff9
            rw [cQ, if_pos rfl] at gl
            refine ⟨_, rfl, .inl ⟨rfl, _, SqL.of fw9⟩, _, rfl, _, rfl, fd, _, rfl, gl, wa, l, _, _, rfl, rfl, fw9, fl9, (by rw [List.length_map, List.length_map];omega), ?_⟩
            have k10 : ∀ c o, c≠wa → H9 c=some o → (upd H9 wa (.lst (ws.map tx++(dlt (sgP m) bar u).map tx))) c=some o := fun c o nc e => by rw [ak nc];exact e
            refine ⟨n - 1, by omega, _, _, ss++[u], ws++dlt (sgP m) bar u, rfl, k10 _ _ nbw fb9, k10 _ _ ngw fg9, k10 _ _ nfw ff9, by rw [ae, List.map_append], F9.mono fun r xs nr e => k10 _ _ nr e, ?_, fun x hx => ?_, ?_, ?_, fun c o e => by rw [ak (ab e hwa0)];exact s9 _ _ e⟩
            · rcases h0 with q | q
              · exact .inl (List.mem_append_left _ q)
              · rcases List.mem_append.mp q with q | q
                · exact .inr (List.mem_append_left _ q)
                · exact .inl (List.mem_append_right _ q)
            · rcases List.mem_append.mp hx with q | q
              · exact hbeg x (List.mem_append_left _ q)
              · unfold dlt at q
                obtain ⟨y, _, rfl⟩ := List.mem_map.mp q
                exact dA b0 _
            · rw [List.length_append, List.length_append, List.length_singleton];omega
            · rw [List.length_append, List.length_append, List.length_singleton];omega
      · rintro σ H6 ⟨b7, kvs, ss, rfl, ff, F, h0, s6⟩
        exact ⟨_, rfl, k fd wa kvs ss H6 hfd0 ff F h0 s6⟩
end
end Kx
set_option Elab.async false
set_option linter.all false
set_option maxRecDepth 100000
set_option maxHeartbeats 0
namespace Kx
open PySem PySem.Spec PyProof.Rows L2 Wd
section
variable {P : Program} {w : World} {K : PySem.W.Frag} {mg : Str → Option Value} {base : Heap} {aB : Addr}
theorem gS {d : Addr}{o : Obj}{kvs : List (Key × V)}{g : TG}{tb : TS}{D : fE}{σ : L2.St}{H : Hp}(Pv : Nat → L2.St → Hp → Prop)(h0 : Pv 0 σ H)(hl : ∀ i σ H, i≤kvs.length → Pv i σ H → H d=some (.frz o (.dK kvs)))
    (hs : ∀ i k v σ H, kvs[i]? = some (k, v) → Pv i σ H → g (kV k) σ H fun σ2 H2 => tb { D with nx := Pv (i+1), ct := Pv (i+1), bk := D.nx } σ2 H2) (hd : ∀ σ H, Pv kvs.length σ H → D.nx σ H) :
    ∃ W : Nat → Nat → L2.St → Hp → Prop, (∃ m, W 0 m σ H) ∧ ∀ i m σ H, W i m σ H →
      ((Itk d o kvs).stop i H ∧ D.nx σ H) ∨ ((Itk d o kvs).go i H ∧ ∃ N : L2.St → Hp → Prop, (∀ σ' H', N σ' H' → ∃ m', m' < m ∧ W (i+1) m' σ' H') ∧ ∀ x H', (Itk d o kvs).yld i H x H' → g x σ H' fun σ2 H2 => tb { D with nx := N, ct := N, bk := D.nx } σ2 H2) := by
  refine ⟨fun i m σ H => m=kvs.length - i ∧ i≤kvs.length ∧ Pv i σ H, ⟨kvs.length, by simp, Nat.zero_le _, h0⟩, ?_⟩
  rintro i m σ H ⟨rfl, hi, p⟩
  have q := hl i σ H hi p
  by_cases hlt : i < kvs.length
  · refine .inr ⟨⟨hlt, q⟩, Pv (i+1), fun σ' H' p' => ⟨kvs.length - (i+1), by omega, rfl, hlt, p'⟩, ?_⟩
    rintro v H' ⟨rfl, key, val, hkv, rfl⟩
    exact hs i key val σ _ hkv p
  · obtain rfl : i=kvs.length := by omega
    exact .inl ⟨⟨rfl, q⟩, hd σ H p⟩
theorem eL {l : Cts}{i : Nat}{key : Key}{val : V}(h : (l.map aY)[i]? = some (key, val)) : ∃ p, l[i]? = some p ∧ key = .inr (toS p.1) ∧ val = .int (p.2 : Int) := by
  rw [List.getElem?_map] at h
  obtain ⟨p, h1, h2⟩ := Option.map_eq_some_iff.mp h
  cases h2
  exact ⟨p, h1, rfl, rfl⟩
abbrev nO : Stmt := top 11
theorem o3 : aI ["states", "reached", "found", "state", "behind"] ["states", "reached"] (aj nO) := ⟨rfl, rfl, rfl, by decide +kernel, rfl, by decide +kernel, by decide +kernel⟩
theorem p8 (D : Df K mg "one_letter_on" nO)(T : Bt K w mg aB) : Fnc P w K mg base "one_letter_on" ["states", "reached"] 1 oZ := by
  have sc := o3
  refine D.ok sc (fun _ _ _ _ _ _ us hl => by obtain ⟨_, _, rfl⟩ := n4 hl;rfl) (fun vs H Q E h => ?_) (fun f cdv A outer s H vs Q E hr h => ?_)
  · obtain ⟨sd, rd, wa, kvs, m, bar, ss, l, rfl, _⟩ := h
    rfl
  · obtain ⟨sd, rd, wa, kvs, m, bar, ss, l, rfl, hsd, F, hrd, nrs, c, sl, k⟩ := h
    have l16 := bo
    have hu := cN hr
    refine ⟨_, (@af _ _ _ _ _ (@aq _ _ (2) _ _ _ _ sc.nd rfl (Or.inl rfl) cu (by rfl) (by first | exact .inl rfl | exact .inr rfl | assumption)) (@af _ _ _ _ _ (@bO _ _ _ _ _ _ _ _ PassesOwn.never rfl (lN (pv 1)) (@aG _ _ (3) _ sc.nd rfl (Or.inl rfl) (by first | exact .inl rfl | exact .inr rfl | assumption)) (@ao _ _ _ (@bO _ _ _ _ _ _ _ _ PassesOwn.never rfl (@cZ _ _ _ _ (@aU _ _ _ _ _ _ hu (pv 0) (pv 3) (fun _ _ => rfl))) (@aG _ _ (4) _ sc.nd rfl (Or.inl rfl) (by first | exact .inl rfl | exact .inr rfl | assumption)) (@ao _ _ _ (@bS _ _ _ _ _ _ _ _ _ hu (pv 2) (pv 4) (@av _ _ _ _ _ _ _ _ bf (@gz _ _ _ _ _ _ _ _ _ hu (pv 2) (pv 4) ah ⟨rfl, rfl, rfl, rfl⟩) (@aU _ _ _ _ _ _ hu (pv 1) (pv 3) (fun _ _ => rfl))) rfl)) (by intro _ ;rfl))) (by intro _ ;rfl)) (@ao _ _ _ (@aP _ _ _ _ (pv 2))))), ?_⟩
    intro fd hfd
    have s1 := aA.new (o := .dK []) hfd
    have f1 : (upd H fd (.dK [])) fd=some (.dK []) := ae
    have nfr : fd≠rd := (ab hrd hfd).symm
    have nfs : fd≠sd := (ab hsd hfd).symm
    generalize upd H fd (.dK [])=H1 at s1 f1 ⊢
    refine ⟨_, rfl, rd, _, rfl, s1 _ _ hrd, fun o => ?_⟩
    have f2 : (upd H1 rd (.frz o (.dK (l.map aY)))) fd=some (.dK ((stC (dlt (sgP m) bar) (l.take 0)).map aY)) := by rw [ak nfr];exact f1
    have r2 : (upd H1 rd (.frz o (.dK (l.map aY)))) rd=some (.frz o (.dK (l.map aY))) := ae
    have b2 : aQ rd H (upd H1 rd (.frz o (.dK (l.map aY)))) := fun b o n e => by rw [ak n];exact s1 _ _ e
    generalize upd H1 rd (.frz o (.dK (l.map aY)))=H2 at f2 r2 b2 ⊢
    refine gS (fun i σ H' => ∃ (b3 b4 : Option V), σ = [some (.ref sd), some (.ref rd), some (.ref fd), b3, b4] ∧ H' fd=some (.dK ((stC (dlt (sgP m) bar) (l.take i)).map aY)) ∧ H' rd=some (.frz o (.dK (l.map aY))) ∧ aQ rd H H') ⟨none, none, rfl, f2, r2, b2⟩ (fun i σ H' _ ⟨_, _, _, _, e, _⟩ => e) ?_ ?_
    · rintro i key val σ H3 hkv ⟨b3, b4, rfl, f3, r3, b3'⟩
      obtain ⟨p, hp, rfl, rfl⟩ := eL hkv
      have pm := List.mem_of_getElem? hp
      have ps := c.sub p.1 (List.mem_map.mpr ⟨p, pm, rfl⟩)
      obtain ⟨r, hv, nrw, hr, _⟩ := F.val p.1 ps
      have nrr : r≠rd := fun z => by rw [z, hrd] at hr;cases hr
      have hr3 := b3' _ _ nrr hr
      have hs3 := b3' _ _ nrs.symm hsd
      have gs := cM.k (k := .inr (toS p.1)) hs3
      rw [hv] at gs
      have cA : CtD (stC (dlt (sgP m) bar) (l.take i)) ss := CtD.step fun q hq b hb => F.in (c.sub q.1 (List.mem_map.mpr ⟨q, List.mem_of_mem_take hq, rfl⟩)) hb
      refine ⟨_, rfl, _, rfl, sd, _, rfl, gs, r, rfl, ⟨_, SqL.of hr3⟩, ?_⟩
      refine gp (xs := (dlt (sgP m) bar p.1).map tx) (fun j σ H' => ∃ (b4 : Option V), σ = [some (.ref sd), some (.ref rd), some (.ref fd), some (tx p.1), b4] ∧ H' fd=some (.dK ((inC (stC (dlt (sgP m) bar) (l.take i)) p.2 ((dlt (sgP m) bar p.1).take j)).map aY)) ∧ H' rd=some (.frz o (.dK (l.map aY))) ∧ aQ rd H H') ⟨_, rfl, f3, r3, b3'⟩ (fun j σ H' _ ⟨_, _, _, _, e⟩ => SqL.of (e _ _ nrr hr)) ?_ ?_
      · rintro j x σ H4 hx ⟨b4, rfl, f4, r4, b4'⟩
        rw [List.getElem?_map] at hx
        obtain ⟨u, hu', rfl⟩ := Option.map_eq_some_iff.mp hx
        have us := F.in ps (List.mem_of_getElem? hu')
        have cB := cA.ins p.2 (bs := (dlt (sgP m) bar p.1).take j) fun b hb => F.in ps (List.mem_of_mem_take hb)
        generalize hacc : inC (stC (dlt (sgP m) bar) (l.take i)) p.2 ((dlt (sgP m) bar p.1).take j)=acc at f4 cB
        have g1 := cM.k (k := .inr (toS u)) f4
        have g2 := cM.f (k := .inr (toS p.1)) r4
        rw [gf c.nd pm] at g2
        have al := cB.len
        refine ⟨_, rfl, fd, rfl, .inl ⟨_, .inl f4⟩, _, rfl, _, g1, _, rfl, _, rfl, rd, _, rfl, g2, _, _, gK acc u, rfl, ?_⟩
        refine ⟨_, rfl, _, rfl, fd, _, rfl, jE.k (k := .inr (toS u)) f4 (by rw [List.length_map];omega), ?_⟩
        rw [eF acc u p.2 cB.nd, ← hacc, ← gO]
        refine ⟨_, rfl, ?_, by rw [ak nfr.symm];exact r4, fun b o n e => ?_⟩
        · rw [ae, List.take_add_one, hu', Option.toList_some]
        · rw [ak (ab e hfd)];exact b4' b o n e
      · rintro σ H4 ⟨b4, rfl, f4, r4, b4'⟩
        rw [List.length_map, List.take_length] at f4
        refine ⟨_, _, rfl, ?_, r4, b4'⟩
        rw [List.take_add_one, hp, Option.toList_some, gP]
        exact f4
    · rintro σ H3 ⟨b3, b4, rfl, f3, r3, b3'⟩
      rw [List.length_map, List.take_length] at f3
      exact ⟨_, rfl, k fd H3 hfd f3 b3'⟩
end
end Kx
set_option Elab.async false
set_option linter.all false
set_option maxRecDepth 100000
set_option maxHeartbeats 0
namespace Kx
open PySem PySem.Spec PyProof.Rows L2 Wd
section
variable {P : Program} {w : World} {K : PySem.W.Frag} {mg : Str → Option Value} {base : Heap} {aB : Addr}
abbrev dJ : Stmt := top 10
theorem ke : aI ["many", "words", "most", "states", "reached", "told", "length"] ["many", "words", "most"] (aj dJ) := ⟨rfl, rfl, rfl, by decide +kernel, rfl, by decide +kernel, by decide +kernel⟩
theorem md (D : Df K mg "avoiding" dJ)(T : Bt K w mg aB)(Tsum : mg "sum" = none)(F_fol : Fnc P w K mg base "followed" ["many", "words"] 3 lV)(F_on : Fnc P w K mg base "one_letter_on" ["states", "reached"] 1 oZ) : Fnc P w K mg base "avoiding" ["many", "words", "most"] 4 gg := by
  have sc := ke
  refine D.ok sc (fun _ _ _ _ _ _ us hl => by obtain ⟨_, _, _, rfl⟩ := pz hl;rfl) (fun vs H Q E h => ?_) (fun f cdv A outer s H vs Q E hr h => ?_)
  · obtain ⟨m, N, a, W, rfl, _⟩ := h
    rfl
  · obtain ⟨m, N, a, W, rfl, m1, m6, ha, wne, wl, ww, hN, k⟩ := h
    have l16 := bo
    have hu := cN hr
    refine ⟨_, (@af _ _ _ _ _ (@aq _ _ (3) _ _ _ _ sc.nd rfl (Or.inl rfl) (@aC _ _ _ _ _ _ _ _ _ _ _ F_fol hr (by decide) rfl (@aa _ _ _ _ _ (pv 0) (@aa _ _ _ _ _ (pv 1) ag (by rfl)) (by rfl)) (by decide) (by rfl) (by rfl)) (by rfl) (by first | exact .inl rfl | exact .inr rfl | assumption)) (@af _ _ _ _ _ (@aq _ _ (4) _ _ _ _ sc.nd rfl (Or.inl rfl) (@d9 _ _ _ _ _ _ _ _ (@ni _ _ _ _ _ _ hu ar (pv 3) rfl) (@fY _ _ _ _ _ (@bY _ _ _ _ _ _ _ _ _ ar ah fX) rfl rfl (by simp) (by decide)) cu) (by rfl) (by first | exact .inl rfl | exact .inr rfl | assumption)) (@af _ _ _ _ _ (@aq _ _ (5) _ _ _ _ sc.nd rfl (Or.inl rfl) (@bq _ _ _ _ ag) (by rfl) (by first | exact .inl rfl | exact .inr rfl | assumption)) (@af _ _ _ _ _ (@bO _ _ _ _ _ _ _ _ PassesOwn.never rfl (@bu _ _ _ _ _ _ rfl T.range (@aa _ _ _ _ _ (@av _ _ _ _ _ _ _ _ bf (pv 2) ah) ag (by rfl)) (by rfl)) (@aG _ _ (6) _ sc.nd rfl (Or.inl rfl) (by first | exact .inl rfl | exact .inr rfl | assumption)) (@af _ _ _ _ _ (@bF _ _ _ _ (@cL _ _ _ _ _ _ _ _ _ _ _ _ PySem.F.plainAttrs_list PySem.F.slot_list_append PySem.F.type_list_append bz (pv 5) (@aa _ _ _ _ _ (@aM _ _ _ _ _ _ _ _ _ (@jb _ rfl) (by rfl) Tsum nt (@aa _ _ _ _ _ (@ja _ _ _ _ _ (pv 4) (by rfl) (by rfl)) ag (by rfl)) (by decide) (by decide) (by rfl) (by rfl)) ag (by rfl)) (by rfl) (by rfl) (by rfl) (by rfl) (by rfl)) (by rfl)) (@ao _ _ _ (@aq _ _ (4) _ _ _ _ sc.nd rfl (Or.inl rfl) (@aC _ _ _ _ _ _ _ _ _ _ _ F_on hr (by decide) rfl (@aa _ _ _ _ _ (pv 3) (@aa _ _ _ _ _ (pv 4) ag (by rfl)) (by rfl)) (by decide) (by rfl) (by rfl)) (by rfl) (by first | exact .inl rfl | exact .inr rfl | assumption)))) (by intro _ ;rfl)) (@ao _ _ _ (@aP _ _ _ _ (pv 5))))))), ?_⟩
    refine ⟨_, rfl, _, rfl, m, a, W, rfl, m1, m6, ha, wne, wl, ww, fun sd wa kvs ss H1 hsd f1 F h0 s1 => ?_⟩
    have bl := jm m W
    have bw := lU (m := m) (k := 10) (by decide) ww
    have b0 := nE (m := m) (W := W) m1
    have bne := jl (m := m) wne
    have sl : ss.length≤2000 := by
      have := j8 F.nd fun x hx => jk (F.beg x hx)
      have := gN bw
      omega
    have g := cM.k (k := .inr (Str.ofString "")) f1
    have hk : (bH kvs (.inr (Str.ofString ""))).isSome=true := by
      have := F.key []
      rw [show toS []=Str.ofString "" from V.str.inj d2] at this
      rw [this]
      exact decide_eq_true h0
    refine ⟨_, rfl, sd, _, rfl, g, _, rfl, ?_⟩
    rw [hk]
    refine oB (fun rd0 hrd0 => ⟨ae, [(.inr (Str.ofString ""), .int 1)], rfl, by decide, ?_⟩)
    have e1 : cv ([] : List (Key × V)) [(.inr (Str.ofString ""), .int 1)]=([([], 1)] : Cts).map aY := by
      rw [show Str.ofString "" = toS [] from (V.str.inj d2).symm]
      rfl
    rw [e1]
    have f2 : (upd (upd H1 rd0 (.dK [])) rd0 (.dK (([([], 1)] : Cts).map aY))) rd0=some (.dK (([([], 1)] : Cts).map aY)) := ae
    have s2 : aA H1 (upd (upd H1 rd0 (.dK [])) rd0 (.dK (([([], 1)] : Cts).map aY))) := fun b o e => by rw [ak (ab e hrd0), ak (ab e hrd0)];exact e
    have hrdH : H rd0=none := s1.free hrd0
    have nrs0 : rd0≠sd := (ab f1 hrd0).symm
    show aZ _ _ _ _ (upd (upd H1 rd0 (.dK [])) rd0 (.dK (([([], 1)] : Cts).map aY)))
    generalize upd (upd H1 rd0 (.dK [])) rd0 (.dK (([([], 1)] : Cts).map aY))=H2 at f2 s2 ⊢
    refine ⟨(aE (n := 0) (by decide)), fun tl htl => ?_⟩
    have t3 := aA.new (o := .lst []) htl
    have F3 := ((F.mono (H' := H2) fun r xs _ e => s2 _ _ e).re htl).mono (H' := upd H2 tl (.lst [])) fun r xs _ e => t3 _ _ e
    have s3 : aA H (upd H2 tl (.lst [])) := (s1.trans s2).trans t3
    have f3 : (upd H2 tl (.lst [])) tl=some (.lst ((fF m W 0).map V.int)) := ae
    have fs3 := t3 _ _ (s2 _ _ f1)
    have fr3 := t3 _ _ f2
    have htlH : H tl=none := (s1.trans s2).free htl
    have nrt0 : rd0≠tl := ab f2 htl
    have nst : sd≠tl := ab (s2 _ _ f1) htl
    show aZ _ _ _ _ (upd H2 tl (.lst []))
    generalize upd H2 tl (.lst [])=H3 at F3 s3 f3 fs3 fr3 ⊢
    clear t3
    refine ⟨_, rfl, _, _, rfl, rfl, _, rfl, by omega, by omega, ?_⟩
    rw [show ((N : Int)+1).toNat=N+1 by omega]
    refine cq (lo := 0) (n := N+1) (fun i σ H' => ∃ (b6 : Option V) (rd : Addr) (l : Cts), σ = [some (.int (m : Int)), some (.ref a), some (.int (N : Int)), some (.ref sd), some (.ref rd), some (.ref tl), b6] ∧ H' sd=some (.dK kvs) ∧ H' rd=some (.dK (l.map aY)) ∧ H rd=none ∧ rd≠sd ∧ rd≠tl ∧ CtD l ss ∧ (mul l).Perm ((avs (sgP m) (barP m W) i).map (lng (barP m W))) ∧ eI H' kvs m (barP m W) tl ss [] ∧ H' tl=some (.lst ((fF m W i).map V.int)) ∧ aA H H') ⟨none, rd0, [([], 1)], rfl, fs3, fr3, hrdH, nrs0, nrt0, ⟨by simp, fun t ht => by simp at ht;rw [ht];exact h0⟩, List.Perm.refl _, F3, f3, s3⟩ ?_ ?_
    · rintro i σ H4 hi ⟨b6, rd, l, rfl, fs4, fr4, hrd, nrs, nrt, c, pm, F4, ft4, s4⟩
      refine ⟨_, rfl, .inl ⟨rfl, _, SqL.of ft4⟩, _, rfl, rd, _, rfl, fr4, fun v hv => ?_⟩
      have t5 := aA.new (o := VwO v rd) hv
      have fv5 : (upd H4 v (VwO v rd)) v=some (VwO v rd) := ae
      have fs5 := t5 _ _ fs4
      have fr5 := t5 _ _ fr4
      have ft5 := t5 _ _ ft4
      have F5 := F4.mono (H' := upd H4 v (VwO v rd)) fun r xs _ e => t5 _ _ e
      have s5 := s4.trans t5
      generalize upd H4 v (VwO v rd)=H5 at fv5 fs5 fr5 ft5 F5 s5 ⊢
      clear t5
      have tll : (fF m W i).length=i := by unfold fF;rw [List.length_map, List.length_range]
      refine ⟨v, rd, _, _, rfl, fv5, fr5, j9 l, ?_⟩
      rw [jn, pm.length_eq, List.length_map]
      refine ⟨tl, _, _, rfl, rfl, ft5, (by rw [List.length_map, tll];omega), ?_⟩
      have k6 : ∀ b o, b≠tl → H5 b=some o → (upd H5 tl (.lst ((fF m W i).map V.int++[V.int ((avs (sgP m) (barP m W) i).length : Int)]))) b=some o := fun b o n e => by rw [ak n];exact e
      have ft6 : (upd H5 tl (.lst ((fF m W i).map V.int++[V.int ((avs (sgP m) (barP m W) i).length : Int)]))) tl=some (.lst ((fF m W (i+1)).map V.int)) := by rw [ae, jo, List.map_append];rfl
      have fs6 := k6 _ _ nst fs5
      have fr6 := k6 _ _ nrt fr5
      have F6 := F5.mono (H' := upd H5 tl (.lst ((fF m W i).map V.int++[V.int ((avs (sgP m) (barP m W) i).length : Int)]))) fun r xs n e => k6 _ _ n e
      have s6 : aA H (upd H5 tl (.lst ((fF m W i).map V.int++[V.int ((avs (sgP m) (barP m W) i).length : Int)]))) := fun b o e => k6 _ _ (ab e htlH) (s5 _ _ e)
      generalize upd H5 tl (.lst ((fF m W i).map V.int++[V.int ((avs (sgP m) (barP m W) i).length : Int)]))=H6 at ft6 fs6 fr6 F6 s6 ⊢
      clear k6
      refine ⟨_, rfl, _, rfl, sd, rd, tl, kvs, m, barP m W, ss, l, rfl, fs6, F6, fr6, nrs, c, sl, fun d H7 hd f7 b7 => ?_⟩
      have cS : CtD (stC (dlt (sgP m) (barP m W)) l) ss := CtD.step fun q hq b hb => F6.in (c.sub q.1 (List.mem_map.mpr ⟨q, hq, rfl⟩)) hb
      have pS : (mul (stC (dlt (sgP m) (barP m W)) l)).Perm ((avs (sgP m) (barP m W) (i+1)).map (lng (barP m W))) := by
        rw [← j3 bne b0]
        exact (fm _ l).trans (pm.flatMap_right _)
      refine ⟨_, d, _, rfl, b7 _ _ nrs.symm fs6, f7, s6.free hd, (ab fs6 hd).symm, (ab ft6 hd).symm, cS, pS, F6.mono fun r xs n e => b7 _ _ (fun z => by rw [z, fr6] at e;cases e) e, b7 _ _ nrt.symm ft6, fun b o e => b7 _ _ (ab e hrd) (s6 _ _ e)⟩
    · rintro σ H4 ⟨b6, rd, l, rfl, fs4, fr4, hrd, nrs, nrt, c, pm, F4, ft4, s4⟩
      exact ⟨_, rfl, k tl H4 htlH ft4 s4⟩
end
end Kx
set_option Elab.async false
set_option linter.all false
set_option maxRecDepth 100000
set_option maxHeartbeats 0
namespace Kx
open PySem PySem.Spec PyProof.Rows L2 Wd
section
variable {P : Program} {w : World} {K : PySem.W.Frag} {mg : Str → Option Value} {base : Heap} {aB : Addr}
theorem kf (v : List L) : hX v (some ((v.length : Int) - 1)) none=v.drop (v.length - 1) := by
  cases v with
  | nil => unfold hX;simp
  | cons x r => rw [cU _ (by rw [List.length_cons];omega), show (((x::r).length : Int) - 1).toNat=(x::r).length - 1 by omega]
abbrev cz : Stmt := top 17
theorem jA : aI ["_law_many", "_law_words_here", "_law_keep", "_law_most", "_law_signs", "_law_now", "_law_found", "_law_length", "_law_later", "_law_last", "_law_back_again", "_law_sign", "_law_text"] ["_law_many", "_law_words_here", "_law_keep", "_law_most"] (aj cz) := ⟨rfl, rfl, rfl, by decide +kernel, rfl, by decide +kernel, by decide +kernel⟩
theorem kg (D : Df K mg "_law_counts" cz)(T : Bt K w mg aB)(Tsum : mg "sum" = none)(F_lback : Fnc P w K mg base "_law_back" ["_law_word"] 1 mn) : Fnc P w K mg base "_law_counts" ["_law_many", "_law_words_here", "_law_keep", "_law_most"] 2 cX := by
  have sc := jA
  refine D.ok sc (fun _ _ _ _ _ _ us hl => by obtain ⟨_, _, _, _, rfl⟩ := n5 hl;rfl) (fun vs H Q E h => ?_) (fun f cdv A outer s H vs Q E hr h => ?_)
  · obtain ⟨m, kk, N, a, W, rfl, _⟩ := h
    rfl
  · obtain ⟨m, kk, N, a, W, rfl, m1, m6, k1, k20, ha, wne, wl, ww, hN, hup, k⟩ := h
    have l16 := bo
    have hu := cN hr
    rw [← jr] at hup
    refine ⟨_, (@af _ _ _ _ _ (@aq _ _ (4) _ _ _ _ sc.nd rfl (Or.inl rfl) (@av _ _ _ _ _ _ _ _ aH (@aw _ _ _ _ _ _ _ _ _ _ aX ar aJ (@aK _ _ _ (pv 0))) (@aw _ _ _ _ _ _ _ _ _ _ aX ar aJ (@aK _ _ _ (pv 0)))) (by rfl) (by first | exact .inl rfl | exact .inr rfl | assumption)) (@af _ _ _ _ _ (@aq _ _ (5) _ _ _ _ sc.nd rfl (Or.inr rfl) (@fY _ _ _ _ _ (@bY _ _ _ _ _ _ _ _ _ ar ah fX) rfl rfl (by simp) (by decide)) (by rfl) (by first | exact .inl rfl | exact .inr rfl | assumption)) (@af _ _ _ _ _ (@aq _ _ (6) _ _ _ _ sc.nd rfl (Or.inl rfl) (@bq _ _ _ _ (@aa _ _ _ _ _ ah ag (by rfl))) (by rfl) (by first | exact .inl rfl | exact .inr rfl | assumption)) (@af _ _ _ _ _ (@bO _ _ _ _ _ _ _ _ PassesOwn.never rfl (@bu _ _ _ _ _ _ rfl T.range (@aa _ _ _ _ _ (pv 3) ag (by rfl)) (by rfl)) (@aG _ _ (7) _ sc.nd rfl (Or.inl rfl) (by first | exact .inl rfl | exact .inr rfl | assumption)) (@af _ _ _ _ _ (@aq _ _ (8) _ _ _ _ sc.nd rfl (Or.inl rfl) cu (by rfl) (by first | exact .inl rfl | exact .inr rfl | assumption)) (@af _ _ _ _ _ (@bO _ _ _ _ _ _ _ _ PassesOwn.never rfl (@gJ _ _ _ _ (pv 5)) (@aG _ _ (9) _ sc.nd rfl (Or.inl rfl) (by first | exact .inl rfl | exact .inr rfl | assumption)) (@af _ _ _ _ _ (@aq _ _ (10) _ _ _ _ sc.nd rfl (Or.inl rfl) (@aC _ _ _ _ _ _ _ _ _ _ _ F_lback hr (by decide) rfl (@aa _ _ _ _ _ (@aw _ _ _ _ _ _ _ _ _ _ aX (pv 9) (@aK _ _ _ (@av _ _ _ _ _ _ _ _ eM (@aM _ _ _ _ _ _ _ _ _ bQ (by rfl) T.len PySem.boot_len (@aa _ _ _ _ _ (pv 9) ag (by rfl)) (by decide) (by decide) (by rfl) (by rfl)) ah)) aJ) ag (by rfl)) (by decide) (by rfl) (by rfl)) (by rfl) (by first | exact .inl rfl | exact .inr rfl | assumption)) (@ao _ _ _ (@bO _ _ _ _ _ _ _ _ PassesOwn.never rfl (@gC _ _ _ _ (pv 4)) (@aG _ _ (11) _ sc.nd rfl (Or.inl rfl) (by first | exact .inl rfl | exact .inr rfl | assumption)) (@af _ _ _ _ _ (@aq _ _ (12) _ _ _ _ sc.nd rfl (Or.inr rfl) (@av _ _ _ _ _ _ _ _ aH (pv 9) (pv 11)) (by rfl) (by first | exact .inl rfl | exact .inr rfl | assumption)) (@ao _ _ _ (@cY _ _ _ _ _ _ _ _ (@PW.pt _ _ _ (@ko _ _ _ _ _ _ _ (@a_ _ _ _ _ _ _ _ _ mJ (pv 11) (pv 10) (bN _)) (@ig _ _ _ _ (@a_ _ _ _ _ _ _ _ _ (@i0 _ (by exact hr.units)) (@cF _ _ _ _ _ _ _ (["_law_word", "_law_text"]) (["_law_word"]) ([12]) _ _ _ _ (@dj _ _ _ _ _ _ rfl (by kernel_rfl)) rfl (@cZ _ _ _ _ (pv 1)) (fun _ _ _ _ => @aG _ _ (0) _ (show (["_law_word", "_law_text"] : List Str).Nodup from by decide +kernel) rfl (Or.inl rfl) (by first | exact .inl rfl | exact .inr rfl | assumption)) (fun _ _ _ _ => (@gA _ _ _ (by exact (@nh _ _ _ (@kJ _ _ _ _ _ _ _ _ _ _ _ _ (K) rfl PySem.F.plainAttrs_str PySem.F.slot_str_endswith PySem.F.type_str_endswith jc (pv 1) (@aa _ _ _ _ _ (pv 0) ag (by rfl)) (by rfl) (by rfl) (by rfl) (by rfl) (by rfl)) (fun _ => rfl))))) (fun _ _ _ _ => by (exact (pv 0))) (by intro _ ;rfl)) (@bq _ _ _ _ ag) (bN _))))) (@af _ _ _ _ _ (@aq _ _ (12) _ _ _ _ sc.nd rfl (Or.inr rfl) (@aw _ _ _ _ _ _ _ _ _ _ aX (pv 12) (@aK _ _ _ (@aM _ _ _ _ _ _ _ _ _ (@iw _ rfl) (by rfl) T.max oP (@aa _ _ _ _ _ ah (@aa _ _ _ _ _ (@av _ _ _ _ _ _ _ _ eM (@aM _ _ _ _ _ _ _ _ _ bQ (by rfl) T.len PySem.boot_len (@aa _ _ _ _ _ (pv 12) ag (by rfl)) (by decide) (by decide) (by rfl) (by rfl)) (pv 2)) ag (by rfl)) (by rfl)) (by decide) (by decide) (by rfl) (by rfl))) aJ) (by rfl) (by first | exact .inl rfl | exact .inr rfl | assumption)) (@ao _ _ _ (@bS _ _ _ _ _ _ _ _ _ hu (pv 8) (pv 12) (@av _ _ _ _ _ _ _ _ bf (@gz _ _ _ _ _ _ _ _ _ hu (pv 8) (pv 12) ah ⟨rfl, rfl, rfl, rfl⟩) (@aU _ _ _ _ _ _ hu (pv 5) (pv 9) (fun _ _ => rfl))) rfl))) bc))) (by intro _ ;rfl)))) (by intro _ ;rfl)) (@af _ _ _ _ _ (@aq _ _ (5) _ _ _ _ sc.nd rfl (Or.inr rfl) (pv 8) (by rfl) (by first | exact .inl rfl | exact .inr rfl | assumption)) (@ao _ _ _ (@bF _ _ _ _ (@cL _ _ _ _ _ _ _ _ _ _ _ _ PySem.F.plainAttrs_list PySem.F.slot_list_append PySem.F.type_list_append bz (pv 6) (@aa _ _ _ _ _ (@aM _ _ _ _ _ _ _ _ _ (@jZ _ rfl) (by rfl) Tsum nt (@aa _ _ _ _ _ (@cF _ _ _ _ _ _ _ (["_law_last", "_law_now"]) (["_law_last"]) ([5]) _ _ _ _ (@dj _ _ _ _ _ _ rfl (by kernel_rfl)) rfl (@gJ _ _ _ _ (pv 5)) (fun _ _ _ _ => @aG _ _ (0) _ (show (["_law_last", "_law_now"] : List Str).Nodup from by decide +kernel) rfl (Or.inl rfl) (by first | exact .inl rfl | exact .inr rfl | assumption)) (fun _ _ _ _ => bZ) (fun _ _ _ _ => by (exact (@aU _ _ _ _ _ _ hu (pv 1) (pv 0) (fun _ _ => rfl)))) (by intro _ ;rfl)) ag (by rfl)) (by decide) (by decide) (by rfl) (by rfl)) ag (by rfl)) (by rfl) (by rfl) (by rfl) (by rfl) (by rfl)) (by rfl)))))) (by intro _ ;rfl)) (@ao _ _ _ (@aP _ _ _ _ (pv 6))))))), ?_⟩
    have lg : (sgN m).length≤12 := by unfold sgN;rw [List.length_append, List.length_take, List.length_take];show min m 6+min m 6≤12;omega
    have bne := jl (m := m) wne
    have bw := lU (m := m) (k := kk+1) (by omega) ww
    refine ⟨_, rfl, _, rfl, _, rfl, (aE (n := 6) (by decide)), _, rfl, _, rfl, _, rfl, (aE (n := 6) (by decide)), _, _, rfl, rfl, ?_, ?_⟩
    · have h1 := Txt.slice_le ("abcdef" : Str) none (some (m : Int))
      have h2 := Txt.slice_le ("ABCDEF" : Str) none (some (m : Int))
      have e1 : ("abcdef" : Str).length=6 := by decide +kernel
      have e2 : ("ABCDEF" : Str).length=6 := by decide +kernel
      omega
    rw [eD (m := (m : Int)) (by omega), kP]
    refine fun nd0 hnd0 => ⟨ae, [(.inr (Str.ofString ""), .int 1)], rfl, by decide, ?_⟩
    have e1 : cv ([] : List (Key × V)) [(.inr (Str.ofString ""), .int 1)]=([([], 1)] : Cts).map aY := by
      rw [show Str.ofString "" = toS [] from (V.str.inj d2).symm]
      rfl
    rw [e1]
    have f2 : (upd (upd H nd0 (.dK [])) nd0 (.dK (([([], 1)] : Cts).map aY))) nd0=some (.dK (([([], 1)] : Cts).map aY)) := ae
    have s2 : aA H (upd (upd H nd0 (.dK [])) nd0 (.dK (([([], 1)] : Cts).map aY))) := fun b o e => by rw [ak (ab e hnd0), ak (ab e hnd0)];exact e
    show aZ _ _ _ _ (upd (upd H nd0 (.dK [])) nd0 (.dK (([([], 1)] : Cts).map aY)))
    generalize upd (upd H nd0 (.dK [])) nd0 (.dK (([([], 1)] : Cts).map aY))=H2 at f2 s2 ⊢
    refine ⟨(aE (n := 1) (by decide)), fun tl htl => ?_⟩
    have t3 := aA.new (o := .lst [V.int 1]) htl
    have s3 : aA H (upd H2 tl (.lst [V.int 1])) := s2.trans t3
    have f3 : (upd H2 tl (.lst [V.int 1])) tl=some (.lst ((cm m W 1).map V.int)) := ae
    have fn3 := t3 _ _ f2
    have htlH : H tl=none := s2.free htl
    have nnt0 : nd0≠tl := ab f2 htl
    show aZ _ _ _ _ (upd H2 tl (.lst [V.int 1]))
    generalize upd H2 tl (.lst [V.int 1])=H3 at s3 f3 fn3 ⊢
    clear t3
    refine ⟨_, rfl, _, rfl, by omega, by omega, ?_⟩
    rw [Int.toNat_natCast]
    refine cq (lo := 0) (n := N) (fun i σ H' => ∃ (b7 b8 b9 b10 b11 b12 : Option V) (nd : Addr) (l : Cts), σ = [some (.int (m : Int)), some (.ref a), some (.int (kk : Int)), some (.int (N : Int)), some (tx (sgN m)), some (.ref nd), some (.ref tl), b7, b8, b9, b10, b11, b12] ∧ Rd H' nd (.dK (l.map aY)) ∧ H nd=none ∧ nd≠tl ∧ CtD l (upW (sgN m) kk) ∧ (mul l).Perm ((avs (sgN m) (barP m W) i).map (tlK kk)) ∧ H' tl=some (.lst ((cm m W (i+1)).map V.int)) ∧ aA H H') ⟨none, none, none, none, none, none, nd0, [([], 1)], rfl, .inl fn3, hnd0, nnt0, ⟨by simp, fun t ht => by simp at ht;rw [ht];exact gh (Nat.zero_le _) fun x hx => absurd hx List.not_mem_nil⟩, (by simp [mul, avs, tlK]), f3, s3⟩ ?_ ?_
    · rintro i σ H4 hi ⟨b7, b8, b9, b10, b11, b12, nd, l, rfl, fn4, hnd, nnt, c, pm, ft4, s4⟩
      intro ld hld
      have s5 := s4.then (o := .dK []) hld
      have t5 := aA.new (o := .dK []) hld
      have f5 : (upd H4 ld (.dK [])) ld=some (.dK []) := ae
      have fn5 : Rd (upd H4 ld (.dK [])) nd (.dK (l.map aY)) := by
        rcases fn4 with e | ⟨o, e⟩
        · exact .inl (t5 _ _ e)
        · exact .inr ⟨o, t5 _ _ e⟩
      have ft5 := t5 _ _ ft4
      have hldH : H ld=none := s4.free hld
      have nln : ld≠nd := fun z => by
        rcases fn4 with e | ⟨o, e⟩
        · rw [← z, hld] at e;cases e
        · rw [← z, hld] at e;cases e
      have nlt : ld≠tl := (ab ft4 hld).symm
      generalize upd H4 ld (.dK [])=H5 at s5 f5 fn5 ft5 ⊢
      clear t5
      refine ⟨_, rfl, nd, _, rfl, fn5, fun o H6 fz6 k6 => ?_⟩
      have f6 : H6 ld=some (.dK ((stC (dtl (sgN m) (barP m W) kk) (l.take 0)).map aY)) := by rw [k6 _ nln];exact f5
      have ft6 : H6 tl=some (.lst ((cm m W (i+1)).map V.int)) := by rw [k6 _ nnt.symm];exact ft5
      have s6 : aA H H6 := fun b o e => by rw [k6 _ (ab e hnd)];exact s5 _ _ e
      clear k6 fn5 f5 ft5 s5
      refine gS (fun j σ H' => ∃ (b9 b10 b11 b12 : Option V), σ = [some (.int (m : Int)), some (.ref a), some (.int (kk : Int)), some (.int (N : Int)), some (tx (sgN m)), some (.ref nd), some (.ref tl), some (.int (0+(i : Int))), some (.ref ld), b9, b10, b11, b12] ∧ H' nd=some (.frz o (.dK (l.map aY))) ∧ H' ld=some (.dK ((stC (dtl (sgN m) (barP m W) kk) (l.take j)).map aY)) ∧ H' tl=some (.lst ((cm m W (i+1)).map V.int)) ∧ aA H H') ⟨_, _, _, _, rfl, fz6, f6, ft6, s6⟩ (fun j σ H' _ ⟨_, _, _, _, _, e, _⟩ => e) ?_ ?_
      · rintro j key val σ H7 hkv ⟨b9, b10, b11, b12, rfl, fz7, f7, ft7, s7⟩
        obtain ⟨p, hp, rfl, rfl⟩ := eL hkv
        have pm' := List.mem_of_getElem? hp
        have pu := c.sub p.1 (List.mem_map.mpr ⟨p, pm', rfl⟩)
        have pl := (gi pu).1
        have lp := ai p.1
        have cA : CtD (stC (dtl (sgN m) (barP m W) kk) (l.take j)) (upW (sgN m) kk) := CtD.step fun q hq b hb => js (c.sub q.1 (List.mem_map.mpr ⟨q, List.mem_of_mem_take hq, rfl⟩)) hb
        refine ⟨_, rfl, _, rfl, toS p.1, rfl, by omega, _, _, rfl, rfl, _, rfl, toS p.1, rfl, by omega, ?_⟩
        rw [aT, lp, kf]
        refine ⟨p.1.drop (p.1.length - 1), rfl, (by rw [List.length_drop];omega), fun H8 s8 => ?_⟩
        refine ⟨_, rfl, toS (sgN m), rfl, ?_⟩
        refine f_ (z := toS (sgN m)) (fun q σ H' => ∃ (b11 b12 : Option V), σ = [some (.int (m : Int)), some (.ref a), some (.int (kk : Int)), some (.int (N : Int)), some (tx (sgN m)), some (.ref nd), some (.ref tl), some (.int (0+(i : Int))), some (.ref ld), some (tx p.1), some (tx (bk (p.1.drop (p.1.length - 1)))), b11, b12] ∧ H' nd=some (.frz o (.dK (l.map aY))) ∧ H' ld=some (.dK ((inC (stC (dtl (sgN m) (barP m W) kk) (l.take j)) p.2 ((((sgN m).take q).filter fun x => okB (barP m W) (p.1++[x])).map fun x => tlK kk (p.1++[x]))).map aY)) ∧ H' tl=some (.lst ((cm m W (i+1)).map V.int)) ∧ aA H H') ⟨_, _, rfl, s8 _ _ fz7, s8 _ _ f7, s8 _ _ ft7, s7.trans s8⟩ ?_ ?_
        · rintro q ch σ H9 hc ⟨b11, b12, rfl, fz9, f9, ft9, s9⟩
          obtain ⟨x, hx, e⟩ := dm hc
          rw [e]
          have xm := List.mem_of_getElem? hx
          have lx := ai [x]
          have ls1 : [x].length=1 := rfl
          refine ⟨_, rfl, _, rfl, _, _, rfl, rfl, by omega, ?_⟩
          rw [cK]
          refine ⟨_, rfl, _, rfl, rfl, _, rfl, ?_⟩
          have okl := nF (W := W) xm p.1
          have next : ∀ (c12 : Option V) (H10 : Hp), H10 nd=some (.frz o (.dK (l.map aY))) → H10 ld=some (.dK ((inC (stC (dtl (sgN m) (barP m W) kk) (l.take j)) p.2 ((((sgN m).take q).filter fun x => okB (barP m W) (p.1++[x])).map fun x => tlK kk (p.1++[x]))).map aY)) → H10 tl=some (.lst ((cm m W (i+1)).map V.int)) → aA H H10 → okB (barP m W) (p.1++[x])=false → ∃ (b11 b12 : Option V), [some (V.int (m : Int)), some (.ref a), some (.int (kk : Int)), some (.int (N : Int)), some (tx (sgN m)), some (.ref nd), some (.ref tl), some (.int (0+(i : Int))), some (.ref ld), some (tx p.1), some (tx (bk (p.1.drop (p.1.length - 1)))), some (.str (toS [x])), c12]=[some (.int (m : Int)), some (.ref a), some (.int (kk : Int)), some (.int (N : Int)), some (tx (sgN m)), some (.ref nd), some (.ref tl), some (.int (0+(i : Int))), some (.ref ld), some (tx p.1), some (tx (bk (p.1.drop (p.1.length - 1)))), b11, b12] ∧ H10 nd=some (.frz o (.dK (l.map aY))) ∧ H10 ld=some (.dK ((inC (stC (dtl (sgN m) (barP m W) kk) (l.take j)) p.2 ((((sgN m).take (q+1)).filter fun x => okB (barP m W) (p.1++[x])).map fun x => tlK kk (p.1++[x]))).map aY)) ∧ H10 tl=some (.lst ((cm m W (i+1)).map V.int)) ∧ aA H H10 := fun c12 H10 a1 a2 a3 a4 no => by
            refine ⟨_, _, rfl, a1, ?_, a3, a4⟩
            rw [List.take_add_one, hx, Option.toList_some, List.filter_append, List.filter_cons_of_neg (by rw [no];exact Bool.false_ne_true), List.filter_nil, List.append_nil]
            exact a2
          have ltx := ai (p.1++[x])
          rw [List.length_append, List.length_singleton] at ltx
          cases hd : decide (V.str (toS [x])=tx (bk (p.1.drop (p.1.length - 1)))) with
          | true =>
            rw [hd] at okl
            exact nq (i7 (next _ H9 fz9 f9 ft9 s9 okl))
          | false =>
            rw [hd] at okl
            have okl : okB (barP m W) (p.1++[x])=okB W (p.1++[x]) := by rw [okl];rfl
            have ha9 := s9 _ _ ha
            refine nk ⟨_, rfl, a, rfl, ⟨_, SqL.of ha9⟩, ?_⟩
            refine dv (xs := W.map tx) (own := ["_law_word"]) (cap := [12]) (fun r ys σ H' => ∃ b : Option V, σ = [b, some (tx (p.1++[x]))] ∧ ys=((W.take r).filter fun w => w.isSuffixOf (p.1++[x])).map tx ∧ H'=H9) ⟨none, rfl, rfl, rfl⟩ (fun r ys σ H' hi ⟨_, _, e, _⟩ => by rw [e, List.length_map];exact Nat.le_trans (List.length_filter_le _ _) (by rw [List.length_take];omega)) (by rw [List.length_map];omega) (fun r ys σ H' ⟨_, _, _, e⟩ => by rw [e];exact SqL.of ha9) ?_ ?_
            · rintro r ys σ H10 z N hz ⟨b, rfl, rfl, rfl⟩ hN
              rw [List.getElem?_map] at hz
              obtain ⟨w1, hw1, rfl⟩ := Option.map_eq_some_iff.mp hz
              refine ⟨_, rfl, rfl, _, rfl, _, _, rfl, rfl, _, rfl, ?_⟩
              rw [gM]
              cases hs : w1.isSuffixOf (p.1++[x]) with
              | true =>
                refine nZ rfl ⟨_, rfl, hN _ _ _ ⟨_, rfl, ?_, rfl⟩⟩
                rw [List.take_add_one, hw1, List.filter_append]
                simp [hs]
              | false =>
                refine ng rfl (hN _ _ _ ⟨_, rfl, ?_, rfl⟩)
                rw [List.take_add_one, hw1, List.filter_append]
                simp [hs]
            rintro ys σ H10 q1 ⟨b, rfl, rfl, rfl⟩ hq1
            rw [List.length_map, List.take_length]
            have t11 := aA.new (o := .lst ((W.filter fun w => w.isSuffixOf (p.1++[x])).map tx)) hq1
            have f11 : (upd H10 q1 (.lst ((W.filter fun w => w.isSuffixOf (p.1++[x])).map tx))) q1=some (.lst ((W.filter fun w => w.isSuffixOf (p.1++[x])).map tx)) := ae
            generalize upd H10 q1 (.lst ((W.filter fun w => w.isSuffixOf (p.1++[x])).map tx))=H11 at t11 f11 ⊢
            refine ⟨(aE (n := 0) (by decide)), fun q2 hq2 => ?_⟩
            have t12 := t11.then (o := .lst []) hq2
            have f12 := aA.new (o := .lst []) hq2 _ _ f11
            refine ⟨q1, q2, _, rfl, rfl, f12, ae, _, rfl, ?_⟩
            generalize upd H11 q2 (.lst [])=H12 at t12 f12 ⊢
            have em : ((W.filter fun w => w.isSuffixOf (p.1++[x])).map tx).isEmpty=okB W (p.1++[x]) := by
              unfold okB
              rw [Bool.eq_iff_iff, List.isEmpty_iff, List.map_eq_nil_iff, List.filter_eq_nil_iff, Bool.not_eq_true', List.any_eq_false]
            rw [em]
            have fz12 := t12 _ _ fz9
            have fl12 := t12 _ _ f9
            have ft12 := t12 _ _ ft9
            have s12 := s9.trans t12
            cases ho : okB W (p.1++[x]) with
            | false =>
              rw [ho] at okl
              exact i7 (next _ H12 fz12 fl12 ft12 s12 okl)
            | true =>
              rw [ho] at okl
              refine nj ⟨_, rfl, _, rfl, toS (p.1++[x]), rfl, by omega, _, rfl, _, _, rfl, rfl, _, _, rfl, _, rfl, toS (p.1++[x]), rfl, by omega, ?_⟩
              rw [ltx]
              have ecut : hX (p.1++[x]) (some (if ((p.1.length+1 : Nat) : Int) - (kk : Int) > 0 then ((p.1.length+1 : Nat) : Int) - (kk : Int) else 0)) none=tlK kk (p.1++[x]) := by
                rw [cU _ (by split <;> omega)]
                unfold tlK
                congr 1
                rw [List.length_append, List.length_singleton]
                split <;> omega
              rw [aT, ecut]
              have cB := cA.ins p.2 (bs := (((sgN m).take q).filter fun x => okB (barP m W) (p.1++[x])).map fun x => tlK kk (p.1++[x])) fun b hb => by
                obtain ⟨y, hy, rfl⟩ := List.mem_map.mp hb
                obtain ⟨h1, h2⟩ := List.mem_filter.mp hy
                exact js pu (List.mem_map.mpr ⟨y, List.mem_filter.mpr ⟨List.mem_of_mem_take h1, h2⟩, rfl⟩)
              generalize hacc : inC (stC (dtl (sgN m) (barP m W) kk) (l.take j)) p.2 ((((sgN m).take q).filter fun x => okB (barP m W) (p.1++[x])).map fun x => tlK kk (p.1++[x]))=acc at fl12 cB
              have g1 := cM.k (k := .inr (toS (tlK kk (p.1++[x])))) fl12
              have g2 := cM.f (k := .inr (toS p.1)) fz12
              rw [gf c.nd pm'] at g2
              have al := cB.len
              refine ⟨_, rfl, ld, rfl, .inl ⟨_, .inl fl12⟩, _, rfl, _, g1, _, rfl, _, rfl, nd, _, rfl, g2, _, _, gK acc (tlK kk (p.1++[x])), rfl, ?_⟩
              refine ⟨_, rfl, _, rfl, ld, _, rfl, jE.k (k := .inr (toS (tlK kk (p.1++[x])))) fl12 (by rw [List.length_map];omega), ?_⟩
              rw [eF acc _ p.2 cB.nd, ← hacc, ← gO]
              refine ⟨_, _, rfl, by rw [ak nln.symm];exact fz12, ?_, by rw [ak nlt.symm];exact ft12, fun b o e => ?_⟩
              · rw [ae, List.take_add_one, hx, Option.toList_some, List.filter_append, List.filter_cons_of_pos (p := fun x => okB (barP m W) (p.1++[x])) okl, List.filter_nil, List.map_append]
                rfl
              · rw [ak (ab e hldH)];exact s12 b o e
        · rintro σ H9 ⟨b11, b12, rfl, fz9, f9, ft9, s9⟩
          rw [br, List.take_length] at f9
          refine ⟨_, _, _, _, rfl, fz9, ?_, ft9, s9⟩
          rw [List.take_add_one, hp, Option.toList_some, gP]
          exact f9
      · rintro σ H7 ⟨b9, b10, b11, b12, rfl, fz7, f7, ft7, s7⟩
        rw [List.length_map, List.take_length] at f7
        have cS : CtD (stC (dtl (sgN m) (barP m W) kk) l) (upW (sgN m) kk) := CtD.step fun q hq b hb => js (c.sub q.1 (List.mem_map.mpr ⟨q, hq, rfl⟩)) hb
        have pS : (mul (stC (dtl (sgN m) (barP m W) kk) l)).Perm ((avs (sgN m) (barP m W) (i+1)).map (tlK kk)) := by
          rw [← nA bne bw]
          exact (fm _ l).trans (pm.flatMap_right _)
        generalize stC (dtl (sgN m) (barP m W) kk) l=l2 at f7 cS pS
        have l2l := cS.len
        refine ⟨_, rfl, ?_⟩
        refine ⟨_, rfl, .inl ⟨rfl, _, SqL.of ft7⟩, _, rfl, ld, _, rfl, .inl f7, fun o2 H8 fz8 k8 => ?_⟩
        have ft8 : H8 tl=some (.lst ((cm m W (i+1)).map V.int)) := by rw [k8 _ nlt.symm];exact ft7
        have s8 : aA H H8 := fun b o e => by rw [k8 _ (ab e hldH)];exact s7 _ _ e
        have el : (l2.map aY).length=l2.length := List.length_map ..
        refine cG (own := ["_law_last"]) (cap := [5]) (J := Itk ld o2 (l2.map aY)) (l2.map aY).length (fun r ys σ H' => ∃ b : Option V, σ = [b, some (.ref ld)] ∧ ys=((l2.take r).map fun p => (p.2 : Int)).map V.int ∧ H'=H8) ⟨none, rfl, rfl, rfl⟩ (fun r ys σ H' hi ⟨_, _, e, _⟩ => by rw [e, List.length_map, List.length_map, List.length_take];omega) (by omega) (fun r ys σ H' hi ⟨_, _, _, e⟩ => by rw [e];exact ⟨hi, fz8⟩) (fun ys σ H' ⟨_, _, _, e⟩ => by rw [e];exact ⟨rfl, fz8⟩) ?_ ?_
        · rintro r ys σ H9 x H10 N hi ⟨_, rfl, rfl, rfl⟩ ⟨rfl, key, val, hkv, rfl⟩ hN
          obtain ⟨p, hp, rfl, rfl⟩ := eL hkv
          have g := cM.f (k := .inr (toS p.1)) fz8
          rw [gf cS.nd (List.mem_of_getElem? hp)] at g
          refine ⟨_, rfl, _, rfl, ld, _, rfl, g, hN _ _ _ ⟨_, rfl, ?_, rfl⟩⟩
          rw [List.take_add_one, hp, List.map_append, List.map_append]
          rfl
        rintro ys σ H9 q1 ⟨b, rfl, rfl, rfl⟩ hq1
        rw [el, List.take_length]
        have t10 := aA.new (o := .lst ((l2.map fun p => (p.2 : Int)).map V.int)) hq1
        have ft10 := t10 _ _ ft8
        have fz10 := t10 _ _ fz8
        have s10 := s8.trans t10
        refine ⟨q1, _, rfl, SqL.of ae, ?_⟩
        generalize upd H9 q1 (.lst ((l2.map fun p => (p.2 : Int)).map V.int))=H10 at ft10 fz10 s10 ⊢
        have tll : (cm m W (i+1)).length=i+1 := by unfold cm;rw [List.length_map, List.length_range]
        rw [jn, pS.length_eq, List.length_map]
        refine ⟨tl, _, _, rfl, rfl, ft10, (by rw [List.length_map, tll];omega), ?_⟩
        refine ⟨_, _, _, _, _, _, ld, l2, rfl, .inr ⟨o2, by rw [ak nlt];exact fz10⟩, hldH, nlt, cS, pS, ?_, fun b o e => ?_⟩
        · rw [ae, jt m W (i+1), List.map_append];rfl
        · rw [ak (ab e htlH)];exact s10 _ _ e
    · rintro σ H4 ⟨b7, b8, b9, b10, b11, b12, nd, l, rfl, fn4, hnd, nnt, c, pm, ft4, s4⟩
      exact ⟨_, rfl, k tl H4 htlH ft4 s4⟩
end
end Kx
set_option Elab.async false
set_option linter.all false
set_option maxRecDepth 100000
set_option maxHeartbeats 0
namespace Kx
open PySem PySem.Spec PyProof.Rows L2 Wd
section
variable {P : Program} {w : World} {K : PySem.W.Frag} {mg : Str → Option Value} {base : Heap} {aB : Addr}
abbrev dM : Stmt := top 19
theorem kh : aI ["_law_many", "_law_words_here", "_law_most", "_law_due", "_law_handed", "_law_found"] ["_law_many", "_law_words_here", "_law_most", "_law_due"] (aj dM) := ⟨rfl, rfl, rfl, by decide +kernel, rfl, by decide +kernel, by decide +kernel⟩
theorem me (D : Df K mg "_law_right" dM)(T : Bt K w mg aB)(F_avoid : Fnc P w K mg base "avoiding" ["many", "words", "most"] 4 gg) : Fnc P w K mg base "_law_right" ["_law_many", "_law_words_here", "_law_most", "_law_due"] 5 cx := by
  have sc := kh
  refine D.ok sc (fun _ _ _ _ _ _ us hl => by obtain ⟨_, _, _, _, rfl⟩ := n5 hl;rfl) (fun vs H Q E h => ?_) (fun f cdv A outer s H vs Q E hr h => ?_)
  · obtain ⟨m, N, a, e, W, rfl, _⟩ := h
    rfl
  · obtain ⟨m, N, a, e, W, rfl, m1, m6, ha, he, wne, wl, ww, hN, k⟩ := h
    have l16 := bo
    have hu := cN hr
    have sh := nG m6 hN W
    have tll : (cm m W (N+1)).length=N+1 := by unfold cm;rw [List.length_map, List.length_range]
    refine ⟨_, (@af _ _ _ _ _ (@aq _ _ (4) _ _ _ _ sc.nd rfl (Or.inl rfl) (@bx _ _ _ _ _ _ _ _ _ bR (by rfl) T.list e9 (@aa _ _ _ _ _ (pv 1) ag (by rfl)) (by decide) (by decide) (by rfl) (by rfl)) (by rfl) (by first | exact .inl rfl | exact .inr rfl | assumption)) (@af _ _ _ _ _ (@aq _ _ (5) _ _ _ _ sc.nd rfl (Or.inl rfl) (@aC _ _ _ _ _ _ _ _ _ _ _ F_avoid hr (by decide) rfl (@aa _ _ _ _ _ (pv 0) (@aa _ _ _ _ _ (pv 4) (@aa _ _ _ _ _ (pv 2) ag (by rfl)) (by rfl)) (by rfl)) (by decide) (by rfl) (by rfl)) (by rfl) (by first | exact .inl rfl | exact .inr rfl | assumption)) (@af _ _ _ _ _ (@cY _ _ _ _ _ _ _ _ (@PW.pt _ _ _ (@n9 _ _ _ _ _ _ _ (@a_ _ _ _ _ _ _ _ _ mJ (@aM _ _ _ _ _ _ _ _ _ (@ba _ (by exact hr.gd) (by exact hr.units)) (by rfl) T.repr gD (@aa _ _ _ _ _ (pv 5) ag (by rfl)) (by decide) (by decide) (by rfl) (by rfl)) (@aM _ _ _ _ _ _ _ _ _ (@ba _ (by exact hr.gd) (by exact hr.units)) (by rfl) T.repr gD (@aa _ _ _ _ _ (pv 3) ag (by rfl)) (by decide) (by decide) (by rfl) (by rfl)) (bN _)) (@my _ _ _ _ (@a_ _ _ _ _ _ _ _ _ (@i5 _ (by exact hr.units)) (pv 4) (pv 1) (bN _))))) (@ao _ _ _ (@aP _ _ _ _ ib)) bc) (@af _ _ _ _ _ (@bF _ _ _ _ (@cL _ _ _ _ _ _ _ _ _ _ _ _ PySem.F.plainAttrs_list PySem.F.slot_list_append PySem.F.type_list_append bz (pv 4) (@aa _ _ _ _ _ ar ag (by rfl)) (by rfl) (by rfl) (by rfl) (by rfl) (by rfl)) (by rfl)) (@af _ _ _ _ _ (@bF _ _ _ _ (@gr _ _ _ _ _ _ _ _ _ PySem.F.plainAttrs_list PySem.F.slot_list_reverse PySem.F.type_list_reverse g_ (pv 4) (by rfl) (by rfl)) (by rfl)) (@af _ _ _ _ _ (@bF _ _ _ _ (@cL _ _ _ _ _ _ _ _ _ _ _ _ PySem.F.plainAttrs_list PySem.F.slot_list_append PySem.F.type_list_append bz (pv 5) (@aa _ _ _ _ _ ah ag (by rfl)) (by rfl) (by rfl) (by rfl) (by rfl) (by rfl)) (by rfl)) (@ao _ _ _ (@aP _ _ _ _ (@iu _ _ _ _ _ _ _ _ gY (@aM _ _ _ _ _ _ _ _ _ (@ba _ (by exact hr.gd) (by exact hr.units)) (by rfl) T.repr gD (@aa _ _ _ _ _ (@aC _ _ _ _ _ _ _ _ _ _ _ F_avoid hr (by decide) rfl (@aa _ _ _ _ _ (pv 0) (@aa _ _ _ _ _ (pv 1) (@aa _ _ _ _ _ (pv 2) ag (by rfl)) (by rfl)) (by rfl)) (by decide) (by rfl) (by rfl)) ag (by rfl)) (by decide) (by decide) (by rfl) (by rfl)) (@aM _ _ _ _ _ _ _ _ _ (@ba _ (by exact hr.gd) (by exact hr.units)) (by rfl) T.repr gD (@aa _ _ _ _ _ (pv 3) ag (by rfl)) (by decide) (by decide) (by rfl) (by rfl)) (bN _)))))))))), ?_⟩
    refine ⟨_, rfl, a, _, rfl, .inl (SqL.of ha), fun b hb => ?_⟩
    have s1 := aA.new (o := .lst (W.map tx)) hb
    have f1 : (upd H b (.lst (W.map tx))) b=some (.lst (W.map tx)) := ae
    show aZ _ _ _ _ (upd H b (.lst (W.map tx)))
    generalize upd H b (.lst (W.map tx))=H1 at s1 f1 ⊢
    refine ⟨_, rfl, _, rfl, _, rfl, m, N, b, W, rfl, m1, m6, f1, wne, wl, ww, by omega, fun g H2 hg f2 s2 => ?_⟩
    rw [gR m6] at f2
    have s12 := s1.trans s2
    have hgH : H g=none := s1.free hg
    have nbg : b≠g := ab f1 hg
    refine ⟨_, rfl, g, _, rfl, .lst f2 (Dts.ints _), sh, _, rfl, e, _, rfl, .lst (s12 _ _ he) (Dts.ints _), sh, rfl, _, rfl, ?_⟩
    rw [decide_eq_true rfl]
    refine p7 ?_
    refine ⟨_, rfl, _, rfl, _, _, .lst (s2 _ _ f1) (gb W), .lst (s12 _ _ ha) (gb W), dH W, dH W, ?_, _, rfl, ?_⟩
    · have := (gF W).2.2.1
      show PyData.depthAll (dws W)+1≤10
      omega
    rw [SeqAt.eqv_refl _ (dH W)]
    refine i7 ?_
    refine ⟨_, rfl, .inl ⟨rfl, _, SqL.of (s2 _ _ f1)⟩, b, _, _, rfl, rfl, s2 _ _ f1, (by rw [List.length_map];omega), ?_⟩
    have f3 : (upd H2 b (.lst (W.map tx++[V.str (Str.ofString "a")]))) b=some (.lst (W.map tx++[V.str (Str.ofString "a")])) := ae
    have g3 : (upd H2 b (.lst (W.map tx++[V.str (Str.ofString "a")]))) g=some (.lst ((cm m W (N+1)).map V.int)) := by rw [ak nbg.symm];exact f2
    have s3 : aA H (upd H2 b (.lst (W.map tx++[V.str (Str.ofString "a")]))) := fun c o q => by rw [ak (ab q hb)];exact s12 _ _ q
    generalize upd H2 b (.lst (W.map tx++[V.str (Str.ofString "a")]))=H3 at f3 g3 s3 ⊢
    refine ⟨_, rfl, .inl ⟨rfl, _, SqL.of f3⟩, b, _, rfl, rfl, f3, ?_⟩
    generalize (W.map tx++[V.str (Str.ofString "a")]).reverse=zs
    have g4 : (upd H3 b (.lst zs)) g=some (.lst ((cm m W (N+1)).map V.int)) := by rw [ak nbg.symm];exact g3
    have s4 : aA H (upd H3 b (.lst zs)) := fun c o q => by rw [ak (ab q hb)];exact s3 _ _ q
    generalize upd H3 b (.lst zs)=H4 at g4 s4 ⊢
    refine ⟨_, rfl, .inl ⟨rfl, _, SqL.of g4⟩, g, _, _, rfl, rfl, g4, (by rw [List.length_map, tll];omega), ?_⟩
    have s5 : aA H (upd H4 g (.lst ((cm m W (N+1)).map V.int++[V.int 0]))) := fun c o q => by rw [ak (ab q hgH)];exact s4 _ _ q
    generalize upd H4 g (.lst ((cm m W (N+1)).map V.int++[V.int 0]))=H5 at s5 ⊢
    refine ⟨_, rfl, _, rfl, _, rfl, m, N, a, W, rfl, m1, m6, s5 _ _ ha, wne, wl, ww, by omega, fun l H6 hl f6 s6 => ?_⟩
    rw [gR m6] at f6
    refine ⟨l, _, rfl, .lst f6 (Dts.ints _), sh, _, rfl, e, _, rfl, .lst (s6 _ _ (s5 _ _ he)) (Dts.ints _), sh, rfl, ?_⟩
    rw [decide_eq_true rfl]
    exact k H6 (s5.trans s6)
end
end Kx
set_option Elab.async false
set_option linter.all false
set_option maxRecDepth 100000
set_option maxHeartbeats 0
namespace Kx
open PySem PySem.Spec PyProof.Rows L2 Wd
section
variable {P : Program} {w : World} {K : PySem.W.Frag} {mg : Str → Option Value} {base : Heap} {aB : Addr}
abbrev fB : Stmt := top 16
theorem mf : aI ["_law_feed_here", "_law_many", "_law_most", "_law_signs"] ["_law_feed_here", "_law_many", "_law_most"] (aj fB) := ⟨rfl, rfl, rfl, by decide +kernel, rfl, by decide +kernel, by decide +kernel⟩
theorem nP (D : Df K mg "_law_some" fB)(T : Bt K w mg aB)(F_draw : Fnc P w K mg base "_law_draw" ["_law_feed_here", "_law_many"] 1 d4) : Fnc P w K mg base "_law_some" ["_law_feed_here", "_law_many", "_law_most"] 2 iZ := by
  have sc := mf
  refine D.ok sc (fun _ _ _ _ _ _ us hl => by obtain ⟨_, _, _, rfl⟩ := pz hl;rfl) (fun vs H Q E h => ?_) (fun f cdv A outer s H vs Q E hr h => ?_)
  · obtain ⟨d, m, n, rfl, _⟩ := h
    rfl
  · obtain ⟨d, m, n, rfl, F, m1, m2, n1, n2, k⟩ := h
    have l16 := bo
    refine ⟨_, (@af _ _ _ _ _ (@aq _ _ (3) _ _ _ _ sc.nd rfl (Or.inr rfl) (@av _ _ _ _ _ _ _ _ aH (@aw _ _ _ _ _ _ _ _ _ _ aX ar aJ (@aK _ _ _ (pv 1))) (@aw _ _ _ _ _ _ _ _ _ _ aX ar aJ (@aK _ _ _ (pv 1)))) (by rfl) (by first | exact .inl rfl | exact .inr rfl | assumption)) (@ao _ _ _ (@aP _ _ _ _ (@cL _ _ _ _ _ _ _ _ _ _ _ _ PySem.F.plainAttrs_str PySem.F.slot_str_join PySem.F.type_str_join fZ ar (@aa _ _ _ _ _ (@cF _ _ _ _ _ _ _ (["_law_k", "_law_signs", "_law_feed_here", "_law_many"]) (["_law_k"]) ([3, 0, 1]) _ _ _ _ (@dj _ _ _ _ _ _ rfl (by kernel_rfl)) rfl (@bu _ _ _ _ _ _ rfl T.range (@aa _ _ _ _ _ (@aC _ _ _ _ _ _ _ _ _ _ _ F_draw hr (by decide) rfl (@aa _ _ _ _ _ (pv 0) (@aa _ _ _ _ _ (@av _ _ _ _ _ _ _ _ bf (pv 2) ah) ag (by rfl)) (by rfl)) (by decide) (by rfl) (by rfl)) ag (by rfl)) (by rfl)) (fun _ _ _ _ => @aG _ _ (0) _ (show (["_law_k", "_law_signs", "_law_feed_here", "_law_many"] : List Str).Nodup from by decide +kernel) rfl (Or.inl rfl) (by first | exact .inl rfl | exact .inr rfl | assumption)) (fun _ _ _ _ => bZ) (fun _ _ _ _ => by (exact (@ed _ _ _ _ _ _ _ iC (pv 1) (@aC _ _ _ _ _ _ _ _ _ _ _ F_draw hr (by decide) rfl (@aa _ _ _ _ _ (pv 2) (@aa _ _ _ _ _ (@av _ _ _ _ _ _ _ _ dP ah (pv 3)) ag (by rfl)) (by rfl)) (by decide) (by rfl) (by rfl)) (fun _ _ => rfl)))) (by intro _ ;rfl)) ag (by rfl)) (by rfl) (by rfl) (by rfl) (by rfl) (by rfl))))), ?_⟩
    refine ⟨_, rfl, _, rfl, _, rfl, (by rw [kH];omega), _, rfl, _, rfl, _, rfl, (by rw [kI];omega), _, _, rfl, rfl, ?_, ?_⟩
    · have h1 := Txt.slice_le ("abcdef" : Str) none (some m)
      have h2 := Txt.slice_le ("ABCDEF" : Str) none (some m)
      rw [kH] at h1
      rw [kI] at h2
      omega
    rw [eD m1]
    refine ⟨rfl, _, rfl, _, rfl, _, _, rfl, rfl, d, _, rfl, F, by omega, by omega, fun r H1 r0 r1 F1 sb1 => ?_⟩
    refine ⟨_, rfl, by omega, by omega, ?_⟩
    refine cG (own := ["_law_k"]) (cap := [3, 0, 1]) (J := Itr 0 r.toNat) r.toNat (fun i ys σ H' => ∃ (v : Option V) (W : List L), σ = [v, some (tx (sg m)), some (.ref d), some (.int m)] ∧ ys=gE W ∧ W.length=i ∧ Fd H' d ∧ aQ d H H')
      ⟨none, [], rfl, rfl, rfl, F1, sb1⟩ (fun i ys σ H' hi ⟨v, W, _, e, e2, _⟩ => by rw [e, ck, e2];exact Nat.le_refl _) (by omega) (fun i ys σ H' hi _ => hi) (fun ys σ H' _ => Nat.le_refl _) ?_ ?_
    · rintro i ys σ H2 x H3 N hi ⟨v, W, rfl, rfl, hW, F2, sb2⟩ ⟨rfl, rfl⟩ hN
      refine ⟨_, rfl, _, rfl, _, rfl, _, _, rfl, rfl, .inl ⟨by decide, by decide⟩, d, _, rfl, F2, by omega, by omega, fun q H4 q0 q1 F4 sb4 => ?_⟩
      have hq : q.toNat < (sg m).length := by rw [e_ m1 m2];omega
      refine ⟨_, _, cp (sg m)[q.toNat], rfl, rfl, (by rw [ai, e_ m1 m2];omega), iS (k := q.toNat) (by omega) (List.getElem?_eq_getElem hq), hN _ _ _ ⟨_, W++[(sg m)[q.toNat]], rfl, (dq _ _), by rw [List.length_append, hW];rfl, F4, sb2.trans sb4⟩⟩
    · rintro ys σ H2 l ⟨v, W, rfl, rfl, hW, F2, sb2⟩ hl
      refine ⟨_, l, W.map fun x => toS [x], rfl, rfl, SqL.of (by rw [ae, eC]), du _ (by omega), ?_⟩
      rw [dr]
      exact k _ _ (by omega) (F2.new hl) (sb2.trans (aA.new hl).b)
end
end Kx
set_option Elab.async false
set_option linter.all false
set_option maxRecDepth 100000
set_option maxHeartbeats 0
namespace Kx
open PySem PySem.Spec PyProof.Rows L2 Wd
section
variable {P : Program} {w : World} {K : PySem.W.Frag} {mg : Str → Option Value} {base : Heap} {aB : Addr}
theorem mh : ∀ m, m≤6 → (sgN m).length=2*m := by decide
abbrev dN : Stmt := top 18
theorem ki : aI ["_law_feed_here", "_law_many", "_law_count", "_law_size", "_law_signs", "_law_found", "_law_k", "_law_word"] ["_law_feed_here", "_law_many", "_law_count", "_law_size"] (aj dN) := ⟨rfl, rfl, rfl, by decide +kernel, rfl, by decide +kernel, by decide +kernel⟩
theorem mi (D : Df K mg "_law_words" dN)(T : Bt K w mg aB)(F_draw : Fnc P w K mg base "_law_draw" ["_law_feed_here", "_law_many"] 1 d4)(F_some : Fnc P w K mg base "_law_some" ["_law_feed_here", "_law_many", "_law_most"] 2 iZ) : Fnc P w K mg base "_law_words" ["_law_feed_here", "_law_many", "_law_count", "_law_size"] 3 eK := by
  have sc := ki
  refine D.ok sc (fun _ _ _ _ _ _ us hl => by obtain ⟨_, _, _, _, rfl⟩ := n5 hl;rfl) (fun vs H Q E h => ?_) (fun f cdv A outer s H vs Q E hr h => ?_)
  · obtain ⟨d, m, c, z, rfl, _⟩ := h
    rfl
  · obtain ⟨d, m, c, z, rfl, F0, m1, m6, c50, z1, z10, k⟩ := h
    have l16 := bo
    have hu := cN hr
    have s2m := mh m m6
    have lsg := ai (sgN m)
    refine ⟨_, (@af _ _ _ _ _ (@aq _ _ (4) _ _ _ _ sc.nd rfl (Or.inl rfl) (@av _ _ _ _ _ _ _ _ aH (@aw _ _ _ _ _ _ _ _ _ _ aX ar aJ (@aK _ _ _ (pv 1))) (@aw _ _ _ _ _ _ _ _ _ _ aX ar aJ (@aK _ _ _ (pv 1)))) (by rfl) (by first | exact .inl rfl | exact .inr rfl | assumption)) (@af _ _ _ _ _ (@aq _ _ (5) _ _ _ _ sc.nd rfl (Or.inl rfl) (@bq _ _ _ _ ag) (by rfl) (by first | exact .inl rfl | exact .inr rfl | assumption)) (@af _ _ _ _ _ (@bO _ _ _ _ _ _ _ _ PassesOwn.never rfl (@bu _ _ _ _ _ _ rfl T.range (@aa _ _ _ _ _ (@aC _ _ _ _ _ _ _ _ _ _ _ F_draw hr (by decide) rfl (@aa _ _ _ _ _ (pv 0) (@aa _ _ _ _ _ (@av _ _ _ _ _ _ _ _ bf (pv 2) ah) ag (by rfl)) (by rfl)) (by decide) (by rfl) (by rfl)) ag (by rfl)) (by rfl)) (@aG _ _ (6) _ sc.nd rfl (Or.inl rfl) (by first | exact .inl rfl | exact .inr rfl | assumption)) (@af _ _ _ _ _ (@aq _ _ (7) _ _ _ _ sc.nd rfl (Or.inl rfl) (@av _ _ _ _ _ _ _ _ aH (@aC _ _ _ _ _ _ _ _ _ _ _ F_some hr (by decide) rfl (@aa _ _ _ _ _ (pv 0) (@aa _ _ _ _ _ (pv 1) (@aa _ _ _ _ _ (@av _ _ _ _ _ _ _ _ eM (pv 3) ah) ag (by rfl)) (by rfl)) (by rfl)) (by decide) (by rfl) (by rfl)) (@ed _ _ _ _ _ _ _ iC (pv 4) (@aC _ _ _ _ _ _ _ _ _ _ _ F_draw hr (by decide) rfl (@aa _ _ _ _ _ (pv 0) (@aa _ _ _ _ _ (@av _ _ _ _ _ _ _ _ dP ah (pv 1)) ag (by rfl)) (by rfl)) (by decide) (by rfl) (by rfl)) (fun _ _ => rfl))) (by rfl) (by first | exact .inl rfl | exact .inr rfl | assumption)) (@af _ _ _ _ _ (@cY _ _ _ _ _ _ _ _ (@PW.pt _ _ _ (@ko _ _ _ _ _ _ _ (@a_ _ _ _ _ _ _ _ _ (@i3 _ (by exact hr.units)) (pv 5) (@bq _ _ _ _ ag) (bN _)) (@ig _ _ _ _ (@a_ _ _ _ _ _ _ _ _ gY (@aC _ _ _ _ _ _ _ _ _ _ _ F_draw hr (by decide) rfl (@aa _ _ _ _ _ (pv 0) (@aa _ _ _ _ _ ah ag (by rfl)) (by rfl)) (by decide) (by rfl) (by rfl)) ah (bN _))))) (@ao _ _ _ (@aq _ _ (7) _ _ _ _ sc.nd rfl (Or.inl rfl) (@aw _ _ _ _ _ _ _ _ _ _ aX (@av _ _ _ _ _ _ _ _ aH (@ed _ _ _ _ _ _ _ cE (pv 5) (@aC _ _ _ _ _ _ _ _ _ _ _ F_draw hr (by decide) rfl (@aa _ _ _ _ _ (pv 0) (@aa _ _ _ _ _ (@aM _ _ _ _ _ _ _ _ _ bP (by rfl) T.len PySem.boot_len (@aa _ _ _ _ _ (pv 5) ag (by rfl)) (by decide) (by decide) (by rfl) (by rfl)) ag (by rfl)) (by rfl)) (by decide) (by rfl) (by rfl)) (fun _ _ => rfl)) (pv 7)) aJ (@aK _ _ _ (pv 3))) (by rfl) (by first | exact .inl rfl | exact .inr rfl | assumption))) bc) (@ao _ _ _ (@bF _ _ _ _ (@cL _ _ _ _ _ _ _ _ _ _ _ _ PySem.F.plainAttrs_list PySem.F.slot_list_append PySem.F.type_list_append bz (pv 5) (@aa _ _ _ _ _ (pv 7) ag (by rfl)) (by rfl) (by rfl) (by rfl) (by rfl) (by rfl)) (by rfl))))) (by intro _ ;rfl)) (@ao _ _ _ (@aP _ _ _ _ (pv 5)))))), ?_⟩
    refine ⟨_, rfl, _, rfl, _, rfl, (aE (n := 6) (by decide)), _, rfl, _, rfl, _, rfl, (aE (n := 6) (by decide)), _, _, rfl, rfl, ?_, ?_⟩
    · have h1 := Txt.slice_le ("abcdef" : Str) none (some (m : Int))
      have h2 := Txt.slice_le ("ABCDEF" : Str) none (some (m : Int))
      have e1 : ("abcdef" : Str).length=6 := by decide +kernel
      have e2 : ("ABCDEF" : Str).length=6 := by decide +kernel
      omega
    rw [eD (m := (m : Int)) (by omega), kP]
    refine ⟨(aE (n := 0) (by decide)), fun l hl => ?_⟩
    have F1 : Fd (upd H l (.lst [])) d := F0.new hl
    have f1 : (upd H l (.lst [])) l=some (.lst (([] : List (List L)).map tx)) := ae
    have nld : l≠d := F0.ne hl
    have b1 : aQ d H (upd H l (.lst [])) := fun b o _ e => aA.new hl _ _ e
    show aZ _ _ _ _ (upd H l (.lst []))
    generalize upd H l (.lst [])=H1 at F1 f1 b1 ⊢
    refine ⟨_, rfl, _, rfl, _, _, rfl, rfl, d, _, rfl, F1, by omega, by omega, fun r H2 r0 r1 F2 b2 => ?_⟩
    refine ⟨_, rfl, by omega, by omega, ?_⟩
    refine cq (lo := 0) (n := r.toNat) (fun i σ H' => ∃ (b6 b7 : Option V) (W : List (List L)), σ = [some (.ref d), some (.int (m : Int)), some (.int (c : Int)), some (.int (z : Int)), some (tx (sgN m)), some (.ref l), b6, b7] ∧ H' l=some (.lst (W.map tx)) ∧ []∉W ∧ W.length≤i ∧ (∀ w∈W, w.length≤z) ∧ Fd H' d ∧ aQ d H H') ⟨none, none, [], rfl, b2 _ _ nld f1, by simp, Nat.zero_le _, (fun w hw => absurd hw List.not_mem_nil), F2, b1.trans b2⟩ ?_ ?_
    · rintro i σ H3 hi ⟨b6, b7, W, rfl, f3, wne, wl, ww, F3, b3⟩
      refine ⟨_, rfl, _, rfl, _, rfl, _, _, rfl, rfl, d, (m : Int), _, rfl, F3, by omega, by omega, by omega, by omega, fun u H4 ul F4 b4 => ?_⟩
      refine ⟨_, rfl, _, rfl, _, rfl, _, _, rfl, rfl, .inr ⟨by omega, by omega⟩, d, _, rfl, F4, by omega, by omega, fun r2 H5 r20 r21 F5 b5 => ?_⟩
      obtain ⟨q, hq⟩ := Int.eq_ofNat_of_zero_le r20
      have hx := List.getElem?_eq_getElem (show q < (sgN m).length by omega)
      generalize (sgN m)[q]'(by omega)=x at hx
      have lu := ai u
      have f5 := b5 _ _ nld (b4 _ _ nld f3)
      have bb5 := (b3.trans b4).trans b5
      refine ⟨toS (sgN m), r2, cp x, rfl, rfl, by omega, iS (k := q) hq hx, ?_⟩
      have lx := ai [x]
      have ls1 : [x].length=1 := rfl
      refine ⟨_, _, rfl, rfl, (by show _+(toS [x]).length≤_;omega), ?_⟩
      have et : V.str (toS u++⟨#[cp x]⟩)=tx (u++[x]) := cK u [x]
      rw [et]
      have vne : u++[x]≠[] := by simp
      have vl : (u++[x]).length≤z := by rw [List.length_append, List.length_singleton];omega
      generalize u++[x]=v at vne vl
      have lv := ai v
      have fin : ∀ (v : List L) (c6 c7 : Option V) (H9 : Hp), v≠[] → v.length≤z → H9 l=some (.lst (W.map tx)) → Fd H9 d → aQ d H H9 → ∃ (b6 b7 : Option V) (W' : List (List L)), [some (V.ref d), some (.int (m : Int)), some (.int (c : Int)), some (.int (z : Int)), some (tx (sgN m)), some (.ref l), c6, c7]=[some (.ref d), some (.int (m : Int)), some (.int (c : Int)), some (.int (z : Int)), some (tx (sgN m)), some (.ref l), b6, b7] ∧ (upd H9 l (.lst (W.map tx++[tx v]))) l=some (.lst (W'.map tx)) ∧ []∉W' ∧ W'.length≤i+1 ∧ (∀ w∈W', w.length≤z) ∧ Fd (upd H9 l (.lst (W.map tx++[tx v]))) d ∧ aQ d H (upd H9 l (.lst (W.map tx++[tx v]))) := fun v c6 c7 H9 vne vl f9 F9 b9 => by
        refine ⟨_, _, W++[v], rfl, by rw [ae, List.map_append];rfl, fun hm => ?_, by rw [List.length_append, List.length_singleton];omega, fun w hw => ?_, jv F9 f9 nld, fun b o n e => by rw [ak (ab e hl)];exact b9 b o n e⟩
        · rcases List.mem_append.mp hm with q | q
          · exact wne q
          · exact vne (List.mem_singleton.mp q).symm
        · rcases List.mem_append.mp hw with q | q
          · exact ww w q
          · rw [List.mem_singleton.mp q];exact vl
      have wl2 : (W.map tx).length≤100 := by rw [List.length_map];omega
      refine ⟨_, rfl, (aE (n := 0) (by decide)), fun q1 hq1 => ?_⟩
      have t6 := aA.new (o := .lst []) hq1
      have f6 := t6 _ _ f5
      have F6 := F5.same t6
      have bb6 : aQ d H (upd H5 q1 (.lst [])) := fun b o n e => t6 _ _ (bb5 b o n e)
      refine ⟨l, q1, _, rfl, rfl, f6, ae, _, rfl, ?_⟩
      generalize upd H5 q1 (.lst [])=H6 at t6 f6 F6 bb6 ⊢
      cases hW : W with
      | nil =>
        rw [hW] at fin f6 wl2
        exact nq (i7 ⟨_, rfl, .inl ⟨rfl, _, SqL.of f6⟩, _, rfl, l, _, _, rfl, rfl, f6, by omega, fin v _ _ H6 vne vl f6 F6 bb6⟩)
      | cons w0 W0 =>
        rw [hW] at fin f6 wl2 ww
        refine nk ⟨_, rfl, d, _, rfl, F6, by decide, by decide, fun r3 H7 r30 r31 F7 b7 => ?_⟩
        have f7 := b7 _ _ nld f6
        have bb7 := bb6.trans b7
        refine ⟨rfl, _, rfl, ?_⟩
        cases decide (V.int r3=V.int 0) with
        | false => exact i7 ⟨_, rfl, .inl ⟨rfl, _, SqL.of f7⟩, _, rfl, l, _, _, rfl, rfl, f7, by omega, fin v _ _ H7 vne vl f7 F7 bb7⟩
        | true =>
          refine nj ⟨_, rfl, _, rfl, _, rfl, l, _, rfl, .inl (SqL.of f7), d, _, rfl, F7, ?_, ?_, fun r4 H8 r40 r41 F8 b8 => ?_⟩
          · rw [List.length_map, List.length_cons];omega
          · omega
          · have f8 := b8 _ _ nld f7
            have bb8 := bb7.trans b8
            obtain ⟨q4, hq4⟩ := Int.eq_ofNat_of_zero_le r40
            rw [List.length_map] at r41
            have hy := List.getElem?_eq_getElem (show q4 < (w0::W0).length by omega)
            generalize (w0::W0)[q4]'(by omega)=y at hy
            have yl := ww y (List.mem_of_getElem? hy)
            have ly := ai y
            have ay : atI ((w0::W0).map tx) r4=some (tx y) := by rw [hq4];exact bG (j := q4) (by rw [List.getElem?_map, hy];rfl)
            refine ⟨l, _, _, _, rfl, rfl, SqL.of f8, ay, _, rfl, _, _, rfl, rfl, by omega, ?_⟩
            rw [cK]
            have lyv := ai (y++v)
            rw [List.length_append] at lyv
            refine ⟨_, rfl, _, rfl, toS (y++v), rfl, by omega, ?_⟩
            rw [aT, d3 _ (by omega), Int.toNat_natCast]
            refine ⟨_, rfl, .inl ⟨rfl, _, SqL.of f8⟩, _, rfl, l, _, _, rfl, rfl, f8, by omega, fin ((y++v).take z) _ _ H8 ?_ (by rw [List.length_take];omega) f8 F8 bb8⟩
            intro e
            have := congrArg List.length e
            rw [List.length_take, List.length_append, List.length_nil] at this
            have := List.length_pos_iff.mpr vne
            omega
    · rintro σ H3 ⟨b6, b7, W, rfl, f3, wne, wl, ww, F3, b3⟩
      exact ⟨_, rfl, k l W H3 hl f3 wne (by omega) ww F3 b3⟩
end
end Kx
set_option Elab.async false
set_option linter.all false
set_option maxRecDepth 100000
set_option maxHeartbeats 0
namespace Kx
open PySem PySem.Spec PyProof.Rows L2 Wd
section
variable {P : Program} {w : World} {K : PySem.W.Frag} {mg : Str → Option Value} {base : Heap} {aB : Addr}
inductive jB (vs : List V)(H : Hp)(Q : VK)(E : XK) : Prop
  | mk : ∀ (d : Addr), vs=[.ref d] → Fd H d → (∀ H', Fd H' d → aQ d H H' → Q (.bl true) H') → jB vs H Q E
theorem pA : V.str ("aaaaaaaa" : Str)=tx [0, 0, 0, 0, 0, 0, 0, 0] := by decide +kernel
theorem p9 : V.str ("abababab" : Str)=tx [0, 1, 0, 1, 0, 1, 0, 1] := by decide +kernel
theorem p_ : V.str ("AAAAAAAA" : Str)=tx [6, 6, 6, 6, 6, 6, 6, 6] := by decide +kernel
theorem qa : V.str ("abaababa" : Str)=tx [0, 1, 0, 0, 1, 0, 1, 0] := by decide +kernel
abbrev fC : Stmt := top 20
theorem mj : aI ["_law_feed_here", "_law_words_here", "_law_most", "_law_many", "_law_some_here", "_law_size"] ["_law_feed_here"] (aj fC) := ⟨rfl, rfl, rfl, by decide +kernel, rfl, by decide +kernel, by decide +kernel⟩
theorem nQ (D : Df K mg "_law_long_right" fC)(T : Bt K w mg aB)(F_draw : Fnc P w K mg base "_law_draw" ["_law_feed_here", "_law_many"] 1 d4)(F_words : Fnc P w K mg base "_law_words" ["_law_feed_here", "_law_many", "_law_count", "_law_size"] 3 eK)(F_counts : Fnc P w K mg base "_law_counts" ["_law_many", "_law_words_here", "_law_keep", "_law_most"] 2 cX)(F_right : Fnc P w K mg base "_law_right" ["_law_many", "_law_words_here", "_law_most", "_law_due"] 5 cx) : Fnc P w K mg base "_law_long_right" ["_law_feed_here"] 6 jB := by
  have sc := mj
  refine D.ok sc (fun _ _ _ _ _ _ us hl => by obtain ⟨_, rfl⟩ := nH hl;rfl) (fun vs H Q E h => ?_) (fun f cdv A outer s H vs Q E hr h => ?_)
  · obtain ⟨d, rfl, _⟩ := h
    rfl
  · obtain ⟨d, rfl, F0, k⟩ := h
    have l16 := bo
    have hu := cN hr
    refine ⟨_, (@af _ _ _ _ _ (@cY _ _ _ _ _ _ _ _ (@a_ _ _ _ _ _ _ _ _ gY (@aC _ _ _ _ _ _ _ _ _ _ _ F_draw hr (by decide) rfl (@aa _ _ _ _ _ (pv 0) (@aa _ _ _ _ _ ah ag (by rfl)) (by rfl)) (by decide) (by rfl) (by rfl)) ah (bN _)) (@af _ _ _ _ _ (@aq _ _ (1) _ _ _ _ sc.nd rfl (Or.inl rfl) (@aC _ _ _ _ _ _ _ _ _ _ _ F_words hr (by decide) rfl (@aa _ _ _ _ _ (pv 0) (@aa _ _ _ _ _ ah (@aa _ _ _ _ _ ah (@aa _ _ _ _ _ ah ag (by rfl)) (by rfl)) (by rfl)) (by rfl)) (by decide) (by rfl) (by rfl)) (by rfl) (by first | exact .inl rfl | exact .inr rfl | assumption)) (@af _ _ _ _ _ (@aq _ _ (2) _ _ _ _ sc.nd rfl (Or.inl rfl) (@av _ _ _ _ _ _ _ _ bf ah (@aC _ _ _ _ _ _ _ _ _ _ _ F_draw hr (by decide) rfl (@aa _ _ _ _ _ (pv 0) (@aa _ _ _ _ _ ah ag (by rfl)) (by rfl)) (by decide) (by rfl) (by rfl))) (by rfl) (by first | exact .inl rfl | exact .inr rfl | assumption)) (@ao _ _ _ (@aP _ _ _ _ (@aC _ _ _ _ _ _ _ _ _ _ _ F_right hr (by decide) rfl (@aa _ _ _ _ _ ah (@aa _ _ _ _ _ (pv 1) (@aa _ _ _ _ _ (pv 2) (@aa _ _ _ _ _ (@aC _ _ _ _ _ _ _ _ _ _ _ F_counts hr (by decide) rfl (@aa _ _ _ _ _ ah (@aa _ _ _ _ _ (pv 1) (@aa _ _ _ _ _ ah (@aa _ _ _ _ _ (pv 2) ag (by rfl)) (by rfl)) (by rfl)) (by rfl)) (by decide) (by rfl) (by rfl)) ag (by rfl)) (by rfl)) (by rfl)) (by rfl)) (by decide) (by rfl) (by rfl)))))) bc) (@af _ _ _ _ _ (@aq _ _ (3) _ _ _ _ sc.nd rfl (Or.inl rfl) (@av _ _ _ _ _ _ _ _ bf ah (@aC _ _ _ _ _ _ _ _ _ _ _ F_draw hr (by decide) rfl (@aa _ _ _ _ _ (pv 0) (@aa _ _ _ _ _ ah ag (by rfl)) (by rfl)) (by decide) (by rfl) (by rfl))) (by rfl) (by first | exact .inl rfl | exact .inr rfl | assumption)) (@af _ _ _ _ _ (@aq _ _ (4) _ _ _ _ sc.nd rfl (Or.inl rfl) (@bq _ _ _ _ (@aa _ _ _ _ _ ar (@aa _ _ _ _ _ (@ed _ _ _ _ _ _ _ cE (@bq _ _ _ _ (@aa _ _ _ _ _ ar (@aa _ _ _ _ _ ar ag (by rfl)) (by rfl))) (@av _ _ _ _ _ _ _ _ eM ah (pv 3)) (fun _ _ => rfl)) (@aa _ _ _ _ _ (@ed _ _ _ _ _ _ _ cE (@bq _ _ _ _ (@aa _ _ _ _ _ ar (@aa _ _ _ _ _ ar ag (by rfl)) (by rfl))) (@av _ _ _ _ _ _ _ _ eM ah (pv 3)) (fun _ _ => rfl)) ag (by rfl)) (by rfl)) (by rfl))) (by rfl) (by first | exact .inl rfl | exact .inr rfl | assumption)) (@af _ _ _ _ _ (@aq _ _ (5) _ _ _ _ sc.nd rfl (Or.inl rfl) (@av _ _ _ _ _ _ _ _ bf ah (@aC _ _ _ _ _ _ _ _ _ _ _ F_draw hr (by decide) rfl (@aa _ _ _ _ _ (pv 0) (@aa _ _ _ _ _ ah ag (by rfl)) (by rfl)) (by decide) (by rfl) (by rfl))) (by rfl) (by first | exact .inl rfl | exact .inr rfl | assumption)) (@af _ _ _ _ _ (@aq _ _ (1) _ _ _ _ sc.nd rfl (Or.inl rfl) (@av _ _ _ _ _ _ _ _ kA (@aC _ _ _ _ _ _ _ _ _ _ _ F_words hr (by decide) rfl (@aa _ _ _ _ _ (pv 0) (@aa _ _ _ _ _ (pv 3) (@aa _ _ _ _ _ ah (@aa _ _ _ _ _ ah ag (by rfl)) (by rfl)) (by rfl)) (by rfl)) (by decide) (by rfl) (by rfl)) (@bq _ _ _ _ (@aa _ _ _ _ _ (@aw _ _ _ _ _ _ _ _ _ _ aX (@ed _ _ _ _ _ _ _ cE (pv 4) (@aC _ _ _ _ _ _ _ _ _ _ _ F_draw hr (by decide) rfl (@aa _ _ _ _ _ (pv 0) (@aa _ _ _ _ _ ah ag (by rfl)) (by rfl)) (by decide) (by rfl) (by rfl)) (fun _ _ => rfl)) aJ (@aK _ _ _ (pv 5))) ag (by rfl)))) (by rfl) (by first | exact .inl rfl | exact .inr rfl | assumption)) (@af _ _ _ _ _ (@cY _ _ _ _ _ _ _ _ (@a_ _ _ _ _ _ _ _ _ gY (pv 3) ah (bN _)) (@ao _ _ _ (@bF _ _ _ _ (@cL _ _ _ _ _ _ _ _ _ _ _ _ PySem.F.plainAttrs_list PySem.F.slot_list_append PySem.F.type_list_append bz (pv 1) (@aa _ _ _ _ _ (@cL _ _ _ _ _ _ _ _ _ _ _ _ PySem.F.plainAttrs_str PySem.F.slot_str_join PySem.F.type_str_join fZ ar (@aa _ _ _ _ _ (@cF _ _ _ _ _ _ _ (["_law_k", "_law_feed_here"]) (["_law_k"]) ([0]) _ _ _ _ (@dj _ _ _ _ _ _ rfl (by kernel_rfl)) rfl (@bu _ _ _ _ _ _ rfl T.range (@aa _ _ _ _ _ (pv 5) ag (by rfl)) (by rfl)) (fun _ _ _ _ => @aG _ _ (0) _ (show (["_law_k", "_law_feed_here"] : List Str).Nodup from by decide +kernel) rfl (Or.inl rfl) (by first | exact .inl rfl | exact .inr rfl | assumption)) (fun _ _ _ _ => bZ) (fun _ _ _ _ => by (exact (@ed _ _ _ _ _ _ _ iC ar (@aC _ _ _ _ _ _ _ _ _ _ _ F_draw hr (by decide) rfl (@aa _ _ _ _ _ (pv 1) (@aa _ _ _ _ _ ah ag (by rfl)) (by rfl)) (by decide) (by rfl) (by rfl)) (fun _ _ => rfl)))) (by intro _ ;rfl)) ag (by rfl)) (by rfl) (by rfl) (by rfl) (by rfl) (by rfl)) ag (by rfl)) (by rfl) (by rfl) (by rfl) (by rfl) (by rfl)) (by rfl))) bc) (@af _ _ _ _ _ (@aq _ _ (2) _ _ _ _ sc.nd rfl (Or.inl rfl) (@av _ _ _ _ _ _ _ _ bf (pv 5) (@aC _ _ _ _ _ _ _ _ _ _ _ F_draw hr (by decide) rfl (@aa _ _ _ _ _ (pv 0) (@aa _ _ _ _ _ ah ag (by rfl)) (by rfl)) (by decide) (by rfl) (by rfl))) (by rfl) (by first | exact .inl rfl | exact .inr rfl | assumption)) (@ao _ _ _ (@aP _ _ _ _ (@aC _ _ _ _ _ _ _ _ _ _ _ F_right hr (by decide) rfl (@aa _ _ _ _ _ (pv 3) (@aa _ _ _ _ _ (pv 1) (@aa _ _ _ _ _ (pv 2) (@aa _ _ _ _ _ (@aC _ _ _ _ _ _ _ _ _ _ _ F_counts hr (by decide) rfl (@aa _ _ _ _ _ (pv 3) (@aa _ _ _ _ _ (pv 1) (@aa _ _ _ _ _ ah (@aa _ _ _ _ _ (pv 2) ag (by rfl)) (by rfl)) (by rfl)) (by rfl)) (by decide) (by rfl) (by rfl)) ag (by rfl)) (by rfl)) (by rfl)) (by rfl)) (by decide) (by rfl) (by rfl))))))))))), ?_⟩
    refine ⟨_, rfl, d, _, rfl, F0, by decide, by decide, fun r1 H1 r10 r11 F1 b1 => ⟨rfl, _, rfl, ?_⟩⟩
    cases decide (V.int r1=V.int 0) with
    | true =>
      refine nj ⟨_, rfl, d, 3, 5, 5, rfl, F1, by decide, by decide, by decide, by decide, by decide, fun a W H2 ha fa wne wl ww F2 b2 => ?_⟩
      refine ⟨_, rfl, d, _, rfl, F2, by decide, by decide, fun r2 H3 r20 r21 F3 b3 => ⟨_, _, rfl, rfl, ?_⟩⟩
      obtain ⟨N, hN⟩ : ∃ N : Nat, 4+r2=(N : Int) := ⟨(4+r2).toNat, by omega⟩
      rw [hN]
      have nad : a≠d := F1.ne ha
      have fa3 := b3 _ _ nad fa
      refine ⟨_, rfl, _, rfl, _, rfl, _, rfl, 3, 4, N, a, W, rfl, by decide, by decide, by decide, by decide, fa3, wne, by omega, fun w hw => ww w hw, by omega, by decide, fun e H4 he fe s4 => ?_⟩
      exact ⟨3, N, a, e, W, rfl, by decide, by decide, s4 _ _ fa3, fe, wne, by omega, (fun w hw => by have := ww w hw;omega), by omega, fun H5 s5 => k H5 ((F3.same s4).same s5) (((b1.trans b2).trans b3).trans fun b o _ q => s5 _ _ (s4 _ _ q))⟩
    | false =>
      refine i7 ?_
      refine ⟨_, rfl, d, _, rfl, F1, by decide, by decide, fun r2 H2 r20 r21 F2 b2 => ⟨_, _, rfl, rfl, ?_⟩⟩
      obtain ⟨m, hm⟩ : ∃ m : Nat, 1+r2=(m : Int) := ⟨(1+r2).toNat, by omega⟩
      rw [hm]
      have m12 : m=1 ∨ m=2 := by omega
      have a1 : ∃ y : List L, y.length=8 ∧ atI [V.str (Str.ofString "abababab"), V.str (Str.ofString "AAAAAAAA")] (2 - (m : Int))=some (tx y) := by
        rcases m12 with rfl | rfl
        · exact ⟨[6, 6, 6, 6, 6, 6, 6, 6], rfl, by rw [← p_];exact bG (j := 1) rfl⟩
        · exact ⟨[0, 1, 0, 1, 0, 1, 0, 1], rfl, by rw [← p9];exact bG (j := 0) rfl⟩
      have a2 : ∃ y : List L, y.length=8 ∧ atI [V.str (Str.ofString "abaababa"), V.str (Str.ofString "aaaaaaaa")] (2 - (m : Int))=some (tx y) := by
        rcases m12 with rfl | rfl
        · exact ⟨[0, 0, 0, 0, 0, 0, 0, 0], rfl, by rw [← pA];exact bG (j := 1) rfl⟩
        · exact ⟨[0, 1, 0, 0, 1, 0, 1, 0], rfl, by rw [← qa];exact bG (j := 0) rfl⟩
      obtain ⟨y1, y1l, a1⟩ := a1
      obtain ⟨y2, y2l, a2⟩ := a2
      refine ⟨(aE (n := 2) (by decide)), fun p1 hp1 => ⟨_, rfl, _, _, rfl, rfl, p1, _, _, _, rfl, rfl, SqL.of ae, a1, ?_⟩⟩
      have F3 := F2.new (o := .lst [V.str (Str.ofString "abababab"), V.str (Str.ofString "AAAAAAAA")]) hp1
      have b3 : aQ d H (upd H2 p1 (.lst [V.str (Str.ofString "abababab"), V.str (Str.ofString "AAAAAAAA")])) := (b1.trans b2).trans fun b o _ q => aA.new hp1 _ _ q
      generalize upd H2 p1 (.lst [V.str (Str.ofString "abababab"), V.str (Str.ofString "AAAAAAAA")])=H3 at F3 b3 ⊢
      refine ⟨(aE (n := 2) (by decide)), fun p2 hp2 => ⟨_, rfl, _, _, rfl, rfl, p2, _, _, _, rfl, rfl, SqL.of ae, a2, ?_⟩⟩
      have F4 := F3.new (o := .lst [V.str (Str.ofString "abaababa"), V.str (Str.ofString "aaaaaaaa")]) hp2
      have b4 : aQ d H (upd H3 p2 (.lst [V.str (Str.ofString "abaababa"), V.str (Str.ofString "aaaaaaaa")])) := b3.trans fun b o _ q => aA.new hp2 _ _ q
      generalize upd H3 p2 (.lst [V.str (Str.ofString "abaababa"), V.str (Str.ofString "aaaaaaaa")])=H4 at F4 b4 ⊢
      refine ⟨(aE (n := 3) (by decide)), fun g hg => ?_⟩
      have eg : [V.str (Str.ofString "aaaaaaaa"), tx y1, tx y2]=([[0, 0, 0, 0, 0, 0, 0, 0], y1, y2] : List (List L)).map tx := by rw [List.map_cons, ← pA];rfl
      have yy : ∀ y∈([[0, 0, 0, 0, 0, 0, 0, 0], y1, y2] : List (List L)), y.length=8 := fun y hy => by
        simp only [List.mem_cons, List.not_mem_nil, or_false] at hy
        rcases hy with rfl | rfl | rfl
        · rfl
        · exact y1l
        · exact y2l
      rw [eg]
      have yl3 : ([[0, 0, 0, 0, 0, 0, 0, 0], y1, y2] : List (List L)).length=3 := rfl
      generalize ([[0, 0, 0, 0, 0, 0, 0, 0], y1, y2] : List (List L))=Y at yy yl3
      have F5 := F4.new (o := .lst (Y.map tx)) hg
      have b5 : aQ d H (upd H4 g (.lst (Y.map tx))) := b4.trans fun b o _ q => aA.new hg _ _ q
      have g5 : (upd H4 g (.lst (Y.map tx))) g=some (.lst (Y.map tx)) := ae
      have ngd : g≠d := F4.ne hg
      show aZ _ _ _ _ (upd H4 g (.lst (Y.map tx)))
      generalize upd H4 g (.lst (Y.map tx))=H5 at F5 b5 g5 ⊢
      refine ⟨_, rfl, d, _, rfl, F5, by decide, by decide, fun r6 H6 r60 r61 F6 b6 => ⟨_, _, rfl, rfl, ?_⟩⟩
      obtain ⟨z, hz⟩ : ∃ z : Nat, 6+r6=(z : Int) := ⟨(6+r6).toNat, by omega⟩
      rw [hz]
      have g6 := b6 _ _ ngd g5
      have bb6 := b5.trans b6
      refine ⟨_, rfl, _, rfl, d, m, 2, 8, rfl, F6, by omega, by omega, by decide, by decide, by decide, fun a W H7 ha fa wne wl ww F7 b7 => ?_⟩
      have nad : a≠d := F6.ne ha
      have g7 := b7 _ _ ngd g6
      have bb7 := bb6.trans b7
      refine ⟨_, rfl, _, rfl, d, _, rfl, F7, by decide, by decide, fun r8 H8 r80 r81 F8 b8 => ?_⟩
      obtain ⟨q8, hq8⟩ := Int.eq_ofNat_of_zero_le r80
      have hy := List.getElem?_eq_getElem (show q8 < Y.length by omega)
      generalize Y[q8]'(by omega)=y at hy
      have yl := yy y (List.mem_of_getElem? hy)
      have ly := ai y
      have g8 := b8 _ _ ngd g7
      have fa8 := b8 _ _ nad fa
      have bb8 := bb7.trans b8
      have ay : atI (Y.map tx) r8=some (tx y) := by rw [hq8];exact bG (j := q8) (by rw [List.getElem?_map, hy];rfl)
      refine ⟨g, _, _, _, rfl, rfl, SqL.of g8, ay, _, rfl, _, rfl, toS y, rfl, by omega, ?_⟩
      rw [aT, d3 _ (by omega), Int.toNat_natCast]
      refine ⟨(aE (n := 1) (by decide)), fun p3 hp3 => ?_⟩
      have t9 := aA.new (o := .lst [V.str (toS (y.take z))]) hp3
      refine ⟨a, p3, _, _, rfl, rfl, t9 _ _ fa8, ae, (by rw [List.length_map];show _+1≤_;omega), fun wd hwd => ?_⟩
      have F9 := F8.same t9
      have b9 : aQ d H (upd H8 p3 (.lst [V.str (toS (y.take z))])) := bb8.trans t9.b
      generalize upd H8 p3 (.lst [V.str (toS (y.take z))])=H9 at F9 b9 hwd ⊢
      have eW : W.map tx++[V.str (toS (y.take z))]=(W++[y.take z]).map tx := by rw [List.map_append];rfl
      rw [eW]
      have wwne : []∉W++[y.take z] := fun hm => by
        rcases List.mem_append.mp hm with q | q
        · exact wne q
        · have := congrArg List.length (List.mem_singleton.mp q)
          rw [List.length_take, List.length_nil] at this
          omega
      have wwl : (W++[y.take z]).length≤100 := by rw [List.length_append, List.length_singleton];omega
      have www : ∀ w∈W++[y.take z], w.length≤8 := fun w hw => by
        rcases List.mem_append.mp hw with q | q
        · exact ww w q
        · rw [List.mem_singleton.mp q, List.length_take];omega
      have wwl3 : (W++[y.take z]).length≤3 := by rw [List.length_append, List.length_singleton];omega
      generalize W++[y.take z]=W2 at wwne wwl www wwl3
      have F10 := F9.new (o := .lst (W2.map tx)) hwd
      have bW : aQ d H (upd H9 wd (.lst (W2.map tx))) := b9.trans fun b o _ q => aA.new hwd _ _ q
      have fW : (upd H9 wd (.lst (W2.map tx))) wd=some (.lst (W2.map tx)) := ae
      have nwd : wd≠d := F9.ne hwd
      have hwdH : ∀ o, H wd=some o → False := fun o q => by
        have := b9 _ _ nwd q
        rw [hwd] at this
        cases this
      show aZ _ _ _ _ (upd H9 wd (.lst (W2.map tx)))
      generalize upd H9 wd (.lst (W2.map tx))=H10 at F10 bW fW ⊢
      refine ⟨_, rfl, rfl, _, rfl, ?_⟩
      rcases m12 with rfl | rfl
      · rw [show decide (V.int ((1 : Nat) : Int)=V.int 2)=false by decide]
        refine i7 ?_
        refine ⟨_, rfl, _, rfl, d, _, rfl, F10, by decide, by decide, fun r9 HA r90 r91 FA bA => ⟨_, _, rfl, rfl, ?_⟩⟩
        obtain ⟨N, hN⟩ : ∃ N : Nat, (z : Int)+r9=(N : Int) := ⟨((z : Int)+r9).toNat, by omega⟩
        rw [hN]
        have faA := bA _ _ nwd fW
        refine ⟨_, rfl, _, rfl, _, rfl, _, rfl, _, rfl, _, rfl, 1, 7, N, wd, W2, rfl, by decide, by decide, by decide, by decide, faA, wwne, wwl, (fun w hw => www w hw), by omega, by decide, fun e HB he fe sB => ?_⟩
        exact ⟨1, N, wd, e, W2, rfl, by decide, by decide, sB _ _ faA, fe, wwne, wwl, (fun w hw => by have := www w hw;omega), by omega, fun HC sC => k HC ((FA.same sB).same sC) ((bW.trans bA).trans fun b o _ q => sC _ _ (sB _ _ q))⟩
      · rw [show decide (V.int ((2 : Nat) : Int)=V.int 2)=true by decide]
        refine nj ⟨_, rfl, .inl ⟨rfl, _, SqL.of fW⟩, rfl, _, rfl, _, rfl, by omega, by omega, ?_⟩
        rw [Int.toNat_natCast]
        refine cG (own := ["_law_k"]) (cap := [0]) (J := Itr 0 z) z (fun i ys σ H' => ∃ (v : Option V) (u : List L), σ = [v, some (.ref d)] ∧ ys=gE u ∧ u.length=i ∧ Fd H' d ∧ aQ d H10 H') ⟨none, [], rfl, rfl, rfl, F10, aQ.refl _ _⟩ (fun i ys σ H' hi ⟨v, u, _, e, e2, _⟩ => by rw [e, ck, e2];exact Nat.le_refl _) (by omega) (fun i ys σ H' hi _ => hi) (fun ys σ H' _ => Nat.le_refl _) ?_ ?_
        · rintro i ys σ H11 x H12 N hi ⟨v, u, rfl, rfl, hu', F11, b11⟩ ⟨rfl, rfl⟩ hN
          refine ⟨_, rfl, d, _, rfl, F11, by decide, by decide, fun q H13 q0 q1 F13 b13 => ?_⟩
          have hx : ∃ x : L, atI ("abAB" : Str).cps.toList q=some (cp x) := by
            have : q=0 ∨ q=1 := by omega
            rcases this with rfl | rfl
            · exact ⟨0, by decide +kernel⟩
            · exact ⟨1, by decide +kernel⟩
          obtain ⟨x, hx⟩ := hx
          exact ⟨_, _, cp x, rfl, rfl, (aE (n := 4) (by decide)), hx, hN _ _ _ ⟨_, u++[x], rfl, (dq _ _), by rw [List.length_append, hu'];rfl, F13, b11.trans b13⟩⟩
        rintro ys σ H11 l ⟨v, u, rfl, rfl, hu', F11, b11⟩ hl
        refine ⟨_, l, u.map fun x => toS [x], rfl, rfl, SqL.of (by rw [ae, eC]), du _ (by omega), ?_⟩
        rw [dr]
        have t12 := aA.new (o := .lst (gE u)) hl
        have f12 := t12 _ _ (b11 _ _ nwd fW)
        have F12 := F11.new (o := .lst (gE u)) hl
        have b12 : aQ d H (upd H11 l (.lst (gE u))) := (bW.trans b11).trans t12.b
        generalize upd H11 l (.lst (gE u))=H12 at f12 F12 b12 ⊢
        refine ⟨wd, _, _, rfl, rfl, f12, (by rw [List.length_map];omega), ?_⟩
        have eW3 : W2.map tx++[tx u]=(W2++[u]).map tx := by rw [List.map_append];rfl
        have une : u≠[] := fun z0 => by rw [z0] at hu';simp at hu';omega
        have F13 := jv (o := .lst ((W2++[u]).map tx)) F12 f12 nwd
        have b13 : aQ d H (upd H12 wd (.lst ((W2++[u]).map tx))) := fun b o n q => by
          rw [ak (fun z0 => hwdH o (by rw [← z0];exact q))]
          exact b12 b o n q
        show o5 _ _ _ _ (upd H12 wd (.lst (W2.map tx++[tx u])))
        rw [eW3]
        have fW3 : (upd H12 wd (.lst ((W2++[u]).map tx))) wd=some (.lst ((W2++[u]).map tx)) := ae
        have wwne3 : []∉W2++[u] := fun hm => by
          rcases List.mem_append.mp hm with q | q
          · exact wwne q
          · exact une (List.mem_singleton.mp q).symm
        have wwl4 : (W2++[u]).length≤100 := by rw [List.length_append, List.length_singleton];omega
        have www3 : ∀ w∈W2++[u], w.length≤8 := fun w hw => by
          rcases List.mem_append.mp hw with q | q
          · exact www w q
          · rw [List.mem_singleton.mp q];omega
        clear fW bW wwne wwl www
        have fW := fW3
        have bW := b13
        have wwne := wwne3
        have wwl := wwl4
        have www := www3
        generalize upd H12 wd (.lst ((W2++[u]).map tx))=H14 at F13 bW fW ⊢
        generalize W2++[u]=W3 at wwne wwl www fW
        refine ⟨_, rfl, _, rfl, d, _, rfl, F13, by decide, by decide, fun r9 HA r90 r91 FA bA => ⟨_, _, rfl, rfl, ?_⟩⟩
        obtain ⟨N, hN⟩ : ∃ N : Nat, (z : Int)+r9=(N : Int) := ⟨((z : Int)+r9).toNat, by omega⟩
        rw [hN]
        have faA := bA _ _ nwd fW
        refine ⟨_, rfl, _, rfl, _, rfl, _, rfl, _, rfl, _, rfl, 2, 7, N, wd, W3, rfl, by decide, by decide, by decide, by decide, faA, wwne, wwl, (fun w hw => www w hw), by omega, by decide, fun e HB he fe sB => ?_⟩
        exact ⟨2, N, wd, e, W3, rfl, by decide, by decide, sB _ _ faA, fe, wwne, wwl, (fun w hw => by have := www w hw;omega), by omega, fun HC sC => k HC ((FA.same sB).same sC) ((bW.trans bA).trans fun b o _ q => sC _ _ (sB _ _ q))⟩
end
end Kx
set_option Elab.async false
set_option linter.all false
set_option maxRecDepth 100000
set_option maxHeartbeats 0
namespace Kx
open PySem PySem.Spec PyProof.Rows L2 Wd
inductive jC (K : PySem.W.Frag)(vs : List V)(H : Hp)(Q : VK)(u3_ : XK) : Prop
  | mk : ∀ (a : Addr) (ns : List Int), (vs=[.ref a]) → (SqL K H a (ns.map V.int)) → (ns.length≤63) → (∀ H', Q (.bl true) H') → jC K vs H Q u3_
section
variable {P : Program} {w : World} {K : PySem.W.Frag} {mg : Str → Option Value} {base : Heap} {aB : Addr}
theorem gT (m : Nat) : L2.gc (toS (smN m))=((smN m).map fun x => [x]).map tx := by
  unfold L2.gc
  rw [bj, List.map_map, List.map_map]
  rfl
theorem ml : (∀ m, 1≤m → m≤2 → upN (sgN m).length 4≤100000) ∧ ∀ m, 3≤m → m≤6 → upN (sgN m).length 1≤100000 :=
  ⟨fun m h1 h2 => by have : m=1 ∨ m=2 := by omega
                     rcases this with rfl | rfl <;> decide, fun m h1 h2 => by
                     have : m=3 ∨ m=4 ∨ m=5 ∨ m=6 := by omega
                     rcases this with rfl | rfl | rfl | rfl <;> decide⟩
abbrev fD : Stmt := top 21
theorem nR : aI ["_law_script", "_law_feed_here", "_law_many", "_law_words_here", "_law_most"] ["_law_script"] (aj fD) := ⟨rfl, rfl, rfl, by decide +kernel, rfl, by decide +kernel, by decide +kernel⟩
theorem o4 {f : Addr}{fd : FuncData}(D : Fun K "law" "law" fD f fd)(T : Bt K w mg aB)(F_feed : Fnc P w K mg base "_law_feed" ["_law_script"] 1 (iY K))(F_draw : Fnc P w K mg base "_law_draw" ["_law_feed_here", "_law_many"] 1 d4)
    (F_words : Fnc P w K mg base "_law_words" ["_law_feed_here", "_law_many", "_law_count", "_law_size"] 3 eK) (F_counts : Fnc P w K mg base "_law_counts" ["_law_many", "_law_words_here", "_law_keep", "_law_most"] 2 cX) (F_right : Fnc P w K mg base "_law_right" ["_law_many", "_law_words_here", "_law_most", "_law_due"] 5 cx) (F_long : Fnc P w K mg base "_law_long_right" ["_law_feed_here"] 6 jB) : jD P w K mg base CX0 9 f fd ["_law_script"] (jC K) := by
  have sc := nR
  refine D.ok sc (fun vs H Q E h => ?_) (fun cdv A outer s H vs Q E hr h => ?_)
  · obtain ⟨a, ns, rfl, _⟩ := h
    rfl
  · obtain ⟨a, ns, rfl, hS, hlen, k⟩ := h
    have l16 := bo
    refine ⟨_, (@af _ _ _ _ _ (@aq _ _ (1) _ _ _ _ sc.nd rfl (Or.inl rfl) (@aC _ _ _ _ _ _ _ _ _ _ _ F_feed hr (by decide) rfl (@aa _ _ _ _ _ (pv 0) ag (by rfl)) (by decide) (by rfl) (by rfl)) (by rfl) (by first | exact .inl rfl | exact .inr rfl | assumption)) (@af _ _ _ _ _ (@aq _ _ (2) _ _ _ _ sc.nd rfl (Or.inl rfl) (@av _ _ _ _ _ _ _ _ bf ah (@aC _ _ _ _ _ _ _ _ _ _ _ F_draw hr (by decide) rfl (@aa _ _ _ _ _ (pv 1) (@aa _ _ _ _ _ ah ag (by rfl)) (by rfl)) (by decide) (by rfl) (by rfl))) (by rfl) (by first | exact .inl rfl | exact .inr rfl | assumption)) (@af _ _ _ _ _ (@aq _ _ (3) _ _ _ _ sc.nd rfl (Or.inl rfl) (@aC _ _ _ _ _ _ _ _ _ _ _ F_words hr (by decide) rfl (@aa _ _ _ _ _ (pv 1) (@aa _ _ _ _ _ (pv 2) (@aa _ _ _ _ _ ah (@aa _ _ _ _ _ ah ag (by rfl)) (by rfl)) (by rfl)) (by rfl)) (by decide) (by rfl) (by rfl)) (by rfl) (by first | exact .inl rfl | exact .inr rfl | assumption)) (@af _ _ _ _ _ (@aq _ _ (4) _ _ _ _ sc.nd rfl (Or.inl rfl) (@aC _ _ _ _ _ _ _ _ _ _ _ F_draw hr (by decide) rfl (@aa _ _ _ _ _ (pv 1) (@aa _ _ _ _ _ ah ag (by rfl)) (by rfl)) (by decide) (by rfl) (by rfl)) (by rfl) (by first | exact .inl rfl | exact .inr rfl | assumption)) (@af _ _ _ _ _ (@cY _ _ _ _ _ _ _ _ (@gm _ _ _ _ (@cO _ _ _ (@aC _ _ _ _ _ _ _ _ _ _ _ F_right hr (by decide) rfl (@aa _ _ _ _ _ (pv 2) (@aa _ _ _ _ _ (pv 3) (@aa _ _ _ _ _ (pv 4) (@aa _ _ _ _ _ (@aC _ _ _ _ _ _ _ _ _ _ _ F_counts hr (by decide) rfl (@aa _ _ _ _ _ (pv 2) (@aa _ _ _ _ _ (pv 3) (@aa _ _ _ _ _ ah (@aa _ _ _ _ _ (pv 4) ag (by rfl)) (by rfl)) (by rfl)) (by rfl)) (by decide) (by rfl) (by rfl)) ag (by rfl)) (by rfl)) (by rfl)) (by rfl)) (by decide) (by rfl) (by rfl)) (fun _ => rfl))) (@ao _ _ _ (@aP _ _ _ _ ib)) bc) (@af _ _ _ _ _ (@aq _ _ (2) _ _ _ _ sc.nd rfl (Or.inl rfl) (@av _ _ _ _ _ _ _ _ bf ah (@aC _ _ _ _ _ _ _ _ _ _ _ F_draw hr (by decide) rfl (@aa _ _ _ _ _ (pv 1) (@aa _ _ _ _ _ ah ag (by rfl)) (by rfl)) (by decide) (by rfl) (by rfl))) (by rfl) (by first | exact .inl rfl | exact .inr rfl | assumption)) (@af _ _ _ _ _ (@aq _ _ (3) _ _ _ _ sc.nd rfl (Or.inl rfl) (@aC _ _ _ _ _ _ _ _ _ _ _ F_words hr (by decide) rfl (@aa _ _ _ _ _ (pv 1) (@aa _ _ _ _ _ (pv 2) (@aa _ _ _ _ _ ah (@aa _ _ _ _ _ ah ag (by rfl)) (by rfl)) (by rfl)) (by rfl)) (by decide) (by rfl) (by rfl)) (by rfl) (by first | exact .inl rfl | exact .inr rfl | assumption)) (@af _ _ _ _ _ (@aq _ _ (4) _ _ _ _ sc.nd rfl (Or.inl rfl) (@ed _ _ _ _ _ _ _ cE (@bq _ _ _ _ (@aa _ _ _ _ _ ah (@aa _ _ _ _ _ ah (@aa _ _ _ _ _ (@aC _ _ _ _ _ _ _ _ _ _ _ F_draw hr (by decide) rfl (@aa _ _ _ _ _ (pv 1) (@aa _ _ _ _ _ ah ag (by rfl)) (by rfl)) (by decide) (by rfl) (by rfl)) ag (by rfl)) (by rfl)) (by rfl))) (@aC _ _ _ _ _ _ _ _ _ _ _ F_draw hr (by decide) rfl (@aa _ _ _ _ _ (pv 1) (@aa _ _ _ _ _ ah ag (by rfl)) (by rfl)) (by decide) (by rfl) (by rfl)) (fun _ _ => rfl)) (by rfl) (by first | exact .inl rfl | exact .inr rfl | assumption)) (@af _ _ _ _ _ (@cY _ _ _ _ _ _ _ _ (@gm _ _ _ _ (@cO _ _ _ (@aC _ _ _ _ _ _ _ _ _ _ _ F_right hr (by decide) rfl (@aa _ _ _ _ _ (pv 2) (@aa _ _ _ _ _ (pv 3) (@aa _ _ _ _ _ (pv 4) (@aa _ _ _ _ _ (@aC _ _ _ _ _ _ _ _ _ _ _ F_counts hr (by decide) rfl (@aa _ _ _ _ _ (pv 2) (@aa _ _ _ _ _ (pv 3) (@aa _ _ _ _ _ ah (@aa _ _ _ _ _ (pv 4) ag (by rfl)) (by rfl)) (by rfl)) (by rfl)) (by decide) (by rfl) (by rfl)) ag (by rfl)) (by rfl)) (by rfl)) (by rfl)) (by decide) (by rfl) (by rfl)) (fun _ => rfl))) (@ao _ _ _ (@aP _ _ _ _ ib)) bc) (@af _ _ _ _ _ (@cY _ _ _ _ _ _ _ _ (@gm _ _ _ _ (@cO _ _ _ (@aC _ _ _ _ _ _ _ _ _ _ _ F_long hr (by decide) rfl (@aa _ _ _ _ _ (pv 1) ag (by rfl)) (by decide) (by rfl) (by rfl)) (fun _ => rfl))) (@ao _ _ _ (@aP _ _ _ _ ib)) bc) (@ao _ _ _ (@aP _ _ _ _ (@aC _ _ _ _ _ _ _ _ _ _ _ F_right hr (by decide) rfl (@aa _ _ _ _ _ (pv 2) (@aa _ _ _ _ _ (@bx _ _ _ _ _ _ _ _ _ (@bV _ rfl) (by rfl) T.list e9 (@aa _ _ _ _ _ (@aw _ _ _ _ _ _ _ _ _ _ aX ar aJ (@aK _ _ _ (pv 2))) ag (by rfl)) (by decide) (by decide) (by rfl) (by rfl)) (@aa _ _ _ _ _ ah (@aa _ _ _ _ _ (@aC _ _ _ _ _ _ _ _ _ _ _ F_counts hr (by decide) rfl (@aa _ _ _ _ _ (pv 2) (@aa _ _ _ _ _ (@bx _ _ _ _ _ _ _ _ _ (@bV _ rfl) (by rfl) T.list e9 (@aa _ _ _ _ _ (@aw _ _ _ _ _ _ _ _ _ _ aX ar aJ (@aK _ _ _ (pv 2))) ag (by rfl)) (by decide) (by decide) (by rfl) (by rfl)) (@aa _ _ _ _ _ ah (@aa _ _ _ _ _ ah ag (by rfl)) (by rfl)) (by rfl)) (by rfl)) (by decide) (by rfl) (by rfl)) ag (by rfl)) (by rfl)) (by rfl)) (by rfl)) (by decide) (by rfl) (by rfl)))))))))))))), ?_⟩
    refine ⟨_, rfl, a, ns, rfl, hS, hlen, fun d H1 _ F1 _ => ?_⟩
    refine ⟨_, rfl, d, _, rfl, F1, by decide, by decide, fun r1 H2 r10 r11 F2 _ => ⟨_, _, rfl, rfl, ?_⟩⟩
    obtain ⟨m, hm⟩ : ∃ m : Nat, 1+r1=(m : Int) := ⟨(1+r1).toNat, by omega⟩
    rw [hm]
    refine ⟨_, rfl, _, rfl, d, m, 8, 5, rfl, F2, by omega, by omega, by decide, by decide, by decide, fun wa W H3 hw fw wne wl ww F3 b3 => ?_⟩
    have nwd : wa≠d := F2.ne hw
    refine ⟨_, rfl, d, _, rfl, F3, by decide, by decide, fun r2 H4 r20 r21 F4 b4 => ?_⟩
    obtain ⟨N, hN⟩ := Int.eq_ofNat_of_zero_le r20
    have fw4 := b4 _ _ nwd fw
    rw [hN]
    refine ⟨_, rfl, _, rfl, _, rfl, _, rfl, _, rfl, _, rfl, m, 4, N, wa, W, rfl, by omega, by omega, by decide, by decide, fw4, wne, by omega, (fun w hw => ww w hw), by omega, ml.1 m (by omega) (by omega), fun e H5 he fe s5 => ?_⟩
    refine ⟨m, N, wa, e, W, rfl, by omega, by omega, s5 _ _ fw4, fe, wne, by omega, (fun w hw => by have := ww w hw;omega), by omega, fun H6 s6 => ⟨_, rfl, nk2 (b := true) (i7 ?_)⟩⟩
    have F6 := (F4.same s5).same s6
    clear hm fw4 fe s5 s6 F4 F3 F2 F1 b3 b4
    refine ⟨_, rfl, d, _, rfl, F6, by decide, by decide, fun r3 H7 r30 r31 F7 _ => ⟨_, _, rfl, rfl, ?_⟩⟩
    obtain ⟨m, hm⟩ : ∃ m : Nat, 3+r3=(m : Int) := ⟨(3+r3).toNat, by omega⟩
    rw [hm]
    refine ⟨_, rfl, _, rfl, d, m, 40, 2, rfl, F7, by omega, by omega, by decide, by decide, by decide, fun wa W H8 hw fw wne wl ww F8 b8 => ?_⟩
    have nwd : wa≠d := F7.ne hw
    refine ⟨_, rfl, d, _, rfl, F8, by decide, by decide, fun r4 H9 r40 r41 F9 b9 => ?_⟩
    refine ⟨(aE (n := 3) (by decide)), fun q hq => ?_⟩
    have fw9 := b9 _ _ nwd fw
    have t10 := aA.new (o := .lst [V.int 0, V.int 60, V.int r4]) hq
    have F10 := F9.same t10
    have fw10 := t10 _ _ fw9
    have f10 : (upd H9 q (.lst [V.int 0, V.int 60, V.int r4])) q=some (.lst [V.int 0, V.int 60, V.int r4]) := ae
    have nqd : q≠d := F9.ne hq
    generalize upd H9 q (.lst [V.int 0, V.int 60, V.int r4])=H10 at F10 fw10 f10 ⊢
    refine ⟨_, rfl, d, _, rfl, F10, by decide, by decide, fun r5 H11 r50 r51 F11 b11 => ?_⟩
    have fw11 := b11 _ _ nwd fw10
    obtain ⟨N, hN, hat⟩ : ∃ N : Nat, N≤60 ∧ atI [V.int 0, V.int 60, V.int r4] r5=some (.int (N : Int)) := by
      have : r5=0 ∨ r5=1 ∨ r5=2 := by omega
      obtain ⟨q4, hq4⟩ := Int.eq_ofNat_of_zero_le r40
      rcases this with rfl | rfl | rfl
      · exact ⟨0, by omega, bG (j := 0) rfl⟩
      · exact ⟨60, by omega, bG (j := 1) rfl⟩
      · exact ⟨q4, by omega, by rw [← hq4];exact bG (j := 2) rfl⟩
    refine ⟨q, _, _, _, rfl, rfl, SqL.of (b11 _ _ nqd f10), hat, ?_⟩
    refine ⟨_, rfl, _, rfl, _, rfl, _, rfl, _, rfl, _, rfl, m, 1, N, wa, W, rfl, by omega, by omega, by decide, by decide, fw11, wne, by omega, (fun w hw => ww w hw), by omega, ml.2 m (by omega) (by omega), fun e H12 he fe s12 => ?_⟩
    refine ⟨m, N, wa, e, W, rfl, by omega, by omega, s12 _ _ fw11, fe, wne, by omega, (fun w hw => by have := ww w hw;omega), by omega, fun H13 s13 => ⟨_, rfl, nk2 (b := true) (i7 ?_)⟩⟩
    have F13 := (F11.same s12).same s13
    refine ⟨_, rfl, d, rfl, F13, fun H14 F14 b14 => ⟨_, rfl, nk2 (b := true) (i7 ?_)⟩⟩
    have smp : 0 < (smN m).length := by unfold smN;rw [List.length_take];show 0 < min m 6;omega
    have sm6 := dG m
    have lsm := ai (smN m)
    have w1 : []∉(smN m).map fun x => [x] := fun hm => by
      obtain ⟨x, _, q⟩ := List.mem_map.mp hm
      cases q
    have w2 : ∀ w∈(smN m).map fun x => [x], w.length≤1+1 := fun w hw => by
      obtain ⟨x, _, rfl⟩ := List.mem_map.mp hw
      show 1≤2
      omega
    have w3 : ((smN m).map fun x => [x]).length≤100 := by rw [List.length_map];omega
    refine ⟨_, rfl, _, rfl, _, rfl, _, rfl, (aE (n := 6) (by decide)), ?_⟩
    rw [cW]
    refine ⟨toS (smN m), rfl, by omega, fun p hp => ?_⟩
    rw [gT]
    have fp : (upd H14 p (.lst (((smN m).map fun x => [x]).map tx))) p=some (.lst (((smN m).map fun x => [x]).map tx)) := ae
    generalize upd H14 p (.lst (((smN m).map fun x => [x]).map tx))=H15 at fp ⊢
    refine ⟨_, rfl, _, rfl, _, rfl, _, rfl, (aE (n := 6) (by decide)), ?_⟩
    rw [cW]
    refine ⟨toS (smN m), rfl, by omega, fun p2 hp2 => ?_⟩
    rw [gT]
    have t16 := aA.new (o := .lst (((smN m).map fun x => [x]).map tx)) hp2
    have fp2 : (upd H15 p2 (.lst (((smN m).map fun x => [x]).map tx))) p2=some (.lst (((smN m).map fun x => [x]).map tx)) := ae
    have fp16 := t16 _ _ fp
    generalize upd H15 p2 (.lst (((smN m).map fun x => [x]).map tx))=H16 at fp2 fp16 ⊢
    refine ⟨m, 1, 3, p2, _, rfl, by omega, by omega, by decide, by decide, fp2, w1, w3, w2, by decide, ml.2 m (by omega) (by omega), fun e H17 he fe s17 => ?_⟩
    exact ⟨m, 3, p, e, _, rfl, by omega, by omega, s17 _ _ fp16, fe, w1, w3, (fun w hw => by have := w2 w hw;omega), by decide, fun H18 _ => k H18⟩
end
end Kx
set_option Elab.async false
set_option linter.all false
set_option maxRecDepth 100000
set_option maxHeartbeats 0
noncomputable section
def fu:=@PySem.W.mg_none_of
def qd:=@PySem.W.mg_of
def qe:=@trivial
namespace Kx
open PySem PySem.Spec PyProof.Rows L2 Wd
theorem cn {K : PySem.W.Frag}{h : Heap}{mg : Str → Option Value}{x : Str}{st : Stmt}{f : Addr}{oc : Value}{od an : Option Addr}{osl : Array (Option Value)}{kV doc pm cdv ct : Value}(X : K.In h)(G : h.Ns mainGlobals mg)(a : PySem.W.nsIn K mainGlobals x=some (some (.ref f)))
    (l : K.lookup f=some ⟨oc, od, .func (PySem.W.fnOf x x (az st) (au st) (aj st) .none kV doc pm an cdv ct), osl⟩) (c : PySem.W.codeIn K cdv x=true) (k : PySem.W.keepIn K (.ref f)=true) : Df K mg x st := ⟨f, _, qd X G a, kE l c k⟩
theorem nS {l : PySem.W.OpenLaw}{w : World}{K : PySem.W.Frag}{h : Heap}{mg : Str → Option Value}{fa : Addr}(X : K.In h)(G : h.Ns mainGlobals mg)(hfa : mg "law" = some (.ref fa))
    {f0 : Addr} {od0 an0 : Option Addr} {sl0 : Array (Option Value)} {oc0 kV0 dc0 pm0 cd0 ct0 : Value} {f1 : Addr} {od1 an1 : Option Addr} {sl1 : Array (Option Value)} {oc1 kV1 dc1 pm1 cd1 ct1 : Value} {f2 : Addr} {od2 an2 : Option Addr} {sl2 : Array (Option Value)} {oc2 kV2 dc2 pm2 cd2 ct2 : Value} {f3 : Addr} {od3 an3 : Option Addr} {sl3 : Array (Option Value)} {oc3 kV3 dc3 pm3 cd3 ct3 : Value} {f4 : Addr} {od4 an4 : Option Addr} {sl4 : Array (Option Value)} {oc4 kV4 dc4 pm4 cd4 ct4 : Value} {f5 : Addr} {od5 an5 : Option Addr} {sl5 : Array (Option Value)} {oc5 kV5 dc5 pm5 cd5 ct5 : Value} {f6 : Addr} {od6 an6 : Option Addr} {sl6 : Array (Option Value)} {oc6 kV6 dc6 pm6 cd6 ct6 : Value} {f7 : Addr} {od7 an7 : Option Addr} {sl7 : Array (Option Value)} {oc7 kV7 dc7 pm7 cd7 ct7 : Value} {f8 : Addr} {od8 an8 : Option Addr} {sl8 : Array (Option Value)} {oc8 kV8 dc8 pm8 cd8 ct8 : Value} {f9 : Addr} {od9 an9 : Option Addr} {sl9 : Array (Option Value)} {oc9 kV9 dc9 pm9 cd9 ct9 : Value} {f10 : Addr} {od10 an10 : Option Addr} {sl10 : Array (Option Value)} {oc10 kV10 dc10 pm10 cd10 ct10 : Value} {f11 : Addr} {od11 an11 : Option Addr} {sl11 : Array (Option Value)} {oc11 kV11 dc11 pm11 cd11 ct11 : Value} {f12 : Addr} {od12 an12 : Option Addr} {sl12 : Array (Option Value)} {oc12 kV12 dc12 pm12 cd12 ct12 : Value} {f13 : Addr} {od13 an13 : Option Addr} {sl13 : Array (Option Value)} {oc13 kV13 dc13 pm13 cd13 ct13 : Value} {f14 : Addr} {od14 an14 : Option Addr} {sl14 : Array (Option Value)} {oc14 kV14 dc14 pm14 cd14 ct14 : Value} {f15 : Addr} {od15 an15 : Option Addr} {sl15 : Array (Option Value)} {oc15 kV15 dc15 pm15 cd15 ct15 : Value} {aB : Addr} {es : Array DictEntry} {en : Nat} {tS : Tok}   {t0 t1 t2 t3 t4 t5 t6 t7 t8 t9 t10 t11 : Tok}
    (a0 : PySem.W.nsIn K mainGlobals "back" = some (some (.ref f0)))
    (l0 : K.lookup f0=some ⟨oc0, od0, .func (PySem.W.fnOf "back" "back" (az fz) (au fz) (aj fz) .none kV0 dc0 pm0 an0 cd0 ct0), sl0⟩)
    (c0 : PySem.W.codeIn K cd0 "back" = true)
    (k0 : PySem.W.keepIn K (.ref f0)=true)
    (a1 : PySem.W.nsIn K mainGlobals "followed" = some (some (.ref f1)))
    (l1 : K.lookup f1=some ⟨oc1, od1, .func (PySem.W.fnOf "followed" "followed" (az jz) (au jz) (aj jz) .none kV1 dc1 pm1 an1 cd1 ct1), sl1⟩)
    (c1 : PySem.W.codeIn K cd1 "followed" = true)
    (k1 : PySem.W.keepIn K (.ref f1)=true)
    (a2 : PySem.W.nsIn K mainGlobals "beginnings" = some (some (.ref f2)))
    (l2 : K.lookup f2=some ⟨oc2, od2, .func (PySem.W.fnOf "beginnings" "beginnings" (az fA) (au fA) (aj fA) .none kV2 dc2 pm2 an2 cd2 ct2), sl2⟩)
    (c2 : PySem.W.codeIn K cd2 "beginnings" = true)
    (k2 : PySem.W.keepIn K (.ref f2)=true)
    (a3 : PySem.W.nsIn K mainGlobals "states_behind" = some (some (.ref f3)))
    (l3 : K.lookup f3=some ⟨oc3, od3, .func (PySem.W.fnOf "states_behind" "states_behind" (az cy) (au cy) (aj cy) .none kV3 dc3 pm3 an3 cd3 ct3), sl3⟩)
    (c3 : PySem.W.codeIn K cd3 "states_behind" = true)
    (k3 : PySem.W.keepIn K (.ref f3)=true)
    (a4 : PySem.W.nsIn K mainGlobals "longest_end" = some (some (.ref f4)))
    (l4 : K.lookup f4=some ⟨oc4, od4, .func (PySem.W.fnOf "longest_end" "longest_end" (az bX) (au bX) (aj bX) .none kV4 dc4 pm4 an4 cd4 ct4), sl4⟩)
    (c4 : PySem.W.codeIn K cd4 "longest_end" = true)
    (k4 : PySem.W.keepIn K (.ref f4)=true)
    (a5 : PySem.W.nsIn K mainGlobals "avoiding" = some (some (.ref f5)))
    (l5 : K.lookup f5=some ⟨oc5, od5, .func (PySem.W.fnOf "avoiding" "avoiding" (az dJ) (au dJ) (aj dJ) .none kV5 dc5 pm5 an5 cd5 ct5), sl5⟩)
    (c5 : PySem.W.codeIn K cd5 "avoiding" = true)
    (k5 : PySem.W.keepIn K (.ref f5)=true)
    (a6 : PySem.W.nsIn K mainGlobals "one_letter_on" = some (some (.ref f6)))
    (l6 : K.lookup f6=some ⟨oc6, od6, .func (PySem.W.fnOf "one_letter_on" "one_letter_on" (az nO) (au nO) (aj nO) .none kV6 dc6 pm6 an6 cd6 ct6), sl6⟩)
    (c6 : PySem.W.codeIn K cd6 "one_letter_on" = true)
    (k6 : PySem.W.keepIn K (.ref f6)=true)
    (a7 : PySem.W.nsIn K mainGlobals "_law_feed" = some (some (.ref f7)))
    (l7 : K.lookup f7=some ⟨oc7, od7, .func (PySem.W.fnOf "_law_feed" "_law_feed" (az ft) (au ft) (aj ft) .none kV7 dc7 pm7 an7 cd7 ct7), sl7⟩)
    (c7 : PySem.W.codeIn K cd7 "_law_feed" = true)
    (k7 : PySem.W.keepIn K (.ref f7)=true)
    (a8 : PySem.W.nsIn K mainGlobals "_law_draw" = some (some (.ref f8)))
    (l8 : K.lookup f8=some ⟨oc8, od8, .func (PySem.W.fnOf "_law_draw" "_law_draw" (az fq) (au fq) (aj fq) .none kV8 dc8 pm8 an8 cd8 ct8), sl8⟩)
    (c8 : PySem.W.codeIn K cd8 "_law_draw" = true)
    (k8 : PySem.W.keepIn K (.ref f8)=true)
    (a9 : PySem.W.nsIn K mainGlobals "_law_back" = some (some (.ref f9)))
    (l9 : K.lookup f9=some ⟨oc9, od9, .func (PySem.W.fnOf "_law_back" "_law_back" (az dI) (au dI) (aj dI) .none kV9 dc9 pm9 an9 cd9 ct9), sl9⟩)
    (c9 : PySem.W.codeIn K cd9 "_law_back" = true)
    (k9 : PySem.W.keepIn K (.ref f9)=true)
    (a10 : PySem.W.nsIn K mainGlobals "_law_some" = some (some (.ref f10)))
    (l10 : K.lookup f10=some ⟨oc10, od10, .func (PySem.W.fnOf "_law_some" "_law_some" (az fB) (au fB) (aj fB) .none kV10 dc10 pm10 an10 cd10 ct10), sl10⟩)
    (c10 : PySem.W.codeIn K cd10 "_law_some" = true)
    (k10 : PySem.W.keepIn K (.ref f10)=true)
    (a11 : PySem.W.nsIn K mainGlobals "_law_counts" = some (some (.ref f11)))
    (l11 : K.lookup f11=some ⟨oc11, od11, .func (PySem.W.fnOf "_law_counts" "_law_counts" (az cz) (au cz) (aj cz) .none kV11 dc11 pm11 an11 cd11 ct11), sl11⟩)
    (c11 : PySem.W.codeIn K cd11 "_law_counts" = true)
    (k11 : PySem.W.keepIn K (.ref f11)=true)
    (a12 : PySem.W.nsIn K mainGlobals "_law_words" = some (some (.ref f12)))
    (l12 : K.lookup f12=some ⟨oc12, od12, .func (PySem.W.fnOf "_law_words" "_law_words" (az dN) (au dN) (aj dN) .none kV12 dc12 pm12 an12 cd12 ct12), sl12⟩)
    (c12 : PySem.W.codeIn K cd12 "_law_words" = true)
    (k12 : PySem.W.keepIn K (.ref f12)=true)
    (a13 : PySem.W.nsIn K mainGlobals "_law_right" = some (some (.ref f13)))
    (l13 : K.lookup f13=some ⟨oc13, od13, .func (PySem.W.fnOf "_law_right" "_law_right" (az dM) (au dM) (aj dM) .none kV13 dc13 pm13 an13 cd13 ct13), sl13⟩)
    (c13 : PySem.W.codeIn K cd13 "_law_right" = true)
    (k13 : PySem.W.keepIn K (.ref f13)=true)
    (a14 : PySem.W.nsIn K mainGlobals "_law_long_right" = some (some (.ref f14)))
    (l14 : K.lookup f14=some ⟨oc14, od14, .func (PySem.W.fnOf "_law_long_right" "_law_long_right" (az fC) (au fC) (aj fC) .none kV14 dc14 pm14 an14 cd14 ct14), sl14⟩)
    (c14 : PySem.W.codeIn K cd14 "_law_long_right" = true)
    (k14 : PySem.W.keepIn K (.ref f14)=true)
    (a15 : PySem.W.nsIn K mainGlobals "law" = some (some (.ref f15)))
    (l15 : K.lookup f15=some ⟨oc15, od15, .func (PySem.W.fnOf "law" "law" (az fD) (au fD) (aj fD) .none kV15 dc15 pm15 an15 cd15 ct15), sl15⟩)
    (c15 : PySem.W.codeIn K cd15 "law" = true)
    (k15 : PySem.W.keepIn K (.ref f15)=true)
    (z_len : PySem.W.nsIn K mainGlobals "len" = some none)
    (z_repr : PySem.W.nsIn K mainGlobals "repr" = some none)
    (z_abs : PySem.W.nsIn K mainGlobals "abs" = some none)
    (z_max : PySem.W.nsIn K mainGlobals "max" = some none)
    (z_int : PySem.W.nsIn K mainGlobals "int" = some none)
    (z_list : PySem.W.nsIn K mainGlobals "list" = some none)
    (z_range : PySem.W.nsIn K mainGlobals "range" = some none)
    (z_reversed : PySem.W.nsIn K mainGlobals "reversed" = some none)
    (z_min : PySem.W.nsIn K mainGlobals "min" = some none)
    (z_sorted : PySem.W.nsIn K mainGlobals "sorted" = some none)
    (z_tuple : PySem.W.nsIn K mainGlobals "tuple" = some none)
    (z_isinstance : PySem.W.nsIn K mainGlobals "isinstance" = some none)
    (z_all : PySem.W.nsIn K mainGlobals "all" = some none)
    (z_str : PySem.W.nsIn K mainGlobals "str" = some none)
    (z_zip : PySem.W.nsIn K mainGlobals "zip" = some none)
    (aBk : PySem.W.nsIn K mainGlobals "BACKS" = some (some (.ref aB)))
    (lB : K.lookup aB=some ⟨.type "dict", none, .dict es en, #[]⟩)
    (kB : PySem.W.KeysLit w.params es.toList)
    (aS : PySem.W.nsIn K mainGlobals "SMALL" = some (some (.str "abcdef" tS)))
    (zU : PySem.W.nsIn K mainGlobals "sum" = some none)
    (zA : PySem.W.nsIn K mainGlobals "any" = some none)
    (gl0 : PySem.W.nsIn K aB "a" = some (some (.str "A" t0)))
    (gl1 : PySem.W.nsIn K aB "b" = some (some (.str "B" t1)))
    (gl2 : PySem.W.nsIn K aB "c" = some (some (.str "C" t2)))
    (gl3 : PySem.W.nsIn K aB "d" = some (some (.str "D" t3)))
    (gl4 : PySem.W.nsIn K aB "e" = some (some (.str "E" t4)))
    (gl5 : PySem.W.nsIn K aB "f" = some (some (.str "F" t5)))
    (gl6 : PySem.W.nsIn K aB "A" = some (some (.str "a" t6)))
    (gl7 : PySem.W.nsIn K aB "B" = some (some (.str "b" t7)))
    (gl8 : PySem.W.nsIn K aB "C" = some (some (.str "c" t8)))
    (gl9 : PySem.W.nsIn K aB "D" = some (some (.str "d" t9)))
    (gl10 : PySem.W.nsIn K aB "E" = some (some (.str "e" t10)))
    (gl11 : PySem.W.nsIn K aB "F" = some (some (.str "f" t11))) :
    ∃ fd : FuncData, (∀ (s : Shared) (v : Value), BindsTo s fd ⟨[v], []⟩ [("_law_script", v)]) ∧ ∀ base : Heap, K.In base → base.Ns mainGlobals mg → jD l.prog w K mg base CX0 9 fa fd ["_law_script"] (jC K) := by
  have e := hfa.symm.trans (qd X G a15)
  cases e
  have gB : ∀ x : L, ∃ t, PySem.W.nsIn K aB (toS [x])=some (some (.str (toS [inv x]) t)) := by
    have q : ∀ (x : L) (u v : Str) (t : Tok), PySem.W.nsIn K aB u=some (some (.str v t)) → toS [x]=u → toS [inv x]=v → ∃ t, PySem.W.nsIn K aB (toS [x])=some (some (.str (toS [inv x]) t)) := fun x u v t g e1 e2 => ⟨t, by rw [e1, e2];exact g⟩
    intro x
    match x with
    | ⟨0, _⟩ => exact q 0 "a" "A" _ gl0 (by decide +kernel) (by decide +kernel)
    | ⟨1, _⟩ => exact q 1 "b" "B" _ gl1 (by decide +kernel) (by decide +kernel)
    | ⟨2, _⟩ => exact q 2 "c" "C" _ gl2 (by decide +kernel) (by decide +kernel)
    | ⟨3, _⟩ => exact q 3 "d" "D" _ gl3 (by decide +kernel) (by decide +kernel)
    | ⟨4, _⟩ => exact q 4 "e" "E" _ gl4 (by decide +kernel) (by decide +kernel)
    | ⟨5, _⟩ => exact q 5 "f" "F" _ gl5 (by decide +kernel) (by decide +kernel)
    | ⟨6, _⟩ => exact q 6 "A" "a" _ gl6 (by decide +kernel) (by decide +kernel)
    | ⟨7, _⟩ => exact q 7 "B" "b" _ gl7 (by decide +kernel) (by decide +kernel)
    | ⟨8, _⟩ => exact q 8 "C" "c" _ gl8 (by decide +kernel) (by decide +kernel)
    | ⟨9, _⟩ => exact q 9 "D" "d" _ gl9 (by decide +kernel) (by decide +kernel)
    | ⟨10, _⟩ => exact q 10 "E" "e" _ gl10 (by decide +kernel) (by decide +kernel)
    | ⟨11, _⟩ => exact q 11 "F" "f" _ gl11 (by decide +kernel) (by decide +kernel)
  have T : Bt K w mg aB := ⟨fu X G z_len, fu X G z_repr, fu X G z_abs, fu X G z_max, fu X G z_int, fu X G z_list, fu X G z_range, fu X G z_reversed, fu X G z_min, fu X G z_sorted, fu X G z_tuple, fu X G z_isinstance, fu X G z_all, fu X G z_str, fu X G z_zip, qd X G aBk, ⟨es, en, lB, kB⟩, gB⟩
  have S : ∃ t, mg "SMALL" = some (.str "abcdef" t) := ⟨_, qd X G aS⟩
  have Tsum : mg "sum" = none := fu X G zU
  have Tany : mg "any" = none := fu X G zA
  refine ⟨PySem.W.fnOf "law" "law" (az fD) (au fD) (aj fD) .none kV15 dc15 pm15 an15 cd15 ct15, fun s v => .of_eq rfl, fun base _ _ => ?_⟩
  have F_back := nK (P := l.prog) (w := w) (base := base) (cn X G a0 l0 c0 k0) T
  have F_begs := nM (P := l.prog) (w := w) (base := base) (cn X G a2 l2 c2 k2) T
  have F_longest := jx (P := l.prog) (w := w) (base := base) (cn X G a4 l4 c4 k4) T
  have F_behind := kd (P := l.prog) (w := w) (base := base) (cn X G a3 l3 c3 k3) T S Tany F_back F_longest
  have F_fol := o1 (P := l.prog) (w := w) (base := base) (cn X G a1 l1 c1 k1) T S F_back F_begs F_behind
  have F_on := p8 (P := l.prog) (w := w) (base := base) (cn X G a6 l6 c6 k6) T
  have F_avoid := md (P := l.prog) (w := w) (base := base) (cn X G a5 l5 c5 k5) T Tsum F_fol F_on
  have F_feed := nJ (P := l.prog) (w := w) (base := base) (cn X G a7 l7 c7 k7) T
  have F_draw := nI (P := l.prog) (w := w) (base := base) (cn X G a8 l8 c8 k8) T
  have F_lback := l_ (P := l.prog) (w := w) (base := base) (cn X G a9 l9 c9 k9) 
  have F_some := nP (P := l.prog) (w := w) (base := base) (cn X G a10 l10 c10 k10) T F_draw
  have F_counts := kg (P := l.prog) (w := w) (base := base) (cn X G a11 l11 c11 k11) T Tsum F_lback
  have F_words := mi (P := l.prog) (w := w) (base := base) (cn X G a12 l12 c12 k12) T F_draw F_some
  have F_right := me (P := l.prog) (w := w) (base := base) (cn X G a13 l13 c13 k13) T F_avoid
  have F_long := nQ (P := l.prog) (w := w) (base := base) (cn X G a14 l14 c14 k14) T F_draw F_words F_counts F_right
  exact o4 (kE l15 c15 k15) T F_feed F_draw F_words F_counts F_right F_long
theorem qb {l : PySem.W.OpenLaw}{q : Program}{loose : List Str}{XP : (Str → Option Value) → Heap → Prop}{YP : World → Heap → Prop}{d : DefRec}{K : Params → PySem.W.Frag}(hn : l.most=some 63)(hdf : d.params.defaults=[])
    (hY : ∀ (w : World) (h : Heap), YP w h → (K w.params).In h)
    (F : ∀ (w : World) (mg : Str → Option Value) (fa : Addr) (h : Heap), (K w.params).In h → h.Ns mainGlobals mg → mg d.name=some (.ref fa) →
      ∃ fd : FuncData, (∀ (s : Shared) (u : Value), BindsTo s fd ⟨[u], []⟩ [("_law_script", u)]) ∧ ∀ base : Heap, (K w.params).In base → base.Ns mainGlobals mg → jD l.prog w (K w.params) mg base CX0 9 fa fd ["_law_script"] (jC (K w.params))) :
    PySem.W.WalkO q loose XP YP l.row.toRowW d [] (fun f vs => PySem.call f vs) :=
  L2.iN (n := 63) (k := 9) (x := "_law_script") (CX := fun _ => CX0) (sp := fun w => jC (K w.params)) hn (by decide) hdf ⟨rfl, by decide, by decide, rfl⟩ hY F (fun _ _ a ns hl _ hS => ⟨a, ns, rfl, hS, hl, fun _ => rfl⟩) fun _ _ _ _ _ z => z
end Kx
namespace Kx
open PySem
def nT (s : String) : Str := ⟨⟨PySem.W.R.mapR Char.toNat (PySem.W.S.toListS s)⟩⟩
theorem kj : Str.ofString=nT := by
  funext s
  rw [Str.ofString_eq_toList, PySem.W.S.toListS_eq]
  show _=(⟨⟨PySem.W.R.mapR Char.toNat (PySem.W.S.toListS s)⟩⟩ : Str)
  rw [← PySem.W.R.mapR_eq]
def apG (G : (String → Str) → Program)(x : String → Str) : Program := G x
def Gs : { G : (String → Str) → Program // apG G Str.ofString=PySem.Challenge.pw_ringwords_k74_words_avoided } := by
  refine ⟨?G, ?h⟩
  case h =>
    delta PySem.Challenge.pw_ringwords_k74_words_avoided
    generalize Str.ofString=x
    exact rfl
end Kx
def PySem.W.Fast.tw696383442282098470 : PySem.Program := Kx.Gs.1 Kx.nT
theorem PySem.W.Fast.te696383442282098470 : PySem.Challenge.pw_ringwords_k74_words_avoided=PySem.W.Fast.tw696383442282098470 := Kx.Gs.2.symm.trans (congrArg (Kx.apG Kx.Gs.1) Kx.kj)
theorem PySem.W.Fast.te13461864919193970966 : True := qe
theorem PySem.W.Fast.tw12246455296402155352 : True := qe
theorem PySem.W.Fast.tw6843211288322838137 : True := qe
theorem PySem.W.Fast.tw15622354422057599831 : True := qe
theorem PySem.W.Fast.tw15967921313753693008 : True := qe
theorem PySem.W.Fast.tw15837964257521440572 : True := qe
theorem PySem.W.Fast.tw4384546471993015227 : True := qe
theorem PySem.W.Fast.tw18200649923798542638 : True := qe
open PySem PySem.W PyProof.Rows
set_option maxRecDepth 100000 in
set_option maxHeartbeats 0 in
theorem PySem.Challenge.cw_ringwords_k74_words_avoided_holds : PySem.Challenge.rw_ringwords_k74_words_avoided.Holds := by
  w_on; o_law; k_head; (case hw => w_witness2)
  k_fill
  refine Kx.qb (l := PySem.Challenge.rw_ringwords_k74_words_avoided) rfl rfl (fun w h Y => PySem.W.kIn_of Y) ?F
  case F =>
    intro w mg fa h KX G hmg
    refine' Kx.nS KX G hmg ?a0 ?l0 ?c0 ?k0 ?a1 ?l1 ?c1 ?k1 ?a2 ?l2 ?c2 ?k2 ?a3 ?l3 ?c3 ?k3 ?a4 ?l4 ?c4 ?k4 ?a5 ?l5 ?c5 ?k5 ?a6 ?l6 ?c6 ?k6 ?a7 ?l7 ?c7 ?k7 ?a8 ?l8 ?c8 ?k8 ?a9 ?l9 ?c9 ?k9 ?a10 ?l10 ?c10 ?k10 ?a11 ?l11 ?c11 ?k11 ?a12 ?l12 ?c12 ?k12 ?a13 ?l13 ?c13 ?k13 ?a14 ?l14 ?c14 ?k14 ?a15 ?l15 ?c15 ?k15 ?z_len ?z_repr ?z_abs ?z_max ?z_int ?z_list ?z_range ?z_reversed ?z_min ?z_sorted ?z_tuple ?z_isinstance ?z_all ?z_str ?z_zip ?aBk ?lB ?kB ?aS ?zU ?zA ?gl0 ?gl1 ?gl2 ?gl3 ?gl4 ?gl5 ?gl6 ?gl7 ?gl8 ?gl9 ?gl10 ?gl11
    (case a0 => k_is)
    (case l0 => k_is)
    (case c0 => k_is)
    (case k0 => k_is)
    (case a1 => k_is)
    (case l1 => k_is)
    (case c1 => k_is)
    (case k1 => k_is)
    (case a2 => k_is)
    (case l2 => k_is)
    (case c2 => k_is)
    (case k2 => k_is)
    (case a3 => k_is)
    (case l3 => k_is)
    (case c3 => k_is)
    (case k3 => k_is)
    (case a4 => k_is)
    (case l4 => k_is)
    (case c4 => k_is)
    (case k4 => k_is)
    (case a5 => k_is)
    (case l5 => k_is)
    (case c5 => k_is)
    (case k5 => k_is)
    (case a6 => k_is)
    (case l6 => k_is)
    (case c6 => k_is)
    (case k6 => k_is)
    (case a7 => k_is)
    (case l7 => k_is)
    (case c7 => k_is)
    (case k7 => k_is)
    (case a8 => k_is)
    (case l8 => k_is)
    (case c8 => k_is)
    (case k8 => k_is)
    (case a9 => k_is)
    (case l9 => k_is)
    (case c9 => k_is)
    (case k9 => k_is)
    (case a10 => k_is)
    (case l10 => k_is)
    (case c10 => k_is)
    (case k10 => k_is)
    (case a11 => k_is)
    (case l11 => k_is)
    (case c11 => k_is)
    (case k11 => k_is)
    (case a12 => k_is)
    (case l12 => k_is)
    (case c12 => k_is)
    (case k12 => k_is)
    (case a13 => k_is)
    (case l13 => k_is)
    (case c13 => k_is)
    (case k13 => k_is)
    (case a14 => k_is)
    (case l14 => k_is)
    (case c14 => k_is)
    (case k14 => k_is)
    (case a15 => k_is)
    (case l15 => k_is)
    (case c15 => k_is)
    (case k15 => k_is)
    (case z_len => k_is)
    (case z_repr => k_is)
    (case z_abs => k_is)
    (case z_max => k_is)
    (case z_int => k_is)
    (case z_list => k_is)
    (case z_range => k_is)
    (case z_reversed => k_is)
    (case z_min => k_is)
    (case z_sorted => k_is)
    (case z_tuple => k_is)
    (case z_isinstance => k_is)
    (case z_all => k_is)
    (case z_str => k_is)
    (case z_zip => k_is)
    (case aBk => k_is)
    (case lB => k_is)
    (case kB => exact ⟨⟨_, _, rfl, rfl⟩, ⟨_, _, rfl, rfl⟩, ⟨_, _, rfl, rfl⟩, ⟨_, _, rfl, rfl⟩, ⟨_, _, rfl, rfl⟩, ⟨_, _, rfl, rfl⟩, ⟨_, _, rfl, rfl⟩, ⟨_, _, rfl, rfl⟩, ⟨_, _, rfl, rfl⟩, ⟨_, _, rfl, rfl⟩, ⟨_, _, rfl, rfl⟩, ⟨_, _, rfl, rfl⟩, trivial⟩)
    (case aS => k_is)
    (case zU => k_is)
    (case zA => k_is)
    (case gl0 => k_is)
    (case gl1 => k_is)
    (case gl2 => k_is)
    (case gl3 => k_is)
    (case gl4 => k_is)
    (case gl5 => k_is)
    (case gl6 => k_is)
    (case gl7 => k_is)
    (case gl8 => k_is)
    (case gl9 => k_is)
    (case gl10 => k_is)
    (case gl11 => k_is)
end
