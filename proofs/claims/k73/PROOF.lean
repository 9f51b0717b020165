import PyProof.Rows.All
import Wide.All
import OpenK.AllK
import Wide.FinOn
import Lean
import PyProof.EqAt
import PyProof.EqKinds
import PyProof.TupleCall
import KE.KRevIter
import PyProof.Rows.SortShellK
import PyProof.FString5
import PyProof.NeData
import PyProof.TupleOfStr
import PyProof.IsRules
import PyProof.ListRange
import PyProof.FactsAll.tuple_3
import PyProof.ExcInit
import PyProof.InstStoreFacts
import PyProof.NsDelKeeps
import PyProof.DictWalks
import PyProof.Rows.DictUnroll
import PyProof.Rows.SumAny
import PyProof.AttrMiss
import KE.KDictOf
import PySem.Challenge.RW_ringwords_k73_counts_by_formulas
set_option Elab.async false
set_option linter.all false
set_option maxRecDepth 100000
namespace L2
open PySem PySem.Spec PyProof.Rows
abbrev Key := Sum Int Str
def fA : Key → Value → Bool
  | .inl k, v => Value.isInt k v
  | .inr x, v => Value.isStrOf x v
def nD (w : World) : Key → Int
  | .inl k => hashInt k
  | .inr x => hashStr w x
theorem aC : ∀ {k : Key} {v : Value}, fA k v=true → (∃ i t, k=Sum.inl i ∧ v=Value.int i t) ∨ (∃ x t, k=Sum.inr x ∧ v=Value.str x t)
  | .inl i, v, h => by
    obtain ⟨t, e⟩ := Value.isInt_shape (k := i) (v := v) h
    exact .inl ⟨i, t, rfl, e⟩
  | .inr x, v, h => by
    obtain ⟨t, e⟩ := Value.isStrOf_shape (x := x) (v := v) h
    exact .inr ⟨x, t, rfl, e⟩
theorem fL (i : Int)(t : Tok) : fA (.inl i) (.int i t)=true := by simp [fA, Value.isInt]
theorem fM (x : Str)(t : Tok) : fA (.inr x) (.str x t)=true := by simp [fA, Value.isStrOf]
theorem kc (a b : Int) : decide ((Sum.inl a : Key)=Sum.inl b)=(a == b) := by
  by_cases e : a=b
  · subst e;simp
  · have h : ¬ (Sum.inl a : Key)=Sum.inl b := fun q => e (Sum.inl.inj q)
    rw [decide_eq_false h]
    exact (beq_eq_false_iff_ne.mpr e).symm
theorem kd (a b : Str) : decide ((Sum.inr a : Key)=Sum.inr b)=decide (a=b) := by
  by_cases e : a=b
  · subst e;simp
  · have h : ¬ (Sum.inr a : Key)=Sum.inr b := fun q => e (Sum.inr.inj q)
    rw [decide_eq_false h, decide_eq_false e]
theorem ke (a : Int)(b : Str) : decide ((Sum.inl a : Key)=Sum.inr b)=false := decide_eq_false (fun q => nomatch q)
theorem kf (a : Str)(b : Int) : decide ((Sum.inr a : Key)=Sum.inl b)=false := decide_eq_false (fun q => nomatch q)
def au (prog : Program)(w : World) : PySem.KeyKind prog w Key where
  is := fA
  hash := nD w
  inj := fun v a b ha hb => by
    rcases aC ha with ⟨i, t, rfl, rfl⟩ | ⟨x, t, rfl, rfl⟩
    · rcases aC hb with ⟨j, u, rfl, e⟩ | ⟨y, u, rfl, e⟩
      · injection e with e1 _;rw [e1]
      · exact nomatch e
    · rcases aC hb with ⟨j, u, rfl, e⟩ | ⟨y, u, rfl, e⟩
      · exact nomatch e
      · injection e with e1 _;rw [e1]
  byValue := fun k v h => by
    rcases aC h with ⟨i, t, rfl, rfl⟩ | ⟨x, t, rfl, rfl⟩ <;> rfl
  pyHash := fun hv h => by
    rcases aC hv with ⟨i, t, rfl, rfl⟩ | ⟨x, t, rfl, rfl⟩
    · exact wpAny_pyHash_int h
    · exact wpAny_pyHash_str h
  eqBool := fun hu hv h => by
    rcases aC hu with ⟨i, t, rfl, rfl⟩ | ⟨x, t, rfl, rfl⟩
    · rcases aC hv with ⟨j, u, rfl, rfl⟩ | ⟨y, u, rfl, rfl⟩
      · rw [kc] at h;exact wpAny_eqBool_int h
      · rw [ke] at h;exact SeqAt.EqAt.int_str i t y u _ _ _ _ h
    · rcases aC hv with ⟨j, u, rfl, rfl⟩ | ⟨y, u, rfl, rfl⟩
      · rw [kf] at h;exact SeqAt.EqAt.str_int x t j u _ _ _ _ h
      · rw [kd] at h;exact wpAny_eqBool_str h
  «strs» := fun k x t v h => by
    rcases aC h with ⟨i, u, rfl, e⟩ | ⟨y, u, rfl, e⟩
    · exact nomatch e
    · injection e with e1 _
      subst e1
      cases v <;> rfl
theorem eG (prog : Program)(w : World)(i : Int)(t : Tok) : (au prog w).is (.inl i) (.int i t)=true := fL i t
theorem eI (prog : Program)(w : World)(x : Str)(t : Tok) : (au prog w).is (.inr x) (.str x t)=true := fM x t
inductive V where
  | non | bl (b : Bool) | int (i : Int) | str (x : Str) | byt (b : Array UInt8) | flt (b : UInt64) | ref (a : Addr) | ty (n : String)
  deriving DecidableEq
def aO : V → Value → Prop
  | .non, u => u=Value.none
  | .bl b, u => u=Value.bool b
  | .int i, u => ∃ t, u=Value.int i t
  | .str x, u => ∃ t, u=Value.str x t
  | .byt b, u => ∃ t, u=Value.bytes b t
  | .flt b, u => ∃ t, u=Value.float b t
  | .ref a, u => u=Value.ref a
  | .ty n, u => u=Value.type n
abbrev aL : List V → List Value → Prop := Paired aO
theorem aL.length {xs : List V}{us : List Value}(r : aL xs us) : xs.length=us.length := Paired.length r
theorem aL.get : ∀ {xs : List V} {us : List Value} {i : Nat} {x : V}, aL xs us → xs[i]? = some x → ∃ u, us[i]? = some u ∧ aO x u
  | _, _, _, _, .nil, e => by simp at e
  | _, _, 0, _, .cons r _, e => by simp at e;subst e;exact ⟨_, rfl, r⟩
  | _, _, i+1, x, .cons _ t, e => by
    obtain ⟨u, h1, h2⟩ := aL.get (i := i) (x := x) t (by simpa using e)
    exact ⟨u, by simpa using h1, h2⟩
theorem aL.append : ∀ {xs ys : List V} {us ws : List Value}, aL xs us → aL ys ws → aL (xs++ys) (us++ws)
  | _, _, _, _, .nil, s => s
  | _, _, _, _, .cons r t, s => .cons r (aL.append t s)
theorem aL.take : ∀ {xs : List V} {us : List Value} (n : Nat), aL xs us → aL (xs.take n) (us.take n)
  | _, _, 0, _ => .nil
  | _, _, _+1, .nil => .nil
  | _, _, n+1, .cons r t => .cons r (aL.take n t)
theorem aL.drop : ∀ {xs : List V} {us : List Value} (n : Nat), aL xs us → aL (xs.drop n) (us.drop n)
  | _, _, 0, r => r
  | _, _, _+1, .nil => .nil
  | _, _, n+1, .cons _ t => aL.drop n t
def fN : Option V → Option Value → Prop
  | some v, some u => aO v u
  | none, none => True
  | _, _ => False
def KV {κ : Type} : List (κ × V) → List (κ × Value) → Prop := Paired fun (p : κ × V) (q : κ × Value) => p.1=q.1 ∧ aO p.2 q.2
def kV : Key → V
  | .inl i => .int i
  | .inr x => .str x
inductive HO where
  | lst (xs : List V)
  | tup (xs : List V)
  | dK (kvs : List (Key × V)) | dT (kvs : List (List Key × V))
  | set (S : Int → Bool) (n : Nat)
  | ins (C dx : Addr) (fs : List (Str × V))
  | own (x : Addr)
  | xd (fs : List (Str × V))
  | met (f x : Addr)
  | rng (lo hi : Int)
  | frz (o : Obj) (u : HO)
  | tbl (ps : Array Value)
  | ext (φ : Heap → Prop)
abbrev Hp := Addr → Option HO
def upd (H : Hp)(a : Addr)(o : HO) : Hp := fun b => if b=a then some o else H b
theorem ab {H : Hp}{a : Addr}{o : HO} : upd H a o a=some o := by unfold upd; rw [if_pos rfl]
theorem aj {H : Hp}{a b : Addr}{o : HO}(h : b≠a) : upd H a o b=H b := by unfold upd; rw [if_neg h]
theorem du {H : Hp}{a : Addr}{o u : HO} : upd (upd H a o) a u=upd H a u := by
  funext b;unfold upd;split <;> rfl
theorem jo {H : Hp}{a b : Addr}{o u : HO}(h : H a=some o)(h' : H b=some u)(d : o≠u) : a≠b := by
  intro e;subst e;rw [h] at h';exact d (Option.some.inj h')
theorem af {H : Hp}{a b : Addr}{o : HO}(h : H a=some o)(h' : H b=none) : a≠b := by
  intro e;subst e;rw [h] at h';cases h'
section
variable (P : Program) (w : World)
def NoD (h : Heap)(a : Addr) : Prop := ∃ o, h.get? a=some o ∧ o.dict=none
theorem NoD.new (h : Heap)(o : Obj)(e : o.dict=none)(hf : o.isFreed=false := by rfl) : NoD (h.push o) h.objs.size := ⟨o, Heap.get?_push_size _ hf, e⟩
def bg (H : Hp)(h : Heap)(a : Addr) : HO → Prop
  | .lst xs => xs.length≤sizeLine ∧ ∃ (its : List Value) (n : Nat), aL xs its ∧ h.get? a=some { cls := .type "list", data := .seq its.toArray n }
  | .tup xs => xs.length≤sizeLine ∧ ∃ its : List Value, aL xs its ∧ IsTup h a its.toArray ∧ NoD h a
  | .dK kvs => kvs.length≤sizeLine ∧ (a == sysModules)=false ∧ ∃ vs, KV kvs vs ∧ h.DictOf (au P w) a vs
  | .dT kvs => kvs.length≤sizeLine ∧ (a == sysModules)=false ∧ ∃ xs : List (List Key × Addr × Value),
      Paired (fun (p : List Key × V) (q : List Key × Addr × Value) => p.1=q.1 ∧ H q.2.1=some (.tup (p.1.map kV)) ∧ aO p.2 q.2.2) kvs xs ∧
      ∃ o es ep, h.get? a=some o ∧ o.ExactDict ∧ o.data = .dict es ep ∧ es.toList=xs.map (entryOfKey (tupleKind (au P w))) ∧ (xs.map (·.1)).Nodup
  | .set S n => h.SetOf (intKind P w) a S n
  | .ins C dx fs => H dx=some (.own a) ∧ fs.length≤1000 ∧ dx≠a ∧ h.get? a=some (PySem.W.instObj C dx) ∧
      ∃ mA, h.Ns1 dx mA ∧ (∀ f, fN (fs.lookup f) (mA f)) ∧ PySem.Within mA (fs.map (·.1))
  | .own _ => ∃ o, h.get? a=some o
  | .xd fs => ∃ mA, h.Ns1 a mA ∧ ∀ f, fN (fs.lookup f) (mA f)
  | .rng lo hi => ∃ t u v, h.get? a=some { cls := .type "range", data := .fields #[.int lo t, .int hi u, .int 1 v] }
  | .frz o u => h.get? a=some o ∧ bg H h a u
  | .tbl ps => h.get? a=some { cls := .none, data := .fields ps }
  | .met f x => h.get? a=some (PySem.W.methodObj (.ref f) (.ref x))
  | .ext φ => φ h ∧ (∃ o, h.get? a=some o) ∧ ∀ h1 h2 : Heap, φ h1 → (∀ o, h1.get? a=some o → h2.get? a=some o) → φ h2
def HOk (H : Hp)(h : Heap) : Prop := ∀ a o, H a=some o → bg P w H h a o
end
section
variable {P : Program} {w : World} {H H' : Hp} {h h' : Heap} {a : Addr} {o : HO}
theorem bg.lt (x : bg P w H h a o) : a < h.objs.size := by
  cases o with
  | lst xs => obtain ⟨_, _, _, _, e⟩ := x;exact Heap.lt_size e
  | tup xs => obtain ⟨_, _, _, p, _⟩ := x;exact p.lt
  | dK kvs => obtain ⟨_, _, _, _, o, _, _, e, _⟩ := x;exact Heap.lt_size e
  | dT kvs => obtain ⟨_, _, _, _, o, _, _, e, _⟩ := x;exact Heap.lt_size e
  | set S n => obtain ⟨o, _, _, _, e, _⟩ := x;exact Heap.lt_size e
  | ins C dx fs => obtain ⟨_, _, _, e, _⟩ := x;exact Heap.lt_size e
  | own y => obtain ⟨_, e⟩ := x;exact Heap.lt_size e
  | xd fs => obtain ⟨_, ⟨_, _, _, e, _⟩, _⟩ := x;exact Heap.lt_size e
  | rng lo hi => obtain ⟨_, _, _, e⟩ := x;exact Heap.lt_size e
  | frz ob u => obtain ⟨e, _⟩ := x;exact Heap.lt_size e
  | tbl ps => exact Heap.lt_size (show h.get? a=some _ from x)
  | met f y => exact Heap.lt_size (show h.get? a=some _ from x)
  | ext φ => obtain ⟨_, ⟨_, e⟩, _⟩ := x;exact Heap.lt_size e
theorem Paired.mapP {α β : Type}{F G : α → β → Prop} : ∀ {l₁ : List α} {l₂ : List β}, Paired F l₁ l₂ → (∀ a b, F a b → G a b) → Paired G l₁ l₂
  | _, _, .nil, _ => .nil
  | _, _, .cons r t, f => .cons (f _ _ r) (Paired.mapP t f)
theorem bg.stay (x : bg P w H h a o)(k : ∀ b u, (b=a ∨ H b=some (.own a)) → h.get? b=some u → h'.get? b=some u)
    (ho : ∀ b, H b=some (.own a) → H' b=some (.own a)) (ht : ∀ b xs, H b=some (.tup xs) → H' b=some (.tup xs)) : bg P w H' h' a o := by
  induction o with
  | lst xs => obtain ⟨z, its, n, r, e⟩ := x;exact ⟨z, its, n, r, k _ _ (.inl rfl) e⟩
  | tup xs => obtain ⟨z, its, r, ⟨ob, e, c⟩, o2, e2, c2⟩ := x;exact ⟨z, its, r, ⟨ob, k _ _ (.inl rfl) e, c⟩, o2, k _ _ (.inl rfl) e2, c2⟩
  | dK kvs => obtain ⟨z, y, vs, r, ob, es, ep, e, c⟩ := x;exact ⟨z, y, vs, r, ob, es, ep, k _ _ (.inl rfl) e, c⟩
  | dT kvs =>
    obtain ⟨z, y, xs, r, ob, es, ep, e, c⟩ := x
    exact ⟨z, y, xs, Paired.mapP r fun p q z => ⟨z.1, ht _ _ z.2.1, z.2.2⟩, ob, es, ep, k _ _ (.inl rfl) e, c⟩
  | set S n => obtain ⟨ob, es, ep, t, e, c⟩ := x;exact ⟨ob, es, ep, t, k _ _ (.inl rfl) e, c⟩
  | ins C dx fs =>
    obtain ⟨d, z, ne, e, mA, ⟨od, es, ep, e2, c⟩, r⟩ := x
    exact ⟨ho _ d, z, ne, k _ _ (.inl rfl) e, mA, ⟨od, es, ep, k _ _ (.inr d) e2, c⟩, r⟩
  | own y => obtain ⟨ob, e⟩ := x;exact ⟨ob, k _ _ (.inl rfl) e⟩
  | xd fs => obtain ⟨mA, ⟨od, es, ep, e, c⟩, r⟩ := x;exact ⟨mA, ⟨od, es, ep, k _ _ (.inl rfl) e, c⟩, r⟩
  | rng lo hi => obtain ⟨t, u, v, e⟩ := x;exact ⟨t, u, v, k _ _ (.inl rfl) e⟩
  | frz ob u ih => obtain ⟨e, q⟩ := x;exact ⟨k _ _ (.inl rfl) e, ih q⟩
  | tbl ps =>
    have e : h.get? a=some { cls := .none, data := .fields ps } := x
    show h'.get? a=some { cls := .none, data := .fields ps }
    exact k a _ (.inl rfl) e
  | met f y =>
    have e : h.get? a=some (PySem.W.methodObj (.ref f) (.ref y)) := x
    show h'.get? a=some (PySem.W.methodObj (.ref f) (.ref y))
    exact k a _ (.inl rfl) e
  | ext φ => obtain ⟨p, ⟨o, e⟩, st⟩ := x;exact ⟨st _ _ p fun o q => k _ _ (.inl rfl) q, ⟨o, k _ _ (.inl rfl) e⟩, st⟩
theorem HOk.lt (x : HOk P w H h)(e : H a=some o) : a < h.objs.size := (x a o e).lt
theorem HOk.fresh (x : HOk P w H h)(e : h.objs.size≤a) : H a=none := by
  cases q : H a with
  | none => rfl
  | some u => exact absurd (Nat.lt_of_lt_of_le (x.lt q) e) (Nat.lt_irrefl _)
theorem HOk.kept (x : HOk P w H h)(k : ∀ b u, h.get? b=some u → h'.get? b=some u) : HOk P w H h' := fun a o e =>
  (x a o e).stay (fun b u _ q => k b u q) (fun _ q => q) fun _ _ q => q
theorem HOk.laid (x : HOk P w H h)(k : ∀ b u, h.get? b=some u → h'.get? b=some u)(hp : h.objs.size≤a)(new : bg P w (upd H a o) h' a o) : HOk P w (upd H a o) h' := fun b u e => by
  have hn := x.fresh hp
  by_cases hb : b=a
  · subst hb;rw [ab] at e;cases e;exact new
  · rw [aj hb] at e
    exact (x b u e).stay (fun c v _ q => k c v q) (fun c q => by rw [aj (af q hn)];exact q) fun c xs q => by rw [aj (af q hn)];exact q
end
def Rd (H : Hp)(a : Addr)(u : HO) : Prop := H a=some u ∨ ∃ o, H a=some (.frz o u)
theorem Rd.ok {P : Program}{w : World}{H : Hp}{h : Heap}{a : Addr}{u : HO}(r : Rd H a u)(x : HOk P w H h) : bg P w H h a u := by
  rcases r with r | ⟨o, r⟩
  · exact x a u r
  · obtain ⟨_, q⟩ := x a _ r
    exact q
def Mut : Option HO → Prop
  | some (.lst _) => True
  | some (.dK _) => True
  | some (.dT _) => True
  | some (.set _ _) => True
  | some (.ins _ _ _) => True
  | some (.ext _) => True
  | _ => False
section
variable {P : Program} {w : World} {H : Hp} {h h' : Heap} {x e : Addr} {o' : HO}
theorem HOk.write (ok : HOk P w H h)(mu : Mut (H x))(he : e=x ∨ H e=some (.own x))(k : ∀ b u, b≠e → h.get? b=some u → h'.get? b=some u)(heo : ∃ u, h'.get? e=some u)
    (new : bg P w (upd H x o') h' x o') : HOk P w (upd H x o') h' := fun b u q => by
  have nown : ∀ c y, H c=some (.own y) → c≠x := fun c y r z => by subst z;rw [r] at mu;exact mu
  have ntup : ∀ c xs, H c=some (.tup xs) → c≠x := fun c xs r z => by subst z;rw [r] at mu;exact mu
  by_cases hb : b=x
  · subst hb;rw [ab] at q;cases q;exact new
  · rw [aj hb] at q
    by_cases hbe : b=e
    · have q' : H b=some (.own x) := by
        rcases he with z | z
        · exact absurd (hbe.trans z) hb
        · rw [hbe];exact z
      rw [q] at q';cases q'
      obtain ⟨v, hv⟩ := heo
      exact ⟨v, by rw [hbe];exact hv⟩
    · refine (ok b u q).stay (fun c v hc r => k c v ?_ r) (fun c r => by rw [aj (nown c b r)];exact r) fun c xs r => by rw [aj (ntup c xs r)];exact r
      rcases hc with rfl | hc
      · exact hbe
      · rintro rfl
        rcases he with z | z
        · exact nown c b hc z
        · rw [hc] at z;cases z;exact hb rfl
end
structure Un (fs ex : List Addr) (H H' : Hp) (h h' : Heap) : Prop where
  keep : ∀ b o, h.get? b=some o → H b=none → b∉fs → b∉ex → h'.get? b=some o
  slot : ∀ b o, h.get? b=some o → H b=none → b∈fs → b∉ex → ∃ sl, h'.get? b=some { o with slots := sl }
  free : ∀ b o, h.get? b=some o → H b=none → b∉ex → H' b=none
  there : ∀ b o, h.get? b=some o → b∉ex → ∃ o', h'.get? b=some o'
  tups : ∀ b xs, H b=some (.tup xs) → H' b=some (.tup xs)
  frzs : ∀ b o u, H b=some (.frz o u) → H' b=some (.frz o u)
  tbls : ∀ b ps, H b=some (.tbl ps) → ∃ more, H' b=some (.tbl (ps++more))
section
variable {fs fs' ex ex' : List Addr} {H H1 H2 : Hp} {h h1 h2 h' : Heap} {a x e : Addr} {o : HO}
theorem Un.any (u : Un fs ex H H1 h h1){b : Addr}{ob : Obj}(q : h.get? b=some ob)(n : H b=none)(hx : b∉ex) : ∃ sl, h1.get? b=some { ob with slots := sl } := by
  by_cases hb : b∈fs
  · exact u.slot b ob q n hb hx
  · exact ⟨ob.slots, u.keep b ob q n hb hx⟩
theorem Un.kept (k : ∀ b u, h.get? b=some u → h'.get? b=some u) : Un fs ex H H h h' :=
  ⟨fun b ob q _ _ _ => k b ob q, fun b ob q _ _ _ => ⟨ob.slots, k b ob q⟩, fun _ _ _ n _ => n, fun b ob q _ => ⟨ob, k b ob q⟩, fun _ _ q => q, fun _ _ _ q => q, fun _ ps q => ⟨#[], by rw [q];simp⟩⟩
theorem Un.refl : Un fs ex H H h h := Un.kept fun _ _ q => q
theorem Un.laid (k : ∀ b u, h.get? b=some u → h'.get? b=some u)(hp : h.objs.size≤a)(hn : H a=none) : Un fs ex H (upd H a o) h h' where
  keep := fun b u q _ _ _ => k b u q
  slot := fun b u q _ _ _ => ⟨u.slots, k b u q⟩
  free := fun b u q n _ => by rw [aj (Nat.ne_of_lt (Nat.lt_of_lt_of_le (Heap.lt_size q) hp))];exact n
  there := fun b u q _ => ⟨u, k b u q⟩
  tups := fun b xs q => by rw [aj (af q hn)];exact q
  frzs := fun b u xs q => by rw [aj (af q hn)];exact q
  tbls := fun b ps q => ⟨#[], by rw [aj (af q hn), q];simp⟩
theorem Un.write (mu : Mut (H x))(he : e=x ∨ H e=some (.own x))(k : ∀ b u, b≠e → h.get? b=some u → h'.get? b=some u)(heo : ∃ u, h'.get? e=some u) : Un fs ex H (upd H x o) h h' := by
  have hx : ∀ b, H b=none → b≠x := fun b n z => by subst z;rw [n] at mu;exact mu
  have hb : ∀ b, H b=none → b≠e := fun b n z => by
    subst z
    rcases he with r | r
    · exact hx b n r
    · rw [n] at r;cases r
  have hm : ∀ b u, H b=some u → ¬ Mut (some u) → b≠x := fun b u q nm z => by subst z;rw [q] at mu;exact nm mu
  refine ⟨fun b u q n _ _ => k b u (hb b n) q, fun b u q n _ _ => ⟨u.slots, k b u (hb b n) q⟩, fun b u q n _ => by rw [aj (hx b n)];exact n, fun b u q _ => ?_,
    fun b xs q => by rw [aj (hm b _ q fun z => z)];exact q, fun b u xs q => by rw [aj (hm b _ q fun z => z)];exact q, fun b ps q => ⟨#[], by rw [aj (hm b _ q fun z => z), q];simp⟩⟩
  by_cases hbe : b=e
  · subst hbe;exact heo
  · exact ⟨u, k b u hbe q⟩
end
def trk (h : Heap)(H : Hp) : List Addr := (List.range h.objs.size).filter fun a => (H a).isSome
def ir (h : Heap)(H : Hp) : Heap := PySem.W.hideAll h (trk h H)
theorem fO (h : Heap)(H : Hp) : (ir h H).objs.size=h.objs.size := PySem.W.hideAll_size _ _
theorem iu {h : Heap}{H : Hp}{b : Addr}{o : Obj}(e : h.get? b=some o)(n : H b=none) : (ir h H).get? b=some o :=
  PySem.W.hideAll_get _ e fun hm => by
    have q : (H b).isSome=true := (List.mem_filter.mp hm).2
    rw [n] at q;simp at q
theorem jq {h : Heap}{H : Hp}{b : Addr}{o : Obj}(e : (ir h H).get? b=some o) : h.get? b=some o ∧ H b=none := by
  have e' : h.get? b=some o := PySem.W.of_hideAll (trk h H) e
  refine ⟨e', ?_⟩
  cases q : H b with
  | none => rfl
  | some x =>
    have hm : b∈trk h H := List.mem_filter.mpr ⟨List.mem_range.mpr (Heap.lt_size e'), by simp [q]⟩
    have z : (ir h H).get? b=none := PySem.W.hideAll_none (trk h H) hm
    rw [z] at e;cases e
structure Mod (K : PySem.W.Frag) (mg : Str → Option Value) (base : Heap) : Prop where
  kin : K.In base
  glob : base.Ns mainGlobals mg
  blt : ∃ mb, base.Ns builtinsNs mb ∧ ∀ x : Str, x ≠ "__name__" → mb x=bootBuiltins x
  nolimit : base.NoLimit
/-- the context: a def's body (or a comprehension's block) running. base: fixed through the whole law;s₀, H₀: the entry;outer: the frames whose slots others may change (a def's callers);stack: all frames that run;
   ex: iterators that were made ahead of the entry and are walked here (a comprehension's);fn: the names whose cells were made at the entry (a def: all;a comprehension's block: its own);calm: not within an except suite;pn: pins that every state bears;xe: what is wanted of an exception that leaves the code -/
structure Cx where
  prog : Program
  w : World
  K : PySem.W.Frag
  mg : Str → Option Value
  base : Heap
  A : Around
  N : List Str
  s₀ : Shared
  H₀ : Hp
  env : Env
  outer : List Env
  stack : List Env
  ex : List Addr
  fn : Str → Bool
  calm : Bool
  pn : List (Addr × Obj)
  xe : Value → Shared → Prop
def frs (l : List Env) : List Addr := l.filterMap (·.frame)
abbrev Cx.fs (X : Cx) : List Addr := frs X.outer
def Vis (sc : Scope)(x : Str) : Prop := sc.names.lookup x=some .local ∨ sc.names.lookup x=some .cell ∨ sc.names.lookup x=some .free
def Loc (sc : Scope)(x : Str) : Prop := sc.names.lookup x=some .local ∨ sc.names.lookup x=some .cell
def nE (env : Env)(h : Heap)(m : Str → Option Value)(x : Str)(u : Value) : Prop :=
  (env.kindOf x=some .local ∧ m x=some u) ∨ ((env.kindOf x=some .cell ∨ env.kindOf x=some .free) ∧ ∃ c, env.cells.lookup x=some c ∧ h.IsCell c (some u))
structure Cx.Ok (X : Cx) : Prop where
  mod : Mod X.K X.mg X.base
  kind : X.env.scope.kind = .function
  glob : X.env.globals=mainGlobals
  blt : X.env.builtins=builtinsNs
  above : X.s₀.heap.objs.size≤X.env.locals
  inj : ∀ x y c, X.env.cells.lookup x=some c → X.env.cells.lookup y=some c → x=y
  has : ∀ x, (X.env.kindOf x=some .cell ∨ X.env.kindOf x=some .free) → ∃ c, X.env.cells.lookup x=some c
  cab : ∀ x c, X.fn x=true → X.env.cells.lookup x=some c → X.s₀.heap.objs.size≤c
  hd : X.calm=true → X.A.handled=none
  frames : X.A.frames=some X.stack
  stk : X.stack=X.outer ∨ (X.stack=X.env::X.outer ∧ X.env.frame=some X.env.locals)
  exf : ∀ b∈X.ex, b≠X.env.locals ∧ ∀ x c, X.env.cells.lookup x=some c → c≠b
  bs : ∀ b o, X.base.get? b=some o → X.s₀.heap.get? b=some o ∧ X.H₀ b=none
  bsz : X.base.objs.size≤X.s₀.heap.objs.size
  noex : ∀ b o, X.base.get? b=some o → b∉X.ex
  exfs : ∀ b∈X.ex, b∉X.fs
  funs : X.s₀.heap.FunFrames X.base X.outer
  frf : ∀ b∈X.fs, X.H₀ b=none
structure Inv (X : Cx) (pins : List (Addr × Obj)) (σ : List (Option V)) (H : Hp) (s : Shared) : Prop where
  ok : X.Ok
  os : s.os=X.s₀.os
  bare : AllBare s.gens
  base : Un X.fs X.ex X.H₀ H X.s₀.heap s.heap
  loc : ∃ m, s.heap.Ns X.env.locals m ∧ ∀ (i : Nat) (x : Str) (v : V), X.N[i]? = some x → σ[i]? = some (some v) → Vis X.env.scope x → ∃ u, aO v u ∧ nE X.env s.heap m x u
  cell : ∀ x c, X.env.cells.lookup x=some c → ∃ v, s.heap.IsCell c v
  free : H X.env.locals=none
  freeC : ∀ x c, X.env.cells.lookup x=some c → H c=none
  pin : ∀ p∈X.pn++pins, s.heap.get? p.1=some p.2 ∧ H p.1=none ∧ p.1≠X.env.locals ∧ p.1∉X.fs ∧ ∀ v, p.2.data ≠ .cell v
  hok : HOk X.prog X.w H s.heap
  len : σ.length=X.N.length
section
variable {X : Cx} {pins : List (Addr × Obj)} {σ : List (Option V)} {H H' : Hp} {s : Shared} {h' : Heap}
theorem Cx.Ok.nofr (ok : X.Ok){b : Addr}{o : Obj}(e : X.base.get? b=some o) : b∉X.fs := fun hb => by
  have := (ok.funs.mem hb).1
  rw [e] at this;cases this
theorem Inv.bs (I : Inv X pins σ H s) : ∀ b o, X.base.get? b=some o → s.heap.get? b=some o ∧ H b=none := fun b o e =>
  ⟨I.base.keep b o (I.ok.bs b o e).1 (I.ok.bs b o e).2 (I.ok.nofr e) (I.ok.noex b o e), I.base.free b o (I.ok.bs b o e).1 (I.ok.bs b o e).2 (I.ok.noex b o e)⟩
theorem Inv.bk (I : Inv X pins σ H s) : ∀ b o, X.base.get? b=some o → s.heap.get? b=some o := fun b o e => (I.bs b o e).1
theorem Inv.mod (I : Inv X pins σ H s) : Mod X.K X.mg X.base := I.ok.mod
theorem Inv.kIn (I : Inv X pins σ H s) : X.K.In s.heap := I.ok.mod.kin.keeps I.bk
theorem Inv.lt (I : Inv X pins σ H s) : X.env.locals < s.heap.objs.size := let ⟨_, hn, _⟩ := I.loc; hn.lt
theorem Inv.sz (I : Inv X pins σ H s) : X.s₀.heap.objs.size≤s.heap.objs.size := Nat.le_trans I.ok.above (Nat.le_of_lt I.lt)
theorem Inv.nofs (I : Inv X pins σ H s){a : Addr}(h : s.heap.objs.size≤a) : a∉X.fs := fun hb => by
  obtain ⟨_, o, ho, _⟩ := I.ok.funs.mem hb
  exact absurd (Nat.lt_of_lt_of_le (Heap.lt_size ho) (Nat.le_trans I.sz h)) (Nat.lt_irrefl _)
theorem Inv.cne (I : Inv X pins σ H s) : ∀ x c, X.env.cells.lookup x=some c → c≠X.env.locals := fun x c e z => by
  obtain ⟨v, o, ho, hd⟩ := I.cell x c e
  obtain ⟨m, ⟨o', es, ep, ho', hd', _⟩, _⟩ := I.loc
  rw [z, ho'] at ho;cases ho;rw [hd'] at hd;cases hd
theorem Inv.funs (I : Inv X pins σ H s) : s.heap.FunFrames X.base X.outer := by
  have all : ∀ (l : List Env), (∀ b∈frs l, b∈X.fs) → X.s₀.heap.FunFrames X.base l → s.heap.FunFrames X.base l := by
    intro l
    induction l with
    | nil => intro _ _;trivial
    | cons env r ih =>
      intro hs hl
      obtain ⟨hk, ⟨L, o, hf, hn, ho, hd⟩, hr⟩ := hl
      have hL : L∈X.fs := hs L (by unfold frs;rw [List.filterMap_cons, hf];exact List.mem_cons_self)
      obtain ⟨sl, e⟩ := I.base.slot L o ho (I.ok.frf L hL) hL fun z => I.ok.exfs L z hL
      exact ⟨hk, ⟨L, _, hf, hn, e, hd⟩, ih (fun b hb => hs b (by unfold frs;rw [List.filterMap_cons, hf];exact List.mem_cons_of_mem _ hb)) hr⟩
  exact all X.outer (fun _ hb => hb) I.ok.funs
theorem Inv.stack (I : Inv X pins σ H s) : s.heap.FunFrames X.base X.stack := by
  rcases I.ok.stk with e | ⟨e, hf⟩
  · rw [e];exact I.funs
  · rw [e]
    obtain ⟨m, hn, _⟩ := I.loc
    refine .cons (by rw [I.ok.kind];decide) hf hn ?_ I.funs
    exact Heap.get?_none_of_le (Nat.le_trans I.ok.bsz I.ok.above)
theorem Inv.stkSub (I : Inv X pins σ H s) : ∀ b∈frs X.stack, b∈X.env.locals::X.fs := fun b hb => by
  rcases I.ok.stk with e | ⟨e, hf⟩
  · rw [e] at hb;exact List.mem_cons_of_mem _ hb
  · rw [e] at hb
    unfold frs at hb
    rw [List.filterMap_cons, hf] at hb
    exact hb
theorem Inv.stkFree (I : Inv X pins σ H s) : ∀ b∈frs X.stack, H b=none := fun b hb => by
  rcases List.mem_cons.mp (I.stkSub b hb) with e | hb
  · rw [e];exact I.free
  · obtain ⟨_, o, ho, _⟩ := I.ok.funs.mem hb
    exact I.base.free b o ho (I.ok.frf b hb) fun z => I.ok.exfs b z hb
theorem Inv.step {g' : Array GenState}{t' : Nat}{d' : Drawn}{ch : List Addr}(I : Inv X pins σ H s)
    (hch : ∀ b∈ch, (b∈X.ex ∨ X.s₀.heap.objs.size≤b) ∧ b≠X.env.locals ∧ (∀ x c, X.env.cells.lookup x=some c → c≠b) ∧ ∀ p∈X.pn++pins, p.1≠b)
    (keep : ∀ b o, b≠X.env.locals → b∉X.fs → b∉ch → s.heap.get? b=some o → H b=none → h'.get? b=some o)
    (slot : ∀ b o, b≠X.env.locals → b∈X.fs → b∉ch → s.heap.get? b=some o → H b=none → ∃ sl, h'.get? b=some { o with slots := sl }) (free : ∀ b o, b∉ch → s.heap.get? b=some o → H b=none → H' b=none)
    (there : ∀ b o, b∉ch → s.heap.get? b=some o → ∃ o', h'.get? b=some o')
    (tups : ∀ b xs, H b=some (.tup xs) → H' b=some (.tup xs)) (frzs : ∀ b o u, H b=some (.frz o u) → H' b=some (.frz o u)) (tbls : ∀ b ps, H b=some (.tbl ps) → ∃ more, H' b=some (.tbl (ps++more)))
    (ns : ∀ m, s.heap.Ns X.env.locals m → h'.Ns X.env.locals m) (hok : HOk X.prog X.w H' h') (hg : AllBare g') :
    Inv X pins σ H' { s with heap := h', gens := g', drawn := d', toks := t' } := by
  have neL : ∀ b o, X.s₀.heap.get? b=some o → b≠X.env.locals := fun b o e => Nat.ne_of_lt (Nat.lt_of_lt_of_le (Heap.lt_size e) I.ok.above)
  have neC : ∀ b o, X.s₀.heap.get? b=some o → b∉X.ex → b∉ch := fun b o e hx hb => by
    rcases (hch b hb).1 with z | z
    · exact hx z
    · exact absurd (Nat.lt_of_lt_of_le (Heap.lt_size e) z) (Nat.lt_irrefl _)
  have cellK : ∀ x c, X.env.cells.lookup x=some c → ∀ v, s.heap.IsCell c v → h'.IsCell c v := fun x c e v ⟨o, ho, hd⟩ => by
    have nch : c∉ch := fun z => (hch c z).2.2.1 x c e rfl
    by_cases hc : c∈X.fs
    · obtain ⟨sl, q⟩ := slot c o (I.cne x c e) hc nch ho (I.freeC x c e)
      exact ⟨_, q, hd⟩
    · exact ⟨o, keep c o (I.cne x c e) hc nch ho (I.freeC x c e), hd⟩
  refine ⟨I.ok, I.os, hg, ⟨fun b o e n hb hx => ?_, fun b o e n hb hx => ?_, fun b o e n hx => ?_, fun b o e hx => ?_, fun b xs e => tups b xs (I.base.tups b xs e), fun b o xs e => frzs b o xs (I.base.frzs b o xs e), fun b ps e => ?_⟩, ?_, fun x c e => ?_, ?_, fun x c e => ?_, fun p hp => ?_, hok, I.len⟩
  · exact keep b o (neL b o e) hb (neC b o e hx) (I.base.keep b o e n hb hx) (I.base.free b o e n hx)
  · obtain ⟨sl, e1⟩ := I.base.slot b o e n hb hx
    obtain ⟨sl', e2⟩ := slot b _ (neL b o e) hb (neC b o e hx) e1 (I.base.free b o e n hx)
    exact ⟨sl', e2⟩
  · obtain ⟨o', e1⟩ := I.base.there b o e hx
    exact free b o' (neC b o e hx) e1 (I.base.free b o e n hx)
  · obtain ⟨o', e1⟩ := I.base.there b o e hx
    exact there b o' (neC b o e hx) e1
  · obtain ⟨m1, e1⟩ := I.base.tbls b ps e
    obtain ⟨m2, e2⟩ := tbls b _ e1
    exact ⟨m1++m2, by rw [e2, Array.append_assoc]⟩
  · obtain ⟨m, hn, hl⟩ := I.loc
    refine ⟨m, ns m hn, fun i x v e1 e2 e3 => ?_⟩
    obtain ⟨u, r, l⟩ := hl i x v e1 e2 e3
    refine ⟨u, r, ?_⟩
    rcases l with l | ⟨k, c, e, z⟩
    · exact .inl l
    · exact .inr ⟨k, c, e, cellK x c e _ z⟩
  · obtain ⟨v, z⟩ := I.cell x c e
    exact ⟨v, cellK x c e v z⟩
  · obtain ⟨m, ⟨o, _, _, ho, _⟩, _⟩ := I.loc
    exact free _ o (fun z => (hch _ z).2.1 rfl) ho I.free
  · obtain ⟨v, o, ho, hd⟩ := I.cell x c e
    exact free c o (fun z => (hch c z).2.2.1 x c e rfl) ho (I.freeC x c e)
  · obtain ⟨e, n, ne, nf, d⟩ := I.pin p hp
    have nch : p.1∉ch := fun z => (hch p.1 z).2.2.2 p hp rfl
    exact ⟨keep p.1 p.2 ne nf nch e n, free p.1 p.2 nch e n, ne, nf, d⟩
theorem Inv.un {t' : Nat}(I : Inv X pins σ H s)(u : Un X.fs [] H H' s.heap h')(hok : HOk X.prog X.w H' h') : Inv X pins σ H' { s with heap := h', toks := t' } := by
  obtain ⟨m, ⟨o, es, ep, ho, r⟩, _⟩ := id I.loc
  obtain ⟨sl, hL⟩ := u.any ho I.free (by simp)
  exact I.step (g' := s.gens) (d' := s.drawn) (ch := []) (fun _ z => nomatch z) (fun b o _ hb _ e n => u.keep b o e n hb (by simp)) (fun b o _ hb _ e n => u.slot b o e n hb (by simp)) (fun b o _ e n => u.free b o e n (by simp)) (fun b o _ e => u.there b o e (by simp)) u.tups u.frzs u.tbls (fun m' hm => by
    obtain ⟨o', es', ep', ho', r'⟩ := hm
    rw [ho] at ho';cases ho'
    exact ⟨_, es', ep', hL, r'⟩) hok I.bare
theorem Inv.call {g' : Array GenState}{t' : Nat}{d' : Drawn}{ch : List Addr}(I : Inv X pins σ H s)(u : Un (frs X.stack) ch H H' s.heap h')(hok : HOk X.prog X.w H' h')(hg : AllBare g')
    (hch : ∀ b∈ch, (b∈X.ex ∨ X.s₀.heap.objs.size≤b) ∧ b≠X.env.locals ∧ (∀ x c, X.env.cells.lookup x=some c → c≠b) ∧ ∀ p∈X.pn++pins, p.1≠b) :
    Inv X pins σ H' { s with heap := h', gens := g', drawn := d', toks := t' } := by
  obtain ⟨m, ⟨o, es, ep, ho, r⟩, _⟩ := id I.loc
  obtain ⟨sl, hL⟩ := u.any ho I.free fun z => (hch _ z).2.1 rfl
  exact I.step (ch := ch) hch (fun b o hL hb hc e n => u.keep b o e n (fun z => (List.mem_cons.mp (I.stkSub b z)).elim hL hb) hc) (fun b o _ _ hc e n => u.any e n hc) (fun b o hc e n => u.free b o e n hc) (fun b o hc e => u.there b o e hc) u.tups u.frzs u.tbls (fun m' hm => by
    obtain ⟨o', es', ep', ho', r'⟩ := hm
    rw [ho] at ho';cases ho'
    exact ⟨_, es', ep', hL, r'⟩) hok hg
theorem Inv.turned {t' : Nat}{it : Addr}(I : Inv X pins σ H s)(k : ∀ b o, b≠it → s.heap.get? b=some o → h'.get? b=some o)(hn : H it=none)(hL : it≠X.env.locals)
    (h1 : it∈X.ex ∨ X.s₀.heap.objs.size≤it) (h2 : ∀ x c, X.env.cells.lookup x=some c → c≠it) (h3 : ∀ p∈X.pn++pins, p.1≠it) : Inv X pins σ H { s with heap := h', toks := t' } := by
  have nit : ∀ b u, H b=some u → b≠it := fun b u e z => by rw [z, hn] at e;cases e
  refine I.step (g' := s.gens) (d' := s.drawn) (ch := [it]) (fun b hb => ?_) (fun b o _ _ hc e _ => k b o (fun z => hc (by simp [z])) e) (fun b o _ _ hc e _ => ⟨o.slots, k b o (fun z => hc (by simp [z])) e⟩) (fun _ _ _ _ n => n)
    (fun b o hc e => ⟨o, k b o (fun z => hc (by simp [z])) e⟩) (fun _ _ e => e) (fun _ _ _ e => e) (fun b ps e => ⟨#[], by rw [e];simp⟩) (fun m hm => ?_) (fun b u e => ?_) I.bare
  · have e : b=it := by simpa using hb
    subst e
    exact ⟨h1, hL, h2, h3⟩
  · obtain ⟨o, es, ep, ho, r⟩ := hm
    exact ⟨o, es, ep, k _ o (Ne.symm hL) ho, r⟩
  · refine (I.hok b u e).stay (fun c v hc q => k c v ?_ q) (fun _ q => q) fun _ _ q => q
    rcases hc with z | z
    · rw [z];exact nit b u e
    · exact nit c _ z
theorem Inv.tok (I : Inv X pins σ H s)(t : Nat) : Inv X pins σ H { s with toks := t } := I.un (h' := s.heap) (t' := t) Un.refl I.hok
theorem Inv.kept {t' : Nat}(I : Inv X pins σ H s)(k : ∀ b u, s.heap.get? b=some u → h'.get? b=some u) : Inv X pins σ H { s with heap := h', toks := t' } := I.un (Un.kept k) (I.hok.kept k)
theorem Inv.laid {a : Addr}{o : HO}{t' : Nat}(I : Inv X pins σ H s)(k : ∀ b u, s.heap.get? b=some u → h'.get? b=some u)(hp : s.heap.objs.size≤a)(new : bg X.prog X.w (upd H a o) h' a o) :
    Inv X pins σ (upd H a o) { s with heap := h', toks := t' } := I.un (Un.laid k hp (I.hok.fresh hp)) (I.hok.laid k hp new)
theorem Inv.write {x e : Addr}{o : HO}{t' : Nat}(I : Inv X pins σ H s)(mu : Mut (H x))(he : e=x ∨ H e=some (.own x))(k : ∀ b u, b≠e → s.heap.get? b=some u → h'.get? b=some u)(heo : ∃ u, h'.get? e=some u)
    (new : bg X.prog X.w (upd H x o) h' x o) : Inv X pins σ (upd H x o) { s with heap := h', toks := t' } := I.un (Un.write mu he k heo) (I.hok.write mu he k heo new)
theorem Inv.pins_of {pins' : List (Addr × Obj)}(I : Inv X pins σ H s)(h : ∀ p∈pins', s.heap.get? p.1=some p.2 ∧ H p.1=none ∧ p.1≠X.env.locals ∧ p.1∉X.fs ∧ ∀ v, p.2.data ≠ .cell v) : Inv X pins' σ H s :=
  ⟨I.ok, I.os, I.bare, I.base, I.loc, I.cell, I.free, I.freeC, fun p hp => (List.mem_append.mp hp).elim (fun z => I.pin p (List.mem_append_left _ z)) (h p), I.hok, I.len⟩
theorem fb {N : List Str}(hN : N.Nodup){i j : Nat}{x : Str}(a : N[i]? = some x)(b : N[j]? = some x) : i=j := by
  obtain ⟨h1, e1⟩ := List.getElem?_eq_some_iff.mp a
  obtain ⟨h2, e2⟩ := List.getElem?_eq_some_iff.mp b
  exact (List.getElem_inj hN).mp (e1.trans e2.symm)
theorem fP {M : Model}{A : Around}{E : Value → Shared → Prop}{i : Nat}{x : Str}{v : V}{u : Value}{Q : Unit → Shared → Prop}(I : Inv X pins σ H s)(hN : X.N.Nodup)(hi : X.N[i]? = some x)(hx : Loc X.env.scope x)(r : aO v u)
    (h : ∀ s', Inv X pins (σ.set i (some v)) H s' → (∃ a, Heap.SameBut a s.heap s'.heap ∧ (a=X.env.locals ∨ X.env.cells.lookup x=some a)) → Q () s') (hf : X.fn x=true ∨ X.env.scope.names.lookup x=some .local := by first | exact .inl rfl | exact .inr rfl | assumption) : wpAny M A (storeName X.env x u) Q E s := by
  obtain ⟨m, hn, hl⟩ := id I.loc
  have hcls : (X.env.scope.kind == .class || (X.env.scope.kind == .module && X.env.locals != X.env.globals))=false := by rw [I.ok.kind];rfl
  have hiσ : i < σ.length := by rw [I.len];exact (List.getElem?_eq_some_iff.mp hi).1
  have cne := I.cne
  have tracked : ∀ {a : Addr} {h' : Heap}, (∃ o, s.heap.get? a=some o ∧ H a=none) → Heap.SameBut a s.heap h' → HOk X.prog X.w H h' := fun {a h'} ha hs b ob e => by
    obtain ⟨_, _, hfree⟩ := ha
    refine (I.hok b ob e).stay (fun c w' hc q => (hs.2 c ?_).trans q) (fun _ q => q) fun _ _ q => q
    rintro rfl
    rcases hc with rfl | hc
    · rw [hfree] at e;cases e
    · rw [hfree] at hc;cases hc
  rcases hx with hk | hk
  · refine wpAny_storeName_local hk hn (fun h' hn' hs => ?_) hcls
    obtain ⟨oL, _, _, hoL, _⟩ := id hn
    refine h _ ⟨I.ok, I.os, I.bare, ⟨fun b o e n hb hx => ?_, fun b o e n hb hx => ?_, I.base.free, fun b o e hx => ?_, I.base.tups, I.base.frzs, I.base.tbls⟩, ⟨_, hn', fun j y v' e1 e2 e3 => ?_⟩, fun y c e => ?_, I.free, I.freeC, fun p hp => ?_, tracked ⟨oL, hoL, I.free⟩ hs, by simpa using I.len⟩ ⟨_, hs, .inl rfl⟩
    · exact (hs.2 b (Nat.ne_of_lt (Nat.lt_of_lt_of_le (Heap.lt_size e) I.ok.above))).trans (I.base.keep b o e n hb hx)
    · obtain ⟨sl, e1⟩ := I.base.slot b o e n hb hx
      exact ⟨sl, (hs.2 b (Nat.ne_of_lt (Nat.lt_of_lt_of_le (Heap.lt_size e) I.ok.above))).trans e1⟩
    · obtain ⟨o', e1⟩ := I.base.there b o e hx
      exact ⟨o', (hs.2 b (Nat.ne_of_lt (Nat.lt_of_lt_of_le (Heap.lt_size e) I.ok.above))).trans e1⟩
    · by_cases hj : j=i
      · subst hj
        rw [hi] at e1;cases e1
        rw [List.getElem?_set_self hiσ] at e2
        cases e2
        exact ⟨u, r, .inl ⟨hk, by simp⟩⟩
      · rw [List.getElem?_set_ne (Ne.symm hj)] at e2
        obtain ⟨u', r', q⟩ := hl j y v' e1 e2 e3
        refine ⟨u', r', ?_⟩
        rcases q with ⟨k, e⟩ | ⟨k, c, e, z⟩
        · refine .inl ⟨k, ?_⟩
          have : y≠x := fun e => hj (fb hN e1 (e ▸ hi))
          simp [this, e]
        · exact .inr ⟨k, c, e, z.sameBut hs (cne y c e)⟩
    · obtain ⟨w', z⟩ := I.cell y c e
      exact ⟨w', z.sameBut hs (cne y c e)⟩
    · obtain ⟨e, n, ne, nf, d⟩ := I.pin p hp
      exact ⟨(hs.2 p.1 ne).trans e, n, ne, nf, d⟩
  · have hfn : X.fn x=true := by
      rcases hf with z | z
      · exact z
      · rw [z] at hk;cases hk
    obtain ⟨c, hc⟩ := I.ok.has x (.inl hk)
    obtain ⟨w', z⟩ := I.cell x c hc
    refine wpAny_storeName_cell I.ok.kind hk hc z (fun h' hc' hs => ?_)
    obtain ⟨oc, hoc, hocd⟩ := id z
    refine h { s with heap := h' } ⟨I.ok, I.os, I.bare, ⟨fun b o e n hb hx => ?_, fun b o e n hb hx => ?_, I.base.free, fun b o e hx => ?_, I.base.tups, I.base.frzs, I.base.tbls⟩, ⟨m, hn.sameBut hs (Ne.symm (cne x c hc)), fun j y v' e1 e2 e3 => ?_⟩, fun y c' e => ?_, I.free, I.freeC, fun p hp => ?_, tracked ⟨oc, hoc, I.freeC x c hc⟩ hs, by simpa using I.len⟩ ⟨c, hs, .inr hc⟩
    · exact (hs.2 b (Nat.ne_of_lt (Nat.lt_of_lt_of_le (Heap.lt_size e) (I.ok.cab x c hfn hc)))).trans (I.base.keep b o e n hb hx)
    · obtain ⟨sl, e1⟩ := I.base.slot b o e n hb hx
      exact ⟨sl, (hs.2 b (Nat.ne_of_lt (Nat.lt_of_lt_of_le (Heap.lt_size e) (I.ok.cab x c hfn hc)))).trans e1⟩
    · obtain ⟨o', e1⟩ := I.base.there b o e hx
      exact ⟨o', (hs.2 b (Nat.ne_of_lt (Nat.lt_of_lt_of_le (Heap.lt_size e) (I.ok.cab x c hfn hc)))).trans e1⟩
    · by_cases hj : j=i
      · subst hj
        rw [hi] at e1;cases e1
        rw [List.getElem?_set_self hiσ] at e2
        cases e2
        exact ⟨u, r, .inr ⟨.inl hk, c, hc, hc'⟩⟩
      · rw [List.getElem?_set_ne (Ne.symm hj)] at e2
        obtain ⟨u', r', q⟩ := hl j y v' e1 e2 e3
        refine ⟨u', r', ?_⟩
        rcases q with q | ⟨k, c', e, z'⟩
        · exact .inl q
        · refine .inr ⟨k, c', e, z'.sameBut hs ?_⟩
          rintro rfl
          exact hj (fb hN e1 (I.ok.inj _ _ _ e hc ▸ hi))
    · by_cases hcc : c'=c
      · subst hcc;exact ⟨_, hc'⟩
      · obtain ⟨w2, z2⟩ := I.cell y c' e
        exact ⟨w2, z2.sameBut hs hcc⟩
    · obtain ⟨e, n, ne, nf, d⟩ := I.pin p hp
      refine ⟨(hs.2 p.1 ?_).trans e, n, ne, nf, d⟩
      intro q
      rw [q, hoc] at e
      have q' : oc=p.2 := Option.some.inj e
      exact d w' (by rw [← q'];exact hocd)
theorem dv {M : Model}{A : Around}{E : Value → Shared → Prop}{i : Nat}{x : Str}{v : V}{u : Value}{Q : Unit → Shared → Prop}(I : Inv X pins σ H s)(hN : X.N.Nodup)(hi : X.N[i]? = some x)(hx : Loc X.env.scope x)(r : aO v u)
    (h : ∀ s', Inv X pins (σ.set i (some v)) H s' → Q () s') (hf : X.fn x=true ∨ X.env.scope.names.lookup x=some .local := by first | exact .inl rfl | exact .inr rfl | assumption) : wpAny M A (storeName X.env x u) Q E s :=
  fP I hN hi hx r (fun s' I' _ => h s' I') hf
theorem Inv.call' {s' : Shared}{ch : List Addr}(I : Inv X pins σ H s)(ho : s'.os=s.os)(u : Un (frs X.stack) ch H H' s.heap s'.heap)(hok : HOk X.prog X.w H' s'.heap)(hg : AllBare s'.gens)
    (hch : ∀ b∈ch, (b∈X.ex ∨ X.s₀.heap.objs.size≤b) ∧ b≠X.env.locals ∧ (∀ x c, X.env.cells.lookup x=some c → c≠b) ∧ ∀ p∈X.pn++pins, p.1≠b) : Inv X pins σ H' s' := by
  obtain ⟨h', g', d', t', o'⟩ := s'
  have e : o'=s.os := ho
  subst e
  exact I.call (g' := g') (t' := t') (d' := d') u hok hg hch
end
abbrev XK := Value → Option Addr → Hp → Prop
abbrev St := List (Option V)
abbrev VK := V → Hp → Prop
abbrev TE := St → Hp → VK → Prop
abbrev TT := St → Hp → (Bool → Hp → Prop) → Prop
abbrev TA := St → Hp → (List V → Hp → Prop) → Prop
structure dP where
  nx : St → Hp → Prop
  rt : VK
  bk : St → Hp → Prop := fun _ _ => False
  ct : St → Hp → Prop := fun _ _ => False
abbrev TS := dP → St → Hp → Prop
def EP (X : Cx)(pins : List (Addr × Obj))(σ : St)(Q : VK)(u : Value)(s' : Shared) : Prop := ∃ v H', Inv X pins σ H' s' ∧ aO v u ∧ Q v H'
def TP (X : Cx)(pins : List (Addr × Obj))(σ : St)(Q : Bool → Hp → Prop)(b : Bool)(s' : Shared) : Prop := ∃ H', Inv X pins σ H' s' ∧ Q b H'
def AP (X : Cx)(pins : List (Addr × Obj))(σ : St)(Q : List V → Hp → Prop)(us : List Value)(s' : Shared) : Prop := ∃ vs H', Inv X pins σ H' s' ∧ aL vs us ∧ Q vs H'
def SP (X : Cx)(pins : List (Addr × Obj))(D : dP)(f : Flow)(s' : Shared) : Prop :=
  match f with
  | .next => ∃ σ' H', Inv X pins σ' H' s' ∧ D.nx σ' H'
  | .brk => ∃ σ' H', Inv X pins σ' H' s' ∧ D.bk σ' H'
  | .cont => ∃ σ' H', Inv X pins σ' H' s' ∧ D.ct σ' H'
  | .ret u => ∃ v σ' H', Inv X pins σ' H' s' ∧ aO v u ∧ D.rt v H'
def PE (X : Cx)(e : Expr)(t : TE) : Prop :=
  ∀ (pins : List (Addr × Obj)) (s : Shared) (σ : St) (H : Hp) (Q : VK), Inv X pins σ H s → t σ H Q → wpAny (model X.prog X.w) X.A (eval e X.env) (EP X pins σ Q) X.xe s
def PT (X : Cx)(e : Expr)(t : TT) : Prop :=
  ∀ (pins : List (Addr × Obj)) (s : Shared) (σ : St) (H : Hp) (Q : Bool → Hp → Prop), Inv X pins σ H s → t σ H Q → wpAny (model X.prog X.w) X.A (isTrue e X.env (eval e X.env)) (TP X pins σ Q) X.xe s
def PW (X : Cx)(e : Expr)(t : TT) : Prop :=
  ∀ (whole : Sem Value) (pins : List (Addr × Obj)) (s : Shared) (σ : St) (H : Hp) (Q : Bool → Hp → Prop), Inv X pins σ H s → t σ H Q → wpAny (model X.prog X.w) X.A (isTrue e X.env whole) (TP X pins σ Q) X.xe s
theorem PW.pt {X : Cx}{e : Expr}{t : TT}(h : PW X e t) : PT X e t := h _
def PA (X : Cx)(es : List Expr)(t : TA) : Prop :=
  ∀ (pos : Pos) (pins : List (Addr × Obj)) (s : Shared) (σ : St) (H : Hp) (Q : List V → Hp → Prop), Inv X pins σ H s → t σ H Q → wpAny (model X.prog X.w) X.A (spliced (backTo pos (starEach es X.env))) (AP X pins σ Q) X.xe s
def PS (X : Cx)(st : Stmt)(t : TS) : Prop :=
  ∀ (pins : List (Addr × Obj)) (s : Shared) (σ : St) (H : Hp) (D : dP), Inv X pins σ H s → t D σ H → wpAny (model X.prog X.w) X.A (exec st X.env) (SP X pins D) X.xe s
def PSs (X : Cx)(st : List Stmt)(t : TS) : Prop :=
  ∀ (pins : List (Addr × Obj)) (s : Shared) (σ : St) (H : Hp) (D : dP), Inv X pins σ H s → t D σ H → wpAny (model X.prog X.w) X.A (execs st X.env) (SP X pins D) X.xe s
theorem thn {α : Type}{t : Sem α}{Q Q' : α → Shared → Prop}{M : Model}{A : Around}{E : Value → Shared → Prop}{s : Shared}(h : wpAny M A t Q E s)(hQ : ∀ a s, Q a s → Q' a s) : wpAny M A t Q' E s := wpAny_mono h hQ fun _ _ x => x
section
variable {X : Cx}
inductive kg (i : Nat)(σ : St)(H : Hp)(Q : VK) : Prop
  | mk : ∀ v, (σ[i]? = some (some v)) → (Q v H) → kg i σ H Q
def tC (v : V) : TE := fun _ H Q => Q v H
theorem kh {i : Nat}{x : Str}{pos : Pos}(hN : X.N[i]? = some x)(hv : Vis X.env.scope x)(hd : (x == ("__debug__" : Str))=false := by decide)(hcd : (x == ("__classdict__" : Str))=false := by decide) : PE X (.Name x pos) (kg i) := by
  intro pins s σ H Q I h
  obtain ⟨v, e, h⟩ := h
  obtain ⟨m, hn, hl⟩ := I.loc
  obtain ⟨u, r, l⟩ := hl i x v hN e hv
  have fin : EP X pins σ Q u s := ⟨v, H, I, r, h⟩
  rcases l with ⟨hk, hm⟩ | ⟨hk, c, hc, hcell⟩
  · exact wpAny_Name (wpAny_loadName_local I.ok.kind hk hn hm fin) hd
  · rcases hk with hk | hk
    · exact wpAny_Name (wpAny_loadName_cell I.ok.kind hk hc hcell fin) hd
    · exact wpAny_Name (wpAny_loadName_free I.ok.kind hk hc hcell fin hcd) hd
theorem ae {i j pos} : PE X (.Constant (.int i) j pos) (tC (.int i)) := fun _ _ _ H _ I h => wpAny_Constant_int ⟨.int i, H, I.tok _, ⟨_, rfl⟩, h⟩
theorem iw {b j pos} : PE X (.Constant (.bool b) j pos) (tC (.bl b)) := fun _ _ _ H _ I h => Constant_bool ⟨.bl b, H, I, rfl, h⟩
theorem aE {x j pos} : PE X (.Constant (.str x) j pos) (tC (.str x)) := fun _ _ _ H _ I h => Calls.Constant_str ⟨.str x, H, I.tok _, ⟨_, rfl⟩, h⟩
def Gl (X : Cx)(x : Str) : Prop := X.env.kindOf x=some .globalImplicit
theorem jr {E : Value → Shared → Prop}{pins : List (Addr × Obj)}{s : Shared}{σ : St}{H : Hp}{x : Str}{u : Value}{pos : Pos}{Q : Value → Shared → Prop}(I : Inv X pins σ H s)(hg : Gl X x)(hm : X.mg x=some u)(h : Q u s)
    (hd : (x == ("__debug__" : Str))=false := by decide) : wpAny (model X.prog X.w) X.A (eval (.Name x pos) X.env) Q E s :=
  Calls.Name_function_global I.ok.kind hg (Calls.loadGlobal_global (by rw [I.ok.glob];exact I.mod.glob.keeps I.bk) hm h) hd
theorem dQ {E : Value → Shared → Prop}{pins : List (Addr × Obj)}{s : Shared}{σ : St}{H : Hp}{x : Str}{u : Value}{pos : Pos}{Q : Value → Shared → Prop}(I : Inv X pins σ H s)(hg : Gl X x)(hm : X.mg x=none)(hv : bootBuiltins x=some u)(h : Q u s)
    (hn : x ≠ "__name__" := by decide) (hd : (x == ("__debug__" : Str))=false := by decide) : wpAny (model X.prog X.w) X.A (eval (.Name x pos) X.env) Q E s := by
  obtain ⟨mb, h1, h2⟩ := I.mod.blt
  exact Calls.Name_function_global I.ok.kind hg (Calls.loadGlobal_builtin (by rw [I.ok.glob];exact I.mod.glob.keeps I.bk) hm (by rw [I.ok.blt];exact h1.keeps I.bk) ((h2 x hn).trans hv) h) hd
variable {a b : Expr} {ta tb : TE} {pos : Pos}
inductive IsB (x : V)(H : Hp)(Q : Bool → Hp → Prop) : Prop
  | mk : ∀ c, (x = .bl c) → (Q c H) → IsB x H Q
variable {tA tB' : TT} {rest : List Expr}
def eJ (u : TT)(σ : St)(Q : (Bool → Hp → Prop)) : Bool → Hp → Prop := fun c H1 => if c=true then u σ H1 Q else Q false H1
def nF (t u : TT) : TT := fun σ H Q => t σ H (eJ u σ Q)
theorem js (ha : PT X a tA) : PW X (.BoolOp .And [a] pos) tA := by
  intro wh pins s σ H Q I h
  refine isTrue_and (thn (ha pins s σ H Q I h) fun c s1 e => ?_)
  cases c with
  | true => exact isTrue_and_nil e
  | false => exact e
theorem ki (ha : PT X a tA)(hb : PW X (.BoolOp .And (b::rest) pos) tB') : PW X (.BoolOp .And (a::b::rest) pos) (nF tA tB') := by
  intro wh pins s σ H Q I h
  refine isTrue_and (thn (ha pins s σ H _ I h) fun c s1 zq7 => ?_)
  obtain ⟨H1, I1, q1⟩ := zq7
  cases c with
  | true => exact hb wh pins s1 σ H1 Q I1 q1
  | false => exact ⟨H1, I1, q1⟩
def fQ (ta : TE)(tb : TE)(σ : St)(Q : VK) : Bool → Hp → Prop := fun c H1 => if c=true then ta σ H1 Q else tb σ H1 Q
def tIf (t : TT)(ta tb : TE) : TE := fun σ H Q => t σ H (fQ ta tb σ Q)
theorem dw {c : Expr}(hc : PT X c tA)(ha : PE X a ta)(hb : PE X b tb) : PE X (.IfExp c a b pos) (tIf tA ta tb) := by
  intro pins s σ H Q I h
  refine wpAny_IfExp (thn (hc pins s σ H _ I h) fun d s1 zq12 => ?_)
  obtain ⟨H1, I1, q1⟩ := zq12
  cases d with
  | true => exact ha pins s1 σ H1 Q I1 q1
  | false => exact hb pins s1 σ H1 Q I1 q1
end
def SqL (K : PySem.W.Frag)(H : Hp)(a : Addr)(xs : List V) : Prop :=
  Rd H a (.lst xs) ∨
    ∃ (o : Obj) (its : Array Value) (n : Nat), K.lookup a=some o ∧ o.cls = .type "list" ∧ o.dict=none ∧ o.data = .seq its n ∧ its.size≤sizeLine ∧ aL xs its.toList
def SqT (K : PySem.W.Frag)(H : Hp)(a : Addr)(xs : List V) : Prop :=
  Rd H a (.tup xs) ∨
    ∃ (o : Obj) (its : Array Value) (n : Nat), K.lookup a=some o ∧ o.cls = .type "tuple" ∧ o.data = .seq its n ∧ its.size≤sizeLine ∧ aL xs its.toList
def nG : Value → Option V
  | .none => some .non
  | .bool b => some (.bl b)
  | .int i _ => some (.int i)
  | .str x _ => some (.str x)
  | .bytes b _ => some (.byt b)
  | .float b _ => some (.flt b)
  | .ref a => some (.ref a)
  | .type n => some (.ty n)
  | _ => none
theorem aO.abs {x : V}{u : Value}(r : aO x u) : nG u=some x := by
  cases x with
  | non => cases r;rfl
  | bl _ => cases r;rfl
  | int _ => obtain ⟨t, rfl⟩ := r;rfl
  | str _ => obtain ⟨t, rfl⟩ := r;rfl
  | byt _ => obtain ⟨t, rfl⟩ := r;rfl
  | flt _ => obtain ⟨t, rfl⟩ := r;rfl
  | ref _ => cases r;rfl
  | ty _ => cases r;rfl
theorem aO.inj {x y : V}{u : Value}(r : aO x u)(q : aO y u) : x=y := Option.some.inj (r.abs.symm.trans q.abs)
theorem aL.inj : ∀ {xs ys : List V} {us : List Value}, aL xs us → aL ys us → xs=ys
  | _, _, _, .nil, .nil => rfl
  | _, _, _, .cons r t, .cons r' t' => by rw [r.inj r', aL.inj t t']
section
variable {X : Cx} {pins : List (Addr × Obj)} {σ : St} {H : Hp} {s : Shared} {a : Addr} {xs ys : List V}
theorem SqL.of {K : PySem.W.Frag}(h : H a=some (.lst xs)) : SqL K H a xs := .inl (.inl h)
theorem SqT.of {K : PySem.W.Frag}(h : H a=some (.tup xs)) : SqT K H a xs := .inl (.inl h)
theorem Inv.list (I : Inv X pins σ H s)(h : SqL X.K H a xs) : ∃ its : List Value, aL xs its ∧ PlainL s.heap a its.toArray ∧ xs.length≤sizeLine := by
  rcases h with h | ⟨o, its, n, hk, hc, hd, hs, hz, r⟩
  · obtain ⟨z, its, n, r, e⟩ := h.ok I.hok
    exact ⟨its, r, ⟨_, n, e, rfl, rfl, rfl⟩, z⟩
  · refine ⟨its.toList, r, ⟨o, n, I.kIn a o hk, hc, hd, by simpa using hs⟩, ?_⟩
    have e := r.length
    simp only [Array.length_toList] at e
    omega
theorem Inv.tuple (I : Inv X pins σ H s)(h : SqT X.K H a xs) : ∃ its : List Value, aL xs its ∧ IsTup s.heap a its.toArray ∧ xs.length≤sizeLine := by
  rcases h with h | ⟨o, its, n, hk, hc, hs, hz, r⟩
  · obtain ⟨z, its, r, p, _⟩ := h.ok I.hok
    exact ⟨its, r, p, z⟩
  · refine ⟨its.toList, r, ⟨o, I.kIn a o hk, hc, n, by simpa using hs⟩, ?_⟩
    have e := r.length
    simp only [Array.length_toList] at e
    omega
theorem Inv.list_inj (I : Inv X pins σ H s)(h : SqL X.K H a xs)(h' : SqL X.K H a ys) : xs=ys := by
  obtain ⟨its, r, ⟨o, n, e, _, _, d⟩, _⟩ := I.list h
  obtain ⟨its', r', ⟨o', n', e', _, _, d'⟩, _⟩ := I.list h'
  rw [e] at e';cases e'
  rw [d] at d'
  injection d' with d1 _
  have : its=its' := by simpa using congrArg Array.toList d1
  subst this
  exact r.inj r'
end
abbrev Cx.wish (X : Cx)(E : Value → Shared → Prop) : Cx := { X with xe := E }
abbrev Cx.nox (X : Cx) : Cx := X.wish fun _ _ => False
theorem Cx.Ok.wish {X : Cx}(ok : X.Ok)(E : Value → Shared → Prop) : (X.wish E).Ok :=
  ⟨ok.mod, ok.kind, ok.glob, ok.blt, ok.above, ok.inj, ok.has, ok.cab, ok.hd, ok.frames, ok.stk, ok.exf, ok.bs, ok.bsz, ok.noex, ok.exfs, ok.funs, ok.frf⟩
theorem Cx.Ok.unwish {X : Cx}{E : Value → Shared → Prop}(ok : (X.wish E).Ok) : X.Ok :=
  ⟨ok.mod, ok.kind, ok.glob, ok.blt, ok.above, ok.inj, ok.has, ok.cab, ok.hd, ok.frames, ok.stk, ok.exf, ok.bs, ok.bsz, ok.noex, ok.exfs, ok.funs, ok.frf⟩
section
variable {X : Cx} {pins : List (Addr × Obj)} {σ : St} {H : Hp} {s : Shared} {E : Value → Shared → Prop}
theorem Inv.wish (I : Inv X pins σ H s)(E : Value → Shared → Prop) : Inv (X.wish E) pins σ H s := ⟨I.ok.wish E, I.os, I.bare, I.base, I.loc, I.cell, I.free, I.freeC, I.pin, I.hok, I.len⟩
theorem Inv.unwish (I : Inv (X.wish E) pins σ H s) : Inv X pins σ H s := ⟨I.ok.unwish, I.os, I.bare, I.base, I.loc, I.cell, I.free, I.freeC, I.pin, I.hok, I.len⟩
theorem SP.unwish {D : dP}{f : Flow}{s' : Shared}(h : SP (X.wish E) pins D f s') : SP X pins D f s' := by
  cases f with
  | next => obtain ⟨σ', H', I, q⟩ := h;exact ⟨σ', H', I.unwish, q⟩
  | brk => obtain ⟨σ', H', I, q⟩ := h;exact ⟨σ', H', I.unwish, q⟩
  | cont => obtain ⟨σ', H', I, q⟩ := h;exact ⟨σ', H', I.unwish, q⟩
  | ret u => obtain ⟨v, σ', H', I, r, q⟩ := h;exact ⟨v, σ', H', I.unwish, r, q⟩
theorem PSs.nox {st : List Stmt}{t : TS}(h : PSs X.nox st t) : PSs X st t := fun pins s σ H D I hw =>
  wpAny_mono (h pins s σ H D (I.wish _) hw) (fun _ _ q => q.unwish) fun _ _ z => False.elim z
end
section
variable {X : Cx} {st : Stmt} {rest : List Stmt} {t u : TS} {e : Expr} {te : TE} {pos : Pos}
def lU : TS := fun D σ H => D.nx σ H
def nH (t u : TS) : TS := fun D σ H => t { D with nx := u D } σ H
theorem bc : PSs X [] lU := fun _ _ σ H _ I h => wpAny_execs_nil ⟨σ, H, I, h⟩
theorem ag (h1 : PS X st t)(h2 : PSs X rest u) : PSs X (st::rest) (nH t u) := by
  intro pins s σ H D I h
  refine wpAny_execs_cons (thn (h1 pins s σ H { D with nx := u D } I h) fun f s1 q => ?_)
  cases f with
  | next =>
    obtain ⟨σ', H', I', q⟩ := q
    exact h2 pins s1 σ' H' D I' q
  | ret v => exact q
  | brk => exact q
  | cont => exact q
theorem ak (h1 : PS X st t) : PSs X [st] t := by
  intro pins s σ H D I h
  refine wpAny_execs_cons (thn (h1 pins s σ H D I h) fun f s1 q => ?_)
  cases f with
  | next => exact wpAny_execs_nil q
  | ret v => exact q
  | brk => exact q
  | cont => exact q
theorem Inv.quiet {pins : List (Addr × Obj)}{σ : St}{H : Hp}{s : Shared}(I : Inv X pins σ H s) : interactive X.env=false := by simp [interactive, I.ok.kind]
def ix (D : dP)(σ : St) : V → Hp → Prop := fun _ H1 => D.nx σ H1
def lV (te : TE) : TS := fun D σ H => te σ H (ix D σ)
theorem fR (he : PE X e te)(hs : swapsWith e none pos.line X.env=pure false := by rfl) : PS X (.Expr e pos) (lV te) := by
  intro pins s σ H D I h
  exact wpAny_Expr_any (thn (he pins s σ H _ I h) fun v s1 zq15 => (by obtain ⟨x, H1, I1, r1, q1⟩ := zq15;exact ⟨σ, H1, I1, q1⟩)) I.quiet hs
def nJ (te : TE) : TS := fun D σ H => te σ H D.rt
theorem aI (he : PE X e te) : PS X (.Return (some e) pos) (nJ te) := by
  intro pins s σ H D I h
  exact wpAny_Return_some (thn (he pins s σ H _ I h) fun v s1 zq16 => (by obtain ⟨x, H1, I1, r1, q1⟩ := zq16;exact ⟨x, σ, H1, I1, r1, q1⟩))
def eK (t : TS)(u : TS)(D : dP)(σ : St) : Bool → Hp → Prop := fun b H1 => if b=true then t D σ H1 else u D σ H1
def nK (c : TT)(t u : TS) : TS := fun D σ H => c σ H (eK t u D σ)
theorem cW {c : Expr}{a b : List Stmt}{tc : TT}(hc : PT X c tc)(ha : PSs X a t)(hb : PSs X b u) : PS X (.If c a b pos) (nK tc t u) := by
  intro pins s σ H D I h
  refine wpAny_If (thn (hc pins s σ H _ I h) fun d s1 zq17 => ?_)
  obtain ⟨H1, I1, q1⟩ := zq17
  cases d with
  | true => exact ha pins s1 σ H1 D I1 q1
  | false => exact hb pins s1 σ H1 D I1 q1
end
abbrev TG := V → St → Hp → (St → Hp → Prop) → Prop
abbrev TGs := List V → St → Hp → (St → Hp → Prop) → Prop
def PG (X : Cx)(target : Expr)(t : TG) : Prop :=
  ∀ (pins : List (Addr × Obj)) (s : Shared) (σ : St) (H : Hp) (v : V) (u : Value) (Q : St → Hp → Prop), Inv X pins σ H s → aO v u → t v σ H Q →
    wpAny (model X.prog X.w) X.A (assign target X.env u) (fun _ s' => ∃ σ' H', Inv X pins σ' H' s' ∧ Q σ' H') X.xe s
def PGs (X : Cx)(ts : List Expr)(t : TGs) : Prop :=
  ∀ (pins : List (Addr × Obj)) (s : Shared) (σ : St) (H : Hp) (vs : List V) (us : List Value) (Q : St → Hp → Prop), Inv X pins σ H s → aL vs us → t vs σ H Q →
    wpAny (model X.prog X.w) X.A (assignInOrder ((assignEach ts X.env).map (·.2)) us) (fun _ s' => ∃ σ' H', Inv X pins σ' H' s' ∧ Q σ' H') X.xe s
abbrev TIp := V → V → Hp → VK → Prop
def PIp (X : Cx)(op : Operator)(t : TIp) : Prop :=
  ∀ (pins : List (Addr × Obj)) (s : Shared) (σ : St) (H : Hp) (x y : V) (v u : Value) (Q : VK), Inv X pins σ H s → aO x v → aO y u → t x y H Q →
    wpAny (model X.prog X.w) X.A (inplaceOp op v u) (EP X pins σ Q) X.xe s
section
variable {X : Cx} {pos : Pos}
def iy (i : Nat) : TG := fun v σ H Q => Q (σ.set i (some v)) H
theorem ar {i : Nat}{x : Str}(hN : X.N.Nodup)(hi : X.N[i]? = some x)(hx : Loc X.env.scope x)(hf : X.fn x=true ∨ X.env.scope.names.lookup x=some .local := by first | exact .inl rfl | exact .inr rfl | assumption) : PG X (.Name x pos) (iy i) := by
  intro pins s σ H v u Q I r h
  exact wpAny_assign_Name (dv I hN hi hx r (fun s' I' => ⟨_, H, I', h⟩) hf)
def nM : TGs := fun vs σ H Q => vs=[] ∧ Q σ H
def lW (t : TG)(u : TGs) : TGs := fun vs σ H Q => ∃ v r, vs=v::r ∧ t v σ H fun σ' H' => u r σ' H' Q
theorem ju : PGs X [] nM := by
  intro pins s σ H vs us Q I r h
  obtain ⟨e, h⟩ := h
  subst e
  cases r
  exact assignInOrder_nil ⟨σ, H, I, h⟩
theorem fc {e : Expr}{es : List Expr}{t : TG}{u : TGs}(h1 : PG X e t)(h2 : PGs X es u)
    (hs : (assignEach (e::es) X.env).map (·.2)=assign e X.env::(assignEach es X.env).map (·.2) := by rfl) : PGs X (e::es) (lW t u) := by
  intro pins s σ H vs us Q I r h
  obtain ⟨v, vr, e1, h⟩ := h
  subst e1
  cases r with
  | cons r rr =>
    rw [hs]
    refine assignInOrder_cons (thn (h1 pins s σ H _ _ _ I r h) fun _ s1 zq18 => ?_)
    obtain ⟨σ1, H1, I1, q1⟩ := zq18
    exact h2 pins s1 σ1 H1 _ _ Q I1 rr q1
def nN (K : PySem.W.Frag)(n : Nat)(t : TGs) : TG := fun v σ H Q => ∃ a xs, v = .ref a ∧ SqT K H a xs ∧ xs.length=n ∧ t xs σ H Q
theorem kj {es : List Expr}{k : Nat}{t : TGs}{n : Nat}(hc : X.calm=true)(h : PGs X es t)
    (hn : (assignEach es X.env).length=n := by rfl) (hst : (assignEach es X.env).findIdx? (·.1)=none := by rfl) : PG X (.Tuple es k pos) (nN X.K n t) := by
  intro pins s σ H v u Q I r hw
  obtain ⟨a, xs, e1, hq, hl, hw⟩ := hw
  subst e1
  cases r
  obtain ⟨its, rv, ht, hz⟩ := I.tuple hq
  refine assign_Tuple_tuple (I.ok.hd hc) ht (by simp [hn, ← hl, rv.length]) hst fun h' hx => ?_
  have I1 : Inv X pins σ H { s with heap := h' } := I.kept (t' := s.toks) fun b o e => hx b o (Nat.ne_of_lt (Heap.lt_size e)) e
  exact h pins _ σ H xs _ Q I1 (by simpa using rv) hw
def fS (g : TG)(D : dP)(σ : St) : V → Hp → Prop := fun x H1 => g x σ H1 D.nx
def m_ (te : TE)(g : TG) : TS := fun D σ H => te σ H (fS g D σ)
theorem aH {i : Nat}{x : Str}{e : Expr}{te : TE}{pos' : Pos}(hN : X.N.Nodup)(hi : X.N[i]? = some x)(hx : Loc X.env.scope x)(he : PE X e te)(hs : swapsWith e (some (.Name x pos')) pos.line X.env=pure false := by rfl)(hf : X.fn x=true ∨ X.env.scope.names.lookup x=some .local := by first | exact .inl rfl | exact .inr rfl | assumption) :
    PS X (.Assign [.Name x pos'] e pos) (m_ te (iy i)) := by
  intro pins s σ H D I h
  refine wpAny_Assign_Name (thn (he pins s σ H _ I h) fun v s1 zq23 => ?_) hs
  obtain ⟨y, H1, I1, r1, q1⟩ := zq23
  exact dv I1 hN hi hx r1 (fun s2 I2 => ⟨_, H1, I2, q1⟩) hf
inductive nc (i : Nat)(te : TE)(ti : TIp)(D : dP)(σ : St)(H : Hp) : Prop
  | mk : ∀ x, (σ[i]? = some (some x)) → (te σ H fun y H1 => ti x y H1 fun z H2 => D.nx (σ.set i (some z)) H2) → nc i te ti D σ H
theorem km {i : Nat}{x : Str}{e : Expr}{te : TE}{op : Operator}{ti : TIp}{pos' : Pos}(hN : X.N.Nodup)(hi : X.N[i]? = some x)(hx : Loc X.env.scope x)(he : PE X e te)(ho : PIp X op ti)(hf : X.fn x=true ∨ X.env.scope.names.lookup x=some .local := by first | exact .inl rfl | exact .inr rfl | assumption) :
    PS X (.AugAssign (.Name x pos') op e pos) (nc i te ti) := by
  intro pins s σ H D I h
  obtain ⟨v, e1, h⟩ := h
  obtain ⟨m, hn, hl⟩ := I.loc
  have vis : Vis X.env.scope x := by rcases hx with k | k;exact .inl k;exact .inr (.inl k)
  obtain ⟨u, r, l⟩ := hl i x v hi e1 vis
  refine wpAny_AugAssign_Name ?_
  have go : wpAny (model X.prog X.w) X.A (eval e X.env) (fun w s₂ => wpAny (model X.prog X.w) X.A (inplaceOp op u w) (fun r s₃ => wpAny (model X.prog X.w) X.A (storeName X.env x r) (fun _ => SP X pins D .next) X.xe s₃) X.xe s₂) X.xe s := by
    refine thn (he pins s σ H _ I h) fun w s1 zq25 => ?_
    obtain ⟨y, H1, I1, r1, q1⟩ := zq25
    refine thn (ho pins s1 σ H1 v y u w _ I1 r r1 q1) fun z s2 zq26 => ?_
    obtain ⟨zv, H2, I2, r2, q2⟩ := zq26
    exact dv I2 hN hi hx r2 (fun s3 I3 => ⟨_, H2, I3, q2⟩) hf
  rcases l with ⟨hk, hm⟩ | ⟨hk, c, hc, hcell⟩
  · exact wpAny_loadName_local I.ok.kind hk hn hm go
  · rcases hk with hk | hk
    · exact wpAny_loadName_cell I.ok.kind hk hc hcell go
    · rcases hx with k | k
      · have : X.env.scope.names.lookup x=some .free := hk
        rw [k] at this;cases this
      · have : X.env.scope.names.lookup x=some .free := hk
        rw [k] at this;cases this
def i4 (c : TT)(tb : TS) : TS := fun D σ H => ∃ W : Nat → St → Hp → Prop, (∃ m, W m σ H) ∧ ∀ m σ H, W m σ H →
  c σ H fun b H1 => if b=true then ∃ N : St → Hp → Prop, (∀ σ' H', N σ' H' → ∃ m', m' < m ∧ W m' σ' H') ∧ tb { D with nx := N, ct := N, bk := D.nx } σ H1 else D.nx σ H1
theorem iz {c : Expr}{body : List Stmt}{tc : TT}{tb : TS}(hp : PassesOwn (model X.prog X.w) X.A X.env X.xe)(hc : PT X c tc)(hb : PSs X body tb) : PS X (.While c body [] pos) (i4 tc tb) := by
  intro pins s σ H D I h
  obtain ⟨W, ⟨m0, w0⟩, turn⟩ := h
  refine wpAny_While (codeAny_whileLoop (fun n s' => ∃ σ' H', Inv X pins σ' H' s' ∧ W n σ' H') ?_ m0 ⟨σ, H, I, w0⟩)
  rintro n s1 ⟨σ1, H1, I1, w1⟩
  refine wpAny_passesOwn hp (thn (hc pins s1 σ1 H1 _ I1 (turn n σ1 H1 w1)) fun b s2 zq33 => ?_)
  obtain ⟨H2, I2, q2⟩ := zq33
  cases b with
  | true =>
    obtain ⟨N, hN, q2⟩ := q2
    rw [if_pos rfl]
    refine wpAny_passesOwn hp (thn (hb pins s2 σ1 H2 _ I2 q2) fun f s3 q3 => ?_)
    cases f with
    | next =>
      obtain ⟨σ3, H3, I3, n3⟩ := q3
      obtain ⟨m', hm, w3⟩ := hN σ3 H3 n3
      exact ⟨m', hm, σ3, H3, I3, w3⟩
    | cont =>
      obtain ⟨σ3, H3, I3, n3⟩ := q3
      obtain ⟨m', hm, w3⟩ := hN σ3 H3 n3
      exact ⟨m', hm, σ3, H3, I3, w3⟩
    | brk => exact q3
    | ret v => exact q3
  | false =>
    rw [if_neg Bool.false_ne_true]
    exact wpAny_execs_nil ⟨σ1, H2, I2, q2⟩
end
structure It where
  go : Nat → Hp → Prop
  yld : Nat → Hp → V → Hp → Prop
  stop : Nat → Hp → Prop
def fe (X : Cx)(pins : List (Addr × Obj))(H : Hp)(b : Addr) : Prop :=
  H b=none ∧ b≠X.env.locals ∧ b∉X.fs ∧ (b∈X.ex ∨ X.s₀.heap.objs.size≤b) ∧ (∀ x c, X.env.cells.lookup x=some c → c≠b) ∧ ∀ p∈X.pn++pins, p.1≠b
theorem Inv.fpOk {X : Cx}{pins : List (Addr × Obj)}{σ : St}{H H' : Hp}{s : Shared}{b : Addr}(I : Inv X pins σ H s)(hb : s.heap.objs.size≤b)(hn : H' b=none) : fe X pins H' b := by
  refine ⟨hn, Nat.ne_of_gt (Nat.lt_of_lt_of_le I.lt hb), I.nofs hb, .inr (Nat.le_trans I.sz hb), fun x c e z => ?_, fun p hp z => ?_⟩
  · obtain ⟨v, q⟩ := I.cell x c e
    exact absurd (Nat.lt_of_lt_of_le q.lt (by rw [z];exact hb)) (Nat.lt_irrefl _)
  · exact absurd (Nat.lt_of_lt_of_le (Heap.lt_size (I.pin p hp).1) (by rw [z];exact hb)) (Nat.lt_irrefl _)
structure j9 (P : Program) (w : World) (K : PySem.W.Frag) (tg : Expr) (J : It) (fp : List Addr) (it : Addr) (tn : Nat → Heap → Prop) : Prop where
  mem : it∈fp
  obj : ∀ i h, tn i h → ∀ b∈fp, ∃ o, h.get? b=some o ∧ ∀ v, o.data ≠ .cell v
  keep : ∀ i h h', tn i h → (∀ b∈fp, ∀ o, h.get? b=some o → h'.get? b=some o) → tn i h'
  item : ∀ (X : Cx), X.prog=P → X.w=w → X.K=K → X.calm=true → ∀ (i : Nat) (pins : List (Addr × Obj)) (s : Shared) (σ : St) (H : Hp) (E : Value → Shared → Prop), Inv X pins σ H s → (∀ b∈fp, fe X pins H b) → tn i s.heap → J.go i H →
    wpAny (model P w) X.A (pyNext (.ref it)) (fun r s1 => ∃ u, r=some u ∧
      wpAny (model P w) X.A (letOwnedTupleGo tg (.ref it) u) (fun _ s2 => ∃ x H', Inv X pins σ H' s2 ∧ aO x u ∧ J.yld i H x H' ∧ tn (i+1) s2.heap ∧ ∀ b∈fp, H' b=none) E s1) E s
  done : ∀ (X : Cx), X.prog=P → X.w=w → X.K=K → X.calm=true → ∀ (i : Nat) (pins : List (Addr × Obj)) (s : Shared) (σ : St) (H : Hp) (E : Value → Shared → Prop), Inv X pins σ H s → (∀ b∈fp, fe X pins H b) → tn i s.heap → J.stop i H →
    wpAny (model P w) X.A (pyNext (.ref it)) (fun r s1 => r=none ∧ Inv X pins σ H s1) E s
  self : ∀ (A : Around) (i : Nat) (s : Shared) (Q : Value → Shared → Prop) (E : Value → Shared → Prop), tn i s.heap → Q (.ref it) s → wpAny (model P w) A (pyIter (.ref it)) Q E s
abbrev TI := St → Hp → (It → Hp → Prop) → Prop
def PIE (X : Cx)(pins : List (Addr × Obj))(σ : St)(tg : Expr)(R : It → Hp → Prop)(itv : Value)(s2 : Shared) : Prop :=
  ∃ (it : Addr) (fp : List Addr) (tn : Nat → Heap → Prop) (J : It) (H' : Hp), itv = .ref it ∧ Inv X pins σ H' s2 ∧ j9 X.prog X.w X.K tg J fp it tn ∧ tn 0 s2.heap ∧ (∀ b∈fp, fe X pins H' b) ∧ R J H'
def PI (X : Cx)(tg iter : Expr)(wi : TI) : Prop :=
  ∀ (pins : List (Addr × Obj)) (s : Shared) (σ : St) (H : Hp) (R : It → Hp → Prop), Inv X pins σ H s → wi σ H R →
    wpAny (model X.prog X.w) X.A (eval iter X.env) (fun v s1 => wpAny (model X.prog X.w) X.A (pyIter v) (PIE X pins σ tg R) X.xe s1) X.xe s
theorem jw {M : Model}{A : Around}{E : Value → Shared → Prop}{s : Shared}{tg : Expr}{it : Addr}{u : Value}{o : Obj}{n : String}{vs : Array Value}{Q : Unit → Shared → Prop}(ho : s.heap.get? it=some o)(hc : o.cls = .type n)(hd : o.data = .fields vs)
    (hn : ["enumerate", "zip", "dict_itemiterator", "dict_reverseitemiterator", "odict_iterator", "itertools.zip_longest", "itertools.pairwise"].contains n=false) (hQ : Q () s) : wpAny M A (letOwnedTupleGo tg (.ref it) u) Q E s := by
  unfold letOwnedTupleGo
  cases tg <;> first
    | exact wpAny_pure hQ
    | (cases u <;> first
        | exact wpAny_pure hQ
        | (refine wpAny_bind (wpAny_load ho ?_)
           rw [hc, hd]
           show wpAny M A (if (["enumerate", "zip", "dict_itemiterator", "dict_reverseitemiterator", "odict_iterator", "itertools.zip_longest", "itertools.pairwise"].contains n && vs[0]? == some (rawInt _))=true then _ else _) Q E s
           rw [if_neg (by intro h;rw [hn, Bool.false_and] at h;cases h)]
           exact wpAny_pure hQ))
def Itl (K : PySem.W.Frag)(a : Addr) : It :=
  ⟨fun i H => ∃ xs x, SqL K H a xs ∧ xs[i]? = some x, fun i H x H' => H'=H ∧ ∀ xs, SqL K H a xs → xs[i]? = some x, fun i H => ∃ xs, SqL K H a xs ∧ xs.length≤i⟩
def Itr (lo : Int)(n : Nat) : It := ⟨fun i _ => i < n, fun i H x H' => H'=H ∧ x = .int (lo+i), fun i _ => n≤i⟩
theorem fU {P : Program}{w : World}{K : PySem.W.Frag}{tg : Expr}(a it : Addr) : j9 P w K tg (Itl K a) [it] it (fun i h => h.IsListIter it a i) where
  mem := by simp
  obj := fun i h st b hb => by
    have e : b=it := by simpa using hb
    subst e
    obtain ⟨o, e, c, d⟩ := st
    exact ⟨o, e, fun v z => by rw [d] at z;cases z⟩
  keep := fun i h h' st k => st.at fun o e => k it (by simp) o e
  item := by
    intro X hP hw hK hc i pins s σ H E I hf st hg
    subst hP hw hK
    obtain ⟨xs, x, hq, hx⟩ := hg
    obtain ⟨its, rv, p, hz⟩ := I.list hq
    obtain ⟨u, hu, ru⟩ := rv.get hx
    obtain ⟨f0, f1, f2, f3, f4, f5⟩ := hf it (by simp)
    refine wpAny_pyNext_list_item st p.isList (x := u) (by simpa using hu) fun h' st' sb => ?_
    have I1 : Inv X pins σ H { s with heap := h' } := I.turned (t' := s.toks) (fun b o hb e => (sb.2 b hb).trans e) f0 f1 f3 f4 f5
    obtain ⟨o, e, c, d⟩ := id st'
    exact ⟨u, rfl, jw (s := { s with heap := h' }) e c d (by decide) ⟨x, H, I1, ru, ⟨rfl, fun ys hy => by rw [I.list_inj hy hq];exact hx⟩, st', fun b hb => (hf b hb).1⟩⟩
  done := by
    intro X hP hw hK hc i pins s σ H E I hf st hg
    subst hP hw hK
    obtain ⟨xs, hq, hx⟩ := hg
    obtain ⟨its, rv, p, hz⟩ := I.list hq
    obtain ⟨f0, f1, f2, f3, f4, f5⟩ := hf it (by simp)
    have hl := rv.length
    exact wpAny_pyNext_list_end (I.ok.hd hc) st p.isList (by simp;omega) fun h' eb => ⟨rfl, I.turned (t' := s.toks) (fun b o hb e => eb b o hb e) f0 f1 f3 f4 f5⟩
  self := fun _ _ _ _ _ st h => wpAny_pyIter_listiter st h
theorem fB {P : Program}{w : World}{K : PySem.W.Frag}{tg : Expr}(it : Addr)(lo : Int)(n : Nat) : j9 P w K tg (Itr lo n) [it] it (fun i h => IsRangeIter h it (lo+(i : Nat)*1) ((n : Int) - (i : Nat)) 1) where
  mem := by simp
  obj := fun i h st b hb => by
    have e : b=it := by simpa using hb
    subst e
    exact ⟨_, st, fun v z => by
      have z' : Data.fields _=Data.cell v := z
      cases z'⟩
  keep := fun i h h' st k => k it (by simp) _ st
  item := by
    intro X hP hw hK hc i pins s σ H E I hf st hg
    subst hP hw hK
    obtain ⟨f0, f1, f2, f3, f4, f5⟩ := hf it (by simp)
    have W := Walks.range (prog := X.prog) (w := X.w) (I.ok.hd hc) it lo 1 n
    refine W.item i s _ _ hg st fun v h' tk hv st' kk => ?_
    obtain ⟨t, rfl⟩ := hv
    have I1 : Inv X pins σ H { s with heap := h', toks := tk } := I.turned (fun b o hb e => kk b o (by simpa using hb) e) f0 f1 f3 f4 f5
    refine ⟨_, rfl, jw (s := { s with heap := h', toks := tk }) (n := "range_iterator") st' rfl rfl (by decide) ⟨.int (lo+i), H, I1, ⟨t, ?_⟩, ⟨rfl, rfl⟩, st', fun b hb => (hf b hb).1⟩⟩
    rw [Int.mul_one]
  done := by
    intro X hP hw hK hc i pins s σ H E I hf st hg
    subst hP hw hK
    obtain ⟨f0, f1, f2, f3, f4, f5⟩ := hf it (by simp)
    exact wpAny_pyNext_range_end (I.ok.hd hc) st (by have : n≤i := hg;omega) fun h' eb => ⟨rfl, I.turned (t' := s.toks) (fun b o hb e => eb b o hb e) f0 f1 f3 f4 f5⟩
  self := fun _ _ _ _ _ st h => wpAny_pyIter_rangeiter st h
section
variable {X : Cx} {tg : Expr}
def lX (K : PySem.W.Frag)(tl : TE) : TI := fun σ H R => tl σ H fun x H1 => ∃ a, x = .ref a ∧ (∃ xs, SqL K H1 a xs) ∧ R (Itl K a) H1
theorem bM {l : Expr}{tl : TE}(hl : PE X l tl) : PI X tg l (lX X.K tl) := by
  intro pins s σ H R I h
  refine thn (hl pins s σ H _ I h) fun v s1 zq34 => ?_
  obtain ⟨x, H1, I1, r1, q1⟩ := zq34
  obtain ⟨a, e, ⟨xs, hq⟩, q⟩ := q1
  subst e
  cases r1
  obtain ⟨its, rv, p, hz⟩ := I1.list hq
  refine wpAny_pyIter_list p.isList ?_
  refine ⟨s1.heap.objs.size, [s1.heap.objs.size], _, _, H1, rfl, I1.kept (t' := s1.toks) fun b o e => Heap.get?_push_of_some _ e, fU a _, ⟨_, Heap.get?_push_size _ rfl, rfl, rfl⟩, fun b hb => ?_, q⟩
  have e : b=s1.heap.objs.size := by simpa using hb
  subst e
  exact I1.fpOk (Nat.le_refl _) (I1.hok.fresh (Nat.le_refl _))
theorem ff {pins : List (Addr × Obj)}{σ : St}{H : Hp}{s : Shared}{R : It → Hp → Prop}{E : Value → Shared → Prop}{lo hi : Int}{t u v : Tok}{tk : Nat}(I : Inv X pins σ H s)(h1 : -(2 ^ 62)≤lo)(h2 : lo < 2 ^ 62)(h3 : -(2 ^ 62)≤hi)(h4 : hi < 2 ^ 62)
    (q : R (Itr lo (hi - lo).toNat) H) : wpAny (model X.prog X.w) X.A (pyIter (.ref s.heap.objs.size)) (PIE X pins σ tg R) E { s with heap := s.heap.push { cls := .type "range", data := .fields #[.int lo t, .int hi u, .int 1 v] }, toks := tk } := by
  refine wpAny_pyIter_range (IsRange.new ..) (small_one h1 h2 h3 h4) ?_
  have I1 : Inv X pins σ H { s with heap := s.heap.push { cls := .type "range", data := .fields #[.int lo t, .int hi u, .int 1 v] }, toks := tk } := I.kept fun b o e => Heap.get?_push_of_some _ e
  refine ⟨(s.heap.push { cls := .type "range", data := .fields #[.int lo t, .int hi u, .int 1 v] }).objs.size, [(s.heap.push { cls := .type "range", data := .fields #[.int lo t, .int hi u, .int 1 v] }).objs.size], _, _, H, rfl,
    I1.kept (t' := tk) fun b o e => Heap.get?_push_of_some _ e, fB _ lo (hi - lo).toNat, ?_, fun b hb => ?_, q⟩
  · have e1 : lo+((0 : Nat) : Int)*1=lo := by simp
    have e2 : (((hi - lo).toNat : Nat) : Int) - ((0 : Nat) : Int)=Builtin.Range.rangeSize lo hi 1 := by rw [rangeSize_one];split <;> omega
    show IsRangeIter _ _ (lo+((0 : Nat) : Int)*1) ((((hi - lo).toNat : Nat) : Int) - ((0 : Nat) : Int)) 1
    rw [e1, e2]
    exact Heap.get?_push_size _ rfl
  · have e : b=(s.heap.push { cls := .type "range", data := .fields #[.int lo t, .int hi u, .int 1 v] }).objs.size := by simpa using hb
    subst e
    exact I1.fpOk (Nat.le_refl _) (I1.hok.fresh (Nat.le_refl _))
def lY (ta : TA) : TI := fun σ H R => ta σ H fun vs H1 => ∃ j : Int, vs=[.int j] ∧ -(2 ^ 62)≤j ∧ j < 2 ^ 62 ∧ R (Itr 0 j.toNat) H1
def lZ (ta : TA) : TI := fun σ H R => ta σ H fun vs H1 => ∃ i j : Int, vs=[.int i, .int j] ∧ (-(2 ^ 62)≤i ∧ i < 2 ^ 62 ∧ -(2 ^ 62)≤j ∧ j < 2 ^ 62) ∧ R (Itr i (j - i).toNat) H1
theorem bS {a : Expr}{ta : TA}{p pos : Pos}(hg : Gl X "range")(hm : X.mg "range" = none)(ha : PA X [a] ta)(hs : starEach [a] X.env=[(false, eval a X.env)] := by rfl) : PI X tg (.Call (.Name "range" p) [a] [] pos) (lY ta) := by
  intro pins s σ H R I h
  refine Call_ (dQ I hg hm boot_range (PyProof.Rows.callWith_type1 (thn (ha pos pins s σ H _ I h) fun us s1 zq36 => ?_) hs rfl))
  obtain ⟨vs, H1, I1, r1, q1⟩ := zq36
  obtain ⟨j, e, q1, q2, q⟩ := q1
  subst e
  cases r1 with
  | cons r rr =>
    cases rr
    obtain ⟨t, rfl⟩ := r
    exact call_range_1 (ff I1 (by omega) (by omega) q1 q2 (by simpa using q))
theorem dR {a b : Expr}{ta : TA}{p pos : Pos}(hg : Gl X "range")(hm : X.mg "range" = none)(ha : PA X [a, b] ta)(hs : starEach [a, b] X.env=[(false, eval a X.env), (false, eval b X.env)] := by rfl)(hs2 : starEach [b] X.env=[(false, eval b X.env)] := by rfl) :
    PI X tg (.Call (.Name "range" p) [a, b] [] pos) (lZ ta) := by
  intro pins s σ H R I h
  refine Call_ (dQ I hg hm boot_range (PyProof.Rows.callWith_type1 (thn (ha pos pins s σ H _ I h) fun us s1 zq37 => ?_) (by rw [hs, hs2]) (by rw [hs2];rfl)))
  obtain ⟨vs, H1, I1, r1, q1⟩ := zq37
  obtain ⟨i, j, e, ⟨q1, q2, q3, q4⟩, q⟩ := q1
  subst e
  cases r1 with
  | cons r rr =>
    cases rr with
    | cons r' rr =>
      cases rr
      obtain ⟨t, rfl⟩ := r
      obtain ⟨t', rfl⟩ := r'
      exact call_range_2 (ff I1 q1 q2 q3 q4 q)
def nO (wi : TI)(g : TG)(tb : TS) : TS := fun D σ H => wi σ H fun J H1 => ∃ W : Nat → Nat → St → Hp → Prop, (∃ m, W 0 m σ H1) ∧ ∀ i m σ H, W i m σ H →
  (J.stop i H ∧ D.nx σ H) ∨ (J.go i H ∧ ∃ N : St → Hp → Prop, (∀ σ' H', N σ' H' → ∃ m', m' < m ∧ W (i+1) m' σ' H') ∧ ∀ x H', J.yld i H x H' → g x σ H' fun σ2 H2 => tb { D with nx := N, ct := N, bk := D.nx } σ2 H2)
def cX (fp : List Addr)(h : Heap) : List (Addr × Obj) := fp.filterMap fun b => (h.get? b).map fun o => (b, o)
theorem aU {fp : List Addr}{h : Heap}{b : Addr}{o : Obj}(hb : b∈fp)(e : h.get? b=some o) : (b, o)∈cX fp h := List.mem_filterMap.mpr ⟨b, hb, by rw [e]; rfl⟩
theorem fV {fp : List Addr}{h : Heap}{p : Addr × Obj}(hp : p∈cX fp h) : p.1∈fp ∧ h.get? p.1=some p.2 := by
  obtain ⟨b, hb, e⟩ := List.mem_filterMap.mp hp
  cases q : h.get? b with
  | none => rw [q] at e;cases e
  | some o =>
    rw [q] at e
    have e' : (b, o)=p := Option.some.inj e
    subst e'
    exact ⟨hb, q⟩
theorem Inv.pinned {pins : List (Addr × Obj)}{σ : St}{H : Hp}{s : Shared}{fp : List Addr}(I : Inv X pins σ H s)(hf : ∀ b∈fp, fe X pins H b)(ho : ∀ b∈fp, ∃ o, s.heap.get? b=some o ∧ ∀ v, o.data ≠ .cell v) : Inv X (pins++cX fp s.heap) σ H s :=
  I.pins_of fun p hp => (List.mem_append.mp hp).elim (fun z => I.pin p (List.mem_append_right _ z)) fun z => by
    obtain ⟨hb, e⟩ := fV z
    obtain ⟨f0, f1, f2, _⟩ := hf p.1 hb
    obtain ⟨o, e', d⟩ := ho p.1 hb
    rw [e] at e';cases e'
    exact ⟨e, f0, f1, f2, d⟩
theorem Inv.unpinned {pins pl : List (Addr × Obj)}{σ : St}{H : Hp}{s : Shared}(I : Inv X (pins++pl) σ H s) : Inv X pins σ H s := I.pins_of fun p hp => I.pin p (List.mem_append_right _ (List.mem_append_left _ hp))
theorem bT {iter : Expr}{body : List Stmt}{wi : TI}{g : TG}{tb : TS}{pos : Pos}(hp : PassesOwn (model X.prog X.w) X.A X.env X.xe)(hc : X.calm=true)(hi : PI X tg iter wi)(hg : PG X tg g)(hb : PSs X body tb)
    (hs : ∀ x, foldedSetIterable iter X.env x=pure x := by intro _;rfl) : PS X (.For tg iter body [] pos) (nO wi g tb) := by
  intro pins s σ H D I h
  refine wpAny_For (thn (hi pins s σ H _ I h) fun v s1 h1 => thn h1 fun itv s2 h2 => ?_) hs
  obtain ⟨it, fp, tn, J, H2, e, I2, T, st2, f2, W, ⟨m0, w0⟩, turn⟩ := h2
  subst e
  -- what stays true of the iterator's objects through the loop
  have stat : ∀ {H' : Hp}, (∀ b∈fp, H' b=none) → ∀ b∈fp, fe X pins H' b := fun hn b hb => ⟨hn b hb, (f2 b hb).2⟩
  refine codeAny_forLoop_any (fun n s' => ∃ i σ' H', Inv X pins σ' H' s' ∧ tn i s'.heap ∧ (∀ b∈fp, H' b=none) ∧ W i n σ' H') ?_ m0 ⟨0, σ, H2, I2, st2, fun b hb => (f2 b hb).1, w0⟩
  rintro n s3 ⟨i, σ3, H3, I3, st3, fr3, w3⟩
  rcases turn i n σ3 H3 w3 with ⟨stop, qn⟩ | ⟨go, N, hN, step⟩
  · refine wpAny_passesOwn hp (thn (T.done X rfl rfl rfl hc i pins s3 σ3 H3 X.xe I3 (stat fr3) st3 stop) fun r s4 zq38 => ?_)
    obtain ⟨hr, I4⟩ := zq38
    subst hr
    exact wpAny_execs_nil ⟨σ3, H3, I4, qn⟩
  · refine wpAny_passesOwn hp (thn (T.item X rfl rfl rfl hc i pins s3 σ3 H3 X.xe I3 (stat fr3) st3 go) fun r s4 zq39 => ?_)
    obtain ⟨u, hr, h4⟩ := zq39
    subst hr
    refine wpAny_passesOwn hp (thn h4 fun _ s5 zq40 => ?_)
    obtain ⟨x, H5, I5, r5, y5, st5, fr5⟩ := zq40
    have I5' := I5.pinned (stat fr5) (T.obj _ _ st5)
    refine wpAny_passesOwn hp (thn (hg _ s5 σ3 H5 x u _ I5' r5 (step x H5 y5)) fun _ s6 zq41 => ?_)
    obtain ⟨σ6, H6, I6, q6⟩ := zq41
    refine wpAny_passesOwn hp (thn (hb _ s6 σ6 H6 _ I6 q6) fun f s7 q7 => ?_)
    have again : ∀ {σ7 : St} {H7 : Hp}, Inv X (pins++cX fp s5.heap) σ7 H7 s7 → N σ7 H7 → ∃ m, m < n ∧ ∃ i σ' H', Inv X pins σ' H' s7 ∧ tn i s7.heap ∧ (∀ b∈fp, H' b=none) ∧ W i m σ' H' := fun {σ7 H7} I7 n7 => by
      obtain ⟨m', hm, w7⟩ := hN σ7 H7 n7
      refine ⟨m', hm, i+1, σ7, H7, I7.unpinned, T.keep _ _ _ st5 fun b hb o e => (I7.pin (b, o) (List.mem_append_right _ (List.mem_append_right _ (aU hb e)))).1, fun b hb => ?_, w7⟩
      obtain ⟨o, e, d⟩ := T.obj _ _ st5 b hb
      exact (I7.pin (b, o) (List.mem_append_right _ (List.mem_append_right _ (aU hb e)))).2.1
    cases f with
    | next => obtain ⟨σ7, H7, I7, n7⟩ := q7;exact again I7 n7
    | cont => obtain ⟨σ7, H7, I7, n7⟩ := q7;exact again I7 n7
    | brk => obtain ⟨σ7, H7, I7, q7⟩ := q7;exact ⟨σ7, H7, I7.unpinned, q7⟩
    | ret v => obtain ⟨x7, σ7, H7, I7, r7, q7⟩ := q7;exact ⟨x7, σ7, H7, I7.unpinned, r7, q7⟩
end
theorem dy {K : PySem.W.Frag}{a : Addr}{xs : List V}{g : TG}{tb : TS}{D : dP}{σ : St}{H : Hp}(Pv : Nat → St → Hp → Prop)(h0 : Pv 0 σ H)(hl : ∀ i σ H, i≤xs.length → Pv i σ H → SqL K H a xs)
    (hs : ∀ i x σ H, xs[i]? = some x → Pv i σ H → g x σ H fun σ2 H2 => tb { D with nx := Pv (i+1), ct := Pv (i+1), bk := D.nx } σ2 H2) (hd : ∀ σ H, Pv xs.length σ H → D.nx σ H) :
    ∃ W : Nat → Nat → St → Hp → Prop, (∃ m, W 0 m σ H) ∧ ∀ i m σ H, W i m σ H →
      ((Itl K a).stop i H ∧ D.nx σ H) ∨ ((Itl K a).go i H ∧ ∃ N : St → Hp → Prop, (∀ σ' H', N σ' H' → ∃ m', m' < m ∧ W (i+1) m' σ' H') ∧ ∀ x H', (Itl K a).yld i H x H' → g x σ H' fun σ2 H2 => tb { D with nx := N, ct := N, bk := D.nx } σ2 H2) := by
  refine ⟨fun i m σ H => m=xs.length - i ∧ i≤xs.length ∧ Pv i σ H, ⟨xs.length, by simp, Nat.zero_le _, h0⟩, ?_⟩
  rintro i m σ H ⟨rfl, hi, p⟩
  have q := hl i σ H hi p
  by_cases hlt : i < xs.length
  · refine .inr ⟨⟨xs, xs[i], q, by simp [hlt]⟩, Pv (i+1), fun σ' H' p' => ⟨xs.length - (i+1), by omega, rfl, hlt, p'⟩, fun x H' y => ?_⟩
    obtain ⟨e, y⟩ := y
    subst e
    exact hs i x σ _ (y xs q) p
  · have e : i=xs.length := by omega
    subst e
    exact .inl ⟨⟨xs, q, Nat.le_refl _⟩, hd σ H p⟩
theorem bU {lo : Int}{n : Nat}{g : TG}{tb : TS}{D : dP}{σ : St}{H : Hp}(Pv : Nat → St → Hp → Prop)(h0 : Pv 0 σ H)
    (hs : ∀ i σ H, i < n → Pv i σ H → g (.int (lo+i)) σ H fun σ2 H2 => tb { D with nx := Pv (i+1), ct := Pv (i+1), bk := D.nx } σ2 H2) (hd : ∀ σ H, Pv n σ H → D.nx σ H) :
    ∃ W : Nat → Nat → St → Hp → Prop, (∃ m, W 0 m σ H) ∧ ∀ i m σ H, W i m σ H →
      ((Itr lo n).stop i H ∧ D.nx σ H) ∨ ((Itr lo n).go i H ∧ ∃ N : St → Hp → Prop, (∀ σ' H', N σ' H' → ∃ m', m' < m ∧ W (i+1) m' σ' H') ∧ ∀ x H', (Itr lo n).yld i H x H' → g x σ H' fun σ2 H2 => tb { D with nx := N, ct := N, bk := D.nx } σ2 H2) := by
  refine ⟨fun i m σ H => m=n - i ∧ i≤n ∧ Pv i σ H, ⟨n, by simp, Nat.zero_le _, h0⟩, ?_⟩
  rintro i m σ H ⟨rfl, hi, p⟩
  by_cases hlt : i < n
  · refine .inr ⟨hlt, Pv (i+1), fun σ' H' p' => ⟨n - (i+1), by omega, rfl, hlt, p'⟩, fun x H' y => ?_⟩
    obtain ⟨e, y⟩ := y
    subst e y
    exact hs i σ _ hlt p
  · have e : i=n := by omega
    subst e
    exact .inl ⟨Nat.le_refl _, hd σ H p⟩
abbrev R2 := V → V → Hp → VK → Prop
def OpR (X : Cx)(f : Value → Value → Sem Value)(r : R2) : Prop :=
  ∀ (pins : List (Addr × Obj)) (s : Shared) (σ : St) (H : Hp) (x y : V) (v u : Value) (Q : VK), Inv X pins σ H s → aO x v → aO y u → r x y H Q →
    wpAny (model X.prog X.w) X.A (f v u) (EP X pins σ Q) X.xe s
def UnR (X : Cx)(f : Value → Sem Value)(r : V → Hp → VK → Prop) : Prop :=
  ∀ (pins : List (Addr × Obj)) (s : Shared) (σ : St) (H : Hp) (x : V) (v : Value) (Q : VK), Inv X pins σ H s → aO x v → r x H Q →
    wpAny (model X.prog X.w) X.A (f v) (EP X pins σ Q) X.xe s
def cB (X : Cx)(f : Value)(r : List V → Hp → VK → Prop) : Prop :=
  ∀ (pins : List (Addr × Obj)) (s : Shared) (σ : St) (H : Hp) (xs : List V) (us : List Value) (Q : VK), Inv X pins σ H s → aL xs us → r xs H Q →
    wpAny (model X.prog X.w) X.A (call f us) (EP X pins σ Q) X.xe s
def nP (X : Cx)(r : V → Hp → (Bool → Hp → Prop) → Prop) : Prop :=
  ∀ (pins : List (Addr × Obj)) (s : Shared) (σ : St) (H : Hp) (x : V) (v : Value) (Q : Bool → Hp → Prop), Inv X pins σ H s → aO x v → r x H Q →
    wpAny (model X.prog X.w) X.A (truthy v) (TP X pins σ Q) X.xe s
def kn (r : R2)(Q : VK)(x : V) : V → Hp → Prop := fun y H2 => r x y H2 Q
def ko (r : R2)(tb : TE)(σ : St)(Q : VK) : V → Hp → Prop := fun x H1 => tb σ H1 (kn r Q x)
def tOp (r : R2)(ta tb : TE) : TE := fun σ H Q => ta σ H (ko r tb σ Q)
def kq (r : V → Hp → VK → Prop)(Q : VK) : V → Hp → Prop := fun x H1 => r x H1 Q
def tUn (r : V → Hp → VK → Prop)(ta : TE) : TE := fun σ H Q => ta σ H (kq r Q)
inductive rI (C : Int → Int → Prop)(g : Int → Int → V)(x : V)(y : V)(H : Hp)(Q : VK) : Prop
  | mk : ∀ i j, (x = .int i) → (y = .int j) → (C i j) → (Q (g i j) H) → rI C g x y H Q
inductive rI0 (g : Int → Int → V)(x : V)(y : V)(H : Hp)(Q : VK) : Prop
  | mk : ∀ i j, (x = .int i) → (y = .int j) → (Q (g i j) H) → rI0 g x y H Q
inductive rU (g : Int → V)(x : V)(H : Hp)(Q : VK) : Prop
  | mk : ∀ i, (x = .int i) → (Q (g i) H) → rU g x H Q
section
variable {X : Cx} {a b c : Expr} {ta tb tc : TE} {pos : Pos}
theorem l_ (ha : PE X a ta)(hb : PE X b tb){pins : List (Addr × Obj)}{s : Shared}{σ : St}{H : Hp}{R : V → V → Hp → Prop}(I : Inv X pins σ H s)
    (h : ta σ H fun x H1 => tb σ H1 fun y H2 => R x y H2) {Q : Value → Shared → Prop} {f : Value → Value → Sem Value}
    (hf : ∀ v u s2 x y H2, Inv X pins σ H2 s2 → aO x v → aO y u → R x y H2 → wpAny (model X.prog X.w) X.A (f v u) Q X.xe s2) :
    wpAny (model X.prog X.w) X.A (eval a X.env) (fun v s₁ => wpAny (model X.prog X.w) X.A (eval b X.env) (fun u s₂ => wpAny (model X.prog X.w) X.A (f v u) Q X.xe s₂) X.xe s₁) X.xe s := by
  refine thn (ha pins s σ H _ I h) fun v s1 zq42 => ?_
  obtain ⟨x, H1, I1, r1, q1⟩ := zq42
  refine thn (hb pins s1 σ H1 _ I1 q1) fun u s2 zq43 => ?_
  obtain ⟨y, H2, I2, r2, q2⟩ := zq43
  exact hf v u s2 x y H2 I2 r1 r2 q2
theorem ao {op : Operator}{r : R2}(ho : OpR X (binaryOp op) r)(ha : PE X a ta)(hb : PE X b tb) : PE X (.BinOp a op b pos) (tOp r ta tb) := by
  intro pins s σ H Q I h
  exact wpAny_BinOp (l_ ha hb I h fun v u s2 x y H2 I2 rx ry q => ho pins s2 σ H2 x y v u Q I2 rx ry q)
theorem ma {op : UnaryOp}{r : V → Hp → VK → Prop}(ho : UnR X (unaryOp op) r)(ha : PE X a ta) : PE X (.UnaryOp op a pos) (tUn r ta) := by
  intro pins s σ H Q I h
  exact UnaryOp_ (thn (ha pins s σ H _ I h) fun v s1 zq44 => (by obtain ⟨x, H1, I1, r1, q1⟩ := zq44;exact ho pins s1 σ H1 x v Q I1 r1 q1))
theorem opI {f : Value → Value → Sem Value}{C : Int → Int → Prop}{g : Int → Int → Int}
    (rule : ∀ (i j : Int) (t u : Tok) (s : Shared) (Q : Value → Shared → Prop) (E : Value → Shared → Prop), C i j → Q (.int (g i j) s.toks) { s with toks := s.toks+1 } → wpAny (model X.prog X.w) X.A (f (.int i t) (.int j u)) Q E s) :
    OpR X f (rI C fun i j => .int (g i j)) := by
  intro pins s σ H x y v u Q I rx ry h
  obtain ⟨i, j, rfl, rfl, hc, q⟩ := h
  obtain ⟨t, rfl⟩ := rx
  obtain ⟨t', rfl⟩ := ry
  exact rule i j t t' s _ _ hc ⟨.int (g i j), H, I.tok _, ⟨_, rfl⟩, q⟩
theorem ng {f : Value → Value → Sem Value}{g : Int → Int → Int}
    (rule : ∀ (i j : Int) (t u : Tok) (s : Shared) (Q : Value → Shared → Prop) (E : Value → Shared → Prop), Q (.int (g i j) s.toks) { s with toks := s.toks+1 } → wpAny (model X.prog X.w) X.A (f (.int i t) (.int j u)) Q E s) :
    OpR X f (rI0 fun i j => .int (g i j)) := by
  intro pins s σ H x y v u Q I rx ry h
  obtain ⟨i, j, rfl, rfl, q⟩ := h
  obtain ⟨t, rfl⟩ := rx
  obtain ⟨t', rfl⟩ := ry
  exact rule i j t t' s _ _ ⟨.int (g i j), H, I.tok _, ⟨_, rfl⟩, q⟩
theorem md {f : Value → Value → Sem Value}{g : Int → Int → Bool}
    (rule : ∀ (i j : Int) (t u : Tok) (s : Shared) (Q : Value → Shared → Prop) (E : Value → Shared → Prop), Q (.bool (g i j)) s → wpAny (model X.prog X.w) X.A (f (.int i t) (.int j u)) Q E s) :
    OpR X f (rI0 fun i j => .bl (g i j)) := by
  intro pins s σ H x y v u Q I rx ry h
  obtain ⟨i, j, rfl, rfl, q⟩ := h
  obtain ⟨t, rfl⟩ := rx
  obtain ⟨t', rfl⟩ := ry
  exact rule i j t t' s _ _ ⟨.bl (g i j), H, I, rfl, q⟩
def nQ (i j : Int) : Prop := 0 < j ∧ j < 1073741824
def nR (i j : Int) : Prop := 0≤j ∧ j≤1000000 ∧ i.natAbs < 2 ^ 64
def lN (i j : Int) : Prop := (-(2 ^ 64) < i ∧ i < 2 ^ 64) ∨ (-(2 ^ 64) < j ∧ j < 2 ^ 64)
theorem lN.ok {i j : Int}(h : lN i j) : IntMulOk i j := by
  rcases h with ⟨h1, h2⟩ | ⟨h1, h2⟩
  · exact .of_left (intBits_le_64 h1 h2)
  · exact .of_right (intBits_le_64 h1 h2)
theorem bt : OpR X (binaryOp .Add) (rI0 fun i j => .int (i+j)) := ng fun _ _ _ _ _ _ _ q => add_int q
theorem bh : OpR X (binaryOp .Sub) (rI0 fun i j => .int (i - j)) := ng fun _ _ _ _ _ _ _ q => sub_int q
theorem aP : OpR X (binaryOp .Mult) (rI lN fun i j => .int (i*j)) := opI fun _ _ _ _ _ _ _ hc q => mul_int q hc.ok
theorem cC : OpR X (binaryOp .FloorDiv) (rI nQ fun i j => .int (i / j)) := opI fun i j _ _ _ _ _ hc q => by
  have h1 : (0 : Int) < j := hc.1
  have h2 : j < 1073741824 := hc.2
  exact floordiv_int (by omega) (by rw [Int.fdiv_eq_ediv_of_nonneg i (by omega)];exact q) (.inl (PyProof.noPylong_small (by omega)))
theorem bH : OpR X (binaryOp .Mod) (rI (fun _ j => 0 < j) fun i j => .int (i % j)) := opI fun i j _ _ _ _ _ hc q => by
  have h1 : (0 : Int) < j := hc
  exact mod_int' (by omega) (by rw [Int.fmod_eq_emod_of_nonneg i (by omega)];exact q)
theorem kr : OpR X (binaryOp .Pow) (rI nR fun i j => .int (i ^ j.toNat)) := opI fun _ _ _ _ _ _ _ hc q => pow_int_small hc.1 hc.2.1 hc.2.2 q
theorem unI {f : Value → Sem Value}{g : Int → Int}
    (rule : ∀ (i : Int) (t : Tok) (s : Shared) (Q : Value → Shared → Prop) (E : Value → Shared → Prop), Q (.int (g i) s.toks) { s with toks := s.toks+1 } → wpAny (model X.prog X.w) X.A (f (.int i t)) Q E s) :
    UnR X f (rU fun i => .int (g i)) := by
  intro pins s σ H x v Q I rx h
  obtain ⟨i, rfl, q⟩ := h
  obtain ⟨t, rfl⟩ := rx
  exact rule i t s _ _ ⟨.int (g i), H, I.tok _, ⟨_, rfl⟩, q⟩
theorem ku : UnR X (unaryOp .USub) (rU fun i => .int (-i)) := unI fun _ _ _ _ _ q => neg_int q
end
def nh : V → V → Bool
  | .non, .non => true | .non, .int _ => true | .int _, .non => true | .non, .bl _ => true | .bl _, .non => true | .non, .str _ => true | .str _, .non => true
  | .int _, .int _ => true | .bl _, .bl _ => true | .str _, .str _ => true | .byt _, .byt _ => true
  | .int _, .str _ => true | .str _, .int _ => true | .bl _, .str _ => true | .str _, .bl _ => true
  | _, _ => false
def rEq : R2 := fun x y H Q => nh x y=true ∧ Q (.bl (decide (x=y))) H
def rNe : R2 := fun x y H Q => nh x y=true ∧ Q (.bl (!decide (x=y))) H
theorem dec_int {i j : Int} : decide (V.int i=V.int j)=(i == j) := by
  rw [Bool.eq_iff_iff]
  simp
theorem i5 {i j : Bool} : decide (V.bl i=V.bl j)=(i == j) := by
  rw [Bool.eq_iff_iff]
  simp
theorem fX {i j : Str} : decide (V.str i=V.str j)=(i == j) := by
  rw [Bool.eq_iff_iff]
  simp
theorem fY {i j : Array UInt8} : decide (V.byt i=V.byt j)=(i.toList == j.toList) := by
  rw [Bool.eq_iff_iff]
  cases i
  cases j
  simp
section
variable {X : Cx} {a b c : Expr} {ta tb tc : TE} {pos : Pos}
theorem aw {pins : List (Addr × Obj)}{σ : St}{H : Hp}{s : Shared}{Q : VK}{k k' : Bool}(I : Inv X pins σ H s)(q : Q (.bl k) H)(e : k=k') : EP X pins σ Q (.bool k') s := by
  subst e
  exact ⟨.bl k, H, I, rfl, q⟩
theorem cq : OpR X (compareOp .Eq) rEq := by
  intro pins s σ H x y v u Q I rx ry h
  obtain ⟨hs, q⟩ := h
  cases x with
  | non =>
    cases rx
    cases y with
    | non => cases ry;exact PySem.EqNone.eq_none_none (aw I q (by simp))
    | bl j => cases ry;exact PySem.EqNone.eq_none_bool (aw I q (by simp))
    | int j => obtain ⟨t', rfl⟩ := ry;exact PySem.EqNone.eq_none_int (aw I q (by simp))
    | str j => obtain ⟨t', rfl⟩ := ry;exact PySem.EqNone.eq_none_str (aw I q (by simp))
    | _ => exact absurd (show false=true from hs) Bool.false_ne_true
  | bl i =>
    cases rx
    cases y with
    | non => cases ry;exact PySem.EqNone.eq_bool_none (aw I q (by simp))
    | bl j => cases ry;exact eq_bool (aw I q i5)
    | str j => obtain ⟨t', rfl⟩ := ry;exact PySem.EqMixed.eq_bool_str (aw I q (by simp))
    | _ => exact absurd (show false=true from hs) Bool.false_ne_true
  | int i =>
    obtain ⟨t, rfl⟩ := rx
    cases y with
    | non => cases ry;exact PySem.EqNone.eq_int_none (aw I q (by simp))
    | int j => obtain ⟨t', rfl⟩ := ry;exact eq_int (aw I q dec_int)
    | str j => obtain ⟨t', rfl⟩ := ry;exact PySem.EqMixed.eq_int_str (aw I q (by simp))
    | _ => exact absurd (show false=true from hs) Bool.false_ne_true
  | str i =>
    obtain ⟨t, rfl⟩ := rx
    cases y with
    | non => cases ry;exact PySem.EqNone.eq_str_none (aw I q (by simp))
    | bl j => cases ry;exact PySem.EqMixed.eq_str_bool (aw I q (by simp))
    | int j => obtain ⟨t', rfl⟩ := ry;exact PySem.EqMixed.eq_str_int (aw I q (by simp))
    | str j => obtain ⟨t', rfl⟩ := ry;exact eq_str (aw I q fX)
    | _ => exact absurd (show false=true from hs) Bool.false_ne_true
  | byt i =>
    obtain ⟨t, rfl⟩ := rx
    cases y with
    | byt j => obtain ⟨t', rfl⟩ := ry;exact PySem.W.eq_bytes (aw I q fY)
    | _ => exact absurd (show false=true from hs) Bool.false_ne_true
  | _ => cases y <;> exact absurd (show false=true from hs) Bool.false_ne_true
theorem fZ : OpR X (compareOp .NotEq) rNe := by
  intro pins s σ H x y v u Q I rx ry h
  obtain ⟨hs, q⟩ := h
  cases x with
  | non =>
    cases rx
    cases y with
    | non => cases ry;exact PySem.EqNone.ne_none_none (aw I q (by simp))
    | bl j => cases ry;exact PySem.EqNone.ne_none_bool (aw I q (by simp))
    | int j => obtain ⟨t', rfl⟩ := ry;exact PySem.EqNone.ne_none_int (aw I q (by simp))
    | str j => obtain ⟨t', rfl⟩ := ry;exact PySem.EqNone.ne_none_str (aw I q (by simp))
    | _ => exact absurd (show false=true from hs) Bool.false_ne_true
  | bl i =>
    cases rx
    cases y with
    | non => cases ry;exact PySem.EqNone.ne_bool_none (aw I q (by simp))
    | bl j => cases ry;exact ne_bool (aw I q (congrArg not i5))
    | str j => obtain ⟨t', rfl⟩ := ry;exact PySem.EqMixed.ne_bool_str (aw I q (by simp))
    | _ => exact absurd (show false=true from hs) Bool.false_ne_true
  | int i =>
    obtain ⟨t, rfl⟩ := rx
    cases y with
    | non => cases ry;exact PySem.EqNone.ne_int_none (aw I q (by simp))
    | int j => obtain ⟨t', rfl⟩ := ry;exact ne_int (aw I q (congrArg not dec_int))
    | str j => obtain ⟨t', rfl⟩ := ry;exact PySem.EqMixed.ne_int_str (aw I q (by simp))
    | _ => exact absurd (show false=true from hs) Bool.false_ne_true
  | str i =>
    obtain ⟨t, rfl⟩ := rx
    cases y with
    | non => cases ry;exact PySem.EqNone.ne_str_none (aw I q (by simp))
    | bl j => cases ry;exact PySem.EqMixed.ne_str_bool (aw I q (by simp))
    | int j => obtain ⟨t', rfl⟩ := ry;exact PySem.EqMixed.ne_str_int (aw I q (by simp))
    | str j => obtain ⟨t', rfl⟩ := ry;exact ne_str (aw I q (congrArg not fX))
    | _ => exact absurd (show false=true from hs) Bool.false_ne_true
  | byt i =>
    obtain ⟨t, rfl⟩ := rx
    cases y with
    | byt j => obtain ⟨t', rfl⟩ := ry;exact PySem.W.ne_bytes (aw I q (congrArg not fY))
    | _ => exact absurd (show false=true from hs) Bool.false_ne_true
  | _ => cases y <;> exact absurd (show false=true from hs) Bool.false_ne_true
theorem jx : OpR X (compareOp .Lt) (rI0 fun i j => .bl (decide (i < j))) := md fun _ _ _ _ _ _ _ q => lt_int q
theorem me : OpR X (compareOp .LtE) (rI0 fun i j => .bl (decide (i≤j))) := md fun _ _ _ _ _ _ _ q => le_int q
theorem mf : OpR X (compareOp .Gt) (rI0 fun i j => .bl (decide (j < i))) := md fun _ _ _ _ _ _ _ q => gt_int q
inductive cD  (x : V)(y : V)(H : Hp)(Q : VK) : Prop
  | mk : ∀ i j, (x = .str i) → (y = .str j) → (Q (.bl (!(Builtin.Str.occurrences j i 0 j.length 1).isEmpty)) H) → cD x y H Q
theorem f_ : OpR X (compareOp .In) cD := by
  intro pins s σ H x y v u Q I rx ry h
  obtain ⟨i, j, rfl, rfl, q⟩ := h
  obtain ⟨t, rfl⟩ := rx
  obtain ⟨t', rfl⟩ := ry
  exact in_str (aw I q rfl)
theorem aK (b : Expr){op : CmpOp}(h : op ≠ .In := by decide)(h2 : op ≠ .NotIn := by decide) : behindInMarks op b=false := by
  have e1 : (op == CmpOp.In)=false := by cases op <;> first | rfl | exact absurd rfl h
  have e2 : (op == CmpOp.NotIn)=false := by cases op <;> first | rfl | exact absurd rfl h2
  cases b <;> simp [behindInMarks, e1, e2]
theorem eL {op : CmpOp}{r : R2}(ho : OpR X (compareOp op) r)(ha : PE X a ta)(hb : PE X b tb)(hm : behindInMarks op b=false) : PE X (.Compare a [op] [b] pos) (tOp r ta tb) := by
  intro pins s σ H Q I h
  exact wpAny_Compare1 (l_ ha hb I h fun v u s2 x y H2 I2 rx ry q => ho pins s2 σ H2 x y v u Q I2 rx ry q) hm
def iA (Q : (Bool → Hp → Prop)) : V → Hp → Prop := fun x H' => IsB x H' Q
def kx (t : TE) : TT := fun σ H Q => t σ H (iA Q)
theorem aF {op : CmpOp}{r : R2}(ho : OpR X (compareOp op) r)(ha : PE X a ta)(hb : PE X b tb)(hm : behindInMarks op b=false) : PT X (.Compare a [op] [b] pos) (kx (tOp r ta tb)) := by
  intro pins s σ H Q I h
  refine wpAny_isTrue_Compare1 (thn (ha pins s σ H _ I h) fun v s1 ⟨x, H1, I1, r1, q1⟩ => thn (hb pins s1 σ H1 _ I1 q1) fun u s2 ⟨y, H2, I2, r2, q2⟩ =>
    thn (ho pins s2 σ H2 x y v u _ I2 r1 r2 q2) fun c s3 ⟨z, H3, I3, r3, k, e, q3⟩ => ?_) hm
  subst e
  cases r3
  exact wpAny_truthy_bool ⟨H3, I3, q3⟩
def nS (K : PySem.W.Frag)(x : V)(H : Hp)(k : Bool) : Prop :=
  match x with
  | .non => k=false
  | .bl b => k=b
  | .int i => k=(i != 0)
  | .str y => y.length≤sizeLine ∧ k=((y.length : Int) != 0)
  | .byt y => y.size≤sizeLine ∧ k=((y.size : Int) != 0)
  | .ref p => (∃ xs, SqL K H p xs ∧ k=!xs.isEmpty) ∨ (∃ xs, SqT K H p xs ∧ k=!xs.isEmpty) ∨ ∃ kvs, H p=some (.dK kvs) ∧ k=!kvs.isEmpty
  | _ => False
theorem fC {κ : Type}{kvs : List (κ × V)}{vs : List (κ × Value)}(r : KV kvs vs) : (!vs.isEmpty)=!kvs.isEmpty := by
  cases r <;> rfl
theorem cY {xs : List V}{its : List Value}(r : aL xs its) : (!its.toArray.isEmpty)=!xs.isEmpty := by
  cases r <;> simp
theorem cZ : (sizeLine : Nat) < 2 ^ 63 := by rw [sizeLine_eq]; decide
inductive ky (K : PySem.W.Frag)(x : V)(H : Hp)(Q : Bool → Hp → Prop) : Prop
  | mk : ∀ k, (nS K x H k) → (Q k H) → ky K x H Q
theorem kz : nP X (ky X.K) := by
  intro pins s σ H x v Q I rx h
  obtain ⟨k, e, q⟩ := h
  have hl := cZ
  have hs : sizeLine=16777216 := sizeLine_eq
  cases x with
  | non =>
    cases rx
    have e' : k=false := e
    subst e'
    exact truthy_none ⟨H, I, q⟩
  | bl b =>
    cases rx
    have e' : k=b := e
    subst e'
    exact wpAny_truthy_bool ⟨H, I, q⟩
  | int i =>
    obtain ⟨t, rfl⟩ := rx
    have e' : k=(i != 0) := e
    subst e'
    exact PySem.P.truthy_int ⟨H, I, q⟩
  | str y =>
    obtain ⟨t, rfl⟩ := rx
    obtain ⟨hy, e'⟩ : y.length≤sizeLine ∧ k=((y.length : Int) != 0) := e
    subst e'
    exact PySem.P.truthy_str (by omega) ⟨H, I.tok _, q⟩
  | byt y =>
    obtain ⟨t, rfl⟩ := rx
    obtain ⟨hy, e'⟩ : y.size≤sizeLine ∧ k=((y.size : Int) != 0) := e
    subst e'
    exact PySem.W.truthy_bytes (by omega) ⟨H, I.tok _, q⟩
  | ref p =>
    cases rx
    have e' : (∃ xs, SqL X.K H p xs ∧ k=!xs.isEmpty) ∨ (∃ xs, SqT X.K H p xs ∧ k=!xs.isEmpty) ∨ ∃ kvs, H p=some (.dK kvs) ∧ k=!kvs.isEmpty := e
    rcases e' with ⟨xs, hx, e'⟩ | ⟨xs, hx, e'⟩ | ⟨kvs, hx, e'⟩
    · subst e'
      obtain ⟨its, r, pl, hz⟩ := I.list hx
      have hlen := r.length
      exact wpAny_truthy_list pl.isList (by simp only [List.size_toArray];omega) ⟨H, I.tok _, by rw [cY r];exact q⟩
    · subst e'
      obtain ⟨its, r, pl, hz⟩ := I.tuple hx
      have hlen := r.length
      exact truthy_tuple pl (by simp only [List.size_toArray];omega) ⟨H, I.tok _, by rw [cY r];exact q⟩
    · subst e'
      obtain ⟨hz, hS, vs, r, m⟩ : kvs.length≤sizeLine ∧ (p == sysModules)=false ∧ ∃ vs, KV kvs vs ∧ s.heap.DictOf (au X.prog X.w) p vs := I.hok p _ hx
      have hlen : kvs.length=vs.length := Paired.length r
      exact wpAny_truthy_dict hS m (by omega) ⟨H, I.tok _, by rw [fC r];exact q⟩
  | _ => exact (show False from e).elim
inductive cg  (x : V)(y : V)(H : Hp)(Q : VK) : Prop
  | mk : ∀ i j, (x = .str i) → (y = .str j) → (i.length+j.length≤sizeLine) → (Q (.str (i++j)) H) → cg x y H Q
theorem bj : OpR X (binaryOp .Add) cg := by
  intro pins s σ H x y v u Q I rx ry h
  obtain ⟨i, j, rfl, rfl, hz, q⟩ := h
  obtain ⟨t, rfl⟩ := rx
  obtain ⟨t', rfl⟩ := ry
  exact add_str (fun t' tk => ⟨.str (i++j), H, I.tok _, ⟨_, rfl⟩, q⟩) hz
theorem cE {x : V}{us : List Value}(r : aL [x] us) : ∃ u, us=[u] ∧ aO x u := by
  cases r with
  | cons r1 r2 => cases r2;exact ⟨_, rfl, r1⟩
theorem mh {x y : V}{us : List Value}(r : aL [x, y] us) : ∃ u w', us=[u, w'] ∧ aO x u ∧ aO y w' := by
  cases r with
  | cons r1 r2 =>
    cases r2 with
    | cons r3 r4 => cases r4;exact ⟨_, _, rfl, r1, r3⟩
theorem dS : cB X (.type "int") (fun xs H Q => (∃ i, xs=[.int i] ∧ Q (.int i) H) ∨ ∃ k, xs=[.bl k] ∧ Q (.int (if k then 1 else 0)) H) := by
  intro pins s σ H xs us Q I r h
  rcases h with ⟨i, rfl, q⟩ | ⟨k, rfl, q⟩
  · obtain ⟨u, rfl, t, rfl⟩ := cE r
    exact call_int_int ⟨.int i, H, I, ⟨_, rfl⟩, q⟩
  · obtain ⟨u, rfl, r1⟩ := cE r
    cases r1
    exact call_int_bool ⟨.int (if k then 1 else 0), H, I.tok _, ⟨_, rfl⟩, q⟩
end
section
variable {prog : Program} {w : World} {A : Around} {E : Value → Shared → Prop} {s : Shared} {K : PySem.W.Frag} {x dx C f : Addr} {mA : Str → Option Value} {name : Str} {v : Value}
end
theorem fN.some_of {v : V}{o : Option Value}(r : fN (some v) o) : ∃ u, o=some u ∧ aO v u := by
  cases o with
  | none => exact (show False from r).elim
  | some u => exact ⟨u, rfl, r⟩
section
variable {P : Program} {w : World} {H H' : Hp} {h h' : Heap} {a C dx : Addr} {fs fs' : List (Str × V)}
end
section
variable {X : Cx} {pins : List (Addr × Obj)} {σ : St} {H : Hp} {s : Shared} {a C dx : Addr} {fs : List (Str × V)} {f : Str} {v : V} {A : Around} {E : Value → Shared → Prop}
end
section
variable {X : Cx} {o e value : Expr} {f : Str} {pos pos' tpos : Pos} {ta tv : TE}
end
section
variable {X : Cx} {pins : List (Addr × Obj)} {σ : St} {H : Hp} {s : Shared} {A : Around} {E : Value → Shared → Prop} {Q : Value → Shared → Prop} {c : Value} {b : Bool}
end
structure c_ (k : Nat) (A : Around) : Prop where
  hd : A.handled=none
  dp : A.depth+3*k+5 < recursionLimit
  un : A.units+16*k+200 < cLine
  gd : A.guards=some []
theorem c_.mono {j k : Nat}{A : Around}(r : c_ k A)(h : j≤k) : c_ j A := ⟨r.hd, by have := r.dp; omega, by have := r.un; omega, r.gd⟩
theorem c_.deeper {k : Nat}{A : Around}(r : c_ (k+1) A)(env : Env) : c_ k (A.deeper env) :=
  ⟨r.hd, by have := r.dp;show A.depth+1+3*k+5 < _;omega, by have := r.un;show A.units+3+16*k+200 < _;omega, r.gd⟩
theorem c_.depth {k : Nat}{A : Around}(r : c_ k A) : A.depth < recursionLimit := by have := r.dp; omega
theorem c_.units {k : Nat}{A : Around}(r : c_ k A) : A.units+64 < cLine := by have := r.un; omega
def nT : TA := fun _ H Q => Q [] H
def iB (Q : (List V → Hp → Prop))(x : V) : List V → Hp → Prop := fun xs H2 => Q (x::xs) H2
def iC (tr : TA)(σ : St)(Q : (List V → Hp → Prop)) : V → Hp → Prop := fun x H1 => tr σ H1 (iB Q x)
def mi (ta : TE)(tr : TA) : TA := fun σ H Q => ta σ H (iC tr σ Q)
section
variable {X : Cx} {e : Expr} {es : List Expr} {te : TE} {t : TA} {pos : Pos}
theorem ah : PA X [] nT := fun _ _ _ _ H Q I h => Calls.spliced_nil ⟨[], H, I, .nil, h⟩
theorem aa (ha : PE X e te)(hr : PA X es t)(hs : starEach (e::es) X.env=(false, eval e X.env)::starEach es X.env := by rfl) : PA X (e::es) (mi te t) := by
  intro pos pins s σ H Q I h
  rw [hs]
  show wpAny _ _ (spliced ((false, eval e X.env)::backTo pos (starEach es X.env))) _ _ s
  refine Calls.spliced_cons (thn (ha pins s σ H _ I h) fun u s1 zq54 => ?_)
  obtain ⟨x, H1, I1, r1, q1⟩ := zq54
  exact thn (hr pos pins s1 σ H1 _ I1 q1) fun us s2 zq55 => (by obtain ⟨xs, H2, I2, r2, q2⟩ := zq55;exact ⟨x::xs, H2, I2, .cons r1 r2, q2⟩)
def jy (Q : VK) : List V → Hp → Prop := fun xs H1 => xs.length≤sizeLine ∧ ∀ p, H1 p=none → Q (.ref p) (upd H1 p (.tup xs))
def nU (t : TA) : TE := fun σ H Q => t σ H (jy Q)
def jz (Q : VK) : List V → Hp → Prop := fun xs H1 => xs.length≤sizeLine ∧ ∀ p, H1 p=none → Q (.ref p) (upd H1 p (.lst xs))
def nV (t : TA) : TE := fun σ H Q => t σ H (jz Q)
theorem gb {x1}(h : PA X es t) : PE X (.Tuple es x1 pos) (nU t) := by
  intro pins s σ H Q I hq
  refine wpAny_Tuple_spliced (thn (h pos pins s σ H _ I hq) fun us s1 ⟨xs, H1, I1, r, z, q⟩ => ⟨by rw [← r.length];exact z, ?_⟩)
  have hf : H1 s1.heap.objs.size=none := I1.hok.fresh (Nat.le_refl _)
  refine ⟨.ref s1.heap.objs.size, upd H1 s1.heap.objs.size (.tup xs), I1.laid (t' := s1.toks) (fun b u e => Heap.get?_push_of_some _ e) (Nat.le_refl _) ?_, rfl, q _ hf⟩
  exact ⟨z, us, r, ⟨_, Heap.get?_push_size _ rfl, rfl, _, rfl⟩, .new _ _ rfl⟩
theorem bI (h : PA X es t) : PE X (.List es pos) (nV t) := by
  intro pins s σ H Q I hq
  refine wpAny_List_spliced (thn (h pos pins s σ H _ I hq) fun us s1 ⟨xs, H1, I1, r, z, q⟩ => ⟨by rw [← r.length];exact z, ?_⟩)
  have hf : H1 s1.heap.objs.size=none := I1.hok.fresh (Nat.le_refl _)
  refine ⟨.ref s1.heap.objs.size, upd H1 s1.heap.objs.size (.lst xs), I1.laid (t' := s1.toks) (fun b u e => Heap.get?_push_of_some _ e) (Nat.le_refl _) ?_, rfl, q _ hf⟩
  exact ⟨z, us, 0, r, Heap.get?_push_size _ rfl⟩
end
abbrev Sp := List V → Hp → VK → XK → Prop
abbrev CXT := List Env → Hp → Shared → XK → Value → Shared → Prop
structure lP (P : Program) (w : World) (K : PySem.W.Frag) (mg : Str → Option Value) (base : Heap) (A : Around) (outer : List Env) (s : Shared) (H : Hp) : Prop where
  frames : A.frames=some outer
  mod : Mod K mg base
  bs : ∀ b o, base.get? b=some o → s.heap.get? b=some o ∧ H b=none
  bsz : base.objs.size≤s.heap.objs.size
  funs : s.heap.FunFrames base outer
  frf : ∀ b∈frs outer, H b=none
  hok : HOk P w H s.heap
  bare : AllBare s.gens
def CE (outer : List Env)(P : Program)(w : World)(H : Hp)(s : Shared)(Q : VK)(u : Value)(s' : Shared) : Prop :=
  ∃ v H', s'.os=s.os ∧ AllBare s'.gens ∧ Un (frs outer) [] H H' s.heap s'.heap ∧ HOk P w H' s'.heap ∧ aO v u ∧ Q v H'
def CR (CX : CXT)(outer : List Env)(P : Program)(w : World)(H : Hp)(s : Shared)(Q : VK)(E : XK)(r : Result)(s' : Shared) : Prop :=
  match r with
  | .ok (.ret u) => CE outer P w H s Q u s'
  | .ok _ => False
  | .error e => CX outer H s E e s'
structure ij (P : Program) (w : World) (K : PySem.W.Frag) (mg : Str → Option Value) (base : Heap) (CX : CXT) (k : Nat) (f : Addr) (fd : FuncData) (ps : List Str) (sp : Sp) : Prop where
  len : ∀ vs H Q E, sp vs H Q E → vs.length=ps.length
  run : ∀ (A : Around) (outer : List Env) (s : Shared) (H : Hp) (args : Args) (us : List Value) (vs : List V) (Q : VK) (E : XK), c_ k A → lP P w K mg base A outer s H → BindsTo s fd args (ps.zip us) → aL vs us → sp vs H Q E →
    codeAny (model P w) A (.call (.ref f) args) (CR CX outer P w H s Q E) s
section
variable {X : Cx} {pins : List (Addr × Obj)} {σ : St} {H : Hp} {s s' : Shared}
theorem Inv.env0 (I : Inv X pins σ H s) : lP X.prog X.w X.K X.mg X.base X.A X.stack s H :=
  ⟨I.ok.frames, I.ok.mod, I.bs, Nat.le_trans I.ok.bsz I.sz, I.stack, I.stkFree, I.hok, I.bare⟩
theorem Inv.after {Q : VK}{u : Value}(I : Inv X pins σ H s)(h : CE X.stack X.prog X.w H s Q u s') : EP X pins σ Q u s' := by
  obtain ⟨v, H', os, bare, un, hok, r, q⟩ := h
  obtain ⟨hh, g, d, t, os'⟩ := s'
  obtain rfl : os'=s.os := os
  exact ⟨v, H', I.call (h' := hh) (g' := g) (d' := d) (t' := t) (ch := []) un hok bare (fun b z => absurd z (by simp)), r, q⟩
end
def iD (sp : Sp)(dvs : List V)(E : XK)(Q : VK) : List V → Hp → Prop := fun vs H1 => sp (vs++dvs) H1 Q E
def kA (sp : Sp)(dvs : List V)(E : XK)(t : TA) : TE := fun σ H Q => t σ H (iD sp dvs E Q)
def fD (K : PySem.W.Frag)(fd : FuncData)(ps : List Str)(ds : List Value) : Prop :=
  ∀ (s : Shared) (us : List Value), K.In s.heap → (us++ds).length=ps.length → BindsTo s fd ⟨us, []⟩ (ps.zip (us++ds))
theorem fD.all {K : PySem.W.Frag}{fd : FuncData}{ps : List Str}(h : ∀ us : List Value, us.length=ps.length → bindArgs fd ⟨us, []⟩=pure (ps.zip us)) : fD K fd ps [] := fun s us _ hl => by
  rw [List.append_nil] at hl ⊢
  exact .of_eq (h us hl)
def gf (CX : CXT)(X : Cx)(E : XK) : Prop := ∀ (pins : List (Addr × Obj)) (σ : St) (H : Hp) (s : Shared) (e : Value) (s' : Shared), Inv X pins σ H s → CX X.stack H s E e s' → X.xe e s'
section
variable {X : Cx} {CX : CXT} {k : Nat} {f C : Addr} {fd : FuncData} {ps : List Str} {sp : Sp} {dvs : List V} {ds : List Value} {E : XK} {x m : Str} {p pos apos : Pos} {e o : Expr} {es : List Expr} {ta : TE} {t : TA}
theorem kB {pins : List (Addr × Obj)}{σ : St}{H : Hp}{s : Shared}{Q : VK}{us : List Value}{vs : List V}(F : ij X.prog X.w X.K X.mg X.base CX k f fd ps sp)(hr : c_ k X.A)(hb : fD X.K fd ps ds)(hd : aL dvs ds)(hx : gf CX X E)
    (I : Inv X pins σ H s) (r : aL vs us) (h : sp (vs++dvs) H Q E) : wpAny (model X.prog X.w) X.A (call (.ref f) us) (EP X pins σ Q) X.xe s := by
  have r2 : aL (vs++dvs) (us++ds) := r.append hd
  have hl : (us++ds).length=ps.length := by rw [← r2.length];exact F.len _ _ _ _ h
  refine wpAny_call (codeAny_mono (F.run X.A X.stack s H ⟨us, []⟩ (us++ds) (vs++dvs) Q E hr I.env0 (hb s us I.kIn hl) r2 h) fun r s' hq => ?_)
  cases r with
  | error e => exact hx pins σ H s e s' I hq
  | ok fl =>
    cases fl with
    | ret u => exact I.after hq
    | next => exact False.elim hq
    | brk => exact False.elim hq
    | cont => exact False.elim hq
theorem jA (F : ij X.prog X.w X.K X.mg X.base CX k f fd ps sp)(hr : c_ k X.A)(hg : Gl X x)(hm : X.mg x=some (.ref f))(hk : PySem.W.keepIn X.K (.ref f)=true)(hb : fD X.K fd ps ds)(hd : aL dvs ds)(hx : gf CX X E)
    (ha : PA X (e::es) t) (hdb : (x == ("__debug__" : Str))=false := by decide) (he : starEach (e::es) X.env=(false, eval e X.env)::starEach es X.env := by rfl) (hpl : (backTo pos (starEach es X.env)).any (·.1)=false := by rfl) :
    PE X (.Call (.Name x p) (e::es) [] pos) (kA sp dvs E t) := by
  intro pins s σ H Q I h
  refine wpAny_Call_Name_kw (jr I hg hm ?_ hdb)
  refine PySem.W.callWith_K (h₀ := X.base) I.ok.mod.kin hk (thn (ha pos pins s σ H _ I h) fun us s1 ⟨vs, H1, I1, r, q⟩ => ⟨I1.kIn, ?_⟩) he hpl
  exact kB F hr hb hd hx I1 r q
end
section
variable {X : Cx} {CX : CXT} {k : Nat} {f C : Addr} {fd : FuncData} {ps ks : List Str} {sp : Sp} {E : XK} {x m : Str} {p pos apos kpos : Pos} {e o : Expr} {es : List Expr} {kws : List Keyword} {te ta : TE} {t tk : TA} {nm : Option Str}
variable {g : List Value → List Value → List Value} {gV : List V → List V → List V}
end
structure aG (N P : List Str) (sc : Scope) : Prop where
  kind : sc.kind = .function
  co : sc.isCoroutine=false
  gen : sc.isGenerator=false
  nd : N.Nodup
  pre : N.take P.length=P
  par : ∀ x∈P, sc.names.lookup x=some .local ∨ sc.names.lookup x=some .cell
  nofree : ∀ y∈sc.names, y.2 ≠ .free
theorem dU {kindOf : Str → Option NameKind}{x : Str} : ∀ {binds : List (Str × Value)} {m : Str → Option Value}, (∀ v, (x, v)∉binds) → bindL kindOf binds m x=m x
  | [], _, _ => rfl
  | (n, v)::r, m, h => by
    unfold bindL
    rw [dU fun w hw => h w (List.mem_cons_of_mem _ hw)]
    split
    · have : x≠n := by rintro rfl;exact h v List.mem_cons_self
      simp [this]
    · rfl
theorem dW {kindOf : Str → Option NameKind}{x : Str} : ∀ {binds : List (Str × Value)} {m : Str → Option Value}, (∀ v, (x, v)∉binds) → bindC kindOf binds m x=m x
  | [], _, _ => rfl
  | (n, v)::r, m, h => by
    unfold bindC
    rw [dW fun w hw => h w (List.mem_cons_of_mem _ hw)]
    split
    · rfl
    · have : x≠n := by rintro rfl;exact h v List.mem_cons_self
      simp [this]
theorem dX {kindOf : Str → Option NameKind}{x : Str}{v : Value} : ∀ {P : List Str} {vs : List Value} {i : Nat} {m : Str → Option Value}, P.Nodup → P[i]? = some x → vs[i]? = some v → kindOf x=some .local →
    bindL kindOf (P.zip vs) m x=some v
  | [], _, _, _, _, h, _, _ => by simp at h
  | _::_, [], _, _, _, _, h, _ => by simp at h
  | p::P, w::vs, 0, m, nd, h1, h2, hk => by
    simp at h1 h2;subst h1;subst h2
    show bindL kindOf ((p, w)::P.zip vs) m p=_
    unfold bindL
    rw [dU fun v hv => (List.nodup_cons.mp nd).1 (List.of_mem_zip hv).1, if_pos hk]
    simp
  | p::P, w::vs, i+1, m, nd, h1, h2, hk => by
    show bindL kindOf ((p, w)::P.zip vs) m x=_
    unfold bindL
    exact dX (i := i) (List.nodup_cons.mp nd).2 (by simpa using h1) (by simpa using h2) hk
theorem dY {kindOf : Str → Option NameKind}{x : Str}{v : Value} : ∀ {P : List Str} {vs : List Value} {i : Nat} {m : Str → Option Value}, P.Nodup → P[i]? = some x → vs[i]? = some v → kindOf x≠some .local →
    bindC kindOf (P.zip vs) m x=some v
  | [], _, _, _, _, h, _, _ => by simp at h
  | _::_, [], _, _, _, _, h, _ => by simp at h
  | p::P, w::vs, 0, m, nd, h1, h2, hk => by
    simp at h1 h2;subst h1;subst h2
    show bindC kindOf ((p, w)::P.zip vs) m p=_
    unfold bindC
    rw [dW fun v hv => (List.nodup_cons.mp nd).1 (List.of_mem_zip hv).1, if_neg hk]
    simp
  | p::P, w::vs, i+1, m, nd, h1, h2, hk => by
    show bindC kindOf ((p, w)::P.zip vs) m x=_
    unfold bindC
    exact dY (i := i) (List.nodup_cons.mp nd).2 (by simpa using h1) (by simpa using h2) hk
def start (N : List Str)(vs : List V) : St := vs.map some++List.replicate (N.length - vs.length) none
def jB (CX : CXT)(P : Program)(w : World)(K : PySem.W.Frag)(mg : Str → Option Value)(base : Heap)(N : List Str)(qual : Str)(scope : Scope)(f : Addr)(cd : Value)(A : Around)(outer : List Env)(s : Shared)(H : Hp)(E : XK) : Cx where
  prog := P
  w := w
  K := K
  mg := mg
  base := base
  A := A.deeper (envOfC qual scope s.heap.objs.size f cd)
  N := N
  s₀ := s
  H₀ := H
  env := envOfC qual scope s.heap.objs.size f cd
  outer := outer
  stack := envOfC qual scope s.heap.objs.size f cd::outer
  ex := []
  calm := true
  fn := fun _ => true
  pn := []
  xe := fun e s' => wpAny (model P w) (A.deeper (envOfC qual scope s.heap.objs.size f cd)) (leaving (envOfC qual scope s.heap.objs.size f cd) e) (fun _ s'' => CX outer H s E e s'') (fun e' s'' => CX outer H s E e' s'') s'
theorem fg {sc : Scope}{n : Nat}{x : Str}(h : sc.names.lookup x=some .cell) : ∃ c, (cellsFrom n sc.names []).lookup x=some c := by
  have q := PySem.W.cellsFrom_some sc.names n [] (.inl h)
  exact Option.isSome_iff_exists.mp q
theorem gg {CX : CXT}{P : Program}{w : World}{K : PySem.W.Frag}{mg : Str → Option Value}{base : Heap}{N ps : List Str}{qual : Str}{scope : Scope}{f : Addr}{cd : Value}{A : Around}{outer : List Env}{s s1 : Shared}{H : Hp}{E : XK}{us : List Value}{vs : List V}
    (S : aG N ps scope) (hd : A.handled=none) (e0 : lP P w K mg base A outer s H) (hl : vs.length=ps.length) (r : aL vs us)
    (x : InCallC s s.heap.objs.size (bindL (envOfC qual scope s.heap.objs.size f cd).kindOf (ps.zip us) fun _ => none) (cellsFrom (s.heap.objs.size+1) scope.names []) (bindC (envOfC qual scope s.heap.objs.size f cd).kindOf (ps.zip us) fun _ => none) s1) :
    Inv (jB CX P w K mg base N qual scope f cd A outer s H E) [] (start N vs) H s1 := by
  have hpl : ps.length≤N.length := by have := congrArg List.length S.pre;rw [List.length_take] at this;omega
  obtain ⟨h1, tk, rfl, hk⟩ := x.done
  have noA : ∀ b : Addr, b∉(jB CX P w K mg base N qual scope f cd A outer s H E).ex := fun b z => absurd (show b∈([] : List Addr) from z) (by simp)
  refine ⟨⟨e0.mod, S.kind, rfl, rfl, Nat.le_refl _, fun y z c h1 h2 => ?_, fun y hy => ?_, fun y c _ h => ?_, fun _ => hd, Around.frames_deeper e0.frames, .inr ⟨rfl, rfl⟩, fun b z => absurd z (noA b), e0.bs, e0.bsz, fun b _ _ => noA b, fun b z => absurd z (noA b), e0.funs, e0.frf⟩,
    rfl, e0.bare, Un.kept hk, ⟨_, x.toInCall.ns, fun i y v h1 h2 h3 => ?_⟩, fun y c h => ⟨_, x.cell y c h⟩, e0.hok.fresh (Nat.le_refl _), fun y c h => ?_, fun p hp => absurd (show p∈([] : List (Addr × Obj)) from hp) (by simp), e0.hok.kept hk, ?_⟩
  · exact name_of_addr x.apart (PySem.mem_of_lookup h1) (PySem.mem_of_lookup h2)
  · have hy : scope.names.lookup y=some .cell ∨ scope.names.lookup y=some .free := hy
    rcases hy with hy | hy
    · exact fg hy
    · exact absurd rfl (S.nofree _ (PySem.mem_of_lookup hy))
  · exact Nat.le_of_lt (x.above y c (PySem.mem_of_lookup h))
  · have hi : i < vs.length := by
      unfold start at h2
      by_cases hi : i < vs.length
      · exact hi
      · rw [List.getElem?_append_right (by simpa using hi)] at h2
        rw [List.getElem?_replicate] at h2
        split at h2 <;> cases h2
    have ha : vs[i]? = some v := by
      unfold start at h2
      rw [List.getElem?_append_left (by simpa using hi), List.getElem?_map] at h2
      cases e : vs[i]? with
      | none => rw [e] at h2;cases h2
      | some a => rw [e] at h2;cases h2;rfl
    obtain ⟨u, hu, rv⟩ := r.get ha
    have hp : ps[i]? = some y := by
      rw [← S.pre, List.getElem?_take_of_lt (by omega)];exact h1
    have ndP : ps.Nodup := by rw [← S.pre];exact S.nd.sublist (List.take_sublist _ _)
    refine ⟨u, rv, ?_⟩
    rcases S.par y (List.mem_of_getElem? hp) with k | k
    · exact .inl ⟨k, dX ndP hp hu k⟩
    · obtain ⟨c, e⟩ := fg (n := s.heap.objs.size+1) k
      refine .inr ⟨.inl k, c, e, ?_⟩
      have q := x.cell y c e
      rw [dY ndP hp hu (by show scope.names.lookup y≠_;rw [k];decide)] at q
      exact q
  · exact e0.hok.fresh (Nat.le_of_lt (x.above y c (PySem.mem_of_lookup h)))
  · unfold start
    show _=N.length
    rw [List.length_append, List.length_map, List.length_replicate]
    omega
theorem mj {CX : CXT}{P : Program}{w : World}{K : PySem.W.Frag}{mg : Str → Option Value}{base : Heap}{k : Nat}{f : Addr}{name qual : Str}{params : Arguments}{body : List Stmt}{scope : Scope}{dV kV doc pm cdv ct oc : Value}{an od : Option Addr}
    {osl : Array (Option Value)} {N ps : List Str} {sp : Sp} (lk : K.lookup f=some ⟨oc, od, .func (PySem.W.fnOf name qual params body scope dV kV doc pm an cdv ct), osl⟩) (hcd : PySem.W.codeIn K cdv qual=true) (S : aG N ps scope)
    (len : ∀ vs H Q E, sp vs H Q E → vs.length=ps.length)
    (hbody : ∀ (A : Around) (outer : List Env) (s : Shared) (H : Hp) (vs : List V) (Q : VK) (E : XK), c_ k (A.deeper (envOfC qual scope s.heap.objs.size f cdv)) → sp vs H Q E →
      ∃ t, PSs (jB CX P w K mg base N qual scope f cdv A outer s H E) body t ∧ t { nx := fun _ H' => Q .non H', rt := Q } (start N vs) H) :
    ij P w K mg base CX (k+1) f (PySem.W.fnOf name qual params body scope dV kV doc pm an cdv ct) ps sp := by
  refine ⟨len, fun A outer s H args us vs Q E hr e0 hb r hsp => ?_⟩
  have hl := len _ _ _ _ hsp
  have KX : K.In s.heap := e0.mod.kin.keeps fun b o e => (e0.bs b o e).1
  have lim : s.heap.NoLimit := e0.mod.nolimit.keeps fun b o e => (e0.bs b o e).1
  have hkind : ∀ y∈ps.zip us, scope.names.lookup y.1=some .local ∨ (scope.names.lookup y.1=some .cell ∧ ((cellsFrom (s.heap.objs.size+1) scope.names []).lookup y.1).isSome=true) := fun ⟨n, v⟩ hy => by
    rcases S.par n (List.of_mem_zip hy).1 with q | q
    · exact .inl q
    · exact .inr ⟨q, PySem.W.cellsFrom_some _ _ _ (.inl q)⟩
  refine codeAny_call_function hr.depth (KX _ _ lk) rfl S.co S.gen rfl (PySem.W.codeRec_of KX hcd) (hb _ _ _ _ ?_)
  refine wpAny_newFunctionEnv_cells S.kind hkind fun env he s1 x => ?_
  subst he
  refine ⟨lim.keeps x.toInCall.keep, codeAny_func ?_⟩
  obtain ⟨t, ht, hq⟩ := hbody A outer s H vs Q E (hr.deeper _) hsp
  have I : Inv (jB CX P w K mg base N qual scope f cdv A outer s H E) [] (start N vs) H s1 := gg S hr.hd e0 hl r x
  refine wpAny_mono (ht [] s1 (start N vs) H _ I hq) (fun fl s' hs => ?_) fun e s' hs => hs
  have fin : ∀ {σ' : St} {H' : Hp} {v : V} {u : Value}, Inv (jB CX P w K mg base N qual scope f cdv A outer s H E) [] σ' H' s' → aO v u → Q v H' → CE outer P w H s Q u s' :=
    fun {σ' H' v u} J rv q => ⟨v, H', J.os, J.bare, J.base, J.hok, rv, q⟩
  cases fl with
  | ret u =>
    obtain ⟨v, σ', H', J, rv, q⟩ := hs
    exact fin J rv q
  | next =>
    obtain ⟨σ', H', J, q⟩ := hs
    exact fin (v := V.non) (u := Value.none) J rfl q
  | brk =>
    obtain ⟨_, _, _, q⟩ := hs
    exact False.elim q
  | cont =>
    obtain ⟨_, _, _, q⟩ := hs
    exact False.elim q
section
variable {X : Cx} {x : Str} {p pos : Pos} {e : Expr} {es : List Expr} {t : TA} {id T : String} {r : List V → Hp → VK → Prop}
def kC (r : List V → Hp → VK → Prop)(Q : VK) : List V → Hp → Prop := fun vs H1 => r vs H1 Q
def tCB (r : List V → Hp → VK → Prop)(t : TA) : TE := fun σ H Q => t σ H (kC r Q)
theorem aq (hc : cB X (.builtin id) r)(hg : Gl X x)(hm : X.mg x=none)(hv : bootBuiltins x=some (.builtin id))(ha : PA X (e::es) t)(hn : x ≠ "__name__" := by decide)(hdb : (x == ("__debug__" : Str))=false := by decide)
    (he : starEach (e::es) X.env=(false, eval e X.env)::starEach es X.env := by rfl) (hpl : (backTo pos (starEach es X.env)).any (·.1)=false := by rfl) : PE X (.Call (.Name x p) (e::es) [] pos) (tCB r t) := by
  intro pins s σ H Q I h
  refine wpAny_Call_Name_kw (dQ I hg hm hv ?_ hn hdb)
  exact PyProof.Rows.callWith_builtin1 (thn (ha pos pins s σ H _ I h) fun us s1 zq60 => (by obtain ⟨vs, H1, I1, r1, q1⟩ := zq60;exact hc pins s1 σ H1 vs us Q I1 r1 q1)) he hpl
theorem bx (hc : cB X (.type T) r)(hg : Gl X x)(hm : X.mg x=none)(hv : bootBuiltins x=some (.type T))(ha : PA X (e::es) t)(hn : x ≠ "__name__" := by decide)(hdb : (x == ("__debug__" : Str))=false := by decide)
    (he : starEach (e::es) X.env=(false, eval e X.env)::starEach es X.env := by rfl) (hpl : (backTo pos (starEach es X.env)).any (·.1)=false := by rfl) : PE X (.Call (.Name x p) (e::es) [] pos) (tCB r t) := by
  intro pins s σ H Q I h
  refine wpAny_Call_Name_kw (dQ I hg hm hv ?_ hn hdb)
  exact PyProof.Rows.callWith_type1 (thn (ha pos pins s σ H _ I h) fun us s1 zq61 => (by obtain ⟨vs, H1, I1, r1, q1⟩ := zq61;exact hc pins s1 σ H1 vs us Q I1 r1 q1)) he hpl
end
end L2
namespace HT
open PySem PyProof.Rows
section
open PySem.SeqAt
open PySem.AutoSeq1 (wpAny_loadPart')
open PySem.MeetsSeq PySem.MeetsSeq2 PySem.MeetsSeq3
end
section
variable {prog : Program} {w : World} {A : Around} {E : Value → Shared → Prop} {s : Shared}
def sIx (n d : Nat) : Option Int → Nat
  | none => d
  | some v => if v < 0 then (v+(n : Int)).toNat else min v.toNat n
theorem dz (n d : Nat) : sIx n d none=d := rfl
theorem eM (n d k : Nat) : sIx n d (some (k : Int))=min k n := by
  show (if (k : Int) < 0 then ((k : Int)+(n : Int)).toNat else min (k : Int).toNat n)=min k n
  rw [if_neg (by omega), Int.toNat_natCast]
theorem i6 (n d : Nat)(hd : d≤n)(o : Option Int) : sIx n d o≤n := by
  cases o with
  | none => exact hd
  | some v =>
    show (if v < 0 then (v+(n : Int)).toNat else min v.toNat n)≤n
    by_cases hv : v < 0
    · rw [if_pos hv];omega
    · rw [if_neg hv];exact Nat.min_le_right _ _
end
end HT
namespace L2
open PySem PySem.Spec PyProof.Rows
abbrev TO := St → Hp → (Option Int → Hp → Prop) → Prop
def PO (X : Cx)(e : Option Expr)(t : TO) : Prop :=
  ∀ (pins : List (Addr × Obj)) (s : Shared) (σ : St) (H : Hp) (Q : Option Int → Hp → Prop), Inv X pins σ H s → t σ H Q →
    wpAny (model X.prog X.w) X.A (evalPart e X.env) (fun u s' => ∃ o H', Inv X pins σ H' s' ∧ IsPart u o ∧ Q o H') X.xe s
def jC : TO := fun _ H Q => Q none H
inductive IsI (x : V)(H : Hp)(Q : Option Int → Hp → Prop) : Prop
  | mk : ∀ i, (x = .int i) → (Q (some i) H) → IsI x H Q
def iE (Q : (Option Int → Hp → Prop)) : V → Hp → Prop := fun x H1 => IsI x H1 Q
def ml (t : TE) : TO := fun σ H Q => t σ H (iE Q)
section
variable {X : Cx} {e : Expr} {te : TE} {lo hi : Option Expr} {tl th : TO} {pos p2 : Pos}
theorem bz : PO X none jC := by
  intro pins s σ H Q I h
  rw [evalPart_none]
  exact wpAny_pure ⟨none, H, I, .none, h⟩
theorem bA (h : PE X e te) : PO X (some e) (ml te) := by
  intro pins s σ H Q I hw
  rw [evalPart_some]
  refine thn (h pins s σ H _ I hw) fun u s1 zq62 => ?_
  obtain ⟨x, H1, I1, r1, q1⟩ := zq62
  obtain ⟨i, rfl, q⟩ := q1
  obtain ⟨t, rfl⟩ := r1
  exact ⟨some i, H1, I1, .int i t, q⟩
def SlR (X : Cx)(r : V → Option Int → Option Int → Hp → VK → Prop) : Prop :=
  ∀ (pins : List (Addr × Obj)) (s : Shared) (σ : St) (H : Hp) (x : V) (v vl vu : Value) (lo hi : Option Int) (sl : Addr) (Q : VK), Inv X pins σ H s → aO x v → s.heap.IsSliceOf sl vl vu .none → IsPart vl lo → IsPart vu hi → r x lo hi H Q →
    ∃ T id, typeLookup (.type T) "__getitem__" = pure (some (.builtin id)) ∧ s.TypeIs v T ∧ wpAny (model X.prog X.w) X.A (getItem v (.ref sl)) (EP X pins σ Q) X.xe s
def kD (r : V → Option Int → Option Int → Hp → VK → Prop)(Q : VK)(x : V)(l : Option Int) : Option Int → Hp → Prop := fun u H3 => r x l u H3 Q
def kE (r : V → Option Int → Option Int → Hp → VK → Prop)(th : TO)(σ : St)(Q : VK)(x : V) : Option Int → Hp → Prop := fun l H2 => th σ H2 (kD r Q x l)
def kF (r : V → Option Int → Option Int → Hp → VK → Prop)(tl : TO)(th : TO)(σ : St)(Q : VK) : V → Hp → Prop := fun x H1 => tl σ H1 (kE r th σ Q x)
def tSl (r : V → Option Int → Option Int → Hp → VK → Prop)(te : TE)(tl th : TO) : TE := fun σ H Q => te σ H (kF r tl th σ Q)
theorem a_ {r : V → Option Int → Option Int → Hp → VK → Prop}(hr : SlR X r)(he : PE X e te)(hl : PO X lo tl)(hu : PO X hi th) : PE X (.Subscript e (.Slice lo hi none p2) pos) (tSl r te tl th) := by
  intro pins s σ H Q I h
  refine Subscript_ (thn (he pins s σ H _ I h) fun v s1 zq63 => ?_)
  obtain ⟨x, H1, I1, r1, q1⟩ := zq63
  refine wpAny_Slice (thn (hl pins s1 σ H1 _ I1 q1) fun vl s2 ⟨l, H2, I2, pl, q2⟩ => thn (hu pins s2 σ H2 _ I2 q2) fun vu s3 zq64 => ?_)
  obtain ⟨u, H3, I3, pu, q3⟩ := zq64
  rw [evalPart_none]
  refine wpAny_pure ?_
  have I4 : Inv X pins σ H3 { s3 with heap := s3.heap.push { cls := .type "slice", data := .fields #[vl, vu, .none] } } := I3.kept (t' := s3.toks) fun b ob q => Heap.get?_push_of_some _ q
  obtain ⟨T, id, hT, ht, hg⟩ := hr pins { s3 with heap := s3.heap.push { cls := .type "slice", data := .fields #[vl, vu, .none] } } σ H3 x v vl vu l u s3.heap.objs.size Q I4 r1 (Heap.IsSliceOf.new ..) pl pu q3
  show wpAny (model X.prog X.w) X.A (subscriptTail e (.Slice lo hi none p2) v (.ref s3.heap.objs.size)) (EP X pins σ Q) X.xe { s3 with heap := s3.heap.push { cls := .type "slice", data := .fields #[vl, vu, .none] } }
  exact tail_any (ops := [.ref s3.heap.objs.size, v]) ht hT hg (by with_unfolding_all rfl)
def j_ (xs : List V)(lo hi : Option Int) : List V := (xs.drop (HT.sIx xs.length 0 lo)).take (HT.sIx xs.length xs.length hi - HT.sIx xs.length 0 lo)
theorem eN (xs : List V)(lo hi : Option Int) : (j_ xs lo hi).length≤xs.length := by
  unfold j_
  rw [List.length_take, List.length_drop]
  omega
end
def ixN (n : Nat)(i : Int) : Option Nat := if 0≤i then (if i < n then some i.toNat else none) else if -(n : Int)≤i then some (i+n).toNat else none
def atI {α : Type}(xs : List α)(i : Int) : Option α := (ixN xs.length i).bind fun j => xs[j]?
theorem jD {n : Nat}{i : Int}{j : Nat}(h : ixN n i=some j) : seqIndex? i n=some j ∧ j < n ∧ -(n : Int)≤i ∧ i < n := by
  unfold ixN at h
  by_cases h0 : 0≤i
  · rw [if_pos h0] at h
    by_cases h1 : i < n
    · rw [if_pos h1] at h
      have e : i.toNat=j := Option.some.inj h
      exact ⟨by rw [seqIndex_of h0 h1, e], by omega, by omega, h1⟩
    · rw [if_neg h1] at h;cases h
  · rw [if_neg h0] at h
    by_cases h1 : -(n : Int)≤i
    · rw [if_pos h1] at h
      have e : (i+n).toNat=j := Option.some.inj h
      exact ⟨by rw [seqIndex_neg (by omega) h1, e], by omega, h1, by omega⟩
    · rw [if_neg h1] at h;cases h
theorem eO {α : Type}{xs : List α}{i : Int}{v : α}(h : atI xs i=some v) : ∃ j, seqIndex? i xs.length=some j ∧ xs[j]? = some v ∧ j < xs.length ∧ -(xs.length : Int)≤i ∧ i < xs.length := by
  unfold atI at h
  cases e : ixN xs.length i with
  | none => rw [e] at h;cases h
  | some j =>
    rw [e] at h
    obtain ⟨h1, h2, h3, h4⟩ := jD e
    exact ⟨j, h1, h, h2, h3, h4⟩
theorem cF {α : Type}{xs : List α}{j : Nat}{v : α}(h : xs[j]? = some v) : atI xs (j : Int)=some v := by
  have hj : j < xs.length := (List.getElem?_eq_some_iff.mp h).1
  have e : ixN xs.length (j : Int)=some j := by
    unfold ixN
    rw [if_pos (by omega), if_pos (by omega)];simp
  unfold atI;rw [e];exact h
def jE (b : Expr) : Prop := ∀ o i, subscripted b false o i=operate [o, i] (getItem o i)
def IxR (X : Cx)(r : R2) : Prop :=
  ∀ (value slice : Expr) (pins : List (Addr × Obj)) (s : Shared) (σ : St) (H : Hp) (x y : V) (v u : Value) (Q : VK), Inv X pins σ H s → aO x v → aO y u → r x y H Q →
    subscripted slice false v u=operate [v, u] (getItem v u) → wpAny (model X.prog X.w) X.A (subscriptTail value slice v u) (EP X pins σ Q) X.xe s
def MtR (X : Cx)(id : String)(r : V → List V → Hp → VK → Prop) : Prop :=
  ∀ (pins : List (Addr × Obj)) (s : Shared) (σ : St) (H : Hp) (x : V) (xs : List V) (v : Value) (us : List Value) (Q : VK), Inv X pins σ H s → aO x v → aL xs us → r x xs H Q →
    wpAny (model X.prog X.w) X.A (call (.builtin id) (v::us)) (EP X pins σ Q) X.xe s
section
variable {X : Cx} {a b : Expr} {ta tb : TE} {pos : Pos}
theorem cu {r : R2}(hr : IxR X r)(ha : PE X a ta)(hb : PE X b tb)(hs : jE b) : PE X (.Subscript a b pos) (tOp r ta tb) := by
  intro pins s σ H Q I h
  exact Subscript_ (l_ ha hb I h fun v u s2 x y H2 I2 rx ry q => hr a b pins s2 σ H2 x y v u Q I2 rx ry q (hs _ _))
inductive ni (K : PySem.W.Frag)(x : V)(y : V)(H : Hp)(Q : VK) : Prop
  | mk : ∀ p xs i v, (x = .ref p) → (y = .int i) → (SqL K H p xs) → (atI xs i=some v) → (Q v H) → ni K x y H Q
inductive nj (K : PySem.W.Frag)(x : V)(y : V)(H : Hp)(Q : VK) : Prop
  | mk : ∀ p xs i v, (x = .ref p) → (y = .int i) → (SqT K H p xs) → (atI xs i=some v) → (Q v H) → nj K x y H Q
inductive nk (x : V)(y : V)(H : Hp)(Q : VK) : Prop
  | mk : ∀ z i c, (x = .str z) → (y = .int i) → (z.length≤sizeLine) → (atI z.cps.toList i=some c) → (Q (.str ⟨#[c]⟩) H) → nk x y H Q
theorem bO : IxR X (ni X.K) := by
  intro value slice pins s σ H x y v u Q I rx ry h hs
  obtain ⟨p, xs, i, z, rfl, rfl, hq, he, q⟩ := h
  cases rx
  obtain ⟨t, rfl⟩ := ry
  obtain ⟨its, r, pl, hz⟩ := I.list hq
  obtain ⟨j, h1, h2, h3, h4, h5⟩ := eO he
  obtain ⟨w, ew, rw'⟩ := r.get h2
  have hl := r.length
  have hn := cZ
  have fin : EP X pins σ Q w s := ⟨z, H, I, rw', q⟩
  by_cases h0 : 0≤i
  · have hj : i.toNat=j := by
      rw [seqIndex_of h0 h5] at h1
      exact Option.some.inj h1
    exact item_listR pl.isList h0 (by omega) (by rw [hj];simpa using ew) fin hs
  · have hj : (i+(its.toArray.size : Int)).toNat=j := by
      rw [seqIndex_neg (by omega) h4] at h1
      rw [List.size_toArray, ← hl]
      exact Option.some.inj h1
    exact subscriptTail_builtinR (x := w) pl.isList.typeIs slot_list_getitem.lookup
      (wpAny_getItem_list_neg (Q := fun r s' => r=w ∧ EP X pins σ Q r s') pl.isList (by omega) (by rw [List.size_toArray] <;> omega) (by omega) (by rw [hj];simpa using ew) ⟨rfl, fin⟩) hs
theorem gh : IxR X (nj X.K) := by
  intro value slice pins s σ H x y v u Q I rx ry h hs
  obtain ⟨p, xs, i, z, rfl, rfl, hq, he, q⟩ := h
  cases rx
  obtain ⟨t, rfl⟩ := ry
  obtain ⟨its, r, pl, hz⟩ := I.tuple hq
  obtain ⟨j, h1, h2, h3, h4, h5⟩ := eO he
  obtain ⟨w, ew, rw'⟩ := r.get h2
  have hl := r.length
  have hn := cZ
  have fin : EP X pins σ Q w s := ⟨z, H, I, rw', q⟩
  exact subscriptTail_builtinR (x := w) pl.typeIs slot_tuple_getitem.lookup
    (getItem_tuple (j := j) (Q := fun r s' => r=w ∧ EP X pins σ Q r s') pl (by omega) (by omega) (by rw [List.size_toArray, ← hl];exact h1) (by simpa using ew) ⟨rfl, fin⟩) hs
theorem i7 : IxR X nk := by
  intro value slice pins s σ H x y v u Q I rx ry h hs
  obtain ⟨z, i, c, rfl, rfl, hz, he, q⟩ := h
  obtain ⟨t, rfl⟩ := rx
  obtain ⟨t', rfl⟩ := ry
  obtain ⟨j, h1, h2, h3, h4, h5⟩ := eO he
  have hl : z.cps.toList.length=z.length := by simp [Str.length]
  rw [hl] at h1 h4 h5
  have hn := cZ
  exact tail_any (typeIs_str s z t) slot_str_getitem.lookup (getItem_str (c := c) (by
    have e1 : decide (i < -(2 ^ 63 : Int))=false := decide_eq_false (by omega)
    have e2 : decide (i≥2 ^ 63)=false := decide_eq_false (by omega)
    rw [e1, e2, Bool.or_false]) (by rw [h1];simpa using h2) ⟨.str ⟨#[c]⟩, H, I.tok _, ⟨_, rfl⟩, q⟩) hs
theorem dZ (lo hi : Option Int)(n : Nat) : (sliceBounds lo hi none n).1=((HT.sIx n 0 lo : Nat) : Int) ∧ (sliceBounds lo hi none n).2.1=((HT.sIx n n hi : Nat) : Int) ∧ (sliceBounds lo hi none n).2.2=1 := by
  refine ⟨?_, ?_, rfl⟩
  · cases lo with
    | none => simp [sliceBounds, HT.sIx]
    | some i =>
      simp only [sliceBounds, HT.sIx, Option.getD_none, show (1 : Int) > 0 by decide, if_true]
      by_cases h : i < 0
      · simp only [h, if_true] <;> omega
      · simp only [h, if_false] <;> omega
  · cases hi with
    | none => simp [sliceBounds, HT.sIx]
    | some i =>
      simp only [sliceBounds, HT.sIx, Option.getD_none, show (1 : Int) > 0 by decide, if_true]
      by_cases h : i < 0
      · simp only [h, if_true] <;> omega
      · simp only [h, if_false] <;> omega
theorem dA (its : List Value)(lo hi : Option Int) : slicePick its.toArray lo hi none=((its.drop (HT.sIx its.length 0 lo)).take (HT.sIx its.length its.length hi - HT.sIx its.length 0 lo)).toArray := by
  obtain ⟨h1, h2, h3⟩ := dZ lo hi its.toArray.size
  unfold slicePick
  rw [h1, h2, h3]
  simp only [sliceRange_one, pick_run, List.size_toArray] <;> rfl
inductive nq (K : PySem.W.Frag)(x : V)(lo : Option Int)(hi : Option Int)(H : Hp)(Q : VK) : Prop
  | mk : ∀ a xs, (x = .ref a) → (SqL K H a xs) → (∀ p, H p=none → Q (.ref p) (upd H p (.lst (j_ xs lo hi)))) → nq K x lo hi H Q
theorem jF : SlR X (nq X.K) := by
  intro pins s σ H x v vl vu lo hi sl Q I rx hs pl pu h
  obtain ⟨a, xs, rfl, hx, q⟩ := h
  cases rx
  obtain ⟨its, r, ht, hz⟩ := I.list hx
  have hlen := r.length
  refine ⟨"list", _, slot_list_getitem.lookup, ht.isList.typeIs, ?_⟩
  refine wpAny_getItem_list_slice ht.isList hs pl pu .none (by simp) ?_ (by rw [List.size_toArray] <;> omega)
  rw [dA, ← hlen]
  refine ⟨.ref s.heap.objs.size, _, I.laid (t' := s.toks) (o := .lst (j_ xs lo hi)) (fun b ob q => Heap.get?_push_of_some _ q) (Nat.le_refl _) ?_, rfl, q _ (I.hok.fresh (Nat.le_refl _))⟩
  exact ⟨Nat.le_trans (eN xs lo hi) hz, _, 0, (r.drop (HT.sIx xs.length 0 lo)).take (HT.sIx xs.length xs.length hi - HT.sIx xs.length 0 lo), Heap.get?_push_size _ rfl⟩
inductive bJ (K : PySem.W.Frag)(xs : List V)(H : Hp)(Q : VK) : Prop
  | mk : ∀ p ys, (xs=[.ref p]) → ((SqL K H p ys ∨ SqT K H p ys)) → (Q (.int ys.length) H) → bJ K xs H Q
theorem aA : cB X (.builtin "len") (bJ X.K) := by
  intro pins s σ H xs us Q I r h
  obtain ⟨p, ys, rfl, hq, q⟩ := h
  obtain ⟨u, rfl, rx⟩ := cE r
  cases rx
  have hn := cZ
  rcases hq with hq | hq
  · obtain ⟨its, r', pl, hz⟩ := I.list hq
    have hlen := r'.length
    exact Calls.call_len_list pl.isList (by simp only [List.size_toArray] <;> omega) ⟨.int ys.length, H, I.tok _, ⟨s.toks+1, by rw [List.size_toArray, hlen]⟩, q⟩
  · obtain ⟨its, r', pl, hz⟩ := I.tuple hq
    have hlen := r'.length
    exact len_tuple pl (by simp only [List.size_toArray] <;> omega) ⟨.int ys.length, H, I.tok _, ⟨s.toks+1, by rw [List.size_toArray, hlen]⟩, q⟩
inductive bK  (xs : List V)(H : Hp)(Q : VK) : Prop
  | mk : ∀ z, (xs=[.str z]) → (z.length≤sizeLine) → (Q (.int z.length) H) → bK xs H Q
theorem cj : cB X (.builtin "len") bK := by
  intro pins s σ H xs us Q I r h
  obtain ⟨z, rfl, hz, q⟩ := h
  obtain ⟨u, rfl, t, rfl⟩ := cE r
  have hn := cZ
  exact len_str (by omega) ⟨.int z.length, H, I.tok _, ⟨_, rfl⟩, q⟩
inductive bL (K : PySem.W.Frag)(xs : List V)(H : Hp)(Q : VK) : Prop
  | mk : ∀ p ys, (xs=[.ref p]) → ((SqL K H p ys ∨ SqT K H p ys)) → (∀ l, H l=none → Q (.ref l) (upd H l (.lst ys))) → bL K xs H Q
theorem d3 : cB X (.type "list") (bL X.K) := by
  intro pins s σ H xs us Q I r h
  obtain ⟨p, ys, rfl, hq, q⟩ := h
  obtain ⟨u, rfl, rx⟩ := cE r
  cases rx
  have fin : ∀ (its : List Value), aL ys its → ys.length≤sizeLine → ∀ (h' : Heap) (c' : Nat), (∀ b o', s.heap.get? b=some o' → h'.get? b=some o') →
      h'.get? s.heap.objs.size=some { cls := .type "list", dict := none, data := .seq its.toArray c', slots := #[] } → EP X pins σ Q (.ref s.heap.objs.size) { s with heap := h' } := fun its r' hz h' c' kp e =>
    ⟨.ref s.heap.objs.size, _, I.laid (t' := s.toks) kp (Nat.le_refl _) (show bg X.prog X.w _ h' _ (.lst ys) from ⟨hz, its, c', r', e⟩), rfl, q _ (I.hok.fresh (Nat.le_refl _))⟩
  rcases hq with hq | hq
  · obtain ⟨its, r', pl, hz⟩ := I.list hq
    have hlen := r'.length
    obtain ⟨o, ho, hc, n, hd⟩ := pl.isList
    exact call_list_seq p (.inl rfl) ho hc hd (fun h' c' kp e => fin its r' hz h' c' kp e) (by simp only [List.size_toArray] <;> omega)
  · obtain ⟨its, r', pl, hz⟩ := I.tuple hq
    have hlen := r'.length
    obtain ⟨o, ho, hc, n, hd⟩ := pl
    exact call_list_seq p (.inr rfl) ho hc hd (fun h' c' kp e => fin its r' hz h' c' kp e) (by simp only [List.size_toArray] <;> omega)
def tyV (K : PySem.W.Frag)(T : String)(x : V)(H : Hp) : Prop := match x with
  | .str _ => T = "str"
  | .int _ => T = "int"
  | .ref p => (T = "list" ∧ ∃ xs, SqL K H p xs) ∨ (T = "tuple" ∧ ((∃ o, K.lookup p=some o ∧ o.cls = .type "tuple" ∧ o.dict=none) ∨ ∃ xs, H p=some (.tup xs))) ∨
      (T = "dict" ∧ ((∃ kvs, H p=some (.dK kvs)) ∨ ∃ kvs, H p=some (.dT kvs))) ∨ (T = "set" ∧ ∃ S n, H p=some (.set S n))
  | _ => False
theorem i8 {pins : List (Addr × Obj)}{σ : St}{H : Hp}{s : Shared}{T : String}{x : V}{v : Value}(I : Inv X pins σ H s)(r : aO x v)(ty : tyV X.K T x H) :
    s.TypeIs v T ∧ ∀ a, v = .ref a → ∃ ob, s.heap.get? a=some ob ∧ ob.dict=none := by
  cases x with
  | str z =>
    obtain ⟨t, rfl⟩ := r
    cases (show T = "str" from ty)
    exact ⟨typeIs_str s z t, fun _ e => nomatch e⟩
  | int i =>
    obtain ⟨t, rfl⟩ := r
    cases (show T = "int" from ty)
    exact ⟨typeIs_int s i t, fun _ e => nomatch e⟩
  | ref p =>
    cases r
    rcases ty with ⟨rfl, xs, hq⟩ | ⟨rfl, ⟨o, hk, hc, hd⟩ | ⟨xs, hk⟩⟩ | ⟨rfl, hk⟩ | ⟨rfl, S, n, hk⟩
    · obtain ⟨its, _, pl, _⟩ := I.list hq
      refine ⟨pl.isList.typeIs, fun a e => ?_⟩
      cases e
      obtain ⟨o, n, e, c, hd, _⟩ := pl
      exact ⟨o, e, hd⟩
    · refine ⟨⟨o, I.kIn p o hk, hc⟩, fun a e => ?_⟩
      cases e
      exact ⟨o, I.kIn _ o hk, hd⟩
    · obtain ⟨_, _, _, ⟨o, e, hc, _⟩, hn⟩ := I.hok p _ hk
      refine ⟨⟨o, e, hc⟩, fun a e => ?_⟩
      cases e
      exact hn
    · have z : ∃ o, s.heap.get? p=some o ∧ o.ExactDict := by
        rcases hk with ⟨kvs, hk⟩ | ⟨kvs, hk⟩
        · obtain ⟨_, _, _, _, o, _, _, e, ex, _⟩ := I.hok p _ hk
          exact ⟨o, e, ex⟩
        · obtain ⟨_, _, _, _, o, _, _, e, ex, _⟩ := I.hok p _ hk
          exact ⟨o, e, ex⟩
      obtain ⟨o, e, ex⟩ := z
      refine ⟨⟨o, e, ex.1⟩, fun a e2 => ?_⟩
      cases e2
      exact ⟨o, e, ex.2.1⟩
    · obtain ⟨o, _, _, _, e, ex, _⟩ := I.hok p _ hk
      refine ⟨⟨o, e, ex.1⟩, fun a e2 => ?_⟩
      cases e2
      exact ⟨o, e, ex.2.1⟩
  | _ => exact False.elim ty
def jG (K : PySem.W.Frag)(T : String)(r : V → List V → Hp → VK → Prop)(Q : VK) : V → Hp → Prop := fun x H1 => tyV K T x H1 ∧ r x [] H1 Q
def nW (K : PySem.W.Frag)(T : String)(r : V → List V → Hp → VK → Prop)(to : TE) : TE := fun σ H Q => to σ H (jG K T r Q)
def kG (r : V → List V → Hp → VK → Prop)(Q : VK)(x : V) : List V → Hp → Prop := fun xs H2 => r x xs H2 Q
def kH (K : PySem.W.Frag)(T : String)(r : V → List V → Hp → VK → Prop)(t : TA)(σ : St)(Q : VK) : V → Hp → Prop := fun x H1 => tyV K T x H1 ∧ t σ H1 (kG r Q x)
def tBM (K : PySem.W.Frag)(T : String)(r : V → List V → Hp → VK → Prop)(to : TE)(t : TA) : TE := fun σ H Q => to σ H (kH K T r t σ Q)
variable {o e : Expr} {es : List Expr} {to : TE} {t : TA} {name : Str} {apos cpos : Pos} {T id : String} {r : V → List V → Hp → VK → Prop}
theorem i9 (pa : PlainAttrs T)(slot : Slot T name id)(hty : typeOf (.builtin id)=pure (.type "method_descriptor"))(hm : MtR X id r)(ho : PE X o to)
    (hbase : attributeBase o name X.env (eval o X.env)=eval o X.env := by rfl) (hline : (apos.endLine == cpos.line)=true := by rfl) : PE X (.Call (.Attribute o name apos) [] [] cpos) (nW X.K T r to) := by
  intro pins s σ H Q I h
  refine wpAny_Call_method0_late hbase hline (thn (ho pins s σ H _ I h) fun v s1 zq65 => ?_)
  obtain ⟨x, H1, I1, r1, ty, q1⟩ := zq65
  obtain ⟨h1, h2⟩ := i8 I1 r1 ty
  exact ⟨T, id, pa, slot, hty, h1, h2, Calls.callWith_builtin rfl (PySem.evalArgs_none (hm pins s1 σ H1 x [] v [] Q I1 r1 .nil q1))⟩
theorem kI (pa : PlainAttrs T)(slot : Slot T name id)(hty : typeOf (.builtin id)=pure (.type "method_descriptor"))(hm : MtR X id r)(ho : PE X o to)(ha : PA X (e::es) t)
    (hbase : attributeBase o name X.env (eval o X.env)=eval o X.env := by rfl)
    (hfew : ((backTo cpos (starEach (e::es) X.env)).all (fun x => !x.1) && (backToKw cpos (keywordEach [] X.env)).all (fun x => x.1.isSome)
      && decide ((e::es).length+([] : List Keyword).length+(if ([] : List Keyword).isEmpty then 0 else 1) < 30))=true := by rfl)
    (hline : (apos.endLine == cpos.line)=true := by rfl) (hs : starEach (e::es) X.env=(false, eval e X.env)::starEach es X.env := by rfl) (hplain : (backTo cpos (starEach es X.env)).any (·.1)=false := by rfl) :
    PE X (.Call (.Attribute o name apos) (e::es) [] cpos) (tBM X.K T r to t) := by
  intro pins s σ H Q I h
  refine wpAny_Call_method_late hbase hfew hline rfl (thn (ho pins s σ H _ I h) fun v s1 zq66 => ?_)
  obtain ⟨x, H1, I1, r1, ty, q1⟩ := zq66
  obtain ⟨h1, h2⟩ := i8 I1 r1 ty
  refine ⟨T, id, pa, slot, hty, h1, h2, ?_⟩
  have hA := ha cpos pins s1 σ H1 _ I1 q1
  rw [hs] at hA ⊢
  refine Calls.callWith_builtin (by show (false || (backTo cpos (starEach es X.env)).any (·.1))=false;rw [hplain] <;> rfl) (Calls.evalArgs_plain ?_)
  exact thn hA fun us s2 zq67 => (by obtain ⟨vs, H2, I2, r2, q2⟩ := zq67;exact hm pins s2 σ H2 x vs v us Q I2 r1 r2 q2)
/- xs.append(e), list.index on a module's tuple .. are MtR facts of 06m -/
end
def MtM (X : Cx)(id : String)(r : V → List V → Hp → VK → Prop) : Prop :=
  ∀ (pins : List (Addr × Obj)) (s : Shared) (σ : St) (H : Hp) (x : V) (xs : List V) (v : Value) (us : List Value) (Q : VK), Inv X pins σ H s → aO x v → aL xs us → r x xs H Q →
    wpAny (model X.prog X.w) X.A (call (.builtin id) (v::us)) (EP X pins σ Q) X.xe s
theorem aL.one : ∀ {x : V} {us : List Value}, aL [x] us → ∃ u, us=[u] ∧ aO x u
  | _, _, .cons r .nil => ⟨_, rfl, r⟩
theorem aL.rep {xs : List V}{us : List Value}(h : aL xs us) : ∀ k : Nat, aL (List.replicate k xs).flatten (List.replicate k us).flatten
  | 0 => .nil
  | k+1 => by
    rw [List.replicate_succ, List.replicate_succ, List.flatten_cons, List.flatten_cons]
    exact aL.append h (aL.rep h k)
theorem d4 (its : List Value) : ∀ (k : Nat) (acc : List Value),
    List.foldl (fun x1 x2 => x1++x2) acc.toArray (List.replicate k its.toArray)=(acc++(List.replicate k its).flatten).toArray
  | 0, acc => by simp
  | k+1, acc => by
    have e : acc.toArray++its.toArray=(acc++its).toArray := by simp
    have e2 : (acc++its)++(List.replicate k its).flatten=acc++(List.replicate (k+1) its).flatten := by
      rw [List.replicate_succ, List.flatten_cons, List.append_assoc]
    rw [← e2, ← d4 its k (acc++its), ← e, List.replicate_succ, List.foldl_cons]
section
variable {X : Cx} {pins : List (Addr × Obj)} {σ : St} {H : Hp} {s : Shared} {l b : Addr} {xs ys zs : List V}
theorem Inv.lset {its its' : List Value}{n : Nat}{f : Array Value → Array Value}{t' : Nat}(I : Inv X pins σ H s)(hH : H l=some (.lst xs))
    (e : s.heap.get? l=some { cls := .type "list", data := .seq its.toArray n }) (hf : f its.toArray=its'.toArray) (hv : aL ys its') (hz : ys.length≤sizeLine) :
    Inv X pins σ (upd H l (.lst ys)) { s with heap := s.heap.update l (Obj.mapSeq f), toks := t' } := by
  have q := PySem.IsL.update e f
  rw [hf] at q
  refine I.write (x := l) (e := l) (by rw [hH];exact trivial) (.inl rfl) (fun b' u hb hu => (Heap.get?_update_other s.heap (Obj.mapSeq f) (Ne.symm hb)).trans hu) ⟨_, q⟩ ?_
  exact ⟨hz, its', _, hv, q⟩
theorem Inv.lnew {its : List Value}{t' : Nat}(I : Inv X pins σ H s)(hv : aL ys its)(hz : ys.length≤sizeLine) :
    Inv X pins σ (upd H s.heap.objs.size (.lst ys)) { s with heap := s.heap.push { cls := .type "list", data := .seq its.toArray }, toks := t' } :=
  I.laid (fun _ _ q => Heap.get?_push_of_some _ q) (Nat.le_refl _) ⟨hz, its, 0, hv, Heap.get?_push_size _ rfl⟩
theorem Inv.fresh (I : Inv X pins σ H s) : H s.heap.objs.size=none := I.hok.fresh (Nat.le_refl _)
theorem Inv.lstM (I : Inv X pins σ H s)(hH : H l=some (.lst xs)) : xs.length≤sizeLine ∧ ∃ (its : List Value) (n : Nat), aL xs its ∧ xs.length=its.length ∧ s.heap.get? l=some { cls := .type "list", data := .seq its.toArray n } := by
  obtain ⟨z, its, n, r, e⟩ := I.hok l _ hH
  exact ⟨z, its, n, r, r.length, e⟩
theorem fh {n : Nat}(h : n≤sizeLine) : Builtin.List.listTooLong n=false := by
  unfold Builtin.List.listTooLong
  exact decide_eq_false (by omega)
end
section
variable {X : Cx}
inductive gi (x : V)(vs : List V)(H : Hp)(Q : VK) : Prop
  | mk : ∀ l xs y, (x = .ref l) → (vs=[y]) → (H l=some (.lst xs)) → (xs.length < sizeLine) → (Q .non (upd H l (.lst (xs++[y])))) → gi x vs H Q
theorem gj : MtM X "list.append" gi := by
  intro pins s σ H x vs v us Q I rx rv h
  obtain ⟨l, xs, y, rfl, rfl, hH, hz, q⟩ := h
  cases rx
  obtain ⟨u, rfl, ru⟩ := rv.one
  obtain ⟨z, its, n, r, hl, e⟩ := I.lstM hH
  refine call_meets F.slot_list_append ⟨_, e, rfl⟩ F.entry_list_append (F.args_list_append_2 _ _) (PySem.list_append l its.toArray n u (by rw [List.size_toArray];omega)) ⟨e, ?_⟩
  refine ⟨.non, _, I.lset (its' := its++[u]) hH e (by simp) (r.append (.cons ru .nil)) ?_, rfl, q⟩
  rw [List.length_append, List.length_singleton]
  omega
inductive gk (x : V)(vs : List V)(H : Hp)(Q : VK) : Prop
  | mk : ∀ l b xs zs, (x = .ref l) → (vs=[.ref b]) → (H l=some (.lst xs)) → (H b=some (.lst zs)) → (xs.length+zs.length≤sizeLine) → (Q .non (upd H l (.lst (xs++zs)))) → gk x vs H Q
theorem gm : MtM X "list.extend" gk := by
  intro pins s σ H x vs v us Q I rx rv h
  obtain ⟨l, b, xs, zs, rfl, rfl, hH, hB, hz, q⟩ := h
  cases rx
  obtain ⟨u, rfl, ru⟩ := rv.one
  cases ru
  obtain ⟨z, its, n, r, hl, e⟩ := I.lstM hH
  obtain ⟨z2, its2, n2, r2, hl2, e2⟩ := I.lstM hB
  have hsz : its.toArray.size+its2.toArray.size≤sizeLine := by rw [List.size_toArray, List.size_toArray];omega
  have hlong : ¬ (!its.toArray.isEmpty && Builtin.List.listTooLong (its.toArray.size+its2.toArray.size))=true := by
    rw [fh hsz, Bool.and_false]
    exact Bool.false_ne_true
  refine call_meets F.slot_list_extend ⟨_, e, rfl⟩ F.entry_list_extend (F.args_list_extend_2 _ _)
    (AutoSeq1.list_extend_list_list_0 l its.toArray n b its2.toArray n2 hlong (by rw [List.size_toArray];omega) (by omega)) ⟨e, e2, ?_⟩
  refine ⟨.non, _, I.lset (its' := its++its2) hH e (by simp) (r.append r2) ?_, rfl, q⟩
  rw [List.length_append]
  omega
inductive nt (x : V)(y : V)(H : Hp)(Q : VK) : Prop
  | mk : ∀ l b xs zs, (x = .ref l) → (y = .ref b) → (H l=some (.lst xs)) → (H b=some (.lst zs)) → (xs.length+zs.length≤sizeLine) → (∀ p, H p=none → Q (.ref p) (upd H p (.lst (xs++zs)))) → nt x y H Q
theorem i_ : OpR X (binaryOp .Add) nt := by
  intro pins s σ H x y v u Q I rx ry h
  obtain ⟨l, b, xs, zs, rfl, rfl, hH, hB, hz, q⟩ := h
  cases rx
  cases ry
  obtain ⟨z, its, n, r, hl, e⟩ := I.lstM hH
  obtain ⟨z2, its2, n2, r2, hl2, e2⟩ := I.lstM hB
  refine PySem.P.add_list e e2 ?_ (by rw [List.size_toArray, List.size_toArray];omega)
  have ea : its.toArray++its2.toArray=(its++its2).toArray := by simp
  rw [ea]
  exact ⟨.ref _, _, I.lnew (t' := s.toks) (r.append r2) (by rw [List.length_append];omega), rfl, q _ I.fresh⟩
inductive nu (x : V)(y : V)(H : Hp)(Q : VK) : Prop
  | mk : ∀ l k xs, (x = .ref l) → (y = .int k) → (H l=some (.lst xs)) → (-(2 ^ 63)≤k) → (k < 2 ^ 63) → (xs.length*k.toNat≤sizeLine) → (∀ p, H p=none → Q (.ref p) (upd H p (.lst (List.replicate k.toNat xs).flatten))) → nu x y H Q
theorem jH {α : Type}(xs : List α)(k : Nat) : (List.replicate k xs).flatten.length=k*xs.length := by
  induction k with
  | zero => simp
  | succ k ih => rw [List.replicate_succ, List.flatten_cons, List.length_append, ih, Nat.succ_mul, Nat.add_comm]
theorem kJ : OpR X (binaryOp .Mult) nu := by
  intro pins s σ H x y v u Q I rx ry h
  obtain ⟨l, k, xs, rfl, rfl, hH, h1, h2, hz, q⟩ := h
  cases rx
  obtain ⟨t, rfl⟩ := ry
  obtain ⟨z, its, n, r, hl, e⟩ := I.lstM hH
  have hlen : its.toArray.size*k.toNat≤sizeLine := by rw [List.size_toArray, ← hl];exact hz
  have hcap : ¬ its.toArray.size*k.toNat > (2 ^ 63 - 1) / 8 := by
    have : (sizeLine : Nat)≤(2 ^ 63 - 1) / 8 := by decide
    omega
  have hfit : ¬ (!Builtin.List.listFitsIndex k)=true := by
    rw [fitsIndex_both h1 h2]
    exact Bool.false_ne_true
  have hlong : ¬ Builtin.List.listTooLong (its.toArray.size*k.toNat)=true := by
    rw [fh hlen]
    exact Bool.false_ne_true
  have hnew : List.foldl (fun x1 x2 => x1++x2) #[] (List.replicate (if its.toArray.isEmpty=true then 0 else k.toNat) its.toArray)=(List.replicate k.toNat its).flatten.toArray := by
    have f0 : ∀ m : Nat, List.foldl (fun x1 x2 => x1++x2) #[] (List.replicate m its.toArray)=(List.replicate m its).flatten.toArray := fun m => by
      have := d4 its m []
      rw [List.nil_append] at this
      exact this
    rw [f0]
    cases its with
    | nil => simp
    | cons a r' => rw [if_neg (by simp)]
  refine wpAny_binaryOp_repeat_ref (T := "list") (U := "int") (by decide) ⟨_, e, rfl⟩ (fun s' => typeIs_int s' k t) noFill_list_mul F.fills_int_mul F.slot_int_rmul repeat_list F.slot_int_index.lookup
    (call_meets F.slot_int_rmul (typeIs_int s k t) F.entry_int_rmul (F.args_int_rmul_2 _ _) (int___rmul___int_list k t l its.toArray n)
      ⟨e, rfl, ⟨_, e, rfl⟩, call_meets F.slot_list_mul ⟨_, e, rfl⟩ F.entry_list_mul (F.args_list_mul_2 _ _) (AutoListH.list___mul___list_int_3 l its.toArray n k t hfit hcap hlong) ⟨e, ?_⟩⟩)
  rw [hnew]
  exact ⟨.ref _, _, I.lnew (t' := s.toks) (r.rep k.toNat) (by rw [jH, Nat.mul_comm];exact hz), rfl, q _ I.fresh⟩
end
section
variable {prog : Program} {w : World} {A : Around} {E : Value → Shared → Prop} {s : Shared}
end
section
variable {X : Cx}
end
section
variable {κ : Type} [DecidableEq κ]
def bq (kvs : List (κ × V))(k : κ) : Option V := (kvs.find? fun kv => decide (kv.1=k)).map (·.2)
def aV (kvs : List (κ × V))(k : κ)(v : V) : List (κ × V) :=
  if (kvs.any fun kv => decide (kv.1=k))=true then kvs.map (fun kv => if kv.1=k then (kv.1, v) else kv) else kvs++[(k, v)]
theorem aM {p : κ × V}{r : List (κ × V)}{k : κ}(e : p.1=k) : bq (p::r) k=some p.2 := by simp [bq, List.find?_cons, e]
theorem aN {p : κ × V}{r : List (κ × V)}{k : κ}(e : ¬ p.1=k) : bq (p::r) k=bq r k := by simp [bq, List.find?_cons, e]
theorem bV (k : κ) : ∀ kvs : List (κ × V), (kvs.any fun kv => decide (kv.1=k))=(bq kvs k).isSome
  | [] => rfl
  | p::r => by
    rw [List.any_cons]
    by_cases e : p.1=k
    · simp only [aM e, decide_eq_true e, Bool.true_or, Option.isSome_some]
    · rw [aN e, decide_eq_false e, Bool.false_or];exact bV k r
theorem fi (k j : κ)(y : V) : ∀ kvs : List (κ × V), bq (kvs.map fun kv => if kv.1=k then (kv.1, y) else kv) j=(bq kvs j).map fun x => if j=k then y else x
  | [] => rfl
  | p::r => by
    have ih := fi k j y r
    rw [List.map_cons]
    by_cases h : p.1=k
    · rw [if_pos h]
      by_cases e : p.1=j
      · rw [aM (p := (p.1, y)) e, aM e, Option.map_some, if_pos (e.symm.trans h)]
      · rw [aN (p := (p.1, y)) e, aN e, ih]
    · rw [if_neg h]
      by_cases e : p.1=j
      · rw [aM (p := p) e, aM e, Option.map_some, if_neg (fun z => h (e.trans z))]
      · rw [aN (p := p) e, aN e, ih]
theorem d5 (k j : κ)(y : V) : ∀ kvs : List (κ × V), bq kvs k=none → bq (kvs++[(k, y)]) j=if j=k then some y else bq kvs j
  | [], _ => by
    by_cases e : k=j
    · rw [if_pos e.symm];exact aM (p := (k, y)) e
    · rw [if_neg (fun z => e z.symm)];exact aN (p := (k, y)) e
  | p::r, hn => by
    rw [List.cons_append]
    have hk : ¬ p.1=k := fun z => by rw [aM z] at hn;cases hn
    rw [aN hk] at hn
    have ih := d5 k j y r hn
    by_cases e : p.1=j
    · rw [aM e, aM e, if_neg (fun z => hk (e.trans z))]
    · rw [aN e, aN e, ih]
theorem iF (kvs : List (κ × V))(k j : κ)(y : V) : bq (aV kvs k y) j=if j=k then some y else bq kvs j := by
  unfold aV
  by_cases a : (kvs.any fun kv => decide (kv.1=k))=true
  · rw [if_pos a, fi]
    rw [bV] at a
    by_cases e : j=k
    · obtain ⟨x, hx⟩ := Option.isSome_iff_exists.mp a
      rw [if_pos e, e, hx, Option.map_some, if_pos rfl]
    · rw [if_neg e]
      cases bq kvs j with
      | none => rfl
      | some x => rw [Option.map_some, if_neg e]
  · rw [if_neg a]
    refine d5 k j y kvs ?_
    rw [bV] at a
    cases q : bq kvs k with
    | none => rfl
    | some x => rw [q] at a;exact (a rfl).elim
theorem aW (kvs : List (κ × V))(k : κ)(v : V) : (aV kvs k v).length≤kvs.length+1 := by
  unfold aV
  split
  · rw [List.length_map];omega
  · rw [List.length_append, List.length_cons, List.length_nil];omega
theorem fj {kvs : List (κ × V)}{k : κ}(v : V)(h : bq kvs k=none) : aV kvs k v=kvs++[(k, v)] := by
  unfold aV
  rw [bV, h]
  exact if_neg (by decide)
theorem fN.isSome_eq {o : Option V}{u : Option Value}(r : fN o u) : o.isSome=u.isSome := by
  cases o with
  | none => cases u with
    | none => rfl
    | some _ => exact (show False from r).elim
  | some _ => cases u with
    | none => exact (show False from r).elim
    | some _ => rfl
theorem KV.val {kvs : List (κ × V)}{vs : List (κ × Value)}(r : KV kvs vs)(k : κ) : fN (bq kvs k) (valueAt vs k) := by
  unfold KV at r
  induction r with
  | nil => exact True.intro
  | @cons p q ps qs h t ih =>
    obtain ⟨h1, h2⟩ := h
    by_cases e : p.1=k
    · have e' : q.1=k := h1.symm.trans e
      have b : valueAt (q::qs) k=some q.2 := by simp [valueAt, List.find?_cons, e']
      rw [aM e, b];exact h2
    · have e' : ¬ q.1=k := fun z => e (h1.trans z)
      have b : valueAt (q::qs) k=valueAt qs k := by simp [valueAt, List.find?_cons, e']
      rw [aN e, b];exact ih
theorem KV.any {kvs : List (κ × V)}{vs : List (κ × Value)}(r : KV kvs vs)(k : κ) : (kvs.any fun kv => decide (kv.1=k))=vs.any fun kv => decide (kv.1=k) := by
  unfold KV at r
  induction r with
  | nil => rfl
  | cons h t ih => rw [List.any_cons, List.any_cons, ih, h.1]
theorem KV.repl {kvs : List (κ × V)}{vs : List (κ × Value)}(r : KV kvs vs)(k : κ){y : V}{u : Value}(ry : aO y u) :
    KV (kvs.map fun kv => if kv.1=k then (kv.1, y) else kv) (vs.map fun kv => if kv.1=k then (kv.1, u) else kv) := by
  unfold KV at r ⊢
  induction r with
  | nil => exact .nil
  | @cons p q ps qs h t ih =>
    rw [List.map_cons, List.map_cons]
    refine .cons ?_ ih
    obtain ⟨h1, h2⟩ := h
    by_cases e : p.1=k
    · rw [if_pos e, if_pos (h1.symm.trans e)];exact ⟨h1, ry⟩
    · rw [if_neg e, if_neg (fun z => e (h1.trans z))];exact ⟨h1, h2⟩
theorem KV.put {kvs : List (κ × V)}{vs : List (κ × Value)}(r : KV kvs vs)(k : κ){y : V}{u : Value}(ry : aO y u) : KV (aV kvs k y) (stored vs k u) := by
  unfold aV stored
  rw [r.any k]
  by_cases e : (vs.any fun kv => decide (kv.1=k))=true
  · rw [if_pos e, if_pos e];exact r.repl k ry
  · rw [if_neg e, if_neg e];exact Paired.snoc r ⟨rfl, ry⟩
theorem KV.length {kvs : List (κ × V)}{vs : List (κ × Value)}(r : KV kvs vs) : kvs.length=vs.length := Paired.length r
end
theorem gn {P : Program}{w : World}{k : Key}{u : Value}(r : aO (kV k) u) : (au P w).is k u=true := by
  cases k with
  | inl i => obtain ⟨t, e⟩ := (show ∃ t, u=Value.int i t from r);subst e;exact eG P w i t
  | inr x => obtain ⟨t, e⟩ := (show ∃ t, u=Value.str x t from r);subst e;exact eI P w x t
theorem d6 {P : Program}{w : World} : ∀ {ks : List Key} {us : List Value}, aL (ks.map kV) us → ItemsAre (au P w) ks us
  | [], _, r => by rw [List.map_nil] at r;cases r;exact .nil
  | k::ks, _, r => by
    rw [List.map_cons] at r
    cases r with
    | cons h t => exact .cons (gn h) (d6 t)
abbrev KT (H : Hp) : List (List Key × V) → List (List Key × Addr × Value) → Prop := Paired fun p q => p.1=q.1 ∧ H q.2.1=some (.tup (p.1.map kV)) ∧ aO p.2 q.2.2
theorem KT.val {H : Hp}{kvs : List (List Key × V)}{xs : List (List Key × Addr × Value)}(r : KT H kvs xs)(k : List Key) : fN (bq kvs k) ((atKey xs k).map (·.2)) := by
  induction r with
  | nil => exact True.intro
  | @cons p q ps qs h t ih =>
    obtain ⟨h1, _, h2⟩ := h
    by_cases e : p.1=k
    · have e' : q.1=k := h1.symm.trans e
      have b : atKey (q::qs) k=some q.2 := by simp [atKey, List.find?_cons, e']
      rw [aM e, b];exact h2
    · have e' : ¬ q.1=k := fun z => e (h1.trans z)
      have b : atKey (q::qs) k=atKey qs k := by simp [atKey, List.find?_cons, e']
      rw [aN e, b];exact ih
theorem KT.repl {H : Hp}{kvs : List (List Key × V)}{xs : List (List Key × Addr × Value)}(r : KT H kvs xs)(k : List Key){y : V}{u : Value}(ry : aO y u) :
    KT H (kvs.map fun kv => if kv.1=k then (kv.1, y) else kv) (xs.map (putAt k u)) := by
  induction r with
  | nil => exact .nil
  | @cons p q ps qs h t ih =>
    rw [List.map_cons, List.map_cons]
    refine .cons ?_ ih
    obtain ⟨h1, h2, h3⟩ := h
    unfold putAt
    by_cases e : p.1=k
    · rw [if_pos e, if_pos (h1.symm.trans e)];exact ⟨h1, h2, ry⟩
    · rw [if_neg e, if_neg (fun z => e (h1.trans z))];exact ⟨h1, h2, h3⟩
theorem KT.put {H : Hp}{kvs : List (List Key × V)}{xs : List (List Key × Addr × Value)}(r : KT H kvs xs)(k : List Key){b : Addr}{y : V}{u : Value}(hb : H b=some (.tup (k.map kV)))(ry : aO y u) :
    KT H (aV kvs k y) (storedH xs k b u) := by
  have e : (kvs.any fun kv => decide (kv.1=k))=(atKey xs k).isSome := by
    rw [bV, (r.val k).isSome_eq, Option.isSome_map]
  unfold aV storedH
  rw [e]
  by_cases q : (atKey xs k).isSome=true
  · rw [if_pos q, if_pos q];exact r.repl k ry
  · rw [if_neg q, if_neg q];exact Paired.snoc r ⟨rfl, hb, ry⟩
theorem KT.keeps {H H' : Hp}{kvs : List (List Key × V)}{xs : List (List Key × Addr × Value)}(r : KT H kvs xs)(ht : ∀ b ys, H b=some (.tup ys) → H' b=some (.tup ys)) : KT H' kvs xs :=
  Paired.mapP r fun _ _ z => ⟨z.1, ht _ _ z.2.1, z.2.2⟩
section
variable {P : Program} {w : World} {H : Hp} {h : Heap} {a : Addr}
theorem kK {u : HO}(ok : HOk P w H h)(e : Rd H a u) : bg P w H h a u := e.ok ok
theorem iG {kvs : List (Key × V)}(ok : HOk P w H h)(e : Rd H a (.dK kvs)) : kvs.length≤sizeLine ∧ (a == sysModules)=false ∧ ∃ vs, KV kvs vs ∧ h.DictOf (au P w) a vs :=
  show bg P w H h a (.dK kvs) from kK ok e
theorem jI {kvs : List (Key × V)}(ok : HOk P w H h)(e : H a=some (.dK kvs)) : kvs.length≤sizeLine ∧ (a == sysModules)=false ∧ ∃ vs, KV kvs vs ∧ h.DictOf (au P w) a vs := iG ok (.inl e)
theorem gp {ks : List Key}(ok : HOk P w H h)(e : H a=some (.tup (ks.map kV))) : (tupleKind (au P w)).is h ks a := by
  obtain ⟨_, its, r, ⟨o, h1, h2, n, h3⟩, _⟩ := (show bg P w H h a (.tup (ks.map kV)) from ok a _ e)
  exact ⟨o, its.toArray, n, h1, h2, h3, by simpa using d6 r⟩
theorem jJ {kvs : List (List Key × V)}(ok : HOk P w H h)(e : Rd H a (.dT kvs)) : kvs.length≤sizeLine ∧ (a == sysModules)=false ∧
    ∃ xs, KT H kvs xs ∧ h.DictOfH (tupleKind (au P w)) a xs := by
  obtain ⟨z, y, xs, r, o, es, ep, h1, h2, h3, h4, h5⟩ := (show bg P w H h a (.dT kvs) from kK ok e)
  refine ⟨z, y, xs, r, o, es, ep, h1, h2, h3, h4, fun x hx => ?_, h5⟩
  have all : ∀ {l : List (List Key × V)} {m : List (List Key × Addr × Value)}, KT H l m → ∀ x∈m, (tupleKind (au P w)).is h x.1 x.2.1 := by
    intro l m q
    induction q with
    | nil => intro x hx;exact nomatch hx
    | @cons p q ps qs hq t ih =>
      intro x hx
      rcases List.mem_cons.mp hx with e | hx
      · subst e
        exact gp ok (by rw [← hq.1];exact hq.2.1)
      · exact ih x hx
  exact all r x hx
theorem mm {kvs : List (List Key × V)}(ok : HOk P w H h)(e : H a=some (.dT kvs)) : kvs.length≤sizeLine ∧ (a == sysModules)=false ∧
    ∃ xs, KT H kvs xs ∧ h.DictOfH (tupleKind (au P w)) a xs := jJ ok (.inl e)
end
def dN (H : Hp)(a : Addr)(y : V)(r : Option V) : Prop :=
  (∃ kvs k, Rd H a (.dK kvs) ∧ y=kV k ∧ r=bq kvs k) ∨ ∃ kvs k b, Rd H a (.dT kvs) ∧ y = .ref b ∧ H b=some (.tup (k.map kV)) ∧ r=bq kvs k
def ik (H : Hp)(a : Addr)(y v : V)(H' : Hp) : Prop :=
  (∃ kvs k, H a=some (.dK kvs) ∧ y=kV k ∧ kvs.length < sizeLine ∧ H'=upd H a (.dK (aV kvs k v))) ∨
  ∃ kvs k b, H a=some (.dT kvs) ∧ y = .ref b ∧ H b=some (.tup (k.map kV)) ∧ kvs.length < sizeLine ∧ H'=upd H a (.dT (aV kvs k v))
theorem dN.k {H : Hp}{a : Addr}{kvs : List (Key × V)}{k : Key}(e : H a=some (.dK kvs)) : dN H a (kV k) (bq kvs k) := .inl ⟨kvs, k, .inl e, rfl, rfl⟩
theorem ik.k {H : Hp}{a : Addr}{kvs : List (Key × V)}{k : Key}{v : V}(e : H a=some (.dK kvs))(hl : kvs.length < sizeLine) : ik H a (kV k) v (upd H a (.dK (aV kvs k v))) := .inl ⟨kvs, k, e, rfl, hl, rfl⟩
section
variable {X : Cx} {pins : List (Addr × Obj)} {σ : St} {H : Hp} {s : Shared} {a : Addr} {y v : V} {u r : Value} {o : Option V} {A : Around} {E : Value → Shared → Prop}
theorem Inv.big (I : Inv X pins σ H s) : sysModules < s.heap.objs.size := by
  have h : mainGlobals < s.heap.objs.size := (I.mod.glob.keeps I.bk).lt
  exact Nat.lt_trans (by decide) h
theorem gq {Q : Value → Shared → Prop}(hu : A.units+1 < cLine)(I : Inv X pins σ H s)(g : dN H a y (some v))(ry : aO y u)(h : ∀ w' s', Inv X pins σ H s' → aO v w' → Q w' s') :
    wpAny (model X.prog X.w) A (getItem (.ref a) u) Q E s := by
  rcases g with ⟨kvs, k, e, ey, l⟩ | ⟨kvs, k, b, e, ey, eb, l⟩
  · subst ey
    obtain ⟨z, hd, vs, rel, dd⟩ := iG I.hok e
    obtain ⟨w', hw, rw'⟩ := fN.some_of (v := v) (o := valueAt vs k) (by rw [l];exact rel.val k)
    exact wpAny_getItem_of (gn ry) dd.mapOf hw (h w' _ (I.tok _) rw')
  · subst ey
    cases (show u=Value.ref b from ry)
    obtain ⟨z, hd, xs, rel, dd⟩ := jJ I.hok e
    obtain ⟨w', hw, rw'⟩ := fN.some_of (v := v) (o := (atKey xs k).map (·.2)) (by rw [l];exact rel.val k)
    obtain ⟨p, hp, hp2⟩ := Option.map_eq_some_iff.mp hw
    refine wpAny_getItem_heap (tupleKind_room_in1 hu) (gp I.hok eb) dd hp ?_
    rw [hp2]
    exact h w' _ (I.tok _) rw'
theorem dB {h' : Heap}{t' : Nat}{ob : HO}(I : Inv X pins σ H s)(mu : Mut (H a))(hs : Heap.SameBut a s.heap h')(he : ∃ q, h'.get? a=some q)(new : bg X.prog X.w (upd H a ob) h' a ob) :
    Inv X pins σ (upd H a ob) { s with heap := h', toks := t' } :=
  I.write (x := a) (e := a) mu (.inl rfl) (fun b q hb z => (hs.2 b hb).trans z) he new
theorem gr {P : Program}{w : World}{H' : Hp}{h' : Heap}{kvs : List (Key × V)}{vs : List (Key × Value)}(z : kvs.length≤sizeLine)(hd : (a == sysModules)=false)(rel : KV kvs vs)(dd : h'.DictOf (au P w) a vs) :
    bg P w H' h' a (.dK kvs) := ⟨z, hd, vs, rel, dd⟩
theorem gu {H' : Hp}{Q : Unit → Shared → Prop}(hu : A.units+1 < cLine)(I : Inv X pins σ H s)(g : ik H a y v H')(ry : aO y u)(rv : aO v r)(h : ∀ s', Inv X pins σ H' s' → Q () s') :
    wpAny (model X.prog X.w) A (setItem (.ref a) u r) Q E s := by
  rcases g with ⟨kvs, k, e, ey, l, eH⟩ | ⟨kvs, k, b, e, ey, eb, l, eH⟩
  · subst ey eH
    obtain ⟨z, hd, vs, rel, dd⟩ := jI I.hok e
    have hz : vs.length≤sizeLine := by rw [← rel.length];exact z
    have hl : (aV kvs k v).length≤sizeLine := by have := aW kvs k v;omega
    refine wpAny_setItem_pairs (hsz := hz) (gn ry) dd fun h' dd' hs => h _ ?_
    have he : ∃ q, h'.get? a=some q := let ⟨q, _, _, hq, _⟩ := dd';⟨q, hq⟩
    exact dB I (by rw [e];exact True.intro) hs he (gr hl hd (rel.put k rv) dd')
  · subst ey eH
    cases (show u=Value.ref b from ry)
    obtain ⟨z, hd, xs, rel, dd⟩ := mm I.hok e
    have hz : xs.length≤sizeLine := by rw [← Paired.length rel];exact z
    have hl : (aV kvs k v).length≤sizeLine := by have := aW kvs k v;omega
    refine wpAny_setItem_heap (hsz := hz) (tupleKind_room_in1 hu) (gp I.hok eb) dd fun h' dd' hs => h _ ?_
    obtain ⟨q, es, ep, hq, h2, h3, h4, _, h5⟩ := dd'
    refine dB I (by rw [e];exact True.intro) hs ⟨q, hq⟩ ⟨hl, hd, _, (rel.put k eb rv).keeps fun c ys ec => ?_, q, es, ep, hq, h2, h3, h4, h5⟩
    rw [aj (jo ec e (fun z => nomatch z))]
    exact ec
end
section
variable {X : Cx} {pins : List (Addr × Obj)} {σ : St} {H : Hp} {s : Shared} {a : Addr} {kvs : List (Key × V)} {k : Key} {u : Value} {A : Around} {E : Value → Shared → Prop}
theorem mn {Q : Value → Shared → Prop}(I : Inv X pins σ H s)(e : Rd H a (.dK kvs))(h : ∀ t s', Inv X pins σ H s' → Q (.int kvs.length t) s') : wpAny (model X.prog X.w) A (call (.builtin "len") [.ref a]) Q E s := by
  obtain ⟨z, hd, vs, rel, dd⟩ := iG I.hok e
  refine call_len_dict hd dd (by rw [← rel.length];rw [sizeLine_eq] at z;omega) ?_
  rw [← rel.length]
  exact h _ _ (I.tok _)
end
def nv (i : Expr) : Prop := ∀ ov iv, subscripted i false ov iv=operate [ov, iv] (getItem ov iv)
theorem jK {prog : Program}{w : World}{A : Around}{E : Value → Shared → Prop}{s : Shared}{env : Env}{value slice : Expr}{pos : Pos}{T id : String}{Q : Value → Shared → Prop}
    (hl : typeLookup (.type T) "__getitem__" = pure (some (.builtin id))) (hs : nv slice)
    (h : wpAny (model prog w) A (eval value env) (fun o s₁ => wpAny (model prog w) A (eval slice env) (fun i s₂ => s₂.TypeIs o T ∧ wpAny (model prog w) A (getItem o i) Q E s₂) E s₁) E s) :
    wpAny (model prog w) A (eval (.Subscript value slice pos) env) Q E s := by
  refine Subscript_ (wpAny_mono h (fun o s₁ h₁ => wpAny_mono h₁ (fun i s₂ h₂ => ?_) fun _ _ x => x) fun _ _ x => x)
  obtain ⟨hT, h₂⟩ := h₂
  unfold subscriptTail
  refine wpAny_bind ?_
  rw [getitemInPython_of_ne hT.not_modules]
  refine wpAny_bind (wpAny_specialOf hT hl ?_)
  have fin : wpAny (model prog w) A (subscripted slice false o i) (fun r s₃ => wpAny (model prog w) A (letTemporaryGo value o r >>= fun _ => pure r) Q E s₃) E s₂ := by
    rw [hs o i]
    exact wpAny_operating (wpAny_mono h₂ (fun r s₃ h₃ => wpAny_bind (wpAny_letTemporaryGo (wpAny_pure h₃))) fun _ _ x => x)
  first
    | exact wpAny_pure (wpAny_bind fin)
    | exact wpAny_bind (wpAny_pure (wpAny_bind fin))
    | exact wpAny_bind fin
theorem eP {X : Cx}{pins : List (Addr × Obj)}{σ : St}{H : Hp}{s : Shared}{a : Addr}{y : V}{o : Option V}(I : Inv X pins σ H s)(g : dN H a y o) : s.TypeIs (.ref a) "dict" := by
  rcases g with ⟨kvs, k, e, _, _⟩ | ⟨kvs, k, b, e, _, _, _⟩
  · obtain ⟨_, _, vs, _, dd⟩ := iG I.hok e
    exact dd.typeIs
  · obtain ⟨_, _, xs, _, dd⟩ := jJ I.hok e
    exact dd.typeIs
def kL (td ty : TE) : TE := fun σ H Q => td σ H fun x H1 => ty σ H1 fun y H2 => ∃ a v, x = .ref a ∧ dN H2 a y (some v) ∧ Q v H2
def mr (td ty tv : TE) : TS := fun D σ H => tv σ H fun v H1 => td σ H1 fun x H2 => ty σ H2 fun y H3 => ∃ a H4, x = .ref a ∧ ik H3 a y v H4 ∧ D.nx σ H4
section
variable {X : Cx} {o i e value : Expr} {pos pos' tpos : Pos} {td ty tv : TE}
theorem aD (hu : X.A.units+1 < cLine)(ho : PE X o td)(hi : PE X i ty)(hs : nv i) : PE X (.Subscript o i pos) (kL td ty) := by
  intro pins s σ H Q I h
  refine jK PySem.F.slot_dict_getitem.lookup hs (thn (ho pins s σ H _ I h) fun u s1 ⟨x, H1, I1, rx, q1⟩ => thn (hi pins s1 σ H1 _ I1 q1) fun iv s2 zq68 => ?_)
  obtain ⟨y, H2, I2, ry, a, v, ex, g, q2⟩ := zq68
  subst ex
  obtain rfl : u=Value.ref a := rx
  exact ⟨eP I2 g, gq hu I2 g ry fun w' s3 I3 rw' => ⟨v, H2, I3, rw', q2⟩⟩
theorem bP (hu : X.A.units+1 < cLine)(ho : PE X o td)(hi : PE X i ty)(hv : PE X value tv)(hs : swapsWith value (some (.Subscript o i pos')) pos.line X.env=pure false) :
    PS X (.Assign [.Subscript o i pos'] value pos) (mr td ty tv) := by
  intro pins s σ H D I h
  refine wpAny_Assign_Subscript (thn (hv pins s σ H _ I h) fun r s1 ⟨v, H1, I1, rv, q1⟩ => thn (ho pins s1 σ H1 _ I1 q1) fun u s2 ⟨x, H2, I2, rx, q2⟩ => thn (hi pins s2 σ H2 _ I2 q2) fun iv s3 zq71 => ?_) hs
  obtain ⟨y, H3, I3, ry, a, H4, ex, g, q3⟩ := zq71
  subst ex
  obtain rfl : u=Value.ref a := rx
  exact gu hu I3 g ry rv fun s4 I4 => ⟨σ, H4, I4, q3⟩
end
theorem fk {P : Program}{w : World}{H : Hp}(h : Heap)(hb : sysModules < h.objs.size) : bg P w H (h.push { cls := .type "dict", data := .dict #[] }) h.objs.size (.dK []) :=
  ⟨Nat.zero_le _, beq_eq_false_iff_ne.mpr (Ne.symm (Nat.ne_of_lt hb)), [], .nil, Heap.DictOf.new h⟩
def kM : TE := fun _ H Q => ∀ p, H p=none → Q (.ref p) (upd H p (.dK []))
section
variable {X : Cx} {pos : Pos}
theorem dC : PE X (.Dict [] [] pos) kM := fun pins s σ H Q I h =>
  wpAny_Dict_empty ⟨.ref s.heap.objs.size, _, I.laid (a := s.heap.objs.size) (o := .dK []) (t' := s.toks) (fun _ _ q => Heap.get?_push_of_some _ q) (Nat.le_refl _) (fk s.heap I.big), rfl, h _ (I.hok.fresh (Nat.le_refl _))⟩
end
def gv : List (TE × TE) → St → Hp → (List (V × V) → Hp → Prop) → Prop
  | [], _, H, Q => Q [] H
  | (tk, tv)::r, σ, H, Q => tk σ H fun x H1 => tv σ H1 fun y H2 => gv r σ H2 fun ps H3 => Q ((x, y)::ps) H3
abbrev VV : List (V × V) → List (Value × Value) → Prop := Paired fun p q => aO p.1 q.1 ∧ aO p.2 q.2
def PPs (X : Cx)(pos : Pos)(keys : List (Option Expr))(values : List Expr)(trs : List (TE × TE)) : Prop :=
  ∀ (pins : List (Addr × Obj)) (s : Shared) (σ : St) (H : Hp) (Q : List (V × V) → Hp → Prop), Inv X pins σ H s → gv trs σ H Q →
    wpAny (model X.prog X.w) X.A (evalPairs (pairTrees keys values X.env pos)) (fun vs s' => ∃ ps H', Inv X pins σ H' s' ∧ VV ps vs ∧ Q ps H') X.xe s
theorem jL {X : Cx}{pos : Pos} : PPs X pos [] [] [] := fun pins s σ H Q I h => pairTrees_nil_walk ⟨[], H, I, .nil, h⟩
theorem cw {X : Cx}{pos : Pos}{k v : Expr}{ks : List (Option Expr)}{vs : List Expr}{tk tv : TE}{trs : List (TE × TE)}(hk : PE X k tk)(hv : PE X v tv)(hr : PPs X pos ks vs trs) :
    PPs X pos (some k::ks) (v::vs) ((tk, tv)::trs) := fun pins s σ H Q I h =>
  pairTrees_cons_walk (thn (hk pins s σ H _ I h) fun u s1 ⟨x, H1, I1, rx, q1⟩ => thn (hv pins s1 σ H1 _ I1 q1) fun w2 s2 ⟨y, H2, I2, ry, q2⟩ =>
    thn (hr pins s2 σ H2 _ I2 q2) fun ws s3 zq75 => (by obtain ⟨ps, H3, I3, rel, q3⟩ := zq75;exact ⟨(x, y)::ps, H3, I3, .cons ⟨rx, ry⟩ rel, q3⟩))
def cG (kvs more : List (Key × V)) : List (Key × V) := more.foldl (fun acc kv => aV acc kv.1 kv.2) kvs
theorem KV.merge : ∀ {more : List (Key × V)} {rs : List (Key × Value)} {kvs : List (Key × V)} {vs : List (Key × Value)}, KV more rs → KV kvs vs → KV (cG kvs more) (merged vs rs) := by
  intro more rs kvs vs r
  unfold KV at r
  induction r generalizing kvs vs with
  | nil => intro q;exact q
  | @cons p q ps qs h t ih =>
    intro r0
    have e : KV (aV kvs p.1 p.2) (stored vs q.1 q.2) := by
      have := r0.put p.1 h.2
      rw [← h.1];exact this
    exact ih e
theorem bW : ∀ (more kvs : List (Key × V)), (cG kvs more).length≤kvs.length+more.length
  | [], kvs => by show kvs.length≤kvs.length+0;omega
  | p::r, kvs => by
    have h1 := bW r (aV kvs p.1 p.2)
    have h2 := aW kvs p.1 p.2
    show (cG (aV kvs p.1 p.2) r).length≤_
    rw [List.length_cons];omega
theorem da {P : Program}{w : World} : ∀ {kvs : List (Key × V)} {ws : List (Value × Value)}, VV (kvs.map fun kv => (kV kv.1, kv.2)) ws → ∃ rs, Carries (au P w) ws rs ∧ KV kvs rs
  | [], _, r => by rw [List.map_nil] at r;cases r;exact ⟨[], True.intro, .nil⟩
  | p::kvs, _, r => by
    rw [List.map_cons] at r
    cases r with
    | @cons a b as bs h t =>
      obtain ⟨rs, c, q⟩ := da (P := P) (w := w) t
      obtain ⟨b1, b2⟩ := b
      exact ⟨(p.1, b2)::rs, ⟨gn h.1, rfl, c⟩, .cons ⟨rfl, h.2⟩ q⟩
def mw (trs : List (TE × TE)) : TE := fun σ H Q => ∀ p, H p=none → gv trs σ (upd H p (.dK [])) fun ps H2 => H2 p=some (.dK []) ∧ ∃ kvs : List (Key × V), ps=kvs.map (fun kv => (kV kv.1, kv.2)) ∧ kvs.length≤15 ∧ Q (.ref p) (upd H2 p (.dK (cG [] kvs)))
theorem jM {X : Cx}{pos : Pos}{keys : List (Option Expr)}{values : List Expr}{trs : List (TE × TE)}(h : PPs X pos keys values trs)(hall : keys.all (·.isSome)=true)(hl : keys.length=values.length)(h0 : keys≠[])
    (h15 : keys.length≤15) : PE X (.Dict keys values pos) (mw trs) := by
  intro pins s σ H Q I q
  have hn := I.hok.fresh (Nat.le_refl s.heap.objs.size)
  have I1 := I.laid (a := s.heap.objs.size) (o := .dK []) (h' := s.heap.push { cls := .type "dict", data := .dict #[] }) (t' := s.toks) (fun _ _ q => Heap.get?_push_of_some _ q) (Nat.le_refl _) (fk s.heap I.big)
  refine wpAny_Dict_walk (knd := au X.prog X.w) hall hl h0 h15 (thn (h pins _ σ _ _ I1 (q _ hn)) fun ws s2 zq76 => ?_)
  obtain ⟨ps, H2, I2, rel, e, kvs, ep, lk, q2⟩ := zq76
  subst ep
  obtain ⟨rs, c, rk⟩ := da (P := X.prog) (w := X.w) rel
  obtain ⟨z, hd, vs0, r0, dd⟩ := jI I2.hok e
  cases r0
  refine ⟨rs, c, dd, fun h' dd' hs => ⟨.ref s.heap.objs.size, _, ?_, rfl, q2⟩⟩
  have hz : (cG [] kvs).length≤sizeLine := by
    have h1 := bW kvs []
    rw [List.length_nil] at h1
    rw [sizeLine_eq];omega
  have he : ∃ q, h'.get? s.heap.objs.size=some q := let ⟨q, _, _, hq, _⟩ := dd';⟨q, hq⟩
  exact dB I2 (by rw [e];exact True.intro) hs he (gr hz hd (rk.merge .nil) dd')
section
variable {X : Cx} {pins : List (Addr × Obj)} {σ : St} {H : Hp} {s : Shared} {a : Addr} {y d : V} {u r : Value} {o : Option V} {A : Around} {E : Value → Shared → Prop}
end
section
variable {X : Cx} {o e f : Expr} {apos cpos : Pos} {td ty tx : TE}
end
section
variable {X : Cx} {pins : List (Addr × Obj)} {σ : St} {H : Hp} {s : Shared} {a : Addr} {kvs : List (Key × V)} {A : Around} {E : Value → Shared → Prop}
end
section
variable {X : Cx} {pins : List (Addr × Obj)} {σ : St} {H : Hp} {s : Shared} {a : Addr} {y : V} {u : Value} {A : Around} {E : Value → Shared → Prop}
end
end L2
namespace Att
open PySem PySem.W PySem.Calls PyProof.Rows
theorem cH {P : Params}{h : Heap} : ∀ (ns : List Int) (vs : List Value), WellAll P h vs (ns.map WData.int) → IntsAre vs ns := by
  intro ns
  induction ns with
  | nil =>
    intro vs w
    rw [List.map_nil] at w
    cases w
    exact .nil
  | cons n ns ih =>
    intro vs w
    rw [List.map_cons] at w
    cases w with
    | cons a b =>
      cases a
      exact .cons _ _ (ih _ b)
theorem gw {l : OpenLaw}{n : Nat}(hn : l.most=some n){P : Params}{h : Heap}{args : List WData}{vals : List Value}
    (hpre : l.row.toRowW.claim.pre args=true) (hwl : WellAll P h vals args) :
    ∃ a vs ns, vals=[Value.ref a] ∧ args=[WData.list (ns.map WData.int)] ∧ h.get? a=some { cls := .type "list", data := .seq vs.toArray } ∧ IntsAre vs ns ∧ ns.length≤n := by
  have hsh : WShape.hasAll [] args [.list .int]=true := (pre_splitW hpre).1
  have hc : l.pre.holds [] { args := args }=true := (pre_splitW hpre).2
  obtain ⟨d, r, rfl, h1, h2⟩ := hasAllW_cons hsh
  obtain rfl := hasAllW_nil h2
  obtain ⟨xs, rfl, h3⟩ := hasW_list h1
  obtain ⟨ns, rfl⟩ := items_int h3
  have hlen : ns.length≤n := by
    unfold OpenLaw.pre at hc
    have h4 : (WTm.not (.lt (.lit (.int (n : Int))) (.len (.arg 0)))).holds [] { args := [.list (ns.map .int)] }=true := by
      have h4 := (holds_andW hc).1
      rw [hn] at h4
      exact h4
    have h5 := condW_of h4 (w_not (w_lt w_lit (w_len_list (w_arg rfl))))
    rw [List.length_map] at h5
    refine Nat.le_of_not_lt fun q => ?_
    have q' : (n : Int) < ((ns.length : Nat) : Int) := by omega
    first
      | (rw [decide_eq_true q'] at h5;exact absurd h5 (by decide))
      | (simp at h5;omega)
  cases hwl with
  | cons w1 w2 =>
    cases w2
    cases w1 with
    | list ho hall => exact ⟨_, _, ns, rfl, rfl, ho, cH ns _ hall, hlen⟩
theorem gx (l : OpenLaw)(args : List WData) : l.row.toRowW.claim.post args (.bool true) args=true :=
  postW_of (r := l.row.toRowW) (X := (true == true))
    (show WShape.has [] (.bool true) .bool=true by first | rfl | decide | simp [WShape.has, WShape.arms, WShape.armsAll])
    (show (WTm.eq .res (.lit (.bool true))).value [] { args := args, res := some (.bool true), after := args }=some (.bool (true == true)) from w_eq_bool (w_res rfl) w_lit) rfl
theorem attach_call {l : OpenLaw}{n : Nat}{q : Program}{loose : List Str}{XP : (Str → Option Value) → Heap → Prop}{YP : World → Heap → Prop}{d : DefRec}
    (hn : l.most=some n) (hdf : d.params.defaults=[])
    (call : ∀ (w : World) (s₀ s₁ : Shared) (mg mb : Str → Option Value) (fa : Addr) (o : Obj) (pm cd doc : Value) (a : Addr) (vs : List Value) (ns : List Int),
      Ground q loose [] XP w s₀ mg mb s₁.heap → YP w s₁.heap →
      s₁.heap.get? fa=some o → o.data = .func (docDef d.name d.params d.body d.scope pm cd doc) → s₁.heap.CodeRec cd d.name → mg d.name=some (.ref fa) →
      s₁.heap.get? a=some { cls := .type "list", data := .seq vs.toArray } → IntsAre vs ns → ns.length≤n → s₁.gens=#[] →
      codeAny (model l.prog w) callerA (.call (.ref fa) ⟨[.ref a], []⟩) (fun r s' => r = .ok (.ret (.bool true)) ∧ OldK s₁.heap s'.heap ∧ s'.os=s₁.os ∧ AllBare s'.gens) s₁) :
    WalkO q loose XP YP l.row.toRowW d [] (fun f vs => PySem.call f vs) := by
  intro w s₀ s₁ mg mb G Y fa o pm cd doc dV kV ho hd hcd hD hmg hg args vals as hpre hlay hrd hwl hlo
  obtain rfl : dV = .none := Dflts.none hD hdf
  obtain rfl : kV = .none := Dflts.noKw hD
  obtain ⟨a, vs, ns, rfl, rfl, hobj, hints, hlen⟩ := gw hn hpre hwl
  refine enter_call (codeAny_mono (call w s₀ s₁ mg mb fa o pm cd doc a vs ns G Y ho (fd_plain hd) hcd hmg hobj hints hlen hg) fun r s' hq => ?_)
  obtain ⟨rfl, h2, h3, h4⟩ := hq
  exact ⟨.inl ⟨.bool true, .bool true, [], rfl, fun _ => rfl, .bool true, gx l _, fun _ => ⟨List.Pairwise.nil, fun _ hm => (nomatch hm)⟩⟩, h2, h3, h4⟩
section
variable {prog : Program} {w : World} {A : Around} {E : Value → Shared → Prop} {s : Shared} {K : Frag}
end
end Att
namespace L2
open PySem PySem.Spec PyProof.Rows
theorem d7 : ∀ {vs : List Value} {ns : List Int}, IntsAre vs ns → aL (ns.map V.int) vs
  | _, _, .nil => .nil
  | _, _, .cons n t h => .cons ⟨t, rfl⟩ (d7 h)
def my (H : Hp) : Prop := ∀ b, H b=none ∨ ∃ o xs, H b=some (.frz o (.lst xs))
theorem iH {P : Program}{w : World}{K : PySem.W.Frag}{mg mb : Str → Option Value}{CX : CXT}{k : Nat}{fa a : Addr}{fd : FuncData}{x : Str}{sp : Sp}{s₁ : Shared}{vs : List Value}{ns : List Int}
    (KX : K.In s₁.heap) (hns : s₁.heap.Ns mainGlobals mg) (hb : s₁.heap.Ns builtinsNs mb) (hbb : ∀ x : Str, x ≠ "__name__" → mb x=bootBuiltins x) (hlim : s₁.heap.NoLimit) (hg : s₁.gens=#[])
    (ha : s₁.heap.get? a=some { cls := .type "list", data := .seq vs.toArray }) (hi : IntsAre vs ns) (hl : ns.length≤sizeLine) (hr : c_ k callerA)
    (F : ∀ base : Heap, K.In base → base.Ns mainGlobals mg → ij P w K mg base CX k fa fd [x] sp) (hbind : ∀ (s : Shared) (u : Value), BindsTo s fd ⟨[u], []⟩ [(x, u)])
    (hsp : ∀ H : Hp, my H → SqL K H a (ns.map V.int) → sp [.ref a] H (fun v _ => v = .bl true) fun _ _ _ => False)
    (hCX : ∀ H e s', CX [] H s₁ (fun _ _ _ => False) e s' → False) :
    codeAny (model P w) callerA (.call (.ref fa) ⟨[.ref a], []⟩) (fun r s' => r = .ok (.ret (.bool true)) ∧ OldK s₁.heap s'.heap ∧ s'.os=s₁.os ∧ AllBare s'.gens) s₁ := by
  have rv := d7 hi
  have lenV := hi.length
  -- from an abstract heap in which nothing but the script may be tracked
  have core : ∀ H : Hp, my H → SqL K H a (ns.map V.int) → HOk P w H s₁.heap → (∀ b, H b≠none → b=a) → (H a≠none → K.lookup a=none) →
      codeAny (model P w) callerA (.call (.ref fa) ⟨[.ref a], []⟩) (fun r s' => r = .ok (.ret (.bool true)) ∧ OldK s₁.heap s'.heap ∧ s'.os=s₁.os ∧ AllBare s'.gens) s₁ := by
    intro H hO hS hok hA hK
    have base_of : ∀ {b : Addr} {o : Obj}, s₁.heap.get? b=some o → H b=none → (ir s₁.heap H).get? b=some o := fun e n => iu e n
    have noA : ∀ {b : Addr} {o : Obj} {es : Array DictEntry} {ep : Nat}, s₁.heap.get? b=some o → o.data = .dict es ep → H b=none := fun {b o es ep} e d => by
      cases q : H b with
      | none => rfl
      | some u =>
        have e' : b=a := hA b (by rw [q];simp)
        subst e'
        rw [ha] at e;cases e
        have d' : Data.seq vs.toArray _=Data.dict es ep := d
        cases d'
    have nsK : ∀ {b : Addr} {m : Str → Option Value}, s₁.heap.Ns b m → (ir s₁.heap H).Ns b m := fun {b m} ⟨o, es, ep, e, d, r⟩ => ⟨o, es, ep, base_of e (noA e d), d, r⟩
    have hKb : K.In (ir s₁.heap H) := fun b o e => base_of (KX b o e) (by
      cases q : H b with
      | none => rfl
      | some u =>
        have e' : b=a := hA b (by rw [q];simp)
        subst e'
        rw [hK (by rw [q];simp)] at e;cases e)
    have hM : Mod K mg (ir s₁.heap H) := ⟨hKb, nsK hns, ⟨mb, nsK hb, hbb⟩, let ⟨mc, h1, h2⟩ := hlim;⟨mc, nsK h1, h2⟩⟩
    have e0 : lP P w K mg (ir s₁.heap H) callerA [] s₁ H := ⟨rfl, hM, fun b o e => jq e, Nat.le_of_eq (fO _ _), trivial, fun b hb => absurd (show b∈([] : List Addr) from hb) (by simp), hok, .of_eq hg⟩
    refine codeAny_mono ((F _ hKb (nsK hns)).run callerA [] s₁ H ⟨[.ref a], []⟩ [.ref a] [.ref a] _ _ hr e0 (hbind s₁ (.ref a)) (.cons rfl .nil) (hsp H hO hS)) fun r s' h => ?_
    cases r with
    | error e => exact (hCX H e s' h).elim
    | ok fl =>
      cases fl with
      | next => exact False.elim h
      | brk => exact False.elim h
      | cont => exact False.elim h
      | ret u =>
        obtain ⟨v, H', os, bare, un, hok', r', q⟩ := h
        have q' : v = .bl true := q
        subst q'
        obtain rfl : u=Value.bool true := r'
        refine ⟨rfl, OldK.of_keep fun b o e => ?_, os, bare⟩
        cases q : H b with
        | none => exact un.keep b o e q (by intro z;exact absurd (show b∈([] : List Addr) from z) (by simp)) (by simp)
        | some u =>
          rcases hO b with z | ⟨ob, xs, z⟩
          · rw [q] at z;cases z
          · have z2 := un.frzs b ob _ z
            obtain ⟨e1, _⟩ := hok b _ z
            obtain ⟨e2, _⟩ := hok' b _ z2
            rw [e] at e1;cases e1
            exact e2
  cases hk : K.lookup a with
  | some o =>
    -- the script is one of the module's own objects
    have e := KX a o hk
    rw [ha] at e
    cases e
    refine core (fun _ => none) (fun _ => .inl rfl) (.inr ⟨_, vs.toArray, _, hk, rfl, rfl, rfl, by rw [List.size_toArray, lenV];exact hl, by simpa using rv⟩) (fun b u z => by have z' : (none : Option HO)=some u := z;cases z') (fun b z => absurd rfl z) fun z => absurd rfl z
  | none =>
    refine core (fun b => if b=a then some (.frz { cls := .type "list", data := .seq vs.toArray } (.lst (ns.map V.int))) else none) (fun b => ?_) (.inl (.inr ⟨{ cls := .type "list", data := .seq vs.toArray }, if_pos rfl⟩)) (fun b u z => ?_) (fun b z => ?_) fun _ => hk
    · by_cases hb : b=a
      · exact .inr ⟨_, _, if_pos hb⟩
      · exact .inl (if_neg hb)
    · by_cases hb : b=a
      · have z' := (if_pos hb).symm.trans z
        cases z'
        subst hb
        exact ⟨ha, by rw [List.length_map];exact hl, vs, _, rv, ha⟩
      · have z' := (if_neg hb).symm.trans z
        cases z'
    · by_cases hb : b=a
      · exact hb
      · exact absurd (if_neg hb) z
theorem gy {l : PySem.W.OpenLaw}{n k : Nat}{q : Program}{loose : List Str}{XP : (Str → Option Value) → Heap → Prop}{YP : World → Heap → Prop}{d : DefRec}{K : Params → PySem.W.Frag}{CX : World → CXT}{sp : World → Sp}{x : Str}
    (hn : l.most=some n) (hn2 : n≤sizeLine) (hdf : d.params.defaults=[]) (hr : c_ k callerA)
    (hY : ∀ (w : World) (h : Heap), YP w h → (K w.params).In h)
    (F : ∀ (w : World) (mg : Str → Option Value) (fa : Addr) (h : Heap), (K w.params).In h → h.Ns mainGlobals mg → mg d.name=some (.ref fa) →
      ∃ fd : FuncData, (∀ (s : Shared) (u : Value), BindsTo s fd ⟨[u], []⟩ [(x, u)]) ∧
        ∀ base : Heap, (K w.params).In base → base.Ns mainGlobals mg → ij l.prog w (K w.params) mg base (CX w) k fa fd [x] (sp w))
    (hsp : ∀ (w : World) (H : Hp) (a : Addr) (ns : List Int), ns.length≤n → my H → SqL (K w.params) H a (ns.map V.int) → sp w [.ref a] H (fun v _ => v = .bl true) fun _ _ _ => False)
    (hCX : ∀ (w : World) (H : Hp) (s : Shared) (e : Value) (s' : Shared), CX w [] H s (fun _ _ _ => False) e s' → False) :
    PySem.W.WalkO q loose XP YP l.row.toRowW d [] (fun f vs => PySem.call f vs) := by
  refine Att.attach_call hn hdf fun w s₀ s₁ mg mb fa o pm cd doc a vs ns G Y ho hd hcd hmg hobj hints hlen hg => ?_
  have KX := hY w _ Y
  obtain ⟨fd, hb, hF⟩ := F w mg fa _ KX G.T.g hmg
  exact iH KX G.T.g G.T.b G.T.builtins G.T.nolimit hg hobj hints (Nat.le_trans hlen hn2) hr hF hb (fun H hO hS => hsp w H a ns hlen hO hS) fun H e s' => hCX w H s₁ e s'
end L2
/- THE LAST THEOREM (shape;LID, My.* are yours):
   My.Adr: a structure of the addresses that your layer names (classes, functions);My.Txt K t: a structure (Prop) of the equations over K;
   My.txt_mk : {K} {implicit addresses ..} (e1 : nsIn K mainGlobals "law" = some (some (.ref f))) (e2 : K.lookup f=some ⟨oc, od, .func (fnOf "law" "law" params body scope dV kV doc pm an cdv ct), sl⟩) (e3 : codeIn K cdv "law" = true) .. : ∃ t, My.Txt K t
set_option maxRecDepth 100000 in
set_option maxHeartbeats 0 in
theorem PySem.Challenge.cw_LID_holds : PySem.Challenge.rw_LID.Holds := by
  w_on;o_law;k_head;(case hw => w_witness2)
  k_fill
  refine L2.gy (l := PySem.Challenge.rw_LID) (n := 63) (k := 40) (x := "script") (CX := fun w => ..) (sp := fun _ => My.sp_law) rfl (by decide) rfl ⟨rfl, by decide, by decide⟩ (fun w h Y => PySem.W.kIn_of Y) ?F ?S ?C
  case F =>
    intro w mg fa h KX G hmg
    have T : ∃ t, My.Txt (L2.KOf KX) t := by
      dsimp only [L2.KOf]                          -- K must stand as «<heap const> w.params» for k_is
      refine' My.txt_mk ?e1 ?e2 ?e3 ..
      (case e1 => PySem.W.k_is)                    -- in the order: a name -> its address -> its object -> its parts
      (case e2 => PySem.W.k_is)
      ..
    obtain ⟨t, T⟩ := T
    have e0 := hmg.symm.trans (PySem.W.mg_of KX G T.law)
    cases e0                                       -- fa is the law's own address
    exact ⟨_, fun s u => .of_eq rfl, fun base kb nb => My.law_fn T kb nb⟩     -- if «.of_eq rfl» comes too early: refine' ⟨_, ?b, fun base kb nb => My.law_fn T kb nb⟩;exact fun s u => .of_eq rfl
  case S => exact fun w H a ns hl hO hS => ..
  case C => exact ..
(the tactic k_is has no namespace: write k_is) -/
namespace L2
open PySem PySem.Spec PyProof.Rows
def ay (s : Stmt) : Arguments := match s with
  | .FunctionDef _ a _ _ _ _ _ _ _ _ => a
  | _ => { posonlyargs := [], args := [], vararg := none, kwonlyargs := [], kw_defaults := [], kwarg := none, defaults := [] }
def av (s : Stmt) : List Stmt := match s with
  | .FunctionDef _ _ b _ _ _ _ _ _ _ => b
  | _ => []
def ai (s : Stmt) : Scope := match s with
  | .FunctionDef _ _ _ _ _ _ sc _ _ _ => sc
  | _ => { kind := .function, names := [], isGenerator := false, isCoroutine := false }
abbrev CX0 : CXT := fun _ _ _ _ _ _ => False
abbrev E0 : XK := fun _ _ _ => False
theorem mz {X : Cx} : gf CX0 X E0 := fun _ _ _ _ _ _ _ h => h.elim
structure Fun (K : PySem.W.Frag) (x qual : Str) (st : Stmt) (f : Addr) (fd : FuncData) : Prop where
  ex : ∃ (oc : Value) (od : Option Addr) (kV doc pm : Value) (an : Option Addr) (cdv ct : Value) (osl : Array (Option Value)),
    fd=PySem.W.fnOf x qual (ay st) (av st) (ai st) .none kV doc pm an cdv ct ∧ K.lookup f=some ⟨oc, od, .func fd, osl⟩ ∧ PySem.W.codeIn K cdv qual=true
  kp : PySem.W.keepIn K (.ref f)=true
section
variable {P : Program} {w : World} {K : PySem.W.Frag} {mg : Str → Option Value} {base : Heap}
theorem Fun.ok {x qual : Str}{st : Stmt}{f : Addr}{fd : FuncData}{N ps : List Str}{k : Nat}{sp : Sp}(F : Fun K x qual st f fd)(S : aG N ps (ai st))(len : ∀ vs H Q E, sp vs H Q E → vs.length=ps.length)
    (hbody : ∀ (cdv : Value) (A : Around) (outer : List Env) (s : Shared) (H : Hp) (vs : List V) (Q : VK) (E : XK), c_ k (A.deeper (envOfC qual (ai st) s.heap.objs.size f cdv)) → sp vs H Q E →
      ∃ t, PSs (jB CX0 P w K mg base N qual (ai st) f cdv A outer s H E).nox (av st) t ∧ t { nx := fun _ H' => Q .non H', rt := Q } (start N vs) H) : ij P w K mg base CX0 (k+1) f fd ps sp := by
  obtain ⟨oc, od, kV, doc, pm, an, cdv, ct, osl, rfl, lk, hcd⟩ := F.ex
  refine mj lk hcd S len fun A outer s H vs Q E hr hsp => ?_
  obtain ⟨t, h, q⟩ := hbody cdv A outer s H vs Q E hr hsp
  exact ⟨t, h.nox, q⟩
theorem Fun.binds {x qual : Str}{st : Stmt}{f : Addr}{fd : FuncData}{ps : List Str}(F : Fun K x qual st f fd)
    (h : ∀ (kV doc pm : Value) (an : Option Addr) (cdv ct : Value) (us : List Value), us.length=ps.length → bindArgs (PySem.W.fnOf x qual (ay st) (av st) (ai st) .none kV doc pm an cdv ct) ⟨us, []⟩=pure (ps.zip us)) : fD K fd ps [] := by
  obtain ⟨oc, od, kV, doc, pm, an, cdv, ct, osl, rfl, lk, hcd⟩ := F.ex
  exact .all (h kV doc pm an cdv ct)
theorem ja {x qual : Str}{st : Stmt}{f : Addr}{oc : Value}{od an : Option Addr}{osl : Array (Option Value)}{kV doc pm cdv ct : Value}(l : K.lookup f=some ⟨oc, od, .func (PySem.W.fnOf x qual (ay st) (av st) (ai st) .none kV doc pm an cdv ct), osl⟩)
    (c : PySem.W.codeIn K cdv qual=true) (k : PySem.W.keepIn K (.ref f)=true) : Fun K x qual st f (PySem.W.fnOf x qual (ay st) (av st) (ai st) .none kV doc pm an cdv ct) := ⟨⟨oc, od, kV, doc, pm, an, cdv, ct, osl, rfl, l, c⟩, k⟩
end
theorem gz {A : Around}{k : Nat}(hr : c_ k A) : A.units+1 < cLine := Nat.lt_of_le_of_lt (Nat.add_le_add_left (by decide : 1≤64) _) hr.units
section
variable {X : Cx}
theorem pv (i : Nat){x : Str}{pos : Pos}(hN : X.N[i]? = some x := by rfl)(hv : Vis X.env.scope x := by first | exact Or.inl rfl | exact Or.inr (Or.inl rfl) | exact Or.inr (Or.inr rfl))(hd : (x == ("__debug__" : Str))=false := by decide)
    (hcd : (x == ("__classdict__" : Str))=false := by decide) : PE X (.Name x pos) (kg i) := kh hN hv hd hcd
inductive cI  (xs : List V)(H : Hp)(Q : VK) : Prop
  | mk : ∀ a kvs, (xs=[V.ref a]) → (H a=some (.dK kvs)) → (Q (.int kvs.length) H) → cI xs H Q
theorem gA : cB X (.builtin "len") cI := by
  intro pins s σ H xs us Q I r h
  obtain ⟨a, kvs, rfl, ha, q⟩ := h
  obtain ⟨u, rfl, ru⟩ := cE r
  cases ru
  exact mn I (.inl ha) fun t s' I' => ⟨.int kvs.length, H, I', ⟨t, rfl⟩, q⟩
end
theorem kN {A B : Prop}(h : B) : if false=true then A else B := by
  rw [if_neg Bool.false_ne_true]
  exact h
theorem mB {A B : Prop}(h : A) : if true=true then A else B := by
  rw [if_pos rfl]
  exact h
theorem mD {c A B : Prop}[Decidable c](h1 : c → A)(h2 : ¬ c → B) : if c then A else B := by
  by_cases h : c
  · rw [if_pos h]
    exact h1 h
  · rw [if_neg h]
    exact h2 h
theorem kO {c A B : Prop}[Decidable c](hc : c)(h : B) : if (!decide c)=true then A else B := by
  rw [decide_eq_true hc]
  exact kN h
def ax (H H' : Hp) : Prop := ∀ b o, H b=some o → H' b=some o
theorem ax.refl (H : Hp) : ax H H := fun _ _ h => h
theorem ax.trans {H H1 H2 : Hp}(a : ax H H1)(b : ax H1 H2) : ax H H2 := fun c o h => b c o (a c o h)
theorem ax.free {H H' : Hp}(e : ax H H'){l : Addr}(h : H' l=Option.none) : H l=Option.none := by
  cases q : H l with
  | none => rfl
  | some o =>
    rw [e l o q] at h
    cases h
theorem ax.seq {K : PySem.W.Frag}{H H' : Hp}{a : Addr}{xs : List V}(e : ax H H')(h : SqL K H a xs) : SqL K H' a xs := by
  rcases h with (h | ⟨o, h⟩) | h
  · exact .inl (.inl (e _ _ h))
  · exact .inl (.inr ⟨o, e _ _ h⟩)
  · exact .inr h
section
variable {κ : Type} [DecidableEq κ]
end
end L2
set_option Elab.async false
set_option linter.all false
set_option maxRecDepth 100000
namespace L2
open PySem PySem.Spec PyProof.Rows
def fm (cells : List (Str × Addr)) : List (Str × NameKind) → List (Str × Addr) → List (Str × Addr)
  | [], acc => acc
  | (x, k)::r, acc => if k == NameKind.free then fm cells r ((x, (cells.lookup x).getD 0)::acc) else fm cells r acc
theorem dD {cells : List (Str × Addr)}{p : Str × Addr} : ∀ {names : List (Str × NameKind)} {acc : List (Str × Addr)}, p∈fm cells names acc → p∈acc ∨ ((p.1, NameKind.free)∈names ∧ p.2=(cells.lookup p.1).getD 0)
  | [], _, h => .inl h
  | (x, k)::r, acc, h => by
    unfold fm at h
    by_cases hk : (k == NameKind.free)=true
    · rw [if_pos hk] at h
      have ek : k=NameKind.free := by simpa using hk
      subst ek
      rcases dD h with h | ⟨h, e⟩
      · rcases List.mem_cons.mp h with h | h
        · subst h
          exact .inr ⟨List.mem_cons_self, rfl⟩
        · exact .inl h
      · exact .inr ⟨List.mem_cons_of_mem _ h, e⟩
    · rw [if_neg hk] at h
      rcases dD h with h | ⟨h, e⟩
      · exact .inl h
      · exact .inr ⟨List.mem_cons_of_mem _ h, e⟩
theorem dE {cells : List (Str × Addr)}{p : Str × Addr} : ∀ {names : List (Str × NameKind)} {acc : List (Str × Addr)}, p∈acc → p∈fm cells names acc
  | [], _, h => h
  | (x, k)::r, acc, h => by
    unfold fm
    split
    · exact dE (List.mem_cons_of_mem _ h)
    · exact dE h
theorem dF {cells : List (Str × Addr)}{x : Str} : ∀ {names : List (Str × NameKind)} {acc : List (Str × Addr)}, (x, NameKind.free)∈names → (x, (cells.lookup x).getD 0)∈fm cells names acc
  | [], _, h => by simp at h
  | (y, k)::r, acc, h => by
    unfold fm
    rcases List.mem_cons.mp h with h | h
    · have e1 : x=y := congrArg Prod.fst h
      have e2 : NameKind.free=k := congrArg Prod.snd h
      subst e1 e2
      rw [if_pos (by simp)]
      exact dE List.mem_cons_self
    · split
      · exact dF h
      · exact dF h
theorem bX {x : Str}{c : Addr} : ∀ {l : List (Str × Addr)}, (x, c)∈l → ∃ d, l.lookup x=some d
  | [], h => by simp at h
  | (y, d)::r, h => by
    rw [List.lookup_cons]
    by_cases e : (x == y)=true
    · rw [e];exact ⟨d, rfl⟩
    · have e' : (x == y)=false := by simpa using e
      rw [e']
      rcases List.mem_cons.mp h with h | h
      · have : x=y := congrArg Prod.fst h
        exact absurd (by simpa using this) e
      · exact bX h
theorem bY {env : Env}{scope : Scope}(h : ∀ y∈scope.names, y.2=NameKind.free → ∃ c, env.cells.lookup y.1=some c) : closureFor scope env=pure (fm env.cells scope.names []) := by
  have all : ∀ (names : List (Str × NameKind)) (acc : List (Str × Addr)), (∀ y∈names, y.2=NameKind.free → ∃ c, env.cells.lookup y.1=some c) →
      (forIn names acc (fun (p : Str × NameKind) (r : List (Str × Addr)) => (if (p.2 == NameKind.free)=true then (do let a ← cellOf env p.1;pure (ForInStep.yield ((p.1, a)::r))) else pure (ForInStep.yield r) : Sem (ForInStep (List (Str × Addr))))))=(pure (fm env.cells names acc) : Sem (List (Str × Addr))) := by
    intro names
    induction names with
    | nil => intro acc _;rfl
    | cons p r ih =>
      intro acc hh
      obtain ⟨x, k⟩ := p
      have hr : ∀ y∈r, y.2=NameKind.free → ∃ c, env.cells.lookup y.1=some c := fun y hy => hh y (List.mem_cons_of_mem _ hy)
      rw [List.forIn_cons]
      unfold fm
      by_cases hk : (k == NameKind.free)=true
      · obtain ⟨c, hc⟩ := hh (x, k) List.mem_cons_self (by simpa using hk)
        have hc : env.cells.lookup x=some c := hc
        have ec : cellOf env x=pure c := by
          unfold cellOf
          rw [hc]
        simp only [hk, if_true, ec, pure_bind, hc, Option.getD_some]
        exact ih _ hr
      · simp only [hk, if_false, pure_bind]
        exact ih _ hr
  have e := all scope.names [] h
  unfold closureFor
  simp only [bind_pure]
  exact e
def kP (scope sc : Scope)(NB own : List Str)(cap : List Nat)(N : List Str) : Bool :=
  (scope.kind == .function) && (sc.kind == .function) &&
  (scope.names.all fun y => match y.2 with
    | .cell => false
    | .free => sc.names.lookup y.1 == some NameKind.cell
    | .local => scope.names.lookup y.1 == some NameKind.local
    | _ => true) &&
  (own.all fun x => scope.names.lookup x == some NameKind.local && scope.names.all fun y => !(y.1 == x) || y.2 == NameKind.local) &&
  (NB == own++cap.map fun i => N.getD i "") && (cap.all fun i => decide (i < N.length) && scope.names.lookup (N.getD i "") == some NameKind.free)
structure Blk (X : Cx) (scope : Scope) (NB own : List Str) (cap : List Nat) : Prop where
  kind : scope.kind = .function
  outk : X.env.scope.kind = .function
  nocell : ∀ y∈scope.names, y.2 ≠ .cell
  free : ∀ y∈scope.names, y.2 = .free → X.env.kindOf y.1=some .cell
  names : ∀ y∈scope.names, y.2 = .local → scope.names.lookup y.1=some .local
  owns : ∀ x∈own, ∀ y∈scope.names, y.1=x → y.2 = .local
  nb : NB=own++cap.map fun i => X.N.getD i ""
  caps : ∀ i∈cap, i < X.N.length ∧ scope.names.lookup (X.N.getD i "")=some .free
theorem ba {X : Cx}{scope sc : Scope}{NB own : List Str}{cap : List Nat}(hs : X.env.scope=sc)(h : kP scope sc NB own cap X.N=true) : Blk X scope NB own cap := by
  unfold kP at h
  simp only [Bool.and_eq_true] at h
  obtain ⟨⟨⟨⟨⟨h1, h2⟩, h3⟩, h4⟩, h5⟩, h6⟩ := h
  rw [List.all_eq_true] at h3 h4 h6
  subst hs
  refine ⟨by simpa using h1, by simpa using h2, fun y hy e => ?_, fun y hy e => ?_, fun y hy e => ?_, fun x hx y hy e => ?_, by simpa using h5, fun i hi => ?_⟩
  · have := h3 y hy
    rw [e] at this
    exact absurd this (by simp)
  · have := h3 y hy
    rw [e] at this
    show X.env.scope.names.lookup y.1=some .cell
    simpa using this
  · have := h3 y hy
    rw [e] at this
    simpa using this
  · have := h4 x hx
    simp only [Bool.and_eq_true, List.all_eq_true] at this
    have q := this.2 y hy
    subst e
    simpa using q
  · have := h6 i hi
    simp only [Bool.and_eq_true] at this
    exact ⟨of_decide_eq_true this.1, by simpa using this.2⟩
def cxB (X : Cx)(NB own : List Str)(scope : Scope)(C : Addr)(fp : List Addr)(s₀ : Shared)(H₀ : Hp) : Cx where
  prog := X.prog
  w := X.w
  K := X.K
  mg := X.mg
  base := X.base
  A := X.A
  N := NB
  s₀ := s₀
  H₀ := H₀
  env := compEnvC scope (fm X.env.cells scope.names []) C X.env
  outer := X.stack
  stack := X.stack
  ex := fp
  fn := fun x => own.contains x
  calm := X.calm
  pn := []
  xe := fun _ _ => False
theorem bB {env : Env}{x : Str}{k : NameKind}(hk : k = .cell ∨ k = .free) : ∀ {names : List (Str × NameKind)}, (∀ y∈names, y.2 ≠ .cell) →
    (names.map fun (n, k) => if (k == NameKind.free && env.scope.kind == .function && env.kindOf n == some .cell) then (n, NameKind.cell) else (n, k)).lookup x=some k → (x, NameKind.free)∈names
  | [], _, h => by simp at h
  | (n, q)::r, hn, h => by
    have ih := @bB env x k hk r fun y hy => hn y (List.mem_cons_of_mem _ hy)
    rw [List.map_cons, List.lookup_cons] at h
    have key : (if (q == NameKind.free && env.scope.kind == .function && env.kindOf n == some .cell)=true then (n, NameKind.cell) else (n, q)).1=n := by split <;> rfl
    by_cases e : (x == n)=true
    · have en : x=n := by simpa using e
      subst en
      by_cases hq : q = .free
      · subst hq;exact List.mem_cons_self
      · have hqf : (q == NameKind.free)=false := by simpa using hq
        simp only [hqf, Bool.false_and, Bool.false_eq_true, if_false, beq_self_eq_true] at h
        have h' : q=k := Option.some.inj h
        rcases hk with z | z
        · exact absurd (h'.trans z) (hn (x, q) List.mem_cons_self)
        · exact absurd (h'.trans z) hq
    · have e' : (x == n)=false := by simpa using e
      refine List.mem_cons_of_mem _ (ih ?_)
      have e2 : (x == (if (q == NameKind.free && env.scope.kind == .function && env.kindOf n == some .cell)=true then (n, NameKind.cell) else (n, q)).1)=false := by rw [key];exact e'
      rw [e2] at h
      exact h
theorem cJ {env : Env}{x : Str}(hk : env.scope.kind = .function)(hc : env.kindOf x=some .cell) : ∀ {names : List (Str × NameKind)}, names.lookup x=some .free →
    (names.map fun (n, k) => if (k == NameKind.free && env.scope.kind == .function && env.kindOf n == some .cell) then (n, NameKind.cell) else (n, k)).lookup x=some .cell
  | [], h => by simp at h
  | (n, q)::r, h => by
    have ih := @cJ env x hk hc r
    rw [List.lookup_cons] at h
    rw [List.map_cons, List.lookup_cons]
    by_cases e : (x == n)=true
    · have en : x=n := by simpa using e
      subst en
      rw [e] at h
      have hq : q = .free := Option.some.inj h
      subst hq
      simp [hk, hc]
    · have e' : (x == n)=false := by simpa using e
      rw [e'] at h
      have key : (if (q == NameKind.free && env.scope.kind == .function && env.kindOf n == some .cell)=true then (n, NameKind.cell) else (n, q)).1=n := by split <;> rfl
      have e2 : (x == (if (q == NameKind.free && env.scope.kind == .function && env.kindOf n == some .cell)=true then (n, NameKind.cell) else (n, q)).1)=false := by rw [key];exact e'
      rw [e2]
      exact ih h
def stB (own : List Str)(cap : List Nat)(σ : St) : St := (own.map fun _ => none)++cap.map fun i => (σ[i]?).getD none
section
variable {X : Cx} {pins : List (Addr × Obj)} {σ : St} {H : Hp} {s : Shared} {scope : Scope} {NB own : List Str} {cap : List Nat} {fp : List Addr} {C : Addr}
theorem Blk.cells (B : Blk X scope NB own cap)(ok : X.Ok){x : Str}{c : Addr}(h : (fm X.env.cells scope.names []).lookup x=some c) : X.env.cells.lookup x=some c ∧ (x, NameKind.free)∈scope.names := by
  rcases dD (PySem.mem_of_lookup h) with q | ⟨q, e⟩
  · simp at q
  · obtain ⟨d, hd⟩ := ok.has x (.inl (B.free (x, .free) q rfl))
    have e : c=(X.env.cells.lookup x).getD 0 := e
    rw [hd] at e
    refine ⟨?_, q⟩
    rw [hd, e];rfl
theorem Blk.cell (B : Blk X scope NB own cap)(ok : X.Ok){x : Str}(h : (x, NameKind.free)∈scope.names) : ∃ c, (fm X.env.cells scope.names []).lookup x=some c := bX (dF h)
theorem Blk.start (B : Blk X scope NB own cap)(I : Inv X pins σ H s)(hf : ∀ b∈fp, fe X pins H b)(hfs : ∀ b∈fp, ∃ o, s.heap.get? b=some o){h' : Heap}{tk : Nat}{m : Str → Option Value}(hC : s.heap.objs.size≤C)
    (k : ∀ b o, s.heap.get? b=some o → h'.get? b=some o) (hn : h'.Ns C m) :
    Inv (cxB X NB own scope C fp s H) [] (stB own cap σ) H { s with heap := h', toks := tk } := by
  have hlen : NB.length=own.length+cap.length := by rw [B.nb];simp
  have okB : (cxB X NB own scope C fp s H).Ok := by
    refine ⟨I.ok.mod, B.kind, I.ok.glob, I.ok.blt, hC, fun x y c h1 h2 => I.ok.inj x y c (B.cells I.ok h1).1 (B.cells I.ok h2).1, fun x hx => ?_, fun x c h1 h2 => ?_, I.ok.hd, I.ok.frames, .inl rfl, fun b hb => ⟨?_, fun x c h => ?_⟩, I.bs, Nat.le_trans I.ok.bsz I.sz, fun b o e hb => ?_, fun b hb z => ?_, I.stack, I.stkFree⟩
    · have : (x, NameKind.free)∈scope.names := by
        rcases hx with z | z
        · exact bB (.inl rfl) B.nocell z
        · exact bB (.inr rfl) B.nocell z
      exact B.cell I.ok this
    · have hx : x∈own := by simpa [cxB] using h1
      have q := B.owns x hx _ (B.cells I.ok h2).2 rfl
      exact absurd q (by simp)
    · obtain ⟨o, e⟩ := hfs b hb
      exact Nat.ne_of_lt (Nat.lt_of_lt_of_le (Heap.lt_size e) hC)
    · exact (hf b hb).2.2.2.2.1 x c (B.cells I.ok h).1
    · have hb : b∈fp := hb
      rcases (hf b hb).2.2.2.1 with z | z
      · exact I.ok.noex b o e z
      · exact absurd (Nat.lt_of_lt_of_le (Heap.lt_size e) (Nat.le_trans I.ok.bsz z)) (Nat.lt_irrefl _)
    · rcases List.mem_cons.mp (I.stkSub b z) with z | z
      · exact (hf b hb).2.1 z
      · exact (hf b hb).2.2.1 z
  refine ⟨okB, rfl, I.bare, Un.kept k, ⟨m, hn, fun i x v e1 e2 e3 => ?_⟩, fun x c h => ?_, I.hok.fresh hC, fun x c h => I.freeC x c (B.cells I.ok h).1, fun p hp => absurd (show p∈([] : List (Addr × Obj)) from hp) (by simp), I.hok.kept k, ?_⟩
  · have e1 : NB[i]? = some x := e1
    have hi : ¬ i < own.length := fun hi => by
      unfold stB at e2
      rw [List.getElem?_append_left (by simpa using hi), List.getElem?_map] at e2
      cases q : own[i]? <;> rw [q] at e2 <;> cases e2
    unfold stB at e2
    rw [List.getElem?_append_right (by simpa using hi), List.getElem?_map] at e2
    rw [B.nb, List.getElem?_append_right (by omega), List.getElem?_map] at e1
    simp only [List.length_map] at e2
    cases q : cap[i - own.length]? with
    | none => rw [q] at e1;cases e1
    | some j =>
      rw [q] at e1 e2
      have ex : X.N.getD j "" = x := Option.some.inj e1
      have ev : (σ[j]?).getD none=some v := Option.some.inj e2
      obtain ⟨hj, hjf⟩ := B.caps j (List.mem_of_getElem? q)
      rw [ex] at hjf
      have hN : X.N[j]? = some x := by rw [← ex, List.getD_eq_getElem?_getD, List.getElem?_eq_getElem hj];rfl
      have hσ : σ[j]? = some (some v) := by
        cases z : σ[j]? with
        | none => rw [z] at ev;cases ev
        | some u => rw [z] at ev;exact congrArg some ev
      have hmem : (x, NameKind.free)∈scope.names := PySem.mem_of_lookup hjf
      have hkc := B.free _ hmem rfl
      obtain ⟨m0, hn0, hl⟩ := I.loc
      obtain ⟨u, r, l⟩ := hl j x v hN hσ (.inr (.inl hkc))
      refine ⟨u, r, .inr ⟨.inl (cJ B.outk hkc hjf), ?_⟩⟩
      obtain ⟨c, hc⟩ := B.cell I.ok hmem
      refine ⟨c, hc, ?_⟩
      rcases l with ⟨z, _⟩ | ⟨_, c', hc', ⟨oc, hoc, hd⟩⟩
      · rw [show X.env.kindOf x=some .cell from hkc] at z;cases z
      · have := (B.cells I.ok hc).1
        rw [hc'] at this
        have : c'=c := Option.some.inj this
        subst this
        exact ⟨oc, k _ _ hoc, hd⟩
  · obtain ⟨v, oc, hoc, hd⟩ := I.cell x c (B.cells I.ok h).1
    exact ⟨v, oc, k _ _ hoc, hd⟩
  · show (stB own cap σ).length=NB.length
    unfold stB
    rw [hlen];simp
theorem Blk.done (B : Blk X scope NB own cap)(I : Inv X pins σ H s)(hf : ∀ b∈fp, fe X pins H b){σB : St}{H' : Hp}{s' : Shared}{h'' : Heap}{D : Addr}{ys : List V}{its : List Value}{n : Nat}(hC : s.heap.objs.size≤C)(hD : s.heap.objs.size≤D)(hDC : D≠C)
    (J : Inv (cxB X NB own scope C fp s H) [] σB H' s') (hn : H' D=none) (e : s'.heap.get? D=some { cls := .type "list", data := .seq its.toArray n }) (hv : aL ys its) (hz : ys.length≤sizeLine)
    (sb : Heap.SameBut C s'.heap h'') : Inv X pins σ (upd H' D (.lst ys)) { s' with heap := h'' } := by
  have un : Un (frs X.stack) fp H H' s.heap s'.heap := J.base
  have neC : ∀ {b o}, s.heap.get? b=some o → b≠C := fun q => Nat.ne_of_lt (Nat.lt_of_lt_of_le (Heap.lt_size q) hC)
  have neD : ∀ {b o}, s.heap.get? b=some o → b≠D := fun q => Nat.ne_of_lt (Nat.lt_of_lt_of_le (Heap.lt_size q) hD)
  have hCn : H' C=none := J.free
  refine I.call' (s' := { s' with heap := h'' }) (ch := fp) J.os ⟨fun b o q n hb hx => ?_, fun b o q n hb hx => ?_, fun b o q n hx => ?_, fun b o q hx => ?_, fun b xs q => ?_, fun b o u q => ?_, fun b ps q => ?_⟩ (fun b u q => ?_) J.bare fun b hb => ?_
  · exact (sb.2 b (neC q)).trans (un.keep b o q n hb hx)
  · obtain ⟨sl, r⟩ := un.slot b o q n hb hx
    exact ⟨sl, (sb.2 b (neC q)).trans r⟩
  · rw [aj (neD q)]
    exact un.free b o q n hx
  · obtain ⟨o', r⟩ := un.there b o q hx
    exact ⟨o', (sb.2 b (neC q)).trans r⟩
  · have r := un.tups b xs q
    rw [aj (af r hn)]
    exact r
  · have r := un.frzs b o u q
    rw [aj (af r hn)]
    exact r
  · obtain ⟨more, r⟩ := un.tbls b ps q
    exact ⟨more, by rw [aj (af r hn)];exact r⟩
  · by_cases hb : b=D
    · subst hb
      rw [ab] at q
      cases q
      exact ⟨hz, its, n, hv, (sb.2 b hDC).trans e⟩
    · rw [aj hb] at q
      refine (J.hok b u q).stay (fun c v hc r => (sb.2 c ?_).trans r) (fun c r => ?_) fun c xs r => ?_
      · rcases hc with z | z
        · rw [z];exact af q hCn
        · exact af z hCn
      · rw [aj (af r hn)];exact r
      · rw [aj (af r hn)];exact r
  · obtain ⟨_, f1, _, f3, f4, f5⟩ := hf b hb
    exact ⟨f3, f1, f4, f5⟩
end
def PIf (X : Cx)(ifs : List Expr)(t : TT) : Prop :=
  ∀ (pins : List (Addr × Obj)) (s : Shared) (σ : St) (H : Hp) (Q : Bool → Hp → Prop), Inv X pins σ H s → t σ H Q →
    wpAny (model X.prog X.w) X.A (forIn ifs true fun c r => if r=true then do let ok ← isTrue c X.env (eval c X.env);pure (ForInStep.yield ok) else pure (ForInStep.yield r)) (TP X pins σ Q) X.xe s
def ny : TT := fun _ H Q => Q true H
theorem bb {X : Cx} : PIf X [] ny := fun _ _ _ H _ I h => wpAny_tests_nil ⟨H, I, h⟩
theorem bE {X : Cx}{c : Expr}{t : TT}(h : PT X c t) : PIf X [c] t := fun pins s σ H Q I q => wpAny_tests_one (h pins s σ H Q I q)
section
variable {prog : Program} {w : World} {A : Around} {R : Result → Shared → Prop} {s : Shared}
abbrev noE : Value → Shared → Prop := fun _ _ => False
theorem d8 {elt tg iter : Expr}{ifs : List Expr}{scope : Scope}{pos : Pos}{it acc : Value}{env : Env}(I : Nat → Shared → Prop)
    (turn : ∀ n s, I n s → wpAny (model prog w) A (pyNext it) (fun r s₁ => match r with
      | none => R (.ok .next) s₁
      | some v => wpAny (model prog w) A (letOwnedTupleGo tg it v) (fun _ s₀ => wpAny (model prog w) A (assign tg env v) (fun _ s₂ =>
          wpAny (model prog w) A (forIn ifs true fun c r => if r=true then do let ok ← isTrue c env (eval c env);pure (ForInStep.yield ok) else pure (ForInStep.yield r)) (fun ok s₃ =>
            if ok=true then wpAny (model prog w) A (eval elt env) (fun x s₄ => wpAny (model prog w) A (call (.builtin "list.append") [acc, x]) (fun _ s₅ => ∃ m, m < n ∧ I m s₅) noE s₄) noE s₃
            else ∃ m, m < n ∧ I m s₃) noE s₂) noE s₀) noE s₁) noE s)
    (n : Nat) (h : I n s) : codeAny (model prog w) A (.compLoop (.ListComp elt [⟨tg, iter, ifs, 0⟩] scope pos) 0 it acc env) R s := by
  refine codeAny_loop rfl I (fun n s hI => ?_) n h
  show wpAny _ A ((compTurn (.ListComp elt [⟨tg, iter, ifs, 0⟩] scope pos) 0 it acc env).onRaise (fun x => do noteFrame x env;theTreesLotGoes x)) _ _ s
  refine wpAny_noted ?_
  rw [compTurn_list]
  refine wpAny_bind (wpAny_standAt (wpAny_bind (wpAny_mono (turn n s hI) (fun r s₁ h₁ => ?_) fun _ _ z => False.elim z)))
  cases r with
  | none => exact wpAny_pure h₁
  | some v =>
    refine wpAny_bind (wpAny_mono h₁ (fun _ s₀ h₀ => wpAny_bind (wpAny_mono h₀ (fun _ s₂ h₂ => wpAny_bind (wpAny_mono h₂ (fun ok s₃ h₃ => ?_) fun _ _ z => False.elim z)) fun _ _ z => False.elim z)) fun _ _ z => False.elim z)
    cases ok with
    | false => exact wpAny_pure ⟨rfl, h₃⟩
    | true => exact wpAny_bind (wpAny_bind (wpAny_mono h₃ (fun x s₄ h₄ => wpAny_bind (wpAny_mono h₄ (fun _ s₅ h₅ => wpAny_pure (wpAny_pure ⟨rfl, h₅⟩)) fun _ _ z => False.elim z)) fun _ _ z => False.elim z))
end
def iI (own : List Str)(cap : List Nat)(g : TG)(ti : TT)(te : TE)(Q : VK)(σ : St)(J : It)(H1 : Hp) : Prop := ∃ W : Nat → Nat → List V → St → Hp → Prop, (∃ m, W 0 m [] (stB own cap σ) H1) ∧ ∀ i m ys σ H, W i m ys σ H →
  (J.stop i H ∧ ys.length≤sizeLine ∧ ∀ D, H D=none → Q (.ref D) (upd H D (.lst ys))) ∨
  (J.go i H ∧ ys.length < sizeLine ∧ ∀ x H', J.yld i H x H' → g x σ H' fun σ2 H2 => ti σ2 H2 fun b H3 => if b=true then te σ2 H3 fun y H4 => ∃ m', m' < m ∧ W (i+1) m' (ys++[y]) σ2 H4 else ∃ m', m' < m ∧ W (i+1) m' ys σ2 H3)
def kQ (own : List Str)(cap : List Nat)(wi : TI)(g : TG)(ti : TT)(te : TE) : TE := fun σ H Q => wi σ H fun J H1 => iI own cap g ti te Q σ J H1
theorem aX {X : Cx}{elt iter tg : Expr}{ifs : List Expr}{scope : Scope}{pos : Pos}{NB own : List Str}{cap : List Nat}{wi : TI}{g : TG}{ti : TT}{te : TE}(B : Blk X scope NB own cap)(hc : X.calm=true)(hi : PI X tg iter wi)
    (hg : ∀ C fp s₀ H₀, PG (cxB X NB own scope C fp s₀ H₀) tg g) (ht : ∀ C fp s₀ H₀, PIf (cxB X NB own scope C fp s₀ H₀) ifs ti) (he : ∀ C fp s₀ H₀, PE (cxB X NB own scope C fp s₀ H₀) elt te)
    (hs : ∀ x, foldedSetIterable iter X.env x=pure x := by intro _;rfl) : PE X (.ListComp elt [⟨tg, iter, ifs, 0⟩] scope pos) (kQ own cap wi g ti te) := by
  intro pins s σ H Q I0 h
  rw [eval_ListComp]
  have hclos := bY (env := X.env) (scope := scope) fun y hy e => I0.ok.has y.1 (.inl (B.free y hy e))
  refine wpAny_comprehension_free (use := none) rfl hs hclos B.kind B.names (thn (hi pins s σ H _ I0 h) fun v s1 h1 => thn h1 fun itv s2 h2 => ?_)
  obtain ⟨it, fp, tn, J, H2, rfl, I, T, st2, f2, W, ⟨m0, w0⟩, turn⟩ := h2
  refine wpAny_newList ?_
  refine wpAny_newFunctionEnv B.nocell (by intro y hy;simp at hy) (fun h₁ hns₁ hsb₁ => ?_) B.kind
  dsimp only at hns₁ hsb₁ ⊢
  generalize hP : s2.heap.push { cls := .type "list", dict := none, data := .seq ([] : List Value).toArray }=P at hns₁ hsb₁ ⊢
  have hC : P.objs.size=s2.heap.objs.size+1 := by rw [← hP, Heap.size_push]
  have hDC : s2.heap.objs.size≠P.objs.size := by rw [hC];exact Nat.ne_of_lt (Nat.lt_succ_self _)
  have hCle : s2.heap.objs.size≤P.objs.size := by rw [hC];exact Nat.le_succ _
  have old : ∀ b o, s2.heap.get? b=some o → h₁.get? b=some o := fun b o e => by
    refine (hsb₁.2 b ?_).trans (Heap.get?_push_of_some _ (hP ▸ Heap.get?_push_of_some _ e))
    exact Nat.ne_of_lt (Nat.lt_of_lt_of_le (Heap.lt_size e) hCle)
  have hD : h₁.get? s2.heap.objs.size=some { cls := .type "list", data := .seq ([] : List Value).toArray 0 } := by
    refine (hsb₁.2 _ hDC).trans (Heap.get?_push_of_some _ ?_)
    rw [← hP]
    exact Heap.get?_push_size _ rfl
  have hfs : ∀ b∈fp, ∃ o, s2.heap.get? b=some o := fun b hb => let ⟨o, e, _⟩ := T.obj _ _ st2 b hb;⟨o, e⟩
  have st4 : tn 0 h₁ := T.keep _ _ _ st2 fun b _ o e => old b o e
  generalize htk : s2.toks+([] : List (Str × Value)).length=tk4
  have I4 := B.start (C := P.objs.size) (tk := tk4) I f2 hfs hCle old hns₁
  have fOk : ∀ {H' : Hp} {b : Addr} {ob : Obj}, b∈fp → H' b=none → fe (cxB X NB own scope P.objs.size fp s2 H2) [(s2.heap.objs.size, ob)] H' b := fun {H' b ob} hb hn => by
    obtain ⟨o, e⟩ := hfs b hb
    refine ⟨hn, (I4.ok.exf b hb).1, I4.ok.exfs b hb, .inl hb, (I4.ok.exf b hb).2, fun p hp => ?_⟩
    have ep : p=(s2.heap.objs.size, ob) := List.mem_singleton.mp (show p∈[(s2.heap.objs.size, ob)] from hp)
    rw [ep]
    exact fun z => absurd (Heap.lt_size e) (by rw [← z];exact Nat.lt_irrefl _)
  have dnf : s2.heap.objs.size∉frs X.stack := fun z => by
    rcases List.mem_cons.mp (I.stkSub _ z) with z | z
    · exact absurd I.lt (by rw [← z];exact Nat.lt_irrefl _)
    · exact I.nofs (Nat.le_refl _) z
  have I3D : ∀ {σ3 : St} {H3 : Hp} {s3 : Shared} {its : List Value} {k : Nat}, Inv (cxB X NB own scope P.objs.size fp s2 H2) [] σ3 H3 s3 → s3.heap.get? s2.heap.objs.size=some { cls := .type "list", data := .seq its.toArray k } → H3 s2.heap.objs.size=none →
      Inv (cxB X NB own scope P.objs.size fp s2 H2) [(s2.heap.objs.size, { cls := .type "list", data := .seq its.toArray k })] σ3 H3 s3 := fun I3 e n => I3.pins_of fun p hp => by
    have ep := List.mem_singleton.mp hp
    subst ep
    exact ⟨e, n, hDC, dnf, fun v z => by cases z⟩
  have ndf : s2.heap.objs.size∉fp := fun z => by
    obtain ⟨o, e⟩ := hfs _ z
    exact absurd (Heap.lt_size e) (Nat.lt_irrefl _)
  have nCD : ∀ x c, (cxB X NB own scope P.objs.size fp s2 H2).env.cells.lookup x=some c → c≠s2.heap.objs.size := fun x c e z => by
    obtain ⟨v, o, ho, _⟩ := I.cell x c (B.cells I.ok e).1
    rw [z] at ho
    exact absurd (Heap.lt_size ho) (Nat.lt_irrefl _)
  have loop : ∀ s₃ : Shared, s₃ = { s2 with heap := h₁, toks := tk4 } → codeAny (model X.prog X.w) X.A (.compLoop (.ListComp elt [⟨tg, iter, ifs, 0⟩] scope pos) 0 (.ref it) (.ref s2.heap.objs.size) (cxB X NB own scope P.objs.size fp s2 H2).env)
      (compPost (model X.prog X.w) X.A X.xe none (EP X pins σ Q) (.ref s2.heap.objs.size) P.objs.size) s₃ := by
    rintro s₃ rfl
    refine d8 (fun n s' => ∃ i σB H' ys its k, Inv (cxB X NB own scope P.objs.size fp s2 H2) [] σB H' s' ∧ tn i s'.heap ∧ (∀ b∈fp, H' b=none) ∧ s'.heap.get? s2.heap.objs.size=some { cls := .type "list", data := .seq (its : List Value).toArray k } ∧ aL ys its ∧ H' s2.heap.objs.size=none ∧ W i n ys σB H') ?_ m0
      ⟨0, stB own cap σ, H2, [], [], 0, I4, st4, fun b hb => (f2 b hb).1, hD, .nil, I.hok.fresh (Nat.le_refl _), w0⟩
    rintro n s3 ⟨i, σ3, H3, ys, its, k, I3, st3, fr3, hD3, rv, hn3, w3⟩
    rcases turn i n ys σ3 H3 w3 with ⟨stop, hz, q⟩ | ⟨go, hz, step⟩
    · refine thn (T.done (cxB X NB own scope P.objs.size fp s2 H2) rfl rfl rfl hc i _ s3 σ3 H3 noE (I3D I3 hD3 hn3) (fun b hb => fOk hb (fr3 b hb)) st3 stop) fun r s4 zq1 => ?_
      obtain ⟨hr, I4'⟩ := zq1
      subst hr
      have hD4 : s4.heap.get? s2.heap.objs.size=some { cls := .type "list", data := .seq (its : List Value).toArray k } := (I4'.pin (s2.heap.objs.size, _) (List.mem_append_right _ (List.mem_singleton.mpr rfl))).1
      have I5 : Inv (cxB X NB own scope P.objs.size fp s2 H2) [] σ3 H3 s4 := I4'.pins_of fun p hp => absurd (show p∈([] : List (Addr × Obj)) from hp) (by simp)
      obtain ⟨mC, hnC, _⟩ := I5.loc
      exact ⟨mC, hnC, fun h'' sb => ⟨.ref s2.heap.objs.size, _, B.done I f2 hCle (Nat.le_refl _) hDC I5 hn3 hD4 rv hz sb, rfl, q _ hn3⟩⟩
    · refine thn (T.item (cxB X NB own scope P.objs.size fp s2 H2) rfl rfl rfl hc i _ s3 σ3 H3 noE (I3D I3 hD3 hn3) (fun b hb => fOk hb (fr3 b hb)) st3 go) fun r s4 zq2 => ?_
      obtain ⟨u, hr, h4⟩ := zq2
      subst hr
      refine thn h4 fun _ s5 zq3 => ?_
      obtain ⟨x, H5, I5, r5, y5, st5, fr5⟩ := zq3
      have I5' := I5.pinned (fun b hb => fOk hb (fr5 b hb)) (T.obj _ _ st5)
      refine thn (hg _ fp s2 H2 _ s5 σ3 H5 x u _ I5' r5 (step x H5 y5)) fun _ s6 zq4 => ?_
      obtain ⟨σ6, H6, I6, q6⟩ := zq4
      refine thn (ht _ fp s2 H2 _ s6 σ6 H6 _ I6 q6) fun b s7 zq5 => ?_
      obtain ⟨H7, I7, q7⟩ := zq5
      have pinned : ∀ {σ8 : St} {H8 : Hp} {s8 : Shared}, Inv (cxB X NB own scope P.objs.size fp s2 H2) ([(s2.heap.objs.size, { cls := .type "list", data := .seq (its : List Value).toArray k })]++cX fp s5.heap) σ8 H8 s8 →
          tn (i+1) s8.heap ∧ (∀ b∈fp, H8 b=none) ∧ s8.heap.get? s2.heap.objs.size=some { cls := .type "list", data := .seq (its : List Value).toArray k } ∧ H8 s2.heap.objs.size=none := fun {σ8 H8 s8} I8 => by
        refine ⟨T.keep _ _ _ st5 fun b hb o e => (I8.pin (b, o) (List.mem_append_right _ (List.mem_append_right _ (aU hb e)))).1, fun b hb => ?_, ?_, ?_⟩
        · obtain ⟨o, e, d⟩ := T.obj _ _ st5 b hb
          exact (I8.pin (b, o) (List.mem_append_right _ (List.mem_append_right _ (aU hb e)))).2.1
        · exact (I8.pin (s2.heap.objs.size, _) (List.mem_append_right _ (List.mem_append_left _ (List.mem_singleton.mpr rfl)))).1
        · exact (I8.pin (s2.heap.objs.size, _) (List.mem_append_right _ (List.mem_append_left _ (List.mem_singleton.mpr rfl)))).2.1
      have nopin : ∀ {pp : List (Addr × Obj)} {σ8 : St} {H8 : Hp} {s8 : Shared}, Inv (cxB X NB own scope P.objs.size fp s2 H2) pp σ8 H8 s8 → Inv (cxB X NB own scope P.objs.size fp s2 H2) [] σ8 H8 s8 := fun I8 => I8.pins_of fun p hp => absurd (show p∈([] : List (Addr × Obj)) from hp) (by simp)
      cases b with
      | false =>
        rw [if_neg Bool.false_ne_true] at q7 ⊢
        obtain ⟨m', hm, w7⟩ := q7
        obtain ⟨p1, p2, p3, p4⟩ := pinned I7
        exact ⟨m', hm, i+1, σ6, H7, ys, its, k, nopin I7, p1, p2, p3, rv, p4, w7⟩
      | true =>
        rw [if_pos rfl] at q7 ⊢
        refine thn (he _ fp s2 H2 _ s7 σ6 H7 _ I7 q7) fun yv s8 zq6 => ?_
        obtain ⟨y, H8, I8, r8, m', hm, w8⟩ := zq6
        obtain ⟨p1, p2, p3, p4⟩ := pinned I8
        refine call_meets F.slot_list_append ⟨_, p3, rfl⟩ F.entry_list_append (F.args_list_append_2 _ _) (PySem.list_append s2.heap.objs.size its.toArray k yv (by rw [List.size_toArray, ← rv.length];omega)) ⟨p3, ?_⟩
        have q := PySem.IsL.update p3 fun a => a.push yv
        have ea : its.toArray.push yv=(its++[yv]).toArray := by simp
        rw [ea] at q
        have I9 : Inv (cxB X NB own scope P.objs.size fp s2 H2) [] σ6 H8 { s8 with heap := s8.heap.update s2.heap.objs.size (Obj.mapSeq fun a => a.push yv), toks := s8.toks } :=
          (nopin I8).turned (it := s2.heap.objs.size) (fun b o hb e => (Heap.get?_update_other s8.heap _ (Ne.symm hb)).trans e) p4 hDC (.inr (Nat.le_refl _)) (fun x c e => nCD x c e) fun p hp => absurd (show p∈([] : List (Addr × Obj)) from hp) (by simp)
        refine ⟨m', hm, i+1, σ6, H8, ys++[y], its++[yv], _, I9, ?_, p2, q, rv.append (.cons r8 .nil), p4, w8⟩
        refine T.keep _ _ _ p1 fun b hb o e => (Heap.get?_update_other s8.heap _ ?_).trans e
        intro z
        rw [z] at ndf
        exact ndf hb
  exact codeAny_compStart_list (loop _ rfl) (T.self X.A 0 _ _ _ st4 (loop _ rfl))
theorem bf {own : List Str}{cap : List Nat}{J : It}{g : TG}{ti : TT}{te : TE}{σ : St}{H : Hp}{Q : VK}(n : Nat)(Pv : Nat → List V → St → Hp → Prop)(h0 : Pv 0 [] (stB own cap σ) H)(hz : ∀ i ys σ H, i≤n → Pv i ys σ H → ys.length≤i)(hn : n≤sizeLine)
    (hgo : ∀ i ys σ H, i < n → Pv i ys σ H → J.go i H) (hst : ∀ ys σ H, Pv n ys σ H → J.stop n H)
    (hs : ∀ i ys σ H x H' (N : List V → St → Hp → Prop), i < n → Pv i ys σ H → J.yld i H x H' → (∀ ys' σ' H'', Pv (i+1) ys' σ' H'' → N ys' σ' H'') → g x σ H' fun σ2 H2 => ti σ2 H2 fun b H3 => if b=true then te σ2 H3 fun y H4 => N (ys++[y]) σ2 H4 else N ys σ2 H3)
    (hd : ∀ ys σ H D, Pv n ys σ H → H D=none → Q (.ref D) (upd H D (.lst ys))) :
    iI own cap g ti te Q σ J H := by
  refine ⟨fun i m ys σ H => m=n - i ∧ i≤n ∧ Pv i ys σ H, ⟨n, by simp, Nat.zero_le _, h0⟩, ?_⟩
  rintro i m ys σ H ⟨rfl, hi, p⟩
  have hl := hz i ys σ H hi p
  by_cases hlt : i < n
  · refine .inr ⟨hgo i ys σ H hlt p, by omega, fun x H' y => ?_⟩
    exact hs i ys σ H x H' (fun ys' σ' H'' => ∃ m', m' < n - i ∧ m'=n - (i+1) ∧ i+1≤n ∧ Pv (i+1) ys' σ' H'') hlt p y fun ys' σ' H'' q => ⟨n - (i+1), by omega, rfl, hlt, q⟩
  · have e : i=n := by omega
    subst e
    exact .inl ⟨hst ys σ H p, by omega, fun D hD => hd ys σ H D p hD⟩
end L2
set_option Elab.async false
set_option linter.all false
set_option maxRecDepth 100000
namespace L2
open PySem PySem.Spec PyProof.Rows
def Its (z : Str) : It := ⟨fun i _ => i < z.cps.size, fun i H x H' => H'=H ∧ ∃ c, z.cps[i]? = some c ∧ x = .str ⟨#[c]⟩, fun i _ => i=z.cps.size⟩
theorem bZ {P : Program}{w : World}{K : PySem.W.Frag}{tg : Expr}{it n : Nat}{Pv : Nat → Value → Prop}{st : Nat → Heap → Prop}{J : It}{T : String}{fl : Nat → Array Value}
    (W : ∀ A : Around, A.handled=none → Walks P w A it [it] [it] n Pv st) (hst : ∀ i h, st i h → ∃ o, h.get? it=some o ∧ o.cls = .type T ∧ o.data = .fields (fl i))
    (hT : ["enumerate", "zip", "dict_itemiterator", "dict_reverseitemiterator", "odict_iterator", "itertools.zip_longest", "itertools.pairwise"].contains T=false)
    (hgo : ∀ i H, J.go i H → i < n) (hstop : ∀ i H, J.stop i H → i=n) (hy : ∀ i H u, J.go i H → Pv i u → ∃ x, aO x u ∧ J.yld i H x H)
    (hself : ∀ (A : Around) (i : Nat) (s : Shared) (Q : Value → Shared → Prop) (E : Value → Shared → Prop), st i s.heap → Q (.ref it) s → wpAny (model P w) A (pyIter (.ref it)) Q E s) : j9 P w K tg J [it] it st where
  mem := by simp
  obj := fun i h s b hb => by
    have e : b=it := by simpa using hb
    subst e
    obtain ⟨o, e, c, d⟩ := hst i h s
    exact ⟨o, e, fun v z => by rw [d] at z;cases z⟩
  keep := fun i h h' s k => (W {} rfl).frame i h h' s k
  item := by
    intro X hP hw hK hc i pins s σ H E I hf s0 hg
    subst hP hw hK
    obtain ⟨f0, f1, f2, f3, f4, f5⟩ := hf it (by simp)
    refine (W X.A (I.ok.hd hc)).item i s _ _ (hgo i H hg) s0 fun v h' tk hv st' kk => ?_
    have I1 : Inv X pins σ H { s with heap := h', toks := tk } := I.turned (fun b o hb e => kk b o (by simpa using hb) e) f0 f1 f3 f4 f5
    obtain ⟨o, e, c, d⟩ := hst _ _ st'
    obtain ⟨x, rx, yx⟩ := hy i H v hg hv
    exact ⟨v, rfl, jw (s := { s with heap := h', toks := tk }) e c d hT ⟨x, H, I1, rx, yx, st', fun b hb => (hf b hb).1⟩⟩
  done := by
    intro X hP hw hK hc i pins s σ H E I hf s0 hg
    subst hP hw hK
    obtain ⟨f0, f1, f2, f3, f4, f5⟩ := hf it (by simp)
    have e := hstop i H hg
    subst e
    exact (W X.A (I.ok.hd hc)).done s _ _ s0 fun h' tk kk => ⟨rfl, I.turned (fun b o hb e => kk b o (by simpa using hb) e) f0 f1 f3 f4 f5⟩
  self := hself
section
variable {X : Cx} {tg : Expr}
def nX (tl : TE) : TI := fun σ H R => tl σ H fun x H1 => ∃ z, x = .str z ∧ R (Its z) H1
theorem gB {z : Str}{i : Nat}{H : Hp}{u : Value}(h : SignAt z i u) : ∃ x, aO x u ∧ (Its z).yld i H x H := by
  obtain ⟨c, t, e, rfl⟩ := h
  exact ⟨.str ⟨#[c]⟩, ⟨t, rfl⟩, rfl, c, e, rfl⟩
theorem de {l : Expr}{tl : TE}(hl : PE X l tl) : PI X tg l (nX tl) := by
  intro pins s σ H R I h
  refine thn (hl pins s σ H _ I h) fun v s1 zq1 => ?_
  obtain ⟨x, H1, I1, r1, q1⟩ := zq1
  obtain ⟨z, rfl, q⟩ := q1
  obtain ⟨t, rfl⟩ := r1
  have fp : ∀ b∈[s1.heap.objs.size], fe X pins H1 b := fun b hb => by
    have e : b=s1.heap.objs.size := by simpa using hb
    subst e
    exact I1.fpOk (Nat.le_refl _) (I1.hok.fresh (Nat.le_refl _))
  cases ha : z.cps.all (· < 128)
  · refine wpAny_pyIter_wide ha ⟨s1.heap.objs.size, [s1.heap.objs.size], _, Its z, H1, rfl, I1.kept (t' := s1.toks) fun b o e => Heap.get?_push_of_some _ e,
      bZ (T := "str_iterator") (fl := fun i => #[.str z t, .int i 0]) (fun A hh => Walks.strWide hh _ z t) (fun i h st => st) (by decide) (fun i H g => g) (fun i H g => g) (fun i H u _ hu => gB hu) (fun A i s Q E st h => wpAny_pyIter_striter_wide st h), ⟨_, Heap.get?_push_size _ rfl, rfl, rfl⟩, fp, q⟩
  · refine wpAny_pyIter_ascii ha ⟨s1.heap.objs.size, [s1.heap.objs.size], _, Its z, H1, rfl, I1.kept (t' := s1.toks) fun b o e => Heap.get?_push_of_some _ e,
      bZ (T := "str_ascii_iterator") (fl := fun i => #[.str z t, .int i 0]) (fun A hh => Walks.strAscii hh _ z t) (fun i h st => st) (by decide) (fun i H g => g) (fun i H g => g) (fun i H u _ hu => gB hu) (fun A i s Q E st h => wpAny_pyIter_striter_ascii st h), ⟨_, Heap.get?_push_size _ rfl, rfl, rfl⟩, fp, q⟩
inductive nz (x : V)(lo : Option Int)(hi : Option Int)(H : Hp)(Q : VK) : Prop
  | mk : ∀ z, (x = .str z) → (z.length≤sizeLine) → (Q (.str (Txt.slice z lo hi)) H) → nz x lo hi H Q
theorem cK : SlR X nz := by
  intro pins s σ H x v vl vu lo hi sl Q I rx hs pl pu h
  obtain ⟨z, rfl, hz, q⟩ := h
  obtain ⟨t, rfl⟩ := rx
  have fin : ∀ (lo hi : Option Int), Q (.str (Txt.slice z lo hi)) H → ∀ t' k, EP X pins σ Q (.str (Txt.slice z lo hi) t') { s with toks := k } := fun lo hi q t' k => ⟨.str _, H, I.tok _, ⟨_, rfl⟩, q⟩
  refine ⟨"str", _, F.slot_str_getitem.lookup, typeIs_str _ _ _, ?_⟩
  cases pl with
  | none =>
    cases pu with
    | none => exact wpAny_getItem_str_slice (l := none) (u := none) (st := none) hs rfl (post_val_or_str ⟨Nat.le_trans (Txt.slice_le z _ _) hz, fun t' k => fin _ _ q t' k⟩)
    | int j uj => exact wpAny_getItem_str_slice (l := none) (u := some (j, uj)) (st := none) hs rfl (post_val_or_str ⟨Nat.le_trans (Txt.slice_le z _ _) hz, fun t' k => fin _ _ q t' k⟩)
  | int i ui =>
    cases pu with
    | none => exact wpAny_getItem_str_slice (l := some (i, ui)) (u := none) (st := none) hs rfl (post_val_or_str ⟨Nat.le_trans (Txt.slice_le z _ _) hz, fun t' k => fin _ _ q t' k⟩)
    | int j uj => exact wpAny_getItem_str_slice (l := some (i, ui)) (u := some (j, uj)) (st := none) hs rfl (post_val_or_str ⟨Nat.le_trans (Txt.slice_le z _ _) hz, fun t' k => fin _ _ q t' k⟩)
inductive jb (x : V)(vs : List V)(H : Hp)(Q : VK) : Prop
  | mk : ∀ z, (x = .str z) → (vs=[]) → (z.length≤5592405) → (Q (.str (Txt.upper z)) H) → jb x vs H Q
inductive jc (x : V)(vs : List V)(H : Hp)(Q : VK) : Prop
  | mk : ∀ z, (x = .str z) → (vs=[]) → (z.length≤5592405) → (Q (.str (Txt.lower z)) H) → jc x vs H Q
theorem iJ : MtR X "str.upper" jb := by
  intro pins s σ H x vs v us Q I rx rv h
  obtain ⟨z, rfl, rfl, hz, q⟩ := h
  obtain ⟨t, rfl⟩ := rx
  cases rv
  exact SCL.upper hz fun _ => ⟨.str _, H, I.tok _, ⟨_, rfl⟩, q⟩
theorem iK : MtR X "str.lower" jc := by
  intro pins s σ H x vs v us Q I rx rv h
  obtain ⟨z, rfl, rfl, hz, q⟩ := h
  obtain ⟨t, rfl⟩ := rx
  cases rv
  exact SCL.lower hz fun _ => ⟨.str _, H, I.tok _, ⟨_, rfl⟩, q⟩
theorem df : ∀ {ys : List Str} {us : List Value}, aL (ys.map V.str) us → StrsAre us ys
  | [], _, r => by
    rw [List.map_nil] at r
    cases r
    exact .nil
  | y::ys, us, r => by
    rw [List.map_cons] at r
    cases r with
    | cons r1 r2 =>
      obtain ⟨t, e⟩ := r1
      subst e
      exact .cons y t (df r2)
end
theorem jN {z : Str}{g : TG}{tb : TS}{D : dP}{σ : St}{H : Hp}(Pv : Nat → St → Hp → Prop)(h0 : Pv 0 σ H)
    (hs : ∀ i c σ H, z.cps[i]? = some c → Pv i σ H → g (.str ⟨#[c]⟩) σ H fun σ2 H2 => tb { D with nx := Pv (i+1), ct := Pv (i+1), bk := D.nx } σ2 H2) (hd : ∀ σ H, Pv z.cps.size σ H → D.nx σ H) :
    ∃ W : Nat → Nat → St → Hp → Prop, (∃ m, W 0 m σ H) ∧ ∀ i m σ H, W i m σ H →
      ((Its z).stop i H ∧ D.nx σ H) ∨ ((Its z).go i H ∧ ∃ N : St → Hp → Prop, (∀ σ' H', N σ' H' → ∃ m', m' < m ∧ W (i+1) m' σ' H') ∧ ∀ x H', (Its z).yld i H x H' → g x σ H' fun σ2 H2 => tb { D with nx := N, ct := N, bk := D.nx } σ2 H2) := by
  refine ⟨fun i m σ H => m=z.cps.size - i ∧ i≤z.cps.size ∧ Pv i σ H, ⟨z.cps.size, by simp, Nat.zero_le _, h0⟩, ?_⟩
  rintro i m σ H ⟨rfl, hi, p⟩
  by_cases hlt : i < z.cps.size
  · refine .inr ⟨hlt, Pv (i+1), fun σ' H' p' => ⟨z.cps.size - (i+1), by omega, rfl, hlt, p'⟩, fun x H' y => ?_⟩
    obtain ⟨e, c, hc, ex⟩ := y
    subst e ex
    exact hs i c σ _ hc p
  · have e : i=z.cps.size := by omega
    subst e
    exact .inl ⟨rfl, hd σ H p⟩
end L2
set_option Elab.async false
set_option linter.all false
set_option maxRecDepth 100000
namespace PySem
open Sem (wp)
open Builtin Builtin.SmallTypes
namespace F
end F
section
variable {prog : Program} {w : World} {A : Around} {E : Value → Shared → Prop} {s : Shared} {x : Str} {t : Tok}
end
end PySem
namespace L2
open PySem PySem.Spec PyProof.Rows
section
variable {X : Cx} {tg : Expr}
end
end L2
set_option linter.all false
namespace Wd
abbrev L := Fin 12
def inv (x : L) : L := if h : x.val < 6 then ⟨x.val+6, by omega⟩ else ⟨x.val - 6, by omega⟩
def bk (w : List L) : List L := (w.map inv).reverse
theorem gC (u v : List L) : bk (u++v)=bk v++bk u := by simp [bk]
theorem gD (w : List L) : (bk w).length=w.length := by simp [bk]
theorem kR (x : L) : bk [x]=[inv x] := rfl
def push (st : List L)(x : L) : List L := match st with
  | [] => [x]
  | y::r => if y=inv x then r else x::y::r
def Rd : List L → Prop
  | [] => True
  | [_] => True
  | x::y::r => y≠inv x ∧ Rd (y::r)
def rep : Nat → List L → List L
  | 0, _ => []
  | n+1, w => rep n w++w
end Wd
set_option Elab.async false
set_option linter.all false
set_option maxRecDepth 100000
namespace L2
open PySem PySem.Spec PyProof.Rows Wd
def cp (x : L) : Nat := if x.val < 6 then 97+x.val else 59+x.val
theorem kT : ∀ x : L, cp x < 128 := by decide
theorem kU : ∀ x y : L, cp x=cp y → x=y := by decide
def toS (w : List L) : Str := ⟨(w.map cp).toArray⟩
def tx (w : List L) : V := .str (toS w)
theorem bQ (w : List L) : (toS w).cps.toList=w.map cp := by simp [toS]
theorem az (w : List L) : (toS w).length=w.length := by simp [toS, Str.length]
theorem aS (w : List L) : (toS w).cps.size=w.length := by simp [toS]
theorem fE (u v : List L) : toS u++toS v=toS (u++v) := by
  apply Str.ext'
  rw [Str.cps_append]
  simp [toS]
theorem dh : ∀ {u v : List L}, u.map cp=v.map cp → u=v
  | [], [], _ => rfl
  | [], _::_, h => by simp at h
  | _::_, [], h => by simp at h
  | x::u, y::v, h => by
    simp only [List.map_cons, List.cons.injEq] at h
    rw [kU x y h.1, dh h.2]
theorem bC {u v : List L}(h : toS u=toS v) : u=v := by
  have : (toS u).cps.toList=(toS v).cps.toList := by rw [h]
  rw [bQ, bQ] at this
  exact dh this
theorem jO : toS []=("" : Str) := by decide +kernel
theorem jd : tx []=V.str ("" : Str) := congrArg V.str jO
theorem kW : toS [0, 1, 2, 3, 4, 5]=("abcdef" : Str) := by decide +kernel
theorem big : toS [6, 7, 8, 9, 10, 11]=("ABCDEF" : Str) := by decide +kernel
theorem cL {w : List L}{i c : Nat}(h : (toS w).cps[i]? = some c) : ∃ x, w[i]? = some x ∧ (⟨#[c]⟩ : Str)=toS [x] := by
  have h : ((w.map cp).toArray)[i]? = some c := h
  rw [List.getElem?_toArray, List.getElem?_map] at h
  cases e : w[i]? with
  | none => rw [e] at h;cases h
  | some x =>
    rw [e] at h
    have : cp x=c := Option.some.inj h
    exact ⟨x, rfl, by rw [← this];rfl⟩
theorem gE {w : List L}{k : Nat}{x : L}{i : Int}(hk : i=(k : Int))(h : w[k]? = some x) : atI (toS w).cps.toList i=some (cp x) := by
  subst hk
  rw [bQ]
  obtain ⟨hl, e⟩ := List.getElem?_eq_some_iff.mp h
  unfold atI ixN
  rw [if_pos (by omega), if_pos (by rw [List.length_map];omega)]
  show (w.map cp)[((k : Nat) : Int).toNat]? = _
  rw [Int.toNat_natCast, List.getElem?_map, h]
  rfl
def eQ (w : List L)(lo hi : Option Int) : List L := (w.drop (HT.sIx w.length 0 lo)).take (HT.sIx w.length w.length hi - HT.sIx w.length 0 lo)
theorem jP (lo hi : Option Int)(n : Nat) : Builtin.Str.strSliceIndices lo hi 1 n=(List.range (HT.sIx n n hi - HT.sIx n 0 lo)).map (fun k => HT.sIx n 0 lo+k) := by
  have cl : ∀ v : Int, max (0 : Int) (min (if v < 0 then v+(n : Int) else v) (n : Int))=(((if v < 0 then (v+(n : Int)).toNat else min v.toNat n) : Nat) : Int) := fun v => by
    by_cases hv : v < 0
    · simp only [if_pos hv];omega
    · simp only [if_neg hv];omega
  have fin : ∀ a b : Nat, sliceRange (a : Int) (b : Int) 1=(List.range (b - a)).map (fun k => a+k) := fun a b => by
    unfold sliceRange
    simp only [show ((1 : Int) > 0)=True from by simp, if_true]
    by_cases hlt : (a : Int) < b
    · have e3 : (((b : Int) - a+1 - 1) / 1).toNat=b - a := by first | omega | (simp;done) | (simp;omega)
      simp only [hlt, if_true, e3]
      exact List.map_congr_left fun k _ => by omega
    · have : b - a=0 := by omega
      simp [hlt, this]
  unfold Builtin.Str.strSliceIndices
  simp only [show ((1 : Int) > 0)=True from by simp, if_true]
  cases lo with
  | none =>
    cases hi with
    | none => exact fin 0 n
    | some j => simp only [cl];exact fin 0 _
  | some i =>
    cases hi with
    | none => simp only [cl];exact fin _ n
    | some j => simp only [cl];exact fin _ _
theorem aY (w : List L)(lo hi : Option Int) : Txt.slice (toS w) lo hi=toS (eQ w lo hi) := by
  have h1 := HT.i6 w.length 0 (Nat.zero_le _) lo
  have h2 := HT.i6 w.length w.length (Nat.le_refl _) hi
  unfold Txt.slice
  rw [jP, az]
  split
  · rename_i h
    have hl : HT.sIx w.length w.length hi - HT.sIx w.length 0 lo=w.length := by simpa using h
    have e : eQ w lo hi=w := by
      unfold eQ
      rw [hl]
      have ha : HT.sIx w.length 0 lo=0 ∨ w.length=0 := by omega
      rcases ha with ha | ha
      · rw [ha, List.drop_zero, List.take_length]
      · have : w=[] := List.eq_nil_of_length_eq_zero ha
        subst this
        simp
    rw [e]
  · apply Str.ext'
    show (List.filterMap _ _).toArray=_
    have e := StrLaws.picks (w.map cp) (HT.sIx w.length w.length hi - HT.sIx w.length 0 lo) (HT.sIx w.length 0 lo)
    by_cases hle : HT.sIx w.length 0 lo≤HT.sIx w.length w.length hi
    · have e := e (by rw [List.length_map];omega)
      have e2 : (fun k : Nat => (toS w).cps[k]?)=fun k : Nat => (w.map cp)[k]? := funext fun k => by simp [toS]
      rw [e2, e]
      simp [toS, eQ, List.map_take, List.map_drop]
    · have z : HT.sIx w.length w.length hi - HT.sIx w.length 0 lo=0 := by omega
      rw [z]
      simp [toS, eQ, z]
theorem gF (w : List L){n : Int}(h : 0≤n) : eQ w none (some n)=w.take n.toNat := by
  obtain ⟨k, rfl⟩ := Int.eq_ofNat_of_zero_le h
  unfold eQ
  rw [HT.dz, HT.eM, List.drop_zero, Nat.sub_zero, Int.toNat_natCast]
  by_cases hk : k≤w.length
  · rw [Nat.min_eq_left hk]
  · rw [Nat.min_eq_right (by omega), List.take_length, List.take_of_length_le (by omega)]
theorem fo (w : List L){n : Int}(h : 0≤n) : eQ w (some n) none=w.drop n.toNat := by
  obtain ⟨k, rfl⟩ := Int.eq_ofNat_of_zero_le h
  unfold eQ
  rw [HT.dz, HT.eM, Int.toNat_natCast]
  by_cases hk : k≤w.length
  · rw [Nat.min_eq_left hk, List.take_of_length_le (by rw [List.length_drop];omega)]
  · rw [Nat.min_eq_right (by omega), List.drop_length, List.drop_eq_nil_of_le (by omega)]
    simp
theorem di (w : List L)(lo hi : Option Int) : (eQ w lo hi).length≤w.length := by
  unfold eQ
  rw [List.length_take, List.length_drop]
  omega
theorem gG (w : List L) : Txt.upper (toS w)=⟨((w.map cp).map up1).toArray⟩ := by
  rw [upper_ascii fun c hc => by rw [bQ] at hc;obtain ⟨x, _, rfl⟩ := List.mem_map.mp hc;exact kT x]
  simp [toS]
theorem gH (w : List L) : Txt.lower (toS w)=⟨((w.map cp).map lo1).toArray⟩ := by
  rw [lower_ascii fun c hc => by rw [bQ] at hc;obtain ⟨x, _, rfl⟩ := List.mem_map.mp hc;exact kT x]
  simp [toS]
theorem mE : ∀ x : L, x.val < 6 → up1 (cp x)=cp (inv x) := by decide
theorem mF : ∀ x : L, ¬ x.val < 6 → lo1 (cp x)=cp (inv x) := by decide
theorem d9 {x : L}(h : x.val < 6) : Txt.upper (toS [x])=toS [inv x] := by
  rw [gG]
  show (⟨#[up1 (cp x)]⟩ : Str)=⟨#[cp (inv x)]⟩
  rw [mE x h]
theorem d_ {x : L}(h : ¬ x.val < 6) : Txt.lower (toS [x])=toS [inv x] := by
  rw [gH]
  show (⟨#[lo1 (cp x)]⟩ : Str)=⟨#[cp (inv x)]⟩
  rw [mF x h]
theorem ex1 : ∀ x : L, cp x∈List.map cp [0, 1, 2, 3, 4, 5] → x.val < 6 := by decide
theorem ex2 : ∀ x : L, x.val < 6 → (List.map cp [0, 1, 2, 3, 4, 5])[x.val]? = some (cp x) := by decide
theorem iL (x : L) : (!(Builtin.Str.occurrences ("abcdef" : Str) (toS [x]) 0 ("abcdef" : Str).length 1).isEmpty)=decide (x.val < 6) := by
  have h := StrLaws.found_iff ("abcdef" : Str) (toS [x])
  have e : (∃ i, i+(toS [x]).length≤("abcdef" : Str).length ∧ Builtin.Str.subAt ("abcdef" : Str) (toS [x]) i=true) ↔ x.val < 6 := by
    have e2 : ∀ i, (i+(toS [x]).length≤("abcdef" : Str).length ∧ Builtin.Str.subAt ("abcdef" : Str) (toS [x]) i=true) ↔ ("abcdef" : Str).cps.toList[i]? = some (cp x) := fun i => StrLaws.subAt_one _ _ _
    rw [show (("abcdef" : Str))=toS [0, 1, 2, 3, 4, 5] from kW.symm] at e2 ⊢
    constructor
    · rintro ⟨i, hi⟩
      have hi := (e2 i).mp hi
      rw [bQ] at hi
      exact ex1 x (List.mem_of_getElem? hi)
    · intro hx
      refine ⟨x.val, (e2 x.val).mpr ?_⟩
      rw [bQ]
      exact ex2 x hx
  rw [Bool.eq_iff_iff, h, e, decide_eq_true_iff]
end L2
set_option Elab.async false
set_option linter.all false
set_option maxRecDepth 100000
namespace L2
open PySem PySem.Spec PyProof.Rows Wd
structure Fnc (P : Program) (w : World) (K : PySem.W.Frag) (mg : Str → Option Value) (base : Heap) (x : Str) (ps : List Str) (k : Nat) (sp : Sp) : Prop where
  ex : ∃ (f : Addr) (fd : FuncData), mg x=some (.ref f) ∧ PySem.W.keepIn K (.ref f)=true ∧ fD K fd ps [] ∧ ij P w K mg base CX0 k f fd ps sp
theorem aR {X : Cx}{x : Str}{ps : List Str}{k j : Nat}{sp : Sp}{e : Expr}{es : List Expr}{t : TA}{p pos : Pos}(F : Fnc X.prog X.w X.K X.mg X.base x ps j sp)(hr : c_ k X.A)(hj : j≤k)(hg : Gl X x)(ha : PA X (e::es) t)
    (hdb : (x == ("__debug__" : Str))=false := by decide) (he : starEach (e::es) X.env=(false, eval e X.env)::starEach es X.env := by rfl) (hpl : (backTo pos (starEach es X.env)).any (·.1)=false := by rfl) :
    PE X (.Call (.Name x p) (e::es) [] pos) (kA sp [] E0 t) := by
  obtain ⟨f, fd, hm, hk, hb, F⟩ := F.ex
  exact jA F (hr.mono hj) hg hm hk hb .nil mz ha hdb he hpl
structure Df (K : PySem.W.Frag) (mg : Str → Option Value) (x : Str) (st : Stmt) : Prop where
  ex : ∃ (f : Addr) (fd : FuncData), mg x=some (.ref f) ∧ Fun K x x st f fd
theorem Df.ok {P : Program}{w : World}{K : PySem.W.Frag}{mg : Str → Option Value}{base : Heap}{x : Str}{st : Stmt}{N ps : List Str}{k : Nat}{sp : Sp}(D : Df K mg x st)(S : aG N ps (ai st))
    (hb : ∀ (kV doc pm : Value) (an : Option Addr) (cdv ct : Value) (us : List Value), us.length=ps.length → bindArgs (PySem.W.fnOf x x (ay st) (av st) (ai st) .none kV doc pm an cdv ct) ⟨us, []⟩=pure (ps.zip us))
    (len : ∀ vs H Q E, sp vs H Q E → vs.length=ps.length)
    (hbody : ∀ (f : Addr) (cdv : Value) (A : Around) (outer : List Env) (s : Shared) (H : Hp) (vs : List V) (Q : VK) (E : XK), c_ k (A.deeper (envOfC x (ai st) s.heap.objs.size f cdv)) → sp vs H Q E →
      ∃ t, PSs (jB CX0 P w K mg base N x (ai st) f cdv A outer s H E).nox (av st) t ∧ t { nx := fun _ H' => Q .non H', rt := Q } (start N vs) H) : Fnc P w K mg base x ps (k+1) sp := by
  obtain ⟨f, fd, hm, F⟩ := D.ex
  exact ⟨f, fd, hm, F.kp, F.binds hb, F.ok S len fun cdv A outer s H vs Q E hr h => hbody f cdv A outer s H vs Q E hr h⟩
def iM (d : Addr)(H H' : Hp) : Prop := ∀ b o, b≠d → H b=some o → H' b=some o
theorem ax.new {H : Hp}{a : Addr}{o : HO}(h : H a=none) : ax H (upd H a o) := fun b u e => by rw [aj (af e h)]; exact e
theorem iM.upd {d : Addr}{H : Hp}{o : HO} : iM d H (upd H d o) := fun b u n e => by rw [aj n]; exact e
theorem ax.then {H H1 : Hp}{a : Addr}{o : HO}(s : ax H H1)(h : H1 a=none) : ax H (L2.upd H1 a o) := s.trans (ax.new h)
def kS (x : Str) : Key := .inr x
def fkv (c : Addr)(i l t : Int) : List (Key × V) := [(kS "cells", .ref c), (kS "at", .int i), (kS "left", .int l), (kS "turn", .int t)]
theorem mG : ¬ (kS "cells" = kS "at") := by decide +kernel
theorem mH : ¬ (kS "cells" = kS "left") := by decide +kernel
theorem mI : ¬ (kS "cells" = kS "turn") := by decide +kernel
theorem lQ : ¬ (kS "at" = kS "left") := by decide +kernel
theorem lR : ¬ (kS "at" = kS "turn") := by decide +kernel
theorem lS : ¬ (kS "left" = kS "turn") := by decide +kernel
theorem cx {κ : Type}[DecidableEq κ]{k : κ}{v : V}{r : List (κ × V)} : bq ((k, v)::r) k=some v := by unfold bq; simp
theorem bo {κ : Type}[DecidableEq κ]{k k' : κ}{v : V}{r : List (κ × V)}(h : ¬ k'=k) : bq ((k', v)::r) k=bq r k := by unfold bq; simp [h]
theorem gI (c : Addr)(i l t : Int) : bq (fkv c i l t) (kS "cells")=some (.ref c) := cx
theorem nA (c : Addr)(i l t : Int) : bq (fkv c i l t) (kS "at")=some (.int i) := (bo mG).trans cx
theorem ee (c : Addr)(i l t : Int) : bq (fkv c i l t) (kS "left")=some (.int l) := (bo mH).trans ((bo lQ).trans cx)
theorem gJ (c : Addr)(i l t : Int) : bq (fkv c i l t) (kS "turn")=some (.int t) := (bo mI).trans ((bo lR).trans ((bo lS).trans cx))
theorem nY : ¬ (kS "turn" = kS "at") := fun e => lR e.symm
theorem nZ : ¬ (kS "left" = kS "at") := fun e => lQ e.symm
theorem n5 : ¬ (kS "turn" = kS "left") := fun e => lS e.symm
theorem n6 (c : Addr)(i l t z : Int) : aV (fkv c i l t) (kS "at") (.int z)=fkv c z l t := by simp [aV, fkv, mG, nZ, nY]
theorem gK (c : Addr)(i l t z : Int) : aV (fkv c i l t) (kS "left") (.int z)=fkv c i z t := by simp [aV, fkv, mH, lQ, n5]
theorem kX (c : Addr)(i l t z : Int) : aV (fkv c i l t) (kS "turn") (.int z)=fkv c i l z := by simp [aV, fkv, mI, lR, lS]
theorem cM (c : Addr)(i l t : Int) : (fkv c i l t).length < sizeLine := by show 4 < sizeLine; decide
theorem mJ (c : Addr)(i l t : Int) : cG [] (fkv c i l t)=fkv c i l t := by simp [cG, aV, fkv, mG, mH, mI, lQ, lR, lS]
structure Fd (H : Hp) (d : Addr) : Prop where
  ex : ∃ (c : Addr) (i l t : Int) (ns : List Int), H d=some (.dK (fkv c i l t)) ∧ H c=some (.lst (ns.map V.int)) ∧ ns≠[] ∧ ns.length≤64
theorem Fd.same {H H' : Hp}{d : Addr}(F : Fd H d)(s : ax H H') : Fd H' d := by
  obtain ⟨c, i, l, t, ns, h1, h2, h3, h4⟩ := F.ex
  exact ⟨c, i, l, t, ns, s _ _ h1, s _ _ h2, h3, h4⟩
theorem Fd.new {H : Hp}{d a : Addr}{o : HO}(F : Fd H d)(h : H a=none) : Fd (upd H a o) d := F.same (ax.new h)
inductive gL (vs : List V)(H : Hp)(Q : VK)(u3_ : XK) : Prop
  | mk : ∀ (d : Addr) (m : Int), (vs=[.ref d, .int m]) → (Fd H d) → (0 < m) → (m < 1000000) → (∀ (r : Int) (H' : Hp), 0≤r → r < m → Fd H' d → iM d H H' → Q (.int r) H') → gL vs H Q u3_
inductive gM (K : PySem.W.Frag)(vs : List V)(H : Hp)(Q : VK)(u3_ : XK) : Prop
  | mk : ∀ (a : Addr) (ns : List Int), (vs=[.ref a]) → (SqL K H a (ns.map V.int)) → (ns.length≤63) → (∀ (d : Addr) (H' : Hp), H d=none → Fd H' d → ax H H' → Q (.ref d) H') → gM K vs H Q u3_
theorem jQ {ns : List Int}(h : ns≠[])(i : Int) : ∃ n : Int, atI (ns.map V.int) (i % ((ns.map V.int).length : Int))=some (.int n) := by
  have hl : 0 < ns.length := List.length_pos_iff.mpr h
  rw [List.length_map]
  have h0 := Int.emod_nonneg i (show (ns.length : Int)≠0 by omega)
  have h1 := Int.emod_lt_of_pos i (show (0 : Int) < ns.length by omega)
  obtain ⟨k, hk⟩ := Int.eq_ofNat_of_zero_le h0
  rw [hk] at h1 ⊢
  have hk' : k < ns.length := by omega
  refine ⟨ns[k], ?_⟩
  unfold atI ixN
  rw [if_pos (by omega), if_pos (by rw [List.length_map];omega)]
  show (ns.map V.int)[((k : Nat) : Int).toNat]? = _
  rw [Int.toNat_natCast, List.getElem?_map, List.getElem?_eq_getElem hk']
  rfl
end L2
set_option Elab.async false
set_option linter.all false
set_option maxRecDepth 100000
namespace L2
open PySem PySem.Spec PyProof.Rows Wd
mutual
inductive Dt (H : Hp) : V → PyData → Prop where
  | non : Dt H .non .none
  | bl (b : Bool) : Dt H (.bl b) (.bool b)
  | int (i : Int) : Dt H (.int i) (.int i)
  | str (x : Str) : Dt H (.str x) (.str x)
  | lst {a : Addr} {xs : List V} {ds : List PyData} : H a=some (.lst xs) → Dts H xs ds → Dt H (.ref a) (.list ds)
  | tup {a : Addr} {xs : List V} {ds : List PyData} : H a=some (.tup xs) → Dts H xs ds → Dt H (.ref a) (.tuple ds)
inductive Dts (H : Hp) : List V → List PyData → Prop where
  | nil : Dts H [] []
  | cons {v : V} {d : PyData} {vs : List V} {ds : List PyData} : Dt H v d → Dts H vs ds → Dts H (v::vs) (d::ds)
end
section
variable {P : Program} {w : World} {H : Hp} {h : Heap}
mutual
theorem Dt.reads (ok : HOk P w H h) : ∀ {v : V} {d : PyData}, Dt H v d → ∀ {u : Value}, aO v u → ∃ as, Reads h u d as
  | _, _, .non, u, r => by cases r;exact ⟨_, .none⟩
  | _, _, .bl b, u, r => by cases r;exact ⟨_, .bool b⟩
  | _, _, .int i, u, r => by obtain ⟨t, rfl⟩ := r;exact ⟨_, .int i t⟩
  | _, _, .str x, u, r => by obtain ⟨t, rfl⟩ := r;exact ⟨_, .str x t⟩
  | _, _, .lst e q, u, r => by
    cases r
    obtain ⟨_, its, n, rv, g⟩ := ok _ _ e
    obtain ⟨as, ra⟩ := Dts.reads ok q rv
    exact ⟨_, .list g rfl rfl (by simpa using ra)⟩
  | _, _, .tup e q, u, r => by
    cases r
    obtain ⟨_, its, rv, ⟨ob, g, c, n, d⟩, _⟩ := ok _ _ e
    obtain ⟨as, ra⟩ := Dts.reads ok q rv
    exact ⟨_, .tuple g c d (by simpa using ra)⟩
theorem Dts.reads (ok : HOk P w H h) : ∀ {vs : List V} {ds : List PyData}, Dts H vs ds → ∀ {us : List Value}, aL vs us → ∃ as, ReadsAll h us ds as
  | _, _, .nil, _, r => by cases r;exact ⟨_, .nil⟩
  | _, _, .cons q qs, _, r => by
    cases r with
    | cons r rs =>
      obtain ⟨as, a1⟩ := Dt.reads ok q r
      obtain ⟨bs, a2⟩ := Dts.reads ok qs rs
      exact ⟨_, .cons a1 a2⟩
end
end
theorem Dts.ints {H : Hp} : ∀ (ns : List Int), Dts H (ns.map V.int) (ns.map PyData.int)
  | [] => .nil
  | y::ys => .cons (.int y) (Dts.ints ys)
structure Sh (d : PyData) : Prop where
  sh : d.showable=true
  nd : d.hasDict=false
  dp : d.depth≤10
  sz : d.shown.length≤sizeLine
section
variable {X : Cx}
inductive bD  (xs : List V)(H : Hp)(Q : VK) : Prop
  | mk : ∀ a d, (xs=[.ref a]) → (Dt H (.ref a) d) → (Sh d) → (Q (.str d.shown) H) → bD xs H Q
theorem aT (hg : X.A.guards=some [])(hu : X.A.units+64 < cLine) : cB X (.builtin "repr") bD := by
  intro pins s σ H xs us Q I r h
  obtain ⟨a, d, rfl, q, S, hQ⟩ := h
  obtain ⟨u, rfl, ru⟩ := cE r
  cases ru
  obtain ⟨as, rd⟩ := q.reads I.hok (u := .ref a) rfl
  refine repr_of_reads' rd S.sh (PyData.noDict_hsm S.nd) hg (by have := S.dp;omega) (fun _ _ e => e) (fun h' u tk hk => ?_) S.sz
  exact ⟨.str _, H, I.kept hk, ⟨_, rfl⟩, hQ⟩
end
def mK (m : Str)(ys : List Str) : Prop := m∈ys ∧ ∀ y∈ys, m.cps.toList≤y.cps.toList
theorem ck : ∀ (r : List Str) (x : Str), risingS x r=true → mK x (x::r)
  | [], x, _ => ⟨by simp, fun y hy => by rw [List.mem_singleton.mp hy];exact List.le_refl _⟩
  | z::r, x, h => by
    unfold risingS at h
    rw [Bool.and_eq_true] at h
    have h1 : x.cps.toList≤z.cps.toList := by
      have := h.1
      rw [ltCps_eq] at this
      exact List.not_lt.mp (by simpa using this)
    have ih := ck r z h.2
    refine ⟨by simp, fun y hy => ?_⟩
    rcases List.mem_cons.mp hy with e | hy
    · rw [e];exact List.le_refl _
    · exact List.le_trans h1 (ih.2 y hy)
theorem cm : ∀ {us : List Value} {ys : List Str}, StrsAre us ys → aL (ys.map V.str) us
  | _, _, .nil => .nil
  | _, _, .cons y t r => .cons ⟨t, rfl⟩ (cm r)
section
variable {X : Cx}
end
end L2
set_option Elab.async false
set_option linter.all false
set_option maxRecDepth 100000
set_option maxHeartbeats 0
namespace Kx
open PySem PySem.Spec PyProof.Rows L2 Wd
theorem kY : bootBuiltins "list" = some (.type "list") := by kernel_rfl
theorem kZ : bootBuiltins "int" = some (.type "int") := by kernel_rfl
theorem fq : bootBuiltins "repr" = some (.builtin "repr") := by kernel_rfl
theorem iN : bootBuiltins "sorted" = some (.builtin "sorted") := by kernel_rfl
theorem dg {H : Hp}{d : Addr}{kvs : List (Key × V)}{k : Str}{v : V}(h : H d=some (.dK kvs))(e : bq kvs (kS k)=some v) : dN H d (.str k) (some v) := by
  have q := dN.k (k := kS k) h
  rw [e] at q
  exact q
theorem dp {H : Hp}{d : Addr}{kvs kvs' : List (Key × V)}{k : Str}{v : V}(h : H d=some (.dK kvs))(hl : kvs.length < sizeLine)(e : aV kvs (kS k) v=kvs') : ik H d (.str k) v (upd H d (.dK kvs')) := by
  have q := ik.k (k := kS k) (v := v) h hl
  rw [e] at q
  exact q
theorem mL {ns : List Int}(h : ns.length≤63) : j_ (ns.map V.int) none (some 63)=ns.map V.int := by
  unfold j_
  have e : HT.sIx (ns.map V.int).length (ns.map V.int).length (some 63)=(ns.map V.int).length := by
    have := HT.eM (ns.map V.int).length (ns.map V.int).length 63
    rw [show ((63 : Nat) : Int)=63 from rfl] at this
    rw [this, List.length_map]
    omega
  rw [e, HT.dz, List.drop_zero, Nat.sub_zero, List.take_length]
theorem bp : sizeLine=16777216 := sizeLine_eq
inductive k_ (vs : List V)(H : Hp)(Q : VK)(u3_ : XK) : Prop
  | mk : ∀ w, (vs=[tx w]) → (w.length≤5000) → (∀ H', ax H H' → Q (tx (bk w)) H') → k_ vs H Q u3_
theorem ft (u v : List L) : V.str (toS u++toS v)=tx (u++v) := congrArg V.str (fE u v)
def sg (m : Int) : List L := ([0, 1, 2, 3, 4, 5] : List L).take m.toNat++([6, 7, 8, 9, 10, 11] : List L).take m.toNat
theorem fv {m : Int}(h1 : 1≤m) : V.str (Txt.slice ("abcdef" : Str) none (some m)++Txt.slice ("ABCDEF" : Str) none (some m))=tx (sg m) := by
  rw [← kW, ← big, aY, aY, gF _ (by omega), gF _ (by omega), ft]
  rfl
theorem gN {u : List L}{i : Nat}{x : L}(h : u[i]? = some x) : u.take (i+1)=u.take i++[x] := by
  obtain ⟨hl, e⟩ := List.getElem?_eq_some_iff.mp h
  rw [List.take_add_one, h]
  rfl
theorem fJ {c : Bool}{A B : Prop}(hc : c=true)(h : A) : if c=true then A else B := by rw [if_pos hc]; exact h
theorem fK {c : Bool}{A B : Prop}(hc : c=false)(h : B) : if c=true then A else B := by rw [hc]; exact kN h
end Kx
set_option linter.all false
namespace Wd
end Wd
set_option linter.all false
namespace Wd
def J (u v : List L) : Prop := ∀ x y, u.getLast? = some x → v.head? = some y → y≠inv x
end Wd
set_option Elab.async false
set_option linter.all false
set_option maxRecDepth 100000
namespace L2
open PySem PySem.Spec PyProof.Rows Wd
def rnd (w : List L)(t : Nat) : Nat := ((w.map cp)[t % w.length]?).getD 0
def rotN (w : List L)(p : Nat) : List Nat := (List.range w.length).map fun t => rnd w (p+t)
end L2
set_option linter.all false
namespace Wd
end Wd
namespace L2
open PySem PySem.Spec PyProof.Rows Wd
end L2
set_option Elab.async false
set_option linter.all false
set_option maxRecDepth 100000
namespace L2
open PySem PySem.Spec PyProof.Rows Wd
section
variable {X : Cx} {tg : Expr}
end
section
variable {X : Cx} {o e : Expr} {es : List Expr} {to : TE} {t : TA} {name : Str} {apos cpos : Pos} {T id : String} {r : V → List V → Hp → VK → Prop} {K : PySem.W.Frag}
end
end L2
set_option Elab.async false
set_option linter.all false
set_option maxRecDepth 100000
namespace L2
open PySem PySem.Spec PyProof.Rows Wd
section
variable {X : Cx}
def n8 (z : Str) : List V := z.cps.toList.map fun c => .str ⟨#[c]⟩
end
end L2
set_option Elab.async false
set_option linter.all false
set_option maxRecDepth 100000
namespace PySem
open Sem (wp)
section
variable {prog : Program} {w : World} {A : Around} {E : Value → Shared → Prop} {s : Shared} {z TI TO i1 i2 : Addr} {x y : Str} {t u : Tok} {k c d : Nat} {a b : Value}
end
end PySem
set_option Elab.async false
set_option linter.all false
set_option maxRecDepth 100000
namespace PySem
end PySem
namespace L2
open PySem PySem.Spec PyProof.Rows
theorem Inv.stepT {X : Cx}{pins : List (Addr × Obj)}{σ : St}{H : Hp}{s : Shared}{h' : Heap}{t' : Nat}{ch : List Addr}{T : Addr}{xs : List V}{its : List Value}(I : Inv X pins σ H s)(hf : ∀ b∈ch, fe X pins H b)
    (k : ∀ b o, b∉ch → s.heap.get? b=some o → h'.get? b=some o) (hT : s.heap.objs.size≤T) (hz : xs.length≤sizeLine) (rv : aL xs its) (ht : IsTup h' T its.toArray) (hnd : NoD h' T) (there : ∀ b∈ch, ∃ o, s.heap.get? b=some o) : Inv X pins σ (upd H T (.tup xs)) { s with heap := h', toks := t' } := by
  have hn : H T=none := I.hok.fresh hT
  have ne : ∀ {b o}, s.heap.get? b=some o → b≠T := fun e => Nat.ne_of_lt (Nat.lt_of_lt_of_le (Heap.lt_size e) hT)
  have nch : ∀ {b u}, H b=some u → b∉ch := fun e z => by rw [(hf _ z).1] at e;cases e
  refine I.step (g' := s.gens) (d' := s.drawn) (ch := ch) (fun b hb => ?_) (fun b o _ _ hc e _ => k b o hc e) (fun b o _ _ hc e _ => ⟨o.slots, k b o hc e⟩) (fun b o _ e n => by rw [aj (ne e)];exact n) (fun b o hc e => ⟨o, k b o hc e⟩)
    (fun b ys e => by rw [aj (af e hn)];exact e) (fun b o u e => by rw [aj (af e hn)];exact e) (fun b ps e => ⟨#[], by rw [aj (af e hn), e];simp⟩) (fun m hm => ?_) (fun b u e => ?_) I.bare
  · obtain ⟨_, f1, _, f3, f4, f5⟩ := hf b hb
    exact ⟨f3, f1, f4, f5⟩
  · obtain ⟨o, es, ep, ho, r⟩ := hm
    exact ⟨o, es, ep, k _ o (fun z => (hf _ z).2.1 rfl) ho, r⟩
  · by_cases hb : b=T
    · subst hb
      rw [ab] at e
      cases e
      exact ⟨hz, its, rv, ht, hnd⟩
    · rw [aj hb] at e
      refine (I.hok b u e).stay (fun c v hc q => k c v ?_ q) (fun c q => by rw [aj (af q hn)];exact q) fun c ys q => by rw [aj (af q hn)];exact q
      rcases hc with z | z
      · rw [z];exact nch e
      · exact nch z
section
variable {X : Cx}
end
end L2
set_option Elab.async false
set_option linter.all false
set_option maxRecDepth 100000
set_option maxHeartbeats 0
namespace L2
open PySem PySem.Spec PyProof.Rows Wd
def mM : List Str := ([0, 1, 2, 3, 4, 5, 6, 7, 8, 9, 10, 11] : List L).map fun x => toS [x]
end L2
namespace Kx
open PySem PySem.Spec PyProof.Rows L2 Wd
end Kx
set_option Elab.async false
set_option linter.all false
set_option maxRecDepth 100000
set_option maxHeartbeats 0
namespace L2
open PySem PySem.Spec PyProof.Rows Wd
section
variable {X : Cx}
end
end L2
namespace Kx
open PySem PySem.Spec PyProof.Rows L2 Wd
end Kx
namespace L2
open PySem PySem.Spec PyProof.Rows Wd
theorem b0 {K : PySem.W.Frag}{a : Addr}{xs : List V}{own : List Str}{cap : List Nat}{g : TG}{ti : TT}{te : TE}{σ : St}{H : Hp}{Q : VK}(Pv : Nat → List V → St → Hp → Prop)(h0 : Pv 0 [] (stB own cap σ) H)(hz : ∀ i ys σ H, i≤xs.length → Pv i ys σ H → ys.length≤i)(hn : xs.length≤sizeLine)
    (hl : ∀ i ys σ H, Pv i ys σ H → SqL K H a xs)
    (hs : ∀ i ys σ H x (N : List V → St → Hp → Prop), xs[i]? = some x → Pv i ys σ H → (∀ ys' σ' H'', Pv (i+1) ys' σ' H'' → N ys' σ' H'') → g x σ H fun σ2 H2 => ti σ2 H2 fun b H3 => if b=true then te σ2 H3 fun y H4 => N (ys++[y]) σ2 H4 else N ys σ2 H3)
    (hd : ∀ ys σ H D, Pv xs.length ys σ H → H D=none → Q (.ref D) (upd H D (.lst ys))) :
    iI own cap g ti te Q σ (Itl K a) H := by
  refine bf (J := Itl K a) xs.length Pv h0 hz hn (fun i ys σ H hi p => ⟨xs, xs[i], hl i ys σ H p, List.getElem?_eq_getElem hi⟩) (fun ys σ H p => ⟨xs, hl _ ys σ H p, Nat.le_refl _⟩) ?_ hd
  rintro i ys σ H x H' N hi p ⟨rfl, hx⟩ hN
  exact hs i ys σ _ x N (hx xs (hl i ys σ _ p)) p hN
theorem mN {X : Cx}{a : Expr}{ta : TE}(ha : PE X a ta)(he : ∀ whole, isTrue a X.env whole=(do let v ← whole; standAt a.pos; holding [v] (truthy v))) : PT X a (kx ta) := by
  intro pins s σ H Q I h
  refine isTrue_plain (thn (ha pins s σ H _ I h) fun v s1 ⟨x, H1, I1, r1, q1⟩ => kz pins s1 σ H1 x v Q I1 r1 ?_) (he _)
  obtain ⟨k, e, q⟩ := q1
  subst e
  exact ⟨k, rfl, q⟩
theorem iO {c : TT}{tb : TS}{D : dP}{σ : St}{H : Hp}(W : Nat → St → Hp → Prop)(E : St → Hp → Prop)(h0 : ∃ m, W m σ H)
    (turn : ∀ nx : St → Hp → Prop, (∀ σ H, E σ H → nx σ H) → ∀ m σ H, W m σ H → c σ H fun b H1 => if b=true then ∃ N : St → Hp → Prop, (∀ σ' H', N σ' H' → ∃ m', m' < m ∧ W m' σ' H') ∧ tb { D with nx := N, ct := N, bk := nx } σ H1 else nx σ H1)
    (he : ∀ σ H, E σ H → D.nx σ H) : i4 c tb D σ H := ⟨W, h0, turn D.nx he⟩
end L2
set_option Elab.async false
set_option linter.all false
set_option maxRecDepth 100000
namespace L2
open PySem PySem.Spec PyProof.Rows
theorem eR {X : Cx}{i : Nat}{y : Str}{py spos : Pos}{elt iter tg : Expr}{ifs : List Expr}{scope : Scope}{pos : Pos}{NB own : List Str}{cap : List Nat}{wi : TI}{g : TG}{ti : TT}{te : TE}(hN : X.N.Nodup)(hi0 : X.N[i]? = some y)(hx : Loc X.env.scope y)(B : Blk X scope NB own cap)(hc : X.calm=true)(hi : PI X tg iter wi)
    (hg : ∀ C fp s₀ H₀, PG (cxB X NB own scope C fp s₀ H₀) tg g) (ht : ∀ C fp s₀ H₀, PIf (cxB X NB own scope C fp s₀ H₀) ifs ti) (he : ∀ C fp s₀ H₀, PE (cxB X NB own scope C fp s₀ H₀) elt te)
    (hs : ∀ x, foldedSetIterable iter X.env x=pure x := by intro _;rfl) (hsw : swapsWith (.ListComp elt [⟨tg, iter, ifs, 0⟩] scope pos) (some (.Name y py)) spos.line X.env=pure true := by rfl) (hf : X.fn y=true ∨ X.env.scope.names.lookup y=some .local := by first | exact .inl rfl | exact .inr rfl | assumption) : PS X (.Assign [.Name y py] (.ListComp elt [⟨tg, iter, ifs, 0⟩] scope pos) spos) (m_ (kQ own cap wi g ti te) (iy i)) := by
  intro pins s σ H DD I0 h
  rw [exec_Assign_Name_used _ _ _ _ hsw]
  refine wpAny_bind (wpAny_standAt (wpAny_bind ?_))
  show wpAny _ X.A (do let _ ← comprehension (.ListComp elt [⟨tg, iter, ifs, 0⟩] scope pos) scope X.env _ (newList []) false (eval iter X.env) (some (assign (.Name y py) X.env))) _ _ s
  have hclos := bY (env := X.env) (scope := scope) fun y hy e => I0.ok.has y.1 (.inl (B.free y hy e))
  refine wpAny_bind (wpAny_mono (wpAny_comprehension_free (use := some (assign (.Name y py) X.env)) (Q := fun _ s' => SP X pins DD .next s') rfl hs hclos B.kind B.names (thn (hi pins s σ H _ I0 h) fun v s1 h1 => thn h1 fun itv s2 h2 => ?_)) (fun _ s' hq => wpAny_pure (wpAny_pure hq)) fun _ _ e => e)
  obtain ⟨it, fp, tn, J, H2, rfl, I, T, st2, f2, W, ⟨m0, w0⟩, turn⟩ := h2
  refine wpAny_newList ?_
  refine wpAny_newFunctionEnv B.nocell (by intro y hy;simp at hy) (fun h₁ hns₁ hsb₁ => ?_) B.kind
  dsimp only at hns₁ hsb₁ ⊢
  generalize hP : s2.heap.push { cls := .type "list", dict := none, data := .seq ([] : List Value).toArray }=P at hns₁ hsb₁ ⊢
  have hC : P.objs.size=s2.heap.objs.size+1 := by rw [← hP, Heap.size_push]
  have hDC : s2.heap.objs.size≠P.objs.size := by rw [hC];exact Nat.ne_of_lt (Nat.lt_succ_self _)
  have hCle : s2.heap.objs.size≤P.objs.size := by rw [hC];exact Nat.le_succ _
  have old : ∀ b o, s2.heap.get? b=some o → h₁.get? b=some o := fun b o e => by
    refine (hsb₁.2 b ?_).trans (Heap.get?_push_of_some _ (hP ▸ Heap.get?_push_of_some _ e))
    exact Nat.ne_of_lt (Nat.lt_of_lt_of_le (Heap.lt_size e) hCle)
  have hD : h₁.get? s2.heap.objs.size=some { cls := .type "list", data := .seq ([] : List Value).toArray 0 } := by
    refine (hsb₁.2 _ hDC).trans (Heap.get?_push_of_some _ ?_)
    rw [← hP]
    exact Heap.get?_push_size _ rfl
  have hfs : ∀ b∈fp, ∃ o, s2.heap.get? b=some o := fun b hb => let ⟨o, e, _⟩ := T.obj _ _ st2 b hb;⟨o, e⟩
  have st4 : tn 0 h₁ := T.keep _ _ _ st2 fun b _ o e => old b o e
  generalize htk : s2.toks+([] : List (Str × Value)).length=tk4
  have I4 := B.start (C := P.objs.size) (tk := tk4) I f2 hfs hCle old hns₁
  have fOk : ∀ {H' : Hp} {b : Addr} {ob : Obj}, b∈fp → H' b=none → fe (cxB X NB own scope P.objs.size fp s2 H2) [(s2.heap.objs.size, ob)] H' b := fun {H' b ob} hb hn => by
    obtain ⟨o, e⟩ := hfs b hb
    refine ⟨hn, (I4.ok.exf b hb).1, I4.ok.exfs b hb, .inl hb, (I4.ok.exf b hb).2, fun p hp => ?_⟩
    have ep : p=(s2.heap.objs.size, ob) := List.mem_singleton.mp (show p∈[(s2.heap.objs.size, ob)] from hp)
    rw [ep]
    exact fun z => absurd (Heap.lt_size e) (by rw [← z];exact Nat.lt_irrefl _)
  have dnf : s2.heap.objs.size∉frs X.stack := fun z => by
    rcases List.mem_cons.mp (I.stkSub _ z) with z | z
    · exact absurd I.lt (by rw [← z];exact Nat.lt_irrefl _)
    · exact I.nofs (Nat.le_refl _) z
  have I3D : ∀ {σ3 : St} {H3 : Hp} {s3 : Shared} {its : List Value} {k : Nat}, Inv (cxB X NB own scope P.objs.size fp s2 H2) [] σ3 H3 s3 → s3.heap.get? s2.heap.objs.size=some { cls := .type "list", data := .seq its.toArray k } → H3 s2.heap.objs.size=none →
      Inv (cxB X NB own scope P.objs.size fp s2 H2) [(s2.heap.objs.size, { cls := .type "list", data := .seq its.toArray k })] σ3 H3 s3 := fun I3 e n => I3.pins_of fun p hp => by
    have ep := List.mem_singleton.mp hp
    subst ep
    exact ⟨e, n, hDC, dnf, fun v z => by cases z⟩
  have ndf : s2.heap.objs.size∉fp := fun z => by
    obtain ⟨o, e⟩ := hfs _ z
    exact absurd (Heap.lt_size e) (Nat.lt_irrefl _)
  have nCD : ∀ x c, (cxB X NB own scope P.objs.size fp s2 H2).env.cells.lookup x=some c → c≠s2.heap.objs.size := fun x c e z => by
    obtain ⟨v, o, ho, _⟩ := I.cell x c (B.cells I.ok e).1
    rw [z] at ho
    exact absurd (Heap.lt_size ho) (Nat.lt_irrefl _)
  have loop : ∀ s₃ : Shared, s₃ = { s2 with heap := h₁, toks := tk4 } → codeAny (model X.prog X.w) X.A (.compLoop (.ListComp elt [⟨tg, iter, ifs, 0⟩] scope pos) 0 (.ref it) (.ref s2.heap.objs.size) (cxB X NB own scope P.objs.size fp s2 H2).env)
      (compPost (model X.prog X.w) X.A X.xe (some (assign (.Name y py) X.env)) (fun _ s' => SP X pins DD .next s') (.ref s2.heap.objs.size) P.objs.size) s₃ := by
    rintro s₃ rfl
    refine d8 (fun n s' => ∃ i σB H' ys its k, Inv (cxB X NB own scope P.objs.size fp s2 H2) [] σB H' s' ∧ tn i s'.heap ∧ (∀ b∈fp, H' b=none) ∧ s'.heap.get? s2.heap.objs.size=some { cls := .type "list", data := .seq (its : List Value).toArray k } ∧ aL ys its ∧ H' s2.heap.objs.size=none ∧ W i n ys σB H') ?_ m0
      ⟨0, stB own cap σ, H2, [], [], 0, I4, st4, fun b hb => (f2 b hb).1, hD, .nil, I.hok.fresh (Nat.le_refl _), w0⟩
    rintro n s3 ⟨i, σ3, H3, ys, its, k, I3, st3, fr3, hD3, rv, hn3, w3⟩
    rcases turn i n ys σ3 H3 w3 with ⟨stop, hz, q⟩ | ⟨go, hz, step⟩
    · refine thn (T.done (cxB X NB own scope P.objs.size fp s2 H2) rfl rfl rfl hc i _ s3 σ3 H3 noE (I3D I3 hD3 hn3) (fun b hb => fOk hb (fr3 b hb)) st3 stop) fun r s4 zq1 => ?_
      obtain ⟨hr, I4'⟩ := zq1
      subst hr
      have hD4 : s4.heap.get? s2.heap.objs.size=some { cls := .type "list", data := .seq (its : List Value).toArray k } := (I4'.pin (s2.heap.objs.size, _) (List.mem_append_right _ (List.mem_singleton.mpr rfl))).1
      have I5 : Inv (cxB X NB own scope P.objs.size fp s2 H2) [] σ3 H3 s4 := I4'.pins_of fun p hp => absurd (show p∈([] : List (Addr × Obj)) from hp) (by simp)
      obtain ⟨mC, hnC, _⟩ := I5.loc
      have I6 : Inv X pins σ (upd H3 s2.heap.objs.size (.lst ys)) s4 := B.done (h'' := s4.heap) I f2 hCle (Nat.le_refl _) hDC I5 hn3 hD4 rv hz ⟨rfl, fun _ _ => rfl⟩
      obtain ⟨oC, es, ep, hoC, hdC, rC⟩ := hnC
      have hCn : (upd H3 s2.heap.objs.size (.lst ys)) P.objs.size=none := by rw [aj hDC.symm];exact I5.free
      have nL : P.objs.size≠X.env.locals := fun z => absurd I.lt (by rw [← z];exact Nat.not_lt.mpr hCle)
      have I7 : Inv X (pins++[(P.objs.size, oC)]) σ (upd H3 s2.heap.objs.size (.lst ys)) s4 := I6.pins_of fun p hp => by
        rcases List.mem_append.mp hp with z | z
        · exact I6.pin p (List.mem_append_right _ z)
        · have ep := List.mem_singleton.mp z
          subst ep
          exact ⟨hoC, hCn, nL, I.nofs hCle, fun v z => by rw [hdC] at z;cases z⟩
      refine thn (ar (pos := py) hN hi0 hx hf (pins++[(P.objs.size, oC)]) s4 σ _ (.ref s2.heap.objs.size) (.ref s2.heap.objs.size) (fun σ' H' => DD.nx σ' H' ∧ H'=upd H3 s2.heap.objs.size (.lst ys)) I7 rfl ⟨q _ hn3, rfl⟩) fun _ s5 zq2 => ?_
      obtain ⟨σ5, H5, I8, q5, e5⟩ := zq2
      subst e5
      have pC := (I8.pin (P.objs.size, oC) (List.mem_append_right _ (List.mem_append_right _ (List.mem_singleton.mpr rfl)))).1
      refine ⟨mC, ⟨oC, es, ep, pC, hdC, rC⟩, fun h'' sb => ⟨σ5, _, ?_, q5⟩⟩
      have I9 : Inv X pins σ5 (upd H3 s2.heap.objs.size (.lst ys)) s5 := I8.pins_of fun p hp => I8.pin p (List.mem_append_right _ (List.mem_append_left _ hp))
      refine I9.turned (t' := s5.toks) (it := P.objs.size) (fun b o hb e => (sb.2 b hb).trans e) hCn nL (.inr (Nat.le_trans I.sz hCle)) (fun x c e z => ?_) fun p hp z => ?_
      · obtain ⟨v, o, ho, _⟩ := I.cell x c e
        exact absurd (Heap.lt_size ho) (by rw [z];exact Nat.not_lt.mpr hCle)
      · exact absurd (Heap.lt_size (I.pin p hp).1) (by rw [z];exact Nat.not_lt.mpr hCle)
    · refine thn (T.item (cxB X NB own scope P.objs.size fp s2 H2) rfl rfl rfl hc i _ s3 σ3 H3 noE (I3D I3 hD3 hn3) (fun b hb => fOk hb (fr3 b hb)) st3 go) fun r s4 zq3 => ?_
      obtain ⟨u, hr, h4⟩ := zq3
      subst hr
      refine thn h4 fun _ s5 zq4 => ?_
      obtain ⟨x, H5, I5, r5, y5, st5, fr5⟩ := zq4
      have I5' := I5.pinned (fun b hb => fOk hb (fr5 b hb)) (T.obj _ _ st5)
      refine thn (hg _ fp s2 H2 _ s5 σ3 H5 x u _ I5' r5 (step x H5 y5)) fun _ s6 zq5 => ?_
      obtain ⟨σ6, H6, I6, q6⟩ := zq5
      refine thn (ht _ fp s2 H2 _ s6 σ6 H6 _ I6 q6) fun b s7 zq6 => ?_
      obtain ⟨H7, I7, q7⟩ := zq6
      have pinned : ∀ {σ8 : St} {H8 : Hp} {s8 : Shared}, Inv (cxB X NB own scope P.objs.size fp s2 H2) ([(s2.heap.objs.size, { cls := .type "list", data := .seq (its : List Value).toArray k })]++cX fp s5.heap) σ8 H8 s8 →
          tn (i+1) s8.heap ∧ (∀ b∈fp, H8 b=none) ∧ s8.heap.get? s2.heap.objs.size=some { cls := .type "list", data := .seq (its : List Value).toArray k } ∧ H8 s2.heap.objs.size=none := fun {σ8 H8 s8} I8 => by
        refine ⟨T.keep _ _ _ st5 fun b hb o e => (I8.pin (b, o) (List.mem_append_right _ (List.mem_append_right _ (aU hb e)))).1, fun b hb => ?_, ?_, ?_⟩
        · obtain ⟨o, e, d⟩ := T.obj _ _ st5 b hb
          exact (I8.pin (b, o) (List.mem_append_right _ (List.mem_append_right _ (aU hb e)))).2.1
        · exact (I8.pin (s2.heap.objs.size, _) (List.mem_append_right _ (List.mem_append_left _ (List.mem_singleton.mpr rfl)))).1
        · exact (I8.pin (s2.heap.objs.size, _) (List.mem_append_right _ (List.mem_append_left _ (List.mem_singleton.mpr rfl)))).2.1
      have nopin : ∀ {pp : List (Addr × Obj)} {σ8 : St} {H8 : Hp} {s8 : Shared}, Inv (cxB X NB own scope P.objs.size fp s2 H2) pp σ8 H8 s8 → Inv (cxB X NB own scope P.objs.size fp s2 H2) [] σ8 H8 s8 := fun I8 => I8.pins_of fun p hp => absurd (show p∈([] : List (Addr × Obj)) from hp) (by simp)
      cases b with
      | false =>
        rw [if_neg Bool.false_ne_true] at q7 ⊢
        obtain ⟨m', hm, w7⟩ := q7
        obtain ⟨p1, p2, p3, p4⟩ := pinned I7
        exact ⟨m', hm, i+1, σ6, H7, ys, its, k, nopin I7, p1, p2, p3, rv, p4, w7⟩
      | true =>
        rw [if_pos rfl] at q7 ⊢
        refine thn (he _ fp s2 H2 _ s7 σ6 H7 _ I7 q7) fun yv s8 zq7 => ?_
        obtain ⟨y, H8, I8, r8, m', hm, w8⟩ := zq7
        obtain ⟨p1, p2, p3, p4⟩ := pinned I8
        refine call_meets F.slot_list_append ⟨_, p3, rfl⟩ F.entry_list_append (F.args_list_append_2 _ _) (PySem.list_append s2.heap.objs.size its.toArray k yv (by rw [List.size_toArray, ← rv.length];omega)) ⟨p3, ?_⟩
        have q := PySem.IsL.update p3 fun a => a.push yv
        have ea : its.toArray.push yv=(its++[yv]).toArray := by simp
        rw [ea] at q
        have I9 : Inv (cxB X NB own scope P.objs.size fp s2 H2) [] σ6 H8 { s8 with heap := s8.heap.update s2.heap.objs.size (Obj.mapSeq fun a => a.push yv), toks := s8.toks } :=
          (nopin I8).turned (it := s2.heap.objs.size) (fun b o hb e => (Heap.get?_update_other s8.heap _ (Ne.symm hb)).trans e) p4 hDC (.inr (Nat.le_refl _)) (fun x c e => nCD x c e) fun p hp => absurd (show p∈([] : List (Addr × Obj)) from hp) (by simp)
        refine ⟨m', hm, i+1, σ6, H8, ys++[y], its++[yv], _, I9, ?_, p2, q, rv.append (.cons r8 .nil), p4, w8⟩
        refine T.keep _ _ _ p1 fun b hb o e => (Heap.get?_update_other s8.heap _ ?_).trans e
        intro z
        rw [z] at ndf
        exact ndf hb
  exact codeAny_compStart_list (loop _ rfl) (T.self X.A 0 _ _ _ st4 (loop _ rfl))
end L2
namespace L2
open PySem PySem.Spec PyProof.Rows Wd
end L2
set_option Elab.async false
set_option linter.all false
set_option maxRecDepth 100000
namespace L2
open PySem PySem.Spec PyProof.Rows Wd
section
variable {X : Cx}
end
end L2
set_option Elab.async false
set_option linter.all false
set_option maxRecDepth 100000
namespace L2
open PySem PySem.Spec PyProof.Rows
section
variable {X : Cx}
end
end L2
set_option Elab.async false
set_option linter.all false
set_option maxRecDepth 100000
namespace L2
open PySem PySem.Spec PyProof.Rows
section
variable {prog : Program} {w : World} {A : Around} {E : Value → Shared → Prop} {s : Shared}
end
section
variable {X : Cx}
end
end L2
set_option Elab.async false
set_option linter.all false
set_option maxRecDepth 100000
namespace PySem
open Sem (wp)
open AutoSeq1 (wpAny_loadPart')
section
variable {prog : Program} {w : World} {A : Around} {E : Value → Shared → Prop} {s : Shared}
end
end PySem
namespace L2
open PySem PySem.Spec PyProof.Rows Wd
def ka (K : PySem.W.Frag)(a : Addr) : It := ⟨fun i H => ∃ xs x, SqL K H a xs ∧ xs[i]? = some x,
  fun i H v H' => ∃ (T : Addr) (x : V), H T=none ∧ v = .ref T ∧ (∀ xs, SqL K H a xs → xs[i]? = some x) ∧ H'=upd H T (.tup [.int i, x]), fun i H => ∃ xs, SqL K H a xs ∧ xs.length≤i⟩
theorem gO {X : Cx}{pins : List (Addr × Obj)}{σ : St}{H : Hp}{s : Shared}{E : Value → Shared → Prop}{elts : List Expr}{k : Nat}{pos : Pos}{e it : Addr}{fp : List Addr}{n i : Nat}{Pv : Nat → Value → Prop}{St' : Nat → Heap → Prop}{old : Value}{tn : Nat → Heap → Prop}{Y : V → Hp → Prop}{x : V}
    (D : Draws X.prog X.w X.A.in1 it fp n Pv St') (I : Inv X pins σ H s) (hf : ∀ b∈[e, it], fe X pins H b) (he : IsEnum s.heap e it i old) (hst : St' i s.heap) (hi : i < n) (hne : e≠it) (hef : e∉fp) (hrel : ∀ u, Pv i u → aO x u) (hit : ∃ o, s.heap.get? it=some o)
    (hY : ∀ T, H T=none → Y (.ref T) (upd H T (.tup [.int i, x]))) (htn : ∀ h', St' (i+1) h' → (∃ old, IsEnum h' e it ((i : Int)+1) old) → tn (i+1) h') :
    wpAny (model X.prog X.w) X.A (pyNext (.ref e)) (fun r s1 => ∃ u, r=some u ∧
      wpAny (model X.prog X.w) X.A (letOwnedTupleGo (.Tuple elts k pos) (.ref e) u) (fun _ s2 => ∃ y H', Inv X pins σ H' s2 ∧ aO y u ∧ Y y H' ∧ tn (i+1) s2.heap ∧ ∀ b∈[e, it], H' b=none) E s1) E s := by
  refine wpAny_pyNext_enum_itemD D he hst hi hne hef fun u h' tk hu b1 b2 b3 b4 b5 => ⟨_, rfl, wpAny_letOwnedTupleGo_enum b1 fun h2 c1 e2 => ?_⟩
  have hTe : s.heap.objs.size≠e := Nat.ne_of_gt (Heap.lt_size he)
  have kk : ∀ b o, b∉[e, it] → s.heap.get? b=some o → h2.get? b=some o := fun b o hb q => by
    simp only [List.mem_cons, List.not_mem_nil, or_false, not_or] at hb
    exact e2.extBut _ _ hb.1 (b5 b o hb.1 hb.2 q)
  have there : ∀ b∈[e, it], ∃ o, s.heap.get? b=some o := fun b hb => by
    simp only [List.mem_cons, List.not_mem_nil, or_false] at hb
    rcases hb with rfl | rfl
    · exact ⟨_, he⟩
    · exact hit
  have I2 : Inv X pins σ (upd H s.heap.objs.size (.tup [.int i, x])) { s with heap := h2, toks := tk+1 } :=
    I.stepT (ch := [e, it]) (its := [.int i tk, u]) hf kk (Nat.le_refl _) (by show 2≤sizeLine;decide) (.cons ⟨_, rfl⟩ (.cons (hrel u hu) .nil)) ⟨_, e2.extBut _ _ hTe b3, rfl, _, rfl⟩ ⟨_, e2.extBut _ _ hTe b3, rfl⟩ there
  have hn : H s.heap.objs.size=none := I.hok.fresh (Nat.le_refl _)
  refine ⟨.ref s.heap.objs.size, _, I2, rfl, hY _ hn, htn h2 (D.frame _ _ _ b2 fun b hb o q => e2.extBut _ _ (fun z => hef (z ▸ hb)) q) ⟨_, c1⟩, fun b hb => ?_⟩
  obtain ⟨o, q⟩ := there b hb
  rw [aj (Nat.ne_of_lt (Heap.lt_size q))]
  exact (hf b hb).1
theorem iP {P : Program}{w : World}{K : PySem.W.Frag}{elts : List Expr}{k : Nat}{pos : Pos}{e it a : Addr}(hne : e≠it) :
    j9 P w K (.Tuple elts k pos) (ka K a) [e, it] e (fun i h => (∃ old, IsEnum h e it i old) ∧ h.IsListIter it a i) where
  mem := by simp
  obj := fun i h st b hb => by
    obtain ⟨⟨old, s1⟩, ⟨o, s2, _, d2⟩⟩ := st
    simp only [List.mem_cons, List.not_mem_nil, or_false] at hb
    rcases hb with rfl | rfl
    · exact ⟨_, s1, fun v q => by cases q⟩
    · exact ⟨_, s2, fun v q => by rw [d2] at q;cases q⟩
  keep := fun i h h' st kk => by
    obtain ⟨⟨old, s1⟩, s2⟩ := st
    exact ⟨⟨old, kk e (by simp) _ s1⟩, s2.at fun o q => kk it (by simp) o q⟩
  item := by
    intro X hP hw hK hc i pins s σ H E I hf st hg
    subst hP hw hK
    obtain ⟨xs, x, hq, hx⟩ := hg
    obtain ⟨its, rv, p, hz⟩ := I.list hq
    obtain ⟨u, hu, ru⟩ := rv.get hx
    obtain ⟨⟨old, s1⟩, s2⟩ := st
    have hu' : its.toArray[i]? = some u := by simpa using hu
    have ha : a≠e := fun z => by obtain ⟨o, q, c, _⟩ := p.isList;rw [z, s1] at q;cases q;simp at c
    have hb : a≠it := fun z => by obtain ⟨o, q, c, _⟩ := p.isList;obtain ⟨o2, q2, c2, _⟩ := s2;rw [z, q2] at q;cases q;rw [c2] at c;simp at c
    refine gO (tn := fun i h => (∃ old, IsEnum h e it i old) ∧ h.IsListIter it a i) (Draws.list (by exact I.ok.hd hc) it a hb its.toArray) I hf s1 ⟨s2, p.isList⟩ (Array.getElem?_eq_some_iff.mp hu').1 hne (by simp only [List.mem_cons, List.not_mem_nil, or_false, not_or];exact ⟨hne, fun z => ha z.symm⟩)
      (fun u2 h2 => by rw [show its.toArray[i]? = some u2 from h2] at hu';cases hu';exact ru) (let ⟨o, q, _⟩ := s2;⟨o, q⟩) (fun T hT => ⟨T, x, hT, rfl, fun ys hy => by rw [I.list_inj hy hq];exact hx, rfl⟩) fun h' st' ho => ⟨by simpa using ho, st'.1⟩
  done := by
    intro X hP hw hK hc i pins s σ H E I hf st hg
    subst hP hw hK
    obtain ⟨xs, hq, hx⟩ := hg
    obtain ⟨its, rv, p, hz⟩ := I.list hq
    obtain ⟨⟨old, s1⟩, s2⟩ := st
    obtain ⟨f0, f1, f2, f3, f4, f5⟩ := hf it (by simp)
    have hl := rv.length
    exact wpAny_pyNext_enum_end (I.ok.hd hc) s1 s2 p.isList (by simp;omega) fun h' eb => ⟨rfl, I.turned (t' := s.toks) (fun b o hb q => eb b o hb q) f0 f1 f3 f4 f5⟩
  self := fun _ _ _ _ _ st h => let ⟨⟨_, s1⟩, _⟩ := st;wpAny_pyIter_enum s1 h
section
variable {X : Cx}
def n9 (K : PySem.W.Frag)(ta : TA) : TI := fun σ H R => ta σ H fun vs H1 => ∃ a, vs=[.ref a] ∧ (∃ xs, SqL K H1 a xs) ∧ R (ka K a) H1
theorem fp2 {pins : List (Addr × Obj)}{σ : St}{H : Hp}{s : Shared}(I : Inv X pins σ H s) : ∀ b∈[s.heap.objs.size+1, s.heap.objs.size], fe X pins H b := fun b hb => by
  have hge : s.heap.objs.size≤b := by
    simp only [List.mem_cons, List.not_mem_nil, or_false] at hb
    rcases hb with rfl | rfl <;> omega
  exact I.fpOk hge (I.hok.fresh hge)
theorem la {K : PySem.W.Frag}(hK : X.K=K){a : Expr}{ta : TA}{p pos tp : Pos}{elts : List Expr}{k : Nat}(hg : Gl X "enumerate")(hm : X.mg "enumerate" = none)(hb : bootBuiltins "enumerate" = some (.type "enumerate"))(ha : PA X [a] ta)(hs : starEach [a] X.env=[(false, eval a X.env)] := by rfl) :
    PI X (.Tuple elts k tp) (.Call (.Name "enumerate" p) [a] [] pos) (n9 K ta) := by
  subst hK
  intro pins s σ H R I h
  refine Call_ (dQ I hg hm hb (PyProof.Rows.callWith_type1 (thn (ha pos pins s σ H _ I h) fun us s1 zq1 => ?_) hs rfl))
  obtain ⟨vs, H1, I1, r1, q1⟩ := zq1
  obtain ⟨l, rfl, ⟨xs, hq⟩, q⟩ := q1
  obtain ⟨u1, rfl, ru⟩ := cE r1
  cases ru
  obtain ⟨its, rv, pl, hz⟩ := I1.list hq
  refine call_enumerate_list pl.isList fun h' b1 b2 b3 b4 => ?_
  have I2 : Inv X pins σ H1 { s1 with heap := h', toks := s1.toks } := I1.kept b4
  exact wpAny_pyIter_enum (s := { s1 with heap := h', toks := s1.toks }) b1 ⟨s1.heap.objs.size+1, [s1.heap.objs.size+1, s1.heap.objs.size], _, ka X.K l, H1, rfl, I2, iP (Nat.succ_ne_self _), ⟨⟨_, b1⟩, b2⟩, fp2 I1, q⟩
end
theorem jR {K : PySem.W.Frag}{a : Addr}{xs : List V}{g : TG}{tb : TS}{D : dP}{σ : St}{H : Hp}(Pv : Nat → St → Hp → Prop)(h0 : Pv 0 σ H)(hl : ∀ i σ H, i≤xs.length → Pv i σ H → SqL K H a xs)
    (hs : ∀ i x σ H T, xs[i]? = some x → Pv i σ H → H T=none → g (.ref T) σ (upd H T (.tup [.int i, x])) fun σ2 H2 => tb { D with nx := Pv (i+1), ct := Pv (i+1), bk := D.nx } σ2 H2) (hd : ∀ σ H, Pv xs.length σ H → D.nx σ H) :
    ∃ W : Nat → Nat → St → Hp → Prop, (∃ m, W 0 m σ H) ∧ ∀ i m σ H, W i m σ H →
      ((ka K a).stop i H ∧ D.nx σ H) ∨ ((ka K a).go i H ∧ ∃ N : St → Hp → Prop, (∀ σ' H', N σ' H' → ∃ m', m' < m ∧ W (i+1) m' σ' H') ∧ ∀ x H', (ka K a).yld i H x H' → g x σ H' fun σ2 H2 => tb { D with nx := N, ct := N, bk := D.nx } σ2 H2) := by
  refine ⟨fun i m σ H => m=xs.length - i ∧ i≤xs.length ∧ Pv i σ H, ⟨xs.length, by simp, Nat.zero_le _, h0⟩, ?_⟩
  rintro i m σ H ⟨rfl, hi, p⟩
  have q := hl i σ H hi p
  by_cases hlt : i < xs.length
  · refine .inr ⟨⟨xs, xs[i], q, by simp [hlt]⟩, Pv (i+1), fun σ' H' p' => ⟨xs.length - (i+1), by omega, rfl, hlt, p'⟩, ?_⟩
    rintro v H' ⟨T, x, hT, rfl, hx, rfl⟩
    exact hs i x σ _ T (hx xs q) p hT
  · obtain rfl : i=xs.length := by omega
    exact .inl ⟨⟨xs, q, Nat.le_refl _⟩, hd σ H p⟩
end L2
set_option Elab.async false
set_option linter.all false
set_option maxRecDepth 100000
namespace PySem
open Sem (wp)
section
variable {prog : Program} {w : World} {A : Around} {E : Value → Shared → Prop} {s : Shared} {z TI TO i1 i2 : Addr} {k n1 n2 : Nat} {a b : Value} {fp1 fp2 : List Addr} {P1 P2 : Nat → Value → Prop} {S1 S2 : Nat → Heap → Prop}
end
end PySem
set_option Elab.async false
set_option linter.all false
set_option maxRecDepth 100000
namespace PySem
end PySem
namespace L2
open PySem PySem.Spec PyProof.Rows Wd
section
variable {X : Cx}
end
end L2
set_option Elab.async false
set_option linter.all false
set_option maxRecDepth 100000
namespace L2
open PySem PySem.Spec PyProof.Rows Wd
section
variable {X : Cx}
end
end L2
set_option Elab.async false
set_option linter.all false
set_option maxRecDepth 100000
set_option maxHeartbeats 0
namespace Kx
open PySem PySem.Spec PyProof.Rows L2 Wd
end Kx
namespace L2
open PySem PySem.Spec PyProof.Rows Wd
section
variable {X : Cx} {tg : Expr}
end
end L2
namespace Kx
open PySem PySem.Spec PyProof.Rows L2 Wd
def dV : V → PyData
  | .int i => .int i
  | .str z => .str z
  | _ => .none
end Kx
set_option Elab.async false
set_option linter.all false
set_option maxRecDepth 100000
set_option maxHeartbeats 0
namespace Wd
end Wd
namespace Kx
open PySem PySem.Spec PyProof.Rows L2 Wd
structure Tp (H : Hp) (d c : Addr) : Prop where
  ex : ∃ (i l t : Int) (ns : List Int), H d=some (.lst [.ref c, .int i, .int l, .int t]) ∧ H c=some (.lst (ns.map V.int)) ∧ c≠d ∧ ns.length≤63
def gs (S : List Nat) : List V := S.map fun g : Nat => V.int (g : Int)
end Kx
set_option Elab.async false
set_option linter.all false
set_option maxRecDepth 100000
set_option maxHeartbeats 0
namespace Wd
def rfI (u : List L)(a b : L) : Int := ((u.idxOf b : Int) - (u.idxOf a : Int)) % (u.length : Int)
def ic (u : List L)(x z : L) : Int := if rfI u x z < rfI u x (inv x) then 1 else 0
def sd (u : List L)(x y : L) : Int := ic u x y - ic u x (inv y)
def lt6 (j : Nat) : L := if h : j < 12 then ⟨j, h⟩ else 0
end Wd
set_option Elab.async false
set_option linter.all false
set_option maxRecDepth 100000
set_option maxHeartbeats 0
namespace L2
open PySem PySem.Spec PyProof.Rows
section
variable {X : Cx}
end
end L2
namespace Kx
open PySem PySem.Spec PyProof.Rows L2 Wd
theorem ef : ∀ (r : List Str) (x : Str), risingS x r=true → (x::r).Pairwise fun a b => a.cps.toList≤b.cps.toList
  | [], x, _ => by simp
  | z::r, x, h => by
    have l := ck (z::r) x h
    unfold risingS at h
    rw [Bool.and_eq_true] at h
    exact List.Pairwise.cons (fun y hy => l.2 y (List.mem_cons_of_mem _ hy)) (ef r z h.2)
theorem gP {l : List Str}(h : sortedS l=true) : l.Pairwise fun a b => a.cps.toList≤b.cps.toList := by
  cases l with
  | nil => exact .nil
  | cons x r => exact ef r x h
def oA (k : Nat) : List L := (List.range k).map lt6++bk ((List.range k).map lt6)
end Kx
set_option Elab.async false
set_option linter.all false
set_option maxRecDepth 100000
namespace Wd
open PySem L2
def lcp : List L → List L → List L
  | x::u, y::v => if x=y then x::lcp u v else []
  | _, _ => []
def n_ (t o : List L) : Bool := decide (o≠t) && decide (t.length≤6*(lcp t o).length)
end Wd
set_option Elab.async false
set_option linter.all false
set_option maxRecDepth 100000
namespace HT
open PySem PySem.Spec PyProof.Rows
section
variable {prog : Program} {w : World} {A : Around} {E : Value → Shared → Prop} {s : Shared}
end
end HT
namespace L2
open PySem PySem.Spec PyProof.Rows Wd
end L2
set_option Elab.async false
set_option linter.all false
set_option maxRecDepth 100000
set_option maxHeartbeats 0
namespace Kx
open PySem PySem.Spec PyProof.Rows L2 Wd
theorem at0 {α : Type}(c : α)(t : List α) : atI (c::t) (0 : Int)=some c := by unfold atI ixN; simp
theorem nl : ¬ ("letter" : Str) = "number" := by decide +kernel
theorem tl : ¬ ("turn" : Str) = "letter" := by decide +kernel
end Kx
set_option Elab.async false
set_option linter.all false
set_option maxRecDepth 100000
set_option maxHeartbeats 0
namespace Kx
open PySem PySem.Spec PyProof.Rows L2 Wd
end Kx
set_option Elab.async false
set_option linter.all false
set_option maxRecDepth 100000
namespace Wd
open PySem L2
end Wd
namespace Kx
open PySem L2 Wd
end Kx
set_option Elab.async false
set_option linter.all false
set_option maxRecDepth 100000
namespace PySem
open Sem (wp)
section
variable {prog : Program} {w : World} {A : Around} {E : Value → Shared → Prop} {s : Shared}
section
variable {R : Result → Shared → Prop} {I : Addr} {fp wr : List Addr} {G : Array GenState → Array GenState → Prop} {n : Nat} {P : Nat → Value → Prop} {St : Nat → Shared → Prop}
end
end
end PySem
set_option Elab.async false
set_option linter.all false
set_option maxRecDepth 100000
namespace PySem
open Sem (wp)
section
variable {prog : Program} {w : World} {A : Around} {E : Value → Shared → Prop} {s : Shared}
end
end PySem
set_option Elab.async false
set_option linter.all false
set_option maxRecDepth 100000
namespace PySem
open Sem (wp)
section
variable {prog : Program} {w : World} {A : Around} {E : Value → Shared → Prop} {s : Shared}
section
variable {R : Result → Shared → Prop} {I : Addr} {fp wr : List Addr} {G : Array GenState → Array GenState → Prop} {n : Nat} {P : Nat → Value → Prop} {St : Nat → Shared → Prop}
end
end
end PySem
set_option Elab.async false
set_option linter.all false
set_option maxRecDepth 100000
namespace PySem
open Sem (wp)
section
variable {prog : Program} {w : World} {A : Around} {E : Value → Shared → Prop} {s : Shared}
end
end PySem
set_option Elab.async false
set_option linter.all false
set_option maxRecDepth 100000
namespace PySem
open Sem (wp)
section
variable {prog : Program} {w : World} {A : Around} {E : Value → Shared → Prop} {s : Shared}
end
end PySem
set_option Elab.async false
set_option linter.all false
set_option maxRecDepth 100000
namespace PySem
open Sem (wp)
section
variable {prog : Program} {w : World} {A : Around} {E : Value → Shared → Prop} {s : Shared}
end
end PySem
set_option Elab.async false
set_option linter.all false
set_option maxRecDepth 100000
namespace Ts
open PySem PyProof.Rows
section
variable {prog : Program} {w : World} {A : Around} {E : Value → Shared → Prop} {s : Shared} {κ : KeyKind}
end
end Ts
set_option Elab.async false
set_option linter.all false
set_option maxRecDepth 100000
namespace Ts
open PySem PyProof.Rows
end Ts
set_option Elab.async false
set_option linter.all false
set_option maxRecDepth 100000
namespace Ts
open PySem PyProof.Rows
variable {κ : KeyKind}
end Ts
set_option Elab.async false
set_option linter.all false
set_option maxRecDepth 100000
namespace Ts
open PySem PyProof.Rows
section
variable {prog : Program} {w : World} {A : Around} {E : Value → Shared → Prop} {s : Shared} {κ : KeyKind}
end
end Ts
set_option Elab.async false
set_option linter.all false
set_option maxRecDepth 100000
namespace Ts
open PySem PyProof.Rows
variable {κ : KeyKind}
section
variable {prog : Program} {w : World} {A : Around} {E : Value → Shared → Prop} {s : Shared}
end
end Ts
set_option Elab.async false
set_option linter.all false
set_option maxRecDepth 100000
namespace Ts
open PySem PyProof.Rows
variable {κ : KeyKind}
section
variable {prog : Program} {w : World} {A : Around} {E : Value → Shared → Prop} {s : Shared}
end
end Ts
set_option Elab.async false
set_option linter.all false
set_option maxRecDepth 100000
namespace Ts
open PySem PyProof.Rows
variable {κ : KeyKind}
section
variable {prog : Program} {w : World} {A : Around} {E : Value → Shared → Prop} {s : Shared}
end
end Ts
set_option Elab.async false
set_option linter.all false
set_option maxRecDepth 100000
namespace Ts
open PySem PyProof.Rows
variable {κ : KeyKind}
section
variable {prog : Program} {w : World} {A : Around} {E : Value → Shared → Prop} {s : Shared}
end
end Ts
set_option Elab.async false
set_option linter.all false
set_option maxRecDepth 100000
namespace Ts
open PySem PyProof.Rows
variable {κ : KeyKind}
section
variable {prog : Program} {w : World} {A : Around} {E : Value → Shared → Prop} {s : Shared}
end
end Ts
set_option Elab.async false
set_option linter.all false
set_option maxRecDepth 100000
namespace Ts
open PySem PyProof.Rows
variable {κ : KeyKind}
section
variable {prog : Program} {w : World} {A : Around} {E : Value → Shared → Prop} {s : Shared}
end
end Ts
set_option Elab.async false
set_option linter.all false
set_option maxRecDepth 100000
set_option maxHeartbeats 0
namespace Wd
section
variable {α : Type}
end
end Wd
set_option Elab.async false
set_option linter.all false
set_option maxRecDepth 100000
set_option maxHeartbeats 0
namespace Wd
section
variable {α : Type}
end
end Wd
set_option Elab.async false
set_option linter.all false
set_option maxRecDepth 100000
set_option maxHeartbeats 0
namespace Wd
end Wd
set_option Elab.async false
set_option linter.all false
set_option maxRecDepth 100000
set_option maxHeartbeats 0
namespace Wd
section
variable {α : Type}
end
end Wd
set_option Elab.async false
set_option linter.all false
set_option maxRecDepth 100000
set_option maxHeartbeats 0
namespace Wd
section
variable {α : Type}
end
end Wd
set_option Elab.async false
set_option linter.all false
set_option maxRecDepth 100000
set_option maxHeartbeats 0
namespace Wd
end Wd
set_option Elab.async false
set_option linter.all false
set_option maxRecDepth 100000
set_option maxHeartbeats 0
namespace Wd
end Wd
set_option Elab.async false
set_option linter.all false
set_option maxRecDepth 100000
namespace PySem
end PySem
namespace L2
open PySem PySem.Spec PyProof.Rows Wd
section
variable {X : Cx}
end
end L2
set_option Elab.async false
set_option linter.all false
set_option maxRecDepth 100000
namespace L2
open PySem PySem.Spec PyProof.Rows Wd
section
variable {X : Cx}
end
end L2
set_option linter.all false
namespace Wd
def img (ws : List (List L))(x : L) : List L := if x.val < 6 then ws.getD x.val [] else bk (ws.getD (x.val - 6) [])
def sub (ws : List (List L))(u : List L) : List L := u.flatMap (img ws)
end Wd
set_option Elab.async false
set_option linter.all false
set_option maxRecDepth 100000
namespace PySem
section
variable {prog : Program} {w : World} {A : Around} {E : Value → Shared → Prop}
end
end PySem
namespace L2
open PySem PySem.Spec PyProof.Rows Wd
section
variable {X : Cx} {pos : Pos}
end
end L2
set_option Elab.async false
set_option linter.all false
set_option maxRecDepth 100000
set_option maxHeartbeats 0
namespace L2
open PySem PySem.Spec PyProof.Rows Wd
section
variable {X : Cx}
end
end L2
namespace Kx
open PySem PySem.Spec PyProof.Rows L2 Wd
end Kx
set_option Elab.async false
set_option linter.all false
set_option maxRecDepth 100000
set_option maxHeartbeats 0
namespace Wd
end Wd
set_option Elab.async false
set_option linter.all false
set_option maxRecDepth 100000
set_option maxHeartbeats 0
namespace L2
open PySem PySem.Spec PyProof.Rows Wd
section
variable {X : Cx}
end
end L2
namespace Kx
open PySem PySem.Spec PyProof.Rows L2 Wd
end Kx
namespace L2
open PySem PySem.Spec PyProof.Rows Wd
section
variable {X : Cx}
end
end L2
set_option Elab.async false
set_option linter.all false
set_option maxRecDepth 100000
namespace L2
open PySem PySem.Spec PyProof.Rows
section
variable {prog : Program} {w : World} {A : Around} {E : Value → Shared → Prop} {s : Shared}
end
section
variable {X : Cx}
end
end L2
set_option Elab.async false
set_option linter.all false
set_option maxRecDepth 100000
set_option maxHeartbeats 0
namespace L2
open PySem PySem.Spec PyProof.Rows Wd
section
variable {X : Cx}
end
end L2
namespace Kx
open PySem PySem.Spec PyProof.Rows L2 Wd
end Kx
set_option Elab.async false
set_option linter.all false
namespace Kx
open PySem PySem.Spec PyProof.Rows L2 Wd
end Kx
set_option Elab.async false
set_option linter.all false
set_option maxRecDepth 100000
set_option maxHeartbeats 0
namespace L2
open PySem PySem.Spec PyProof.Rows Wd
section
variable {X : Cx}
end
end L2
set_option Elab.async false
set_option linter.all false
set_option maxRecDepth 100000
set_option maxHeartbeats 0
namespace Wd
def nm (N : List L)(x : L) : L := if x.val < 6 then N.getD x.val 0 else inv (N.getD (x.val - 6) 0)
end Wd
namespace L2
open PySem PySem.Spec PyProof.Rows Wd
theorem eS {α β : Type}(f : α → β){zs ys : List β}(p : ys.Perm zs) : ∀ W : List α, ys=W.map f → ∃ V : List α, V.Perm W ∧ zs=V.map f := by
  induction p with
  | nil =>
    intro W e
    exact ⟨W, .refl _, e⟩
  | cons x _ ih =>
    intro W e
    cases W with
    | nil => cases e
    | cons w W =>
      obtain ⟨e1, e2⟩ := List.cons.inj e
      obtain ⟨V, h1, h2⟩ := ih W e2
      exact ⟨w::V, h1.cons w, by rw [h2, e1];rfl⟩
  | swap x y l =>
    intro W e
    match W, e with
    | a::b::W, e =>
      obtain ⟨e1, e2⟩ := List.cons.inj e
      obtain ⟨e2, e3⟩ := List.cons.inj e2
      exact ⟨b::a::W, List.Perm.swap a b W, by rw [e1, e2, e3];rfl⟩
  | trans _ _ ih1 ih2 =>
    intro W e
    obtain ⟨V, h1, h2⟩ := ih1 W e
    obtain ⟨V2, h3, h4⟩ := ih2 V h2
    exact ⟨V2, h3.trans h1, h4⟩
section
variable {X : Cx}
inductive aZ (K : PySem.W.Frag)(xs : List V)(H : Hp)(Q : VK) : Prop
  | mk : ∀ (l : Addr) (W : List (List L)), (xs=[.ref l]) → (SqL K H l (W.map tx)) → (W.length < 64) → (∀ (p : Addr) (V : List (List L)), H p=none → V.Perm W → sortedS (V.map toS)=true → Q (.ref p) (upd H p (.lst (V.map tx)))) → aZ K xs H Q
theorem cf : cB X (.builtin "sorted") (aZ X.K) := by
  intro pins s σ H xs us Q I r h
  obtain ⟨l, W, rfl, hq, h64, q⟩ := h
  have ew : W.map tx=(W.map toS).map V.str := by rw [List.map_map];rfl
  rw [ew] at hq
  obtain ⟨u, rfl, ru⟩ := cE r
  cases ru
  obtain ⟨its, rv, pl, hz⟩ := I.list hq
  have hS := df rv
  have hlen : its.length=(W.map toS).length := by rw [← rv.length, List.length_map]
  rw [List.length_map] at hlen
  refine sorted_strs pl.isList hS (by omega) fun out zs hO hp hs => ?_
  obtain ⟨e, he⟩ := sortedAll_at s.heap its out
  have hv : aL (zs.map V.str) out.toList := cm hO
  have I2 : Inv X pins σ (upd H (s.heap.objs.size+1) (.lst (zs.map V.str))) { s with heap := sortedAll s.heap its out, toks := s.toks } :=
    I.laid (fun b o e => sortedAll_old e) (Nat.le_succ _) ⟨by rw [List.length_map, hp.length_eq];rw [List.length_map] at hz;exact hz, out.toList, e, hv, by simpa [seqObj] using he⟩
  obtain ⟨V, h1, h2⟩ := eS toS hp.symm W rfl
  subst h2
  have q := q (s.heap.objs.size+1) V (I.hok.fresh (Nat.le_succ _)) h1 hs
  have ev : V.map tx=(V.map toS).map L2.V.str := by rw [List.map_map];rfl
  rw [ev] at q
  exact ⟨.ref (s.heap.objs.size+1), _, I2, rfl, q⟩
end
end L2
namespace Kx
open PySem PySem.Spec PyProof.Rows L2 Wd
end Kx
set_option Elab.async false
set_option linter.all false
set_option maxRecDepth 100000
namespace L2
open PySem PySem.Spec PyProof.Rows
section
variable {prog : Program} {w : World} {A : Around} {E : Value → Shared → Prop} {s : Shared}
end
section
variable {X : Cx}
end
section
variable {prog : Program} {w : World} {A : Around} {E : Value → Shared → Prop} {s : Shared}
end
section
variable {X : Cx}
end
end L2
set_option Elab.async false
set_option linter.all false
set_option maxRecDepth 100000
namespace PySem
open Sem (wp)
section
variable {prog : Program} {w : World} {A : Around} {E : Value → Shared → Prop} {s : Shared} {z TI TO i1 i2 : Addr} {x y : Str} {t u : Tok} {k c d : Nat} {a b : Value}
end
end PySem
set_option Elab.async false
set_option linter.all false
set_option maxRecDepth 100000
namespace L2
open PySem PySem.Spec PyProof.Rows
section
variable {X : Cx}
end
end L2
set_option Elab.async false
set_option linter.all false
set_option maxRecDepth 100000
namespace PySem
end PySem
namespace L2
open PySem PySem.Spec PyProof.Rows Wd
section
variable {X : Cx}
end
end L2
set_option Elab.async false
set_option linter.all false
set_option maxRecDepth 100000
namespace HT
open PySem PySem.Spec PyProof.Rows
section
variable {prog : Program} {w : World} {A : Around} {E : Value → Shared → Prop} {s : Shared}
end
end HT
namespace L2
open PySem PySem.Spec PyProof.Rows Wd
section
variable {X : Cx}
end
end L2
set_option Elab.async false
set_option linter.all false
set_option maxRecDepth 100000
namespace L2
open PySem PySem.Spec PyProof.Rows Wd
section
variable {X : Cx}
end
end L2
namespace HT
open PySem PySem.Spec PyProof.Rows PySem.SeqAt
end HT
namespace L2
open PySem PySem.Spec PyProof.Rows Wd
section
variable {X : Cx}
end
theorem lb : bootBuiltins "enumerate" = some (.type "enumerate") := by kernel_rfl
end L2
set_option Elab.async false
set_option linter.all false
namespace Wd
end Wd
set_option Elab.async false
set_option linter.all false
set_option maxRecDepth 100000
set_option maxHeartbeats 0
namespace Kx
open PySem PySem.Spec PyProof.Rows L2 Wd
def fst (c : Option (Int × Int)) : Int := match c with | some (i, _) => i | none => 0
end Kx
set_option Elab.async false
set_option linter.all false
set_option maxRecDepth 100000
set_option maxHeartbeats 0
namespace Kx
open PySem PySem.Spec PyProof.Rows L2 Wd
end Kx
set_option Elab.async false
set_option linter.all false
set_option maxRecDepth 100000
set_option maxHeartbeats 0
namespace Kx
open PySem PySem.Spec PyProof.Rows L2 Wd
def iv (r : List Nat) : List V := r.map fun i : Nat => V.int (i : Int)
end Kx
set_option Elab.async false
set_option linter.all false
set_option maxRecDepth 100000
namespace Kx
open PySem PySem.Spec PyProof.Rows L2 Wd
theorem lh : Str.ofString "a" = toS [0] := by decide +kernel
end Kx
set_option Elab.async false
set_option linter.all false
set_option maxRecDepth 100000
namespace L2
open PySem PySem.Spec PyProof.Rows
section
variable {M : Model} {A : Around} {E : Value → Shared → Prop} {s : Shared}
end
end L2
set_option Elab.async false
set_option linter.all false
set_option maxRecDepth 100000
namespace L2
open PySem PySem.Spec PyProof.Rows
def exo (a C : Addr)(d : Option Addr)(b : Bool) : Heap → Prop := fun h =>
  ∃ oe vs, h.get? a=some oe ∧ oe.cls = .ref C ∧ oe.dict=d ∧ oe.data = .fields vs ∧ vs.size=6 ∧ (b=true → vs[1]? = some .none)
abbrev Exo (a C : Addr)(d : Option Addr)(b : Bool) : HO := .ext (exo a C d b)
section
variable {P : Program} {w : World} {H : Hp} {h h' : Heap} {fs : List Addr} {e C : Addr} {d : Option Addr} {b : Bool} {fl : Value}
end
section
variable {P : Program} {w : World} {K : PySem.W.Frag} {mg : Str → Option Value} {base : Heap} {N : List Str} {qual : Str} {scope : Scope} {f : Addr} {cd : Value} {A : Around} {outer : List Env} {s : Shared} {H : Hp} {E : XK}
end
end L2
set_option Elab.async false
set_option linter.all false
set_option maxRecDepth 100000
namespace L2
open PySem PySem.Spec PyProof.Rows
section
variable {prog : Program} {w : World} {A : Around} {E : Value → Shared → Prop} {h : Heap} {g : Array GenState} {d : Drawn} {t : Nat} {os : OsState} {K : PySem.W.Frag} {C fI : Addr} {bm : List Value}
end
section
variable {X : Cx} {k : Nat} {f C : Addr} {fd : FuncData} {ps : List Str} {sp : Sp} {x : Str} {p pos : Pos} {e : Expr} {es : List Expr} {t : TA} {bm : List Value}
end
end L2
set_option Elab.async false
set_option linter.all false
set_option maxRecDepth 100000
namespace L2
open PySem PySem.Spec PyProof.Rows Builtin Builtin.ObjectAttr
section
variable {prog : Program} {w : World} {A : Around} {E : Value → Shared → Prop} {h : Heap} {g : Array GenState} {d : Drawn} {t : Nat} {os : OsState} {K : PySem.W.Frag} {C e : Addr} {bm : List Value} {oe : Obj} {vs : Array Value}
section
variable {name : Str} {v : Value} {mA : Str → Option Value}
end
end
end L2
set_option Elab.async false
set_option linter.all false
set_option maxRecDepth 100000
namespace L2
open PySem PySem.Spec PyProof.Rows
def xdt (d : Addr)(fs : List (Str × V)) : Heap → Prop := fun h => ∃ mA, h.Ns1 d mA ∧ (∀ f, fN (fs.lookup f) (mA f)) ∧ PySem.Within mA (fs.map (·.1))
abbrev Xdt (d : Addr)(fs : List (Str × V)) : HO := .ext (xdt d fs)
section
variable {X : Cx} {pins : List (Addr × Obj)} {σ : St} {H : Hp} {s : Shared} {A : Around} {E : Value → Shared → Prop} {a C : Addr} {b : Bool} {f : Str} {y : V} {u : Value} {Q : Unit → Shared → Prop}
end
section
variable {X : Cx} {o e value : Expr} {es : List Expr} {f x : Str} {p pos pos' apos : Pos} {ta tv te : TE} {t : TA} {R : Addr} {E : XK}
end
end L2
set_option Elab.async false
set_option linter.all false
set_option maxRecDepth 100000
namespace L2
open PySem PySem.Spec PyProof.Rows
section
variable {prog : Program} {w : World} {A : Around} {E : Value → Shared → Prop} {s : Shared} {K : PySem.W.Frag} {C a : Addr} {bm : List Value} {oe : Obj} {od : Option Obj} {name : Str} {fill expr : Bool} {tk : Tok}
end
section
variable {X : Cx} {pins : List (Addr × Obj)} {σ : St} {H : Hp} {s : Shared} {A : Around} {E : Value → Shared → Prop} {a C dx : Addr} {b : Bool} {fs : List (Str × V)} {f : Str} {v : V}
end
section
variable {X : Cx} {e : Expr} {f : Str} {pos : Pos} {ta : TE}
end
end L2
set_option Elab.async false
set_option linter.all false
set_option maxRecDepth 100000
namespace L2
open PySem PySem.Spec PyProof.Rows
section
variable {X : Cx} {pins : List (Addr × Obj)} {σ : St} {H : Hp} {s : Shared}
end
section
variable {M : Model} {A : Around} {E : Value → Shared → Prop} {s : Shared}
end
end L2
set_option Elab.async false
set_option linter.all false
set_option maxRecDepth 100000
namespace L2
open PySem PySem.Spec PyProof.Rows
section
variable {X : Cx} {E : XK} {x : Str} {ps : List Str} {k j : Nat} {sp : Sp} {e a b : Expr} {es : List Expr} {t : TA} {te tb : TE} {tt : TT} {p pos pos' : Pos}
end
end L2
set_option Elab.async false
set_option linter.all false
set_option maxRecDepth 100000
namespace L2
open PySem PySem.Spec PyProof.Rows
section
variable {K : PySem.W.Frag} {C R N : Addr} {dd d0 : Option Addr} {c0 oc : Value} {cd cdR : ClassData} {k0 k1 k2 k3 k5 : Option Value} {sl sl' : Array (Option Value)} {es : Array DictEntry} {n : Nat} {bm bm' : List Value}
end
end L2
set_option Elab.async false
set_option linter.all false
set_option maxRecDepth 100000
namespace L2
open PySem PySem.Spec PyProof.Rows
section
variable {X : Cx} {x : Str} {C : Addr} {names : List Str} {k j : Nat} {e : Expr} {es : List Expr} {t : TA} {p pos : Pos}
end
section
variable {K : PySem.W.Frag} {C dx a : Addr} {b : Bool} {H : Hp}
end
section
variable {X : Cx} {K : PySem.W.Frag} {e : Expr} {f : Str} {pos : Pos} {ta : TE}
end
end L2
set_option Elab.async false
set_option linter.all false
set_option maxRecDepth 100000
namespace L2
open PySem PySem.Spec PyProof.Rows
section
variable {X : Cx} {E : XK} {e a b c : Expr} {te ta tb : TE} {tA : TT} {pos : Pos}
end
end L2
set_option Elab.async false
set_option linter.all false
set_option maxRecDepth 100000
namespace Kx
open PySem PySem.Spec PyProof.Rows L2 Wd
end Kx
set_option Elab.async false
set_option linter.all false
set_option maxRecDepth 100000
namespace L2
open PySem PySem.Spec PyProof.Rows Wd
section
variable {X : Cx}
end
end L2
namespace Kx
open PySem PySem.Spec PyProof.Rows L2 Wd
def oL (o : Option (List L)) : List V := o.toList.map tx
theorem at1 {α : Type}(a b : α)(t : List α) : atI (a::b::t) (1 : Int)=some b := cF (j := 1) rfl
end Kx
set_option Elab.async false
set_option linter.all false
set_option maxRecDepth 100000
set_option maxHeartbeats 0
namespace L2
open PySem PySem.Spec PyProof.Rows Wd
end L2
namespace Kx
open PySem PySem.Spec PyProof.Rows L2 Wd
theorem aJ {n : Nat}(h : n≤16777216) : n≤sizeLine := by rw [bp]; exact h
theorem nB {t u : TS}{D : dP}{σ : L2.St}{H : Hp}(h : t D σ H) : eK t u D σ true H := mB h
theorem nC {t u : TS}{D : dP}{σ : L2.St}{H : Hp}(h : u D σ H) : eK t u D σ false H := kN h
theorem mO {u : TT}{σ : L2.St}{Q : Bool → Hp → Prop}{H : Hp}(h : u σ H Q) : eJ u σ Q true H := mB h
theorem mP {u : TT}{σ : L2.St}{Q : Bool → Hp → Prop}{H : Hp}(h : Q false H) : eJ u σ Q false H := kN h
theorem oa {ta tb : TE}{σ : L2.St}{Q : VK}{H : Hp}(h : ta σ H Q) : fQ ta tb σ Q true H := mB h
theorem og {ta tb : TE}{σ : L2.St}{Q : VK}{H : Hp}(h : tb σ H Q) : fQ ta tb σ Q false H := kN h
def XP (C : Addr)(H : Hp)(a : Addr)(z : Str)(k : Nat) : Prop := ∃ dx, H a=some (Exo a C (some dx) false) ∧ H dx=some (Xdt dx [("word", .str z), ("at", .int (k : Nat))])
end Kx
set_option Elab.async false
set_option linter.all false
set_option maxRecDepth 100000
namespace L2
open PySem PySem.Spec PyProof.Rows
def Itk (d : Addr)(o : Obj)(kvs : List (Key × V)) : It := ⟨fun i H => i < kvs.length ∧ H d=some (.frz o (.dK kvs)), fun i H x H' => H'=H ∧ ∃ k v, kvs[i]? = some (k, v) ∧ x=kV k, fun i H => i=kvs.length ∧ H d=some (.frz o (.dK kvs))⟩
theorem mQ {P : Program}{w : World}{k : Key}{u : Value}(h : (au P w).is k u=true) : aO (kV k) u := by
  rcases aC h with ⟨i, t, rfl, rfl⟩ | ⟨x, t, rfl, rfl⟩
  · exact ⟨t, rfl⟩
  · exact ⟨t, rfl⟩
theorem je {P : Program}{w : World}{H : Hp}{h : Heap}{d : Addr}{o : Obj}{kvs : List (Key × V)}{es : Array DictEntry}{ep : Nat}(hok : HOk P w H h)(e : H d=some (.frz o (.dK kvs)))(he : o.data = .dict es ep) :
    ∃ vs, KV kvs vs ∧ h.DictAt (au P w) d vs ep := by
  obtain ⟨g, z, hd, vs, rel, o', es', ep', g', ex, dt, r⟩ := hok d _ e
  rw [g] at g'
  cases g'
  rw [he] at dt
  cases dt
  exact ⟨vs, rel, o, es, g, ex, he, r⟩
theorem dj {α β : Type}{R : α → β → Prop} : ∀ {xs : List α} {ys : List β}, Paired R xs ys → ∀ {i : Nat} {x : α}, xs[i]? = some x → ∃ y, ys[i]? = some y ∧ R x y
  | _, _, .nil, i, x, h => by simp at h
  | _, _, .cons r q, 0, x, h => by cases h;exact ⟨_, rfl, r⟩
  | _, _, .cons r q, i+1, x, h => dj q (i := i) (by simpa using h)
theorem gQ {P : Program}{w : World}{K : PySem.W.Frag}{tg : Expr}{d it : Addr}{o : Obj}{es : Array DictEntry}{ep : Nat}{kvs : List (Key × V)}(he : o.data = .dict es ep) : j9 P w K tg (Itk d o kvs) [it] it (fun i h => h.IsKeyIter it d i kvs.length ep) where
  mem := by simp
  obj := fun i h st b hb => by
    have e : b=it := by simpa using hb
    subst e
    obtain ⟨o, e, c, dd⟩ := st
    exact ⟨o, e, fun v z => by rw [dd] at z;cases z⟩
  keep := fun i h h' st kk => st.at (kk it (by simp))
  item := by
    intro X hP hw hK hc i pins s σ H E I hf st hg
    subst hP hw hK
    obtain ⟨hi, e⟩ := hg
    obtain ⟨f0, f1, f2, f3, f4, f5⟩ := hf it (by simp)
    obtain ⟨vs, rel, hm⟩ := je I.hok e he
    have hl := Paired.length rel
    obtain ⟨p, hp⟩ : ∃ p, kvs[i]? = some p := ⟨_, List.getElem?_eq_getElem hi⟩
    obtain ⟨p', hp', ek, rv⟩ := dj rel hp
    rw [hl] at st
    refine wpAny_pyNext_dict_item st hm (k := p'.1) (v := p'.2) hp' fun key h' hk st' hsb => ⟨_, rfl, ?_⟩
    refine letGo_keyiter (s' := { s with heap := h' }) st' ⟨kV p.1, H, ?_, by rw [ek];exact mQ hk, ⟨rfl, p.1, p.2, hp, rfl⟩, by rw [hl];exact st', fun b hb => (hf b hb).1⟩
    exact I.turned (t' := s.toks) (fun b o hb e => by rw [hsb.2 b hb];exact e) f0 f1 f3 f4 f5
  done := by
    intro X hP hw hK hc i pins s σ H E I hf st hg
    subst hP hw hK
    obtain ⟨hi, e⟩ := hg
    obtain ⟨f0, f1, f2, f3, f4, f5⟩ := hf it (by simp)
    obtain ⟨vs, rel, hm⟩ := je I.hok e he
    have hl := Paired.length rel
    rw [hl] at st
    refine wpAny_pyNext_dict_end (I.ok.hd hc) st hm (by rw [List.getElem?_eq_none];omega) fun h' hx => ⟨rfl, ?_⟩
    exact I.turned (t' := s.toks) (fun b o hb e => hx b o hb e) f0 f1 f3 f4 f5
  self := fun A i s Q E st h => wpAny_pyIter_keyiter st h
section
variable {X : Cx} {tg : Expr}
inductive gR (R : It → Hp → Prop)(x : V)(H1 : Hp) : Prop
  | mk : ∀ d kvs, (x = .ref d) → (H1 d=some (.dK kvs)) → (∀ o, R (Itk d o kvs) (upd H1 d (.frz o (.dK kvs)))) → gR R x H1
def mR (tl : TE) : TI := fun σ H R => tl σ H (gR R)
theorem eT {l : Expr}{tl : TE}(hl : PE X l tl) : PI X tg l (mR tl) := by
  intro pins s σ H R I h
  refine thn (hl pins s σ H _ I h) fun v s1 zq1 => ?_
  obtain ⟨x, H1, I1, r1, d, kvs, rfl, e, q⟩ := zq1
  cases r1
  obtain ⟨z, hd, vs, rel, o, es, ep, g, ex, he, r⟩ := jI I1.hok e
  have I2 : Inv X pins σ (upd H1 d (.frz o (.dK kvs))) s1 := dB (t' := s1.toks) I1 (by rw [e];exact True.intro) ⟨rfl, fun _ _ => rfl⟩ ⟨o, g⟩ ⟨g, z, hd, vs, rel, o, es, ep, g, ex, he, r⟩
  refine wpAny_pyIter_dict hd ⟨o, es, g, ex, he, r⟩ ?_
  refine ⟨s1.heap.objs.size, [s1.heap.objs.size], _, Itk d o kvs, _, rfl, I2.kept (t' := s1.toks) fun b o e => Heap.get?_push_of_some _ e, gQ he, ⟨_, Heap.get?_push_size _ rfl, rfl, by rw [Paired.length rel];rfl⟩, fun b hb => ?_, q o⟩
  have e : b=s1.heap.objs.size := by simpa using hb
  subst e
  exact I2.fpOk (Nat.le_refl _) (I2.hok.fresh (Nat.le_refl _))
end
end L2
set_option Elab.async false
set_option linter.all false
set_option maxRecDepth 100000
set_option maxHeartbeats 0
namespace PySem
open Sem (wp)
theorem eh : entryFor table "dict.update.loop" = some Builtin.«dict.update.loop» := entryFor_of_tree (by kernel_rfl)
theorem b7 : plainId "dict.update.loop" = true := by decide +kernel
namespace F
theorem entry_list_ga2 : entryFor table "list.__getattribute__" = some Builtin.«object.__getattribute__» :=
  entryFor_alias (id' := "object.__getattribute__") (by kernel_rfl) (by first | rfl | decide +kernel) (by decide +kernel) (by kernel_rfl)
theorem lk_list_keys : typeLookup (.type "list") "keys" = pure none := by rw [typeLookup_type, builtinLookup_eq_fast]; kernel_rfl
theorem lk_list_gat : typeLookup (.type "list") "__getattr__" = pure none := by rw [typeLookup_type, builtinLookup_eq_fast]; kernel_rfl
end F
section
variable {prog : Program} {w : World} {A : Around} {E : Value → Shared → Prop} {s : Shared} {a : Addr} {its : Array Value} {n : Nat} {sl : Array (Option Value)}
abbrev mS (its : Array Value)(n : Nat)(sl : Array (Option Value)) : Obj := { cls := .type "list", dict := none, data := .seq its n, slots := sl }
theorem gS {tk : Tok}{Q : Fin → Shared → Prop}(hx : s.heap.get? a=some (mS its n sl))(hh : A.handled=none)(hE : ∀ h' tk e, Heap.NewAttrErr s.heap h' e (.ref a) "keys" → E (.ref e) { s with heap := h', toks := tk }) :
    wpAny (model prog w) A (Builtin.«object.__getattribute__» ⟨[.ref a, .str "keys" tk], []⟩) Q E s := by
  obtain ⟨h, g, d, t, os⟩ := s
  have hT : (⟨h, g, d, t, os⟩ : Shared).TypeIs (.ref a) "list" := ⟨_, hx, rfl⟩
  have f4 := F.lk_list_keys
  repeat (any_goals (first | assumption | wp_step))
  exact wpAny_raiseAttrError hh hE (attrMsg_fits (by decide +kernel) (by size_fits))
theorem eU {Q : Option Value → Shared → Prop}(hx : s.heap.get? a=some (mS its n sl))(hh : A.handled=none)(hQ : ∀ h' tk, (∀ b o, s.heap.get? b=some o → h'.get? b=some o) → Q none { s with heap := h', toks := tk }) :
    wpAny (model prog w) A (getAttr? (.ref a) "keys") Q E s := by
  obtain ⟨h, g, d, t, os⟩ := s
  have hT : (⟨h, g, d, t, os⟩ : Shared).TypeIs (.ref a) "list" := ⟨_, hx, rfl⟩
  have f1 := sub_AttributeError
  have f3 := F.slot_list_getattribute.lookup
  have f4 := F.slot_list_getattribute.bind (.ref a)
  have f5 := F.lk_list_gat
  unfold getAttr? getAttrBy? getAttrBy
  repeat (any_goals (first | assumption | ((with_reducible show wpAny _ _ (call (Value.builtin "list.__getattribute__") _ _) _ _ _);refine wpAny_call_entry F.slot_list_getattribute ⟨_, hx, rfl⟩ F.entry_list_ga2 (gS hx hh fun h' tk' e hxx => ?_) (F.args_list_getattribute_2 _ _)) | wp_step))
  obtain ⟨t', u', he⟩ := hxx.there
  repeat (any_goals (first | assumption | wp_step))
  all_goals exact hQ _ _ hxx.keeps
end
end PySem
namespace L2
open PySem PySem.Spec PyProof.Rows Wd
theorem gT : ∀ {ns : List Int} {us : List Value}, aL (ns.map V.int) us → ∃ ps : List (Int × Tok), us=ps.map (fun p => Value.int p.1 p.2) ∧ ps.map Prod.fst=ns
  | [], _, .nil => ⟨[], rfl, rfl⟩
  | n::ns, _, .cons r q => by
    obtain ⟨ps, rfl, e⟩ := gT q
    obtain ⟨t, rfl⟩ := r
    exact ⟨(n, t)::ps, rfl, by rw [List.map_cons, e]⟩
section
variable {X : Cx}
inductive dm (K : PySem.W.Frag)(xs : List V)(H : Hp)(Q : VK) : Prop
  | mk : ∀ (l : Addr) (ns : List Int), xs=[.ref l] → SqL K H l (ns.map V.int) → Q (.int ns.sum) H → dm K xs H Q
theorem bF (hc : X.calm=true) : cB X (.builtin "sum") (dm X.K) := by
  intro pins s σ H xs us Q I r h
  obtain ⟨l, ns, rfl, hq, q⟩ := h
  obtain ⟨u, rfl, ru⟩ := cE r
  cases ru
  obtain ⟨its, rv, pl, _⟩ := I.list hq
  obtain ⟨ps, rfl, e⟩ := gT rv
  have hl : s.heap.IsList l (intItems ps.toArray) := by
    have := pl.isList
    unfold intItems
    simpa using this
  refine sum_intListG (I.ok.hd hc) hl fun h' tk t' hk => ?_
  refine ⟨.int ns.sum, H, I.kept hk, ⟨t', ?_⟩, q⟩
  rw [preSum_eq, List.take_of_length_le (by simp)]
  have : (ps.toArray.toList.map Prod.fst)=ns := by simpa using e
  exact congrArg (fun l : List Int => Value.int l.sum t') this
end
def fF (ps : List (Key × V)) : List (Key × V) := ps.foldl (fun a p => aV a p.1 p.2) []
theorem ei (ps : List (Key × V))(p : Key × V) : fF (ps++[p])=aV (fF ps) p.1 p.2 := by unfold fF; rw [List.foldl_append]; rfl
theorem fw (ps : List (Key × V)) : (fF ps).length≤ps.length := by
  unfold fF
  have : ∀ (ps acc : List (Key × V)), (ps.foldl (fun a p => aV a p.1 p.2) acc).length≤acc.length+ps.length := fun ps => by
    induction ps with
    | nil => intro acc;exact Nat.le_refl _
    | cons p ps ih =>
      intro acc
      have h1 := ih (aV acc p.1 p.2)
      have h2 := aW acc p.1 p.2
      rw [List.foldl_cons, List.length_cons]
      omega
  have := this ps []
  simpa using this
section
variable {P : Program} {w : World} {A : Around} {E : Value → Shared → Prop} {I : Addr} {fp wr : List Addr} {G : Array GenState → Array GenState → Prop} {n : Nat} {Pv : Nat → Value → Prop} {St' : Nat → Shared → Prop}
theorem oh {R : Result → Shared → Prop}(W : WalksS P w A.in1 I fp wr G n Pv St'){d : Addr}(hdf : d∉fp){T : Nat → Addr}(hT : ∀ i, i < n → T i∉wr ∧ T i≠d)(hP : ∀ i v, i < n → Pv i v → v = .ref (T i)){ps : List (Key × V)}(hn : ps.length=n)(hz : n+2≤sizeLine) :
    ∀ (m k : Nat) (s : Shared) (vs : List (Key × Value)), n - k=m → k≤n → St' k s → (∀ i p, ps[i]? = some p → ∃ u1 u2, s.heap.IsTuple (T i) #[u1, u2] ∧ aO (kV p.1) u1 ∧ aO p.2 u2) → s.heap.DictOf (au P w) d vs → KV (fF (ps.take k)) vs →
      (∀ (s' : Shared) (vs' : List (Key × Value)), Moved (d::wr) G s s' → s'.heap.DictOf (au P w) d vs' → KV (fF ps) vs' → R (.ok (.ret .none)) s') →
      codeAny (model P w) A (.builtin "dict.update.loop" ⟨[.ref d, .ref I, rawInt k, .none], []⟩) R s := by
  have nw : d∉wr := fun q => hdf (W.sub _ q)
  have sub : ∀ b∈wr, b∈d::wr := fun b q => List.mem_cons_of_mem _ q
  have dk : ∀ {h h' : Heap} {vs : List (Key × Value)}, h.DictOf (au P w) d vs → (∀ o, h.get? d=some o → h'.get? d=some o) → h'.DictOf (au P w) d vs := fun e k => let ⟨o, es, ep, ho, r⟩ := e;⟨o, es, ep, k o ho, r⟩
  intro m
  induction m with
  | zero =>
    intro k s vs hk hle st hTs hD hV hR
    obtain rfl : k=n := by omega
    refine codeAny_builtin eh ?_
    rw [Around.under_plainId b7 _]
    show wpAny _ A.in1 (pyNext (.ref I) >>= _) _ _ s
    refine wpAny_bind (W.done s _ _ st fun s' mv => ?_)
    show wpAny _ A.in1 (Builtin.Dict.addKeywords d [] >>= _) _ _ _
    refine wpAny_bind (wpAny_pure (wpAny_pure (hR s' vs (mv.mono sub) (dk hD fun o q => mv.heap d o nw q) ?_)))
    rw [List.take_of_length_le (by omega)] at hV
    exact hV
  | succ m ih =>
    intro k s vs hk hle st hTs hD hV hR
    have hlt : k < n := by omega
    have hp := List.getElem?_eq_getElem (l := ps) (i := k) (by omega)
    obtain ⟨u1, u2, hT1, r1, r2⟩ := hTs k _ hp
    refine codeAny_builtin eh ?_
    rw [Around.under_plainId b7 _]
    show wpAny _ A.in1 (pyNext (.ref I) >>= _) _ _ s
    refine wpAny_bind (W.item k s _ _ hlt st fun v s' hPv st' mv => ?_)
    obtain rfl := hP k v hlt hPv
    obtain ⟨tw, td⟩ := hT k hlt
    have hT2 : s'.heap.IsTuple (T k) #[u1, u2] := let ⟨o, ho, r⟩ := hT1;⟨o, mv.heap _ o tw ho, r⟩
    obtain ⟨ot, got, gct, gnt, gdt⟩ := hT2
    show wpAny _ A.in1 (holding [Value.ref (T k)] (do
      let pair ← (Builtin.Dict.pairItems (.ref (T k))).tryCatch _
      _) >>= _) _ _ _
    refine wpAny_bind (wpAny_holding (wpAny_bind (wpAny_tryCatch ?_)))
    unfold Builtin.Dict.pairItems
    have hTT : s'.TypeIs (.ref (T k)) "tuple" := ⟨_, got, gct⟩
    refine wpAny_bind (wpAny_typeOf hTT ?_)
    rw [if_pos (by decide)]
    refine wpAny_bind (wpAny_seqItems got gdt (wpAny_pure ?_))
    show wpAny _ _ (holding [u1, u2] (dictSet d u1 u2)) _ _ _
    have hD' : s'.heap.DictOf (au P w) d vs := dk hD fun o q => mv.heap d o nw q
    have hvl : vs.length≤sizeLine := by
      have h1 := fw (ps.take k)
      have h2 := hV.length
      rw [List.length_take] at h1
      omega
    refine wpAny_holding (wpAny_dictSet_pairs (hsz := hvl) (gn r1) hD' fun h2 hD2 sb => ?_)
    have et : fF (ps.take (k+1))=aV (fF (ps.take k)) ps[k].1 ps[k].2 := by rw [List.take_add_one, hp, Option.toList_some, ei]
    refine wpAny_pure ⟨plainId_quiet b7 _, ih (k+1) _ _ (by omega) hlt (W.frame _ s' _ _ st' (Nat.le_succ _) fun c hc o q => ?_) (fun i p hi => ?_) hD2 (by rw [et];exact hV.put _ r2) fun s'' vs'' mv2 q5 q6 => hR s'' vs'' (Moved.trans W.gtrans ((mv.mono sub).then_heap (Nat.le_succ _) fun c o hc q => ?_) mv2) q5 q6⟩
    · rw [sb.2 c (fun e : c=d => hdf (e ▸ hc))];exact q
    · obtain ⟨v1, v2, ⟨o, ho, r⟩, q1, q2⟩ := hTs i p hi
      have hi' : i < n := by rw [← hn];exact (List.getElem?_eq_some_iff.mp hi).1
      obtain ⟨a1, a2⟩ := hT i hi'
      exact ⟨v1, v2, ⟨o, by rw [sb.2 _ a2];exact mv.heap _ o a1 ho, r⟩, q1, q2⟩
    · rw [sb.2 c (fun e : c=d => hc (e ▸ List.mem_cons_self))];exact q
end
end L2
set_option Elab.async false
set_option linter.all false
set_option maxRecDepth 100000
set_option maxHeartbeats 0
namespace L2
open PySem PySem.Spec PyProof.Rows Wd
section
variable {X : Cx}
inductive cn (K : PySem.W.Frag)(xs : List V)(H : Hp)(Q : VK) : Prop
  | mk : ∀ (l : Addr) (rs : List Addr) (ps : List (Key × V)), xs=[.ref l] → SqL K H l (rs.map V.ref) → rs.length=ps.length → (∀ (i : Nat) (r : Addr) (p : Key × V), rs[i]? = some r → ps[i]? = some p → H r=some (.tup [kV p.1, p.2])) → ps.length≤4000 → (∀ d, H d=none → Q (.ref d) (upd H d (.dK (fF ps)))) → cn K xs H Q
theorem dn (hc : X.calm=true) : cB X (.type "dict") (cn X.K) := by
  intro pins s σ H xs us Q I r h
  obtain ⟨l, rs, ps, rfl, hq, hlen, hrs, hz, q⟩ := h
  obtain ⟨u, rfl, ru⟩ := cE r
  cases ru
  obtain ⟨its, rv, pl, _⟩ := I.list hq
  have l16 : sizeLine=16777216 := sizeLine_eq
  have hh : X.A.handled=none := I.ok.hd hc
  have il : its.length=ps.length := by rw [← rv.length, List.length_map, hlen]
  have hl0 := pl.isList
  obtain ⟨⟨oc, od, odt, osl⟩, n, go, gc, gd, gdt⟩ := pl
  simp only at gc gd gdt
  subst gc gd gdt
  have tup : ∀ i p, ps[i]? = some p → ∃ u1 u2, s.heap.IsTuple (rs.getD i 0) #[u1, u2] ∧ aO (kV p.1) u1 ∧ aO p.2 u2 := fun i p hp => by
    have hi : i < rs.length := by rw [hlen];exact (List.getElem?_eq_some_iff.mp hp).1
    have hr := List.getElem?_eq_getElem hi
    have e : rs.getD i 0=rs[i] := by rw [List.getD_eq_getElem?_getD, hr];rfl
    obtain ⟨jt, jv, jp, _⟩ := I.tuple (SqT.of (K := X.K) (hrs i _ p hr hp))
    obtain ⟨u1, u2, rfl, r1, r2⟩ := mh jv
    rw [e]
    exact ⟨u1, u2, let ⟨o, a1, a2, n, a3⟩ := jp;⟨o, a1, a2, n, a3⟩, r1, r2⟩
  refine callType_codes (Q₁ := fun obj s₁ => obj = .ref s.heap.objs.size ∧ s₁ = { s with heap := s.heap.push { cls := .type "dict", data := .dict #[] } }) F.kt_called_dict (F.kt_typeCall_dict_1 _) F.entry_dict_init (kt_code_dict_new _ ⟨rfl, rfl⟩) ?_
  rintro obj s₁ ⟨rfl, rfl⟩
  have hnew : (s.heap.push { cls := .type "dict", data := .dict #[] }).DictOf (au X.prog X.w) s.heap.objs.size [] := Heap.DictOf.new s.heap
  refine ⟨hnew.typeIs, F.args_dict_init_2 _ _, ?_⟩
  unfold Builtin.«dict.__init__»
  refine wpAny_bind ?_
  unfold Builtin.Dict.selfAndRest
  refine wpAny_bind (wpAny_notOrdered_dict hnew.typeIs ?_)
  show wpAny _ _ (pure (s.heap.objs.size, [Value.ref l])) _ _ _
  refine wpAny_pure ?_
  show wpAny _ _ (Builtin.Dict.updateFrom "dict.__init__" s.heap.objs.size (.ref l) [] .none) _ _ _
  unfold Builtin.Dict.updateFrom
  have go1 : (s.heap.push { cls := .type "dict", data := .dict #[] }).get? l=some (mS its.toArray n osl) := Heap.get?_push_of_some _ go
  have hT : Shared.TypeIs { s with heap := s.heap.push { cls := .type "dict", data := .dict #[] } } (.ref l) "list" := ⟨_, go1, rfl⟩
  refine wpAny_bind (wpAny_typeOf hT ?_)
  rw [if_pos (by decide)]
  refine wpAny_bind ?_
  refine eU (s := { s with heap := s.heap.push { cls := .type "dict", data := .dict #[] } }) go1 (by exact hh) fun h2 tk2 k2 => ?_
  rw [if_pos (by decide)]
  refine wpAny_bind (wpAny_rule ?_)
  have L2' : h2.IsList l its.toArray := let ⟨o, ho, r⟩ := hl0;⟨o, k2 _ _ (Heap.get?_push_of_some _ ho), r⟩
  refine wpAny_bind (wpAny_pyIter_list (s := { s with heap := h2, toks := tk2 }) L2' ?_)
  refine wpAny_pure ⟨plainId_quiet b7 _, ?_⟩
  have llt : l < s.heap.objs.size := Heap.lt_size go
  obtain ⟨dob, des, dep, hdo, dr⟩ := id hnew
  have dlt : s.heap.objs.size < h2.objs.size := Heap.lt_size (k2 _ _ hdo)
  have nI : l≠h2.objs.size := Nat.ne_of_lt (Nat.lt_trans llt dlt)
  have nf : s.heap.objs.size∉[h2.objs.size, l] := by
    simp only [List.mem_cons, List.not_mem_nil, or_false, not_or]
    exact ⟨Nat.ne_of_lt dlt, Nat.ne_of_gt llt⟩
  refine oh (T := fun i => rs.getD i 0) (ps := ps) ((Walks.list (by simp [hh]) _ l nI its.toArray).toS) nf (fun i hi => ?_) (fun i v hi hv => ?_) (by simp [il]) (by simp;omega) _ 0 _ [] rfl (Nat.zero_le _) ⟨⟨_, Heap.get?_push_size _ rfl, rfl, rfl⟩, L2'.push _⟩ (fun i p hp => ?_) ?_ (by rw [List.take_zero];exact .nil) fun s' vs' mv q5 q6 => ?_
  · have hi' : i < rs.length := by rw [hlen, ← il];simpa using hi
    obtain ⟨u1, u2, ⟨o, ho, _⟩, _⟩ := tup i _ (List.getElem?_eq_getElem (show i < ps.length by omega))
    have tl := Heap.lt_size ho
    exact ⟨fun hm => absurd (List.mem_singleton.mp hm) (Nat.ne_of_lt (Nat.lt_trans tl dlt)), Nat.ne_of_lt tl⟩
  · have hv : its.toArray[i]? = some v := hv
    have hi' : i < rs.length := by rw [hlen, ← il];simpa using hi
    obtain ⟨u, hu, ru⟩ := rv.get (i := i) (x := .ref rs[i]) (by rw [List.getElem?_map, List.getElem?_eq_getElem hi'];rfl)
    rw [List.getElem?_toArray, hu] at hv
    cases hv
    rw [List.getD_eq_getElem?_getD, List.getElem?_eq_getElem hi']
    exact ru
  · obtain ⟨u1, u2, ⟨o, ho, r⟩, r1, r2⟩ := tup i p hp
    exact ⟨u1, u2, ⟨o, Heap.get?_push_of_some _ (k2 _ _ (Heap.get?_push_of_some _ ho)), r⟩, r1, r2⟩
  · exact ⟨dob, des, dep, Heap.get?_push_of_some _ (k2 _ _ hdo), dr⟩
  · obtain ⟨h', g', d', tk', os'⟩ := s'
    obtain rfl : g'=s.gens := mv.gens
    obtain rfl : d'=s.drawn := mv.drawn
    obtain rfl : os'=s.os := mv.os
    have keep : ∀ b o, s.heap.get? b=some o → h'.get? b=some o := fun b o e => mv.heap b o (by
      have lt : b < s.heap.objs.size := Heap.lt_size e
      simp only [List.mem_cons, List.not_mem_nil, or_false, not_or]
      exact ⟨Nat.ne_of_lt lt, Nat.ne_of_lt (Nat.lt_trans lt dlt)⟩) (Heap.get?_push_of_some _ (k2 _ _ (Heap.get?_push_of_some _ e)))
    have hlen2 : (fF ps).length≤sizeLine := by
      have := fw ps
      omega
    have hds : (s.heap.objs.size == sysModules)=false := by
      rw [beq_eq_false_iff_ne]
      exact Nat.ne_of_gt I.big
    exact ⟨rfl, .ref s.heap.objs.size, _, I.laid (t' := tk') keep (Nat.le_refl _) (gr hlen2 hds q6 q5), rfl, q _ (I.hok.fresh (Nat.le_refl _))⟩
end
end L2
set_option Elab.async false
set_option linter.all false
set_option maxRecDepth 100000
set_option maxHeartbeats 0
namespace L2
open PySem PySem.Spec PyProof.Rows Wd
section
variable {X : Cx}
theorem Inv.thaw {pins : List (Addr × Obj)}{σ : List (Option V)}{H : Hp}{s : Shared}{d : Addr}{o : Obj}{kvs : List (Key × V)}(I : Inv X pins σ H s)(e : H d=some (.frz o (.dK kvs)))(h0 : X.H₀ d=none) : Inv X pins σ (upd H d (.dK kvs)) s := by
  have ne : ∀ b, H b=none → b≠d := fun b q z => by rw [z, e] at q;cases q
  have ne0 : ∀ b u, X.H₀ b=some u → b≠d := fun b u q z => by rw [z, h0] at q;cases q
  refine ⟨I.ok, I.os, I.bare, ⟨I.base.keep, I.base.slot, fun b o q n hx => ?_, I.base.there, fun b xs q => ?_, fun b o u q => ?_, fun b ps q => ?_⟩, I.loc, I.cell, ?_, fun x c q => ?_, fun p hp => ?_, fun b u q => ?_, I.len⟩
  · have := I.base.free b o q n hx
    rw [aj (ne b this)]
    exact this
  · rw [aj (ne0 b _ q)];exact I.base.tups b xs q
  · rw [aj (ne0 b _ q)];exact I.base.frzs b o u q
  · rw [aj (ne0 b _ q)];exact I.base.tbls b ps q
  · rw [aj (ne _ I.free)];exact I.free
  · rw [aj (ne _ (I.freeC x c q))];exact I.freeC x c q
  · obtain ⟨a1, a2, a3⟩ := I.pin p hp
    exact ⟨a1, by rw [aj (ne _ a2)];exact a2, a3⟩
  · by_cases eb : b=d
    · subst eb
      rw [ab] at q
      cases q
      obtain ⟨g, r⟩ := I.hok b _ e
      exact r
    · rw [aj eb] at q
      refine (I.hok b u q).stay (fun _ _ _ z => z) (fun c z => ?_) fun c xs z => ?_
      · rw [aj (fun w => by rw [w, e] at z;cases z)];exact z
      · rw [aj (fun w => by rw [w, e] at z;cases z)];exact z
inductive jS (H0 : Hp)(t : TS)(D : dP)(σ : St)(H : Hp) : Prop
  | mk : ∀ (d : Addr) (o : Obj) (kvs : List (Key × V)), H d=some (.frz o (.dK kvs)) → H0 d=none → t D σ (upd H d (.dK kvs)) → jS H0 t D σ H
  | no : t D σ H → jS H0 t D σ H
theorem jT {H0 : Hp}{st : Stmt}{t : TS}(hH : X.H₀ = H0)(hs : PS X st t) : PS X st (jS H0 t) := by
  subst hH
  intro pins s σ H D I h
  cases h with
  | mk d o kvs e h0 h => exact hs pins s σ _ D (I.thaw e h0) h
  | no h => exact hs pins s σ H D I h
end
end L2
set_option Elab.async false
set_option linter.all false
set_option maxRecDepth 100000
namespace L2
open PySem PySem.Spec PyProof.Rows
section
variable {X : Cx} {x : Str} {ps : List Str} {k j : Nat} {sp : Sp} {e : Expr} {es : List Expr} {t : TA} {p pos : Pos}
end
section
variable {prog : Program} {w : World} {A : Around} {E : Value → Shared → Prop} {h : Heap} {g : Array GenState} {d : Drawn} {t : Nat} {os : OsState} {K : PySem.W.Frag} {C : Addr} {bm : List Value}
end
end L2
set_option Elab.async false
set_option linter.all false
set_option maxRecDepth 100000
set_option maxHeartbeats 0
namespace Kx
open PySem PySem.Spec PyProof.Rows L2 Wd
structure Bt0 (mg : Str → Option Value) : Prop where
  len : mg "len" = none
  repr : mg "repr" = none
  abs : mg "abs" = none
  max : mg "max" = none
  int : mg "int" = none
  list : mg "list" = none
  range : mg "range" = none
  reversed : mg "reversed" = none
  min : mg "min" = none
  sorted : mg "sorted" = none
  tuple : mg "tuple" = none
  isinstance : mg "isinstance" = none
  all : mg "all" = none
  str : mg "str" = none
  zip : mg "zip" = none
theorem jf : bootBuiltins "ValueError" = some (.type "ValueError") := by first | rfl | decide +kernel | kernel_rfl
theorem dec_int (j n : Nat) : decide (V.int (0+(j : Int))=V.int (n : Int))=decide (n=j) := by
  by_cases e : n=j
  · subst e;simp
  · rw [decide_eq_false e, decide_eq_false]
    intro z
    have := V.int.inj z
    omega
end Kx
set_option Elab.async false
set_option linter.all false
set_option maxRecDepth 100000
set_option maxHeartbeats 0
namespace L2
open PySem PySem.Spec PyProof.Rows Wd
section
variable {X : Cx}
inductive ipM (x y : V)(H : Hp)(Q : VK) : Prop
  | mk : ∀ i j, x = .int i → y = .int j → lN i j → Q (.int (i*j)) H → ipM x y H Q
theorem lj : PIp X .Mult ipM := by
  intro pins s σ H x y v u Q I r1 r2 h
  obtain ⟨i, j, e1, e2, hc, q⟩ := h
  subst e1;subst e2
  obtain ⟨t, rfl⟩ := r1
  obtain ⟨t', rfl⟩ := r2
  exact imul_int ⟨.int _, H, I.tok _, ⟨_, rfl⟩, q⟩ hc.ok
end
end L2
namespace Kx
open PySem PySem.Spec PyProof.Rows L2 Wd
theorem jg : bootBuiltins "dict" = some (.type "dict") := by kernel_rfl
theorem fG : bootBuiltins "sum" = some (.builtin "sum") := by kernel_rfl
end Kx
set_option Elab.async false
set_option linter.all false
set_option maxRecDepth 100000
set_option maxHeartbeats 0
namespace Kx
open PySem PySem.Spec PyProof.Rows L2 Wd
def rcN (m n : Nat) : Int := if n=0 then 1 else 2*(m : Int)*(2*(m : Int) - 1) ^ (n - 1)
def roN (m n : Nat) : Int := if n=0 then 1 else (2*(m : Int) - 1) ^ n+(m : Int)+(if n % 2=0 then 1 else -1)*((m : Int) - 1)
def bG (n : Nat) : List Nat := (List.range' 1 n).filter fun s => decide (n % s=0)
def rtN : Nat → Nat → Nat → Int
  | 0, _, _ => 0
  | k+1, m, n => if n=0 then 0 else (roN m n - (((bG n).filter fun s => decide (s < n)).map fun s : Nat => (s : Int)*rtN k m s).sum) / (n : Int)
def tcN (m n : Nat) : Int := if n=0 then 1 else ((bG n).map fun s : Nat => rtN 7 m s).sum
def cv (m n : Nat) : List Int := [rcN m n, roN m n, tcN m n, rtN 7 m n]
theorem cN {n s : Nat} : s∈bG n ↔ 1≤s ∧ s≤n ∧ n % s=0 := by
  unfold bG
  rw [List.mem_filter, List.mem_range', decide_eq_true_iff]
  constructor
  · rintro ⟨⟨i, hi, rfl⟩, h⟩
    exact ⟨by omega, by omega, h⟩
  · rintro ⟨h1, h2, h3⟩
    exact ⟨⟨s - 1, by omega, by omega⟩, h3⟩
theorem eW (n : Nat) : (bG n).length≤n := by
  unfold bG
  exact Nat.le_trans (List.length_filter_le _ _) (by rw [List.length_range'];exact Nat.le_refl _)
theorem dG {n s : Nat}(h : s∈bG n)(lt : s < n) : 2*s≤n := by
  obtain ⟨h1, h2, h3⟩ := cN.mp h
  obtain ⟨k, hk⟩ := Nat.dvd_of_mod_eq_zero h3
  rcases Nat.lt_or_ge k 2 with q | q
  · exfalso
    have : k=0 ∨ k=1 := by omega
    rcases this with rfl | rfl
    · omega
    · omega
  · have := Nat.mul_le_mul_left s q
    omega
inductive cy (vs : List L2.V)(H : Hp)(Q : VK)(E : XK) : Prop
  | mk : ∀ (b : Int) (n : Nat), vs=[.int b, .int (n : Int)] → -100≤b → b≤100 → n≤100 → Q (.int (b ^ n)) H → cy vs H Q E
inductive br (f : Nat → Nat → Int)(vs : List L2.V)(H : Hp)(Q : VK)(E : XK) : Prop
  | mk : ∀ (m n : Nat), vs=[.int (m : Int), .int (n : Int)] → 1≤m → m≤6 → n≤60 → (∀ H', ax H H' → Q (.int (f m n)) H') → br f vs H Q E
inductive gU (vs : List L2.V)(H : Hp)(Q : VK)(E : XK) : Prop
  | mk : ∀ (n : Nat), vs=[.int (n : Int)] → n≤60 → (∀ (l : Addr) (H' : Hp), H' l=some (.lst ((bG n).map fun s : Nat => L2.V.int (s : Int))) → ax H H' → Q (.ref l) H') → gU vs H Q E
inductive cO (k : Nat)(vs : List L2.V)(H : Hp)(Q : VK)(E : XK) : Prop
  | mk : ∀ (m n : Nat), vs=[.int (m : Int), .int (n : Int)] → 1≤m → m≤6 → n≤60 → n < 2 ^ k / 2 → (∀ H', ax H H' → Q (.int (rtN k m n)) H') → cO k vs H Q E
theorem gW {k n s : Nat}(h : n < 2 ^ (k+1) / 2)(hs : 1≤s)(h2 : 2*s≤n) : s < 2 ^ k / 2 := by
  have e : 2 ^ (k+1) / 2=2 ^ k := by rw [Nat.pow_succ];omega
  rw [e] at h
  cases k with
  | zero => simp at h;omega
  | succ k =>
    have e2 : 2 ^ (k+1) / 2=2 ^ k := by rw [Nat.pow_succ];omega
    rw [e2]
    rw [Nat.pow_succ] at h
    omega
inductive dH (vs : List L2.V)(H : Hp)(Q : VK)(E : XK) : Prop
  | mk : ∀ (m n : Nat), vs=[.int (m : Int), .int (n : Int)] → 1≤m → m≤6 → n≤60 → (∀ (l : Addr) (H' : Hp), H' l=some (.lst ((cv m n).map L2.V.int)) → ax H H' → Q (.ref l) H') → dH vs H Q E
theorem dI : ∀ {ps : List (Key × L2.V)} {p : Key × L2.V}, (ps.map Prod.fst).Nodup → p∈ps → bq ps p.1=some p.2
  | [], p, _, h => by cases h
  | q::ps, p, nd, h => by
    rw [List.map_cons, List.nodup_cons] at nd
    rcases List.mem_cons.mp h with rfl | h
    · exact aM rfl
    · rw [aN fun e => nd.1 (by rw [e];exact List.mem_map.mpr ⟨p, h, rfl⟩)]
      exact dI nd.2 h
theorem fx {ps : List (Key × L2.V)}{k : Key}(h : k∉ps.map Prod.fst) : bq ps k=none := by
  unfold bq
  rw [List.find?_eq_none.mpr]
  · rfl
  · intro p hp e
    exact h (List.mem_map.mpr ⟨p, hp, of_decide_eq_true e⟩)
theorem gX {ps : List (Key × L2.V)}(nd : (ps.map Prod.fst).Nodup) : fF ps=ps := by
  have go : ∀ (n : Nat) (qs : List (Key × L2.V)), qs.length=n → (∃ rs, ps=qs++rs) → fF qs=qs := fun n => by
    induction n with
    | zero => intro qs hn _;rw [List.eq_nil_of_length_eq_zero hn];rfl
    | succ n ih =>
      rintro qs hn ⟨rs, e⟩
      obtain ⟨us, u, rfl⟩ : ∃ us u, qs=us++[u] := ⟨qs.dropLast, qs.getLast (fun z => by rw [z] at hn;cases hn), (List.dropLast_concat_getLast _).symm⟩
      have hu := ih us (by rw [List.length_append] at hn;simpa using hn) ⟨u::rs, by rw [e, List.append_assoc];rfl⟩
      rw [L2.ei, hu]
      refine fj _ (fx fun hm => ?_)
      rw [e, List.append_assoc, List.map_append, List.nodup_append] at nd
      exact nd.2.2 _ hm _ (by simp) rfl
  exact go _ ps rfl ⟨[], (List.append_nil _).symm⟩
def sgN (m : Nat) : List L := ([0, 1, 2, 3, 4, 5] : List L).take m++([6, 7, 8, 9, 10, 11] : List L).take m
theorem jh (m : Nat) : sg (m : Int)=sgN m := by
  unfold sg sgN
  rw [Int.toNat_natCast]
theorem lp : ∀ m, m≤6 → (sgN m).Nodup := by decide
theorem jU : ∀ m, m≤6 → ∀ x∈sgN m, inv x∈sgN m := by decide
theorem mT : ∀ m, m≤6 → 1≤m → (6 : L)∈sgN m := by decide
def fT (a b c : Int)(x : L) : Int := if x=0 then a else if x=6 then b else c
theorem ji (a b c : Int) : ∀ m, 1≤m → m≤6 → ((sgN m).map (fT a b c)).sum=a+b+(2*(m : Int) - 2)*c := fun m h1 h6 => by
  have : m=1 ∨ m=2 ∨ m=3 ∨ m=4 ∨ m=5 ∨ m=6 := by omega
  rcases this with rfl | rfl | rfl | rfl | rfl | rfl <;> simp [sgN, fT] <;> omega
def tri (m : Nat) : Nat → Int × Int × Int
  | 0 => (1, 0, 0)
  | k+1 => let t := tri m k;let s := t.1+t.2.1+(2*(m : Int) - 2)*t.2.2;(s - t.2.1, s - t.1, s - t.2.2)
theorem jj (m : Nat) : ∀ k, (tri m k).1+(tri m k).2.1+(2*(m : Int) - 2)*(tri m k).2.2=(2*(m : Int) - 1) ^ k ∧ (tri m k).1 - (tri m k).2.1=1 ∧ (m : Int)*((tri m k).1+(tri m k).2.1)=(2*(m : Int) - 1) ^ k+((m : Int) - 1)*(-1) ^ k
  | 0 => by simp [tri];omega
  | k+1 => by
    obtain ⟨h1, h2, h3⟩ := jj m k
    simp only [tri]
    generalize (tri m k).1=a at *
    generalize (tri m k).2.1=b at *
    generalize (tri m k).2.2=c at *
    generalize hN : (2*(m : Int) - 1) ^ k=N at *
    generalize hE : (-1 : Int) ^ k=e at *
    rw [Int.pow_succ, Int.pow_succ, hN, hE]
    generalize (m : Int)=M at *
    refine ⟨by grind, by omega, by grind⟩
theorem gY (n : Nat) : (-1 : Int) ^ n=if n % 2=0 then 1 else -1 := by
  induction n with
  | zero => rfl
  | succ n ih =>
    rw [Int.pow_succ, ih]
    by_cases h : n % 2=0
    · rw [if_pos h, if_neg (by omega)];rfl
    · rw [if_neg h, if_pos (by omega)];rfl
theorem jV (m k : Nat) : 2*(m : Int)*((tri m k).1+(tri m k).2.1+(2*(m : Int) - 2)*(tri m k).2.2)=rcN m (k+1) ∧ 2*(m : Int)*((tri m k).1+(tri m k).2.1+(2*(m : Int) - 2)*(tri m k).2.2 - (tri m k).2.1)=roN m (k+1) := by
  obtain ⟨h1, h2, h3⟩ := jj m k
  unfold rcN roN
  rw [if_neg (Nat.succ_ne_zero _), if_neg (Nat.succ_ne_zero _), h1, Nat.add_sub_cancel, ← gY, Int.pow_succ, Int.pow_succ]
  refine ⟨rfl, ?_⟩
  generalize (tri m k).1=a at *
  generalize (tri m k).2.1=b at *
  generalize (2*(m : Int) - 1) ^ k=N at *
  generalize (-1 : Int) ^ k=e at *
  generalize (m : Int)=M at *
  grind
def dO (a b c : Int)(m : Nat) : List (Key × L2.V) := (sgN m).map fun x => (Sum.inr (toS [x]), L2.V.int (fT a b c x))
theorem eX {a b c : Int}{m : Nat}(h : m≤6) : ((dO a b c m).map Prod.fst).Nodup := by
  unfold dO
  rw [List.map_map]
  refine List.Pairwise.map _ (fun x y n e => n ?_) (lp m h)
  have := bC (Sum.inr.inj e)
  simpa using this
theorem eY {a b c : Int}{m : Nat}(h : m≤6){x : L}(hx : x∈sgN m) : bq (dO a b c m) (.inr (toS [x]))=some (.int (fT a b c x)) :=
  dI (p := (Sum.inr (toS [x]), L2.V.int (fT a b c x))) (eX h) (List.mem_map.mpr ⟨x, hx, rfl⟩)
inductive gZ (vs : List L2.V)(H : Hp)(Q : VK)(E : XK) : Prop
  | mk : ∀ (m n : Nat), vs=[.int (m : Int), .int (n : Int)] → 1≤m → m≤6 → 1≤n → n≤60 → (∀ (p : Addr) (H' : Hp), H' p=some (.tup [.int (rcN m n), .int (roN m n)]) → ax H H' → Q (.ref p) H') → gZ vs H Q E
def dvN (n j : Nat) : List Nat := ((List.range' 1 n).take j).filter fun s => decide (n % s=0)
theorem g0 (n : Nat) : dvN n n=bG n := by unfold dvN bG; rw [List.take_of_length_le (by rw [List.length_range']; exact Nat.le_refl _)]
theorem cz {n j : Nat}(h : j < n) : (List.range' 1 n)[j]? = some (j+1) := by rw [List.getElem?_range' h]; congr 1; omega
theorem fy {n j : Nat}(h : j < n) : dvN n (j+1)=dvN n j++if n % (j+1)=0 then [j+1] else [] := by
  unfold dvN
  rw [List.take_add_one, cz h, List.filter_append]
  congr 1
  by_cases q : n % (j+1)=0 <;> simp [q]
theorem eZ {n j s : Nat}(hj : j≤n) : s∈dvN n j ↔ 1≤s ∧ s≤j ∧ n % s=0 := by
  unfold dvN
  rw [List.mem_filter, decide_eq_true_iff, List.mem_take_iff_getElem]
  constructor
  · rintro ⟨⟨i, hi, e⟩, h⟩
    rw [List.length_range'] at hi
    rw [List.getElem_range'] at e
    exact ⟨by omega, by omega, h⟩
  · rintro ⟨h1, h2, h3⟩
    refine ⟨⟨s - 1, by rw [List.length_range'];omega, ?_⟩, h3⟩
    rw [List.getElem_range']
    omega
theorem jk (n j : Nat) : (dvN n j).Nodup := by
  unfold dvN
  exact ((List.nodup_range' (step := 1)).sublist (List.take_sublist _ _)).sublist List.filter_sublist
theorem g5 : ∀ (k m n : Nat), n < 2 ^ k / 2 → rtN k m n=rtN (k+1) m n
  | 0, m, n, h => absurd h (Nat.not_lt_zero _)
  | k+1, m, n, h => by
    rw [rtN, rtN]
    by_cases h0 : n=0
    · rw [if_pos h0, if_pos h0]
    · rw [if_neg h0, if_neg h0]
      congr 2
      congr 1
      refine List.map_congr_left fun s hs => ?_
      rw [List.mem_filter, decide_eq_true_iff] at hs
      rw [g5 k m s (gW h (cN.mp hs.1).1 (dG hs.1 hs.2))]
theorem g6 {n d : Nat}(hd : n % d=0)(h1 : 1≤d)(hn : d≤n) : (dvN n (d - 1)).filter (fun s => decide (d % s=0))=(bG d).filter fun s => decide (s < d) := by
  have e1 : (List.range' 1 n).take (d - 1)=(List.range' 1 d).take (d - 1) := by
    refine List.ext_getElem? fun i => ?_
    rw [List.getElem?_take, List.getElem?_take]
    split
    · rw [cz (by omega), cz (by omega)]
    · rfl
  have e2 : List.range' 1 d=(List.range' 1 d).take (d - 1)++[d] := by
    have := List.take_append_drop (d - 1) (List.range' 1 d)
    have hdrop : (List.range' 1 d).drop (d - 1)=[d] := by
      refine List.ext_getElem? fun i => ?_
      rw [List.getElem?_drop]
      cases i with
      | zero => rw [Nat.add_zero, cz (by omega)];congr 1;omega
      | succ i => rw [List.getElem?_eq_none (by rw [List.length_range'];omega)];simp
    rw [hdrop] at this
    exact this.symm
  unfold dvN bG
  rw [e1, e2, List.filter_append, List.filter_append, ← e2]
  have e3 : ([d].filter fun s => decide (d % s=0)).filter (fun s => decide (s < d))=[] := by simp
  rw [e3, List.append_nil, List.filter_filter, List.filter_filter]
  refine List.filter_congr fun s hs => ?_
  obtain ⟨i, hi, e⟩ := List.mem_take_iff_getElem.mp hs
  rw [List.getElem_range'] at e
  rw [List.length_range'] at hi
  have lt : s < d := by omega
  by_cases q : d % s=0
  · have : n % s=0 := Nat.mod_eq_zero_of_dvd (Nat.dvd_trans (Nat.dvd_of_mod_eq_zero q) (Nat.dvd_of_mod_eq_zero hd))
    simp [q, this, lt]
  · simp [q]
theorem lq {m n d : Nat}(hd : n % d=0)(h1 : 1≤d)(hn : d≤n)(h60 : n≤60) : (roN m d - (((dvN n (d - 1)).filter fun s => decide (d % s=0)).map fun s : Nat => (s : Int)*rtN 7 m s).sum) / (d : Int)=rtN 7 m d := by
  rw [g6 hd h1 hn]
  conv => rhs;rw [rtN, if_neg (by omega)]
  congr 2
  congr 1
  refine List.map_congr_left fun s hs => ?_
  rw [List.mem_filter, decide_eq_true_iff] at hs
  have := dG hs.1 hs.2
  rw [g5 6 m s (by show s < 32;omega)]
def bu (m : Nat)(l : List Nat) : List (Key × L2.V) := l.map fun s : Nat => (Sum.inl (s : Int), L2.V.int (rtN 7 m s))
theorem jW {m : Nat}{l : List Nat}(h : l.Nodup) : ((bu m l).map Prod.fst).Nodup := by
  unfold bu
  rw [List.map_map]
  exact List.Pairwise.map _ (fun a b n e => n (by have := Sum.inl.inj e;omega)) h
theorem e7 {m : Nat}{l : List Nat}(h : l.Nodup){s : Nat}(hs : s∈l) : bq (bu m l) (.inl (s : Int))=some (.int (rtN 7 m s)) :=
  dI (p := (Sum.inl (s : Int), L2.V.int (rtN 7 m s))) (jW h) (List.mem_map.mpr ⟨s, hs, rfl⟩)
theorem iQ {m s : Nat}{l : List Nat}(h : s∉l) : aV (bu m l) (.inl (s : Int)) (.int (rtN 7 m s))=bu m (l++[s]) := by
  rw [fj _ (fx fun hm => ?_)]
  · unfold bu;rw [List.map_append];rfl
  · unfold bu at hm
    rw [List.map_map] at hm
    obtain ⟨a, ha, e⟩ := List.mem_map.mp hm
    have := Sum.inl.inj e
    obtain rfl : a=s := by omega
    exact h ha
def jX (H : Hp)(m : Nat)(l : List Nat)(kvs : List (Key × L2.V)) : Prop := kvs.length≤l.length ∧ ∀ s∈l, ∃ p, bq kvs (.inl (s : Int))=some (.ref p) ∧ H p=some (.tup [.int (rcN m s), .int (roN m s)])
theorem jX.mono {H H' : Hp}{m : Nat}{l : List Nat}{kvs : List (Key × L2.V)}(h : jX H m l kvs)(k : ∀ p xs, H p=some (.tup xs) → H' p=some (.tup xs)) : jX H' m l kvs := ⟨h.1, fun s hs => let ⟨p, a, b⟩ := h.2 s hs; ⟨p, a, k _ _ b⟩⟩
theorem jX.put {H : Hp}{m s : Nat}{l : List Nat}{kvs : List (Key × L2.V)}{p : Addr}(h : jX H m l kvs)(hp : H p=some (.tup [.int (rcN m s), .int (roN m s)])) : jX H m (l++[s]) (aV kvs (.inl (s : Int)) (.ref p)) := by
  refine ⟨Nat.le_trans (aW _ _ _) (by rw [List.length_append];have := h.1;simp;omega), fun a ha => ?_⟩
  rw [iF]
  by_cases e : a=s
  · rw [e, if_pos rfl];exact ⟨p, rfl, hp⟩
  · rw [if_neg (fun z => e (by have := Sum.inl.inj z;omega))]
    rcases List.mem_append.mp ha with q | q
    · exact h.2 a q
    · exact absurd (List.mem_singleton.mp q) e
theorem dN.f {H : Hp}{a : Addr}{o : Obj}{kvs : List (Key × L2.V)}{k : Key}(e : H a=some (.frz o (.dK kvs))) : dN H a (kV k) (bq kvs k) := .inl ⟨kvs, k, .inr ⟨o, e⟩, rfl, rfl⟩
inductive e8 (vs : List L2.V)(H : Hp)(Q : VK)(E : XK) : Prop
  | mk : ∀ (m n : Nat), vs=[.int (m : Int), .int (n : Int)] → 1≤m → m≤6 → 1≤n → n≤60 → (∀ (l : Addr) (H' : Hp), H' l=some (.lst ((cv m n).map L2.V.int)) → ax H H' → Q (.ref l) H') → e8 vs H Q E
end Kx
set_option Elab.async false
set_option linter.all false
set_option maxRecDepth 100000
set_option maxHeartbeats 0
namespace Kx
open PySem PySem.Spec PyProof.Rows L2 Wd
def oN (x : L) : Nat := if Nat.blt x.val 6=true then x.val+6 else x.val - 6
def leB : List L → List L → Bool
  | [], _ => true
  | _::_, [] => false
  | x::a, y::b => if Nat.blt (oN x) (oN y)=true then true else if Nat.blt (oN y) (oN x)=true then false else leB a b
def eqB : List L → List L → Bool
  | [], [] => true
  | x::a, y::b => if Nat.beq x.val y.val=true then eqB a b else false
  | _, _ => false
theorem cP : ∀ {a b : List L}, eqB a b=true ↔ a=b
  | [], [] => by simp [eqB]
  | [], y::b => by simp [eqB]
  | x::a, [] => by simp [eqB]
  | x::a, y::b => by
    unfold eqB
    by_cases h : Nat.beq x.val y.val=true
    · rw [if_pos h, cP]
      have e : x=y := Fin.ext (Nat.eq_of_beq_eq_true h)
      subst e
      simp
    · rw [if_neg h]
      have ne : x≠y := fun e => h (by rw [e];exact Nat.beq_refl _)
      simp [ne]
def jY (a : List L) : List (List L) → List (List L)
  | [] => [a]
  | b::r => if leB a b=true then a::b::r else b::jY a r
def lr : List (List L) → List (List L)
  | [] => []
  | a::r => jY a (lr r)
theorem iR : ∀ x y : L, Nat.blt (oN x) (oN y)=true ↔ cp x < cp y := by decide +kernel
theorem e9 : ∀ {a b : List L}, leB a b=true ↔ a.map cp≤b.map cp
  | [], b => by simp [leB]
  | x::a, [] => by simp [leB]
  | x::a, y::b => by
    unfold leB
    rw [List.map_cons, List.map_cons, List.cons_le_cons_iff]
    by_cases h1 : cp x < cp y
    · rw [if_pos ((iR x y).mpr h1)]
      simp [h1]
    · rw [if_neg (fun z => h1 ((iR x y).mp z))]
      by_cases h2 : cp y < cp x
      · rw [if_pos ((iR y x).mpr h2)]
        have : ¬ cp x=cp y := by omega
        simp [h1, this]
      · rw [if_neg (fun z => h2 ((iR y x).mp z)), e9]
        have : cp x=cp y := by omega
        simp [h1, this]
theorem cQ (a : List L) : ∀ l, (jY a l).Perm (a::l)
  | [] => List.Perm.refl _
  | b::r => by
    unfold jY
    split
    · exact List.Perm.refl _
    · exact ((cQ a r).cons b).trans (List.Perm.swap a b r)
theorem cR : ∀ l, (lr l).Perm l
  | [] => List.Perm.refl _
  | a::r => (cQ a _).trans ((cR r).cons a)
theorem g8 {a : List L} : ∀ {l : List (List L)}, l.Pairwise (fun a b => a.map cp≤b.map cp) → (jY a l).Pairwise (fun a b => a.map cp≤b.map cp)
  | [], _ => by simp [jY]
  | b::r, h => by
    have h0 := h
    rw [List.pairwise_cons] at h
    unfold jY
    split
    · rename_i le
      have le := e9.mp le
      rw [List.pairwise_cons]
      refine ⟨fun c hc => ?_, h0⟩
      rcases List.mem_cons.mp hc with rfl | hc
      · exact le
      · exact List.le_trans le (h.1 c hc)
    · rename_i nle
      have ge : b.map cp≤a.map cp := by
        rcases List.le_total (a.map cp) (b.map cp) with q | q
        · exact absurd (e9.mpr q) nle
        · exact q
      rw [List.pairwise_cons]
      refine ⟨fun c hc => ?_, g8 h.2⟩
      rcases List.mem_cons.mp ((cQ a r).mem_iff.mp hc) with rfl | hc
      · exact ge
      · exact h.1 c hc
theorem g_ : ∀ l, (lr l).Pairwise (fun a b => a.map cp≤b.map cp)
  | [] => List.Pairwise.nil
  | a::r => g8 (g_ r)
theorem iS {V W : List (List L)}(p : V.Perm W)(so : sortedS (V.map toS)=true) : V=lr W := by
  have h1 : V.Pairwise (fun a b => a.map cp≤b.map cp) := List.Pairwise.of_map toS (fun a b h => h) (gP so)
  refine List.Perm.eq_of_pairwise (fun x y _ _ a b => ?_) h1 (g_ W) (p.trans (cR W).symm)
  exact bC (by unfold toS;rw [List.le_antisymm a b])
def rotN (n : Nat)(w : List L) : List (List L) := (List.range n).map fun k => w.drop k++w.take k
def whl (n : Nat)(w : List L) : List (List L) := lr (rotN n w)
def hG (l : List (List L × Bool))(k : List L)(b : Bool) : List (List L × Bool) := if (l.any fun p => eqB p.1 k)=true then l.map (fun p => if eqB p.1 k=true then (p.1, b) else p) else l++[(k, b)]
def cA (p : List L × Bool) : Key × L2.V := (.inr (toS p.1), .bl p.2)
theorem iT (l : List (List L × Bool))(k : List L)(b : Bool) : aV (l.map cA) (.inr (toS k)) (.bl b)=(hG l k b).map cA := by
  have e : ∀ p : List L × Bool, decide ((cA p).1=(Sum.inr (toS k) : Key))=eqB p.1 k := fun p => by
    rw [Bool.eq_iff_iff, decide_eq_true_iff, cP]
    exact ⟨fun h => bC (Sum.inr.inj h), fun h => by show (Sum.inr (toS p.1) : Key)=_;rw [h]⟩
  unfold aV hG
  have ea : ((l.map cA).any fun kv => decide (kv.1=(Sum.inr (toS k) : Key)))=l.any fun p => eqB p.1 k := by
    rw [List.any_map]
    exact congrArg l.any (funext fun p => e p)
  rw [ea]
  split
  · rw [List.map_map, List.map_map]
    refine List.map_congr_left fun p _ => ?_
    show (if (cA p).1=(Sum.inr (toS k) : Key) then ((cA p).1, L2.V.bl b) else cA p)=cA (if eqB p.1 k=true then (p.1, b) else p)
    by_cases h : eqB p.1 k=true
    · rw [if_pos h, if_pos (of_decide_eq_true ((e p).trans h))];rfl
    · rw [if_neg h, if_neg (fun z => h ((e p).symm.trans (decide_eq_true z)))]
  · rw [List.map_append];rfl
def ip (n : Nat)(w : List L) : Bool := match w[0]?, w[n - 1]? with | some a, some b => !(Nat.beq a.val (inv b).val) | _, _ => true
def iq (n : Nat)(w : List L) : Bool := if Nat.blt 1 n=true then (match whl n w with | a::b::_ => !(eqB a b) | _ => true) else true
def jm (n : Nat)(w : List L) : List L := (whl n w).headD []
def aQ (n : Nat)(own : List (List L)) : List (List L × Bool) := own.foldl (fun a w => hG a (jm n w) (iq n w)) []
def byL (W : List (List L)) : List Int :=
  let n := (W.headD []).length
  if n=0 then [1, 1, 1, 0] else [(W.length : Int), ((W.filter (ip n)).length : Int), ((aQ n (W.filter (ip n))).length : Int), (((aQ n (W.filter (ip n))).filter (·.2)).length : Int)]
def cS (m : Nat)(ws : List (List L)) : List (List L) := ws.flatMap fun w => ((sgN m).filter fun x => !(eqB [x] (bk (w.drop (w.length - 1))))).map fun x => w++[x]
def bw (F : List (List (List L))) : List (List L) := F.getLastD []
def lsF (m : Nat) : Nat → List (List (List L)) → List (List (List L))
  | 0, F => F
  | k+1, F => if (bw F).length*2*m≤1500 ∧ F.length < 9 then lsF m k (F++[cS m (bw F)]) else F
def cT (m : Nat) : List (List (List L)) := lsF m 9 [[[]]]
def ej (m : Nat) : Bool := (cT m).zipIdx.all fun p => decide (byL p.1=cv m p.2)
theorem mU : ej 1=true := by decide +kernel
theorem mV : ej 2=true := by decide +kernel
theorem mW : ej 3=true := by decide +kernel
theorem mX : ej 4=true := by decide +kernel
theorem mY : ej 5=true := by decide +kernel
theorem mZ : ej 6=true := by decide +kernel
end Kx
set_option Elab.async false
set_option linter.all false
set_option maxRecDepth 100000
set_option maxHeartbeats 0
namespace Kx
open PySem PySem.Spec PyProof.Rows L2 Wd
def LL (H : Hp)(rs : List Addr)(Ws : List (List (List L))) : Prop := rs.length=Ws.length ∧ ∀ (i : Nat) (r : Addr) (W : List (List L)), rs[i]? = some r → Ws[i]? = some W → H r=some (.lst (W.map tx))
theorem LL.snoc {H : Hp}{rs : List Addr}{ps : List (List (List L))}{r : Addr}{p : List (List L)}(h : LL H rs ps)(hr : H r=some (.lst (p.map tx))) : LL H (rs++[r]) (ps++[p]) := by
  obtain ⟨h1, h2⟩ := h
  refine ⟨by rw [List.length_append, List.length_append, h1];rfl, fun i a q ha hq => ?_⟩
  by_cases hi : i < rs.length
  · rw [List.getElem?_append_left hi] at ha
    rw [List.getElem?_append_left (by omega)] at hq
    exact h2 i a q ha hq
  · have hl := (List.getElem?_eq_some_iff.mp ha).1
    rw [List.length_append, List.length_singleton] at hl
    obtain rfl : i=rs.length := by omega
    rw [List.getElem?_append_right (Nat.le_refl _), Nat.sub_self] at ha
    rw [h1, List.getElem?_append_right (Nat.le_refl _), Nat.sub_self] at hq
    cases ha
    cases hq
    exact hr
theorem LL.mono {H H' : Hp}{rs : List Addr}{ps : List (List (List L))}(h : LL H rs ps)(k : ∀ r∈rs, ∀ xs, H r=some (.lst xs) → H' r=some (.lst xs)) : LL H' rs ps := ⟨h.1, fun i r p a b => k r (List.mem_of_getElem? a) _ (h.2 i r p a b)⟩
theorem iU {m k : Nat}{F : List (List (List L))}(h : ¬ ((bw F).length*2*m≤1500 ∧ F.length < 9)) : lsF m k F=F := by
  cases k with
  | zero => rfl
  | succ k => rw [lsF, if_neg h]
theorem fH (m : Nat)(ws : List (List L))(w : List L) : cS m (ws++[w])=cS m ws++((sgN m).filter fun x => !(eqB [x] (bk (w.drop (w.length - 1))))).map fun x => w++[x] := by
  unfold cS
  rw [List.flatMap_append, List.flatMap_singleton]
theorem er {m : Nat}(h6 : m≤6)(ws : List (List L)) : (cS m ws).length≤ws.length*2*m := by
  induction ws with
  | nil => exact Nat.zero_le _
  | cons w ws ih =>
    have e : cS m (w::ws)=((sgN m).filter fun x => !(eqB [x] (bk (w.drop (w.length - 1))))).map (fun x => w++[x])++cS m ws := by unfold cS;rw [List.flatMap_cons]
    have h1 : ((sgN m).filter fun x => !(eqB [x] (bk (w.drop (w.length - 1))))).length≤2*m := Nat.le_trans (List.length_filter_le _ _) (by unfold sgN;rw [List.length_append, List.length_take, List.length_take];show min m 6+min m 6≤_;omega)
    rw [e, List.length_append, List.length_map, List.length_cons, Nat.mul_assoc]
    rw [Nat.mul_assoc] at ih
    rw [Nat.add_mul, Nat.one_mul]
    omega
inductive dJ (vs : List L2.V)(H : Hp)(Q : VK)(E : XK) : Prop
  | mk : ∀ (m : Nat), vs=[.int (m : Int), .int 1500] → 1≤m → m≤6 → (∀ (l : Addr) (rs : List Addr) (H' : Hp), H' l=some (.lst (rs.map L2.V.ref)) → LL H' rs (cT m) → ax H H' → Q (.ref l) H') → dJ vs H Q E
inductive dM (vs : List L2.V)(H : Hp)(Q : VK)(E : XK) : Prop
  | mk : ∀ (a : Addr) (W : List (List L)) (n : Nat), vs=[.ref a] → H a=some (.lst (W.map tx)) → W≠[] → W.length≤2000 → n≤20 → (∀ w∈W, w.length=n) → (∀ (l : Addr) (H' : Hp), H' l=some (.lst ((byL W).map L2.V.int)) → ax H H' → Q (.ref l) H') → dM vs H Q E
end Kx
set_option Elab.async false
set_option linter.all false
set_option maxRecDepth 100000
set_option maxHeartbeats 0
namespace Kx
open PySem PySem.Spec PyProof.Rows L2 Wd
def okT (m n : Nat) : Bool := (cv m n).all fun x => decide (x.natAbs < 10 ^ 80)
theorem jZ : ∀ m : Fin 7, ∀ n : Fin 61, okT m.val n.val=true := by decide +kernel
def okF (m : Nat) : Bool := Nat.ble (cT m).length 10 && (cT m).zipIdx.all fun p => Nat.blt 0 p.1.length && Nat.ble p.1.length 2000 && p.1.all fun w => Nat.beq w.length p.2
theorem oi : okF 1=true := by decide +kernel
theorem oj : okF 2=true := by decide +kernel
theorem om : okF 3=true := by decide +kernel
theorem oo : okF 4=true := by decide +kernel
theorem oq : okF 5=true := by decide +kernel
theorem ou : okF 6=true := by decide +kernel
theorem lu {m i : Nat}{W : List (List L)}(m1 : 1≤m)(m6 : m≤6)(h : (cT m)[i]? = some W) : i < 10 ∧ W≠[] ∧ W.length≤2000 ∧ (∀ w∈W, w.length=i) ∧ byL W=cv m i := by
  have hF : okF m=true := by
    have : m=1 ∨ m=2 ∨ m=3 ∨ m=4 ∨ m=5 ∨ m=6 := by omega
    rcases this with rfl | rfl | rfl | rfl | rfl | rfl
    · exact oi
    · exact oj
    · exact om
    · exact oo
    · exact oq
    · exact ou
  have hC : ej m=true := by
    have : m=1 ∨ m=2 ∨ m=3 ∨ m=4 ∨ m=5 ∨ m=6 := by omega
    rcases this with rfl | rfl | rfl | rfl | rfl | rfl
    · exact mU
    · exact mV
    · exact mW
    · exact mX
    · exact mY
    · exact mZ
  unfold okF at hF
  unfold ej at hC
  rw [Bool.and_eq_true, List.all_eq_true] at hF
  rw [List.all_eq_true] at hC
  have hm : (W, i)∈(cT m).zipIdx := List.mk_mem_zipIdx_iff_getElem?.mpr h
  have a := hF.2 _ hm
  have b := hC _ hm
  have c := (List.getElem?_eq_some_iff.mp h).1
  have d := Nat.le_of_ble_eq_true hF.1
  rw [Bool.and_eq_true, Bool.and_eq_true, List.all_eq_true] at a
  refine ⟨by omega, fun e => ?_, Nat.le_of_ble_eq_true a.1.2, fun w hw => Nat.eq_of_beq_eq_true (a.2 w hw), of_decide_eq_true b⟩
  have := a.1.1
  rw [e] at this
  cases this
theorem eu : ∀ (ns : List Int), (∀ x∈ns, x.natAbs < 10 ^ 80) → PyData.showableAll (ns.map PyData.int)=true ∧ PyData.hasDictAll (ns.map PyData.int)=false ∧ PyData.depthAll (ns.map PyData.int)=0 ∧ PyData.leavesShortAll 81 (ns.map PyData.int)=true ∧ PyData.weightAll (ns.map PyData.int)≤ns.length*2000
  | [], _ => ⟨rfl, rfl, rfl, rfl, Nat.zero_le _⟩
  | x::r, h => by
    obtain ⟨a, b, c, d, e⟩ := eu r fun y hy => h y (List.mem_cons_of_mem _ hy)
    have hx := h x List.mem_cons_self
    have h2 : x.natAbs.log2 < 1920 := by
      by_cases z : x.natAbs=0
      · rw [z];decide
      · exact (Nat.log2_lt z).mpr (Nat.lt_of_lt_of_le hx (by decide +kernel))
    refine ⟨?_, ?_, ?_, ?_, ?_⟩
    · show (PyData.showable (.int x) && PyData.showableAll (r.map PyData.int))=true
      rw [a, Bool.and_true]
      exact decide_eq_true h2
    · show (PyData.hasDict (.int x) || PyData.hasDictAll (r.map PyData.int))=false
      rw [b];rfl
    · show max (PyData.depth (.int x)) (PyData.depthAll (r.map PyData.int))=0
      rw [c];rfl
    · show (PyData.leavesShort 81 (.int x) && PyData.leavesShortAll 81 (r.map PyData.int))=true
      rw [d, Bool.and_true]
      refine decide_eq_true ?_
      rw [PyData.shown_int]
      show (Str.ofString (toString x)).length≤81
      have := int_text_length_le10 (a := x) (k := 80) (by decide) hx
      rw [PySem.ofString_length]
      exact this
    · show PyData.weight (.int x)+1+PyData.weightAll (r.map PyData.int)≤(r.length+1)*2000
      have : PyData.weight (.int x)≤1920 := by unfold PyData.weight;split <;> omega
      omega
theorem eA {m n : Nat}(m6 : m≤6)(hn : n≤60) : Sh (.list ((cv m n).map PyData.int)) := by
  have h : ∀ x∈cv m n, x.natAbs < 10 ^ 80 := fun x hx => of_decide_eq_true (List.all_eq_true.mp (jZ ⟨m, by omega⟩ ⟨n, by omega⟩) x hx)
  obtain ⟨a, b, c, d, e⟩ := eu _ h
  have e4 : (cv m n).length=4 := rfl
  refine ⟨a, b, by show PyData.depthAll _+1≤10;omega, ?_⟩
  have := PyData.shown_le 81 (by decide) (.list ((cv m n).map PyData.int)) d
  have w : PyData.weight (.list ((cv m n).map PyData.int))=PyData.weightAll ((cv m n).map PyData.int) := rfl
  rw [w] at this
  have e : sizeLine=16777216 := sizeLine_eq
  rw [e]
  omega
end Kx
set_option Elab.async false
set_option linter.all false
set_option maxRecDepth 100000
set_option maxHeartbeats 0
namespace Kx
open PySem PySem.Spec PyProof.Rows L2 Wd
def top (i : Nat) : Stmt := PySem.Challenge.pw_ringwords_k73_counts_by_formulas.main.body.getD i (.Pass ⟨0, 0, 0, 0⟩)
theorem lT {α : Type}{us : List α}(h : us.length=1) : ∃ a0, us=[a0] := by
  cases us with
  | nil => cases h
  | cons a0 us =>
    cases us with
    | nil => exact ⟨a0, rfl⟩
    | cons b us => cases h
theorem hJ {α : Type}{us : List α}(h : us.length=2) : ∃ a0 a1, us=[a0, a1] := by
  cases us with
  | nil => cases h
  | cons a0 us =>
    cases us with
    | nil => cases h
    | cons a1 us =>
      cases us with
      | nil => exact ⟨a0, a1, rfl⟩
      | cons b us => cases h
end Kx
set_option Elab.async false
set_option linter.all false
set_option maxRecDepth 100000
set_option maxHeartbeats 0
namespace Kx
open PySem PySem.Spec PyProof.Rows L2 Wd
section
variable {P : Program} {w : World} {K : PySem.W.Frag} {mg : Str → Option Value} {base : Heap} {aB : Addr}
abbrev eB : Stmt := top 9
theorem j0 : aG ["_law_feed_here", "_law_many", "_law_cell", "_law_mixed", "_law_found"] ["_law_feed_here", "_law_many"] (ai eB) := ⟨rfl, rfl, rfl, by decide +kernel, rfl, by decide +kernel, by decide +kernel⟩
theorem ly (D : Df K mg "_law_draw" eB)(T : Bt0 mg) : Fnc P w K mg base "_law_draw" ["_law_feed_here", "_law_many"] 1 gL := by
  have sc := j0
  refine D.ok sc (fun _ _ _ _ _ _ us hl => by obtain ⟨_, _, rfl⟩ := hJ hl;rfl) (fun vs H Q E h => ?_) (fun f cdv A outer s H vs Q E hr h => ?_)
  · obtain ⟨d, m, rfl, _⟩ := h
    rfl
  · obtain ⟨d, m, rfl, F, m0, m1, k⟩ := h
    have hu := gz hr
    refine ⟨_, (@ag _ _ _ _ _ (@bP _ _ _ _ _ _ _ _ _ hu (pv 0) aE (@ao _ _ _ _ _ _ _ _ bt (@aD _ _ _ _ _ _ hu (pv 0) aE (fun _ _ => rfl)) ae) rfl) (@ag _ _ _ _ _ (@cW _ _ _ _ _ _ _ _ (@aF _ _ _ _ _ _ _ _ cq (@aD _ _ _ _ _ _ hu (pv 0) aE (fun _ _ => rfl)) ae (aK _)) (@ag _ _ _ _ _ (@aH _ _ (2) _ _ _ _ sc.nd rfl (Or.inl rfl) (@cu _ _ _ _ _ _ _ bO (@aD _ _ _ _ _ _ hu (pv 0) aE (fun _ _ => rfl)) (@ao _ _ _ _ _ _ _ _ bH (@aD _ _ _ _ _ _ hu (pv 0) aE (fun _ _ => rfl)) (@aq _ _ _ _ _ _ _ _ _ aA (by rfl) T.len PySem.boot_len (@aa _ _ _ _ _ (@aD _ _ _ _ _ _ hu (pv 0) aE (fun _ _ => rfl)) ah (by rfl)) (by decide) (by decide) (by rfl) (by rfl))) (fun _ _ => rfl)) (by rfl) (by first | exact .inl rfl | exact .inr rfl | assumption)) (@ag _ _ _ _ _ (@bP _ _ _ _ _ _ _ _ _ hu (pv 0) aE (@ao _ _ _ _ _ _ _ _ bt (@aD _ _ _ _ _ _ hu (pv 0) aE (fun _ _ => rfl)) ae) rfl) (@ag _ _ _ _ _ (@cW _ _ _ _ _ _ _ _ (@aF _ _ _ _ _ _ _ _ jx (pv 2) (@ao _ _ _ _ _ _ _ _ kr ae ae) (aK _)) (@ag _ _ _ _ _ (@aH _ _ (3) _ _ _ _ sc.nd rfl (Or.inl rfl) (@ao _ _ _ _ _ _ _ _ bH (@ao _ _ _ _ _ _ _ _ aP (@ao _ _ _ _ _ _ _ _ bt (@ao _ _ _ _ _ _ _ _ bH (pv 2) ae) (@ao _ _ _ _ _ _ _ _ aP ae (@aD _ _ _ _ _ _ hu (pv 0) aE (fun _ _ => rfl)))) ae) ae) (by rfl) (by first | exact .inl rfl | exact .inr rfl | assumption)) (@ag _ _ _ _ _ (@aH _ _ (3) _ _ _ _ sc.nd rfl (Or.inl rfl) (@ao _ _ _ _ _ _ _ _ bH (@ao _ _ _ _ _ _ _ _ aP (@ao _ _ _ _ _ _ _ _ bt (@ao _ _ _ _ _ _ _ _ cC (pv 3) ae) (@ao _ _ _ _ _ _ _ _ aP ae (@aD _ _ _ _ _ _ hu (pv 0) aE (fun _ _ => rfl)))) ae) ae) (by rfl) (by first | exact .inl rfl | exact .inr rfl | assumption)) (@ak _ _ _ (@aI _ _ _ _ (@ao _ _ _ _ _ _ _ _ bH (@ao _ _ _ _ _ _ _ _ cC (pv 3) ae) (pv 1)))))) bc) (@ak _ _ _ (@bP _ _ _ _ _ _ _ _ _ hu (pv 0) aE (pv 2) rfl))))) bc) (@ag _ _ _ _ _ (@aH _ _ (4) _ _ _ _ sc.nd rfl (Or.inl rfl) (@ao _ _ _ _ _ _ _ _ bH (@aD _ _ _ _ _ _ hu (pv 0) aE (fun _ _ => rfl)) (pv 1)) (by rfl) (by first | exact .inl rfl | exact .inr rfl | assumption)) (@ag _ _ _ _ _ (@bP _ _ _ _ _ _ _ _ _ hu (pv 0) aE (@ao _ _ _ _ _ _ _ _ cC (@aD _ _ _ _ _ _ hu (pv 0) aE (fun _ _ => rfl)) (pv 1)) rfl) (@ak _ _ _ (@aI _ _ _ _ (pv 4))))))), ?_⟩
    obtain ⟨c, i, l, t, ns, hd, hc, hne, h64⟩ := F.ex
    have dc : c≠d := jo hc hd (by intro z;cases z)
    have fin : ∀ (r i' l' t' : Int), 0≤r → r < m → Q (.int r) (upd H d (.dK (fkv c i' l' t'))) := fun r i' l' t' h0 h1 =>
      k r _ h0 h1 ⟨c, i', l', t', ns, ab, by rw [aj dc];exact hc, hne, h64⟩ iM.upd
    have c1 : ∀ o, (upd H d o) c=some (.lst (ns.map V.int)) := fun o => by rw [aj dc];exact hc
    have hl0 : (0 : Int) < ((ns.map V.int).length : Int) := by
      rw [List.length_map]
      have := List.length_pos_iff.mpr hne
      omega
    refine ⟨_, rfl, d, _, rfl, dg hd (gJ c i l t), _, _, rfl, rfl, _, rfl, d, _, rfl, dp hd (cM c i l t) (kX c i l t _), ?_⟩
    refine ⟨_, rfl, d, _, rfl, dg ab (ee c i l _), rfl, _, rfl, ?_⟩
    refine mD (fun _ => ?_) (fun _ => ?_)
    rotate_left
    · refine ⟨_, rfl, d, _, rfl, dg ab (ee c _ _ _), _, rfl, _, _, rfl, rfl, m0, ?_⟩
      refine ⟨_, rfl, d, _, rfl, dg ab (ee c _ _ _), _, rfl, _, _, rfl, rfl, ⟨m0, by omega⟩, _, rfl, d, _, rfl, dp ab (cM c _ _ _) (gK c _ _ _ _), ?_⟩
      refine ⟨_, rfl, ?_⟩
      rw [du]
      exact fin _ _ _ _ (Int.emod_nonneg _ (by omega)) (Int.emod_lt_of_pos _ m0)
    obtain ⟨n, hn⟩ := jQ hne i
    refine ⟨_, rfl, d, _, rfl, dg ab (gI c i l _), _, rfl, d, _, rfl, dg ab (nA c i l _), _, rfl, d, _, rfl, dg ab (gI c i l _), c, _, rfl, .inl (SqL.of (c1 _)), _, _, rfl, rfl, hl0, c, _, _, _, rfl, rfl, SqL.of (c1 _), hn, ?_⟩
    refine ⟨_, rfl, d, _, rfl, dg ab (nA c i l _), _, _, rfl, rfl, _, rfl, d, _, rfl, dp ab (cM c i l _) (n6 c i l _ _), ?_⟩
    rw [du]
    refine ⟨_, rfl, _, _, rfl, rfl, ⟨by decide, by decide, by decide⟩, _, _, rfl, rfl, _, rfl, ?_⟩
    refine mD (fun _ => ?_) (fun _ => ?_)
    · refine ⟨_, rfl, _, _, rfl, rfl, (by show (0 : Int) < 2147483629;decide), _, rfl, d, _, rfl, dg ab (gJ c _ l _), _, _, rfl, rfl, .inl ⟨by decide, by decide⟩, _, _, rfl, rfl, _, _, rfl, rfl, .inr ⟨by decide, by decide⟩, _, _, rfl, rfl, (by show (0 : Int) < 2147483647;decide), ?_⟩
      refine ⟨_, rfl, _, _, rfl, rfl, ⟨by decide, by decide⟩, _, rfl, d, _, rfl, dg ab (gJ c _ l _), _, _, rfl, rfl, .inl ⟨by decide, by decide⟩, _, _, rfl, rfl, _, _, rfl, rfl, .inr ⟨by decide, by decide⟩, _, _, rfl, rfl, (by show (0 : Int) < 2147483587;decide), ?_⟩
      refine ⟨_, rfl, _, _, rfl, rfl, ⟨by decide, by decide⟩, _, rfl, _, _, rfl, rfl, m0, ?_⟩
      exact fin _ _ _ _ (Int.emod_nonneg _ (by omega)) (Int.emod_lt_of_pos _ m0)
    · refine ⟨_, rfl, _, rfl, d, _, rfl, dp ab (cM c _ l _) (gK c _ l _ _), ?_⟩
      rw [du]
      refine ⟨_, rfl, d, _, rfl, dg ab (ee c _ _ _), _, rfl, _, _, rfl, rfl, m0, ?_⟩
      refine ⟨_, rfl, d, _, rfl, dg ab (ee c _ _ _), _, rfl, _, _, rfl, rfl, ⟨m0, by omega⟩, _, rfl, d, _, rfl, dp ab (cM c _ _ _) (gK c _ _ _ _), ?_⟩
      refine ⟨_, rfl, ?_⟩
      rw [du]
      exact fin _ _ _ _ (Int.emod_nonneg _ (by omega)) (Int.emod_lt_of_pos _ m0)
abbrev eC : Stmt := top 8
theorem j1 : aG ["_law_script"] ["_law_script"] (ai eC) := ⟨rfl, rfl, rfl, by decide +kernel, rfl, by decide +kernel, by decide +kernel⟩
theorem lz (D : Df K mg "_law_feed" eC)(T : Bt0 mg) : Fnc P w K mg base "_law_feed" ["_law_script"] 1 (gM K) := by
  have sc := j1
  refine D.ok sc (fun _ _ _ _ _ _ us hl => by obtain ⟨_, rfl⟩ := lT hl;rfl) (fun vs H Q E h => ?_) (fun f cdv A outer s H vs Q E hr h => ?_)
  · obtain ⟨a, ns, rfl, _⟩ := h
    rfl
  · obtain ⟨a, ns, rfl, hS, hlen, k⟩ := h
    have hu := gz hr
    refine ⟨_, (@ak _ _ _ (@aI _ _ _ _ (@jM _ _ _ _ _ (@cw _ _ _ _ _ _ _ _ _ aE (@ao _ _ _ _ _ _ _ _ i_ (@bx _ _ _ _ _ _ _ _ _ d3 (by rfl) T.list kY (@aa _ _ _ _ _ (@a_ _ _ _ _ _ _ _ _ _ _ jF (pv 0) bz (@bA _ _ _ ae)) ah (by rfl)) (by decide) (by decide) (by rfl) (by rfl)) (@ao _ _ _ _ _ _ _ _ kJ (@bI _ _ _ _ (@aa _ _ _ _ _ ae ah (by rfl))) (@bx _ _ _ _ _ _ _ _ _ dS (by rfl) T.int kZ (@aa _ _ _ _ _ (@eL _ _ _ _ _ _ _ _ cq (@aq _ _ _ _ _ _ _ _ _ aA (by rfl) T.len PySem.boot_len (@aa _ _ _ _ _ (pv 0) ah (by rfl)) (by decide) (by decide) (by rfl) (by rfl)) ae (aK _)) ah (by rfl)) (by decide) (by decide) (by rfl) (by rfl)))) (@cw _ _ _ _ _ _ _ _ _ aE ae (@cw _ _ _ _ _ _ _ _ _ aE ae (@cw _ _ _ _ _ _ _ _ _ aE ae jL)))) rfl rfl (by simp) (by decide)))), ?_⟩
    intro p hp
    have s1 : ax H (upd H p (.dK [])) := ax.new hp
    have p1 : (upd H p (.dK [])) p=some (.dK []) := ab
    generalize upd H p (.dK [])=H1 at s1 p1
    refine ⟨_, rfl, _, rfl, a, _, rfl, s1.seq hS, fun q1 hq1 => ?_⟩
    rw [mL hlen]
    have s2 : ax H1 (upd H1 q1 (.lst (ns.map V.int))) := ax.new hq1
    have l2 : (upd H1 q1 (.lst (ns.map V.int))) q1=some (.lst (ns.map V.int)) := ab
    generalize upd H1 q1 (.lst (ns.map V.int))=H2 at s2 l2 ⊢
    refine ⟨q1, _, rfl, .inl (SqL.of l2), fun q2 hq2 => ?_⟩
    have s3 : ax H2 (upd H2 q2 (.lst (ns.map V.int))) := ax.new hq2
    have l3 : (upd H2 q2 (.lst (ns.map V.int))) q2=some (.lst (ns.map V.int)) := ab
    generalize upd H2 q2 (.lst (ns.map V.int))=H3 at s3 l3 ⊢
    refine ⟨(by show 1≤sizeLine;decide), fun q4 hq4 => ?_⟩
    have s4 : ax H3 (upd H3 q4 (.lst [V.int 0])) := ax.new hq4
    have l4 : (upd H3 q4 (.lst [V.int 0])) q4=some (.lst [V.int 0]) := ab
    generalize upd H3 q4 (.lst [V.int 0])=H4 at s4 l4 ⊢
    have s14 : ax H H4 := ((s1.trans s2).trans s3).trans s4
    refine ⟨_, rfl, a, _, rfl, .inl (s14.seq hS), rfl, .inr ⟨_, rfl, q4, _, _, rfl, rfl, l4, ?_, ?_, ?_, fun q5 hq5 => ?_⟩⟩
    · split <;> decide
    · split <;> decide
    · split <;> decide
    have s5 : ax H4 (upd H4 q5 (.lst (List.replicate ((if decide (V.int ((ns.map V.int).length : Int)=V.int 0)=true then 1 else 0 : Int)).toNat [V.int 0]).flatten)) := ax.new hq5
    have l5 : (upd H4 q5 (.lst (List.replicate ((if decide (V.int ((ns.map V.int).length : Int)=V.int 0)=true then 1 else 0 : Int)).toNat [V.int 0]).flatten)) q5=_ := ab
    generalize upd H4 q5 (.lst (List.replicate ((if decide (V.int ((ns.map V.int).length : Int)=V.int 0)=true then 1 else 0 : Int)).toNat [V.int 0]).flatten)=H5 at s5 l5 ⊢
    refine ⟨q2, q5, _, _, rfl, rfl, s5 _ _ (s4 _ _ l3), l5, ?_, fun q6 hq6 => ?_⟩
    · have e : (List.replicate ((if decide (V.int ((ns.map V.int).length : Int)=V.int 0)=true then 1 else 0 : Int)).toNat [V.int 0]).flatten.length≤1 := by split <;> decide
      have e2 : sizeLine=16777216 := sizeLine_eq
      have e3 : (ns.map V.int).length=ns.length := List.length_map ..
      omega
    have el : ns.map V.int++(List.replicate ((if decide (V.int ((ns.map V.int).length : Int)=V.int 0)=true then 1 else 0 : Int)).toNat [V.int 0]).flatten=(if ns=[] then [0] else ns).map V.int := by
      cases ns with
      | nil => rfl
      | cons n r =>
        have en : ¬ (decide (V.int (((n::r).map V.int).length : Int)=V.int 0)=true) := by
          rw [List.length_map, List.length_cons]
          simp only [V.int.injEq, decide_eq_true_eq]
          omega
        rw [if_neg en, if_neg (by simp)]
        simp
    rw [el]
    have s6 : ax H5 (upd H5 q6 (.lst ((if ns=[] then [0] else ns).map V.int))) := ax.new hq6
    have l6 : (upd H5 q6 (.lst ((if ns=[] then [0] else ns).map V.int))) q6=_ := ab
    generalize upd H5 q6 (.lst ((if ns=[] then [0] else ns).map V.int))=H6 at s6 l6 ⊢
    have p6 : H6 p=some (.dK []) := s6 _ _ (s5 _ _ (s4 _ _ (s3 _ _ (s2 _ _ p1))))
    have pq : q6≠p := jo l6 p6 (by intro z;cases z)
    refine ⟨p6, fkv q6 0 0 0, rfl, (by show 4≤15;decide), ?_⟩
    rw [mJ]
    refine k p _ hp ⟨q6, 0, 0, 0, (if ns=[] then [0] else ns), ab, by rw [aj pq];exact l6, ?_, ?_⟩ fun b o e => ?_
    · split
      · simp
      · assumption
    · split
      · decide
      · omega
    · rw [aj (af e hp)]
      exact s6 _ _ (s5 _ _ (s14 _ _ e))
end
end Kx
set_option Elab.async false
set_option linter.all false
set_option maxRecDepth 100000
set_option maxHeartbeats 0
namespace Kx
open PySem PySem.Spec PyProof.Rows L2 Wd
section
variable {P : Program} {w : World} {K : PySem.W.Frag} {mg : Str → Option Value} {base : Heap} {aB : Addr}
abbrev cU : Stmt := top 10
theorem iV : aG ["_law_word", "_law_found", "_law_sign"] ["_law_word"] (ai cU) := ⟨rfl, rfl, rfl, by decide +kernel, rfl, by decide +kernel, by decide +kernel⟩
theorem j2 (D : Df K mg "_law_back" cU) : Fnc P w K mg base "_law_back" ["_law_word"] 1 k_ := by
  have sc := iV
  refine D.ok sc (fun _ _ _ _ _ _ us hl => by obtain ⟨_, rfl⟩ := lT hl;rfl) (fun vs H Q E h => ?_) (fun f cdv A outer s H vs Q E hr h => ?_)
  · obtain ⟨u, rfl, _⟩ := h
    rfl
  · obtain ⟨u, rfl, hu, k⟩ := h
    have l16 := bp
    refine ⟨_, (@ag _ _ _ _ _ (@aH _ _ (1) _ _ _ _ sc.nd rfl (Or.inl rfl) aE (by rfl) (by first | exact .inl rfl | exact .inr rfl | assumption)) (@ag _ _ _ _ _ (@bT _ _ _ _ _ _ _ _ PassesOwn.never rfl (@de _ _ _ _ (pv 0)) (@ar _ _ (2) _ sc.nd rfl (Or.inl rfl) (by first | exact .inl rfl | exact .inr rfl | assumption)) (@ak _ _ _ (@aH _ _ (1) _ _ _ _ sc.nd rfl (Or.inl rfl) (@ao _ _ _ _ _ _ _ _ bj (@dw _ _ _ _ _ _ _ _ (@aF _ _ _ _ _ _ _ _ f_ (pv 2) aE rfl) (@i9 _ _ _ _ _ _ _ _ _ PySem.F.plainAttrs_str PySem.F.slot_str_upper PySem.F.type_str_upper iJ (pv 2) (by rfl) (by rfl)) (@i9 _ _ _ _ _ _ _ _ _ PySem.F.plainAttrs_str PySem.F.slot_str_lower PySem.F.type_str_lower iK (pv 2) (by rfl) (by rfl))) (pv 1)) (by rfl) (by first | exact .inl rfl | exact .inr rfl | assumption))) (by intro _ ;rfl)) (@ak _ _ _ (@aI _ _ _ _ (pv 1))))), ?_⟩
    refine ⟨_, rfl, _, rfl, jN (z := toS u) (fun i σ H' => ∃ v, σ = [some (tx u), some (tx (bk (u.take i))), v] ∧ H'=H) ⟨none, (by rw [List.take_zero];show _=[some (tx u), some (tx []), none];rw [jd];rfl), rfl⟩ ?_ ?_⟩
    · rintro i c σ H1 hc ⟨v, rfl, rfl⟩
      obtain ⟨x, hx, e⟩ := cL hc
      rw [e]
      have hi : i < u.length := (List.getElem?_eq_some_iff.mp hx).1
      have fin : ∀ z, z=toS [inv x] → ∃ v', [some (tx u), some (V.str (z++toS (bk (u.take i)))), some (V.str (toS [x]))]=[some (tx u), some (tx (bk (u.take (i+1)))), v'] ∧ H1=H1 := fun z ez => by
        refine ⟨some (V.str (toS [x])), ?_, rfl⟩
        rw [ez, ft, gN hx, gC]
        rfl
      have room : ∀ z, z=toS [inv x] → z.length+(toS (bk (u.take i))).length≤sizeLine := fun z ez => by
        rw [ez, az, az, gD, List.length_take]
        simp only [List.length_singleton]
        omega
      refine ⟨_, rfl, _, _, rfl, rfl, _, rfl, ?_⟩
      rw [iL]
      refine mD (fun h => ?_) (fun h => ?_)
      · have h : x.val < 6 := by simpa using h
        exact ⟨_, rfl, rfl, _, rfl, rfl, (by rw [az];show 1≤5592405;decide), _, rfl, _, _, rfl, rfl, room _ (d9 h), fin _ (d9 h)⟩
      · have h : ¬ x.val < 6 := by simpa using h
        exact ⟨_, rfl, rfl, _, rfl, rfl, (by rw [az];show 1≤5592405;decide), _, rfl, _, _, rfl, rfl, room _ (d_ h), fin _ (d_ h)⟩
    · rintro σ H1 ⟨v, rfl, rfl⟩
      rw [aS, List.take_length]
      exact ⟨_, rfl, k _ (ax.refl _)⟩
end
end Kx
set_option Elab.async false
set_option linter.all false
set_option maxRecDepth 100000
set_option maxHeartbeats 0
namespace Kx
open PySem PySem.Spec PyProof.Rows L2 Wd
section
variable {P : Program} {w : World} {K : PySem.W.Frag} {mg : Str → Option Value} {base : Heap} {aB : Addr}
abbrev b8 : Stmt := top 2
theorem hX : aG ["base", "number", "told", "turn"] ["base", "number"] (ai b8) := ⟨rfl, rfl, rfl, by decide +kernel, rfl, by decide +kernel, by decide +kernel⟩
theorem iW (D : Df K mg "raised" b8)(T : Bt0 mg) : Fnc P w K mg base "raised" ["base", "number"] 1 cy := by
  have sc := hX
  refine D.ok sc (fun _ _ _ _ _ _ us hl => by obtain ⟨_, _, rfl⟩ := hJ hl;rfl) (fun vs H Q E h => ?_) (fun f cdv A outer s H vs Q E hr h => ?_)
  · obtain ⟨b, n, rfl, _⟩ := h
    rfl
  · obtain ⟨b, n, rfl, b1, b2, hn, k⟩ := h
    have l16 := bp
    refine ⟨_, (@ag _ _ _ _ _ (@aH _ _ (2) _ _ _ _ sc.nd rfl (Or.inl rfl) ae (by rfl) (by first | exact .inl rfl | exact .inr rfl | assumption)) (@ag _ _ _ _ _ (@bT _ _ _ _ _ _ _ _ PassesOwn.never rfl (@bS _ _ _ _ _ _ rfl T.range (@aa _ _ _ _ _ (pv 1) ah (by rfl)) (by rfl)) (@ar _ _ (3) _ sc.nd rfl (Or.inl rfl) (by first | exact .inl rfl | exact .inr rfl | assumption)) (@ak _ _ _ (@km _ _ (2) _ _ _ _ _ _ sc.nd rfl (Or.inl rfl) (pv 0) lj (by first | exact .inl rfl | exact .inr rfl | assumption))) (by intro _ ;rfl)) (@ak _ _ _ (@aI _ _ _ _ (pv 2))))), ?_⟩
    refine ⟨_, rfl, _, rfl, by omega, by omega, ?_⟩
    rw [Int.toNat_natCast]
    refine bU (lo := 0) (n := n) (fun i σ H' => ∃ v : Option V, σ = [some (.int b), some (.int (n : Int)), some (.int (b ^ i)), v] ∧ H'=H) ⟨none, by rw [Int.pow_zero];rfl, rfl⟩ ?_ ?_
    · rintro i σ H1 hi ⟨v, rfl, rfl⟩
      refine ⟨_, rfl, _, rfl, _, _, rfl, rfl, .inr ⟨by omega, by omega⟩, ?_⟩
      exact ⟨_, by rw [Int.pow_succ];rfl, rfl⟩
    · rintro σ H1 ⟨v, rfl, rfl⟩
      exact ⟨_, rfl, k⟩
abbrev lA : Stmt := top 1
theorem m3 : aG ["many", "length"] ["many", "length"] (ai lA) := ⟨rfl, rfl, rfl, by decide +kernel, rfl, by decide +kernel, by decide +kernel⟩
theorem ow (D : Df K mg "reduced_count" lA)(T : Bt0 mg)(F_raised : Fnc P w K mg base "raised" ["base", "number"] 1 cy) : Fnc P w K mg base "reduced_count" ["many", "length"] 2 (br rcN) := by
  have sc := m3
  refine D.ok sc (fun _ _ _ _ _ _ us hl => by obtain ⟨_, _, rfl⟩ := hJ hl;rfl) (fun vs H Q E h => ?_) (fun f cdv A outer s H vs Q E hr h => ?_)
  · obtain ⟨m, n, rfl, _⟩ := h
    rfl
  · obtain ⟨m, n, rfl, m1, m6, hn, k⟩ := h
    refine ⟨_, (@ag _ _ _ _ _ (@cW _ _ _ _ _ _ _ _ (@aF _ _ _ _ _ _ _ _ cq (pv 1) ae (aK _)) (@ak _ _ _ (@aI _ _ _ _ ae)) bc) (@ak _ _ _ (@aI _ _ _ _ (@ao _ _ _ _ _ _ _ _ aP (@ao _ _ _ _ _ _ _ _ aP ae (pv 0)) (@aR _ _ _ _ _ _ _ _ _ _ _ F_raised hr (by decide) rfl (@aa _ _ _ _ _ (@ao _ _ _ _ _ _ _ _ bh (@ao _ _ _ _ _ _ _ _ aP ae (pv 0)) ae) (@aa _ _ _ _ _ (@ao _ _ _ _ _ _ _ _ bh (pv 1) ae) ah (by rfl)) (by rfl)) (by decide) (by rfl) (by rfl)))))), ?_⟩
    refine ⟨_, rfl, rfl, _, rfl, ?_⟩
    have k := k H (ax.refl _)
    unfold rcN at k
    by_cases h0 : n=0
    · rw [if_pos h0] at k
      exact fJ (decide_eq_true (by rw [h0];rfl)) k
    · rw [if_neg h0] at k
      refine fK (decide_eq_false fun e => h0 (by have := V.int.inj e;omega)) ?_
      refine ⟨_, rfl, _, _, rfl, rfl, .inl ⟨by decide, by decide⟩, _, rfl, _, _, rfl, rfl, .inl ⟨by decide, by decide⟩, _, _, rfl, rfl, _, rfl, _, _, rfl, rfl, 2*(m : Int) - 1, n - 1, ?_, by omega, by omega, by omega, ?_⟩
      · show [V.int (2*(m : Int) - 1), V.int ((n : Int) - 1)]=_
        rw [show ((n - 1 : Nat) : Int)=(n : Int) - 1 by omega]
      · exact ⟨_, _, rfl, rfl, .inl ⟨by omega, by omega⟩, k⟩
abbrev lB : Stmt := top 3
theorem m4 : aG ["many", "length", "signs"] ["many", "length"] (ai lB) := ⟨rfl, rfl, rfl, by decide +kernel, rfl, by decide +kernel, by decide +kernel⟩
theorem ox (D : Df K mg "round_count" lB)(T : Bt0 mg)(F_raised : Fnc P w K mg base "raised" ["base", "number"] 1 cy) : Fnc P w K mg base "round_count" ["many", "length"] 2 (br roN) := by
  have sc := m4
  refine D.ok sc (fun _ _ _ _ _ _ us hl => by obtain ⟨_, _, rfl⟩ := hJ hl;rfl) (fun vs H Q E h => ?_) (fun f cdv A outer s H vs Q E hr h => ?_)
  · obtain ⟨m, n, rfl, _⟩ := h
    rfl
  · obtain ⟨m, n, rfl, m1, m6, hn, k⟩ := h
    refine ⟨_, (@ag _ _ _ _ _ (@cW _ _ _ _ _ _ _ _ (@aF _ _ _ _ _ _ _ _ cq (pv 1) ae (aK _)) (@ak _ _ _ (@aI _ _ _ _ ae)) bc) (@ag _ _ _ _ _ (@aH _ _ (2) _ _ _ _ sc.nd rfl (Or.inl rfl) (@dw _ _ _ _ _ _ _ _ (@aF _ _ _ _ _ _ _ _ cq (@ao _ _ _ _ _ _ _ _ bH (pv 1) ae) ae (aK _)) ae (@ma _ _ _ _ _ _ ku ae)) (by rfl) (by first | exact .inl rfl | exact .inr rfl | assumption)) (@ak _ _ _ (@aI _ _ _ _ (@ao _ _ _ _ _ _ _ _ bt (@ao _ _ _ _ _ _ _ _ bt (@aR _ _ _ _ _ _ _ _ _ _ _ F_raised hr (by decide) rfl (@aa _ _ _ _ _ (@ao _ _ _ _ _ _ _ _ bh (@ao _ _ _ _ _ _ _ _ aP ae (pv 0)) ae) (@aa _ _ _ _ _ (pv 1) ah (by rfl)) (by rfl)) (by decide) (by rfl) (by rfl)) (pv 0)) (@ao _ _ _ _ _ _ _ _ aP (pv 2) (@ao _ _ _ _ _ _ _ _ bh (pv 0) ae))))))), ?_⟩
    refine ⟨_, rfl, rfl, _, rfl, ?_⟩
    have k := k H (ax.refl _)
    unfold roN at k
    by_cases h0 : n=0
    · rw [if_pos h0] at k
      exact fJ (decide_eq_true (by rw [h0];rfl)) k
    · rw [if_neg h0] at k
      refine fK (decide_eq_false fun e => h0 (by have := V.int.inj e;omega)) ?_
      refine ⟨_, rfl, _, _, rfl, rfl, by decide, rfl, _, rfl, ?_⟩
      by_cases h2 : n % 2=0
      · rw [if_pos h2] at k
        rw [show decide (V.int ((n : Int) % 2)=V.int 0)=true from decide_eq_true (congrArg V.int (by omega))]
        refine oa ?_
        refine ⟨_, rfl, _, _, rfl, rfl, .inl ⟨by decide, by decide⟩, _, _, rfl, rfl, _, rfl, _, _, rfl, by omega, by omega, by omega, _, rfl, _, _, rfl, rfl, _, rfl, _, rfl, _, _, rfl, rfl, _, _, rfl, rfl, .inl ⟨by decide, by decide⟩, _, _, rfl, rfl, k⟩
      · rw [if_neg h2] at k
        rw [show decide (V.int ((n : Int) % 2)=V.int 0)=false from decide_eq_false fun e => h2 (by have := V.int.inj e;omega)]
        refine og ⟨_, rfl, ?_⟩
        refine ⟨_, rfl, _, _, rfl, rfl, .inl ⟨by decide, by decide⟩, _, _, rfl, rfl, _, rfl, _, _, rfl, by omega, by omega, by omega, _, rfl, _, _, rfl, rfl, _, rfl, _, rfl, _, _, rfl, rfl, _, _, rfl, rfl, .inl ⟨by decide, by decide⟩, _, _, rfl, rfl, k⟩
abbrev hZ : Stmt := top 6
theorem lC : aG ["length"] ["length"] (ai hZ) := ⟨rfl, rfl, rfl, by decide +kernel, rfl, by decide +kernel, by decide +kernel⟩
theorem m5 (D : Df K mg "divisors" hZ)(T : Bt0 mg) : Fnc P w K mg base "divisors" ["length"] 1 gU := by
  have sc := lC
  refine D.ok sc (fun _ _ _ _ _ _ us hl => by obtain ⟨_, rfl⟩ := lT hl;rfl) (fun vs H Q E h => ?_) (fun f cdv A outer s H vs Q E hr h => ?_)
  · obtain ⟨n, rfl, _⟩ := h
    rfl
  · obtain ⟨n, rfl, hn, k⟩ := h
    refine ⟨_, (@ak _ _ _ (@aI _ _ _ _ (@aX _ _ _ _ _ _ _ (["size", "length"]) (["size"]) ([0]) _ _ _ _ (@ba _ _ _ _ _ _ rfl (by kernel_rfl)) rfl (@dR _ _ _ _ _ _ _ rfl T.range (@aa _ _ _ _ _ ae (@aa _ _ _ _ _ (@ao _ _ _ _ _ _ _ _ bt (pv 0) ae) ah (by rfl)) (by rfl)) (by rfl) (by rfl)) (fun _ _ _ _ => @ar _ _ (0) _ (show (["size", "length"] : List Str).Nodup from by decide +kernel) rfl (Or.inl rfl) (by first | exact .inl rfl | exact .inr rfl | assumption)) (fun _ _ _ _ => (@bE _ _ _ (by exact (@aF _ _ _ _ _ _ _ _ cq (@ao _ _ _ _ _ _ _ _ bH (pv 1) (pv 0)) ae (aK _))))) (fun _ _ _ _ => by (exact (pv 0))) (by intro _ ;rfl)))), ?_⟩
    refine ⟨_, rfl, _, _, rfl, rfl, 1, (n : Int)+1, rfl, ⟨by decide, by decide, by omega, by omega⟩, ?_⟩
    rw [show ((n : Int)+1 - 1).toNat=n by omega]
    refine bf (own := ["size"]) (cap := [0]) (J := Itr 1 n) n (fun j ys σ H' => ∃ b : Option V, σ = [b, some (.int (n : Int))] ∧ ys=(((List.range' 1 n).take j).filter fun s => decide (n % s=0)).map (fun s : Nat => V.int (s : Int)) ∧ H'=H) ⟨none, rfl, rfl, rfl⟩ (fun j ys σ H' hj ⟨_, _, e, _⟩ => by rw [e, List.length_map];exact Nat.le_trans (List.length_filter_le _ _) (by rw [List.length_take];omega)) (by have := bp;omega) (fun j ys σ H' hj _ => hj) (fun ys σ H' _ => Nat.le_refl _) ?_ ?_
    · rintro j ys σ HX x HY N hj ⟨b, rfl, rfl, rfl⟩ ⟨rfl, rfl⟩ hN
      have hr : (List.range' 1 n)[j]? = some (j+1) := by rw [List.getElem?_range' hj];congr 1;omega
      refine ⟨_, rfl, _, rfl, _, _, rfl, rfl, by omega, rfl, _, rfl, ?_⟩
      have e1 : (1 : Int)+(j : Int)=((j+1 : Nat) : Int) := by omega
      by_cases h : n % (j+1)=0
      · refine fJ (decide_eq_true (congrArg V.int (by rw [e1];omega))) ⟨_, rfl, hN _ _ _ ⟨_, rfl, ?_, rfl⟩⟩
        rw [List.take_add_one, hr, List.filter_append, List.map_append]
        simp [h, e1]
      · refine fK (decide_eq_false fun e => h (by have := V.int.inj e;rw [e1] at this;omega)) (hN _ _ _ ⟨_, rfl, ?_, rfl⟩)
        rw [List.take_add_one, hr, List.filter_append]
        simp [h]
    · rintro ys σ H1 l ⟨b, rfl, rfl, rfl⟩ hl
      rw [List.take_of_length_le (by rw [List.length_range'];exact Nat.le_refl _)]
      exact k l _ ab (ax.new hl)
end
end Kx
set_option Elab.async false
set_option linter.all false
set_option maxRecDepth 100000
set_option maxHeartbeats 0
namespace Kx
open PySem PySem.Spec PyProof.Rows L2 Wd
section
variable {P : Program} {w : World} {K : PySem.W.Frag} {mg : Str → Option Value} {base : Heap} {aB : Addr}
abbrev cV : Stmt := top 5
theorem h7 : aG ["many", "length", "shorter"] ["many", "length"] (ai cV) := ⟨rfl, rfl, rfl, by decide +kernel, rfl, by decide +kernel, by decide +kernel⟩
theorem j3 (D : Df K mg "root_count" cV) : Fnc P w K mg base "root_count" ["many", "length"] 3 (cO 0) := by
  have sc := h7
  refine D.ok (k := 2) sc (fun _ _ _ _ _ _ us hl => by obtain ⟨_, _, rfl⟩ := hJ hl;rfl) (fun vs H Q E h => ?_) (fun f cdv A outer s H vs Q E hr h => ?_)
  · obtain ⟨m, n, rfl, _⟩ := h
    rfl
  · obtain ⟨m, n, rfl, m1, m6, hn, hk, k⟩ := h
    exact absurd hk (Nat.not_lt_zero _)
theorem bR {kk lv : Nat}(hlv : 3≤lv)(D : Df K mg "root_count" cV)(T : Bt0 mg)(Tsum : mg "sum" = none)(F_ro : Fnc P w K mg base "round_count" ["many", "length"] 2 (br roN))(F_div : Fnc P w K mg base "divisors" ["length"] 1 gU)(F_root : Fnc P w K mg base "root_count" ["many", "length"] lv (cO kk)) : Fnc P w K mg base "root_count" ["many", "length"] (lv+1) (cO (kk+1)) := by
  have sc := h7
  refine D.ok sc (fun _ _ _ _ _ _ us hl => by obtain ⟨_, _, rfl⟩ := hJ hl;rfl) (fun vs H Q E h => ?_) (fun f cdv A outer s H vs Q E hr h => ?_)
  · obtain ⟨m, n, rfl, _⟩ := h
    rfl
  · obtain ⟨m, n, rfl, m1, m6, hn, hk, k⟩ := h
    have l16 := bp
    refine ⟨_, (@ag _ _ _ _ _ (@cW _ _ _ _ _ _ _ _ (@aF _ _ _ _ _ _ _ _ cq (pv 1) ae (aK _)) (@ak _ _ _ (@aI _ _ _ _ ae)) bc) (@ag _ _ _ _ _ (@eR _ (2) _ _ _ _ _ _ _ _ _ (["size", "many", "length"]) (["size"]) ([0, 1]) _ _ _ _ sc.nd rfl (Or.inl rfl) (@ba _ _ _ _ _ _ rfl (by kernel_rfl)) rfl (@bM _ _ _ _ (@aR _ _ _ _ _ _ _ _ _ _ _ F_div hr (by first | decide | omega) rfl (@aa _ _ _ _ _ (pv 1) ah (by rfl)) (by first | decide | omega) (by rfl) (by rfl))) (fun _ _ _ _ => @ar _ _ (0) _ (show (["size", "many", "length"] : List Str).Nodup from by decide +kernel) rfl (Or.inl rfl) (by first | exact .inl rfl | exact .inr rfl | assumption)) (fun _ _ _ _ => (@bE _ _ _ (by exact (@aF _ _ _ _ _ _ _ _ jx (pv 0) (pv 2) (aK _))))) (fun _ _ _ _ => by (exact @ao _ _ _ _ _ _ _ _ aP (by (exact (pv 0))) (by (exact (@aR _ _ _ _ _ _ _ _ _ _ _ F_root hr (by first | decide | omega) rfl (@aa _ _ _ _ _ (pv 1) (@aa _ _ _ _ _ (pv 0) ah (by rfl)) (by rfl)) (by first | decide | omega) (by rfl) (by rfl)))))) (by intro _ ;rfl) (by rfl) (by first | exact .inl rfl | exact .inr rfl | assumption)) (@ak _ _ _ (@aI _ _ _ _ (@ao _ _ _ _ _ _ _ _ cC (@ao _ _ _ _ _ _ _ _ bh (@aR _ _ _ _ _ _ _ _ _ _ _ F_ro hr (by first | decide | omega) rfl (@aa _ _ _ _ _ (pv 0) (@aa _ _ _ _ _ (pv 1) ah (by rfl)) (by rfl)) (by first | decide | omega) (by rfl) (by rfl)) (@aq _ _ _ _ _ _ _ _ _ (@bF _ rfl) (by rfl) Tsum fG (@aa _ _ _ _ _ (pv 2) ah (by rfl)) (by first | decide | omega) (by first | decide | omega) (by rfl) (by rfl))) (pv 1)))))), ?_⟩
    refine ⟨_, rfl, rfl, _, rfl, ?_⟩
    by_cases h0 : n=0
    · have k := k H (ax.refl _)
      rw [rtN, if_pos h0] at k
      exact fJ (decide_eq_true (by rw [h0];rfl)) k
    · refine fK (decide_eq_false fun e => h0 (by have := V.int.inj e;omega)) ?_
      refine ⟨_, rfl, n, rfl, hn, fun l H1 hl s1 => ?_⟩
      have dl := eW n
      refine ⟨l, rfl, ⟨_, SqL.of hl⟩, ?_⟩
      refine b0 (xs := (bG n).map fun s : Nat => V.int (s : Int)) (own := ["size"]) (cap := [0, 1]) (fun j ys σ H' => ∃ b : Option V, σ = [b, some (.int (m : Int)), some (.int (n : Int))] ∧ ys=((((bG n).take j).filter fun s => decide (s < n)).map fun s : Nat => (s : Int)*rtN kk m s).map V.int ∧ ax H1 H') ⟨none, rfl, rfl, ax.refl _⟩ (fun j ys σ H' hj ⟨_, _, e, _⟩ => by rw [e, List.length_map, List.length_map];exact Nat.le_trans (List.length_filter_le _ _) (by rw [List.length_take];omega)) (by rw [List.length_map];omega) (fun j ys σ H' ⟨_, _, _, e⟩ => SqL.of (e _ _ hl)) ?_ ?_
      · rintro j ys σ H2 z N hz ⟨b, rfl, rfl, s2⟩ hN
        rw [List.getElem?_map] at hz
        obtain ⟨q, hq, rfl⟩ := Option.map_eq_some_iff.mp hz
        have mq := List.mem_of_getElem? hq
        obtain ⟨q1, q2, q3⟩ := cN.mp mq
        refine ⟨_, rfl, _, rfl, _, _, rfl, rfl, _, rfl, ?_⟩
        by_cases hlt : q < n
        · refine fJ (decide_eq_true (by omega)) ?_
          refine ⟨_, rfl, _, rfl, _, rfl, m, q, rfl, m1, m6, by omega, gW hk q1 (dG mq hlt), fun H3 s3 => ⟨_, _, rfl, rfl, .inl ⟨by omega, by omega⟩, hN _ _ _ ⟨_, rfl, ?_, s2.trans s3⟩⟩⟩
          rw [List.take_add_one, hq, List.filter_append, List.map_append, List.map_append]
          simp [hlt]
        · refine fK (decide_eq_false (by omega)) (hN _ _ _ ⟨_, rfl, ?_, s2⟩)
          rw [List.take_add_one, hq, List.filter_append]
          simp [hlt]
      rintro ys σ H2 l2 ⟨b, rfl, rfl, s2⟩ hl2
      rw [List.length_map, List.take_length]
      have s3 := (s1.trans s2).then (o := .lst ((((bG n).filter fun s => decide (s < n)).map fun s : Nat => (s : Int)*rtN kk m s).map V.int)) hl2
      have f3 : (upd H2 l2 (.lst ((((bG n).filter fun s => decide (s < n)).map fun s : Nat => (s : Int)*rtN kk m s).map V.int))) l2=some (.lst ((((bG n).filter fun s => decide (s < n)).map fun s : Nat => (s : Int)*rtN kk m s).map V.int)) := ab
      generalize upd H2 l2 (.lst ((((bG n).filter fun s => decide (s < n)).map fun s : Nat => (s : Int)*rtN kk m s).map V.int))=H3 at s3 f3 ⊢
      refine ⟨_, rfl, _, rfl, m, n, rfl, m1, m6, hn, fun H4 s4 => ?_⟩
      refine ⟨_, rfl, l2, _, rfl, SqL.of (s4 _ _ f3), _, _, rfl, rfl, _, rfl, _, _, rfl, rfl, ⟨by omega, by omega⟩, ?_⟩
      have k := k H4 (s3.trans s4)
      rw [rtN, if_neg h0] at k
      exact k
theorem lD (D : Df K mg "root_count" cV)(T : Bt0 mg)(Tsum : mg "sum" = none)(F_ro : Fnc P w K mg base "round_count" ["many", "length"] 2 (br roN))(F_div : Fnc P w K mg base "divisors" ["length"] 1 gU) : Fnc P w K mg base "root_count" ["many", "length"] 10 (cO 7) := bR (lv := 9) (by decide) D T Tsum F_ro F_div (bR (lv := 8) (by decide) D T Tsum F_ro F_div (bR (lv := 7) (by decide) D T Tsum F_ro F_div (bR (lv := 6) (by decide) D T Tsum F_ro F_div (bR (lv := 5) (by decide) D T Tsum F_ro F_div (bR (lv := 4) (by decide) D T Tsum F_ro F_div (bR (lv := 3) (by decide) D T Tsum F_ro F_div (j3 D)))))))
abbrev lE : Stmt := top 4
theorem m7 : aG ["many", "length"] ["many", "length"] (ai lE) := ⟨rfl, rfl, rfl, by decide +kernel, rfl, by decide +kernel, by decide +kernel⟩
theorem oy (D : Df K mg "turned_count" lE)(T : Bt0 mg)(Tsum : mg "sum" = none)(F_div : Fnc P w K mg base "divisors" ["length"] 1 gU)(F_root : Fnc P w K mg base "root_count" ["many", "length"] 10 (cO 7)) : Fnc P w K mg base "turned_count" ["many", "length"] 11 (br tcN) := by
  have sc := m7
  refine D.ok sc (fun _ _ _ _ _ _ us hl => by obtain ⟨_, _, rfl⟩ := hJ hl;rfl) (fun vs H Q E h => ?_) (fun f cdv A outer s H vs Q E hr h => ?_)
  · obtain ⟨m, n, rfl, _⟩ := h
    rfl
  · obtain ⟨m, n, rfl, m1, m6, hn, k⟩ := h
    have l16 := bp
    refine ⟨_, (@ag _ _ _ _ _ (@cW _ _ _ _ _ _ _ _ (@aF _ _ _ _ _ _ _ _ cq (pv 1) ae (aK _)) (@ak _ _ _ (@aI _ _ _ _ ae)) bc) (@ak _ _ _ (@aI _ _ _ _ (@aq _ _ _ _ _ _ _ _ _ (@bF _ rfl) (by rfl) Tsum fG (@aa _ _ _ _ _ (@aX _ _ _ _ _ _ _ (["size", "many"]) (["size"]) ([0]) _ _ _ _ (@ba _ _ _ _ _ _ rfl (by kernel_rfl)) rfl (@bM _ _ _ _ (@aR _ _ _ _ _ _ _ _ _ _ _ F_div hr (by decide) rfl (@aa _ _ _ _ _ (pv 1) ah (by rfl)) (by decide) (by rfl) (by rfl))) (fun _ _ _ _ => @ar _ _ (0) _ (show (["size", "many"] : List Str).Nodup from by decide +kernel) rfl (Or.inl rfl) (by first | exact .inl rfl | exact .inr rfl | assumption)) (fun _ _ _ _ => bb) (fun _ _ _ _ => by (exact (@aR _ _ _ _ _ _ _ _ _ _ _ F_root hr (by decide) rfl (@aa _ _ _ _ _ (pv 1) (@aa _ _ _ _ _ (pv 0) ah (by rfl)) (by rfl)) (by decide) (by rfl) (by rfl)))) (by intro _ ;rfl)) ah (by rfl)) (by decide) (by decide) (by rfl) (by rfl))))), ?_⟩
    refine ⟨_, rfl, rfl, _, rfl, ?_⟩
    by_cases h0 : n=0
    · have k := k H (ax.refl _)
      unfold tcN at k
      rw [if_pos h0] at k
      exact fJ (decide_eq_true (by rw [h0];rfl)) k
    · refine fK (decide_eq_false fun e => h0 (by have := V.int.inj e;omega)) ?_
      refine ⟨_, rfl, n, rfl, hn, fun l H1 hl s1 => ?_⟩
      have dl := eW n
      refine ⟨l, rfl, ⟨_, SqL.of hl⟩, ?_⟩
      refine b0 (xs := (bG n).map fun s : Nat => V.int (s : Int)) (own := ["size"]) (cap := [0]) (fun j ys σ H' => ∃ b : Option V, σ = [b, some (.int (m : Int))] ∧ ys=(((bG n).take j).map fun s : Nat => rtN 7 m s).map V.int ∧ ax H1 H') ⟨none, rfl, rfl, ax.refl _⟩ (fun j ys σ H' hj ⟨_, _, e, _⟩ => by rw [e, List.length_map, List.length_map, List.length_take];omega) (by rw [List.length_map];omega) (fun j ys σ H' ⟨_, _, _, e⟩ => SqL.of (e _ _ hl)) ?_ ?_
      · rintro j ys σ H2 z N hz ⟨b, rfl, rfl, s2⟩ hN
        rw [List.getElem?_map] at hz
        obtain ⟨q, hq, rfl⟩ := Option.map_eq_some_iff.mp hz
        obtain ⟨q1, q2, q3⟩ := cN.mp (List.mem_of_getElem? hq)
        refine ⟨_, rfl, _, rfl, m, q, rfl, m1, m6, by omega, (by show q < 64;omega), fun H3 s3 => hN _ _ _ ⟨_, rfl, ?_, s2.trans s3⟩⟩
        rw [List.take_add_one, hq, List.map_append, List.map_append]
        rfl
      rintro ys σ H2 l2 ⟨b, rfl, rfl, s2⟩ hl2
      rw [List.length_map, List.take_length]
      refine ⟨l2, _, rfl, SqL.of ab, ?_⟩
      have k := k _ ((s1.trans s2).then (o := .lst (((bG n).map fun s : Nat => rtN 7 m s).map V.int)) hl2)
      unfold tcN at k
      rw [if_neg h0] at k
      exact k
abbrev eD : Stmt := top 15
theorem j4 : aG ["_law_many", "_law_length", "_law_found"] ["_law_many", "_law_length"] (ai eD) := ⟨rfl, rfl, rfl, by decide +kernel, rfl, by decide +kernel, by decide +kernel⟩
theorem lF (D : Df K mg "_law_told" eD)(T : Bt0 mg)(F_rc : Fnc P w K mg base "reduced_count" ["many", "length"] 2 (br rcN))(F_ro : Fnc P w K mg base "round_count" ["many", "length"] 2 (br roN))(F_tc : Fnc P w K mg base "turned_count" ["many", "length"] 11 (br tcN))(F_root : Fnc P w K mg base "root_count" ["many", "length"] 10 (cO 7)) : Fnc P w K mg base "_law_told" ["_law_many", "_law_length"] 12 dH := by
  have sc := j4
  refine D.ok sc (fun _ _ _ _ _ _ us hl => by obtain ⟨_, _, rfl⟩ := hJ hl;rfl) (fun vs H Q E h => ?_) (fun f cdv A outer s H vs Q E hr h => ?_)
  · obtain ⟨m, n, rfl, _⟩ := h
    rfl
  · obtain ⟨m, n, rfl, m1, m6, hn, k⟩ := h
    have l16 := bp
    refine ⟨_, (@ag _ _ _ _ _ (@aH _ _ (2) _ _ _ _ sc.nd rfl (Or.inl rfl) (@bI _ _ _ _ (@aa _ _ _ _ _ (@aR _ _ _ _ _ _ _ _ _ _ _ F_rc hr (by decide) rfl (@aa _ _ _ _ _ (pv 0) (@aa _ _ _ _ _ (pv 1) ah (by rfl)) (by rfl)) (by decide) (by rfl) (by rfl)) (@aa _ _ _ _ _ (@aR _ _ _ _ _ _ _ _ _ _ _ F_ro hr (by decide) rfl (@aa _ _ _ _ _ (pv 0) (@aa _ _ _ _ _ (pv 1) ah (by rfl)) (by rfl)) (by decide) (by rfl) (by rfl)) (@aa _ _ _ _ _ (@aR _ _ _ _ _ _ _ _ _ _ _ F_tc hr (by decide) rfl (@aa _ _ _ _ _ (pv 0) (@aa _ _ _ _ _ (pv 1) ah (by rfl)) (by rfl)) (by decide) (by rfl) (by rfl)) ah (by rfl)) (by rfl)) (by rfl))) (by rfl) (by first | exact .inl rfl | exact .inr rfl | assumption)) (@ak _ _ _ (@aI _ _ _ _ (@ao _ _ _ _ _ _ _ _ i_ (pv 2) (@bI _ _ _ _ (@aa _ _ _ _ _ (@aR _ _ _ _ _ _ _ _ _ _ _ F_root hr (by decide) rfl (@aa _ _ _ _ _ (pv 0) (@aa _ _ _ _ _ (pv 1) ah (by rfl)) (by rfl)) (by decide) (by rfl) (by rfl)) ah (by rfl))))))), ?_⟩
    refine ⟨_, rfl, _, rfl, m, n, rfl, m1, m6, hn, fun H1 s1 => ?_⟩
    refine ⟨_, rfl, _, rfl, m, n, rfl, m1, m6, hn, fun H2 s2 => ?_⟩
    refine ⟨_, rfl, _, rfl, m, n, rfl, m1, m6, hn, fun H3 s3 => ?_⟩
    refine ⟨(aJ (n := 3) (by decide)), fun l hl => ?_⟩
    have s4 := ax.new (o := .lst [V.int (rcN m n), V.int (roN m n), V.int (tcN m n)]) hl
    have f4 : (upd H3 l (.lst [V.int (rcN m n), V.int (roN m n), V.int (tcN m n)])) l=some (.lst [V.int (rcN m n), V.int (roN m n), V.int (tcN m n)]) := ab
    generalize upd H3 l (.lst [V.int (rcN m n), V.int (roN m n), V.int (tcN m n)])=H4 at s4 f4 ⊢
    refine ⟨_, rfl, _, rfl, _, rfl, m, n, rfl, m1, m6, hn, (by show n < 64;omega), fun H5 s5 => ?_⟩
    refine ⟨(aJ (n := 1) (by decide)), fun l2 hl2 => ?_⟩
    have s6 := s5.then (o := .lst [V.int (rtN 7 m n)]) hl2
    refine ⟨l, l2, _, _, rfl, rfl, s6 _ _ f4, ab, (aJ (n := 4) (by decide)), fun l3 hl3 => ?_⟩
    refine k l3 _ (by rw [ab];rfl) ((((s1.trans s2).trans s3).trans s4).trans (s6.then hl3))
end
end Kx
set_option Elab.async false
set_option linter.all false
set_option maxRecDepth 100000
set_option maxHeartbeats 0
namespace Kx
open PySem PySem.Spec PyProof.Rows L2 Wd
section
variable {P : Program} {w : World} {K : PySem.W.Frag} {mg : Str → Option Value} {base : Heap} {aB : Addr}
def jn (H : Hp)(rs : List Addr)(ps : List (Key × V)) : Prop := rs.length=ps.length ∧ ∀ (i : Nat) (r : Addr) (p : Key × V), rs[i]? = some r → ps[i]? = some p → H r=some (.tup [kV p.1, p.2])
theorem jn.snoc {H : Hp}{rs : List Addr}{ps : List (Key × V)}{r : Addr}{p : Key × V}(h : jn H rs ps)(hr : H r=some (.tup [kV p.1, p.2])) : jn H (rs++[r]) (ps++[p]) := by
  obtain ⟨h1, h2⟩ := h
  refine ⟨by rw [List.length_append, List.length_append, h1];rfl, fun i a q ha hq => ?_⟩
  by_cases hi : i < rs.length
  · rw [List.getElem?_append_left hi] at ha
    rw [List.getElem?_append_left (by omega)] at hq
    exact h2 i a q ha hq
  · have hl := (List.getElem?_eq_some_iff.mp ha).1
    rw [List.length_append, List.length_singleton] at hl
    obtain rfl : i=rs.length := by omega
    rw [List.getElem?_append_right (Nat.le_refl _), Nat.sub_self] at ha
    rw [h1, List.getElem?_append_right (Nat.le_refl _), Nat.sub_self] at hq
    cases ha
    cases hq
    exact hr
theorem jn.same {H H' : Hp}{rs : List Addr}{ps : List (Key × V)}(h : jn H rs ps)(s : ax H H') : jn H' rs ps := ⟨h.1, fun i r p a b => s _ _ (h.2 i r p a b)⟩
theorem lG (a b c s : Int) : ∀ x : L, s - fT a b c (inv x)=fT (s - b) (s - a) (s - c) x := fun x => by
  have h1 : ∀ x : L, inv x=0 ↔ x=6 := by decide
  have h2 : ∀ x : L, inv x=6 ↔ x=0 := by decide
  unfold fT
  by_cases e0 : x=0
  · rw [if_pos e0, if_neg (fun z => by have := (h1 x).mp z;rw [e0] at this;revert this;decide), if_pos ((h2 x).mpr e0)]
  · by_cases e6 : x=6
    · rw [if_neg e0, if_pos e6, if_pos ((h1 x).mpr e6)]
    · rw [if_neg e0, if_neg e6, if_neg (fun z => e6 ((h1 x).mp z)), if_neg (fun z => e0 ((h2 x).mp z))]
theorem fz {m : Nat}(m6 : m≤6){H0 : Hp}{a b c : Int}{dd : Addr}{σ0 : L2.St}{Q0 : VK}(hd : H0 dd=some (.dK (dO a b c m)))(hs : σ0[3]? = some (some (.ref dd)))(hq : ∀ D, H0 D=none → Q0 (.ref D) (upd H0 D (.lst (((sgN m).map (fT a b c)).map V.int)))) : iI ["_law_sign"] [3] (iy 0) ny (kL (kg 1) (kg 0)) Q0 σ0 (Its (toS (sgN m))) H0 := by
  have l16 := bp
  have lg : (sgN m).length≤12 := by unfold sgN;rw [List.length_append, List.length_take, List.length_take];show min m 6+min m 6≤12;omega
  refine bf (own := ["_law_sign"]) (cap := [3]) (J := Its (toS (sgN m))) (sgN m).length (fun i ys σ' H' => ∃ v : Option V, σ'=[v, some (.ref dd)] ∧ ys=(((sgN m).take i).map (fT a b c)).map V.int ∧ H'=H0) ⟨none, ?_, rfl, rfl⟩ (fun i ys σ' H' hi ⟨v, _, e, _⟩ => ?_) (by omega) (fun i ys σ' H' hi _ => ?_) (fun ys σ' H' _ => ?_) ?_ ?_
  · show [none]++[(σ0[3]?).getD none]=_
    rw [hs]
    rfl
  · rw [e, List.length_map, List.length_map, List.length_take];omega
  · show i < (toS _).cps.size;rw [aS];exact hi
  · show _=(toS _).cps.size;rw [aS]
  · rintro i ys σ H1 z H2 N hi ⟨b, rfl, rfl, rfl⟩ ⟨rfl, c2, hc, rfl⟩ hN
    obtain ⟨x, hx, e⟩ := cL hc
    rw [e]
    have g := dN.k (k := .inr (toS [x])) hd
    rw [eY m6 (List.mem_of_getElem? hx)] at g
    refine ⟨_, rfl, _, rfl, dd, _, rfl, g, hN _ _ _ ⟨_, rfl, ?_, rfl⟩⟩
    rw [List.take_add_one, hx, List.map_append, List.map_append]
    rfl
  · rintro ys σ H1 D ⟨b, rfl, rfl, rfl⟩ hD
    rw [List.take_length]
    exact hq D hD
abbrev eE : Stmt := top 13
theorem j5 : aG ["_law_many", "_law_length", "_law_signs", "_law_now", "_law_k", "_law_whole"] ["_law_many", "_law_length"] (ai eE) := ⟨rfl, rfl, rfl, by decide +kernel, rfl, by decide +kernel, by decide +kernel⟩
theorem lH (D : Df K mg "_law_by_ends" eE)(T : Bt0 mg)(Td : mg "dict" = none)(Tsum : mg "sum" = none)(F_lback : Fnc P w K mg base "_law_back" ["_law_word"] 1 k_) : Fnc P w K mg base "_law_by_ends" ["_law_many", "_law_length"] 2 gZ := by
  have sc := j5
  refine D.ok sc (fun _ _ _ _ _ _ us hl => by obtain ⟨_, _, rfl⟩ := hJ hl;rfl) (fun vs H Q E h => ?_) (fun f cdv A outer s H vs Q E hr h => ?_)
  · obtain ⟨m, n, rfl, _⟩ := h
    rfl
  · obtain ⟨m, n, rfl, m1, m6, n1, hn, k⟩ := h
    have l16 := bp
    have hu := gz hr
    refine ⟨_, (@ag _ _ _ _ _ (@aH _ _ (2) _ _ _ _ sc.nd rfl (Or.inl rfl) (@ao _ _ _ _ _ _ _ _ bj (@a_ _ _ _ _ _ _ _ _ _ _ cK aE bz (@bA _ _ _ (pv 0))) (@a_ _ _ _ _ _ _ _ _ _ _ cK aE bz (@bA _ _ _ (pv 0)))) (by rfl) (by first | exact .inl rfl | exact .inr rfl | assumption)) (@ag _ _ _ _ _ (@aH _ _ (3) _ _ _ _ sc.nd rfl (Or.inr rfl) (@bx _ _ _ _ _ _ _ _ _ (@dn _ rfl) (by rfl) Td jg (@aa _ _ _ _ _ (@aX _ _ _ _ _ _ _ (["_law_sign"]) (["_law_sign"]) ([]) _ _ _ _ (@ba _ _ _ _ _ _ rfl (by kernel_rfl)) rfl (@de _ _ _ _ (pv 2)) (fun _ _ _ _ => @ar _ _ (0) _ (show (["_law_sign"] : List Str).Nodup from by decide +kernel) rfl (Or.inl rfl) (by first | exact .inl rfl | exact .inr rfl | assumption)) (fun _ _ _ _ => bb) (fun _ _ _ _ => by (exact (@gb _ _ _ _ _ (@aa _ _ _ _ _ (pv 0) (@aa _ _ _ _ _ (@bx _ _ _ _ _ _ _ _ _ dS (by rfl) T.int kZ (@aa _ _ _ _ _ (@eL _ _ _ _ _ _ _ _ cq (pv 0) aE (aK _)) ah (by rfl)) (by decide) (by decide) (by rfl) (by rfl)) ah (by rfl)) (by rfl))))) (by intro _ ;rfl)) ah (by rfl)) (by decide) (by decide) (by rfl) (by rfl)) (by rfl) (by first | exact .inl rfl | exact .inr rfl | assumption)) (@ag _ _ _ _ _ (@bT _ _ _ _ _ _ _ _ PassesOwn.never rfl (@bS _ _ _ _ _ _ rfl T.range (@aa _ _ _ _ _ (@ao _ _ _ _ _ _ _ _ bh (pv 1) ae) ah (by rfl)) (by rfl)) (@ar _ _ (4) _ sc.nd rfl (Or.inl rfl) (by first | exact .inl rfl | exact .inr rfl | assumption)) (@ag _ _ _ _ _ (@aH _ _ (5) _ _ _ _ sc.nd rfl (Or.inr rfl) (@aq _ _ _ _ _ _ _ _ _ (@bF _ rfl) (by rfl) Tsum fG (@aa _ _ _ _ _ (@aX _ _ _ _ _ _ _ (["_law_sign", "_law_now"]) (["_law_sign"]) ([3]) _ _ _ _ (@ba _ _ _ _ _ _ rfl (by kernel_rfl)) rfl (@de _ _ _ _ (pv 2)) (fun _ _ _ _ => @ar _ _ (0) _ (show (["_law_sign", "_law_now"] : List Str).Nodup from by decide +kernel) rfl (Or.inl rfl) (by first | exact .inl rfl | exact .inr rfl | assumption)) (fun _ _ _ _ => bb) (fun _ _ _ _ => by (exact (@aD _ _ _ _ _ _ hu (pv 1) (pv 0) (fun _ _ => rfl)))) (by intro _ ;rfl)) ah (by rfl)) (by decide) (by decide) (by rfl) (by rfl)) (by rfl) (by first | exact .inl rfl | exact .inr rfl | assumption)) (@ak _ _ _ (@aH _ _ (3) _ _ _ _ sc.nd rfl (Or.inr rfl) (@bx _ _ _ _ _ _ _ _ _ (@dn _ rfl) (by rfl) Td jg (@aa _ _ _ _ _ (@aX _ _ _ _ _ _ _ (["_law_sign", "_law_whole", "_law_now"]) (["_law_sign"]) ([5, 3]) _ _ _ _ (@ba _ _ _ _ _ _ rfl (by kernel_rfl)) rfl (@de _ _ _ _ (pv 2)) (fun _ _ _ _ => @ar _ _ (0) _ (show (["_law_sign", "_law_whole", "_law_now"] : List Str).Nodup from by decide +kernel) rfl (Or.inl rfl) (by first | exact .inl rfl | exact .inr rfl | assumption)) (fun _ _ _ _ => bb) (fun _ _ _ _ => by (exact (@gb _ _ _ _ _ (@aa _ _ _ _ _ (pv 0) (@aa _ _ _ _ _ (@ao _ _ _ _ _ _ _ _ bh (pv 1) (@aD _ _ _ _ _ _ hu (pv 2) (@aR _ _ _ _ _ _ _ _ _ _ _ F_lback hr (by decide) rfl (@aa _ _ _ _ _ (pv 0) ah (by rfl)) (by decide) (by rfl) (by rfl)) (fun _ _ => rfl))) ah (by rfl)) (by rfl))))) (by intro _ ;rfl)) ah (by rfl)) (by decide) (by decide) (by rfl) (by rfl)) (by rfl) (by first | exact .inl rfl | exact .inr rfl | assumption)))) (by intro _ ;rfl)) (@ag _ _ _ _ _ (@aH _ _ (5) _ _ _ _ sc.nd rfl (Or.inr rfl) (@aq _ _ _ _ _ _ _ _ _ (@bF _ rfl) (by rfl) Tsum fG (@aa _ _ _ _ _ (@aX _ _ _ _ _ _ _ (["_law_sign", "_law_now"]) (["_law_sign"]) ([3]) _ _ _ _ (@ba _ _ _ _ _ _ rfl (by kernel_rfl)) rfl (@de _ _ _ _ (pv 2)) (fun _ _ _ _ => @ar _ _ (0) _ (show (["_law_sign", "_law_now"] : List Str).Nodup from by decide +kernel) rfl (Or.inl rfl) (by first | exact .inl rfl | exact .inr rfl | assumption)) (fun _ _ _ _ => bb) (fun _ _ _ _ => by (exact (@aD _ _ _ _ _ _ hu (pv 1) (pv 0) (fun _ _ => rfl)))) (by intro _ ;rfl)) ah (by rfl)) (by decide) (by decide) (by rfl) (by rfl)) (by rfl) (by first | exact .inl rfl | exact .inr rfl | assumption)) (@ak _ _ _ (@aI _ _ _ _ (@gb _ _ _ _ _ (@aa _ _ _ _ _ (@ao _ _ _ _ _ _ _ _ aP (@ao _ _ _ _ _ _ _ _ aP ae (pv 0)) (pv 5)) (@aa _ _ _ _ _ (@ao _ _ _ _ _ _ _ _ aP (@ao _ _ _ _ _ _ _ _ aP ae (pv 0)) (@ao _ _ _ _ _ _ _ _ bh (pv 5) (@aD _ _ _ _ _ _ hu (pv 3) aE (fun _ _ => rfl)))) ah (by rfl)) (by rfl))))))))), ?_⟩
    have lg : (sgN m).length≤12 := by unfold sgN;rw [List.length_append, List.length_take, List.length_take];show min m 6+min m 6≤12;omega
    refine ⟨_, rfl, _, rfl, _, rfl, (aJ (n := 6) (by decide)), _, rfl, _, rfl, _, rfl, (aJ (n := 6) (by decide)), _, _, rfl, rfl, ?_, ?_⟩
    · have h1 := Txt.slice_le ("abcdef" : Str) none (some (m : Int))
      have h2 := Txt.slice_le ("ABCDEF" : Str) none (some (m : Int))
      have e1 : ("abcdef" : Str).length=6 := by decide +kernel
      have e2 : ("ABCDEF" : Str).length=6 := by decide +kernel
      omega
    rw [fv (m := (m : Int)) (by omega), jh]
    refine ⟨_, rfl, toS (sgN m), rfl, ?_⟩
    refine bf (own := ["_law_sign"]) (cap := []) (J := Its (toS (sgN m))) (sgN m).length (fun i ys σ H' => ∃ (b : Option V) (rs : List Addr), σ = [b] ∧ ys=rs.map V.ref ∧ rs.length=i ∧ jn H' rs ((dO 1 0 0 m).take i) ∧ ax H H') ⟨none, [], rfl, rfl, rfl, ⟨rfl, fun i r p h => by simp at h⟩, ax.refl _⟩ (fun i ys σ H' hi ⟨_, rs, _, e, e2, _⟩ => by rw [e, List.length_map, e2];exact Nat.le_refl _) (by omega) (fun i ys σ H' hi _ => ?_) (fun ys σ H' _ => ?_) ?_ ?_
    · show i < (toS _).cps.size;rw [aS];exact hi
    · show _=(toS _).cps.size;rw [aS]
    · rintro i ys σ H1 z H2 N hi ⟨b, rs, rfl, rfl, rl, pr, s1⟩ ⟨rfl, c, hc, rfl⟩ hN
      obtain ⟨x, hx, e⟩ := cL hc
      have hp : (dO 1 0 0 m)[i]? = some (Sum.inr (toS [x]), V.int (fT 1 0 0 x)) := by unfold dO;rw [List.getElem?_map, hx];rfl
      rw [e]
      refine ⟨_, rfl, _, rfl, rfl, ?_⟩
      have ev : (if decide (V.str (toS [x])=V.str (Str.ofString "a"))=true then (1 : Int) else 0)=fT 1 0 0 x := by
        unfold fT
        by_cases h0 : x=0
        · rw [if_pos (decide_eq_true (by rw [h0, lh])), if_pos h0]
        · rw [if_neg (by rw [decide_eq_true_iff, lh];exact fun z => h0 (by have := bC (V.str.inj z);simpa using this)), if_neg h0]
          split <;> rfl
      refine .inr ⟨_, rfl, (aJ (n := 2) (by decide)), fun Tp hT => ?_⟩
      rw [ev]
      have s2 := ax.new (o := .tup [V.str (toS [x]), V.int (fT 1 0 0 x)]) hT
      exact hN _ _ _ ⟨_, rs++[Tp], rfl, by rw [List.map_append];rfl, by rw [List.length_append, rl];rfl, by rw [List.take_add_one, hp];exact (pr.same s2).snoc ab, s1.trans s2⟩
    rintro ys σ H1 l ⟨b, rs, rfl, rfl, rl, pr, s1⟩ hl
    have nl : ∀ a b c : Int, (dO a b c m).length=(sgN m).length := fun a b c => by unfold dO;rw [List.length_map]
    rw [List.take_of_length_le (by rw [nl];exact Nat.le_refl _)] at pr
    have s2 := ax.new (o := .lst (rs.map V.ref)) hl
    refine ⟨l, rs, dO 1 0 0 m, rfl, SqL.of ab, pr.1, (pr.same s2).2, by rw [nl];omega, fun d hd => ?_⟩
    rw [gX (eX m6)]
    have s3 := (s1.trans s2).then (o := .dK (dO 1 0 0 m)) hd
    have f3 : (upd (upd H1 l (.lst (rs.map V.ref))) d (.dK (dO 1 0 0 m))) d=some (.dK (dO 1 0 0 m)) := ab
    generalize upd (upd H1 l (.lst (rs.map V.ref))) d (.dK (dO 1 0 0 m))=H3 at s3 f3 ⊢
    clear s2 s1 pr rl hl hd
    refine ⟨_, rfl, _, _, rfl, rfl, _, rfl, by omega, by omega, ?_⟩
    rw [show ((n : Int) - 1).toNat=n - 1 by omega]
    refine bU (lo := 0) (n := n - 1) (fun i σ H' => ∃ (b4 b5 : Option V) (d : Addr), σ = [some (.int (m : Int)), some (.int (n : Int)), some (tx (sgN m)), some (.ref d), b4, b5] ∧ H' d=some (.dK (dO (tri m i).1 (tri m i).2.1 (tri m i).2.2 m)) ∧ ax H H') ⟨none, none, d, rfl, f3, s3⟩ ?_ ?_
    · rintro i σ H4 hi ⟨b4, b5, d, rfl, f4, s4⟩
      refine ⟨_, rfl, toS (sgN m), rfl, ?_⟩
      refine fz m6 f4 rfl fun D hD => ?_
      have s5 := ax.new (o := .lst (((sgN m).map (fT (tri m i).1 (tri m i).2.1 (tri m i).2.2)).map V.int)) hD
      have f5 := s5 _ _ f4
      refine ⟨D, _, rfl, SqL.of ab, ?_⟩
      generalize upd H4 D (.lst (((sgN m).map (fT (tri m i).1 (tri m i).2.1 (tri m i).2.2)).map V.int))=H5 at s5 f5 ⊢
      rw [ji _ _ _ m m1 m6]
      refine ⟨_, rfl, toS (sgN m), rfl, ?_⟩
      generalize hS : (tri m i).1+(tri m i).2.1+(2*(m : Int) - 2)*(tri m i).2.2=S
      have et : tri m (i+1)=(S - (tri m i).2.1, S - (tri m i).1, S - (tri m i).2.2) := by rw [tri];simp only [hS]
      refine bf (own := ["_law_sign"]) (cap := [5, 3]) (J := Its (toS (sgN m))) (sgN m).length (fun j ys σ H' => ∃ (b : Option V) (rs : List Addr), σ = [b, some (.int S), some (.ref d)] ∧ ys=rs.map V.ref ∧ rs.length=j ∧ jn H' rs ((dO (S - (tri m i).2.1) (S - (tri m i).1) (S - (tri m i).2.2) m).take j) ∧ ax H5 H') ⟨none, [], rfl, rfl, rfl, ⟨rfl, fun i r p h => by simp at h⟩, ax.refl _⟩ (fun j ys σ H' hi ⟨_, rs, _, e, e2, _⟩ => by rw [e, List.length_map, e2];exact Nat.le_refl _) (by omega) (fun j ys σ H' hi _ => ?_) (fun ys σ H' _ => ?_) ?_ ?_
      · show j < (toS _).cps.size;rw [aS];exact hi
      · show _=(toS _).cps.size;rw [aS]
      · rintro j ys σ H6 z H7 N hj ⟨b, rs, rfl, rfl, rl, pr, s6⟩ ⟨rfl, c, hc, rfl⟩ hN
        obtain ⟨x, hx, e⟩ := cL hc
        have hp : (dO (S - (tri m i).2.1) (S - (tri m i).1) (S - (tri m i).2.2) m)[j]? = some (Sum.inr (toS [x]), V.int (fT (S - (tri m i).2.1) (S - (tri m i).1) (S - (tri m i).2.2) x)) := by unfold dO;rw [List.getElem?_map, hx];rfl
        rw [e]
        have mx := jU m m6 x (List.mem_of_getElem? hx)
        refine ⟨_, rfl, _, rfl, _, rfl, _, rfl, [x], rfl, (by show 1≤5000;decide), fun H8 s8 => ?_⟩
        have g := dN.k (k := .inr (toS [inv x])) (s8 _ _ (s6 _ _ f5))
        rw [eY m6 mx] at g
        rw [kR]
        refine ⟨d, _, rfl, g, _, _, rfl, rfl, (aJ (n := 2) (by decide)), fun Tp hT => ?_⟩
        show N _ _ (upd H8 Tp (.tup [V.str (toS [x]), V.int (S - fT (tri m i).1 (tri m i).2.1 (tri m i).2.2 (inv x))]))
        rw [lG]
        have s9 := s8.then (o := .tup [V.str (toS [x]), V.int (fT (S - (tri m i).2.1) (S - (tri m i).1) (S - (tri m i).2.2) x)]) hT
        exact hN _ _ _ ⟨_, rs++[Tp], rfl, by rw [List.map_append];rfl, by rw [List.length_append, rl];rfl, by rw [List.take_add_one, hp];exact (pr.same s9).snoc ab, s6.trans s9⟩
      rintro ys σ H6 l ⟨b, rs, rfl, rfl, rl, pr, s6⟩ hl
      rw [List.take_of_length_le (by rw [nl];exact Nat.le_refl _)] at pr
      have s7 := ax.new (o := .lst (rs.map V.ref)) hl
      refine ⟨l, rs, _, rfl, SqL.of ab, pr.1, (pr.same s7).2, by rw [nl];omega, fun d2 hd2 => ?_⟩
      rw [gX (eX m6)]
      refine ⟨_, _, d2, rfl, by rw [ab, et], ?_⟩
      exact ((s4.trans s5).trans s6).trans (s7.then hd2)
    · rintro σ H4 ⟨b4, b5, d, rfl, f4, s4⟩
      refine ⟨_, rfl, toS (sgN m), rfl, ?_⟩
      refine fz m6 f4 rfl fun D hD => ?_
      have s5 := ax.new (o := .lst (((sgN m).map (fT (tri m (n - 1)).1 (tri m (n - 1)).2.1 (tri m (n - 1)).2.2)).map V.int)) hD
      have f5 := s5 _ _ f4
      refine ⟨D, _, rfl, SqL.of ab, ?_⟩
      generalize upd H4 D (.lst (((sgN m).map (fT (tri m (n - 1)).1 (tri m (n - 1)).2.1 (tri m (n - 1)).2.2)).map V.int))=H5 at s5 f5 ⊢
      rw [ji _ _ _ m m1 m6]
      obtain ⟨q1, q2⟩ := jV m (n - 1)
      rw [show n - 1+1=n by omega] at q1 q2
      have g := dN.k (k := .inr (toS [6])) f5
      rw [eY m6 (mT m m6 m1)] at g
      have litA : Str.ofString "A" = toS [6] := by decide +kernel
      refine ⟨_, rfl, _, _, rfl, rfl, .inl ⟨by decide, by decide⟩, _, rfl, _, _, rfl, rfl, .inl ⟨by omega, by omega⟩, ?_⟩
      refine ⟨_, rfl, _, _, rfl, rfl, .inl ⟨by decide, by decide⟩, _, rfl, _, rfl, ?_⟩
      rw [litA]
      refine ⟨d, _, rfl, g, _, _, rfl, rfl, _, _, rfl, rfl, .inl ⟨by omega, by omega⟩, (aJ (n := 2) (by decide)), fun p hp => ?_⟩
      refine k p _ ?_ ((s4.trans s5).then hp)
      rw [ab, ← q1, ← q2]
      rfl
end
end Kx
set_option Elab.async false
set_option linter.all false
set_option maxRecDepth 100000
set_option maxHeartbeats 0
namespace Kx
open PySem PySem.Spec PyProof.Rows L2 Wd
section
variable {P : Program} {w : World} {K : PySem.W.Frag} {mg : Str → Option Value} {base : Heap} {aB : Addr}
abbrev h8 : Stmt := top 14
theorem lI : aG ["_law_many", "_law_length", "_law_counts", "_law_sets", "_law_size", "_law_lesser"] ["_law_many", "_law_length"] (ai h8) := ⟨rfl, rfl, rfl, by decide +kernel, rfl, by decide +kernel, by decide +kernel⟩
theorem m8 (D : Df K mg "_law_due" h8)(T : Bt0 mg)(Tsum : mg "sum" = none)(F_ends : Fnc P w K mg base "_law_by_ends" ["_law_many", "_law_length"] 2 gZ) : Fnc P w K mg base "_law_due" ["_law_many", "_law_length"] 3 e8 := by
  have sc := lI
  refine D.ok sc (fun _ _ _ _ _ _ us hl => by obtain ⟨_, _, rfl⟩ := hJ hl;rfl) (fun vs H Q E h => ?_) (fun f cdv A outer s H vs Q E hr h => ?_)
  · obtain ⟨m, n, rfl, _⟩ := h
    rfl
  · obtain ⟨m, n, rfl, m1, m6, n1, hn, k⟩ := h
    have l16 := bp
    have hu := gz hr
    refine ⟨_, (@ag _ _ _ _ _ (@aH _ _ (2) _ _ _ _ sc.nd rfl (Or.inl rfl) dC (by rfl) (by first | exact .inl rfl | exact .inr rfl | assumption)) (@ag _ _ _ _ _ (@aH _ _ (3) _ _ _ _ sc.nd rfl (Or.inr rfl) dC (by rfl) (by first | exact .inl rfl | exact .inr rfl | assumption)) (@ag _ _ _ _ _ (@bT _ _ _ _ _ _ _ _ PassesOwn.never rfl (@dR _ _ _ _ _ _ _ rfl T.range (@aa _ _ _ _ _ ae (@aa _ _ _ _ _ (@ao _ _ _ _ _ _ _ _ bt (pv 1) ae) ah (by rfl)) (by rfl)) (by rfl) (by rfl)) (@ar _ _ (4) _ sc.nd rfl (Or.inr rfl) (by first | exact .inl rfl | exact .inr rfl | assumption)) (@ak _ _ _ (@cW _ _ _ _ _ _ _ _ (@aF _ _ _ _ _ _ _ _ cq (@ao _ _ _ _ _ _ _ _ bH (pv 1) (pv 4)) ae (aK _)) (@ag _ _ _ _ _ (@bP _ _ _ _ _ _ _ _ _ hu (pv 2) (pv 4) (@aR _ _ _ _ _ _ _ _ _ _ _ F_ends hr (by decide) rfl (@aa _ _ _ _ _ (pv 0) (@aa _ _ _ _ _ (pv 4) ah (by rfl)) (by rfl)) (by decide) (by rfl) (by rfl)) rfl) (@ag _ _ _ _ _ (@eR _ (5) _ _ _ _ _ _ _ _ _ (["_law_one", "_law_size"]) (["_law_one"]) ([4]) _ _ _ _ sc.nd rfl (Or.inl rfl) (@ba _ _ _ _ _ _ rfl (by kernel_rfl)) rfl (eT (pv 3)) (fun _ _ _ _ => @ar _ _ (0) _ (show (["_law_one", "_law_size"] : List Str).Nodup from by decide +kernel) rfl (Or.inl rfl) (by first | exact .inl rfl | exact .inr rfl | assumption)) (fun _ _ _ _ => (@bE _ _ _ (by exact (@aF _ _ _ _ _ _ _ _ cq (@ao _ _ _ _ _ _ _ _ bH (pv 1) (pv 0)) ae (aK _))))) (fun _ _ _ _ => by (exact (pv 0))) (by intro _ ;rfl) (by rfl) (by first | exact .inl rfl | exact .inr rfl | assumption)) (@ak _ _ _ (@jT _ _ _ _ rfl (@bP _ _ _ _ _ _ _ _ _ hu (pv 3) (pv 4) (@ao _ _ _ _ _ _ _ _ cC (@ao _ _ _ _ _ _ _ _ bh (@cu _ _ _ _ _ _ _ gh (@aD _ _ _ _ _ _ hu (pv 2) (pv 4) (fun _ _ => rfl)) ae (fun _ _ => rfl)) (@aq _ _ _ _ _ _ _ _ _ (@bF _ rfl) (by rfl) Tsum fG (@aa _ _ _ _ _ (@aX _ _ _ _ _ _ _ (["_law_one", "_law_sets"]) (["_law_one"]) ([3]) _ _ _ _ (@ba _ _ _ _ _ _ rfl (by kernel_rfl)) rfl (@bM _ _ _ _ (pv 5)) (fun _ _ _ _ => @ar _ _ (0) _ (show (["_law_one", "_law_sets"] : List Str).Nodup from by decide +kernel) rfl (Or.inl rfl) (by first | exact .inl rfl | exact .inr rfl | assumption)) (fun _ _ _ _ => bb) (fun _ _ _ _ => by (exact @ao _ _ _ _ _ _ _ _ aP (by (exact (pv 0))) (by (exact (@aD _ _ _ _ _ _ hu (pv 1) (pv 0) (fun _ _ => rfl)))))) (by intro _ ;rfl)) ah (by rfl)) (by decide) (by decide) (by rfl) (by rfl))) (pv 4)) rfl))))) bc)) (by intro _ ;rfl)) (@ak _ _ _ (@aI _ _ _ _ (@bI _ _ _ _ (@aa _ _ _ _ _ (@cu _ _ _ _ _ _ _ gh (@aD _ _ _ _ _ _ hu (pv 2) (pv 1) (fun _ _ => rfl)) ae (fun _ _ => rfl)) (@aa _ _ _ _ _ (@cu _ _ _ _ _ _ _ gh (@aD _ _ _ _ _ _ hu (pv 2) (pv 1) (fun _ _ => rfl)) ae (fun _ _ => rfl)) (@aa _ _ _ _ _ (@aq _ _ _ _ _ _ _ _ _ (@bF _ rfl) (by rfl) Tsum fG (@aa _ _ _ _ _ (@aX _ _ _ _ _ _ _ (["_law_size", "_law_sets"]) (["_law_size"]) ([3]) _ _ _ _ (@ba _ _ _ _ _ _ rfl (by kernel_rfl)) rfl (eT (pv 3)) (fun _ _ _ _ => @ar _ _ (0) _ (show (["_law_size", "_law_sets"] : List Str).Nodup from by decide +kernel) rfl (Or.inl rfl) (by first | exact .inl rfl | exact .inr rfl | assumption)) (fun _ _ _ _ => bb) (fun _ _ _ _ => by (exact (@aD _ _ _ _ _ _ hu (pv 1) (pv 0) (fun _ _ => rfl)))) (by intro _ ;rfl)) ah (by rfl)) (by decide) (by decide) (by rfl) (by rfl)) (@aa _ _ _ _ _ (@aD _ _ _ _ _ _ hu (pv 3) (pv 1) (fun _ _ => rfl)) ah (by rfl)) (by rfl)) (by rfl)) (by rfl)))))))), ?_⟩
    intro cd hcd
    have s1 := ax.new (o := .dK []) hcd
    have f1 : (upd H cd (.dK [])) cd=some (.dK []) := ab
    generalize upd H cd (.dK [])=H1 at s1 f1 ⊢
    intro sd hsd
    have s2 := s1.then (o := .dK []) hsd
    have f2 : (upd H1 sd (.dK [])) sd=some (.dK []) := ab
    have g2 : (upd H1 sd (.dK [])) cd=some (.dK []) := ax.new hsd _ _ f1
    have ncs : cd≠sd := af f1 hsd
    have hcd0 : H cd=none := hcd
    have hsd0 : H sd=none := s1.free hsd
    generalize upd H1 sd (.dK [])=H2 at s2 f2 g2 ⊢
    have dl : ∀ j, (dvN n j).length≤60 := fun j => by unfold dvN;exact Nat.le_trans (List.length_filter_le _ _) (by rw [List.length_take, List.length_range'];omega)
    refine ⟨_, rfl, _, _, rfl, rfl, 1, (n : Int)+1, rfl, ⟨by decide, by decide, by omega, by omega⟩, ?_⟩
    rw [show ((n : Int)+1 - 1).toNat=n by omega]
    refine bU (lo := 1) (n := n) (fun j σ H' => ∃ (b4 b5 : Option V) (cs : List (Key × V)), σ = [some (.int (m : Int)), some (.int (n : Int)), some (.ref cd), some (.ref sd), b4, b5] ∧ H' cd=some (.dK cs) ∧ jX H' m (dvN n j) cs ∧ H' sd=some (.dK (bu m (dvN n j))) ∧ ax H H') ⟨none, none, [], rfl, g2, ⟨Nat.zero_le _, fun s hs => by simp [dvN] at hs⟩, f2, s2⟩ ?_ ?_
    · rintro j σ H3 hj ⟨b4, b5, cs, rfl, gc, ct, gs, s3⟩
      have e1 : (1 : Int)+(j : Int)=((j+1 : Nat) : Int) := by omega
      rw [e1]
      refine ⟨_, rfl, _, rfl, _, _, rfl, rfl, by omega, rfl, _, rfl, ?_⟩
      by_cases hdiv : n % (j+1)=0
      · rw [show decide (V.int ((n : Int) % ((j+1 : Nat) : Int))=V.int 0)=true from decide_eq_true (congrArg V.int (by omega))]
        have es := fy (n := n) hj
        rw [if_pos hdiv] at es
        refine nB ⟨_, rfl, _, rfl, m, j+1, rfl, m1, m6, by omega, by omega, fun p H4 hp s4 => ?_⟩
        have ct4 := ct.mono (H' := H4) fun p xs q => s4 _ _ q
        have cl := ct.1
        have d60 := dl j
        refine ⟨_, rfl, _, rfl, cd, _, rfl, ik.k (k := .inl ((j+1 : Nat) : Int)) (s4 _ _ gc) (by omega), ?_⟩
        have np : p≠cd := fun e => by rw [e, s4 _ _ gc] at hp;cases hp
        have gc5 : (upd H4 cd (.dK (aV cs (.inl ((j+1 : Nat) : Int)) (.ref p)))) cd=some (.dK (aV cs (.inl ((j+1 : Nat) : Int)) (.ref p))) := ab
        have tup5 : ∀ q xs, H4 q=some (.tup xs) → (upd H4 cd (.dK (aV cs (.inl ((j+1 : Nat) : Int)) (.ref p)))) q=some (.tup xs) := fun q xs e => by
          rw [aj (fun z => by rw [z, s4 _ _ gc] at e;cases e)];exact e
        have gs5 : (upd H4 cd (.dK (aV cs (.inl ((j+1 : Nat) : Int)) (.ref p)))) sd=some (.dK (bu m (dvN n j))) := by rw [aj ncs.symm];exact s4 _ _ gs
        have s5 : ax H (upd H4 cd (.dK (aV cs (.inl ((j+1 : Nat) : Int)) (.ref p)))) := fun b o q => by rw [aj (af q hcd0)];exact s4 _ _ (s3 _ _ q)
        have ct5 := (ct4.mono tup5).put (tup5 _ _ hp)
        rw [← es] at ct5
        have cp := (ct5.2 (j+1) (by rw [es];simp))
        generalize upd H4 cd (.dK (aV cs (.inl ((j+1 : Nat) : Int)) (.ref p)))=H5 at gc5 gs5 s5 ct5 cp ⊢
        clear tup5 ct4
        refine ⟨_, rfl, sd, _, rfl, gs5, fun o => ?_⟩
        have gs6 : (upd H5 sd (.frz o (.dK (bu m (dvN n j))))) sd=some (.frz o (.dK (bu m (dvN n j)))) := ab
        have gc6 : (upd H5 sd (.frz o (.dK (bu m (dvN n j))))) cd=some (.dK (aV cs (.inl ((j+1 : Nat) : Int)) (.ref p))) := by rw [aj ncs];exact gc5
        have s6 : ax H (upd H5 sd (.frz o (.dK (bu m (dvN n j))))) := fun b o q => by rw [aj (af q hsd0)];exact s5 _ _ q
        have ct6 := ct5.mono (H' := upd H5 sd (.frz o (.dK (bu m (dvN n j))))) fun q xs e => by rw [aj (fun z => by rw [z, gs5] at e;cases e)];exact e
        generalize upd H5 sd (.frz o (.dK (bu m (dvN n j))))=H6 at gs6 gc6 s6 ct6 ⊢
        have kl : (bu m (dvN n j)).length=(dvN n j).length := by unfold bu;rw [List.length_map]
        have kat : ∀ {i : Nat} {key : Key} {val : V}, (bu m (dvN n j))[i]? = some (key, val) → ∃ s, (dvN n j)[i]? = some s ∧ key = .inl (s : Int) := fun {i key val} hkv => by
          unfold bu at hkv
          rw [List.getElem?_map] at hkv
          obtain ⟨s, h1, h2⟩ := Option.map_eq_some_iff.mp hkv
          cases h2
          exact ⟨s, h1, rfl⟩
        refine bf (own := ["_law_one"]) (cap := [4]) (J := Itk sd o (bu m (dvN n j))) (bu m (dvN n j)).length (fun i ys σ H' => ∃ b : Option V, σ = [b, some (.int ((j+1 : Nat) : Int))] ∧ ys=(((dvN n j).take i).filter fun s => decide ((j+1) % s=0)).map (fun s : Nat => V.int (s : Int)) ∧ H'=H6) ⟨none, rfl, rfl, rfl⟩ (fun i ys σ H' hi ⟨_, _, e, _⟩ => by rw [e, List.length_map];exact Nat.le_trans (List.length_filter_le _ _) (by rw [List.length_take];omega)) (by omega) (fun i ys σ H' hi ⟨_, _, _, e⟩ => by rw [e];exact ⟨hi, gs6⟩) (fun ys σ H' ⟨_, _, _, e⟩ => by rw [e];exact ⟨rfl, gs6⟩) ?_ ?_
        · rintro i ys σ H7 x H8 N hi ⟨_, rfl, rfl, rfl⟩ ⟨rfl, key, val, hkv, rfl⟩ hN
          obtain ⟨q, hq, rfl⟩ := kat hkv
          obtain ⟨q1, q2, q3⟩ := (eZ (by omega)).mp (List.mem_of_getElem? hq)
          refine ⟨_, rfl, _, rfl, _, _, rfl, rfl, (by show 0 < (q : Int);omega), rfl, _, rfl, ?_⟩
          by_cases hm : (j+1) % q=0
          · refine fJ (decide_eq_true (congrArg V.int (by omega))) ⟨_, rfl, hN _ _ _ ⟨_, rfl, ?_, rfl⟩⟩
            rw [List.take_add_one, hq, List.filter_append, List.map_append]
            simp [hm]
            rfl
          · refine fK (decide_eq_false fun e => hm (by have := V.int.inj e;omega)) (hN _ _ _ ⟨_, rfl, ?_, rfl⟩)
            rw [List.take_add_one, hq, List.filter_append]
            simp [hm]
        rintro ys σ H7 l ⟨_, rfl, rfl, rfl⟩ hl
        rw [List.take_of_length_le (by omega)]
        generalize hL : (dvN n j).filter (fun s => decide ((j+1) % s=0))=les
        have lesM : ∀ q∈les, q∈dvN n j := fun q hq => by rw [← hL] at hq;exact (List.mem_filter.mp hq).1
        have lesL : les.length≤60 := by rw [← hL];exact Nat.le_trans (List.length_filter_le _ _) (dl j)
        have s8 := s6.then (o := .lst (les.map fun s : Nat => V.int (s : Int))) hl
        have t8 := ax.new (o := .lst (les.map fun s : Nat => V.int (s : Int))) hl
        have f8 : (upd H7 l (.lst (les.map fun s : Nat => V.int (s : Int)))) l=some (.lst (les.map fun s : Nat => V.int (s : Int))) := ab
        have gs8 := t8 _ _ gs6
        have gc8 := t8 _ _ gc6
        have ct8 := ct6.mono (H' := upd H7 l (.lst (les.map fun s : Nat => V.int (s : Int)))) fun q xs e => t8 _ _ e
        generalize upd H7 l (.lst (les.map fun s : Nat => V.int (s : Int)))=H8 at s8 f8 gs8 gc8 ct8 ⊢
        clear t8 ct6 ct5 gc6 gs6 gc5 gs5 s6 s5 cp
        refine .mk sd o _ gs8 hsd0 ?_
        have nls : l≠sd := fun e => by rw [e, gs8] at f8;cases f8
        have gs9 : (upd H8 sd (.dK (bu m (dvN n j)))) sd=some (.dK (bu m (dvN n j))) := ab
        have f9 : (upd H8 sd (.dK (bu m (dvN n j)))) l=some (.lst (les.map fun s : Nat => V.int (s : Int))) := by rw [aj nls];exact f8
        have gc9 : (upd H8 sd (.dK (bu m (dvN n j)))) cd=some (.dK (aV cs (.inl ((j+1 : Nat) : Int)) (.ref p))) := by rw [aj ncs];exact gc8
        have s9 : ax H (upd H8 sd (.dK (bu m (dvN n j)))) := fun b o q => by rw [aj (af q hsd0)];exact s8 _ _ q
        have ct9 := ct8.mono (H' := upd H8 sd (.dK (bu m (dvN n j)))) fun q xs e => by rw [aj (fun z => by rw [z, gs8] at e;cases e)];exact e
        generalize upd H8 sd (.dK (bu m (dvN n j)))=H9 at gs9 f9 gc9 s9 ct9 ⊢
        obtain ⟨p9, hv9, hp9⟩ := ct9.2 (j+1) (by rw [es];simp)
        have g9 := dN.k (k := .inl ((j+1 : Nat) : Int)) gc9
        rw [hv9] at g9
        refine ⟨_, rfl, _, rfl, cd, _, rfl, g9, p9, _, _, _, rfl, rfl, SqT.of hp9, at1 _ _ _, ?_⟩
        refine ⟨_, rfl, l, rfl, ⟨_, SqL.of f9⟩, ?_⟩
        refine b0 (xs := les.map fun s : Nat => V.int (s : Int)) (own := ["_law_one"]) (cap := [3]) (fun i ys σ H' => ∃ b : Option V, σ = [b, some (.ref sd)] ∧ ys=((les.take i).map fun s : Nat => (s : Int)*rtN 7 m s).map V.int ∧ H'=H9) ⟨none, rfl, rfl, rfl⟩ (fun i ys σ H' hi ⟨_, _, e, _⟩ => by rw [e, List.length_map, List.length_map, List.length_take];omega) (by rw [List.length_map];omega) (fun i ys σ H' ⟨_, _, _, e⟩ => by rw [e];exact SqL.of f9) ?_ ?_
        · rintro i ys σ H10 z N hz ⟨b, rfl, rfl, rfl⟩ hN
          rw [List.getElem?_map] at hz
          obtain ⟨q, hq, rfl⟩ := Option.map_eq_some_iff.mp hz
          have mq := lesM q (List.mem_of_getElem? hq)
          obtain ⟨q1, q2, q3⟩ := (eZ (by omega)).mp mq
          have g := dN.k (k := .inl (q : Int)) gs9
          rw [e7 (jk n j) mq] at g
          refine ⟨_, rfl, _, rfl, _, rfl, sd, _, rfl, g, _, _, rfl, rfl, .inl ⟨by omega, by omega⟩, hN _ _ _ ⟨_, rfl, ?_, rfl⟩⟩
          rw [List.take_add_one, hq, List.map_append, List.map_append]
          rfl
        rintro ys σ H10 l2 ⟨b, rfl, rfl, rfl⟩ hl2
        rw [List.length_map, List.take_length]
        have t11 := ax.new (o := .lst ((les.map fun s : Nat => (s : Int)*rtN 7 m s).map V.int)) hl2
        have s11 := s9.trans t11
        have gs11 := t11 _ _ gs9
        have gc11 := t11 _ _ gc9
        have ct11 := ct9.mono (H' := upd H10 l2 (.lst ((les.map fun s : Nat => (s : Int)*rtN 7 m s).map V.int))) fun q xs e => t11 _ _ e
        refine ⟨l2, _, rfl, SqL.of ab, _, _, rfl, rfl, _, rfl, _, _, rfl, rfl, ⟨by omega, by omega⟩, ?_⟩
        generalize upd H10 l2 (.lst ((les.map fun s : Nat => (s : Int)*rtN 7 m s).map V.int))=H11 at s11 gs11 gc11 ct11 ⊢
        have ev := lq (m := m) (n := n) (d := j+1) hdiv (by omega) (by omega) hn
        rw [Nat.add_sub_cancel, hL] at ev
        refine ⟨_, rfl, _, rfl, sd, _, rfl, ik.k (k := .inl ((j+1 : Nat) : Int)) gs11 (by omega), ?_⟩
        have nin : j+1∉dvN n j := fun hm => by have := ((eZ (by omega)).mp hm).2.1;omega
        rw [ev, iQ nin, ← es]
        refine ⟨_, _, _, rfl, by rw [aj ncs];exact gc11, ct11.mono fun q xs e => ?_, ab, fun b o q => ?_⟩
        · rw [aj (fun z => by rw [z, gs11] at e;cases e)];exact e
        · rw [aj (af q hsd0)];exact s11 _ _ q
      · rw [show decide (V.int ((n : Int) % ((j+1 : Nat) : Int))=V.int 0)=false from decide_eq_false fun e => hdiv (by have := V.int.inj e;omega)]
        have es := fy (n := n) hj
        rw [if_neg hdiv, List.append_nil] at es
        exact nC ⟨_, _, cs, rfl, gc, by rw [es];exact ct, by rw [es];exact gs, s3⟩
    · rintro σ H3 ⟨b4, b5, cs, rfl, gc, ct, gs, s3⟩
      rw [g0] at ct gs
      have nd : (bG n).Nodup := by rw [← g0];exact jk n n
      have nm : n∈bG n := cN.mpr ⟨n1, Nat.le_refl _, Nat.mod_self n⟩
      obtain ⟨p, hv, hp⟩ := ct.2 n nm
      have g1 := dN.k (k := .inl (n : Int)) gc
      rw [hv] at g1
      refine ⟨_, rfl, _, rfl, cd, _, rfl, g1, p, _, _, _, rfl, rfl, SqT.of hp, at0 _ _, ?_⟩
      refine ⟨_, rfl, _, rfl, cd, _, rfl, g1, p, _, _, _, rfl, rfl, SqT.of hp, at1 _ _ _, ?_⟩
      refine ⟨_, rfl, sd, _, rfl, gs, fun o => ?_⟩
      have gs4 : (upd H3 sd (.frz o (.dK (bu m (bG n))))) sd=some (.frz o (.dK (bu m (bG n)))) := ab
      have s4 : ax H (upd H3 sd (.frz o (.dK (bu m (bG n))))) := fun b o q => by rw [aj (af q hsd0)];exact s3 _ _ q
      generalize upd H3 sd (.frz o (.dK (bu m (bG n))))=H4 at gs4 s4 ⊢
      have kl : (bu m (bG n)).length=(bG n).length := by unfold bu;rw [List.length_map]
      have d60 := eW n
      refine bf (own := ["_law_size"]) (cap := [3]) (J := Itk sd o (bu m (bG n))) (bu m (bG n)).length (fun i ys σ H' => ∃ b : Option V, σ = [b, some (.ref sd)] ∧ ys=(((bG n).take i).map fun s : Nat => rtN 7 m s).map V.int ∧ H'=H4) ⟨none, rfl, rfl, rfl⟩ (fun i ys σ H' hi ⟨_, _, e, _⟩ => by rw [e, List.length_map, List.length_map, List.length_take];omega) (by omega) (fun i ys σ H' hi ⟨_, _, _, e⟩ => by rw [e];exact ⟨hi, gs4⟩) (fun ys σ H' ⟨_, _, _, e⟩ => by rw [e];exact ⟨rfl, gs4⟩) ?_ ?_
      · rintro i ys σ H5 x H6 N hi ⟨_, rfl, rfl, rfl⟩ ⟨rfl, key, val, hkv, rfl⟩ hN
        obtain ⟨q, hq, rfl⟩ : ∃ s, (bG n)[i]? = some s ∧ key = .inl (s : Int) := by
          unfold bu at hkv
          rw [List.getElem?_map] at hkv
          obtain ⟨s, h1, h2⟩ := Option.map_eq_some_iff.mp hkv
          cases h2
          exact ⟨s, h1, rfl⟩
        have g := dN.f (k := .inl (q : Int)) gs4
        rw [e7 nd (List.mem_of_getElem? hq)] at g
        refine ⟨_, rfl, _, rfl, sd, _, rfl, g, hN _ _ _ ⟨_, rfl, ?_, rfl⟩⟩
        rw [List.take_add_one, hq, List.map_append, List.map_append]
        rfl
      rintro ys σ H5 l ⟨_, rfl, rfl, rfl⟩ hl
      rw [List.take_of_length_le (by omega)]
      have t6 := ax.new (o := .lst (((bG n).map fun s : Nat => rtN 7 m s).map V.int)) hl
      have g := dN.f (k := .inl (n : Int)) (t6 _ _ gs4)
      rw [e7 nd nm] at g
      refine ⟨l, _, rfl, SqL.of ab, _, rfl, _, rfl, sd, _, rfl, g, (aJ (n := 4) (by decide)), fun r hr => ?_⟩
      refine k r _ ?_ ((s4.trans t6).then hr)
      rw [ab]
      unfold cv tcN
      rw [if_neg (by omega)]
      rfl
end
end Kx
set_option Elab.async false
set_option linter.all false
set_option maxRecDepth 100000
set_option maxHeartbeats 0
namespace Kx
open PySem PySem.Spec PyProof.Rows L2 Wd
section
variable {P : Program} {w : World} {K : PySem.W.Frag} {mg : Str → Option Value} {base : Heap} {aB : Addr}
theorem iX (v : List L) : eQ v (some ((v.length : Int) - 1)) none=v.drop (v.length - 1) := by
  cases v with
  | nil => unfold eQ;simp
  | cons x r => rw [fo _ (by rw [List.length_cons];omega), show (((x::r).length : Int) - 1).toNat=(x::r).length - 1 by omega]
abbrev b9 : Stmt := top 11
theorem h9 : aG ["_law_many", "_law_most", "_law_signs", "_law_found", "_law_longer", "_law_word", "_law_back_again"] ["_law_many", "_law_most"] (ai b9) := ⟨rfl, rfl, rfl, by decide +kernel, rfl, by decide +kernel, by decide +kernel⟩
theorem iY (D : Df K mg "_law_listed" b9)(T : Bt0 mg)(F_lback : Fnc P w K mg base "_law_back" ["_law_word"] 1 k_) : Fnc P w K mg base "_law_listed" ["_law_many", "_law_most"] 2 dJ := by
  have sc := h9
  refine D.ok sc (fun _ _ _ _ _ _ us hl => by obtain ⟨_, _, rfl⟩ := hJ hl;rfl) (fun vs H Q E h => ?_) (fun f cdv A outer s H vs Q E hr h => ?_)
  · obtain ⟨m, rfl, _⟩ := h
    rfl
  · obtain ⟨m, rfl, m1, m6, k⟩ := h
    have l16 := bp
    refine ⟨_, (@ag _ _ _ _ _ (@aH _ _ (2) _ _ _ _ sc.nd rfl (Or.inl rfl) (@ao _ _ _ _ _ _ _ _ bj (@a_ _ _ _ _ _ _ _ _ _ _ cK aE bz (@bA _ _ _ (pv 0))) (@a_ _ _ _ _ _ _ _ _ _ _ cK aE bz (@bA _ _ _ (pv 0)))) (by rfl) (by first | exact .inl rfl | exact .inr rfl | assumption)) (@ag _ _ _ _ _ (@aH _ _ (3) _ _ _ _ sc.nd rfl (Or.inl rfl) (@bI _ _ _ _ (@aa _ _ _ _ _ (@bI _ _ _ _ (@aa _ _ _ _ _ aE ah (by rfl))) ah (by rfl))) (by rfl) (by first | exact .inl rfl | exact .inr rfl | assumption)) (@ag _ _ _ _ _ (@iz _ _ _ _ _ _ PassesOwn.never (@PW.pt _ _ _ (@ki _ _ _ _ _ _ _ (@aF _ _ _ _ _ _ _ _ me (@ao _ _ _ _ _ _ _ _ aP (@ao _ _ _ _ _ _ _ _ aP (@aq _ _ _ _ _ _ _ _ _ aA (by rfl) T.len PySem.boot_len (@aa _ _ _ _ _ (@cu _ _ _ _ _ _ _ bO (pv 3) (@ao _ _ _ _ _ _ _ _ bh (@aq _ _ _ _ _ _ _ _ _ aA (by rfl) T.len PySem.boot_len (@aa _ _ _ _ _ (pv 3) ah (by rfl)) (by decide) (by decide) (by rfl) (by rfl)) ae) (fun _ _ => rfl)) ah (by rfl)) (by decide) (by decide) (by rfl) (by rfl)) ae) (pv 0)) (pv 1) (aK _)) (@js _ _ _ _ (@aF _ _ _ _ _ _ _ _ jx (@aq _ _ _ _ _ _ _ _ _ aA (by rfl) T.len PySem.boot_len (@aa _ _ _ _ _ (pv 3) ah (by rfl)) (by decide) (by decide) (by rfl) (by rfl)) ae (aK _))))) (@ag _ _ _ _ _ (@aH _ _ (4) _ _ _ _ sc.nd rfl (Or.inl rfl) (@bI _ _ _ _ ah) (by rfl) (by first | exact .inl rfl | exact .inr rfl | assumption)) (@ag _ _ _ _ _ (@bT _ _ _ _ _ _ _ _ PassesOwn.never rfl (@bM _ _ _ _ (@cu _ _ _ _ _ _ _ bO (pv 3) (@ao _ _ _ _ _ _ _ _ bh (@aq _ _ _ _ _ _ _ _ _ aA (by rfl) T.len PySem.boot_len (@aa _ _ _ _ _ (pv 3) ah (by rfl)) (by decide) (by decide) (by rfl) (by rfl)) ae) (fun _ _ => rfl))) (@ar _ _ (5) _ sc.nd rfl (Or.inr rfl) (by first | exact .inl rfl | exact .inr rfl | assumption)) (@ag _ _ _ _ _ (@aH _ _ (6) _ _ _ _ sc.nd rfl (Or.inr rfl) (@aR _ _ _ _ _ _ _ _ _ _ _ F_lback hr (by decide) rfl (@aa _ _ _ _ _ (@a_ _ _ _ _ _ _ _ _ _ _ cK (pv 5) (@bA _ _ _ (@ao _ _ _ _ _ _ _ _ bh (@aq _ _ _ _ _ _ _ _ _ cj (by rfl) T.len PySem.boot_len (@aa _ _ _ _ _ (pv 5) ah (by rfl)) (by decide) (by decide) (by rfl) (by rfl)) ae)) bz) ah (by rfl)) (by decide) (by rfl) (by rfl)) (by rfl) (by first | exact .inl rfl | exact .inr rfl | assumption)) (@ak _ _ _ (@fR _ _ _ _ (@kI _ _ _ _ _ _ _ _ _ _ _ _ PySem.F.plainAttrs_list PySem.F.slot_list_extend PySem.F.type_list_extend gm (pv 4) (@aa _ _ _ _ _ (@aX _ _ _ _ _ _ _ (["_law_sign", "_law_word", "_law_back_again"]) (["_law_sign"]) ([5, 6]) _ _ _ _ (@ba _ _ _ _ _ _ rfl (by kernel_rfl)) rfl (@de _ _ _ _ (pv 2)) (fun _ _ _ _ => @ar _ _ (0) _ (show (["_law_sign", "_law_word", "_law_back_again"] : List Str).Nodup from by decide +kernel) rfl (Or.inl rfl) (by first | exact .inl rfl | exact .inr rfl | assumption)) (fun _ _ _ _ => (@bE _ _ _ (by exact (@aF _ _ _ _ _ _ _ _ fZ (pv 0) (pv 2) (aK _))))) (fun _ _ _ _ => by (exact @ao _ _ _ _ _ _ _ _ bj (by (exact (pv 1))) (by (exact (pv 0))))) (by intro _ ;rfl)) ah (by rfl)) (by rfl) (by rfl) (by rfl) (by rfl) (by rfl)) (by rfl)))) (by intro _ ;rfl)) (@ak _ _ _ (@fR _ _ _ _ (@kI _ _ _ _ _ _ _ _ _ _ _ _ PySem.F.plainAttrs_list PySem.F.slot_list_append PySem.F.type_list_append gj (pv 3) (@aa _ _ _ _ _ (pv 4) ah (by rfl)) (by rfl) (by rfl) (by rfl) (by rfl) (by rfl)) (by rfl)))))) (@ak _ _ _ (@aI _ _ _ _ (pv 3)))))), ?_⟩
    have lg : (sgN m).length≤12 := by unfold sgN;rw [List.length_append, List.length_take, List.length_take];show min m 6+min m 6≤12;omega
    refine ⟨_, rfl, _, rfl, _, rfl, (aJ (n := 6) (by decide)), _, rfl, _, rfl, _, rfl, (aJ (n := 6) (by decide)), _, _, rfl, rfl, ?_, ?_⟩
    · have h1 := Txt.slice_le ("abcdef" : Str) none (some (m : Int))
      have h2 := Txt.slice_le ("ABCDEF" : Str) none (some (m : Int))
      have e1 : ("abcdef" : Str).length=6 := by decide +kernel
      have e2 : ("ABCDEF" : Str).length=6 := by decide +kernel
      omega
    rw [fv (m := (m : Int)) (by omega), jh]
    refine ⟨(aJ (n := 1) (by decide)), fun r0 hr0 => ?_⟩
    have s1 := ax.new (o := .lst [V.str (Str.ofString "")]) hr0
    have f1 : (upd H r0 (.lst [V.str (Str.ofString "")])) r0=some (.lst (([[]] : List (List L)).map tx)) := by rw [ab];exact congrArg (fun z => some (HO.lst [z])) jd.symm
    generalize upd H r0 (.lst [V.str (Str.ofString "")])=H1 at s1 f1 ⊢
    refine ⟨(aJ (n := 1) (by decide)), fun l hl => ?_⟩
    have s2 := s1.then (o := .lst [V.ref r0]) hl
    have f2 : (upd H1 l (.lst [V.ref r0])) l=some (.lst ([r0].map V.ref)) := ab
    have g2 := ax.new (o := .lst [V.ref r0]) hl _ _ f1
    have hl0 : H l=none := s1.free hl
    have n0 : r0≠l := af f1 hl
    show fS _ _ _ _ (upd H1 l (.lst [V.ref r0]))
    generalize upd H1 l (.lst [V.ref r0])=H2 at s2 f2 g2 ⊢
    refine iO (fun k σ H' => ∃ (b4 b5 b6 : Option V) (rs : List Addr) (Ws : List (List (List L))), σ = [some (.int (m : Int)), some (.int 1500), some (tx (sgN m)), some (.ref l), b4, b5, b6] ∧ H' l=some (.lst (rs.map V.ref)) ∧ LL H' rs Ws ∧ l∉rs ∧ Ws≠[] ∧ Ws.length+k=10 ∧ lsF m k Ws=cT m ∧ (∀ W∈Ws, W.length≤1500 ∧ ∀ w∈W, w.length≤Ws.length) ∧ ax H H')
      (fun σ H' => ∃ (b4 b5 b6 : Option V) (rs : List Addr), σ = [some (.int (m : Int)), some (.int 1500), some (tx (sgN m)), some (.ref l), b4, b5, b6] ∧ H' l=some (.lst (rs.map V.ref)) ∧ LL H' rs (cT m) ∧ ax H H') ⟨9, none, none, none, [r0], [[[]]], rfl, f2, ⟨rfl, fun i r W a b => ?_⟩, by simp;exact fun e => n0 e.symm, by simp, rfl, rfl, fun W hW => ?_, s2⟩ ?_ ?_
    · cases i with
      | zero => cases a;cases b;exact g2
      | succ i => simp at a
    · rw [List.mem_singleton.mp hW]
      exact ⟨by decide, fun w hw => by rw [List.mem_singleton.mp hw];decide⟩
    · rintro nx hnx kk σ H3 ⟨b4, b5, b6, rs, Ws, rfl, f3, ll, nin, wne, hk, hfin, hb, s3⟩
      have wp := List.length_pos_iff.mpr wne
      have rl := ll.1
      have hlast : Ws[Ws.length - 1]? = some (bw Ws) := by
        unfold bw
        rw [List.getLastD_eq_getLast?, List.getLast?_eq_getElem?, List.getElem?_eq_getElem (by omega)]
        rfl
      obtain ⟨wl, ww⟩ := hb _ (List.mem_of_getElem? hlast)
      have hr' := List.getElem?_eq_getElem (show Ws.length - 1 < rs.length by omega)
      generalize rs[Ws.length - 1]'(by omega)=r at hr'
      have fr := ll.2 _ _ _ hr' hlast
      have ri : atI (rs.map V.ref) (((rs.map V.ref).length : Int) - 1)=some (.ref r) := by
        rw [List.length_map, show ((rs.length : Int) - 1)=((Ws.length - 1 : Nat) : Int) by omega]
        exact cF (by rw [List.getElem?_map, hr'];rfl)
      have nr : l≠r := fun e => nin (by rw [e];exact List.mem_of_getElem? hr')
      refine ⟨_, rfl, _, rfl, l, _, rfl, .inl (SqL.of f3), _, _, rfl, rfl, l, _, _, _, rfl, rfl, SqL.of f3, ri, r, _, rfl, .inl (SqL.of fr), ?_⟩
      have el : ((((bw Ws).map tx).length : Nat) : Int)*2*(m : Int)=(((bw Ws).length*2*m : Nat) : Int) := by rw [List.length_map, Int.natCast_mul, Int.natCast_mul];rfl
      have l15 : ((bw Ws).map tx).length≤1500 := by rw [List.length_map];exact wl
      refine ⟨_, _, rfl, rfl, .inr ⟨by decide, by decide⟩, _, rfl, _, _, rfl, rfl, .inr ⟨by omega, by omega⟩, _, rfl, _, _, rfl, rfl, _, rfl, ?_⟩
      rw [el]
      have stop : ¬ ((bw Ws).length*2*m≤1500 ∧ Ws.length < 9) → ∃ (c4 c5 c6 : Option V) (rs' : List Addr), [some (V.int (m : Int)), some (.int 1500), some (tx (sgN m)), some (.ref l), b4, b5, b6]=[some (V.int (m : Int)), some (.int 1500), some (tx (sgN m)), some (.ref l), c4, c5, c6] ∧ H3 l=some (.lst (rs'.map V.ref)) ∧ LL H3 rs' (cT m) ∧ ax H H3 := fun h => ⟨b4, b5, b6, rs, rfl, f3, by rw [← hfin, iU h];exact ll, s3⟩
      by_cases hc1 : (bw Ws).length*2*m≤1500
      · rw [show decide ((((bw Ws).length*2*m : Nat) : Int)≤1500)=true from decide_eq_true (by omega)]
        refine mO ⟨_, rfl, l, _, rfl, .inl (SqL.of f3), _, _, rfl, rfl, _, rfl, ?_⟩
        by_cases hc2 : Ws.length < 9
        · refine fJ (decide_eq_true (by rw [List.length_map];omega)) ⟨_, fun σ' H' q => q, ?_⟩
          obtain ⟨kk, rfl⟩ : ∃ k', kk=k' + 1 := ⟨kk - 1, by omega⟩
          rw [lsF, if_pos ⟨hc1, hc2⟩] at hfin
          have ll15 := er m6 (bw Ws)
          refine ⟨(aJ (n := 0) (by decide)), fun g hg => ?_⟩
          have s4 := ax.new (o := .lst []) hg
          have f4 : (upd H3 g (.lst [])) g=some (.lst (([] : List (List L)).map tx)) := ab
          have nlg : l≠g := af f3 hg
          have nrg : r≠g := af fr hg
          have nin2 : ∀ q∈rs, q≠g := fun q hq => by
            obtain ⟨i, hi, e⟩ := List.mem_iff_getElem.mp hq
            have := ll.2 i q Ws[i] (by rw [List.getElem?_eq_getElem hi, e]) (List.getElem?_eq_getElem (by omega))
            exact af this hg
          have hg0 : H g=none := s3.free hg
          generalize upd H3 g (.lst [])=H4 at s4 f4 ⊢
          refine ⟨_, rfl, _, rfl, l, _, rfl, .inl (SqL.of (s4 _ _ f3)), _, _, rfl, rfl, l, _, _, _, rfl, rfl, SqL.of (s4 _ _ f3), ri, r, rfl, ⟨_, SqL.of (s4 _ _ fr)⟩, ?_⟩
          refine dy (xs := (bw Ws).map tx) (fun i σ H' => ∃ (b5 b6 : Option V), σ = [some (.int (m : Int)), some (.int 1500), some (tx (sgN m)), some (.ref l), some (.ref g), b5, b6] ∧ H' g=some (.lst ((cS m ((bw Ws).take i)).map tx)) ∧ (∀ b o, b≠g → H3 b=some o → H' b=some o)) ⟨_, _, rfl, f4, fun b o _ e => s4 _ _ e⟩ (fun i σ H' _ ⟨_, _, _, _, q⟩ => SqL.of (q _ _ nrg fr)) ?_ ?_
          · rintro i x σ H5 hx ⟨b5, b6, rfl, f5, k5⟩
            rw [List.getElem?_map] at hx
            obtain ⟨v, hv, rfl⟩ := Option.map_eq_some_iff.mp hx
            have vl := ww v (List.mem_of_getElem? hv)
            have lv := az v
            refine ⟨_, rfl, _, rfl, toS v, rfl, by omega, _, _, rfl, rfl, _, rfl, toS v, rfl, by omega, ?_⟩
            rw [aY, lv, iX]
            have dl1 : (v.drop (v.length - 1)).length≤1 := by rw [List.length_drop];omega
            generalize hu : v.drop (v.length - 1)=u at dl1
            refine ⟨u, rfl, by omega, fun H6 s6 => ?_⟩
            have f6 := s6 _ _ f5
            refine ⟨_, rfl, .inl ⟨rfl, _, SqL.of f6⟩, _, rfl, toS (sgN m), rfl, ?_⟩
            refine bf (own := ["_law_sign"]) (cap := [5, 6]) (J := Its (toS (sgN m))) (sgN m).length (fun j ys σ' H' => ∃ b : Option V, σ'=[b, some (tx v), some (tx (bk u))] ∧ ys=((((sgN m).take j).filter fun x => !(eqB [x] (bk u))).map fun x => v++[x]).map tx ∧ H'=H6) ⟨none, rfl, rfl, rfl⟩ (fun j ys σ' H' hj ⟨_, _, e, _⟩ => by rw [e, List.length_map, List.length_map];exact Nat.le_trans (List.length_filter_le _ _) (by rw [List.length_take];omega)) (by omega) (fun j ys σ' H' hj _ => ?_) (fun ys σ' H' _ => ?_) ?_ ?_
            · show j < (toS _).cps.size;rw [aS];exact hj
            · show _=(toS _).cps.size;rw [aS]
            · rintro j ys σ' H7 z H8 N hj ⟨b, rfl, rfl, rfl⟩ ⟨rfl, c, hc, rfl⟩ hN
              obtain ⟨x, hx, e⟩ := cL hc
              rw [e]
              have lx := az [x]
              have ls : [x].length=1 := rfl
              refine ⟨_, rfl, _, rfl, rfl, _, rfl, ?_⟩
              have ed : decide (V.str (toS [x])=tx (bk u))=eqB [x] (bk u) := by
                rw [Bool.eq_iff_iff, decide_eq_true_iff, cP]
                exact ⟨fun z => bC (V.str.inj z), fun z => by rw [z];rfl⟩
              rw [ed]
              cases he : eqB [x] (bk u) with
              | true =>
                refine fK rfl (hN _ _ _ ⟨_, rfl, ?_, rfl⟩)
                rw [List.take_add_one, hx, List.filter_append]
                simp [he]
              | false =>
                refine fJ rfl ⟨_, rfl, _, rfl, _, _, rfl, rfl, by omega, ?_⟩
                rw [ft]
                refine hN _ _ _ ⟨_, rfl, ?_, rfl⟩
                rw [List.take_add_one, hx, List.filter_append]
                simp [he]
            · rintro ys σ' H7 q ⟨b, rfl, rfl, rfl⟩ hq
              rw [List.take_length]
              have hL := er m6 ((bw Ws).take i)
              have hB : ((bw Ws).take i).length*2*m≤1500*2*6 := Nat.mul_le_mul (Nat.mul_le_mul (by rw [List.length_take];omega) (Nat.le_refl _)) m6
              have hF : ((sgN m).filter fun x => !(eqB [x] (bk u))).length≤12 := Nat.le_trans (List.length_filter_le _ _) lg
              refine ⟨g, q, _, _, rfl, rfl, ax.new hq _ _ f6, ab, (by rw [List.length_map, List.length_map, List.length_map];omega), ?_⟩
              refine ⟨_, _, rfl, ?_, fun b o nb e => ?_⟩
              · rw [ab, List.take_add_one, hv, Option.toList_some, fH, hu, List.map_append]
              · rw [aj nb]
                exact ax.new hq _ _ (s6 _ _ (k5 b o nb e))
          · rintro σ H5 ⟨b5, b6, rfl, f5, k5⟩
            rw [List.length_map, List.take_length] at f5
            have f3' := k5 _ _ nlg f3
            refine ⟨_, rfl, .inl ⟨rfl, _, SqL.of f3'⟩, _, rfl, l, _, _, rfl, rfl, f3', (by rw [List.length_map];omega), ?_⟩
            refine ⟨kk, Nat.lt_succ_self _, _, _, _, rs++[g], Ws++[cS m (bw Ws)], rfl, by rw [ab, List.map_append];rfl, LL.snoc (ll.mono fun q hq xs e => ?_) ?_, ?_, by simp, by rw [List.length_append];simp;omega, hfin, fun W hW => ?_, fun b o e => ?_⟩
            · rw [aj (show q≠l from fun z => nin (by rw [← z];exact hq))]
              exact k5 _ _ (nin2 q hq) e
            · rw [aj nlg.symm]
              exact f5
            · intro hm
              rcases List.mem_append.mp hm with q | q
              · exact nin q
              · exact nlg (List.mem_singleton.mp q)
            · rw [List.length_append, List.length_singleton]
              rcases List.mem_append.mp hW with q | q
              · exact ⟨(hb W q).1, fun w hw => by have := (hb W q).2 w hw;omega⟩
              · rw [List.mem_singleton.mp q]
                refine ⟨by omega, fun w hw => ?_⟩
                unfold cS at hw
                obtain ⟨v, hv, hw⟩ := List.mem_flatMap.mp hw
                obtain ⟨x, _, rfl⟩ := List.mem_map.mp hw
                have := ww v hv
                rw [List.length_append, List.length_singleton]
                omega
            · rw [aj (af e hl0)]
              exact k5 _ _ (af e hg0) (s3 _ _ e)
        · exact fK (decide_eq_false (by rw [List.length_map];omega)) (hnx _ _ (stop fun z => hc2 z.2))
      · rw [show decide ((((bw Ws).length*2*m : Nat) : Int)≤1500)=false from decide_eq_false (by omega)]
        exact mP (hnx _ _ (stop fun z => hc1 z.1))
    · rintro σ H3 ⟨b4, b5, b6, rs, rfl, f3, ll, s3⟩
      exact ⟨_, rfl, k l rs H3 f3 ll s3⟩
end
end Kx
set_option Elab.async false
set_option linter.all false
set_option maxRecDepth 100000
set_option maxHeartbeats 0
namespace Kx
open PySem PySem.Spec PyProof.Rows L2 Wd
section
variable {P : Program} {w : World} {K : PySem.W.Frag} {mg : Str → Option Value} {base : Heap} {aB : Addr}
theorem lJ {n : Nat}{w : List L}{a b : L}(h1 : w[0]? = some a)(h2 : w[n - 1]? = some b) : ip n w=!decide (V.str (toS [a])=tx (bk [b])) := by
  unfold ip
  rw [h1, h2]
  show (!Nat.beq a.val (inv b).val)=_
  congr 1
  rw [Bool.eq_iff_iff, decide_eq_true_iff]
  constructor
  · intro h
    have : a=inv b := Fin.ext (Nat.eq_of_beq_eq_true h)
    rw [this]
    rfl
  · intro h
    have := bC (V.str.inj h)
    have e : a=inv b := by simpa [bk] using this
    rw [e]
    exact Nat.beq_refl _
theorem j6 {w : List L}{k : Nat}(hk : k≤w.length) : eQ w (some (k : Int)) none++eQ w none (some (k : Int))=w.drop k++w.take k := by
  rw [fo _ (by omega), Int.toNat_natCast]
  congr 1
  have := gF w (n := (k : Int)) (by omega)
  rw [this, Int.toNat_natCast]
theorem h_ (n : Nat)(w : List L) : rotN (n+1) w=rotN n w++[w.drop n++w.take n] := by
  unfold rotN
  rw [List.range_succ, List.map_append]
  rfl
theorem j7 (n : Nat)(w : List L) : (whl n w).length=n := by
  unfold whl
  rw [(cR _).length_eq]
  unfold rotN
  rw [List.length_map, List.length_range]
theorem e_ (n : Nat)(l : List (List L))(w : List L) : aQ n (l++[w])=hG (aQ n l) (jm n w) (iq n w) := by
  unfold aQ
  rw [List.foldl_append]
  rfl
theorem iZ (l : List (List L × Bool))(k : List L)(b : Bool) : (hG l k b).length≤l.length+1 := by
  unfold hG
  split
  · rw [List.length_map];omega
  · rw [List.length_append];simp
theorem dq (n : Nat)(l : List (List L)) : (aQ n l).length≤l.length := by
  have go : ∀ (l : List (List L)) (a : List (List L × Bool)), (l.foldl (fun a w => hG a (jm n w) (iq n w)) a).length≤a.length+l.length := fun l => by
    induction l with
    | nil => intro a;exact Nat.le_refl _
    | cons x r ih => intro a;rw [List.foldl_cons, List.length_cons];have := ih (hG a (jm n x) (iq n x));have := iZ a (jm n x) (iq n x);omega
  have := go l []
  unfold aQ
  rw [List.length_nil] at this
  omega
theorem ia (l : List (List L × Bool))(k : List L)(b : Bool)(nd : (l.map Prod.fst).Nodup) : ((hG l k b).map Prod.fst).Nodup := by
  unfold hG
  split
  · have : (l.map fun p => if eqB p.1 k=true then (p.1, b) else p).map Prod.fst=l.map Prod.fst := by
      rw [List.map_map]
      refine List.map_congr_left fun p _ => ?_
      show (if eqB p.1 k=true then (p.1, b) else p).1=p.1
      split <;> rfl
    rw [this];exact nd
  · rename_i h
    rw [List.map_append, List.nodup_append]
    refine ⟨nd, by simp, fun a ha c hc e => h ?_⟩
    obtain ⟨p, hp, rfl⟩ := List.mem_map.mp ha
    have : c=k := by simpa using hc
    rw [List.any_eq_true]
    exact ⟨p, hp, cP.mpr (e.trans this)⟩
theorem ib (n : Nat)(l : List (List L)) : ((aQ n l).map Prod.fst).Nodup := by
  have go : ∀ (l : List (List L)) (a : List (List L × Bool)), (a.map Prod.fst).Nodup → ((l.foldl (fun a w => hG a (jm n w) (iq n w)) a).map Prod.fst).Nodup := fun l => by
    induction l with
    | nil => intro a h;exact h
    | cons x r ih => intro a h;rw [List.foldl_cons];exact ih _ (ia _ _ _ h)
  exact go l [] List.nodup_nil
theorem j8 {l : List (List L × Bool)}(nd : (l.map Prod.fst).Nodup){p : List L × Bool}(hp : p∈l) : bq (l.map cA) (.inr (toS p.1))=some (.bl p.2) := by
  refine dI (p := cA p) ?_ (List.mem_map.mpr ⟨p, hp, rfl⟩)
  rw [List.map_map]
  have : (l.map (Prod.fst ∘ cA))=(l.map Prod.fst).map fun u => (Sum.inr (toS u) : Key) := by rw [List.map_map];rfl
  rw [this]
  exact List.Pairwise.map _ (fun a b n e => n (bC (Sum.inr.inj e))) nd
abbrev b_ : Stmt := top 12
theorem ie : aG ["_law_words", "_law_length", "_law_own", "_law_least", "_law_word", "_law_wheel"] ["_law_words"] (ai b_) := ⟨rfl, rfl, rfl, by decide +kernel, rfl, by decide +kernel, by decide +kernel⟩
theorem i0 (D : Df K mg "_law_by_list" b_)(T : Bt0 mg)(F_lback : Fnc P w K mg base "_law_back" ["_law_word"] 1 k_) : Fnc P w K mg base "_law_by_list" ["_law_words"] 2 dM := by
  have sc := ie
  refine D.ok sc (fun _ _ _ _ _ _ us hl => by obtain ⟨_, rfl⟩ := lT hl;rfl) (fun vs H Q E h => ?_) (fun f cdv A outer s H vs Q E hr h => ?_)
  · obtain ⟨a, W, n, rfl, _⟩ := h
    rfl
  · obtain ⟨a, W, n, rfl, ha, wne, wl, hn, hw, k⟩ := h
    have l16 := bp
    have hu := gz hr
    refine ⟨_, (@ag _ _ _ _ _ (@aH _ _ (1) _ _ _ _ sc.nd rfl (Or.inr rfl) (@aq _ _ _ _ _ _ _ _ _ cj (by rfl) T.len PySem.boot_len (@aa _ _ _ _ _ (@cu _ _ _ _ _ _ _ bO (pv 0) ae (fun _ _ => rfl)) ah (by rfl)) (by decide) (by decide) (by rfl) (by rfl)) (by rfl) (by first | exact .inl rfl | exact .inr rfl | assumption)) (@ag _ _ _ _ _ (@cW _ _ _ _ _ _ _ _ (@aF _ _ _ _ _ _ _ _ cq (pv 1) ae (aK _)) (@ak _ _ _ (@aI _ _ _ _ (@bI _ _ _ _ (@aa _ _ _ _ _ ae (@aa _ _ _ _ _ ae (@aa _ _ _ _ _ ae (@aa _ _ _ _ _ ae ah (by rfl)) (by rfl)) (by rfl)) (by rfl))))) bc) (@ag _ _ _ _ _ (@eR _ (2) _ _ _ _ _ _ _ _ _ (["_law_word", "_law_length"]) (["_law_word"]) ([1]) _ _ _ _ sc.nd rfl (Or.inl rfl) (@ba _ _ _ _ _ _ rfl (by kernel_rfl)) rfl (@bM _ _ _ _ (pv 0)) (fun _ _ _ _ => @ar _ _ (0) _ (show (["_law_word", "_law_length"] : List Str).Nodup from by decide +kernel) rfl (Or.inl rfl) (by first | exact .inl rfl | exact .inr rfl | assumption)) (fun _ _ _ _ => (@bE _ _ _ (by exact (@aF _ _ _ _ _ _ _ _ fZ (@cu _ _ _ _ _ _ _ i7 (pv 0) ae (fun _ _ => rfl)) (@aR _ _ _ _ _ _ _ _ _ _ _ F_lback hr (by decide) rfl (@aa _ _ _ _ _ (@cu _ _ _ _ _ _ _ i7 (pv 0) (@ao _ _ _ _ _ _ _ _ bh (pv 1) ae) (fun _ _ => rfl)) ah (by rfl)) (by decide) (by rfl) (by rfl)) (aK _))))) (fun _ _ _ _ => by (exact (pv 0))) (by intro _ ;rfl) (by rfl) (by first | exact .inl rfl | exact .inr rfl | assumption)) (@ag _ _ _ _ _ (@aH _ _ (3) _ _ _ _ sc.nd rfl (Or.inr rfl) dC (by rfl) (by first | exact .inl rfl | exact .inr rfl | assumption)) (@ag _ _ _ _ _ (@bT _ _ _ _ _ _ _ _ PassesOwn.never rfl (@bM _ _ _ _ (pv 2)) (@ar _ _ (4) _ sc.nd rfl (Or.inr rfl) (by first | exact .inl rfl | exact .inr rfl | assumption)) (@ag _ _ _ _ _ (@aH _ _ (5) _ _ _ _ sc.nd rfl (Or.inl rfl) (@aq _ _ _ _ _ _ _ _ _ cf (by rfl) T.sorted iN (@aa _ _ _ _ _ (@aX _ _ _ _ _ _ _ (["_law_k", "_law_word"]) (["_law_k"]) ([4]) _ _ _ _ (@ba _ _ _ _ _ _ rfl (by kernel_rfl)) rfl (@bS _ _ _ _ _ _ rfl T.range (@aa _ _ _ _ _ (pv 1) ah (by rfl)) (by rfl)) (fun _ _ _ _ => @ar _ _ (0) _ (show (["_law_k", "_law_word"] : List Str).Nodup from by decide +kernel) rfl (Or.inl rfl) (by first | exact .inl rfl | exact .inr rfl | assumption)) (fun _ _ _ _ => bb) (fun _ _ _ _ => by (exact @ao _ _ _ _ _ _ _ _ bj (by (exact (@a_ _ _ _ _ _ _ _ _ _ _ cK (pv 1) (@bA _ _ _ (pv 0)) bz))) (by (exact (@a_ _ _ _ _ _ _ _ _ _ _ cK (pv 1) bz (@bA _ _ _ (pv 0))))))) (by intro _ ;rfl)) ah (by rfl)) (by decide) (by decide) (by rfl) (by rfl)) (by rfl) (by first | exact .inl rfl | exact .inr rfl | assumption)) (@ak _ _ _ (@bP _ _ _ _ _ _ _ _ _ hu (pv 3) (@cu _ _ _ _ _ _ _ bO (pv 5) ae (fun _ _ => rfl)) (@dw _ _ _ _ _ _ _ _ (@aF _ _ _ _ _ _ _ _ mf (pv 1) ae (aK _)) (@eL _ _ _ _ _ _ _ _ fZ (@cu _ _ _ _ _ _ _ bO (pv 5) ae (fun _ _ => rfl)) (@cu _ _ _ _ _ _ _ bO (pv 5) ae (fun _ _ => rfl)) (aK _)) iw) rfl))) (by intro _ ;rfl)) (@ak _ _ _ (@aI _ _ _ _ (@bI _ _ _ _ (@aa _ _ _ _ _ (@aq _ _ _ _ _ _ _ _ _ aA (by rfl) T.len PySem.boot_len (@aa _ _ _ _ _ (pv 0) ah (by rfl)) (by decide) (by decide) (by rfl) (by rfl)) (@aa _ _ _ _ _ (@aq _ _ _ _ _ _ _ _ _ aA (by rfl) T.len PySem.boot_len (@aa _ _ _ _ _ (pv 2) ah (by rfl)) (by decide) (by decide) (by rfl) (by rfl)) (@aa _ _ _ _ _ (@aq _ _ _ _ _ _ _ _ _ gA (by rfl) T.len PySem.boot_len (@aa _ _ _ _ _ (pv 3) ah (by rfl)) (by decide) (by decide) (by rfl) (by rfl)) (@aa _ _ _ _ _ (@aq _ _ _ _ _ _ _ _ _ aA (by rfl) T.len PySem.boot_len (@aa _ _ _ _ _ (@aX _ _ _ _ _ _ _ (["_law_word", "_law_least"]) (["_law_word"]) ([3]) _ _ _ _ (@ba _ _ _ _ _ _ rfl (by kernel_rfl)) rfl (eT (pv 3)) (fun _ _ _ _ => @ar _ _ (0) _ (show (["_law_word", "_law_least"] : List Str).Nodup from by decide +kernel) rfl (Or.inl rfl) (by first | exact .inl rfl | exact .inr rfl | assumption)) (fun _ _ _ _ => (@bE _ _ _ (by exact (@mN _ _ _ (@aD _ _ _ _ _ _ hu (pv 1) (pv 0) (fun _ _ => rfl)) (fun _ => rfl))))) (fun _ _ _ _ => by (exact (pv 0))) (by intro _ ;rfl)) ah (by rfl)) (by decide) (by decide) (by rfl) (by rfl)) ah (by rfl)) (by rfl)) (by rfl)) (by rfl)))))))))), ?_⟩
    obtain ⟨w0, W', rfl⟩ := List.exists_cons_of_ne_nil wne
    have h0 : atI ((w0::W').map tx) 0=some (tx w0) := cF (j := 0) rfl
    have e0 := hw w0 (List.mem_cons_self ..)
    have hd : ((w0::W').headD []).length=n := e0
    generalize hW : w0::W'=W at ha wl hw h0 k hd
    have lw0 := az w0
    refine ⟨_, rfl, a, _, _, _, rfl, rfl, SqL.of ha, h0, toS w0, rfl, by omega, ?_⟩
    rw [lw0, e0]
    refine ⟨_, rfl, rfl, _, rfl, ?_⟩
    have byW : byL W=if n=0 then [1, 1, 1, 0] else [(W.length : Int), ((W.filter (ip n)).length : Int), ((aQ n (W.filter (ip n))).length : Int), (((aQ n (W.filter (ip n))).filter (·.2)).length : Int)] := by
      unfold byL
      simp only [hd]
    by_cases hz : n=0
    · rw [show decide (V.int (n : Int)=V.int 0)=true from decide_eq_true (congrArg V.int (by omega))]
      refine nB ⟨(aJ (n := 4) (by decide)), fun r hr => ?_⟩
      refine k r _ ?_ (ax.new hr)
      rw [ab, byW, if_pos hz]
      rfl
    rw [show decide (V.int (n : Int)=V.int 0)=false from decide_eq_false fun e => hz (by have := V.int.inj e;omega)]
    rw [if_neg hz] at byW
    refine nC ?_
    refine ⟨_, rfl, a, rfl, ⟨_, SqL.of ha⟩, ?_⟩
    refine b0 (xs := W.map tx) (own := ["_law_word"]) (cap := [1]) (fun i ys σ H' => ∃ b : Option V, σ = [b, some (.int (n : Int))] ∧ ys=((W.take i).filter (ip n)).map tx ∧ ax H H') ⟨none, rfl, rfl, ax.refl _⟩ (fun i ys σ H' hi ⟨_, _, e, _⟩ => by rw [e, List.length_map];exact Nat.le_trans (List.length_filter_le _ _) (by rw [List.length_take];omega)) (by rw [List.length_map];omega) (fun i ys σ H' ⟨_, _, _, e⟩ => SqL.of (e _ _ ha)) ?_ ?_
    · rintro i ys σ H1 z N hz' ⟨b, rfl, rfl, s1⟩ hN
      rw [List.getElem?_map] at hz'
      obtain ⟨v, hv, rfl⟩ := Option.map_eq_some_iff.mp hz'
      have vl := hw v (List.mem_of_getElem? hv)
      have lv := az v
      have g1 := List.getElem?_eq_getElem (show 0 < v.length by omega)
      have g2 := List.getElem?_eq_getElem (show n - 1 < v.length by omega)
      generalize v[0]'(by omega)=x at g1
      generalize v[n - 1]'(by omega)=y at g2
      refine ⟨_, rfl, toS v, _, cp x, rfl, rfl, by omega, gE (k := 0) rfl g1, ?_⟩
      refine ⟨_, rfl, _, rfl, _, _, rfl, rfl, toS v, _, cp y, rfl, rfl, by omega, gE (k := n - 1) (by omega) g2, ?_⟩
      refine ⟨[y], rfl, (by show 1≤5000;omega), fun H2 s2 => ⟨rfl, _, rfl, ?_⟩⟩
      have eo := lJ g1 g2
      cases hd2 : decide (V.str (toS [x])=tx (bk [y])) with
      | true =>
        rw [hd2] at eo
        refine fK (show (!decide (V.str (toS [x])=tx (bk [y])))=false by rw [hd2];rfl) (hN _ _ _ ⟨_, rfl, ?_, s1.trans s2⟩)
        rw [List.take_add_one, hv, List.filter_append]
        simp [eo]
      | false =>
        rw [hd2] at eo
        refine fJ (show (!decide (V.str (toS [x])=tx (bk [y])))=true by rw [hd2];rfl) ⟨_, rfl, hN _ _ _ ⟨_, rfl, ?_, s1.trans s2⟩⟩
        rw [List.take_add_one, hv, List.filter_append]
        simp [eo]
    rintro ys σ H1 p ⟨b, rfl, rfl, s1⟩ hp
    rw [List.length_map, List.take_length]
    generalize hO : W.filter (ip n)=O at byW
    have oM : ∀ v∈O, v.length=n := fun v hv => by rw [← hO] at hv;exact hw v (List.mem_filter.mp hv).1
    have oL : O.length≤2000 := by rw [← hO];exact Nat.le_trans (List.length_filter_le _ _) wl
    have s2 := s1.then (o := .lst (O.map tx)) hp
    have f2 : (upd H1 p (.lst (O.map tx))) p=some (.lst (O.map tx)) := ab
    generalize upd H1 p (.lst (O.map tx))=H2 at s2 f2 ⊢
    intro ld hld
    have s3 := s2.then (o := .dK []) hld
    have f3 : (upd H2 ld (.dK [])) ld=some (.dK ((aQ n (O.take 0)).map cA)) := ab
    have g3 : (upd H2 ld (.dK [])) p=some (.lst (O.map tx)) := ax.new hld _ _ f2
    have hld0 : H ld=none := s2.free hld
    have npl : p≠ld := af f2 hld
    generalize upd H2 ld (.dK [])=H3 at s3 f3 g3 ⊢
    refine ⟨_, rfl, p, rfl, ⟨_, SqL.of g3⟩, ?_⟩
    refine dy (xs := O.map tx) (fun i σ H' => ∃ b4 b5 : Option V, σ = [some (.ref a), some (.int (n : Int)), some (.ref p), some (.ref ld), b4, b5] ∧ H' p=some (.lst (O.map tx)) ∧ H' ld=some (.dK ((aQ n (O.take i)).map cA)) ∧ ax H H') ⟨_, _, rfl, g3, f3, s3⟩ (fun i σ H' _ ⟨_, _, _, e, _⟩ => SqL.of e) ?_ ?_
    · rintro i x σ H4 hx ⟨b4, b5, rfl, g4, f4, s4⟩
      rw [List.getElem?_map] at hx
      obtain ⟨v, hv, rfl⟩ := Option.map_eq_some_iff.mp hx
      have vl := oM v (List.mem_of_getElem? hv)
      have lv := az v
      refine ⟨_, rfl, (n : Int), rfl, by omega, by omega, ?_⟩
      rw [Int.toNat_natCast]
      refine bf (own := ["_law_k"]) (cap := [4]) (J := Itr 0 n) n (fun j ys σ H' => ∃ b : Option V, σ = [b, some (tx v)] ∧ ys=(rotN j v).map tx ∧ H'=H4) ⟨none, rfl, rfl, rfl⟩ (fun j ys σ H' hj ⟨_, _, e, _⟩ => by rw [e, List.length_map];unfold rotN;rw [List.length_map, List.length_range];omega) (by omega) (fun j ys σ H' hj _ => hj) (fun ys σ H' _ => Nat.le_refl _) ?_ ?_
      · rintro j ys σ H5 x H6 N hj ⟨b, rfl, rfl, rfl⟩ ⟨rfl, rfl⟩ hN
        rw [Int.zero_add]
        have cc := j6 (w := v) (k := j) (by omega)
        refine ⟨_, rfl, _, rfl, _, rfl, toS v, rfl, by omega, _, rfl, _, rfl, _, rfl, toS v, rfl, by omega, _, _, rfl, rfl, ?_, hN _ _ _ ⟨_, rfl, ?_, rfl⟩⟩
        · rw [aY, aY, az, az]
          have h1 := di v (some (j : Int)) none
          have h2 := di v none (some (j : Int))
          omega
        · rw [aY, aY, ft, cc, h_, List.map_append]
          rfl
      rintro ys σ H5 q ⟨b, rfl, rfl, rfl⟩ hq
      have rl : (rotN n v).length=n := by unfold rotN;rw [List.length_map, List.length_range]
      have t6 := ax.new (o := .lst ((rotN n v).map tx)) hq
      refine ⟨q, rotN n v, rfl, SqL.of ab, by omega, fun r V hr pm so => ?_⟩
      have eV : V=whl n v := iS pm so
      subst eV
      have wl2 := j7 n v
      obtain ⟨u, U, hU⟩ : ∃ u U, whl n v=u::U := List.exists_cons_of_length_pos (by omega)
      have s7 := (s4.then (o := .lst ((rotN n v).map tx)) hq).then (o := .lst ((whl n v).map tx)) hr
      have t7 := t6.then (o := .lst ((whl n v).map tx)) hr
      have f7 := t7 _ _ f4
      have g7 := t7 _ _ g4
      have fr : (upd (upd H5 q (.lst ((rotN n v).map tx))) r (.lst ((whl n v).map tx))) r=some (.lst ((whl n v).map tx)) := ab
      generalize upd (upd H5 q (.lst ((rotN n v).map tx))) r (.lst ((whl n v).map tx))=H7 at s7 f7 g7 fr ⊢
      clear t6 t7
      have a0 : atI ((whl n v).map tx) 0=some (tx u) := by rw [hU];exact cF (j := 0) rfl
      have ek : jm n v=u := by unfold jm;rw [hU];rfl
      have ll := dq n (O.take i)
      have lO : (O.take i).length≤2000 := Nat.le_trans (by rw [List.length_take];omega) oL
      have fin : ∀ b6 : Bool, b6=iq n v → ∃ b4' b5' : Option V, [some (V.ref a), some (V.int (n : Int)), some (V.ref p), some (V.ref ld), some (tx v), some (V.ref r)]=[some (.ref a), some (.int (n : Int)), some (.ref p), some (.ref ld), b4', b5'] ∧ (upd H7 ld (.dK (aV ((aQ n (O.take i)).map cA) (.inr (toS u)) (.bl b6)))) p=some (.lst (O.map tx)) ∧ (upd H7 ld (.dK (aV ((aQ n (O.take i)).map cA) (.inr (toS u)) (.bl b6)))) ld=some (.dK ((aQ n (O.take (i+1))).map cA)) ∧ ax H (upd H7 ld (.dK (aV ((aQ n (O.take i)).map cA) (.inr (toS u)) (.bl b6)))) := fun b6 e6 => by
        refine ⟨_, _, rfl, by rw [aj npl];exact g7, ?_, fun b o e => by rw [aj (af e hld0)];exact s7 _ _ e⟩
        rw [ab, iT, List.take_add_one, hv, Option.toList_some, e_, ek, e6]
      refine ⟨_, rfl, _, _, rfl, rfl, _, rfl, ?_⟩
      by_cases h1 : 1 < n
      · obtain ⟨u2, U2, hU2⟩ : ∃ u U2, U=u::U2 := List.exists_cons_of_length_pos (by rw [hU, List.length_cons] at wl2;omega)
        have a1 : atI ((whl n v).map tx) 1=some (tx u2) := by rw [hU, hU2];exact cF (j := 1) rfl
        have ev : iq n v=!decide (tx u=tx u2) := by
          unfold iq
          rw [if_pos (Nat.blt_eq.mpr h1), hU, hU2]
          show (!eqB u u2)=_
          congr 1
          rw [Bool.eq_iff_iff, decide_eq_true_iff, cP]
          exact ⟨fun z => by rw [z], fun z => bC (V.str.inj z)⟩
        refine fJ (decide_eq_true (by omega)) ⟨_, rfl, r, _, _, _, rfl, rfl, SqL.of fr, a0, _, rfl, r, _, _, _, rfl, rfl, SqL.of fr, a1, rfl, ?_⟩
        refine ⟨_, rfl, _, rfl, r, _, _, _, rfl, rfl, SqL.of fr, a0, ld, _, rfl, ik.k (k := .inr (toS u)) f7 (by rw [List.length_map];omega), ?_⟩
        exact fin _ ev.symm
      · refine fK (decide_eq_false (by omega)) ?_
        refine ⟨_, rfl, _, rfl, r, _, _, _, rfl, rfl, SqL.of fr, a0, ld, _, rfl, ik.k (k := .inr (toS u)) f7 (by rw [List.length_map];omega), ?_⟩
        refine fin _ ?_
        unfold iq
        rw [if_neg (fun z => h1 (Nat.blt_eq.mp z))]
    · rintro σ H4 ⟨b4, b5, rfl, g4, f4, s4⟩
      rw [List.length_map, List.take_length] at f4
      have ll := dq n O
      generalize hA : aQ n O=A at f4 byW ll
      have nd : (A.map Prod.fst).Nodup := by rw [← hA];exact ib n O
      have ha4 := s4 _ _ ha
      refine ⟨_, rfl, a, _, rfl, .inl (SqL.of ha4), _, rfl, p, _, rfl, .inl (SqL.of g4), _, rfl, ld, _, rfl, f4, ?_⟩
      refine ⟨_, rfl, ld, _, rfl, f4, fun o => ?_⟩
      have f5 : (upd H4 ld (.frz o (.dK (A.map cA)))) ld=some (.frz o (.dK (A.map cA))) := ab
      have s5 : ax H (upd H4 ld (.frz o (.dK (A.map cA)))) := fun b o e => by rw [aj (af e hld0)];exact s4 _ _ e
      generalize upd H4 ld (.frz o (.dK (A.map cA)))=H5 at f5 s5 ⊢
      have kl : (A.map cA).length=A.length := List.length_map ..
      refine bf (own := ["_law_word"]) (cap := [3]) (J := Itk ld o (A.map cA)) (A.map cA).length (fun i ys σ H' => ∃ b : Option V, σ = [b, some (.ref ld)] ∧ ys=((A.take i).filter (·.2)).map (fun q => tx q.1) ∧ H'=H5) ⟨none, rfl, rfl, rfl⟩ (fun i ys σ H' hi ⟨_, _, e, _⟩ => by rw [e, List.length_map];exact Nat.le_trans (List.length_filter_le _ _) (by rw [List.length_take];omega)) (by omega) (fun i ys σ H' hi ⟨_, _, _, e⟩ => by rw [e];exact ⟨hi, f5⟩) (fun ys σ H' ⟨_, _, _, e⟩ => by rw [e];exact ⟨rfl, f5⟩) ?_ ?_
      · rintro i ys σ H6 x H7 N hi ⟨_, rfl, rfl, rfl⟩ ⟨rfl, key, val, hkv, rfl⟩ hN
        obtain ⟨q, hq, rfl⟩ : ∃ s, A[i]? = some s ∧ key = .inr (toS s.1) := by
          rw [List.getElem?_map] at hkv
          obtain ⟨s, h1, h2⟩ := Option.map_eq_some_iff.mp hkv
          cases h2
          exact ⟨s, h1, rfl⟩
        have g := dN.f (k := .inr (toS q.1)) f5
        rw [j8 nd (List.mem_of_getElem? hq)] at g
        refine ⟨_, rfl, _, rfl, ld, _, rfl, g, _, rfl, ?_⟩
        cases h2 : q.2 with
        | true =>
          refine fJ rfl ⟨_, rfl, hN _ _ _ ⟨_, rfl, ?_, rfl⟩⟩
          rw [List.take_add_one, hq, List.filter_append, List.map_append]
          simp [h2]
          rfl
        | false =>
          refine fK rfl (hN _ _ _ ⟨_, rfl, ?_, rfl⟩)
          rw [List.take_add_one, hq, List.filter_append]
          simp [h2]
      rintro ys σ H6 l ⟨_, rfl, rfl, rfl⟩ hl
      rw [List.take_of_length_le (by omega)]
      refine ⟨l, _, rfl, .inl (SqL.of ab), (aJ (n := 4) (by decide)), fun r hr => ?_⟩
      refine k r _ ?_ ((s5.then hl).then hr)
      rw [ab, byW]
      simp only [List.length_map]
      rfl
end
end Kx
set_option Elab.async false
set_option linter.all false
set_option maxRecDepth 100000
set_option maxHeartbeats 0
namespace Kx
open PySem PySem.Spec PyProof.Rows L2 Wd
inductive ig (K : PySem.W.Frag)(vs : List V)(H : Hp)(Q : VK)(u3_ : XK) : Prop
  | mk : ∀ (a : Addr) (ns : List Int), (vs=[.ref a]) → (SqL K H a (ns.map V.int)) → (ns.length≤63) → (∀ H', Q (.bl true) H') → ig K vs H Q u3_
section
variable {P : Program} {w : World} {K : PySem.W.Frag} {mg : Str → Option Value} {base : Heap} {aB : Addr}
abbrev eF : Stmt := top 16
theorem lK : aG ["_law_script", "_law_feed_here", "_law_k", "_law_many", "_law_length", "_law_words"] ["_law_script"] (ai eF) := ⟨rfl, rfl, rfl, by decide +kernel, rfl, by decide +kernel, by decide +kernel⟩
theorem m9 {f : Addr}{fd : FuncData}(D : Fun K "law" "law" eF f fd)(T : Bt0 mg)(Te : mg "enumerate" = none)(F_feed : Fnc P w K mg base "_law_feed" ["_law_script"] 1 (gM K))(F_draw : Fnc P w K mg base "_law_draw" ["_law_feed_here", "_law_many"] 1 gL)
    (F_listed : Fnc P w K mg base "_law_listed" ["_law_many", "_law_most"] 2 dJ) (F_told : Fnc P w K mg base "_law_told" ["_law_many", "_law_length"] 12 dH) (F_bylist : Fnc P w K mg base "_law_by_list" ["_law_words"] 2 dM) (F_due : Fnc P w K mg base "_law_due" ["_law_many", "_law_length"] 3 e8) : ij P w K mg base CX0 16 f fd ["_law_script"] (ig K) := by
  have sc := lK
  refine D.ok sc (fun vs H Q E h => ?_) (fun cdv A outer s H vs Q E hr h => ?_)
  · obtain ⟨a, ns, rfl, _⟩ := h
    rfl
  · obtain ⟨a, ns, rfl, hS, hlen, k⟩ := h
    have l16 := bp
    refine ⟨_, (@ag _ _ _ _ _ (@aH _ _ (1) _ _ _ _ sc.nd rfl (Or.inl rfl) (@aR _ _ _ _ _ _ _ _ _ _ _ F_feed hr (by decide) rfl (@aa _ _ _ _ _ (pv 0) ah (by rfl)) (by decide) (by rfl) (by rfl)) (by rfl) (by first | exact .inl rfl | exact .inr rfl | assumption)) (@ag _ _ _ _ _ (@bT _ _ _ _ _ _ _ _ PassesOwn.never rfl (@bS _ _ _ _ _ _ rfl T.range (@aa _ _ _ _ _ ae ah (by rfl)) (by rfl)) (@ar _ _ (2) _ sc.nd rfl (Or.inl rfl) (by first | exact .inl rfl | exact .inr rfl | assumption)) (@ag _ _ _ _ _ (@aH _ _ (3) _ _ _ _ sc.nd rfl (Or.inl rfl) (@ao _ _ _ _ _ _ _ _ bt ae (@aR _ _ _ _ _ _ _ _ _ _ _ F_draw hr (by decide) rfl (@aa _ _ _ _ _ (pv 1) (@aa _ _ _ _ _ ae ah (by rfl)) (by rfl)) (by decide) (by rfl) (by rfl))) (by rfl) (by first | exact .inl rfl | exact .inr rfl | assumption)) (@ag _ _ _ _ _ (@bT _ _ _ _ _ _ _ _ PassesOwn.never rfl (@la _ _ rfl _ _ _ _ _ _ _ rfl Te lb (@aa _ _ _ _ _ (@aR _ _ _ _ _ _ _ _ _ _ _ F_listed hr (by decide) rfl (@aa _ _ _ _ _ (pv 3) (@aa _ _ _ _ _ ae ah (by rfl)) (by rfl)) (by decide) (by rfl) (by rfl)) ah (by rfl)) (by rfl)) (@kj _ _ _ _ _ _ rfl (@fc _ _ _ _ _ (@ar _ _ (4) _ sc.nd rfl (Or.inl rfl) (by first | exact .inl rfl | exact .inr rfl | assumption)) (@fc _ _ _ _ _ (@ar _ _ (5) _ sc.nd rfl (Or.inl rfl) (by first | exact .inl rfl | exact .inr rfl | assumption)) ju (by rfl)) (by rfl)) (by rfl) (by rfl)) (@ak _ _ _ (@cW _ _ _ _ _ _ _ _ (@aF _ _ _ _ _ _ _ _ fZ (@aq _ _ _ _ _ _ _ _ _ (@aT _ (by exact hr.gd) (by exact hr.units)) (by rfl) T.repr fq (@aa _ _ _ _ _ (@aR _ _ _ _ _ _ _ _ _ _ _ F_told hr (by decide) rfl (@aa _ _ _ _ _ (pv 3) (@aa _ _ _ _ _ (pv 4) ah (by rfl)) (by rfl)) (by decide) (by rfl) (by rfl)) ah (by rfl)) (by decide) (by decide) (by rfl) (by rfl)) (@aq _ _ _ _ _ _ _ _ _ (@aT _ (by exact hr.gd) (by exact hr.units)) (by rfl) T.repr fq (@aa _ _ _ _ _ (@aR _ _ _ _ _ _ _ _ _ _ _ F_bylist hr (by decide) rfl (@aa _ _ _ _ _ (pv 5) ah (by rfl)) (by decide) (by rfl) (by rfl)) ah (by rfl)) (by decide) (by decide) (by rfl) (by rfl)) (aK _)) (@ak _ _ _ (@aI _ _ _ _ iw)) bc)) (by intro _ ;rfl)) (@ak _ _ _ (@bT _ _ _ _ _ _ _ _ PassesOwn.never rfl (@bM _ _ _ _ (@bI _ _ _ _ (@aa _ _ _ _ _ (@ao _ _ _ _ _ _ _ _ bt ae (@aR _ _ _ _ _ _ _ _ _ _ _ F_draw hr (by decide) rfl (@aa _ _ _ _ _ (pv 1) (@aa _ _ _ _ _ ae ah (by rfl)) (by rfl)) (by decide) (by rfl) (by rfl))) (@aa _ _ _ _ _ (@ao _ _ _ _ _ _ _ _ bt ae (@aR _ _ _ _ _ _ _ _ _ _ _ F_draw hr (by decide) rfl (@aa _ _ _ _ _ (pv 1) (@aa _ _ _ _ _ ae ah (by rfl)) (by rfl)) (by decide) (by rfl) (by rfl))) (@aa _ _ _ _ _ (@ao _ _ _ _ _ _ _ _ bt ae (@aR _ _ _ _ _ _ _ _ _ _ _ F_draw hr (by decide) rfl (@aa _ _ _ _ _ (pv 1) (@aa _ _ _ _ _ ae ah (by rfl)) (by rfl)) (by decide) (by rfl) (by rfl))) (@aa _ _ _ _ _ ae ah (by rfl)) (by rfl)) (by rfl)) (by rfl)))) (@ar _ _ (4) _ sc.nd rfl (Or.inl rfl) (by first | exact .inl rfl | exact .inr rfl | assumption)) (@ak _ _ _ (@cW _ _ _ _ _ _ _ _ (@aF _ _ _ _ _ _ _ _ fZ (@aq _ _ _ _ _ _ _ _ _ (@aT _ (by exact hr.gd) (by exact hr.units)) (by rfl) T.repr fq (@aa _ _ _ _ _ (@aR _ _ _ _ _ _ _ _ _ _ _ F_told hr (by decide) rfl (@aa _ _ _ _ _ (pv 3) (@aa _ _ _ _ _ (pv 4) ah (by rfl)) (by rfl)) (by decide) (by rfl) (by rfl)) ah (by rfl)) (by decide) (by decide) (by rfl) (by rfl)) (@aq _ _ _ _ _ _ _ _ _ (@aT _ (by exact hr.gd) (by exact hr.units)) (by rfl) T.repr fq (@aa _ _ _ _ _ (@aR _ _ _ _ _ _ _ _ _ _ _ F_due hr (by decide) rfl (@aa _ _ _ _ _ (pv 3) (@aa _ _ _ _ _ (pv 4) ah (by rfl)) (by rfl)) (by decide) (by rfl) (by rfl)) ah (by rfl)) (by decide) (by decide) (by rfl) (by rfl)) (aK _)) (@ak _ _ _ (@aI _ _ _ _ iw)) bc)) (by intro _ ;rfl))))) (by intro _ ;rfl)) (@ak _ _ _ (@aI _ _ _ _ iw)))), ?_⟩
    refine ⟨_, rfl, a, ns, rfl, hS, hlen, fun d H1 _ F1 _ => ?_⟩
    refine ⟨_, rfl, by decide, by decide, bU (lo := 0) (n := 2) (fun i σ H' => ∃ (b1 b2 b3 b4 : Option V), σ = [some (.ref a), some (.ref d), b1, b2, b3, b4] ∧ Fd H' d) ⟨none, none, none, none, rfl, F1⟩ ?_ ?_⟩
    · rintro i σ H1 hi ⟨b1, b2, b3, b4, rfl, F1⟩
      refine ⟨_, rfl, d, _, rfl, F1, by decide, by decide, fun r H2 r0 r1 F2 _ => ⟨_, _, rfl, rfl, ?_⟩⟩
      obtain ⟨m, hm⟩ : ∃ m : Nat, 1+r=(m : Int) := ⟨(1+r).toNat, by omega⟩
      rw [hm]
      have m1 : 1≤m := by omega
      have m6 : m≤6 := by omega
      refine ⟨_, rfl, m, rfl, m1, m6, fun l rs H3 hl ll s3 => ?_⟩
      have F3 := F2.same s3
      refine ⟨l, rfl, ⟨_, SqL.of hl⟩, ?_⟩
      refine jR (xs := rs.map V.ref) (fun j σ H' => ∃ (c4 c5 : Option V), σ = [some (.ref a), some (.ref d), some (.int (0+(i : Int))), some (.int (m : Int)), c4, c5] ∧ ax H3 H') ⟨_, _, rfl, ax.refl _⟩ (fun j σ H' _ ⟨_, _, _, q⟩ => SqL.of (q _ _ hl)) ?_ ?_
      · rintro j x σ H4 t hx ⟨c4, c5, rfl, s4⟩ ht
        rw [List.getElem?_map] at hx
        obtain ⟨r', hr', rfl⟩ := Option.map_eq_some_iff.mp hx
        have jl := (List.getElem?_eq_some_iff.mp hr').1
        have hW := List.getElem?_eq_getElem (show j < (cT m).length by have := ll.1;omega)
        generalize (cT m)[j]'(by have := ll.1;omega)=W at hW
        have fW := ll.2 j r' W hr' hW
        obtain ⟨j10, wne, wl, ww, ev⟩ := lu m1 m6 hW
        have s5 : ax H3 (upd H4 t (.tup [.int j, .ref r'])) := s4.then ht
        refine ⟨t, _, rfl, SqT.of ab, rfl, _, _, rfl, _, _, rfl, rfl, ?_⟩
        generalize upd H4 t (.tup [.int j, .ref r'])=H5 at s5 ⊢
        refine ⟨_, rfl, _, rfl, m, j, rfl, m1, m6, by omega, fun p H6 hp s6 => ?_⟩
        have sh := eA (m := m) (n := j) m6 (by omega)
        refine ⟨p, _, rfl, .lst hp (Dts.ints _), sh, ?_⟩
        refine ⟨_, rfl, r', W, j, rfl, s6 _ _ (s5 _ _ fW), wne, wl, by omega, ww, fun q H7 hq s7 => ?_⟩
        rw [ev] at hq
        refine ⟨q, _, rfl, .lst hq (Dts.ints _), sh, rfl, _, rfl, kO rfl ?_⟩
        exact ⟨_, _, rfl, (s5.trans s6).trans s7⟩
      · rintro σ H4 ⟨c4, c5, rfl, s4⟩
        have F4 := F3.same s4
        refine ⟨_, rfl, d, _, rfl, F4, by decide, by decide, fun r2 H5 r20 r21 F5 _ => ⟨_, _, rfl, rfl, ?_⟩⟩
        refine ⟨_, rfl, d, _, rfl, F5, by decide, by decide, fun r3 H6 r30 r31 F6 _ => ⟨_, _, rfl, rfl, ?_⟩⟩
        refine ⟨_, rfl, d, _, rfl, F6, by decide, by decide, fun r4 H7 r40 r41 F7 _ => ⟨_, _, rfl, rfl, ?_⟩⟩
        refine ⟨(aJ (n := 4) (by decide)), fun g hg => ?_⟩
        obtain ⟨n2, h2⟩ : ∃ n : Nat, 1+r2=(n : Int) := ⟨(1+r2).toNat, by omega⟩
        obtain ⟨n3, h3⟩ : ∃ n : Nat, 1+r3=(n : Int) := ⟨(1+r3).toNat, by omega⟩
        obtain ⟨n4, h4⟩ : ∃ n : Nat, 1+r4=(n : Int) := ⟨(1+r4).toNat, by omega⟩
        have eg : ([V.int (1+r2), V.int (1+r3), V.int (1+r4), V.int 60] : List V)=([n2, n3, n4, 60] : List Nat).map fun n : Nat => V.int (n : Int) := by rw [h2, h3, h4];rfl
        have bN : ∀ n∈([n2, n3, n4, 60] : List Nat), 1≤n ∧ n≤60 := fun n hn => by
          simp only [List.mem_cons, List.not_mem_nil, or_false] at hn
          omega
        rw [eg]
        generalize ([n2, n3, n4, 60] : List Nat)=N4 at bN
        have F8 := F7.new (o := .lst (N4.map fun n : Nat => V.int (n : Int))) hg
        have f8 : (upd H7 g (.lst (N4.map fun n : Nat => V.int (n : Int)))) g=some (.lst (N4.map fun n : Nat => V.int (n : Int))) := ab
        generalize upd H7 g (.lst (N4.map fun n : Nat => V.int (n : Int)))=H8 at F8 f8 ⊢
        refine ⟨g, rfl, ⟨_, SqL.of f8⟩, ?_⟩
        refine dy (xs := N4.map fun n : Nat => V.int (n : Int)) (fun j σ H' => ∃ (c4 c5 : Option V), σ = [some (.ref a), some (.ref d), some (.int (0+(i : Int))), some (.int (m : Int)), c4, c5] ∧ ax H8 H') ⟨_, _, rfl, ax.refl _⟩ (fun j σ H' _ ⟨_, _, _, q⟩ => SqL.of (q _ _ f8)) ?_ ?_
        · rintro j x σ H9 hx ⟨c4, c5, rfl, s9⟩
          rw [List.getElem?_map] at hx
          obtain ⟨n, hn, rfl⟩ := Option.map_eq_some_iff.mp hx
          obtain ⟨n1, n60⟩ := bN n (List.mem_of_getElem? hn)
          have sh := eA (m := m) (n := n) m6 n60
          refine ⟨_, rfl, _, rfl, m, n, rfl, m1, m6, n60, fun p H10 hp s10 => ?_⟩
          refine ⟨p, _, rfl, .lst hp (Dts.ints _), sh, ?_⟩
          refine ⟨_, rfl, _, rfl, m, n, rfl, m1, m6, n1, n60, fun q H11 hq s11 => ?_⟩
          refine ⟨q, _, rfl, .lst hq (Dts.ints _), sh, rfl, _, rfl, kO rfl ?_⟩
          exact ⟨_, _, rfl, (s9.trans s10).trans s11⟩
        · rintro σ H9 ⟨c4, c5, rfl, s9⟩
          exact ⟨_, _, _, _, rfl, F8.same s9⟩
    · rintro σ H1 ⟨b1, b2, b3, b4, rfl, F1⟩
      exact k H1
end
end Kx
set_option Elab.async false
set_option linter.all false
set_option maxRecDepth 100000
set_option maxHeartbeats 0
noncomputable section
def fu:=@PySem.W.mg_none_of
def oB:=@trivial
namespace Kx
open PySem PySem.Spec PyProof.Rows L2 Wd
theorem cb {K : PySem.W.Frag}{h : Heap}{mg : Str → Option Value}{x : Str}{st : Stmt}{f : Addr}{oc : Value}{od an : Option Addr}{osl : Array (Option Value)}{kV doc pm cdv ct : Value}(X : K.In h)(G : h.Ns mainGlobals mg)(a : PySem.W.nsIn K mainGlobals x=some (some (.ref f)))
    (l : K.lookup f=some ⟨oc, od, .func (PySem.W.fnOf x x (ay st) (av st) (ai st) .none kV doc pm an cdv ct), osl⟩) (c : PySem.W.codeIn K cdv x=true) (k : PySem.W.keepIn K (.ref f)=true) : Df K mg x st := ⟨f, _, PySem.W.mg_of X G a, ja l c k⟩
theorem lL {l : PySem.W.OpenLaw}{w : World}{K : PySem.W.Frag}{h : Heap}{mg : Str → Option Value}{fa : Addr}(X : K.In h)(G : h.Ns mainGlobals mg)(hfa : mg "law" = some (.ref fa))
    {f0 : Addr} {od0 an0 : Option Addr} {sl0 : Array (Option Value)} {oc0 kV0 dc0 pm0 cd0 ct0 : Value} {f1 : Addr} {od1 an1 : Option Addr} {sl1 : Array (Option Value)} {oc1 kV1 dc1 pm1 cd1 ct1 : Value} {f2 : Addr} {od2 an2 : Option Addr} {sl2 : Array (Option Value)} {oc2 kV2 dc2 pm2 cd2 ct2 : Value} {f3 : Addr} {od3 an3 : Option Addr} {sl3 : Array (Option Value)} {oc3 kV3 dc3 pm3 cd3 ct3 : Value} {f4 : Addr} {od4 an4 : Option Addr} {sl4 : Array (Option Value)} {oc4 kV4 dc4 pm4 cd4 ct4 : Value} {f5 : Addr} {od5 an5 : Option Addr} {sl5 : Array (Option Value)} {oc5 kV5 dc5 pm5 cd5 ct5 : Value} {f6 : Addr} {od6 an6 : Option Addr} {sl6 : Array (Option Value)} {oc6 kV6 dc6 pm6 cd6 ct6 : Value} {f7 : Addr} {od7 an7 : Option Addr} {sl7 : Array (Option Value)} {oc7 kV7 dc7 pm7 cd7 ct7 : Value} {f8 : Addr} {od8 an8 : Option Addr} {sl8 : Array (Option Value)} {oc8 kV8 dc8 pm8 cd8 ct8 : Value} {f9 : Addr} {od9 an9 : Option Addr} {sl9 : Array (Option Value)} {oc9 kV9 dc9 pm9 cd9 ct9 : Value} {f10 : Addr} {od10 an10 : Option Addr} {sl10 : Array (Option Value)} {oc10 kV10 dc10 pm10 cd10 ct10 : Value} {f11 : Addr} {od11 an11 : Option Addr} {sl11 : Array (Option Value)} {oc11 kV11 dc11 pm11 cd11 ct11 : Value} {f12 : Addr} {od12 an12 : Option Addr} {sl12 : Array (Option Value)} {oc12 kV12 dc12 pm12 cd12 ct12 : Value} {f13 : Addr} {od13 an13 : Option Addr} {sl13 : Array (Option Value)} {oc13 kV13 dc13 pm13 cd13 ct13 : Value} {f14 : Addr} {od14 an14 : Option Addr} {sl14 : Array (Option Value)} {oc14 kV14 dc14 pm14 cd14 ct14 : Value}   
    (a0 : PySem.W.nsIn K mainGlobals "reduced_count" = some (some (.ref f0)))
    (l0 : K.lookup f0=some ⟨oc0, od0, .func (PySem.W.fnOf "reduced_count" "reduced_count" (ay lA) (av lA) (ai lA) .none kV0 dc0 pm0 an0 cd0 ct0), sl0⟩)
    (c0 : PySem.W.codeIn K cd0 "reduced_count" = true)
    (k0 : PySem.W.keepIn K (.ref f0)=true)
    (a1 : PySem.W.nsIn K mainGlobals "raised" = some (some (.ref f1)))
    (l1 : K.lookup f1=some ⟨oc1, od1, .func (PySem.W.fnOf "raised" "raised" (ay b8) (av b8) (ai b8) .none kV1 dc1 pm1 an1 cd1 ct1), sl1⟩)
    (c1 : PySem.W.codeIn K cd1 "raised" = true)
    (k1 : PySem.W.keepIn K (.ref f1)=true)
    (a2 : PySem.W.nsIn K mainGlobals "round_count" = some (some (.ref f2)))
    (l2 : K.lookup f2=some ⟨oc2, od2, .func (PySem.W.fnOf "round_count" "round_count" (ay lB) (av lB) (ai lB) .none kV2 dc2 pm2 an2 cd2 ct2), sl2⟩)
    (c2 : PySem.W.codeIn K cd2 "round_count" = true)
    (k2 : PySem.W.keepIn K (.ref f2)=true)
    (a3 : PySem.W.nsIn K mainGlobals "turned_count" = some (some (.ref f3)))
    (l3 : K.lookup f3=some ⟨oc3, od3, .func (PySem.W.fnOf "turned_count" "turned_count" (ay lE) (av lE) (ai lE) .none kV3 dc3 pm3 an3 cd3 ct3), sl3⟩)
    (c3 : PySem.W.codeIn K cd3 "turned_count" = true)
    (k3 : PySem.W.keepIn K (.ref f3)=true)
    (a4 : PySem.W.nsIn K mainGlobals "root_count" = some (some (.ref f4)))
    (l4 : K.lookup f4=some ⟨oc4, od4, .func (PySem.W.fnOf "root_count" "root_count" (ay cV) (av cV) (ai cV) .none kV4 dc4 pm4 an4 cd4 ct4), sl4⟩)
    (c4 : PySem.W.codeIn K cd4 "root_count" = true)
    (k4 : PySem.W.keepIn K (.ref f4)=true)
    (a5 : PySem.W.nsIn K mainGlobals "divisors" = some (some (.ref f5)))
    (l5 : K.lookup f5=some ⟨oc5, od5, .func (PySem.W.fnOf "divisors" "divisors" (ay hZ) (av hZ) (ai hZ) .none kV5 dc5 pm5 an5 cd5 ct5), sl5⟩)
    (c5 : PySem.W.codeIn K cd5 "divisors" = true)
    (k5 : PySem.W.keepIn K (.ref f5)=true)
    (a6 : PySem.W.nsIn K mainGlobals "_law_feed" = some (some (.ref f6)))
    (l6 : K.lookup f6=some ⟨oc6, od6, .func (PySem.W.fnOf "_law_feed" "_law_feed" (ay eC) (av eC) (ai eC) .none kV6 dc6 pm6 an6 cd6 ct6), sl6⟩)
    (c6 : PySem.W.codeIn K cd6 "_law_feed" = true)
    (k6 : PySem.W.keepIn K (.ref f6)=true)
    (a7 : PySem.W.nsIn K mainGlobals "_law_draw" = some (some (.ref f7)))
    (l7 : K.lookup f7=some ⟨oc7, od7, .func (PySem.W.fnOf "_law_draw" "_law_draw" (ay eB) (av eB) (ai eB) .none kV7 dc7 pm7 an7 cd7 ct7), sl7⟩)
    (c7 : PySem.W.codeIn K cd7 "_law_draw" = true)
    (k7 : PySem.W.keepIn K (.ref f7)=true)
    (a8 : PySem.W.nsIn K mainGlobals "_law_back" = some (some (.ref f8)))
    (l8 : K.lookup f8=some ⟨oc8, od8, .func (PySem.W.fnOf "_law_back" "_law_back" (ay cU) (av cU) (ai cU) .none kV8 dc8 pm8 an8 cd8 ct8), sl8⟩)
    (c8 : PySem.W.codeIn K cd8 "_law_back" = true)
    (k8 : PySem.W.keepIn K (.ref f8)=true)
    (a9 : PySem.W.nsIn K mainGlobals "_law_listed" = some (some (.ref f9)))
    (l9 : K.lookup f9=some ⟨oc9, od9, .func (PySem.W.fnOf "_law_listed" "_law_listed" (ay b9) (av b9) (ai b9) .none kV9 dc9 pm9 an9 cd9 ct9), sl9⟩)
    (c9 : PySem.W.codeIn K cd9 "_law_listed" = true)
    (k9 : PySem.W.keepIn K (.ref f9)=true)
    (a10 : PySem.W.nsIn K mainGlobals "_law_by_list" = some (some (.ref f10)))
    (l10 : K.lookup f10=some ⟨oc10, od10, .func (PySem.W.fnOf "_law_by_list" "_law_by_list" (ay b_) (av b_) (ai b_) .none kV10 dc10 pm10 an10 cd10 ct10), sl10⟩)
    (c10 : PySem.W.codeIn K cd10 "_law_by_list" = true)
    (k10 : PySem.W.keepIn K (.ref f10)=true)
    (a11 : PySem.W.nsIn K mainGlobals "_law_by_ends" = some (some (.ref f11)))
    (l11 : K.lookup f11=some ⟨oc11, od11, .func (PySem.W.fnOf "_law_by_ends" "_law_by_ends" (ay eE) (av eE) (ai eE) .none kV11 dc11 pm11 an11 cd11 ct11), sl11⟩)
    (c11 : PySem.W.codeIn K cd11 "_law_by_ends" = true)
    (k11 : PySem.W.keepIn K (.ref f11)=true)
    (a12 : PySem.W.nsIn K mainGlobals "_law_due" = some (some (.ref f12)))
    (l12 : K.lookup f12=some ⟨oc12, od12, .func (PySem.W.fnOf "_law_due" "_law_due" (ay h8) (av h8) (ai h8) .none kV12 dc12 pm12 an12 cd12 ct12), sl12⟩)
    (c12 : PySem.W.codeIn K cd12 "_law_due" = true)
    (k12 : PySem.W.keepIn K (.ref f12)=true)
    (a13 : PySem.W.nsIn K mainGlobals "_law_told" = some (some (.ref f13)))
    (l13 : K.lookup f13=some ⟨oc13, od13, .func (PySem.W.fnOf "_law_told" "_law_told" (ay eD) (av eD) (ai eD) .none kV13 dc13 pm13 an13 cd13 ct13), sl13⟩)
    (c13 : PySem.W.codeIn K cd13 "_law_told" = true)
    (k13 : PySem.W.keepIn K (.ref f13)=true)
    (a14 : PySem.W.nsIn K mainGlobals "law" = some (some (.ref f14)))
    (l14 : K.lookup f14=some ⟨oc14, od14, .func (PySem.W.fnOf "law" "law" (ay eF) (av eF) (ai eF) .none kV14 dc14 pm14 an14 cd14 ct14), sl14⟩)
    (c14 : PySem.W.codeIn K cd14 "law" = true)
    (k14 : PySem.W.keepIn K (.ref f14)=true)
    (z_len : PySem.W.nsIn K mainGlobals "len" = some none)
    (z_repr : PySem.W.nsIn K mainGlobals "repr" = some none)
    (z_abs : PySem.W.nsIn K mainGlobals "abs" = some none)
    (z_max : PySem.W.nsIn K mainGlobals "max" = some none)
    (z_int : PySem.W.nsIn K mainGlobals "int" = some none)
    (z_list : PySem.W.nsIn K mainGlobals "list" = some none)
    (z_range : PySem.W.nsIn K mainGlobals "range" = some none)
    (z_reversed : PySem.W.nsIn K mainGlobals "reversed" = some none)
    (z_min : PySem.W.nsIn K mainGlobals "min" = some none)
    (z_sorted : PySem.W.nsIn K mainGlobals "sorted" = some none)
    (z_tuple : PySem.W.nsIn K mainGlobals "tuple" = some none)
    (z_isinstance : PySem.W.nsIn K mainGlobals "isinstance" = some none)
    (z_all : PySem.W.nsIn K mainGlobals "all" = some none)
    (z_str : PySem.W.nsIn K mainGlobals "str" = some none)
    (z_zip : PySem.W.nsIn K mainGlobals "zip" = some none)
    (zE : PySem.W.nsIn K mainGlobals "enumerate" = some none)
    (zD : PySem.W.nsIn K mainGlobals "dict" = some none)
    (zU : PySem.W.nsIn K mainGlobals "sum" = some none) :
    ∃ fd : FuncData, (∀ (s : Shared) (v : Value), BindsTo s fd ⟨[v], []⟩ [("_law_script", v)]) ∧ ∀ base : Heap, K.In base → base.Ns mainGlobals mg → ij l.prog w K mg base CX0 16 fa fd ["_law_script"] (ig K) := by
  have e := hfa.symm.trans (PySem.W.mg_of X G a14)
  cases e
  have T : Bt0 mg := ⟨fu X G z_len, fu X G z_repr, fu X G z_abs, fu X G z_max, fu X G z_int, fu X G z_list, fu X G z_range, fu X G z_reversed, fu X G z_min, fu X G z_sorted, fu X G z_tuple, fu X G z_isinstance, fu X G z_all, fu X G z_str, fu X G z_zip⟩
  have Te : mg "enumerate" = none := fu X G zE
  have Td : mg "dict" = none := fu X G zD
  have Tsum : mg "sum" = none := fu X G zU
  refine ⟨PySem.W.fnOf "law" "law" (ay eF) (av eF) (ai eF) .none kV14 dc14 pm14 an14 cd14 ct14, fun s v => .of_eq rfl, fun base _ _ => ?_⟩
  have F_raised := iW (P := l.prog) (w := w) (base := base) (cb X G a1 l1 c1 k1) T
  have F_rc := ow (P := l.prog) (w := w) (base := base) (cb X G a0 l0 c0 k0) T F_raised
  have F_ro := ox (P := l.prog) (w := w) (base := base) (cb X G a2 l2 c2 k2) T F_raised
  have F_div := m5 (P := l.prog) (w := w) (base := base) (cb X G a5 l5 c5 k5) T
  have F_root := lD (P := l.prog) (w := w) (base := base) (cb X G a4 l4 c4 k4) T Tsum F_ro F_div
  have F_tc := oy (P := l.prog) (w := w) (base := base) (cb X G a3 l3 c3 k3) T Tsum F_div F_root
  have F_feed := lz (P := l.prog) (w := w) (base := base) (cb X G a6 l6 c6 k6) T
  have F_draw := ly (P := l.prog) (w := w) (base := base) (cb X G a7 l7 c7 k7) T
  have F_lback := j2 (P := l.prog) (w := w) (base := base) (cb X G a8 l8 c8 k8) 
  have F_listed := iY (P := l.prog) (w := w) (base := base) (cb X G a9 l9 c9 k9) T F_lback
  have F_bylist := i0 (P := l.prog) (w := w) (base := base) (cb X G a10 l10 c10 k10) T F_lback
  have F_ends := lH (P := l.prog) (w := w) (base := base) (cb X G a11 l11 c11 k11) T Td Tsum F_lback
  have F_due := m8 (P := l.prog) (w := w) (base := base) (cb X G a12 l12 c12 k12) T Tsum F_ends
  have F_told := lF (P := l.prog) (w := w) (base := base) (cb X G a13 l13 c13 k13) T F_rc F_ro F_tc F_root
  exact m9 (ja l14 c14 k14) T Te F_feed F_draw F_listed F_told F_bylist F_due
theorem oz {l : PySem.W.OpenLaw}{q : Program}{loose : List Str}{XP : (Str → Option Value) → Heap → Prop}{YP : World → Heap → Prop}{d : DefRec}{K : Params → PySem.W.Frag}(hn : l.most=some 63)(hdf : d.params.defaults=[])
    (hY : ∀ (w : World) (h : Heap), YP w h → (K w.params).In h)
    (F : ∀ (w : World) (mg : Str → Option Value) (fa : Addr) (h : Heap), (K w.params).In h → h.Ns mainGlobals mg → mg d.name=some (.ref fa) →
      ∃ fd : FuncData, (∀ (s : Shared) (u : Value), BindsTo s fd ⟨[u], []⟩ [("_law_script", u)]) ∧ ∀ base : Heap, (K w.params).In base → base.Ns mainGlobals mg → ij l.prog w (K w.params) mg base CX0 16 fa fd ["_law_script"] (ig (K w.params))) :
    PySem.W.WalkO q loose XP YP l.row.toRowW d [] (fun f vs => PySem.call f vs) :=
  L2.gy (n := 63) (k := 16) (x := "_law_script") (CX := fun _ => CX0) (sp := fun w => ig (K w.params)) hn (by decide) hdf ⟨rfl, by decide, by decide, rfl⟩ hY F (fun _ _ a ns hl _ hS => ⟨a, ns, rfl, hS, hl, fun _ => rfl⟩) fun _ _ _ _ _ z => z
end Kx
namespace Kx
open PySem
def lM (s : String) : Str := ⟨⟨PySem.W.R.mapR Char.toNat (PySem.W.S.toListS s)⟩⟩
theorem i3 : Str.ofString=lM := by
  funext s
  rw [Str.ofString_eq_toList, PySem.W.S.toListS_eq]
  show _=(⟨⟨PySem.W.R.mapR Char.toNat (PySem.W.S.toListS s)⟩⟩ : Str)
  rw [← PySem.W.R.mapR_eq]
def apG (G : (String → Str) → Program)(x : String → Str) : Program := G x
def Gs : { G : (String → Str) → Program // apG G Str.ofString=PySem.Challenge.pw_ringwords_k73_counts_by_formulas } := by
  refine ⟨?G, ?h⟩
  case h =>
    delta PySem.Challenge.pw_ringwords_k73_counts_by_formulas
    generalize Str.ofString=x
    exact rfl
end Kx
def PySem.W.Fast.tw89674256718945533 : PySem.Program := Kx.Gs.1 Kx.lM
theorem PySem.W.Fast.te89674256718945533 : PySem.Challenge.pw_ringwords_k73_counts_by_formulas=PySem.W.Fast.tw89674256718945533 := Kx.Gs.2.symm.trans (congrArg (Kx.apG Kx.Gs.1) Kx.i3)
theorem PySem.W.Fast.te8986731414197347795 : True := oB
theorem PySem.W.Fast.tw7182771215714278489 : True := oB
theorem PySem.W.Fast.tw17617208235017627098 : True := oB
theorem PySem.W.Fast.tw11798224737949586666 : True := oB
theorem PySem.W.Fast.tw13385464117073489172 : True := oB
theorem PySem.W.Fast.tw6629919945354745134 : True := oB
open PySem PySem.W PyProof.Rows
set_option maxRecDepth 100000 in
set_option maxHeartbeats 0 in
theorem PySem.Challenge.cw_ringwords_k73_counts_by_formulas_holds : PySem.Challenge.rw_ringwords_k73_counts_by_formulas.Holds := by
  w_on; o_law; k_head; (case hw => w_witness2)
  k_fill
  refine Kx.oz (l := PySem.Challenge.rw_ringwords_k73_counts_by_formulas) rfl rfl (fun w h Y => PySem.W.kIn_of Y) ?F
  case F =>
    intro w mg fa h KX G hmg
    refine' Kx.lL KX G hmg ?a0 ?l0 ?c0 ?k0 ?a1 ?l1 ?c1 ?k1 ?a2 ?l2 ?c2 ?k2 ?a3 ?l3 ?c3 ?k3 ?a4 ?l4 ?c4 ?k4 ?a5 ?l5 ?c5 ?k5 ?a6 ?l6 ?c6 ?k6 ?a7 ?l7 ?c7 ?k7 ?a8 ?l8 ?c8 ?k8 ?a9 ?l9 ?c9 ?k9 ?a10 ?l10 ?c10 ?k10 ?a11 ?l11 ?c11 ?k11 ?a12 ?l12 ?c12 ?k12 ?a13 ?l13 ?c13 ?k13 ?a14 ?l14 ?c14 ?k14 ?z_len ?z_repr ?z_abs ?z_max ?z_int ?z_list ?z_range ?z_reversed ?z_min ?z_sorted ?z_tuple ?z_isinstance ?z_all ?z_str ?z_zip ?zE ?zD ?zU
    (case a0 => k_is)
    (case l0 => k_is)
    (case c0 => k_is)
    (case k0 => k_is)
    (case a1 => k_is)
    (case l1 => k_is)
    (case c1 => k_is)
    (case k1 => k_is)
    (case a2 => k_is)
    (case l2 => k_is)
    (case c2 => k_is)
    (case k2 => k_is)
    (case a3 => k_is)
    (case l3 => k_is)
    (case c3 => k_is)
    (case k3 => k_is)
    (case a4 => k_is)
    (case l4 => k_is)
    (case c4 => k_is)
    (case k4 => k_is)
    (case a5 => k_is)
    (case l5 => k_is)
    (case c5 => k_is)
    (case k5 => k_is)
    (case a6 => k_is)
    (case l6 => k_is)
    (case c6 => k_is)
    (case k6 => k_is)
    (case a7 => k_is)
    (case l7 => k_is)
    (case c7 => k_is)
    (case k7 => k_is)
    (case a8 => k_is)
    (case l8 => k_is)
    (case c8 => k_is)
    (case k8 => k_is)
    (case a9 => k_is)
    (case l9 => k_is)
    (case c9 => k_is)
    (case k9 => k_is)
    (case a10 => k_is)
    (case l10 => k_is)
    (case c10 => k_is)
    (case k10 => k_is)
    (case a11 => k_is)
    (case l11 => k_is)
    (case c11 => k_is)
    (case k11 => k_is)
    (case a12 => k_is)
    (case l12 => k_is)
    (case c12 => k_is)
    (case k12 => k_is)
    (case a13 => k_is)
    (case l13 => k_is)
    (case c13 => k_is)
    (case k13 => k_is)
    (case a14 => k_is)
    (case l14 => k_is)
    (case c14 => k_is)
    (case k14 => k_is)
    (case z_len => k_is)
    (case z_repr => k_is)
    (case z_abs => k_is)
    (case z_max => k_is)
    (case z_int => k_is)
    (case z_list => k_is)
    (case z_range => k_is)
    (case z_reversed => k_is)
    (case z_min => k_is)
    (case z_sorted => k_is)
    (case z_tuple => k_is)
    (case z_isinstance => k_is)
    (case z_all => k_is)
    (case z_str => k_is)
    (case z_zip => k_is)
    (case zE => k_is)
    (case zD => k_is)
    (case zU => k_is)
end
