import PyProof.Rows.All
import Wide.All
import OpenK.AllK
import Wide.FinOn
import Lean
import PyProof.EqAt
import PyProof.EqKinds
import PyProof.TupleCall
import KE.KRevIter
import PyProof.ExcInit
import PyProof.InstStoreFacts
import PyProof.NsDelKeeps
import PyProof.FString5
import PyProof.NeData
import PyProof.TupleOfStr
import PyProof.IsRules
import PySem.Challenge.RW_ringwords_k25_refusals_apart
set_option Elab.async false
set_option linter.all false
set_option maxRecDepth 100000
namespace L2
open PySem PySem.Spec PyProof.Rows

noncomputable abbrev Key := Sum Int Str
noncomputable def keyIs : Key → Value → Bool
  | .inl k, v => Value.isInt k v
  | .inr x, v => Value.isStrOf x v
noncomputable def keyH (w : World) : Key → Int
  | .inl k => hashInt k
  | .inr x => hashStr w x
theorem keyIs_shape : ∀ {k : Key} {v : Value}, keyIs k v = true → (∃ i t, k = Sum.inl i ∧ v = Value.int i t) ∨ (∃ x t, k = Sum.inr x ∧ v = Value.str x t)
  | .inl i, v, h => by
    obtain ⟨t, e⟩ := Value.isInt_shape (k := i) (v := v) h
    exact .inl ⟨i, t, rfl, e⟩
  | .inr x, v, h => by
    obtain ⟨t, e⟩ := Value.isStrOf_shape (x := x) (v := v) h
    exact .inr ⟨x, t, rfl, e⟩
theorem keyIs_int (i : Int) (t : Tok) : keyIs (.inl i) (.int i t) = true := by simp [keyIs, Value.isInt]
theorem keyIs_str (x : Str) (t : Tok) : keyIs (.inr x) (.str x t) = true := by simp [keyIs, Value.isStrOf]
theorem key_ll (a b : Int) : decide ((Sum.inl a : Key) = Sum.inl b) = (a == b) := by
  by_cases e : a = b
  · subst e; simp
  · have h : ¬ (Sum.inl a : Key) = Sum.inl b := fun q => e (Sum.inl.inj q)
    rw [decide_eq_false h]
    exact (beq_eq_false_iff_ne.mpr e).symm
theorem key_rr (a b : Str) : decide ((Sum.inr a : Key) = Sum.inr b) = decide (a = b) := by
  by_cases e : a = b
  · subst e; simp
  · have h : ¬ (Sum.inr a : Key) = Sum.inr b := fun q => e (Sum.inr.inj q)
    rw [decide_eq_false h, decide_eq_false e]
theorem key_lr (a : Int) (b : Str) : decide ((Sum.inl a : Key) = Sum.inr b) = false := decide_eq_false (fun q => nomatch q)
theorem key_rl (a : Str) (b : Int) : decide ((Sum.inr a : Key) = Sum.inl b) = false := decide_eq_false (fun q => nomatch q)

noncomputable def mixKind (prog : Program) (w : World) : PySem.KeyKind prog w Key where
  is := keyIs
  hash := keyH w
  inj := fun v a b ha hb => by
    rcases keyIs_shape ha with ⟨i, t, rfl, rfl⟩ | ⟨x, t, rfl, rfl⟩
    · rcases keyIs_shape hb with ⟨j, u, rfl, e⟩ | ⟨y, u, rfl, e⟩
      · injection e with e1 _; rw [e1]
      · exact nomatch e
    · rcases keyIs_shape hb with ⟨j, u, rfl, e⟩ | ⟨y, u, rfl, e⟩
      · exact nomatch e
      · injection e with e1 _; rw [e1]
  byValue := fun k v h => by
    rcases keyIs_shape h with ⟨i, t, rfl, rfl⟩ | ⟨x, t, rfl, rfl⟩ <;> rfl
  pyHash := fun hv h => by
    rcases keyIs_shape hv with ⟨i, t, rfl, rfl⟩ | ⟨x, t, rfl, rfl⟩
    · exact wpAny_pyHash_int h
    · exact wpAny_pyHash_str h
  eqBool := fun hu hv h => by
    rcases keyIs_shape hu with ⟨i, t, rfl, rfl⟩ | ⟨x, t, rfl, rfl⟩
    · rcases keyIs_shape hv with ⟨j, u, rfl, rfl⟩ | ⟨y, u, rfl, rfl⟩
      · rw [key_ll] at h; exact wpAny_eqBool_int h
      · rw [key_lr] at h; exact SeqAt.EqAt.int_str i t y u _ _ _ _ h
    · rcases keyIs_shape hv with ⟨j, u, rfl, rfl⟩ | ⟨y, u, rfl, rfl⟩
      · rw [key_rl] at h; exact SeqAt.EqAt.str_int x t j u _ _ _ _ h
      · rw [key_rr] at h; exact wpAny_eqBool_str h
  «strs» := fun k x t v h => by
    rcases keyIs_shape h with ⟨i, u, rfl, e⟩ | ⟨y, u, rfl, e⟩
    · exact nomatch e
    · injection e with e1 _
      subst e1
      cases v <;> rfl

theorem mixKind_int (prog : Program) (w : World) (i : Int) (t : Tok) : (mixKind prog w).is (.inl i) (.int i t) = true := keyIs_int i t
theorem mixKind_str (prog : Program) (w : World) (x : Str) (t : Tok) : (mixKind prog w).is (.inr x) (.str x t) = true := keyIs_str x t
end L2

namespace L2
open PySem PySem.Spec PyProof.Rows

inductive V where
  | non | bl (b : Bool) | int (i : Int) | str (x : Str) | byt (b : Array UInt8) | flt (b : UInt64) | ref (a : Addr) | ty (n : String)
  deriving DecidableEq

noncomputable def RelV : V → Value → Prop
  | .non, u => u = Value.none
  | .bl b, u => u = Value.bool b
  | .int i, u => ∃ t, u = Value.int i t
  | .str x, u => ∃ t, u = Value.str x t
  | .byt b, u => ∃ t, u = Value.bytes b t
  | .flt b, u => ∃ t, u = Value.float b t
  | .ref a, u => u = Value.ref a
  | .ty n, u => u = Value.type n

noncomputable abbrev Vals : List V → List Value → Prop := Paired RelV
theorem Vals.length {xs : List V} {us : List Value} (r : Vals xs us) : xs.length = us.length := Paired.length r
theorem Vals.get : ∀ {xs : List V} {us : List Value} {i : Nat} {x : V}, Vals xs us → xs[i]? = some x → ∃ u, us[i]? = some u ∧ RelV x u
  | _, _, _, _, .nil, e => by simp at e
  | _, _, 0, _, .cons r _, e => by simp at e; subst e; exact ⟨_, rfl, r⟩
  | _, _, i + 1, x, .cons _ t, e => by
    obtain ⟨u, h1, h2⟩ := Vals.get (i := i) (x := x) t (by simpa using e)
    exact ⟨u, by simpa using h1, h2⟩
theorem Vals.append : ∀ {xs ys : List V} {us ws : List Value}, Vals xs us → Vals ys ws → Vals (xs ++ ys) (us ++ ws)
  | _, _, _, _, .nil, s => s
  | _, _, _, _, .cons r t, s => .cons r (Vals.append t s)
theorem Vals.take : ∀ {xs : List V} {us : List Value} (n : Nat), Vals xs us → Vals (xs.take n) (us.take n)
  | _, _, 0, _ => .nil
  | _, _, _ + 1, .nil => .nil
  | _, _, n + 1, .cons r t => .cons r (Vals.take n t)
theorem Vals.drop : ∀ {xs : List V} {us : List Value} (n : Nat), Vals xs us → Vals (xs.drop n) (us.drop n)
  | _, _, 0, r => r
  | _, _, _ + 1, .nil => .nil
  | _, _, n + 1, .cons _ t => Vals.drop n t

noncomputable def RelO : Option V → Option Value → Prop
  | some v, some u => RelV v u
  | none, none => True
  | _, _ => False
noncomputable def KV {κ : Type} : List (κ × V) → List (κ × Value) → Prop := Paired fun (p : κ × V) (q : κ × Value) => p.1 = q.1 ∧ RelV p.2 q.2

noncomputable def kV : Key → V
  | .inl i => .int i
  | .inr x => .str x

inductive HO where
  | lst (xs : List V)
  | tup (xs : List V)
  | dK (kvs : List (Key × V)) | dT (kvs : List (List Key × V))
  | set (S : Int → Bool) (n : Nat)
  | ins (C dx : Addr) (fs : List (Str × V))
  | own (x : Addr)
  | xd (fs : List (Str × V))
  | met (f x : Addr)
  | rng (lo hi : Int)
  | frz (o : Obj) (u : HO)
  | tbl (ps : Array Value)
  | ext (φ : Heap → Prop)

noncomputable abbrev Hp := Addr → Option HO
noncomputable def upd (H : Hp) (a : Addr) (o : HO) : Hp := fun b => if b = a then some o else H b
theorem upd_same {H : Hp} {a : Addr} {o : HO} : upd H a o a = some o := by unfold upd; rw [if_pos rfl]
theorem upd_ne {H : Hp} {a b : Addr} {o : HO} (h : b ≠ a) : upd H a o b = H b := by unfold upd; rw [if_neg h]
theorem upd_upd {H : Hp} {a : Addr} {o u : HO} : upd (upd H a o) a u = upd H a u := by
  funext b; unfold upd; split <;> rfl
theorem ne_of {H : Hp} {a b : Addr} {o u : HO} (h : H a = some o) (h' : H b = some u) (d : o ≠ u) : a ≠ b := by
  intro e; subst e; rw [h] at h'; exact d (Option.some.inj h')
theorem ne_of_none {H : Hp} {a b : Addr} {o : HO} (h : H a = some o) (h' : H b = none) : a ≠ b := by
  intro e; subst e; rw [h] at h'; cases h'

section
variable (P : Program) (w : World)
noncomputable def NoD (h : Heap) (a : Addr) : Prop := ∃ o, h.get? a = some o ∧ o.dict = none
noncomputable def ObjOk (H : Hp) (h : Heap) (a : Addr) : HO → Prop
  | .lst xs => xs.length ≤ sizeLine ∧ ∃ (its : List Value) (n : Nat), Vals xs its ∧ h.get? a = some { cls := .type "list", data := .seq its.toArray n }
  | .tup xs => xs.length ≤ sizeLine ∧ ∃ its : List Value, Vals xs its ∧ IsTup h a its.toArray ∧ NoD h a
  | .dK kvs => kvs.length ≤ sizeLine ∧ (a == sysModules) = false ∧ ∃ vs, KV kvs vs ∧ h.DictOf (mixKind P w) a vs
  | .dT kvs => kvs.length ≤ sizeLine ∧ (a == sysModules) = false ∧ ∃ xs : List (List Key × Addr × Value),
      Paired (fun (p : List Key × V) (q : List Key × Addr × Value) => p.1 = q.1 ∧ H q.2.1 = some (.tup (p.1.map kV)) ∧ RelV p.2 q.2.2) kvs xs ∧
      ∃ o es ep, h.get? a = some o ∧ o.ExactDict ∧ o.data = .dict es ep ∧ es.toList = xs.map (entryOfKey (tupleKind (mixKind P w))) ∧ (xs.map (·.1)).Nodup
  | .set S n => h.SetOf (intKind P w) a S n
  | .ins C dx fs => H dx = some (.own a) ∧ fs.length ≤ 1000 ∧ dx ≠ a ∧ h.get? a = some (PySem.W.instObj C dx) ∧
      ∃ mA, h.Ns1 dx mA ∧ (∀ f, RelO (fs.lookup f) (mA f)) ∧ PySem.Within mA (fs.map (·.1))
  | .own _ => ∃ o, h.get? a = some o
  | .xd fs => ∃ mA, h.Ns1 a mA ∧ ∀ f, RelO (fs.lookup f) (mA f)
  | .rng lo hi => ∃ t u v, h.get? a = some { cls := .type "range", data := .fields #[.int lo t, .int hi u, .int 1 v] }
  | .frz o u => h.get? a = some o ∧ ObjOk H h a u
  | .tbl ps => h.get? a = some { cls := .none, data := .fields ps }
  | .met f x => h.get? a = some (PySem.W.methodObj (.ref f) (.ref x))
  | .ext φ => φ h ∧ (∃ o, h.get? a = some o) ∧ ∀ h1 h2 : Heap, φ h1 → (∀ o, h1.get? a = some o → h2.get? a = some o) → φ h2
noncomputable def HOk (H : Hp) (h : Heap) : Prop := ∀ a o, H a = some o → ObjOk P w H h a o
end

section
variable {P : Program} {w : World} {H H' : Hp} {h h' : Heap} {a : Addr} {o : HO}
theorem ObjOk.lt (x : ObjOk P w H h a o) : a < h.objs.size := by
  cases o with
  | lst xs => obtain ⟨_, _, _, _, e⟩ := x; exact Heap.lt_size e
  | tup xs => obtain ⟨_, _, _, p, _⟩ := x; exact p.lt
  | dK kvs => obtain ⟨_, _, _, _, o, _, _, e, _⟩ := x; exact Heap.lt_size e
  | dT kvs => obtain ⟨_, _, _, _, o, _, _, e, _⟩ := x; exact Heap.lt_size e
  | set S n => obtain ⟨o, _, _, _, e, _⟩ := x; exact Heap.lt_size e
  | ins C dx fs => obtain ⟨_, _, _, e, _⟩ := x; exact Heap.lt_size e
  | own y => obtain ⟨_, e⟩ := x; exact Heap.lt_size e
  | xd fs => obtain ⟨_, ⟨_, _, _, e, _⟩, _⟩ := x; exact Heap.lt_size e
  | rng lo hi => obtain ⟨_, _, _, e⟩ := x; exact Heap.lt_size e
  | frz ob u => obtain ⟨e, _⟩ := x; exact Heap.lt_size e
  | tbl ps => exact Heap.lt_size (show h.get? a = some _ from x)
  | met f y => exact Heap.lt_size (show h.get? a = some _ from x)
  | ext φ => obtain ⟨_, ⟨_, e⟩, _⟩ := x; exact Heap.lt_size e
theorem Paired.mapP {α β : Type} {F G : α → β → Prop} : ∀ {l₁ : List α} {l₂ : List β}, Paired F l₁ l₂ → (∀ a b, F a b → G a b) → Paired G l₁ l₂
  | _, _, .nil, _ => .nil
  | _, _, .cons r t, f => .cons (f _ _ r) (Paired.mapP t f)
theorem ObjOk.stay (x : ObjOk P w H h a o) (k : ∀ b u, (b = a ∨ H b = some (.own a)) → h.get? b = some u → h'.get? b = some u)
    (ho : ∀ b, H b = some (.own a) → H' b = some (.own a)) (ht : ∀ b xs, H b = some (.tup xs) → H' b = some (.tup xs)) : ObjOk P w H' h' a o := by
  induction o with
  | lst xs => obtain ⟨z, its, n, r, e⟩ := x; exact ⟨z, its, n, r, k _ _ (.inl rfl) e⟩
  | tup xs => obtain ⟨z, its, r, ⟨ob, e, c⟩, o2, e2, c2⟩ := x; exact ⟨z, its, r, ⟨ob, k _ _ (.inl rfl) e, c⟩, o2, k _ _ (.inl rfl) e2, c2⟩
  | dK kvs => obtain ⟨z, y, vs, r, ob, es, ep, e, c⟩ := x; exact ⟨z, y, vs, r, ob, es, ep, k _ _ (.inl rfl) e, c⟩
  | dT kvs =>
    obtain ⟨z, y, xs, r, ob, es, ep, e, c⟩ := x
    exact ⟨z, y, xs, Paired.mapP r fun p q z => ⟨z.1, ht _ _ z.2.1, z.2.2⟩, ob, es, ep, k _ _ (.inl rfl) e, c⟩
  | set S n => obtain ⟨ob, es, ep, t, e, c⟩ := x; exact ⟨ob, es, ep, t, k _ _ (.inl rfl) e, c⟩
  | ins C dx fs =>
    obtain ⟨d, z, ne, e, mA, ⟨od, es, ep, e2, c⟩, r⟩ := x
    exact ⟨ho _ d, z, ne, k _ _ (.inl rfl) e, mA, ⟨od, es, ep, k _ _ (.inr d) e2, c⟩, r⟩
  | own y => obtain ⟨ob, e⟩ := x; exact ⟨ob, k _ _ (.inl rfl) e⟩
  | xd fs => obtain ⟨mA, ⟨od, es, ep, e, c⟩, r⟩ := x; exact ⟨mA, ⟨od, es, ep, k _ _ (.inl rfl) e, c⟩, r⟩
  | rng lo hi => obtain ⟨t, u, v, e⟩ := x; exact ⟨t, u, v, k _ _ (.inl rfl) e⟩
  | frz ob u ih => obtain ⟨e, q⟩ := x; exact ⟨k _ _ (.inl rfl) e, ih q⟩
  | tbl ps =>
    have e : h.get? a = some { cls := .none, data := .fields ps } := x
    show h'.get? a = some { cls := .none, data := .fields ps }
    exact k a _ (.inl rfl) e
  | met f y =>
    have e : h.get? a = some (PySem.W.methodObj (.ref f) (.ref y)) := x
    show h'.get? a = some (PySem.W.methodObj (.ref f) (.ref y))
    exact k a _ (.inl rfl) e
  | ext φ => obtain ⟨p, ⟨o, e⟩, st⟩ := x; exact ⟨st _ _ p fun o q => k _ _ (.inl rfl) q, ⟨o, k _ _ (.inl rfl) e⟩, st⟩
theorem HOk.lt (x : HOk P w H h) (e : H a = some o) : a < h.objs.size := (x a o e).lt
theorem HOk.fresh (x : HOk P w H h) (e : h.objs.size ≤ a) : H a = none := by
  cases q : H a with
  | none => rfl
  | some u => exact absurd (Nat.lt_of_lt_of_le (x.lt q) e) (Nat.lt_irrefl _)
theorem HOk.kept (x : HOk P w H h) (k : ∀ b u, h.get? b = some u → h'.get? b = some u) : HOk P w H h' := fun a o e =>
  (x a o e).stay (fun b u _ q => k b u q) (fun _ q => q) fun _ _ q => q
theorem HOk.laid (x : HOk P w H h) (k : ∀ b u, h.get? b = some u → h'.get? b = some u) (hp : h.objs.size ≤ a) (new : ObjOk P w (upd H a o) h' a o) : HOk P w (upd H a o) h' := fun b u e => by
  have hn := x.fresh hp
  by_cases hb : b = a
  · subst hb; rw [upd_same] at e; cases e; exact new
  · rw [upd_ne hb] at e
    exact (x b u e).stay (fun c v _ q => k c v q) (fun c q => by rw [upd_ne (ne_of_none q hn)]; exact q) fun c xs q => by rw [upd_ne (ne_of_none q hn)]; exact q
end

noncomputable def Rd (H : Hp) (a : Addr) (u : HO) : Prop := H a = some u ∨ ∃ o, H a = some (.frz o u)
theorem Rd.ok {P : Program} {w : World} {H : Hp} {h : Heap} {a : Addr} {u : HO} (r : Rd H a u) (x : HOk P w H h) : ObjOk P w H h a u := by
  rcases r with r | ⟨o, r⟩
  · exact x a u r
  · obtain ⟨_, q⟩ := x a _ r
    exact q
noncomputable def Mut : Option HO → Prop
  | some (.lst _) => True
  | some (.dK _) => True
  | some (.dT _) => True
  | some (.set _ _) => True
  | some (.ins _ _ _) => True
  | some (.ext _) => True
  | _ => False
section
variable {P : Program} {w : World} {H : Hp} {h h' : Heap} {x e : Addr} {o' : HO}
theorem HOk.write (ok : HOk P w H h) (mu : Mut (H x)) (he : e = x ∨ H e = some (.own x)) (k : ∀ b u, b ≠ e → h.get? b = some u → h'.get? b = some u) (heo : ∃ u, h'.get? e = some u)
    (new : ObjOk P w (upd H x o') h' x o') : HOk P w (upd H x o') h' := fun b u q => by
  have nown : ∀ c y, H c = some (.own y) → c ≠ x := fun c y r z => by subst z; rw [r] at mu; exact mu
  have ntup : ∀ c xs, H c = some (.tup xs) → c ≠ x := fun c xs r z => by subst z; rw [r] at mu; exact mu
  by_cases hb : b = x
  · subst hb; rw [upd_same] at q; cases q; exact new
  · rw [upd_ne hb] at q
    by_cases hbe : b = e
    · have q' : H b = some (.own x) := by
        rcases he with z | z
        · exact absurd (hbe.trans z) hb
        · rw [hbe]; exact z
      rw [q] at q'; cases q'
      obtain ⟨v, hv⟩ := heo
      exact ⟨v, by rw [hbe]; exact hv⟩
    · refine (ok b u q).stay (fun c v hc r => k c v ?_ r) (fun c r => by rw [upd_ne (nown c b r)]; exact r) fun c xs r => by rw [upd_ne (ntup c xs r)]; exact r
      rcases hc with rfl | hc
      · exact hbe
      · rintro rfl
        rcases he with z | z
        · exact nown c b hc z
        · rw [hc] at z; cases z; exact hb rfl
end

structure Un (fs ex : List Addr) (H H' : Hp) (h h' : Heap) : Prop where
  keep : ∀ b o, h.get? b = some o → H b = none → b ∉ fs → b ∉ ex → h'.get? b = some o
  slot : ∀ b o, h.get? b = some o → H b = none → b ∈ fs → b ∉ ex → ∃ sl, h'.get? b = some { o with slots := sl }
  free : ∀ b o, h.get? b = some o → H b = none → b ∉ ex → H' b = none
  there : ∀ b o, h.get? b = some o → b ∉ ex → ∃ o', h'.get? b = some o'
  tups : ∀ b xs, H b = some (.tup xs) → H' b = some (.tup xs)
  frzs : ∀ b o u, H b = some (.frz o u) → H' b = some (.frz o u)
  tbls : ∀ b ps, H b = some (.tbl ps) → ∃ more, H' b = some (.tbl (ps ++ more))
section
variable {fs fs' ex ex' : List Addr} {H H1 H2 : Hp} {h h1 h2 h' : Heap} {a x e : Addr} {o : HO}
theorem Un.any (u : Un fs ex H H1 h h1) {b : Addr} {ob : Obj} (q : h.get? b = some ob) (n : H b = none) (hx : b ∉ ex) : ∃ sl, h1.get? b = some { ob with slots := sl } := by
  by_cases hb : b ∈ fs
  · exact u.slot b ob q n hb hx
  · exact ⟨ob.slots, u.keep b ob q n hb hx⟩
theorem Un.kept (k : ∀ b u, h.get? b = some u → h'.get? b = some u) : Un fs ex H H h h' :=
  ⟨fun b ob q _ _ _ => k b ob q, fun b ob q _ _ _ => ⟨ob.slots, k b ob q⟩, fun _ _ _ n _ => n, fun b ob q _ => ⟨ob, k b ob q⟩, fun _ _ q => q, fun _ _ _ q => q, fun _ ps q => ⟨#[], by rw [q]; simp⟩⟩
theorem Un.refl : Un fs ex H H h h := Un.kept fun _ _ q => q
theorem Un.laid (k : ∀ b u, h.get? b = some u → h'.get? b = some u) (hp : h.objs.size ≤ a) (hn : H a = none) : Un fs ex H (upd H a o) h h' where
  keep := fun b u q _ _ _ => k b u q
  slot := fun b u q _ _ _ => ⟨u.slots, k b u q⟩
  free := fun b u q n _ => by rw [upd_ne (Nat.ne_of_lt (Nat.lt_of_lt_of_le (Heap.lt_size q) hp))]; exact n
  there := fun b u q _ => ⟨u, k b u q⟩
  tups := fun b xs q => by rw [upd_ne (ne_of_none q hn)]; exact q
  frzs := fun b u xs q => by rw [upd_ne (ne_of_none q hn)]; exact q
  tbls := fun b ps q => ⟨#[], by rw [upd_ne (ne_of_none q hn), q]; simp⟩
theorem Un.write (mu : Mut (H x)) (he : e = x ∨ H e = some (.own x)) (k : ∀ b u, b ≠ e → h.get? b = some u → h'.get? b = some u) (heo : ∃ u, h'.get? e = some u) : Un fs ex H (upd H x o) h h' := by
  have hx : ∀ b, H b = none → b ≠ x := fun b n z => by subst z; rw [n] at mu; exact mu
  have hb : ∀ b, H b = none → b ≠ e := fun b n z => by
    subst z
    rcases he with r | r
    · exact hx b n r
    · rw [n] at r; cases r
  have hm : ∀ b u, H b = some u → ¬ Mut (some u) → b ≠ x := fun b u q nm z => by subst z; rw [q] at mu; exact nm mu
  refine ⟨fun b u q n _ _ => k b u (hb b n) q, fun b u q n _ _ => ⟨u.slots, k b u (hb b n) q⟩, fun b u q n _ => by rw [upd_ne (hx b n)]; exact n, fun b u q _ => ?_,
    fun b xs q => by rw [upd_ne (hm b _ q fun z => z)]; exact q, fun b u xs q => by rw [upd_ne (hm b _ q fun z => z)]; exact q, fun b ps q => ⟨#[], by rw [upd_ne (hm b _ q fun z => z), q]; simp⟩⟩
  by_cases hbe : b = e
  · subst hbe; exact heo
  · exact ⟨u, k b u hbe q⟩
end

noncomputable def trk (h : Heap) (H : Hp) : List Addr := (List.range h.objs.size).filter fun a => (H a).isSome
noncomputable def hidT (h : Heap) (H : Hp) : Heap := PySem.W.hideAll h (trk h H)
theorem hidT_size (h : Heap) (H : Hp) : (hidT h H).objs.size = h.objs.size := PySem.W.hideAll_size _ _
theorem hidT_get {h : Heap} {H : Hp} {b : Addr} {o : Obj} (e : h.get? b = some o) (n : H b = none) : (hidT h H).get? b = some o :=
  PySem.W.hideAll_get _ e fun hm => by
    have q : (H b).isSome = true := (List.mem_filter.mp hm).2
    rw [n] at q; simp at q
theorem of_hidT {h : Heap} {H : Hp} {b : Addr} {o : Obj} (e : (hidT h H).get? b = some o) : h.get? b = some o ∧ H b = none := by
  have e' : h.get? b = some o := PySem.W.of_hideAll (trk h H) e
  refine ⟨e', ?_⟩
  cases q : H b with
  | none => rfl
  | some x =>
    have hm : b ∈ trk h H := List.mem_filter.mpr ⟨List.mem_range.mpr (Heap.lt_size e'), by simp [q]⟩
    have z : (hidT h H).get? b = none := PySem.W.hideAll_none (trk h H) hm
    rw [z] at e; cases e

noncomputable def allNews (g h : Heap) (L : Addr) : List (Addr × Obj) := (List.range h.objs.size).filterMap fun a => if a = L ∨ (g.get? a).isSome = true then none else (h.get? a).map fun o => (a, o)
noncomputable def rest (g h : Heap) (L d : Addr) : List (Addr × Obj) := (allNews g h L).filter fun p => decide (p.1 ≠ d)
end L2

namespace L2
open PySem PySem.Spec PyProof.Rows

structure Mod (K : PySem.W.Frag) (mg : Str → Option Value) (base : Heap) : Prop where
  kin : K.In base
  glob : base.Ns mainGlobals mg
  blt : ∃ mb, base.Ns builtinsNs mb ∧ ∀ x : Str, x ≠ "__name__" → mb x = bootBuiltins x
  nolimit : base.NoLimit

/-- the context: a def's body (or a comprehension's block) running. base: fixed through the whole law; s₀, H₀: the entry; outer: the frames whose slots others may change (a def's callers); stack: all frames that run;
   ex: iterators that were made ahead of the entry and are walked here (a comprehension's); fn: the names whose cells were made at the entry (a def: all; a comprehension's block: its own); calm: not within an except suite; pn: pins that every state bears; xe: what is wanted of an exception that leaves the code -/
structure Cx where
  prog : Program
  w : World
  K : PySem.W.Frag
  mg : Str → Option Value
  base : Heap
  A : Around
  N : List Str
  s₀ : Shared
  H₀ : Hp
  env : Env
  outer : List Env
  stack : List Env
  ex : List Addr
  fn : Str → Bool
  calm : Bool
  pn : List (Addr × Obj)
  xe : Value → Shared → Prop
noncomputable def frs (l : List Env) : List Addr := l.filterMap (·.frame)
noncomputable abbrev Cx.fs (X : Cx) : List Addr := frs X.outer

noncomputable def Vis (sc : Scope) (x : Str) : Prop := sc.names.lookup x = some .local ∨ sc.names.lookup x = some .cell ∨ sc.names.lookup x = some .free
noncomputable def Loc (sc : Scope) (x : Str) : Prop := sc.names.lookup x = some .local ∨ sc.names.lookup x = some .cell
noncomputable def Look (env : Env) (h : Heap) (m : Str → Option Value) (x : Str) (u : Value) : Prop :=
  (env.kindOf x = some .local ∧ m x = some u) ∨ ((env.kindOf x = some .cell ∨ env.kindOf x = some .free) ∧ ∃ c, env.cells.lookup x = some c ∧ h.IsCell c (some u))

structure Cx.Ok (X : Cx) : Prop where
  mod : Mod X.K X.mg X.base
  kind : X.env.scope.kind = .function
  glob : X.env.globals = mainGlobals
  blt : X.env.builtins = builtinsNs
  above : X.s₀.heap.objs.size ≤ X.env.locals
  inj : ∀ x y c, X.env.cells.lookup x = some c → X.env.cells.lookup y = some c → x = y
  has : ∀ x, (X.env.kindOf x = some .cell ∨ X.env.kindOf x = some .free) → ∃ c, X.env.cells.lookup x = some c
  cab : ∀ x c, X.fn x = true → X.env.cells.lookup x = some c → X.s₀.heap.objs.size ≤ c
  hd : X.calm = true → X.A.handled = none
  frames : X.A.frames = some X.stack
  stk : X.stack = X.outer ∨ (X.stack = X.env :: X.outer ∧ X.env.frame = some X.env.locals)
  exf : ∀ b ∈ X.ex, b ≠ X.env.locals ∧ ∀ x c, X.env.cells.lookup x = some c → c ≠ b
  bs : ∀ b o, X.base.get? b = some o → X.s₀.heap.get? b = some o ∧ X.H₀ b = none
  bsz : X.base.objs.size ≤ X.s₀.heap.objs.size
  noex : ∀ b o, X.base.get? b = some o → b ∉ X.ex
  exfs : ∀ b ∈ X.ex, b ∉ X.fs
  funs : X.s₀.heap.FunFrames X.base X.outer
  frf : ∀ b ∈ X.fs, X.H₀ b = none

structure Inv (X : Cx) (pins : List (Addr × Obj)) (σ : List (Option V)) (H : Hp) (s : Shared) : Prop where
  ok : X.Ok
  os : s.os = X.s₀.os
  bare : AllBare s.gens
  base : Un X.fs X.ex X.H₀ H X.s₀.heap s.heap
  loc : ∃ m, s.heap.Ns X.env.locals m ∧ ∀ (i : Nat) (x : Str) (v : V), X.N[i]? = some x → σ[i]? = some (some v) → Vis X.env.scope x → ∃ u, RelV v u ∧ Look X.env s.heap m x u
  cell : ∀ x c, X.env.cells.lookup x = some c → ∃ v, s.heap.IsCell c v
  free : H X.env.locals = none
  freeC : ∀ x c, X.env.cells.lookup x = some c → H c = none
  pin : ∀ p ∈ X.pn ++ pins, s.heap.get? p.1 = some p.2 ∧ H p.1 = none ∧ p.1 ≠ X.env.locals ∧ p.1 ∉ X.fs ∧ ∀ v, p.2.data ≠ .cell v
  hok : HOk X.prog X.w H s.heap
  len : σ.length = X.N.length

section
variable {X : Cx} {pins : List (Addr × Obj)} {σ : List (Option V)} {H H' : Hp} {s : Shared} {h' : Heap}

theorem Cx.Ok.nofr (ok : X.Ok) {b : Addr} {o : Obj} (e : X.base.get? b = some o) : b ∉ X.fs := fun hb => by
  have := (ok.funs.mem hb).1
  rw [e] at this; cases this
theorem Inv.bs (I : Inv X pins σ H s) : ∀ b o, X.base.get? b = some o → s.heap.get? b = some o ∧ H b = none := fun b o e =>
  ⟨I.base.keep b o (I.ok.bs b o e).1 (I.ok.bs b o e).2 (I.ok.nofr e) (I.ok.noex b o e), I.base.free b o (I.ok.bs b o e).1 (I.ok.bs b o e).2 (I.ok.noex b o e)⟩
theorem Inv.bk (I : Inv X pins σ H s) : ∀ b o, X.base.get? b = some o → s.heap.get? b = some o := fun b o e => (I.bs b o e).1
theorem Inv.mod (I : Inv X pins σ H s) : Mod X.K X.mg X.base := I.ok.mod
theorem Inv.kIn (I : Inv X pins σ H s) : X.K.In s.heap := I.ok.mod.kin.keeps I.bk
theorem Inv.lt (I : Inv X pins σ H s) : X.env.locals < s.heap.objs.size := let ⟨_, hn, _⟩ := I.loc; hn.lt
theorem Inv.sz (I : Inv X pins σ H s) : X.s₀.heap.objs.size ≤ s.heap.objs.size := Nat.le_trans I.ok.above (Nat.le_of_lt I.lt)
theorem Inv.nofs (I : Inv X pins σ H s) {a : Addr} (h : s.heap.objs.size ≤ a) : a ∉ X.fs := fun hb => by
  obtain ⟨_, o, ho, _⟩ := I.ok.funs.mem hb
  exact absurd (Nat.lt_of_lt_of_le (Heap.lt_size ho) (Nat.le_trans I.sz h)) (Nat.lt_irrefl _)
theorem Inv.cne (I : Inv X pins σ H s) : ∀ x c, X.env.cells.lookup x = some c → c ≠ X.env.locals := fun x c e z => by
  obtain ⟨v, o, ho, hd⟩ := I.cell x c e
  obtain ⟨m, ⟨o', es, ep, ho', hd', _⟩, _⟩ := I.loc
  rw [z, ho'] at ho; cases ho; rw [hd'] at hd; cases hd
theorem Inv.funs (I : Inv X pins σ H s) : s.heap.FunFrames X.base X.outer := by
  have all : ∀ (l : List Env), (∀ b ∈ frs l, b ∈ X.fs) → X.s₀.heap.FunFrames X.base l → s.heap.FunFrames X.base l := by
    intro l
    induction l with
    | nil => intro _ _; trivial
    | cons env r ih =>
      intro hs hl
      obtain ⟨hk, ⟨L, o, hf, hn, ho, hd⟩, hr⟩ := hl
      have hL : L ∈ X.fs := hs L (by unfold frs; rw [List.filterMap_cons, hf]; exact List.mem_cons_self)
      obtain ⟨sl, e⟩ := I.base.slot L o ho (I.ok.frf L hL) hL fun z => I.ok.exfs L z hL
      exact ⟨hk, ⟨L, _, hf, hn, e, hd⟩, ih (fun b hb => hs b (by unfold frs; rw [List.filterMap_cons, hf]; exact List.mem_cons_of_mem _ hb)) hr⟩
  exact all X.outer (fun _ hb => hb) I.ok.funs

theorem Inv.stack (I : Inv X pins σ H s) : s.heap.FunFrames X.base X.stack := by
  rcases I.ok.stk with e | ⟨e, hf⟩
  · rw [e]; exact I.funs
  · rw [e]
    obtain ⟨m, hn, _⟩ := I.loc
    refine .cons (by rw [I.ok.kind]; decide) hf hn ?_ I.funs
    exact Heap.get?_none_of_le (Nat.le_trans I.ok.bsz I.ok.above)
theorem Inv.stkSub (I : Inv X pins σ H s) : ∀ b ∈ frs X.stack, b ∈ X.env.locals :: X.fs := fun b hb => by
  rcases I.ok.stk with e | ⟨e, hf⟩
  · rw [e] at hb; exact List.mem_cons_of_mem _ hb
  · rw [e] at hb
    unfold frs at hb
    rw [List.filterMap_cons, hf] at hb
    exact hb
theorem Inv.stkFree (I : Inv X pins σ H s) : ∀ b ∈ frs X.stack, H b = none := fun b hb => by
  rcases List.mem_cons.mp (I.stkSub b hb) with e | hb
  · rw [e]; exact I.free
  · obtain ⟨_, o, ho, _⟩ := I.ok.funs.mem hb
    exact I.base.free b o ho (I.ok.frf b hb) fun z => I.ok.exfs b z hb

theorem Inv.step {g' : Array GenState} {t' : Nat} {d' : Drawn} {ch : List Addr} (I : Inv X pins σ H s)
    (hch : ∀ b ∈ ch, (b ∈ X.ex ∨ X.s₀.heap.objs.size ≤ b) ∧ b ≠ X.env.locals ∧ (∀ x c, X.env.cells.lookup x = some c → c ≠ b) ∧ ∀ p ∈ X.pn ++ pins, p.1 ≠ b)
    (keep : ∀ b o, b ≠ X.env.locals → b ∉ X.fs → b ∉ ch → s.heap.get? b = some o → H b = none → h'.get? b = some o)
    (slot : ∀ b o, b ≠ X.env.locals → b ∈ X.fs → b ∉ ch → s.heap.get? b = some o → H b = none → ∃ sl, h'.get? b = some { o with slots := sl }) (free : ∀ b o, b ∉ ch → s.heap.get? b = some o → H b = none → H' b = none)
    (there : ∀ b o, b ∉ ch → s.heap.get? b = some o → ∃ o', h'.get? b = some o')
    (tups : ∀ b xs, H b = some (.tup xs) → H' b = some (.tup xs)) (frzs : ∀ b o u, H b = some (.frz o u) → H' b = some (.frz o u)) (tbls : ∀ b ps, H b = some (.tbl ps) → ∃ more, H' b = some (.tbl (ps ++ more)))
    (ns : ∀ m, s.heap.Ns X.env.locals m → h'.Ns X.env.locals m) (hok : HOk X.prog X.w H' h') (hg : AllBare g') :
    Inv X pins σ H' { s with heap := h', gens := g', drawn := d', toks := t' } := by
  have neL : ∀ b o, X.s₀.heap.get? b = some o → b ≠ X.env.locals := fun b o e => Nat.ne_of_lt (Nat.lt_of_lt_of_le (Heap.lt_size e) I.ok.above)
  have neC : ∀ b o, X.s₀.heap.get? b = some o → b ∉ X.ex → b ∉ ch := fun b o e hx hb => by
    rcases (hch b hb).1 with z | z
    · exact hx z
    · exact absurd (Nat.lt_of_lt_of_le (Heap.lt_size e) z) (Nat.lt_irrefl _)
  have cellK : ∀ x c, X.env.cells.lookup x = some c → ∀ v, s.heap.IsCell c v → h'.IsCell c v := fun x c e v ⟨o, ho, hd⟩ => by
    have nch : c ∉ ch := fun z => (hch c z).2.2.1 x c e rfl
    by_cases hc : c ∈ X.fs
    · obtain ⟨sl, q⟩ := slot c o (I.cne x c e) hc nch ho (I.freeC x c e)
      exact ⟨_, q, hd⟩
    · exact ⟨o, keep c o (I.cne x c e) hc nch ho (I.freeC x c e), hd⟩
  refine ⟨I.ok, I.os, hg, ⟨fun b o e n hb hx => ?_, fun b o e n hb hx => ?_, fun b o e n hx => ?_, fun b o e hx => ?_, fun b xs e => tups b xs (I.base.tups b xs e), fun b o xs e => frzs b o xs (I.base.frzs b o xs e), fun b ps e => ?_⟩, ?_, fun x c e => ?_, ?_, fun x c e => ?_, fun p hp => ?_, hok, I.len⟩
  · exact keep b o (neL b o e) hb (neC b o e hx) (I.base.keep b o e n hb hx) (I.base.free b o e n hx)
  · obtain ⟨sl, e1⟩ := I.base.slot b o e n hb hx
    obtain ⟨sl', e2⟩ := slot b _ (neL b o e) hb (neC b o e hx) e1 (I.base.free b o e n hx)
    exact ⟨sl', e2⟩
  · obtain ⟨o', e1⟩ := I.base.there b o e hx
    exact free b o' (neC b o e hx) e1 (I.base.free b o e n hx)
  · obtain ⟨o', e1⟩ := I.base.there b o e hx
    exact there b o' (neC b o e hx) e1
  · obtain ⟨m1, e1⟩ := I.base.tbls b ps e
    obtain ⟨m2, e2⟩ := tbls b _ e1
    exact ⟨m1 ++ m2, by rw [e2, Array.append_assoc]⟩
  · obtain ⟨m, hn, hl⟩ := I.loc
    refine ⟨m, ns m hn, fun i x v e1 e2 e3 => ?_⟩
    obtain ⟨u, r, l⟩ := hl i x v e1 e2 e3
    refine ⟨u, r, ?_⟩
    rcases l with l | ⟨k, c, e, z⟩
    · exact .inl l
    · exact .inr ⟨k, c, e, cellK x c e _ z⟩
  · obtain ⟨v, z⟩ := I.cell x c e
    exact ⟨v, cellK x c e v z⟩
  · obtain ⟨m, ⟨o, _, _, ho, _⟩, _⟩ := I.loc
    exact free _ o (fun z => (hch _ z).2.1 rfl) ho I.free
  · obtain ⟨v, o, ho, hd⟩ := I.cell x c e
    exact free c o (fun z => (hch c z).2.2.1 x c e rfl) ho (I.freeC x c e)
  · obtain ⟨e, n, ne, nf, d⟩ := I.pin p hp
    have nch : p.1 ∉ ch := fun z => (hch p.1 z).2.2.2 p hp rfl
    exact ⟨keep p.1 p.2 ne nf nch e n, free p.1 p.2 nch e n, ne, nf, d⟩
theorem Inv.un {t' : Nat} (I : Inv X pins σ H s) (u : Un X.fs [] H H' s.heap h') (hok : HOk X.prog X.w H' h') : Inv X pins σ H' { s with heap := h', toks := t' } := by
  obtain ⟨m, ⟨o, es, ep, ho, r⟩, _⟩ := id I.loc
  obtain ⟨sl, hL⟩ := u.any ho I.free (by simp)
  exact I.step (g' := s.gens) (d' := s.drawn) (ch := []) (fun _ z => nomatch z) (fun b o _ hb _ e n => u.keep b o e n hb (by simp)) (fun b o _ hb _ e n => u.slot b o e n hb (by simp)) (fun b o _ e n => u.free b o e n (by simp)) (fun b o _ e => u.there b o e (by simp)) u.tups u.frzs u.tbls (fun m' hm => by
    obtain ⟨o', es', ep', ho', r'⟩ := hm
    rw [ho] at ho'; cases ho'
    exact ⟨_, es', ep', hL, r'⟩) hok I.bare
theorem Inv.call {g' : Array GenState} {t' : Nat} {d' : Drawn} {ch : List Addr} (I : Inv X pins σ H s) (u : Un (frs X.stack) ch H H' s.heap h') (hok : HOk X.prog X.w H' h') (hg : AllBare g')
    (hch : ∀ b ∈ ch, (b ∈ X.ex ∨ X.s₀.heap.objs.size ≤ b) ∧ b ≠ X.env.locals ∧ (∀ x c, X.env.cells.lookup x = some c → c ≠ b) ∧ ∀ p ∈ X.pn ++ pins, p.1 ≠ b) :
    Inv X pins σ H' { s with heap := h', gens := g', drawn := d', toks := t' } := by
  obtain ⟨m, ⟨o, es, ep, ho, r⟩, _⟩ := id I.loc
  obtain ⟨sl, hL⟩ := u.any ho I.free fun z => (hch _ z).2.1 rfl
  exact I.step (ch := ch) hch (fun b o hL hb hc e n => u.keep b o e n (fun z => (List.mem_cons.mp (I.stkSub b z)).elim hL hb) hc) (fun b o _ _ hc e n => u.any e n hc) (fun b o hc e n => u.free b o e n hc) (fun b o hc e => u.there b o e hc) u.tups u.frzs u.tbls (fun m' hm => by
    obtain ⟨o', es', ep', ho', r'⟩ := hm
    rw [ho] at ho'; cases ho'
    exact ⟨_, es', ep', hL, r'⟩) hok hg
theorem Inv.turned {t' : Nat} {it : Addr} (I : Inv X pins σ H s) (k : ∀ b o, b ≠ it → s.heap.get? b = some o → h'.get? b = some o) (hn : H it = none) (hL : it ≠ X.env.locals)
    (h1 : it ∈ X.ex ∨ X.s₀.heap.objs.size ≤ it) (h2 : ∀ x c, X.env.cells.lookup x = some c → c ≠ it) (h3 : ∀ p ∈ X.pn ++ pins, p.1 ≠ it) : Inv X pins σ H { s with heap := h', toks := t' } := by
  have nit : ∀ b u, H b = some u → b ≠ it := fun b u e z => by rw [z, hn] at e; cases e
  refine I.step (g' := s.gens) (d' := s.drawn) (ch := [it]) (fun b hb => ?_) (fun b o _ _ hc e _ => k b o (fun z => hc (by simp [z])) e) (fun b o _ _ hc e _ => ⟨o.slots, k b o (fun z => hc (by simp [z])) e⟩) (fun _ _ _ _ n => n)
    (fun b o hc e => ⟨o, k b o (fun z => hc (by simp [z])) e⟩) (fun _ _ e => e) (fun _ _ _ e => e) (fun b ps e => ⟨#[], by rw [e]; simp⟩) (fun m hm => ?_) (fun b u e => ?_) I.bare
  · have e : b = it := by simpa using hb
    subst e
    exact ⟨h1, hL, h2, h3⟩
  · obtain ⟨o, es, ep, ho, r⟩ := hm
    exact ⟨o, es, ep, k _ o (Ne.symm hL) ho, r⟩
  · refine (I.hok b u e).stay (fun c v hc q => k c v ?_ q) (fun _ q => q) fun _ _ q => q
    rcases hc with z | z
    · rw [z]; exact nit b u e
    · exact nit c _ z
theorem Inv.tok (I : Inv X pins σ H s) (t : Nat) : Inv X pins σ H { s with toks := t } := I.un (h' := s.heap) (t' := t) Un.refl I.hok
theorem Inv.kept {t' : Nat} (I : Inv X pins σ H s) (k : ∀ b u, s.heap.get? b = some u → h'.get? b = some u) : Inv X pins σ H { s with heap := h', toks := t' } := I.un (Un.kept k) (I.hok.kept k)
theorem Inv.laid {a : Addr} {o : HO} {t' : Nat} (I : Inv X pins σ H s) (k : ∀ b u, s.heap.get? b = some u → h'.get? b = some u) (hp : s.heap.objs.size ≤ a) (new : ObjOk X.prog X.w (upd H a o) h' a o) :
    Inv X pins σ (upd H a o) { s with heap := h', toks := t' } := I.un (Un.laid k hp (I.hok.fresh hp)) (I.hok.laid k hp new)
theorem Inv.write {x e : Addr} {o : HO} {t' : Nat} (I : Inv X pins σ H s) (mu : Mut (H x)) (he : e = x ∨ H e = some (.own x)) (k : ∀ b u, b ≠ e → s.heap.get? b = some u → h'.get? b = some u) (heo : ∃ u, h'.get? e = some u)
    (new : ObjOk X.prog X.w (upd H x o) h' x o) : Inv X pins σ (upd H x o) { s with heap := h', toks := t' } := I.un (Un.write mu he k heo) (I.hok.write mu he k heo new)
theorem Inv.pins_of {pins' : List (Addr × Obj)} (I : Inv X pins σ H s) (h : ∀ p ∈ pins', s.heap.get? p.1 = some p.2 ∧ H p.1 = none ∧ p.1 ≠ X.env.locals ∧ p.1 ∉ X.fs ∧ ∀ v, p.2.data ≠ .cell v) : Inv X pins' σ H s :=
  ⟨I.ok, I.os, I.bare, I.base, I.loc, I.cell, I.free, I.freeC, fun p hp => (List.mem_append.mp hp).elim (fun z => I.pin p (List.mem_append_left _ z)) (h p), I.hok, I.len⟩

theorem nodup_ix {N : List Str} (hN : N.Nodup) {i j : Nat} {x : Str} (a : N[i]? = some x) (b : N[j]? = some x) : i = j := by
  obtain ⟨h1, e1⟩ := List.getElem?_eq_some_iff.mp a
  obtain ⟨h2, e2⟩ := List.getElem?_eq_some_iff.mp b
  exact (List.getElem_inj hN).mp (e1.trans e2.symm)

theorem store_ok2 {M : Model} {A : Around} {E : Value → Shared → Prop} {i : Nat} {x : Str} {v : V} {u : Value} {Q : Unit → Shared → Prop} (I : Inv X pins σ H s) (hN : X.N.Nodup) (hi : X.N[i]? = some x) (hx : Loc X.env.scope x) (r : RelV v u)
    (h : ∀ s', Inv X pins (σ.set i (some v)) H s' → (∃ a, Heap.SameBut a s.heap s'.heap ∧ (a = X.env.locals ∨ X.env.cells.lookup x = some a)) → Q () s') (hf : X.fn x = true ∨ X.env.scope.names.lookup x = some .local := by first | exact .inl rfl | exact .inr rfl | assumption) : wpAny M A (storeName X.env x u) Q E s := by
  obtain ⟨m, hn, hl⟩ := id I.loc
  have hcls : (X.env.scope.kind == .class || (X.env.scope.kind == .module && X.env.locals != X.env.globals)) = false := by rw [I.ok.kind]; rfl
  have hiσ : i < σ.length := by rw [I.len]; exact (List.getElem?_eq_some_iff.mp hi).1
  have cne := I.cne
  have tracked : ∀ {a : Addr} {h' : Heap}, (∃ o, s.heap.get? a = some o ∧ H a = none) → Heap.SameBut a s.heap h' → HOk X.prog X.w H h' := fun {a h'} ha hs b ob e => by
    obtain ⟨_, _, hfree⟩ := ha
    refine (I.hok b ob e).stay (fun c w' hc q => (hs.2 c ?_).trans q) (fun _ q => q) fun _ _ q => q
    rintro rfl
    rcases hc with rfl | hc
    · rw [hfree] at e; cases e
    · rw [hfree] at hc; cases hc
  rcases hx with hk | hk
  · refine wpAny_storeName_local hk hn (fun h' hn' hs => ?_) hcls
    obtain ⟨oL, _, _, hoL, _⟩ := id hn
    refine h _ ⟨I.ok, I.os, I.bare, ⟨fun b o e n hb hx => ?_, fun b o e n hb hx => ?_, I.base.free, fun b o e hx => ?_, I.base.tups, I.base.frzs, I.base.tbls⟩, ⟨_, hn', fun j y v' e1 e2 e3 => ?_⟩, fun y c e => ?_, I.free, I.freeC, fun p hp => ?_, tracked ⟨oL, hoL, I.free⟩ hs, by simpa using I.len⟩ ⟨_, hs, .inl rfl⟩
    · exact (hs.2 b (Nat.ne_of_lt (Nat.lt_of_lt_of_le (Heap.lt_size e) I.ok.above))).trans (I.base.keep b o e n hb hx)
    · obtain ⟨sl, e1⟩ := I.base.slot b o e n hb hx
      exact ⟨sl, (hs.2 b (Nat.ne_of_lt (Nat.lt_of_lt_of_le (Heap.lt_size e) I.ok.above))).trans e1⟩
    · obtain ⟨o', e1⟩ := I.base.there b o e hx
      exact ⟨o', (hs.2 b (Nat.ne_of_lt (Nat.lt_of_lt_of_le (Heap.lt_size e) I.ok.above))).trans e1⟩
    · by_cases hj : j = i
      · subst hj
        rw [hi] at e1; cases e1
        rw [List.getElem?_set_self hiσ] at e2
        cases e2
        exact ⟨u, r, .inl ⟨hk, by simp⟩⟩
      · rw [List.getElem?_set_ne (Ne.symm hj)] at e2
        obtain ⟨u', r', q⟩ := hl j y v' e1 e2 e3
        refine ⟨u', r', ?_⟩
        rcases q with ⟨k, e⟩ | ⟨k, c, e, z⟩
        · refine .inl ⟨k, ?_⟩
          have : y ≠ x := fun e => hj (nodup_ix hN e1 (e ▸ hi))
          simp [this, e]
        · exact .inr ⟨k, c, e, z.sameBut hs (cne y c e)⟩
    · obtain ⟨w', z⟩ := I.cell y c e
      exact ⟨w', z.sameBut hs (cne y c e)⟩
    · obtain ⟨e, n, ne, nf, d⟩ := I.pin p hp
      exact ⟨(hs.2 p.1 ne).trans e, n, ne, nf, d⟩
  · have hfn : X.fn x = true := by
      rcases hf with z | z
      · exact z
      · rw [z] at hk; cases hk
    obtain ⟨c, hc⟩ := I.ok.has x (.inl hk)
    obtain ⟨w', z⟩ := I.cell x c hc
    refine wpAny_storeName_cell I.ok.kind hk hc z (fun h' hc' hs => ?_)
    obtain ⟨oc, hoc, hocd⟩ := id z
    refine h { s with heap := h' } ⟨I.ok, I.os, I.bare, ⟨fun b o e n hb hx => ?_, fun b o e n hb hx => ?_, I.base.free, fun b o e hx => ?_, I.base.tups, I.base.frzs, I.base.tbls⟩, ⟨m, hn.sameBut hs (Ne.symm (cne x c hc)), fun j y v' e1 e2 e3 => ?_⟩, fun y c' e => ?_, I.free, I.freeC, fun p hp => ?_, tracked ⟨oc, hoc, I.freeC x c hc⟩ hs, by simpa using I.len⟩ ⟨c, hs, .inr hc⟩
    · exact (hs.2 b (Nat.ne_of_lt (Nat.lt_of_lt_of_le (Heap.lt_size e) (I.ok.cab x c hfn hc)))).trans (I.base.keep b o e n hb hx)
    · obtain ⟨sl, e1⟩ := I.base.slot b o e n hb hx
      exact ⟨sl, (hs.2 b (Nat.ne_of_lt (Nat.lt_of_lt_of_le (Heap.lt_size e) (I.ok.cab x c hfn hc)))).trans e1⟩
    · obtain ⟨o', e1⟩ := I.base.there b o e hx
      exact ⟨o', (hs.2 b (Nat.ne_of_lt (Nat.lt_of_lt_of_le (Heap.lt_size e) (I.ok.cab x c hfn hc)))).trans e1⟩
    · by_cases hj : j = i
      · subst hj
        rw [hi] at e1; cases e1
        rw [List.getElem?_set_self hiσ] at e2
        cases e2
        exact ⟨u, r, .inr ⟨.inl hk, c, hc, hc'⟩⟩
      · rw [List.getElem?_set_ne (Ne.symm hj)] at e2
        obtain ⟨u', r', q⟩ := hl j y v' e1 e2 e3
        refine ⟨u', r', ?_⟩
        rcases q with q | ⟨k, c', e, z'⟩
        · exact .inl q
        · refine .inr ⟨k, c', e, z'.sameBut hs ?_⟩
          rintro rfl
          exact hj (nodup_ix hN e1 (I.ok.inj _ _ _ e hc ▸ hi))
    · by_cases hcc : c' = c
      · subst hcc; exact ⟨_, hc'⟩
      · obtain ⟨w2, z2⟩ := I.cell y c' e
        exact ⟨w2, z2.sameBut hs hcc⟩
    · obtain ⟨e, n, ne, nf, d⟩ := I.pin p hp
      refine ⟨(hs.2 p.1 ?_).trans e, n, ne, nf, d⟩
      intro q
      rw [q, hoc] at e
      have q' : oc = p.2 := Option.some.inj e
      exact d w' (by rw [← q']; exact hocd)
theorem store_ok {M : Model} {A : Around} {E : Value → Shared → Prop} {i : Nat} {x : Str} {v : V} {u : Value} {Q : Unit → Shared → Prop} (I : Inv X pins σ H s) (hN : X.N.Nodup) (hi : X.N[i]? = some x) (hx : Loc X.env.scope x) (r : RelV v u)
    (h : ∀ s', Inv X pins (σ.set i (some v)) H s' → Q () s') (hf : X.fn x = true ∨ X.env.scope.names.lookup x = some .local := by first | exact .inl rfl | exact .inr rfl | assumption) : wpAny M A (storeName X.env x u) Q E s :=
  store_ok2 I hN hi hx r (fun s' I' _ => h s' I') hf
theorem Inv.call' {s' : Shared} {ch : List Addr} (I : Inv X pins σ H s) (ho : s'.os = s.os) (u : Un (frs X.stack) ch H H' s.heap s'.heap) (hok : HOk X.prog X.w H' s'.heap) (hg : AllBare s'.gens)
    (hch : ∀ b ∈ ch, (b ∈ X.ex ∨ X.s₀.heap.objs.size ≤ b) ∧ b ≠ X.env.locals ∧ (∀ x c, X.env.cells.lookup x = some c → c ≠ b) ∧ ∀ p ∈ X.pn ++ pins, p.1 ≠ b) : Inv X pins σ H' s' := by
  obtain ⟨h', g', d', t', o'⟩ := s'
  have e : o' = s.os := ho
  subst e
  exact I.call (g' := g') (t' := t') (d' := d') u hok hg hch
end

noncomputable abbrev XK := Value → Option Addr → Hp → Prop
noncomputable abbrev St := List (Option V)
noncomputable abbrev VK := V → Hp → Prop
noncomputable abbrev TE := St → Hp → VK → Prop
noncomputable abbrev TT := St → Hp → (Bool → Hp → Prop) → Prop
noncomputable abbrev TA := St → Hp → (List V → Hp → Prop) → Prop
structure Ends where
  nx : St → Hp → Prop
  rt : VK
  bk : St → Hp → Prop := fun _ _ => False
  ct : St → Hp → Prop := fun _ _ => False
noncomputable abbrev TS := Ends → St → Hp → Prop

noncomputable def EP (X : Cx) (pins : List (Addr × Obj)) (σ : St) (Q : VK) (u : Value) (s' : Shared) : Prop := ∃ v H', Inv X pins σ H' s' ∧ RelV v u ∧ Q v H'
noncomputable def TP (X : Cx) (pins : List (Addr × Obj)) (σ : St) (Q : Bool → Hp → Prop) (b : Bool) (s' : Shared) : Prop := ∃ H', Inv X pins σ H' s' ∧ Q b H'
noncomputable def AP (X : Cx) (pins : List (Addr × Obj)) (σ : St) (Q : List V → Hp → Prop) (us : List Value) (s' : Shared) : Prop := ∃ vs H', Inv X pins σ H' s' ∧ Vals vs us ∧ Q vs H'
noncomputable def SP (X : Cx) (pins : List (Addr × Obj)) (D : Ends) (f : Flow) (s' : Shared) : Prop :=
  match f with
  | .next => ∃ σ' H', Inv X pins σ' H' s' ∧ D.nx σ' H'
  | .brk => ∃ σ' H', Inv X pins σ' H' s' ∧ D.bk σ' H'
  | .cont => ∃ σ' H', Inv X pins σ' H' s' ∧ D.ct σ' H'
  | .ret u => ∃ v σ' H', Inv X pins σ' H' s' ∧ RelV v u ∧ D.rt v H'

noncomputable def PE (X : Cx) (e : Expr) (t : TE) : Prop :=
  ∀ (pins : List (Addr × Obj)) (s : Shared) (σ : St) (H : Hp) (Q : VK), Inv X pins σ H s → t σ H Q → wpAny (model X.prog X.w) X.A (eval e X.env) (EP X pins σ Q) X.xe s
noncomputable def PT (X : Cx) (e : Expr) (t : TT) : Prop :=
  ∀ (pins : List (Addr × Obj)) (s : Shared) (σ : St) (H : Hp) (Q : Bool → Hp → Prop), Inv X pins σ H s → t σ H Q → wpAny (model X.prog X.w) X.A (isTrue e X.env (eval e X.env)) (TP X pins σ Q) X.xe s
noncomputable def PA (X : Cx) (es : List Expr) (t : TA) : Prop :=
  ∀ (pos : Pos) (pins : List (Addr × Obj)) (s : Shared) (σ : St) (H : Hp) (Q : List V → Hp → Prop), Inv X pins σ H s → t σ H Q → wpAny (model X.prog X.w) X.A (spliced (backTo pos (starEach es X.env))) (AP X pins σ Q) X.xe s
noncomputable def PS (X : Cx) (st : Stmt) (t : TS) : Prop :=
  ∀ (pins : List (Addr × Obj)) (s : Shared) (σ : St) (H : Hp) (D : Ends), Inv X pins σ H s → t D σ H → wpAny (model X.prog X.w) X.A (exec st X.env) (SP X pins D) X.xe s
noncomputable def PSs (X : Cx) (st : List Stmt) (t : TS) : Prop :=
  ∀ (pins : List (Addr × Obj)) (s : Shared) (σ : St) (H : Hp) (D : Ends), Inv X pins σ H s → t D σ H → wpAny (model X.prog X.w) X.A (execs st X.env) (SP X pins D) X.xe s
theorem thn {α : Type} {t : Sem α} {Q Q' : α → Shared → Prop} {M : Model} {A : Around} {E : Value → Shared → Prop} {s : Shared} (h : wpAny M A t Q E s) (hQ : ∀ a s, Q a s → Q' a s) : wpAny M A t Q' E s := wpAny_mono h hQ fun _ _ x => x
end L2

namespace L2
open PySem PySem.Spec PyProof.Rows
section
variable {X : Cx}


inductive tVar (i : Nat) (σ : St) (H : Hp) (Q : VK) : Prop
  | mk : ∀ v, (σ[i]? = some (some v)) → (Q v H) → tVar i σ H Q
noncomputable def tC (v : V) : TE := fun _ H Q => Q v H
theorem pe_var {i : Nat} {x : Str} {pos : Pos} (hN : X.N[i]? = some x) (hv : Vis X.env.scope x) (hd : (x == ("__debug__" : Str)) = false := by decide) (hcd : (x == ("__classdict__" : Str)) = false := by decide) : PE X (.Name x pos) (tVar i) := by
  intro pins s σ H Q I h
  obtain ⟨v, e, h⟩ := h
  obtain ⟨m, hn, hl⟩ := I.loc
  obtain ⟨u, r, l⟩ := hl i x v hN e hv
  have fin : EP X pins σ Q u s := ⟨v, H, I, r, h⟩
  rcases l with ⟨hk, hm⟩ | ⟨hk, c, hc, hcell⟩
  · exact wpAny_Name (wpAny_loadName_local I.ok.kind hk hn hm fin) hd
  · rcases hk with hk | hk
    · exact wpAny_Name (wpAny_loadName_cell I.ok.kind hk hc hcell fin) hd
    · exact wpAny_Name (wpAny_loadName_free I.ok.kind hk hc hcell fin hcd) hd
theorem pe_int {i j pos} : PE X (.Constant (.int i) j pos) (tC (.int i)) := fun _ _ _ H _ I h => wpAny_Constant_int ⟨.int i, H, I.tok _, ⟨_, rfl⟩, h⟩
theorem pe_bl {b j pos} : PE X (.Constant (.bool b) j pos) (tC (.bl b)) := fun _ _ _ H _ I h => Constant_bool ⟨.bl b, H, I, rfl, h⟩
theorem pe_non {j pos} : PE X (.Constant .none j pos) (tC .non) := fun _ _ _ H _ I h => Constant_none ⟨.non, H, I, rfl, h⟩
theorem pe_str {x j pos} : PE X (.Constant (.str x) j pos) (tC (.str x)) := fun _ _ _ H _ I h => Calls.Constant_str ⟨.str x, H, I.tok _, ⟨_, rfl⟩, h⟩

noncomputable def Gl (X : Cx) (x : Str) : Prop := X.env.kindOf x = some .globalImplicit
theorem ld_glob {E : Value → Shared → Prop} {pins : List (Addr × Obj)} {s : Shared} {σ : St} {H : Hp} {x : Str} {u : Value} {pos : Pos} {Q : Value → Shared → Prop} (I : Inv X pins σ H s) (hg : Gl X x) (hm : X.mg x = some u) (h : Q u s)
    (hd : (x == ("__debug__" : Str)) = false := by decide) : wpAny (model X.prog X.w) X.A (eval (.Name x pos) X.env) Q E s :=
  Calls.Name_function_global I.ok.kind hg (Calls.loadGlobal_global (by rw [I.ok.glob]; exact I.mod.glob.keeps I.bk) hm h) hd
theorem ld_blt {E : Value → Shared → Prop} {pins : List (Addr × Obj)} {s : Shared} {σ : St} {H : Hp} {x : Str} {u : Value} {pos : Pos} {Q : Value → Shared → Prop} (I : Inv X pins σ H s) (hg : Gl X x) (hm : X.mg x = none) (hv : bootBuiltins x = some u) (h : Q u s)
    (hn : x ≠ "__name__" := by decide) (hd : (x == ("__debug__" : Str)) = false := by decide) : wpAny (model X.prog X.w) X.A (eval (.Name x pos) X.env) Q E s := by
  obtain ⟨mb, h1, h2⟩ := I.mod.blt
  exact Calls.Name_function_global I.ok.kind hg (Calls.loadGlobal_builtin (by rw [I.ok.glob]; exact I.mod.glob.keeps I.bk) hm (by rw [I.ok.blt]; exact h1.keeps I.bk) ((h2 x hn).trans hv) h) hd
theorem pe_glob {x : Str} {v : V} {u : Value} {pos : Pos} (hg : Gl X x) (hm : X.mg x = some u) (r : RelV v u) (hd : (x == ("__debug__" : Str)) = false := by decide) : PE X (.Name x pos) (tC v) :=
  fun _ _ _ H _ I h => ld_glob I hg hm ⟨v, H, I, r, h⟩ hd
theorem pe_bltn {x : Str} {v : V} {u : Value} {pos : Pos} (hg : Gl X x) (hm : X.mg x = none) (hv : bootBuiltins x = some u) (r : RelV v u) (hn : x ≠ "__name__" := by decide) (hd : (x == ("__debug__" : Str)) = false := by decide) : PE X (.Name x pos) (tC v) :=
  fun _ _ _ H _ I h => ld_blt I hg hm hv ⟨v, H, I, r, h⟩ hn hd

variable {a b : Expr} {ta tb : TE} {pos : Pos}

inductive IsB (x : V) (H : Hp) (Q : Bool → Hp → Prop) : Prop
  | mk : ∀ c, (x = .bl c) → (Q c H) → IsB x H Q

variable {tA tB' : TT} {rest : List Expr}
noncomputable def tIf_k1 (ta : TE) (tb : TE) (σ : St) (Q : VK) : Bool → Hp → Prop := fun c H1 => if c = true then ta σ H1 Q else tb σ H1 Q
noncomputable def tIf (t : TT) (ta tb : TE) : TE := fun σ H Q => t σ H (tIf_k1 ta tb σ Q)
theorem pe_ifExp {c : Expr} (hc : PT X c tA) (ha : PE X a ta) (hb : PE X b tb) : PE X (.IfExp c a b pos) (tIf tA ta tb) := by
  intro pins s σ H Q I h
  refine wpAny_IfExp (thn (hc pins s σ H _ I h) fun d s1 zq12 => ?_)
  obtain ⟨H1, I1, q1⟩ := zq12
  cases d with
  | true => exact ha pins s1 σ H1 Q I1 q1
  | false => exact hb pins s1 σ H1 Q I1 q1
end
end L2

namespace L2
open PySem PySem.Spec PyProof.Rows

noncomputable def SqL (K : PySem.W.Frag) (H : Hp) (a : Addr) (xs : List V) : Prop :=
  Rd H a (.lst xs) ∨
    ∃ (o : Obj) (its : Array Value) (n : Nat), K.lookup a = some o ∧ o.cls = .type "list" ∧ o.dict = none ∧ o.data = .seq its n ∧ its.size ≤ sizeLine ∧ Vals xs its.toList
noncomputable def SqT (K : PySem.W.Frag) (H : Hp) (a : Addr) (xs : List V) : Prop :=
  Rd H a (.tup xs) ∨
    ∃ (o : Obj) (its : Array Value) (n : Nat), K.lookup a = some o ∧ o.cls = .type "tuple" ∧ o.data = .seq its n ∧ its.size ≤ sizeLine ∧ Vals xs its.toList
section
variable {X : Cx} {pins : List (Addr × Obj)} {σ : St} {H : Hp} {s : Shared} {a : Addr} {xs ys : List V}
theorem SqL.of {K : PySem.W.Frag} (h : H a = some (.lst xs)) : SqL K H a xs := .inl (.inl h)
theorem Inv.list (I : Inv X pins σ H s) (h : SqL X.K H a xs) : ∃ its : List Value, Vals xs its ∧ PlainL s.heap a its.toArray ∧ xs.length ≤ sizeLine := by
  rcases h with h | ⟨o, its, n, hk, hc, hd, hs, hz, r⟩
  · obtain ⟨z, its, n, r, e⟩ := h.ok I.hok
    exact ⟨its, r, ⟨_, n, e, rfl, rfl, rfl⟩, z⟩
  · refine ⟨its.toList, r, ⟨o, n, I.kIn a o hk, hc, hd, by simpa using hs⟩, ?_⟩
    have e := r.length
    simp only [Array.length_toList] at e
    omega
theorem Inv.tuple (I : Inv X pins σ H s) (h : SqT X.K H a xs) : ∃ its : List Value, Vals xs its ∧ IsTup s.heap a its.toArray ∧ xs.length ≤ sizeLine := by
  rcases h with h | ⟨o, its, n, hk, hc, hs, hz, r⟩
  · obtain ⟨z, its, r, p, _⟩ := h.ok I.hok
    exact ⟨its, r, p, z⟩
  · refine ⟨its.toList, r, ⟨o, I.kIn a o hk, hc, n, by simpa using hs⟩, ?_⟩
    have e := r.length
    simp only [Array.length_toList] at e
    omega
end

noncomputable abbrev Cx.wish (X : Cx) (E : Value → Shared → Prop) : Cx := { X with xe := E }
noncomputable abbrev Cx.nox (X : Cx) : Cx := X.wish fun _ _ => False
theorem Cx.Ok.wish {X : Cx} (ok : X.Ok) (E : Value → Shared → Prop) : (X.wish E).Ok :=
  ⟨ok.mod, ok.kind, ok.glob, ok.blt, ok.above, ok.inj, ok.has, ok.cab, ok.hd, ok.frames, ok.stk, ok.exf, ok.bs, ok.bsz, ok.noex, ok.exfs, ok.funs, ok.frf⟩
theorem Cx.Ok.unwish {X : Cx} {E : Value → Shared → Prop} (ok : (X.wish E).Ok) : X.Ok :=
  ⟨ok.mod, ok.kind, ok.glob, ok.blt, ok.above, ok.inj, ok.has, ok.cab, ok.hd, ok.frames, ok.stk, ok.exf, ok.bs, ok.bsz, ok.noex, ok.exfs, ok.funs, ok.frf⟩
section
variable {X : Cx} {pins : List (Addr × Obj)} {σ : St} {H : Hp} {s : Shared} {E : Value → Shared → Prop}
theorem Inv.wish (I : Inv X pins σ H s) (E : Value → Shared → Prop) : Inv (X.wish E) pins σ H s := ⟨I.ok.wish E, I.os, I.bare, I.base, I.loc, I.cell, I.free, I.freeC, I.pin, I.hok, I.len⟩
theorem Inv.unwish (I : Inv (X.wish E) pins σ H s) : Inv X pins σ H s := ⟨I.ok.unwish, I.os, I.bare, I.base, I.loc, I.cell, I.free, I.freeC, I.pin, I.hok, I.len⟩
theorem SP.unwish {D : Ends} {f : Flow} {s' : Shared} (h : SP (X.wish E) pins D f s') : SP X pins D f s' := by
  cases f with
  | next => obtain ⟨σ', H', I, q⟩ := h; exact ⟨σ', H', I.unwish, q⟩
  | brk => obtain ⟨σ', H', I, q⟩ := h; exact ⟨σ', H', I.unwish, q⟩
  | cont => obtain ⟨σ', H', I, q⟩ := h; exact ⟨σ', H', I.unwish, q⟩
  | ret u => obtain ⟨v, σ', H', I, r, q⟩ := h; exact ⟨v, σ', H', I.unwish, r, q⟩
theorem PSs.nox {st : List Stmt} {t : TS} (h : PSs X.nox st t) : PSs X st t := fun pins s σ H D I hw =>
  wpAny_mono (h pins s σ H D (I.wish _) hw) (fun _ _ q => q.unwish) fun _ _ z => False.elim z
end

section
variable {X : Cx} {st : Stmt} {rest : List Stmt} {t u : TS} {e : Expr} {te : TE} {pos : Pos}
noncomputable def tNext : TS := fun D σ H => D.nx σ H
noncomputable def tSeq (t u : TS) : TS := fun D σ H => t { D with nx := u D } σ H
theorem pss_nil : PSs X [] tNext := fun _ _ σ H _ I h => wpAny_execs_nil ⟨σ, H, I, h⟩
theorem pss_cons (h1 : PS X st t) (h2 : PSs X rest u) : PSs X (st :: rest) (tSeq t u) := by
  intro pins s σ H D I h
  refine wpAny_execs_cons (thn (h1 pins s σ H { D with nx := u D } I h) fun f s1 q => ?_)
  cases f with
  | next =>
    obtain ⟨σ', H', I', q⟩ := q
    exact h2 pins s1 σ' H' D I' q
  | ret v => exact q
  | brk => exact q
  | cont => exact q
theorem pss_one (h1 : PS X st t) : PSs X [st] t := by
  intro pins s σ H D I h
  refine wpAny_execs_cons (thn (h1 pins s σ H D I h) fun f s1 q => ?_)
  cases f with
  | next => exact wpAny_execs_nil q
  | ret v => exact q
  | brk => exact q
  | cont => exact q
theorem Inv.quiet {pins : List (Addr × Obj)} {σ : St} {H : Hp} {s : Shared} (I : Inv X pins σ H s) : interactive X.env = false := by simp [interactive, I.ok.kind]
noncomputable def tDrop_k1 (D : Ends) (σ : St) : V → Hp → Prop := fun _ H1 => D.nx σ H1
noncomputable def tDrop (te : TE) : TS := fun D σ H => te σ H (tDrop_k1 D σ)
theorem ps_expr (he : PE X e te) (hs : swapsWith e none pos.line X.env = pure false := by rfl) : PS X (.Expr e pos) (tDrop te) := by
  intro pins s σ H D I h
  exact wpAny_Expr_any (thn (he pins s σ H _ I h) fun v s1 zq15 => (by obtain ⟨x, H1, I1, r1, q1⟩ := zq15; exact ⟨σ, H1, I1, q1⟩)) I.quiet hs
noncomputable def tRet (te : TE) : TS := fun D σ H => te σ H D.rt
theorem ps_ret (he : PE X e te) : PS X (.Return (some e) pos) (tRet te) := by
  intro pins s σ H D I h
  exact wpAny_Return_some (thn (he pins s σ H _ I h) fun v s1 zq16 => (by obtain ⟨x, H1, I1, r1, q1⟩ := zq16; exact ⟨x, σ, H1, I1, r1, q1⟩))
noncomputable def tIfS_k1 (t : TS) (u : TS) (D : Ends) (σ : St) : Bool → Hp → Prop := fun b H1 => if b = true then t D σ H1 else u D σ H1
noncomputable def tIfS (c : TT) (t u : TS) : TS := fun D σ H => c σ H (tIfS_k1 t u D σ)
theorem ps_if {c : Expr} {a b : List Stmt} {tc : TT} (hc : PT X c tc) (ha : PSs X a t) (hb : PSs X b u) : PS X (.If c a b pos) (tIfS tc t u) := by
  intro pins s σ H D I h
  refine wpAny_If (thn (hc pins s σ H _ I h) fun d s1 zq17 => ?_)
  obtain ⟨H1, I1, q1⟩ := zq17
  cases d with
  | true => exact ha pins s1 σ H1 D I1 q1
  | false => exact hb pins s1 σ H1 D I1 q1
end

noncomputable abbrev TG := V → St → Hp → (St → Hp → Prop) → Prop
noncomputable def PG (X : Cx) (target : Expr) (t : TG) : Prop :=
  ∀ (pins : List (Addr × Obj)) (s : Shared) (σ : St) (H : Hp) (v : V) (u : Value) (Q : St → Hp → Prop), Inv X pins σ H s → RelV v u → t v σ H Q →
    wpAny (model X.prog X.w) X.A (assign target X.env u) (fun _ s' => ∃ σ' H', Inv X pins σ' H' s' ∧ Q σ' H') X.xe s
section
variable {X : Cx} {pos : Pos}
noncomputable def gName (i : Nat) : TG := fun v σ H Q => Q (σ.set i (some v)) H
theorem pg_name {i : Nat} {x : Str} (hN : X.N.Nodup) (hi : X.N[i]? = some x) (hx : Loc X.env.scope x) (hf : X.fn x = true ∨ X.env.scope.names.lookup x = some .local := by first | exact .inl rfl | exact .inr rfl | assumption) : PG X (.Name x pos) (gName i) := by
  intro pins s σ H v u Q I r h
  exact wpAny_assign_Name (store_ok I hN hi hx r (fun s' I' => ⟨_, H, I', h⟩) hf)
noncomputable def tAsg_k1 (g : TG) (D : Ends) (σ : St) : V → Hp → Prop := fun x H1 => g x σ H1 D.nx
noncomputable def tAsg (te : TE) (g : TG) : TS := fun D σ H => te σ H (tAsg_k1 g D σ)
theorem ps_set {i : Nat} {x : Str} {e : Expr} {te : TE} {pos' : Pos} (hN : X.N.Nodup) (hi : X.N[i]? = some x) (hx : Loc X.env.scope x) (he : PE X e te) (hs : swapsWith e (some (.Name x pos')) pos.line X.env = pure false := by rfl) (hf : X.fn x = true ∨ X.env.scope.names.lookup x = some .local := by first | exact .inl rfl | exact .inr rfl | assumption) :
    PS X (.Assign [.Name x pos'] e pos) (tAsg te (gName i)) := by
  intro pins s σ H D I h
  refine wpAny_Assign_Name (thn (he pins s σ H _ I h) fun v s1 zq23 => ?_) hs
  obtain ⟨y, H1, I1, r1, q1⟩ := zq23
  exact store_ok I1 hN hi hx r1 (fun s2 I2 => ⟨_, H1, I2, q1⟩) hf
end

section
variable {X : Cx} {pos : Pos}
end

structure It where
  go : Nat → Hp → Prop
  yld : Nat → Hp → V → Hp → Prop
  stop : Nat → Hp → Prop
noncomputable def FpOk (X : Cx) (pins : List (Addr × Obj)) (H : Hp) (b : Addr) : Prop :=
  H b = none ∧ b ≠ X.env.locals ∧ b ∉ X.fs ∧ (b ∈ X.ex ∨ X.s₀.heap.objs.size ≤ b) ∧ (∀ x c, X.env.cells.lookup x = some c → c ≠ b) ∧ ∀ p ∈ X.pn ++ pins, p.1 ≠ b
theorem Inv.fpOk {X : Cx} {pins : List (Addr × Obj)} {σ : St} {H H' : Hp} {s : Shared} {b : Addr} (I : Inv X pins σ H s) (hb : s.heap.objs.size ≤ b) (hn : H' b = none) : FpOk X pins H' b := by
  refine ⟨hn, Nat.ne_of_gt (Nat.lt_of_lt_of_le I.lt hb), I.nofs hb, .inr (Nat.le_trans I.sz hb), fun x c e z => ?_, fun p hp z => ?_⟩
  · obtain ⟨v, q⟩ := I.cell x c e
    exact absurd (Nat.lt_of_lt_of_le q.lt (by rw [z]; exact hb)) (Nat.lt_irrefl _)
  · exact absurd (Nat.lt_of_lt_of_le (Heap.lt_size (I.pin p hp).1) (by rw [z]; exact hb)) (Nat.lt_irrefl _)
structure Turn (P : Program) (w : World) (K : PySem.W.Frag) (tg : Expr) (J : It) (fp : List Addr) (it : Addr) (tn : Nat → Heap → Prop) : Prop where
  mem : it ∈ fp
  obj : ∀ i h, tn i h → ∀ b ∈ fp, ∃ o, h.get? b = some o ∧ ∀ v, o.data ≠ .cell v
  keep : ∀ i h h', tn i h → (∀ b ∈ fp, ∀ o, h.get? b = some o → h'.get? b = some o) → tn i h'
  item : ∀ (X : Cx), X.prog = P → X.w = w → X.K = K → X.calm = true → ∀ (i : Nat) (pins : List (Addr × Obj)) (s : Shared) (σ : St) (H : Hp) (E : Value → Shared → Prop), Inv X pins σ H s → (∀ b ∈ fp, FpOk X pins H b) → tn i s.heap → J.go i H →
    wpAny (model P w) X.A (pyNext (.ref it)) (fun r s1 => ∃ u, r = some u ∧
      wpAny (model P w) X.A (letOwnedTupleGo tg (.ref it) u) (fun _ s2 => ∃ x H', Inv X pins σ H' s2 ∧ RelV x u ∧ J.yld i H x H' ∧ tn (i + 1) s2.heap ∧ ∀ b ∈ fp, H' b = none) E s1) E s
  done : ∀ (X : Cx), X.prog = P → X.w = w → X.K = K → X.calm = true → ∀ (i : Nat) (pins : List (Addr × Obj)) (s : Shared) (σ : St) (H : Hp) (E : Value → Shared → Prop), Inv X pins σ H s → (∀ b ∈ fp, FpOk X pins H b) → tn i s.heap → J.stop i H →
    wpAny (model P w) X.A (pyNext (.ref it)) (fun r s1 => r = none ∧ Inv X pins σ H s1) E s
  self : ∀ (A : Around) (i : Nat) (s : Shared) (Q : Value → Shared → Prop) (E : Value → Shared → Prop), tn i s.heap → Q (.ref it) s → wpAny (model P w) A (pyIter (.ref it)) Q E s
noncomputable abbrev TI := St → Hp → (It → Hp → Prop) → Prop
noncomputable def PIE (X : Cx) (pins : List (Addr × Obj)) (σ : St) (tg : Expr) (R : It → Hp → Prop) (itv : Value) (s2 : Shared) : Prop :=
  ∃ (it : Addr) (fp : List Addr) (tn : Nat → Heap → Prop) (J : It) (H' : Hp), itv = .ref it ∧ Inv X pins σ H' s2 ∧ Turn X.prog X.w X.K tg J fp it tn ∧ tn 0 s2.heap ∧ (∀ b ∈ fp, FpOk X pins H' b) ∧ R J H'
noncomputable def PI (X : Cx) (tg iter : Expr) (wi : TI) : Prop :=
  ∀ (pins : List (Addr × Obj)) (s : Shared) (σ : St) (H : Hp) (R : It → Hp → Prop), Inv X pins σ H s → wi σ H R →
    wpAny (model X.prog X.w) X.A (eval iter X.env) (fun v s1 => wpAny (model X.prog X.w) X.A (pyIter v) (PIE X pins σ tg R) X.xe s1) X.xe s

theorem go_of {M : Model} {A : Around} {E : Value → Shared → Prop} {s : Shared} {tg : Expr} {it : Addr} {u : Value} {o : Obj} {n : String} {vs : Array Value} {Q : Unit → Shared → Prop} (ho : s.heap.get? it = some o) (hc : o.cls = .type n) (hd : o.data = .fields vs)
    (hn : ["enumerate", "zip", "dict_itemiterator", "dict_reverseitemiterator", "odict_iterator", "itertools.zip_longest", "itertools.pairwise"].contains n = false) (hQ : Q () s) : wpAny M A (letOwnedTupleGo tg (.ref it) u) Q E s := by
  unfold letOwnedTupleGo
  cases tg <;> first
    | exact wpAny_pure hQ
    | (cases u <;> first
        | exact wpAny_pure hQ
        | (refine wpAny_bind (wpAny_load ho ?_)
           rw [hc, hd]
           show wpAny M A (if (["enumerate", "zip", "dict_itemiterator", "dict_reverseitemiterator", "odict_iterator", "itertools.zip_longest", "itertools.pairwise"].contains n && vs[0]? == some (rawInt _)) = true then _ else _) Q E s
           rw [if_neg (by intro h; rw [hn, Bool.false_and] at h; cases h)]
           exact wpAny_pure hQ))

noncomputable def Itr (lo : Int) (n : Nat) : It := ⟨fun i _ => i < n, fun i H x H' => H' = H ∧ x = .int (lo + i), fun i _ => n ≤ i⟩
theorem turn_range {P : Program} {w : World} {K : PySem.W.Frag} {tg : Expr} (it : Addr) (lo : Int) (n : Nat) : Turn P w K tg (Itr lo n) [it] it (fun i h => IsRangeIter h it (lo + (i : Nat) * 1) ((n : Int) - (i : Nat)) 1) where
  mem := by simp
  obj := fun i h st b hb => by
    have e : b = it := by simpa using hb
    subst e
    exact ⟨_, st, fun v z => by
      have z' : Data.fields _ = Data.cell v := z
      cases z'⟩
  keep := fun i h h' st k => k it (by simp) _ st
  item := by
    intro X hP hw hK hc i pins s σ H E I hf st hg
    subst hP hw hK
    obtain ⟨f0, f1, f2, f3, f4, f5⟩ := hf it (by simp)
    have W := Walks.range (prog := X.prog) (w := X.w) (I.ok.hd hc) it lo 1 n
    refine W.item i s _ _ hg st fun v h' tk hv st' kk => ?_
    obtain ⟨t, rfl⟩ := hv
    have I1 : Inv X pins σ H { s with heap := h', toks := tk } := I.turned (fun b o hb e => kk b o (by simpa using hb) e) f0 f1 f3 f4 f5
    refine ⟨_, rfl, go_of (s := { s with heap := h', toks := tk }) (n := "range_iterator") st' rfl rfl (by decide) ⟨.int (lo + i), H, I1, ⟨t, ?_⟩, ⟨rfl, rfl⟩, st', fun b hb => (hf b hb).1⟩⟩
    rw [Int.mul_one]
  done := by
    intro X hP hw hK hc i pins s σ H E I hf st hg
    subst hP hw hK
    obtain ⟨f0, f1, f2, f3, f4, f5⟩ := hf it (by simp)
    exact wpAny_pyNext_range_end (I.ok.hd hc) st (by have : n ≤ i := hg; omega) fun h' eb => ⟨rfl, I.turned (t' := s.toks) (fun b o hb e => eb b o hb e) f0 f1 f3 f4 f5⟩
  self := fun _ _ _ _ _ st h => wpAny_pyIter_rangeiter st h
end L2

namespace L2
open PySem PySem.Spec PyProof.Rows
section
variable {X : Cx} {tg : Expr}
theorem range_it {pins : List (Addr × Obj)} {σ : St} {H : Hp} {s : Shared} {R : It → Hp → Prop} {E : Value → Shared → Prop} {lo hi : Int} {t u v : Tok} {tk : Nat} (I : Inv X pins σ H s) (h1 : -(2 ^ 62) ≤ lo) (h2 : lo < 2 ^ 62) (h3 : -(2 ^ 62) ≤ hi) (h4 : hi < 2 ^ 62)
    (q : R (Itr lo (hi - lo).toNat) H) : wpAny (model X.prog X.w) X.A (pyIter (.ref s.heap.objs.size)) (PIE X pins σ tg R) E { s with heap := s.heap.push { cls := .type "range", data := .fields #[.int lo t, .int hi u, .int 1 v] }, toks := tk } := by
  refine wpAny_pyIter_range (IsRange.new ..) (small_one h1 h2 h3 h4) ?_
  have I1 : Inv X pins σ H { s with heap := s.heap.push { cls := .type "range", data := .fields #[.int lo t, .int hi u, .int 1 v] }, toks := tk } := I.kept fun b o e => Heap.get?_push_of_some _ e
  refine ⟨(s.heap.push { cls := .type "range", data := .fields #[.int lo t, .int hi u, .int 1 v] }).objs.size, [(s.heap.push { cls := .type "range", data := .fields #[.int lo t, .int hi u, .int 1 v] }).objs.size], _, _, H, rfl,
    I1.kept (t' := tk) fun b o e => Heap.get?_push_of_some _ e, turn_range _ lo (hi - lo).toNat, ?_, fun b hb => ?_, q⟩
  · have e1 : lo + ((0 : Nat) : Int) * 1 = lo := by simp
    have e2 : (((hi - lo).toNat : Nat) : Int) - ((0 : Nat) : Int) = Builtin.Range.rangeSize lo hi 1 := by rw [rangeSize_one]; split <;> omega
    show IsRangeIter _ _ (lo + ((0 : Nat) : Int) * 1) ((((hi - lo).toNat : Nat) : Int) - ((0 : Nat) : Int)) 1
    rw [e1, e2]
    exact Heap.get?_push_size _ rfl
  · have e : b = (s.heap.push { cls := .type "range", data := .fields #[.int lo t, .int hi u, .int 1 v] }).objs.size := by simpa using hb
    subst e
    exact I1.fpOk (Nat.le_refl _) (I1.hok.fresh (Nat.le_refl _))
noncomputable def iRng1 (ta : TA) : TI := fun σ H R => ta σ H fun vs H1 => ∃ j : Int, vs = [.int j] ∧ -(2 ^ 62) ≤ j ∧ j < 2 ^ 62 ∧ R (Itr 0 j.toNat) H1
theorem pi_range1 {a : Expr} {ta : TA} {p pos : Pos} (hg : Gl X "range") (hm : X.mg "range" = none) (ha : PA X [a] ta) (hs : starEach [a] X.env = [(false, eval a X.env)] := by rfl) : PI X tg (.Call (.Name "range" p) [a] [] pos) (iRng1 ta) := by
  intro pins s σ H R I h
  refine Call_ (ld_blt I hg hm boot_range (PyProof.Rows.callWith_type1 (thn (ha pos pins s σ H _ I h) fun us s1 zq36 => ?_) hs rfl))
  obtain ⟨vs, H1, I1, r1, q1⟩ := zq36
  obtain ⟨j, e, q1, q2, q⟩ := q1
  subst e
  cases r1 with
  | cons r rr =>
    cases rr
    obtain ⟨t, rfl⟩ := r
    exact call_range_1 (range_it I1 (by omega) (by omega) q1 q2 (by simpa using q))

noncomputable def tFor (wi : TI) (g : TG) (tb : TS) : TS := fun D σ H => wi σ H fun J H1 => ∃ W : Nat → Nat → St → Hp → Prop, (∃ m, W 0 m σ H1) ∧ ∀ i m σ H, W i m σ H →
  (J.stop i H ∧ D.nx σ H) ∨ (J.go i H ∧ ∃ N : St → Hp → Prop, (∀ σ' H', N σ' H' → ∃ m', m' < m ∧ W (i + 1) m' σ' H') ∧ ∀ x H', J.yld i H x H' → g x σ H' fun σ2 H2 => tb { D with nx := N, ct := N, bk := D.nx } σ2 H2)
noncomputable def pinsAt (fp : List Addr) (h : Heap) : List (Addr × Obj) := fp.filterMap fun b => (h.get? b).map fun o => (b, o)
theorem mem_pinsAt {fp : List Addr} {h : Heap} {b : Addr} {o : Obj} (hb : b ∈ fp) (e : h.get? b = some o) : (b, o) ∈ pinsAt fp h := List.mem_filterMap.mpr ⟨b, hb, by rw [e]; rfl⟩
theorem of_pinsAt {fp : List Addr} {h : Heap} {p : Addr × Obj} (hp : p ∈ pinsAt fp h) : p.1 ∈ fp ∧ h.get? p.1 = some p.2 := by
  obtain ⟨b, hb, e⟩ := List.mem_filterMap.mp hp
  cases q : h.get? b with
  | none => rw [q] at e; cases e
  | some o =>
    rw [q] at e
    have e' : (b, o) = p := Option.some.inj e
    subst e'
    exact ⟨hb, q⟩
theorem Inv.pinned {pins : List (Addr × Obj)} {σ : St} {H : Hp} {s : Shared} {fp : List Addr} (I : Inv X pins σ H s) (hf : ∀ b ∈ fp, FpOk X pins H b) (ho : ∀ b ∈ fp, ∃ o, s.heap.get? b = some o ∧ ∀ v, o.data ≠ .cell v) : Inv X (pins ++ pinsAt fp s.heap) σ H s :=
  I.pins_of fun p hp => (List.mem_append.mp hp).elim (fun z => I.pin p (List.mem_append_right _ z)) fun z => by
    obtain ⟨hb, e⟩ := of_pinsAt z
    obtain ⟨f0, f1, f2, _⟩ := hf p.1 hb
    obtain ⟨o, e', d⟩ := ho p.1 hb
    rw [e] at e'; cases e'
    exact ⟨e, f0, f1, f2, d⟩
theorem Inv.unpinned {pins pl : List (Addr × Obj)} {σ : St} {H : Hp} {s : Shared} (I : Inv X (pins ++ pl) σ H s) : Inv X pins σ H s := I.pins_of fun p hp => I.pin p (List.mem_append_right _ (List.mem_append_left _ hp))
theorem ps_for {iter : Expr} {body : List Stmt} {wi : TI} {g : TG} {tb : TS} {pos : Pos} (hp : PassesOwn (model X.prog X.w) X.A X.env X.xe) (hc : X.calm = true) (hi : PI X tg iter wi) (hg : PG X tg g) (hb : PSs X body tb)
    (hs : ∀ x, foldedSetIterable iter X.env x = pure x := by intro _; rfl) : PS X (.For tg iter body [] pos) (tFor wi g tb) := by
  intro pins s σ H D I h
  refine wpAny_For (thn (hi pins s σ H _ I h) fun v s1 h1 => thn h1 fun itv s2 h2 => ?_) hs
  obtain ⟨it, fp, tn, J, H2, e, I2, T, st2, f2, W, ⟨m0, w0⟩, turn⟩ := h2
  subst e
  -- what stays true of the iterator's objects through the loop
  have stat : ∀ {H' : Hp}, (∀ b ∈ fp, H' b = none) → ∀ b ∈ fp, FpOk X pins H' b := fun hn b hb => ⟨hn b hb, (f2 b hb).2⟩
  refine codeAny_forLoop_any (fun n s' => ∃ i σ' H', Inv X pins σ' H' s' ∧ tn i s'.heap ∧ (∀ b ∈ fp, H' b = none) ∧ W i n σ' H') ?_ m0 ⟨0, σ, H2, I2, st2, fun b hb => (f2 b hb).1, w0⟩
  rintro n s3 ⟨i, σ3, H3, I3, st3, fr3, w3⟩
  rcases turn i n σ3 H3 w3 with ⟨stop, qn⟩ | ⟨go, N, hN, step⟩
  · refine wpAny_passesOwn hp (thn (T.done X rfl rfl rfl hc i pins s3 σ3 H3 X.xe I3 (stat fr3) st3 stop) fun r s4 zq38 => ?_)
    obtain ⟨hr, I4⟩ := zq38
    subst hr
    exact wpAny_execs_nil ⟨σ3, H3, I4, qn⟩
  · refine wpAny_passesOwn hp (thn (T.item X rfl rfl rfl hc i pins s3 σ3 H3 X.xe I3 (stat fr3) st3 go) fun r s4 zq39 => ?_)
    obtain ⟨u, hr, h4⟩ := zq39
    subst hr
    refine wpAny_passesOwn hp (thn h4 fun _ s5 zq40 => ?_)
    obtain ⟨x, H5, I5, r5, y5, st5, fr5⟩ := zq40
    have I5' := I5.pinned (stat fr5) (T.obj _ _ st5)
    refine wpAny_passesOwn hp (thn (hg _ s5 σ3 H5 x u _ I5' r5 (step x H5 y5)) fun _ s6 zq41 => ?_)
    obtain ⟨σ6, H6, I6, q6⟩ := zq41
    refine wpAny_passesOwn hp (thn (hb _ s6 σ6 H6 _ I6 q6) fun f s7 q7 => ?_)
    have again : ∀ {σ7 : St} {H7 : Hp}, Inv X (pins ++ pinsAt fp s5.heap) σ7 H7 s7 → N σ7 H7 → ∃ m, m < n ∧ ∃ i σ' H', Inv X pins σ' H' s7 ∧ tn i s7.heap ∧ (∀ b ∈ fp, H' b = none) ∧ W i m σ' H' := fun {σ7 H7} I7 n7 => by
      obtain ⟨m', hm, w7⟩ := hN σ7 H7 n7
      refine ⟨m', hm, i + 1, σ7, H7, I7.unpinned, T.keep _ _ _ st5 fun b hb o e => (I7.pin (b, o) (List.mem_append_right _ (List.mem_append_right _ (mem_pinsAt hb e)))).1, fun b hb => ?_, w7⟩
      obtain ⟨o, e, d⟩ := T.obj _ _ st5 b hb
      exact (I7.pin (b, o) (List.mem_append_right _ (List.mem_append_right _ (mem_pinsAt hb e)))).2.1
    cases f with
    | next => obtain ⟨σ7, H7, I7, n7⟩ := q7; exact again I7 n7
    | cont => obtain ⟨σ7, H7, I7, n7⟩ := q7; exact again I7 n7
    | brk => obtain ⟨σ7, H7, I7, q7⟩ := q7; exact ⟨σ7, H7, I7.unpinned, q7⟩
    | ret v => obtain ⟨x7, σ7, H7, I7, r7, q7⟩ := q7; exact ⟨x7, σ7, H7, I7.unpinned, r7, q7⟩
end

theorem for_range {lo : Int} {n : Nat} {g : TG} {tb : TS} {D : Ends} {σ : St} {H : Hp} (Pv : Nat → St → Hp → Prop) (h0 : Pv 0 σ H)
    (hs : ∀ i σ H, i < n → Pv i σ H → g (.int (lo + i)) σ H fun σ2 H2 => tb { D with nx := Pv (i + 1), ct := Pv (i + 1), bk := D.nx } σ2 H2) (hd : ∀ σ H, Pv n σ H → D.nx σ H) :
    ∃ W : Nat → Nat → St → Hp → Prop, (∃ m, W 0 m σ H) ∧ ∀ i m σ H, W i m σ H →
      ((Itr lo n).stop i H ∧ D.nx σ H) ∨ ((Itr lo n).go i H ∧ ∃ N : St → Hp → Prop, (∀ σ' H', N σ' H' → ∃ m', m' < m ∧ W (i + 1) m' σ' H') ∧ ∀ x H', (Itr lo n).yld i H x H' → g x σ H' fun σ2 H2 => tb { D with nx := N, ct := N, bk := D.nx } σ2 H2) := by
  refine ⟨fun i m σ H => m = n - i ∧ i ≤ n ∧ Pv i σ H, ⟨n, by simp, Nat.zero_le _, h0⟩, ?_⟩
  rintro i m σ H ⟨rfl, hi, p⟩
  by_cases hlt : i < n
  · refine .inr ⟨hlt, Pv (i + 1), fun σ' H' p' => ⟨n - (i + 1), by omega, rfl, hlt, p'⟩, fun x H' y => ?_⟩
    obtain ⟨e, y⟩ := y
    subst e y
    exact hs i σ _ hlt p
  · have e : i = n := by omega
    subst e
    exact .inl ⟨Nat.le_refl _, hd σ H p⟩
end L2

namespace L2
open PySem PySem.Spec PyProof.Rows

noncomputable abbrev R2 := V → V → Hp → VK → Prop
noncomputable def OpR (X : Cx) (f : Value → Value → Sem Value) (r : R2) : Prop :=
  ∀ (pins : List (Addr × Obj)) (s : Shared) (σ : St) (H : Hp) (x y : V) (v u : Value) (Q : VK), Inv X pins σ H s → RelV x v → RelV y u → r x y H Q →
    wpAny (model X.prog X.w) X.A (f v u) (EP X pins σ Q) X.xe s
noncomputable def UnR (X : Cx) (f : Value → Sem Value) (r : V → Hp → VK → Prop) : Prop :=
  ∀ (pins : List (Addr × Obj)) (s : Shared) (σ : St) (H : Hp) (x : V) (v : Value) (Q : VK), Inv X pins σ H s → RelV x v → r x H Q →
    wpAny (model X.prog X.w) X.A (f v) (EP X pins σ Q) X.xe s
noncomputable def CallR (X : Cx) (f : Value) (r : List V → Hp → VK → Prop) : Prop :=
  ∀ (pins : List (Addr × Obj)) (s : Shared) (σ : St) (H : Hp) (xs : List V) (us : List Value) (Q : VK), Inv X pins σ H s → Vals xs us → r xs H Q →
    wpAny (model X.prog X.w) X.A (call f us) (EP X pins σ Q) X.xe s

noncomputable def tOp_k1 (r : R2) (Q : VK) (x : V) : V → Hp → Prop := fun y H2 => r x y H2 Q
noncomputable def tOp_k2 (r : R2) (tb : TE) (σ : St) (Q : VK) : V → Hp → Prop := fun x H1 => tb σ H1 (tOp_k1 r Q x)
noncomputable def tOp (r : R2) (ta tb : TE) : TE := fun σ H Q => ta σ H (tOp_k2 r tb σ Q)
noncomputable def tUn_k1 (r : V → Hp → VK → Prop) (Q : VK) : V → Hp → Prop := fun x H1 => r x H1 Q
noncomputable def tUn (r : V → Hp → VK → Prop) (ta : TE) : TE := fun σ H Q => ta σ H (tUn_k1 r Q)
inductive rI (C : Int → Int → Prop) (g : Int → Int → V) (x : V) (y : V) (H : Hp) (Q : VK) : Prop
  | mk : ∀ i j, (x = .int i) → (y = .int j) → (C i j) → (Q (g i j) H) → rI C g x y H Q
inductive rI0 (g : Int → Int → V) (x : V) (y : V) (H : Hp) (Q : VK) : Prop
  | mk : ∀ i j, (x = .int i) → (y = .int j) → (Q (g i j) H) → rI0 g x y H Q
inductive rU (g : Int → V) (x : V) (H : Hp) (Q : VK) : Prop
  | mk : ∀ i, (x = .int i) → (Q (g i) H) → rU g x H Q

section
variable {X : Cx} {a b c : Expr} {ta tb tc : TE} {pos : Pos}

theorem binT (ha : PE X a ta) (hb : PE X b tb) {pins : List (Addr × Obj)} {s : Shared} {σ : St} {H : Hp} {R : V → V → Hp → Prop} (I : Inv X pins σ H s)
    (h : ta σ H fun x H1 => tb σ H1 fun y H2 => R x y H2) {Q : Value → Shared → Prop} {f : Value → Value → Sem Value}
    (hf : ∀ v u s2 x y H2, Inv X pins σ H2 s2 → RelV x v → RelV y u → R x y H2 → wpAny (model X.prog X.w) X.A (f v u) Q X.xe s2) :
    wpAny (model X.prog X.w) X.A (eval a X.env) (fun v s₁ => wpAny (model X.prog X.w) X.A (eval b X.env) (fun u s₂ => wpAny (model X.prog X.w) X.A (f v u) Q X.xe s₂) X.xe s₁) X.xe s := by
  refine thn (ha pins s σ H _ I h) fun v s1 zq42 => ?_
  obtain ⟨x, H1, I1, r1, q1⟩ := zq42
  refine thn (hb pins s1 σ H1 _ I1 q1) fun u s2 zq43 => ?_
  obtain ⟨y, H2, I2, r2, q2⟩ := zq43
  exact hf v u s2 x y H2 I2 r1 r2 q2

theorem pe_op {op : Operator} {r : R2} (ho : OpR X (binaryOp op) r) (ha : PE X a ta) (hb : PE X b tb) : PE X (.BinOp a op b pos) (tOp r ta tb) := by
  intro pins s σ H Q I h
  exact wpAny_BinOp (binT ha hb I h fun v u s2 x y H2 I2 rx ry q => ho pins s2 σ H2 x y v u Q I2 rx ry q)
theorem pe_un {op : UnaryOp} {r : V → Hp → VK → Prop} (ho : UnR X (unaryOp op) r) (ha : PE X a ta) : PE X (.UnaryOp op a pos) (tUn r ta) := by
  intro pins s σ H Q I h
  exact UnaryOp_ (thn (ha pins s σ H _ I h) fun v s1 zq44 => (by obtain ⟨x, H1, I1, r1, q1⟩ := zq44; exact ho pins s1 σ H1 x v Q I1 r1 q1))

theorem opI {f : Value → Value → Sem Value} {C : Int → Int → Prop} {g : Int → Int → Int}
    (rule : ∀ (i j : Int) (t u : Tok) (s : Shared) (Q : Value → Shared → Prop) (E : Value → Shared → Prop), C i j → Q (.int (g i j) s.toks) { s with toks := s.toks + 1 } → wpAny (model X.prog X.w) X.A (f (.int i t) (.int j u)) Q E s) :
    OpR X f (rI C fun i j => .int (g i j)) := by
  intro pins s σ H x y v u Q I rx ry h
  obtain ⟨i, j, rfl, rfl, hc, q⟩ := h
  obtain ⟨t, rfl⟩ := rx
  obtain ⟨t', rfl⟩ := ry
  exact rule i j t t' s _ _ hc ⟨.int (g i j), H, I.tok _, ⟨_, rfl⟩, q⟩
theorem opI0 {f : Value → Value → Sem Value} {g : Int → Int → Int}
    (rule : ∀ (i j : Int) (t u : Tok) (s : Shared) (Q : Value → Shared → Prop) (E : Value → Shared → Prop), Q (.int (g i j) s.toks) { s with toks := s.toks + 1 } → wpAny (model X.prog X.w) X.A (f (.int i t) (.int j u)) Q E s) :
    OpR X f (rI0 fun i j => .int (g i j)) := by
  intro pins s σ H x y v u Q I rx ry h
  obtain ⟨i, j, rfl, rfl, q⟩ := h
  obtain ⟨t, rfl⟩ := rx
  obtain ⟨t', rfl⟩ := ry
  exact rule i j t t' s _ _ ⟨.int (g i j), H, I.tok _, ⟨_, rfl⟩, q⟩
theorem opB0 {f : Value → Value → Sem Value} {g : Int → Int → Bool}
    (rule : ∀ (i j : Int) (t u : Tok) (s : Shared) (Q : Value → Shared → Prop) (E : Value → Shared → Prop), Q (.bool (g i j)) s → wpAny (model X.prog X.w) X.A (f (.int i t) (.int j u)) Q E s) :
    OpR X f (rI0 fun i j => .bl (g i j)) := by
  intro pins s σ H x y v u Q I rx ry h
  obtain ⟨i, j, rfl, rfl, q⟩ := h
  obtain ⟨t, rfl⟩ := rx
  obtain ⟨t', rfl⟩ := ry
  exact rule i j t t' s _ _ ⟨.bl (g i j), H, I, rfl, q⟩

noncomputable def CDiv (i j : Int) : Prop := 0 < j ∧ j < 1073741824
noncomputable def CPow (i j : Int) : Prop := 0 ≤ j ∧ j ≤ 1000000 ∧ i.natAbs < 2 ^ 64
noncomputable def CMul (i j : Int) : Prop := (-(2 ^ 64) < i ∧ i < 2 ^ 64) ∨ (-(2 ^ 64) < j ∧ j < 2 ^ 64)
theorem CMul.ok {i j : Int} (h : CMul i j) : IntMulOk i j := by
  rcases h with ⟨h1, h2⟩ | ⟨h1, h2⟩
  · exact .of_left (intBits_le_64 h1 h2)
  · exact .of_right (intBits_le_64 h1 h2)

theorem op_add : OpR X (binaryOp .Add) (rI0 fun i j => .int (i + j)) := opI0 fun _ _ _ _ _ _ _ q => add_int q
theorem op_mul : OpR X (binaryOp .Mult) (rI CMul fun i j => .int (i * j)) := opI fun _ _ _ _ _ _ _ hc q => mul_int q hc.ok
theorem op_fdiv : OpR X (binaryOp .FloorDiv) (rI CDiv fun i j => .int (i / j)) := opI fun i j _ _ _ _ _ hc q => by
  have h1 : (0 : Int) < j := hc.1
  have h2 : j < 1073741824 := hc.2
  exact floordiv_int (by omega) (by rw [Int.fdiv_eq_ediv_of_nonneg i (by omega)]; exact q) (.inl (PyProof.noPylong_small (by omega)))
theorem op_mod : OpR X (binaryOp .Mod) (rI (fun _ j => 0 < j) fun i j => .int (i % j)) := opI fun i j _ _ _ _ _ hc q => by
  have h1 : (0 : Int) < j := hc
  exact mod_int' (by omega) (by rw [Int.fmod_eq_emod_of_nonneg i (by omega)]; exact q)
theorem op_pow : OpR X (binaryOp .Pow) (rI CPow fun i j => .int (i ^ j.toNat)) := opI fun _ _ _ _ _ _ _ hc q => pow_int_small hc.1 hc.2.1 hc.2.2 q


theorem unI {f : Value → Sem Value} {g : Int → Int}
    (rule : ∀ (i : Int) (t : Tok) (s : Shared) (Q : Value → Shared → Prop) (E : Value → Shared → Prop), Q (.int (g i) s.toks) { s with toks := s.toks + 1 } → wpAny (model X.prog X.w) X.A (f (.int i t)) Q E s) :
    UnR X f (rU fun i => .int (g i)) := by
  intro pins s σ H x v Q I rx h
  obtain ⟨i, rfl, q⟩ := h
  obtain ⟨t, rfl⟩ := rx
  exact rule i t s _ _ ⟨.int (g i), H, I.tok _, ⟨_, rfl⟩, q⟩
theorem un_neg : UnR X (unaryOp .USub) (rU fun i => .int (-i)) := unI fun _ _ _ _ _ q => neg_int q

end

noncomputable def scal : V → V → Bool
  | .non, .non => true | .non, .int _ => true | .int _, .non => true | .non, .bl _ => true | .bl _, .non => true | .non, .str _ => true | .str _, .non => true
  | .int _, .int _ => true | .bl _, .bl _ => true | .str _, .str _ => true | .byt _, .byt _ => true
  | .int _, .str _ => true | .str _, .int _ => true | .bl _, .str _ => true | .str _, .bl _ => true
  | _, _ => false
noncomputable def rEq : R2 := fun x y H Q => scal x y = true ∧ Q (.bl (decide (x = y))) H
noncomputable def rNe : R2 := fun x y H Q => scal x y = true ∧ Q (.bl (!decide (x = y))) H

theorem dec_int {i j : Int} : decide (V.int i = V.int j) = (i == j) := by
  rw [Bool.eq_iff_iff]
  simp
theorem dec_bl {i j : Bool} : decide (V.bl i = V.bl j) = (i == j) := by
  rw [Bool.eq_iff_iff]
  simp
theorem dec_str {i j : Str} : decide (V.str i = V.str j) = (i == j) := by
  rw [Bool.eq_iff_iff]
  simp
theorem dec_byt {i j : Array UInt8} : decide (V.byt i = V.byt j) = (i.toList == j.toList) := by
  rw [Bool.eq_iff_iff]
  cases i
  cases j
  simp

section
variable {X : Cx} {a b c : Expr} {ta tb tc : TE} {pos : Pos}
theorem fin_bl {pins : List (Addr × Obj)} {σ : St} {H : Hp} {s : Shared} {Q : VK} {k k' : Bool} (I : Inv X pins σ H s) (q : Q (.bl k) H) (e : k = k') : EP X pins σ Q (.bool k') s := by
  subst e
  exact ⟨.bl k, H, I, rfl, q⟩
theorem op_eq : OpR X (compareOp .Eq) rEq := by
  intro pins s σ H x y v u Q I rx ry h
  obtain ⟨hs, q⟩ := h
  cases x with
  | non =>
    cases rx
    cases y with
    | non => cases ry; exact PySem.EqNone.eq_none_none (fin_bl I q (by simp))
    | bl j => cases ry; exact PySem.EqNone.eq_none_bool (fin_bl I q (by simp))
    | int j => obtain ⟨t', rfl⟩ := ry; exact PySem.EqNone.eq_none_int (fin_bl I q (by simp))
    | str j => obtain ⟨t', rfl⟩ := ry; exact PySem.EqNone.eq_none_str (fin_bl I q (by simp))
    | _ => exact absurd (show false = true from hs) Bool.false_ne_true
  | bl i =>
    cases rx
    cases y with
    | non => cases ry; exact PySem.EqNone.eq_bool_none (fin_bl I q (by simp))
    | bl j => cases ry; exact eq_bool (fin_bl I q dec_bl)
    | str j => obtain ⟨t', rfl⟩ := ry; exact PySem.EqMixed.eq_bool_str (fin_bl I q (by simp))
    | _ => exact absurd (show false = true from hs) Bool.false_ne_true
  | int i =>
    obtain ⟨t, rfl⟩ := rx
    cases y with
    | non => cases ry; exact PySem.EqNone.eq_int_none (fin_bl I q (by simp))
    | int j => obtain ⟨t', rfl⟩ := ry; exact eq_int (fin_bl I q dec_int)
    | str j => obtain ⟨t', rfl⟩ := ry; exact PySem.EqMixed.eq_int_str (fin_bl I q (by simp))
    | _ => exact absurd (show false = true from hs) Bool.false_ne_true
  | str i =>
    obtain ⟨t, rfl⟩ := rx
    cases y with
    | non => cases ry; exact PySem.EqNone.eq_str_none (fin_bl I q (by simp))
    | bl j => cases ry; exact PySem.EqMixed.eq_str_bool (fin_bl I q (by simp))
    | int j => obtain ⟨t', rfl⟩ := ry; exact PySem.EqMixed.eq_str_int (fin_bl I q (by simp))
    | str j => obtain ⟨t', rfl⟩ := ry; exact eq_str (fin_bl I q dec_str)
    | _ => exact absurd (show false = true from hs) Bool.false_ne_true
  | byt i =>
    obtain ⟨t, rfl⟩ := rx
    cases y with
    | byt j => obtain ⟨t', rfl⟩ := ry; exact PySem.W.eq_bytes (fin_bl I q dec_byt)
    | _ => exact absurd (show false = true from hs) Bool.false_ne_true
  | _ => cases y <;> exact absurd (show false = true from hs) Bool.false_ne_true
theorem op_ne : OpR X (compareOp .NotEq) rNe := by
  intro pins s σ H x y v u Q I rx ry h
  obtain ⟨hs, q⟩ := h
  cases x with
  | non =>
    cases rx
    cases y with
    | non => cases ry; exact PySem.EqNone.ne_none_none (fin_bl I q (by simp))
    | bl j => cases ry; exact PySem.EqNone.ne_none_bool (fin_bl I q (by simp))
    | int j => obtain ⟨t', rfl⟩ := ry; exact PySem.EqNone.ne_none_int (fin_bl I q (by simp))
    | str j => obtain ⟨t', rfl⟩ := ry; exact PySem.EqNone.ne_none_str (fin_bl I q (by simp))
    | _ => exact absurd (show false = true from hs) Bool.false_ne_true
  | bl i =>
    cases rx
    cases y with
    | non => cases ry; exact PySem.EqNone.ne_bool_none (fin_bl I q (by simp))
    | bl j => cases ry; exact ne_bool (fin_bl I q (congrArg not dec_bl))
    | str j => obtain ⟨t', rfl⟩ := ry; exact PySem.EqMixed.ne_bool_str (fin_bl I q (by simp))
    | _ => exact absurd (show false = true from hs) Bool.false_ne_true
  | int i =>
    obtain ⟨t, rfl⟩ := rx
    cases y with
    | non => cases ry; exact PySem.EqNone.ne_int_none (fin_bl I q (by simp))
    | int j => obtain ⟨t', rfl⟩ := ry; exact ne_int (fin_bl I q (congrArg not dec_int))
    | str j => obtain ⟨t', rfl⟩ := ry; exact PySem.EqMixed.ne_int_str (fin_bl I q (by simp))
    | _ => exact absurd (show false = true from hs) Bool.false_ne_true
  | str i =>
    obtain ⟨t, rfl⟩ := rx
    cases y with
    | non => cases ry; exact PySem.EqNone.ne_str_none (fin_bl I q (by simp))
    | bl j => cases ry; exact PySem.EqMixed.ne_str_bool (fin_bl I q (by simp))
    | int j => obtain ⟨t', rfl⟩ := ry; exact PySem.EqMixed.ne_str_int (fin_bl I q (by simp))
    | str j => obtain ⟨t', rfl⟩ := ry; exact ne_str (fin_bl I q (congrArg not dec_str))
    | _ => exact absurd (show false = true from hs) Bool.false_ne_true
  | byt i =>
    obtain ⟨t, rfl⟩ := rx
    cases y with
    | byt j => obtain ⟨t', rfl⟩ := ry; exact PySem.W.ne_bytes (fin_bl I q (congrArg not dec_byt))
    | _ => exact absurd (show false = true from hs) Bool.false_ne_true
  | _ => cases y <;> exact absurd (show false = true from hs) Bool.false_ne_true

theorem op_lt : OpR X (compareOp .Lt) (rI0 fun i j => .bl (decide (i < j))) := opB0 fun _ _ _ _ _ _ _ q => lt_int q




theorem nomark (b : Expr) {op : CmpOp} (h : op ≠ .In := by decide) (h2 : op ≠ .NotIn := by decide) : behindInMarks op b = false := by
  have e1 : (op == CmpOp.In) = false := by cases op <;> first | rfl | exact absurd rfl h
  have e2 : (op == CmpOp.NotIn) = false := by cases op <;> first | rfl | exact absurd rfl h2
  cases b <;> simp [behindInMarks, e1, e2]
theorem pe_cmpR {op : CmpOp} {r : R2} (ho : OpR X (compareOp op) r) (ha : PE X a ta) (hb : PE X b tb) (hm : behindInMarks op b = false) : PE X (.Compare a [op] [b] pos) (tOp r ta tb) := by
  intro pins s σ H Q I h
  exact wpAny_Compare1 (binT ha hb I h fun v u s2 x y H2 I2 rx ry q => ho pins s2 σ H2 x y v u Q I2 rx ry q) hm
noncomputable def tTest_k1 (Q : (Bool → Hp → Prop)) : V → Hp → Prop := fun x H' => IsB x H' Q
noncomputable def tTest (t : TE) : TT := fun σ H Q => t σ H (tTest_k1 Q)
theorem pt_cmpR {op : CmpOp} {r : R2} (ho : OpR X (compareOp op) r) (ha : PE X a ta) (hb : PE X b tb) (hm : behindInMarks op b = false) : PT X (.Compare a [op] [b] pos) (tTest (tOp r ta tb)) := by
  intro pins s σ H Q I h
  refine wpAny_isTrue_Compare1 (thn (ha pins s σ H _ I h) fun v s1 ⟨x, H1, I1, r1, q1⟩ => thn (hb pins s1 σ H1 _ I1 q1) fun u s2 ⟨y, H2, I2, r2, q2⟩ =>
    thn (ho pins s2 σ H2 x y v u _ I2 r1 r2 q2) fun c s3 ⟨z, H3, I3, r3, k, e, q3⟩ => ?_) hm
  subst e
  cases r3
  exact wpAny_truthy_bool ⟨H3, I3, q3⟩

theorem line63 : (sizeLine : Nat) < 2 ^ 63 := by rw [sizeLine_eq]; decide



theorem vals1 {x : V} {us : List Value} (r : Vals [x] us) : ∃ u, us = [u] ∧ RelV x u := by
  cases r with
  | cons r1 r2 => cases r2; exact ⟨_, rfl, r1⟩
theorem vals2 {x y : V} {us : List Value} (r : Vals [x, y] us) : ∃ u w', us = [u, w'] ∧ RelV x u ∧ RelV y w' := by
  cases r with
  | cons r1 r2 =>
    cases r2 with
    | cons r3 r4 => cases r4; exact ⟨_, _, rfl, r1, r3⟩
theorem call_int1 : CallR X (.type "int") (fun xs H Q => (∃ i, xs = [.int i] ∧ Q (.int i) H) ∨ ∃ k, xs = [.bl k] ∧ Q (.int (if k then 1 else 0)) H) := by
  intro pins s σ H xs us Q I r h
  rcases h with ⟨i, rfl, q⟩ | ⟨k, rfl, q⟩
  · obtain ⟨u, rfl, t, rfl⟩ := vals1 r
    exact call_int_int ⟨.int i, H, I, ⟨_, rfl⟩, q⟩
  · obtain ⟨u, rfl, r1⟩ := vals1 r
    cases r1
    exact call_int_bool ⟨.int (if k then 1 else 0), H, I.tok _, ⟨_, rfl⟩, q⟩
end
end L2

namespace L2
open PySem PySem.Spec PyProof.Rows


theorem lookIn_ns {h : Heap} {dx : Addr} {mA : Str → Option Value} (n : h.Ns1 dx mA) : ∃ od, h.get? dx = some od ∧ ∀ name, PySem.W.lookIn name od = some (mA name) := by
  obtain ⟨o, es, ep, ho, hd, hk, _, hm⟩ := n
  refine ⟨o, ho, fun name => ?_⟩
  have e := hm name
  unfold nsFind findBy at e
  rw [← Array.find?_toList] at e
  unfold PySem.W.lookIn
  rw [hd]
  dsimp only
  split
  · rename_i y q
    rw [q] at e
    exact congrArg some e
  · rename_i q
    rw [q] at e
    have a : es.toList.any (·.refKey) = false := by
      rw [List.any_eq_false]
      intro y hy
      obtain ⟨z, t, hkey⟩ := hk y (Array.mem_toList_iff.mp hy)
      simp [DictEntry.refKey, hkey]
    have a' : ¬ es.toList.any (·.refKey) = true := by rw [a]; exact Bool.false_ne_true
    rw [if_neg a']
    exact congrArg some e


section
variable {prog : Program} {w : World} {A : Around} {E : Value → Shared → Prop} {s : Shared} {K : PySem.W.Frag} {x dx C f : Addr} {mA : Str → Option Value} {name : Str} {v : Value}





end

noncomputable def putF (f : Str) (v : V) : List (Str × V) → List (Str × V)
  | [] => [(f, v)]
  | (g, x) :: r => if g = f then (g, v) :: r else (g, x) :: putF f v r
theorem lookup_putF (f g : Str) (v : V) : ∀ fs : List (Str × V), (putF f v fs).lookup g = if g = f then some v else fs.lookup g
  | [] => by
    show List.lookup g [(f, v)] = _
    by_cases h : g = f
    · have hb : (g == f) = true := beq_iff_eq.mpr h
      simp only [List.lookup, hb, if_pos h]
    · have hb : (g == f) = false := beq_eq_false_iff_ne.mpr h
      simp only [List.lookup, hb, if_neg h]
  | (k, x) :: r => by
    have ih := lookup_putF f g v r
    rw [show putF f v ((k, x) :: r) = (if k = f then (k, v) :: r else (k, x) :: putF f v r) from rfl]
    by_cases hk : k = f
    · rw [if_pos hk]
      by_cases h : g = k
      · have hb : (g == k) = true := beq_iff_eq.mpr h
        simp only [List.lookup, hb, if_pos (h.trans hk)]
      · have hb : (g == k) = false := beq_eq_false_iff_ne.mpr h
        simp only [List.lookup, hb, if_neg (fun e : g = f => h (e.trans hk.symm))]
    · rw [if_neg hk]
      by_cases h : g = k
      · have hb : (g == k) = true := beq_iff_eq.mpr h
        simp only [List.lookup, hb, if_neg (fun e : g = f => hk (h.symm.trans e))]
      · have hb : (g == k) = false := beq_eq_false_iff_ne.mpr h
        simp only [List.lookup, hb]
        exact ih
theorem keys_putF (f : Str) (v : V) : ∀ fs : List (Str × V), f ∈ (putF f v fs).map (·.1) ∧ ∀ g, g ∈ fs.map (·.1) → g ∈ (putF f v fs).map (·.1)
  | [] => ⟨by simp [putF], fun g h => by simp at h⟩
  | (k, x) :: r => by
    obtain ⟨i1, i2⟩ := keys_putF f v r
    rw [show putF f v ((k, x) :: r) = (if k = f then (k, v) :: r else (k, x) :: putF f v r) from rfl]
    by_cases hk : k = f
    · rw [if_pos hk]
      subst hk
      exact ⟨by simp, fun g h => by simpa using h⟩
    · rw [if_neg hk]
      refine ⟨?_, fun g h => ?_⟩
      · rw [List.map_cons]
        exact List.mem_cons_of_mem _ i1
      · rw [List.map_cons] at h ⊢
        rcases List.mem_cons.mp h with e | e
        · exact List.mem_cons.mpr (.inl e)
        · exact List.mem_cons_of_mem _ (i2 g e)

theorem RelO.some_of {v : V} {o : Option Value} (r : RelO (some v) o) : ∃ u, o = some u ∧ RelV v u := by
  cases o with
  | none => exact (show False from r).elim
  | some u => exact ⟨u, rfl, r⟩
theorem handed_of {v : V} {u : Value} (r : RelV v u) : PySem.W.handedIn u = true := by
  cases v with
  | non => cases (show u = Value.none from r); rfl
  | bl b => cases (show u = Value.bool b from r); rfl
  | int i => obtain ⟨t, e⟩ := (show ∃ t, u = Value.int i t from r); cases e; rfl
  | str x => obtain ⟨t, e⟩ := (show ∃ t, u = Value.str x t from r); cases e; rfl
  | byt b => obtain ⟨t, e⟩ := (show ∃ t, u = Value.bytes b t from r); cases e; rfl
  | flt b => obtain ⟨t, e⟩ := (show ∃ t, u = Value.float b t from r); cases e; rfl
  | ref a => cases (show u = Value.ref a from r); rfl
  | ty n => cases (show u = Value.type n from r); rfl

section
variable {P : Program} {w : World} {H H' : Hp} {h h' : Heap} {a C dx : Addr} {fs fs' : List (Str × V)}
end


section
variable {X : Cx} {pins : List (Addr × Obj)} {σ : St} {H : Hp} {s : Shared} {a C dx : Addr} {fs : List (Str × V)} {f : Str} {v : V} {A : Around} {E : Value → Shared → Prop}






theorem attr_of {prog : Program} {w : World} {env : Env} {e : Expr} {f : Str} {pos : Pos} {s : Shared} {Q : Value → Shared → Prop} (hb : attributeBase e f env (eval e env) = eval e env)
    (h : wpAny (model prog w) A (eval e env) (fun o s₁ => wpAny (model prog w) A (getAttr o f true) Q E s₁) E s) : wpAny (model prog w) A (eval (.Attribute e f pos) env) Q E s :=
  Attribute_any_ h (by rw [arm_eval_Attribute, hb])
end


section
variable {X : Cx} {o e value : Expr} {f : Str} {pos pos' tpos : Pos} {ta tv : TE}

end

section
variable {X : Cx} {pins : List (Addr × Obj)} {σ : St} {H : Hp} {s : Shared} {A : Around} {E : Value → Shared → Prop} {Q : Value → Shared → Prop} {c : Value} {b : Bool}
end
end L2

namespace L2
open PySem PySem.Spec PyProof.Rows

structure Room (k : Nat) (A : Around) : Prop where
  hd : A.handled = none
  dp : A.depth + 3 * k + 5 < recursionLimit
  un : A.units + 16 * k + 200 < cLine
  gd : A.guards = some []
theorem Room.mono {j k : Nat} {A : Around} (r : Room k A) (h : j ≤ k) : Room j A := ⟨r.hd, by have := r.dp; omega, by have := r.un; omega, r.gd⟩
theorem Room.deeper {k : Nat} {A : Around} (r : Room (k + 1) A) (env : Env) : Room k (A.deeper env) :=
  ⟨r.hd, by have := r.dp; show A.depth + 1 + 3 * k + 5 < _; omega, by have := r.un; show A.units + 3 + 16 * k + 200 < _; omega, r.gd⟩
theorem make_depth {A : Around} {C : Addr} {us : List Value} {kw : List (Str × Value)} : (A.under (.builtin "type.__call__" ⟨.ref C :: us, kw⟩)).depth = A.depth + 1 := by
  first | rfl | simp [Around.under, Code.weight, Code.isCreation, Code.isGuard, Code.isCaller, Code.frames, Code.isFrame, guardIds]
theorem make_units {A : Around} {C : Addr} {us : List Value} {kw : List (Str × Value)} : (A.under (.builtin "type.__call__" ⟨.ref C :: us, kw⟩)).units = A.units + 1 := by
  first | rfl | simp [Around.under, Code.cUnits, Code.frames, Code.isFrame]
theorem Room.make {k : Nat} {A : Around} (r : Room (k + 1) A) (C : Addr) (us : List Value) (kw : List (Str × Value)) : Room k (A.under (.builtin "type.__call__" ⟨.ref C :: us, kw⟩)) :=
  ⟨r.hd, by have := r.dp; rw [make_depth]; omega, by have := r.un; rw [make_units]; omega, by have g := r.gd; simpa [Around.under, Code.guards, pushGuards, Code.isGuard, guardIds] using g⟩
theorem Room.depth {k : Nat} {A : Around} (r : Room k A) : A.depth < recursionLimit := by have := r.dp; omega
theorem Room.units {k : Nat} {A : Around} (r : Room k A) : A.units + 64 < cLine := by have := r.un; omega

noncomputable def tNil : TA := fun _ H Q => Q [] H
noncomputable def tCons_k1 (Q : (List V → Hp → Prop)) (x : V) : List V → Hp → Prop := fun xs H2 => Q (x :: xs) H2
noncomputable def tCons_k2 (tr : TA) (σ : St) (Q : (List V → Hp → Prop)) : V → Hp → Prop := fun x H1 => tr σ H1 (tCons_k1 Q x)
noncomputable def tCons (ta : TE) (tr : TA) : TA := fun σ H Q => ta σ H (tCons_k2 tr σ Q)
section
variable {X : Cx} {e : Expr} {es : List Expr} {te : TE} {t : TA} {pos : Pos}
theorem pa_nil : PA X [] tNil := fun _ _ _ _ H Q I h => Calls.spliced_nil ⟨[], H, I, .nil, h⟩
theorem pa_cons (ha : PE X e te) (hr : PA X es t) (hs : starEach (e :: es) X.env = (false, eval e X.env) :: starEach es X.env := by rfl) : PA X (e :: es) (tCons te t) := by
  intro pos pins s σ H Q I h
  rw [hs]
  show wpAny _ _ (spliced ((false, eval e X.env) :: backTo pos (starEach es X.env))) _ _ s
  refine Calls.spliced_cons (thn (ha pins s σ H _ I h) fun u s1 zq54 => ?_)
  obtain ⟨x, H1, I1, r1, q1⟩ := zq54
  exact thn (hr pos pins s1 σ H1 _ I1 q1) fun us s2 zq55 => (by obtain ⟨xs, H2, I2, r2, q2⟩ := zq55; exact ⟨x :: xs, H2, I2, .cons r1 r2, q2⟩)

noncomputable def tLst_k1 (Q : VK) : List V → Hp → Prop := fun xs H1 => xs.length ≤ sizeLine ∧ ∀ p, H1 p = none → Q (.ref p) (upd H1 p (.lst xs))
noncomputable def tLst (t : TA) : TE := fun σ H Q => t σ H (tLst_k1 Q)
theorem pe_lst (h : PA X es t) : PE X (.List es pos) (tLst t) := by
  intro pins s σ H Q I hq
  refine wpAny_List_spliced (thn (h pos pins s σ H _ I hq) fun us s1 ⟨xs, H1, I1, r, z, q⟩ => ⟨by rw [← r.length]; exact z, ?_⟩)
  have hf : H1 s1.heap.objs.size = none := I1.hok.fresh (Nat.le_refl _)
  refine ⟨.ref s1.heap.objs.size, upd H1 s1.heap.objs.size (.lst xs), I1.laid (t' := s1.toks) (fun b u e => Heap.get?_push_of_some _ e) (Nat.le_refl _) ?_, rfl, q _ hf⟩
  exact ⟨z, us, 0, r, Heap.get?_push_size _ rfl⟩
end

noncomputable abbrev Sp := List V → Hp → VK → XK → Prop
noncomputable abbrev CXT := List Env → Hp → Shared → XK → Value → Shared → Prop

structure Env0 (P : Program) (w : World) (K : PySem.W.Frag) (mg : Str → Option Value) (base : Heap) (A : Around) (outer : List Env) (s : Shared) (H : Hp) : Prop where
  frames : A.frames = some outer
  mod : Mod K mg base
  bs : ∀ b o, base.get? b = some o → s.heap.get? b = some o ∧ H b = none
  bsz : base.objs.size ≤ s.heap.objs.size
  funs : s.heap.FunFrames base outer
  frf : ∀ b ∈ frs outer, H b = none
  hok : HOk P w H s.heap
  bare : AllBare s.gens
noncomputable def CE (outer : List Env) (P : Program) (w : World) (H : Hp) (s : Shared) (Q : VK) (u : Value) (s' : Shared) : Prop :=
  ∃ v H', s'.os = s.os ∧ AllBare s'.gens ∧ Un (frs outer) [] H H' s.heap s'.heap ∧ HOk P w H' s'.heap ∧ RelV v u ∧ Q v H'
noncomputable def CR (CX : CXT) (outer : List Env) (P : Program) (w : World) (H : Hp) (s : Shared) (Q : VK) (E : XK) (r : Result) (s' : Shared) : Prop :=
  match r with
  | .ok (.ret u) => CE outer P w H s Q u s'
  | .ok _ => False
  | .error e => CX outer H s E e s'
structure FnOk (P : Program) (w : World) (K : PySem.W.Frag) (mg : Str → Option Value) (base : Heap) (CX : CXT) (k : Nat) (f : Addr) (fd : FuncData) (ps : List Str) (sp : Sp) : Prop where
  len : ∀ vs H Q E, sp vs H Q E → vs.length = ps.length
  run : ∀ (A : Around) (outer : List Env) (s : Shared) (H : Hp) (args : Args) (us : List Value) (vs : List V) (Q : VK) (E : XK), Room k A → Env0 P w K mg base A outer s H → BindsTo s fd args (ps.zip us) → Vals vs us → sp vs H Q E →
    codeAny (model P w) A (.call (.ref f) args) (CR CX outer P w H s Q E) s
theorem FnOk.mono {P : Program} {w : World} {K : PySem.W.Frag} {mg : Str → Option Value} {base : Heap} {CX : CXT} {j k : Nat} {f : Addr} {fd : FuncData} {ps : List Str} {sp : Sp} (F : FnOk P w K mg base CX j f fd ps sp) (h : j ≤ k) :
    FnOk P w K mg base CX k f fd ps sp := ⟨F.len, fun A outer s H args us vs Q E hr => F.run A outer s H args us vs Q E (hr.mono h)⟩

theorem Env0.make {P : Program} {w : World} {K : PySem.W.Frag} {mg : Str → Option Value} {base : Heap} {A : Around} {outer : List Env} {s : Shared} {H : Hp} (e : Env0 P w K mg base A outer s H) (C : Addr) (us : List Value) (kw : List (Str × Value)) :
    Env0 P w K mg base (A.under (.builtin "type.__call__" ⟨.ref C :: us, kw⟩)) outer s H := ⟨by first | exact e.frames | (simpa [Around.under, Code.envs, Code.isFrame, pushEnvs] using e.frames), e.mod, e.bs, e.bsz, e.funs, e.frf, e.hok, e.bare⟩

section
variable {X : Cx} {pins : List (Addr × Obj)} {σ : St} {H : Hp} {s s' : Shared}
theorem Inv.env0 (I : Inv X pins σ H s) : Env0 X.prog X.w X.K X.mg X.base X.A X.stack s H :=
  ⟨I.ok.frames, I.ok.mod, I.bs, Nat.le_trans I.ok.bsz I.sz, I.stack, I.stkFree, I.hok, I.bare⟩
theorem Inv.after {Q : VK} {u : Value} (I : Inv X pins σ H s) (h : CE X.stack X.prog X.w H s Q u s') : EP X pins σ Q u s' := by
  obtain ⟨v, H', os, bare, un, hok, r, q⟩ := h
  obtain ⟨hh, g, d, t, os'⟩ := s'
  obtain rfl : os' = s.os := os
  exact ⟨v, H', I.call (h' := hh) (g' := g) (d' := d) (t' := t) (ch := []) un hok bare (fun b z => absurd z (by simp)), r, q⟩
end

noncomputable def tCall_k1 (sp : Sp) (dvs : List V) (E : XK) (Q : VK) : List V → Hp → Prop := fun vs H1 => sp (vs ++ dvs) H1 Q E
noncomputable def tCall (sp : Sp) (dvs : List V) (E : XK) (t : TA) : TE := fun σ H Q => t σ H (tCall_k1 sp dvs E Q)

noncomputable def Binds (K : PySem.W.Frag) (fd : FuncData) (ps : List Str) (ds : List Value) : Prop :=
  ∀ (s : Shared) (us : List Value), K.In s.heap → (us ++ ds).length = ps.length → BindsTo s fd ⟨us, []⟩ (ps.zip (us ++ ds))
theorem Binds.all {K : PySem.W.Frag} {fd : FuncData} {ps : List Str} (h : ∀ us : List Value, us.length = ps.length → bindArgs fd ⟨us, []⟩ = pure (ps.zip us)) : Binds K fd ps [] := fun s us _ hl => by
  rw [List.append_nil] at hl ⊢
  exact .of_eq (h us hl)

noncomputable def Passes (CX : CXT) (X : Cx) (E : XK) : Prop := ∀ (pins : List (Addr × Obj)) (σ : St) (H : Hp) (s : Shared) (e : Value) (s' : Shared), Inv X pins σ H s → CX X.stack H s E e s' → X.xe e s'

section
variable {X : Cx} {CX : CXT} {k : Nat} {f C : Addr} {fd : FuncData} {ps : List Str} {sp : Sp} {dvs : List V} {ds : List Value} {E : XK} {x m : Str} {p pos apos : Pos} {e o : Expr} {es : List Expr} {ta : TE} {t : TA}

theorem run_fn {pins : List (Addr × Obj)} {σ : St} {H : Hp} {s : Shared} {Q : VK} {us : List Value} {vs : List V} (F : FnOk X.prog X.w X.K X.mg X.base CX k f fd ps sp) (hr : Room k X.A) (hb : Binds X.K fd ps ds) (hd : Vals dvs ds) (hx : Passes CX X E)
    (I : Inv X pins σ H s) (r : Vals vs us) (h : sp (vs ++ dvs) H Q E) : wpAny (model X.prog X.w) X.A (call (.ref f) us) (EP X pins σ Q) X.xe s := by
  have r2 : Vals (vs ++ dvs) (us ++ ds) := r.append hd
  have hl : (us ++ ds).length = ps.length := by rw [← r2.length]; exact F.len _ _ _ _ h
  refine wpAny_call (codeAny_mono (F.run X.A X.stack s H ⟨us, []⟩ (us ++ ds) (vs ++ dvs) Q E hr I.env0 (hb s us I.kIn hl) r2 h) fun r s' hq => ?_)
  cases r with
  | error e => exact hx pins σ H s e s' I hq
  | ok fl =>
    cases fl with
    | ret u => exact I.after hq
    | next => exact False.elim hq
    | brk => exact False.elim hq
    | cont => exact False.elim hq

theorem pe_call (F : FnOk X.prog X.w X.K X.mg X.base CX k f fd ps sp) (hr : Room k X.A) (hg : Gl X x) (hm : X.mg x = some (.ref f)) (hk : PySem.W.keepIn X.K (.ref f) = true) (hb : Binds X.K fd ps ds) (hd : Vals dvs ds) (hx : Passes CX X E)
    (ha : PA X (e :: es) t) (hdb : (x == ("__debug__" : Str)) = false := by decide) (he : starEach (e :: es) X.env = (false, eval e X.env) :: starEach es X.env := by rfl) (hpl : (backTo pos (starEach es X.env)).any (·.1) = false := by rfl) :
    PE X (.Call (.Name x p) (e :: es) [] pos) (tCall sp dvs E t) := by
  intro pins s σ H Q I h
  refine wpAny_Call_Name_kw (ld_glob I hg hm ?_ hdb)
  refine PySem.W.callWith_K (h₀ := X.base) I.ok.mod.kin hk (thn (ha pos pins s σ H _ I h) fun us s1 ⟨vs, H1, I1, r, q⟩ => ⟨I1.kIn, ?_⟩) he hpl
  exact run_fn F hr hb hd hx I1 r q



end

section
variable {X : Cx} {CX : CXT} {k : Nat} {f C : Addr} {fd : FuncData} {ps ks : List Str} {sp : Sp} {E : XK} {x m : Str} {p pos apos kpos : Pos} {e o : Expr} {es : List Expr} {kws : List Keyword} {te ta : TE} {t tk : TA} {nm : Option Str}

variable {g : List Value → List Value → List Value} {gV : List V → List V → List V}
end

structure FnScope (N P : List Str) (sc : Scope) : Prop where
  kind : sc.kind = .function
  co : sc.isCoroutine = false
  gen : sc.isGenerator = false
  nd : N.Nodup
  pre : N.take P.length = P
  par : ∀ x ∈ P, sc.names.lookup x = some .local ∨ sc.names.lookup x = some .cell
  nofree : ∀ y ∈ sc.names, y.2 ≠ .free

theorem bindL_out {kindOf : Str → Option NameKind} {x : Str} : ∀ {binds : List (Str × Value)} {m : Str → Option Value}, (∀ v, (x, v) ∉ binds) → bindL kindOf binds m x = m x
  | [], _, _ => rfl
  | (n, v) :: r, m, h => by
    unfold bindL
    rw [bindL_out fun w hw => h w (List.mem_cons_of_mem _ hw)]
    split
    · have : x ≠ n := by rintro rfl; exact h v List.mem_cons_self
      simp [this]
    · rfl
theorem bindC_out {kindOf : Str → Option NameKind} {x : Str} : ∀ {binds : List (Str × Value)} {m : Str → Option Value}, (∀ v, (x, v) ∉ binds) → bindC kindOf binds m x = m x
  | [], _, _ => rfl
  | (n, v) :: r, m, h => by
    unfold bindC
    rw [bindC_out fun w hw => h w (List.mem_cons_of_mem _ hw)]
    split
    · rfl
    · have : x ≠ n := by rintro rfl; exact h v List.mem_cons_self
      simp [this]
theorem bindL_get {kindOf : Str → Option NameKind} {x : Str} {v : Value} : ∀ {P : List Str} {vs : List Value} {i : Nat} {m : Str → Option Value}, P.Nodup → P[i]? = some x → vs[i]? = some v → kindOf x = some .local →
    bindL kindOf (P.zip vs) m x = some v
  | [], _, _, _, _, h, _, _ => by simp at h
  | _ :: _, [], _, _, _, _, h, _ => by simp at h
  | p :: P, w :: vs, 0, m, nd, h1, h2, hk => by
    simp at h1 h2; subst h1; subst h2
    show bindL kindOf ((p, w) :: P.zip vs) m p = _
    unfold bindL
    rw [bindL_out fun v hv => (List.nodup_cons.mp nd).1 (List.of_mem_zip hv).1, if_pos hk]
    simp
  | p :: P, w :: vs, i + 1, m, nd, h1, h2, hk => by
    show bindL kindOf ((p, w) :: P.zip vs) m x = _
    unfold bindL
    exact bindL_get (i := i) (List.nodup_cons.mp nd).2 (by simpa using h1) (by simpa using h2) hk
theorem bindC_get {kindOf : Str → Option NameKind} {x : Str} {v : Value} : ∀ {P : List Str} {vs : List Value} {i : Nat} {m : Str → Option Value}, P.Nodup → P[i]? = some x → vs[i]? = some v → kindOf x ≠ some .local →
    bindC kindOf (P.zip vs) m x = some v
  | [], _, _, _, _, h, _, _ => by simp at h
  | _ :: _, [], _, _, _, _, h, _ => by simp at h
  | p :: P, w :: vs, 0, m, nd, h1, h2, hk => by
    simp at h1 h2; subst h1; subst h2
    show bindC kindOf ((p, w) :: P.zip vs) m p = _
    unfold bindC
    rw [bindC_out fun v hv => (List.nodup_cons.mp nd).1 (List.of_mem_zip hv).1, if_neg hk]
    simp
  | p :: P, w :: vs, i + 1, m, nd, h1, h2, hk => by
    show bindC kindOf ((p, w) :: P.zip vs) m x = _
    unfold bindC
    exact bindC_get (i := i) (List.nodup_cons.mp nd).2 (by simpa using h1) (by simpa using h2) hk

noncomputable def start (N : List Str) (vs : List V) : St := vs.map some ++ List.replicate (N.length - vs.length) none

noncomputable def cxOf (CX : CXT) (P : Program) (w : World) (K : PySem.W.Frag) (mg : Str → Option Value) (base : Heap) (N : List Str) (qual : Str) (scope : Scope) (f : Addr) (cd : Value) (A : Around) (outer : List Env) (s : Shared) (H : Hp) (E : XK) : Cx where
  prog := P
  w := w
  K := K
  mg := mg
  base := base
  A := A.deeper (envOfC qual scope s.heap.objs.size f cd)
  N := N
  s₀ := s
  H₀ := H
  env := envOfC qual scope s.heap.objs.size f cd
  outer := outer
  stack := envOfC qual scope s.heap.objs.size f cd :: outer
  ex := []
  calm := true
  fn := fun _ => true
  pn := []
  xe := fun e s' => wpAny (model P w) (A.deeper (envOfC qual scope s.heap.objs.size f cd)) (leaving (envOfC qual scope s.heap.objs.size f cd) e) (fun _ s'' => CX outer H s E e s'') (fun e' s'' => CX outer H s E e' s'') s'

theorem cell_has {sc : Scope} {n : Nat} {x : Str} (h : sc.names.lookup x = some .cell) : ∃ c, (cellsFrom n sc.names []).lookup x = some c := by
  have q := PySem.W.cellsFrom_some sc.names n [] (.inl h)
  exact Option.isSome_iff_exists.mp q

theorem inv_start {CX : CXT} {P : Program} {w : World} {K : PySem.W.Frag} {mg : Str → Option Value} {base : Heap} {N ps : List Str} {qual : Str} {scope : Scope} {f : Addr} {cd : Value} {A : Around} {outer : List Env} {s s1 : Shared} {H : Hp} {E : XK} {us : List Value} {vs : List V}
    (S : FnScope N ps scope) (hd : A.handled = none) (e0 : Env0 P w K mg base A outer s H) (hl : vs.length = ps.length) (r : Vals vs us)
    (x : InCallC s s.heap.objs.size (bindL (envOfC qual scope s.heap.objs.size f cd).kindOf (ps.zip us) fun _ => none) (cellsFrom (s.heap.objs.size + 1) scope.names []) (bindC (envOfC qual scope s.heap.objs.size f cd).kindOf (ps.zip us) fun _ => none) s1) :
    Inv (cxOf CX P w K mg base N qual scope f cd A outer s H E) [] (start N vs) H s1 := by
  have hpl : ps.length ≤ N.length := by have := congrArg List.length S.pre; rw [List.length_take] at this; omega
  obtain ⟨h1, tk, rfl, hk⟩ := x.done
  have noA : ∀ b : Addr, b ∉ (cxOf CX P w K mg base N qual scope f cd A outer s H E).ex := fun b z => absurd (show b ∈ ([] : List Addr) from z) (by simp)
  refine ⟨⟨e0.mod, S.kind, rfl, rfl, Nat.le_refl _, fun y z c h1 h2 => ?_, fun y hy => ?_, fun y c _ h => ?_, fun _ => hd, Around.frames_deeper e0.frames, .inr ⟨rfl, rfl⟩, fun b z => absurd z (noA b), e0.bs, e0.bsz, fun b _ _ => noA b, fun b z => absurd z (noA b), e0.funs, e0.frf⟩,
    rfl, e0.bare, Un.kept hk, ⟨_, x.toInCall.ns, fun i y v h1 h2 h3 => ?_⟩, fun y c h => ⟨_, x.cell y c h⟩, e0.hok.fresh (Nat.le_refl _), fun y c h => ?_, fun p hp => absurd (show p ∈ ([] : List (Addr × Obj)) from hp) (by simp), e0.hok.kept hk, ?_⟩
  · exact name_of_addr x.apart (PySem.mem_of_lookup h1) (PySem.mem_of_lookup h2)
  · have hy : scope.names.lookup y = some .cell ∨ scope.names.lookup y = some .free := hy
    rcases hy with hy | hy
    · exact cell_has hy
    · exact absurd rfl (S.nofree _ (PySem.mem_of_lookup hy))
  · exact Nat.le_of_lt (x.above y c (PySem.mem_of_lookup h))
  · have hi : i < vs.length := by
      unfold start at h2
      by_cases hi : i < vs.length
      · exact hi
      · rw [List.getElem?_append_right (by simpa using hi)] at h2
        rw [List.getElem?_replicate] at h2
        split at h2 <;> cases h2
    have ha : vs[i]? = some v := by
      unfold start at h2
      rw [List.getElem?_append_left (by simpa using hi), List.getElem?_map] at h2
      cases e : vs[i]? with
      | none => rw [e] at h2; cases h2
      | some a => rw [e] at h2; cases h2; rfl
    obtain ⟨u, hu, rv⟩ := r.get ha
    have hp : ps[i]? = some y := by
      rw [← S.pre, List.getElem?_take_of_lt (by omega)]; exact h1
    have ndP : ps.Nodup := by rw [← S.pre]; exact S.nd.sublist (List.take_sublist _ _)
    refine ⟨u, rv, ?_⟩
    rcases S.par y (List.mem_of_getElem? hp) with k | k
    · exact .inl ⟨k, bindL_get ndP hp hu k⟩
    · obtain ⟨c, e⟩ := cell_has (n := s.heap.objs.size + 1) k
      refine .inr ⟨.inl k, c, e, ?_⟩
      have q := x.cell y c e
      rw [bindC_get ndP hp hu (by show scope.names.lookup y ≠ _; rw [k]; decide)] at q
      exact q
  · exact e0.hok.fresh (Nat.le_of_lt (x.above y c (PySem.mem_of_lookup h)))
  · unfold start
    show _ = N.length
    rw [List.length_append, List.length_map, List.length_replicate]
    omega

theorem fn_of {CX : CXT} {P : Program} {w : World} {K : PySem.W.Frag} {mg : Str → Option Value} {base : Heap} {k : Nat} {f : Addr} {name qual : Str} {params : Arguments} {body : List Stmt} {scope : Scope} {dV kV doc pm cdv ct oc : Value} {an od : Option Addr}
    {osl : Array (Option Value)} {N ps : List Str} {sp : Sp} (lk : K.lookup f = some ⟨oc, od, .func (PySem.W.fnOf name qual params body scope dV kV doc pm an cdv ct), osl⟩) (hcd : PySem.W.codeIn K cdv qual = true) (S : FnScope N ps scope)
    (len : ∀ vs H Q E, sp vs H Q E → vs.length = ps.length)
    (hbody : ∀ (A : Around) (outer : List Env) (s : Shared) (H : Hp) (vs : List V) (Q : VK) (E : XK), Room k (A.deeper (envOfC qual scope s.heap.objs.size f cdv)) → sp vs H Q E →
      ∃ t, PSs (cxOf CX P w K mg base N qual scope f cdv A outer s H E) body t ∧ t { nx := fun _ H' => Q .non H', rt := Q } (start N vs) H) :
    FnOk P w K mg base CX (k + 1) f (PySem.W.fnOf name qual params body scope dV kV doc pm an cdv ct) ps sp := by
  refine ⟨len, fun A outer s H args us vs Q E hr e0 hb r hsp => ?_⟩
  have hl := len _ _ _ _ hsp
  have KX : K.In s.heap := e0.mod.kin.keeps fun b o e => (e0.bs b o e).1
  have lim : s.heap.NoLimit := e0.mod.nolimit.keeps fun b o e => (e0.bs b o e).1
  have hkind : ∀ y ∈ ps.zip us, scope.names.lookup y.1 = some .local ∨ (scope.names.lookup y.1 = some .cell ∧ ((cellsFrom (s.heap.objs.size + 1) scope.names []).lookup y.1).isSome = true) := fun ⟨n, v⟩ hy => by
    rcases S.par n (List.of_mem_zip hy).1 with q | q
    · exact .inl q
    · exact .inr ⟨q, PySem.W.cellsFrom_some _ _ _ (.inl q)⟩
  refine codeAny_call_function hr.depth (KX _ _ lk) rfl S.co S.gen rfl (PySem.W.codeRec_of KX hcd) (hb _ _ _ _ ?_)
  refine wpAny_newFunctionEnv_cells S.kind hkind fun env he s1 x => ?_
  subst he
  refine ⟨lim.keeps x.toInCall.keep, codeAny_func ?_⟩
  obtain ⟨t, ht, hq⟩ := hbody A outer s H vs Q E (hr.deeper _) hsp
  have I : Inv (cxOf CX P w K mg base N qual scope f cdv A outer s H E) [] (start N vs) H s1 := inv_start S hr.hd e0 hl r x
  refine wpAny_mono (ht [] s1 (start N vs) H _ I hq) (fun fl s' hs => ?_) fun e s' hs => hs
  have fin : ∀ {σ' : St} {H' : Hp} {v : V} {u : Value}, Inv (cxOf CX P w K mg base N qual scope f cdv A outer s H E) [] σ' H' s' → RelV v u → Q v H' → CE outer P w H s Q u s' :=
    fun {σ' H' v u} J rv q => ⟨v, H', J.os, J.bare, J.base, J.hok, rv, q⟩
  cases fl with
  | ret u =>
    obtain ⟨v, σ', H', J, rv, q⟩ := hs
    exact fin J rv q
  | next =>
    obtain ⟨σ', H', J, q⟩ := hs
    exact fin (v := V.non) (u := Value.none) J rfl q
  | brk =>
    obtain ⟨_, _, _, q⟩ := hs
    exact False.elim q
  | cont =>
    obtain ⟨_, _, _, q⟩ := hs
    exact False.elim q
end L2

namespace L2
open PySem PySem.Spec PyProof.Rows
section
variable {X : Cx} {x : Str} {p pos : Pos} {e : Expr} {es : List Expr} {t : TA} {id T : String} {r : List V → Hp → VK → Prop}

noncomputable def tCB_k1 (r : List V → Hp → VK → Prop) (Q : VK) : List V → Hp → Prop := fun vs H1 => r vs H1 Q
noncomputable def tCB (r : List V → Hp → VK → Prop) (t : TA) : TE := fun σ H Q => t σ H (tCB_k1 r Q)
theorem pe_callB (hc : CallR X (.builtin id) r) (hg : Gl X x) (hm : X.mg x = none) (hv : bootBuiltins x = some (.builtin id)) (ha : PA X (e :: es) t) (hn : x ≠ "__name__" := by decide) (hdb : (x == ("__debug__" : Str)) = false := by decide)
    (he : starEach (e :: es) X.env = (false, eval e X.env) :: starEach es X.env := by rfl) (hpl : (backTo pos (starEach es X.env)).any (·.1) = false := by rfl) : PE X (.Call (.Name x p) (e :: es) [] pos) (tCB r t) := by
  intro pins s σ H Q I h
  refine wpAny_Call_Name_kw (ld_blt I hg hm hv ?_ hn hdb)
  exact PyProof.Rows.callWith_builtin1 (thn (ha pos pins s σ H _ I h) fun us s1 zq60 => (by obtain ⟨vs, H1, I1, r1, q1⟩ := zq60; exact hc pins s1 σ H1 vs us Q I1 r1 q1)) he hpl
theorem pe_callTy (hc : CallR X (.type T) r) (hg : Gl X x) (hm : X.mg x = none) (hv : bootBuiltins x = some (.type T)) (ha : PA X (e :: es) t) (hn : x ≠ "__name__" := by decide) (hdb : (x == ("__debug__" : Str)) = false := by decide)
    (he : starEach (e :: es) X.env = (false, eval e X.env) :: starEach es X.env := by rfl) (hpl : (backTo pos (starEach es X.env)).any (·.1) = false := by rfl) : PE X (.Call (.Name x p) (e :: es) [] pos) (tCB r t) := by
  intro pins s σ H Q I h
  refine wpAny_Call_Name_kw (ld_blt I hg hm hv ?_ hn hdb)
  exact PyProof.Rows.callWith_type1 (thn (ha pos pins s σ H _ I h) fun us s1 zq61 => (by obtain ⟨vs, H1, I1, r1, q1⟩ := zq61; exact hc pins s1 σ H1 vs us Q I1 r1 q1)) he hpl
end
end L2

namespace HT
open PySem PyProof.Rows



section
open PySem.SeqAt
open PySem.AutoSeq1 (wpAny_loadPart')
open PySem.MeetsSeq PySem.MeetsSeq2 PySem.MeetsSeq3

end

section
variable {prog : Program} {w : World} {A : Around} {E : Value → Shared → Prop} {s : Shared}



noncomputable def sIx (n d : Nat) : Option Int → Nat
  | none => d
  | some v => if v < 0 then (v + (n : Int)).toNat else min v.toNat n
theorem sIx_none (n d : Nat) : sIx n d none = d := rfl
theorem sIx_nat (n d k : Nat) : sIx n d (some (k : Int)) = min k n := by
  show (if (k : Int) < 0 then ((k : Int) + (n : Int)).toNat else min (k : Int).toNat n) = min k n
  rw [if_neg (by omega), Int.toNat_natCast]

end
end HT

namespace L2
open PySem PySem.Spec PyProof.Rows

noncomputable abbrev TO := St → Hp → (Option Int → Hp → Prop) → Prop
noncomputable def PO (X : Cx) (e : Option Expr) (t : TO) : Prop :=
  ∀ (pins : List (Addr × Obj)) (s : Shared) (σ : St) (H : Hp) (Q : Option Int → Hp → Prop), Inv X pins σ H s → t σ H Q →
    wpAny (model X.prog X.w) X.A (evalPart e X.env) (fun u s' => ∃ o H', Inv X pins σ H' s' ∧ IsPart u o ∧ Q o H') X.xe s
noncomputable def tNoPart : TO := fun _ H Q => Q none H
inductive IsI (x : V) (H : Hp) (Q : Option Int → Hp → Prop) : Prop
  | mk : ∀ i, (x = .int i) → (Q (some i) H) → IsI x H Q
noncomputable def tPart_k1 (Q : (Option Int → Hp → Prop)) : V → Hp → Prop := fun x H1 => IsI x H1 Q
noncomputable def tPart (t : TE) : TO := fun σ H Q => t σ H (tPart_k1 Q)


section
variable {X : Cx} {e : Expr} {te : TE} {lo hi : Option Expr} {tl th : TO} {pos p2 : Pos}

theorem po_none : PO X none tNoPart := by
  intro pins s σ H Q I h
  rw [evalPart_none]
  exact wpAny_pure ⟨none, H, I, .none, h⟩
theorem po_some (h : PE X e te) : PO X (some e) (tPart te) := by
  intro pins s σ H Q I hw
  rw [evalPart_some]
  refine thn (h pins s σ H _ I hw) fun u s1 zq62 => ?_
  obtain ⟨x, H1, I1, r1, q1⟩ := zq62
  obtain ⟨i, rfl, q⟩ := q1
  obtain ⟨t, rfl⟩ := r1
  exact ⟨some i, H1, I1, .int i t, q⟩

noncomputable def SlR (X : Cx) (r : V → Option Int → Option Int → Hp → VK → Prop) : Prop :=
  ∀ (pins : List (Addr × Obj)) (s : Shared) (σ : St) (H : Hp) (x : V) (v vl vu : Value) (lo hi : Option Int) (sl : Addr) (Q : VK), Inv X pins σ H s → RelV x v → s.heap.IsSliceOf sl vl vu .none → IsPart vl lo → IsPart vu hi → r x lo hi H Q →
    ∃ T id, typeLookup (.type T) "__getitem__" = pure (some (.builtin id)) ∧ s.TypeIs v T ∧ wpAny (model X.prog X.w) X.A (getItem v (.ref sl)) (EP X pins σ Q) X.xe s
noncomputable def tSl_k1 (r : V → Option Int → Option Int → Hp → VK → Prop) (Q : VK) (x : V) (l : Option Int) : Option Int → Hp → Prop := fun u H3 => r x l u H3 Q
noncomputable def tSl_k2 (r : V → Option Int → Option Int → Hp → VK → Prop) (th : TO) (σ : St) (Q : VK) (x : V) : Option Int → Hp → Prop := fun l H2 => th σ H2 (tSl_k1 r Q x l)
noncomputable def tSl_k3 (r : V → Option Int → Option Int → Hp → VK → Prop) (tl : TO) (th : TO) (σ : St) (Q : VK) : V → Hp → Prop := fun x H1 => tl σ H1 (tSl_k2 r th σ Q x)
noncomputable def tSl (r : V → Option Int → Option Int → Hp → VK → Prop) (te : TE) (tl th : TO) : TE := fun σ H Q => te σ H (tSl_k3 r tl th σ Q)
theorem pe_slice {r : V → Option Int → Option Int → Hp → VK → Prop} (hr : SlR X r) (he : PE X e te) (hl : PO X lo tl) (hu : PO X hi th) : PE X (.Subscript e (.Slice lo hi none p2) pos) (tSl r te tl th) := by
  intro pins s σ H Q I h
  refine Subscript_ (thn (he pins s σ H _ I h) fun v s1 zq63 => ?_)
  obtain ⟨x, H1, I1, r1, q1⟩ := zq63
  refine wpAny_Slice (thn (hl pins s1 σ H1 _ I1 q1) fun vl s2 ⟨l, H2, I2, pl, q2⟩ => thn (hu pins s2 σ H2 _ I2 q2) fun vu s3 zq64 => ?_)
  obtain ⟨u, H3, I3, pu, q3⟩ := zq64
  rw [evalPart_none]
  refine wpAny_pure ?_
  have I4 : Inv X pins σ H3 { s3 with heap := s3.heap.push { cls := .type "slice", data := .fields #[vl, vu, .none] } } := I3.kept (t' := s3.toks) fun b ob q => Heap.get?_push_of_some _ q
  obtain ⟨T, id, hT, ht, hg⟩ := hr pins { s3 with heap := s3.heap.push { cls := .type "slice", data := .fields #[vl, vu, .none] } } σ H3 x v vl vu l u s3.heap.objs.size Q I4 r1 (Heap.IsSliceOf.new ..) pl pu q3
  show wpAny (model X.prog X.w) X.A (subscriptTail e (.Slice lo hi none p2) v (.ref s3.heap.objs.size)) (EP X pins σ Q) X.xe { s3 with heap := s3.heap.push { cls := .type "slice", data := .fields #[vl, vu, .none] } }
  exact tail_any (ops := [.ref s3.heap.objs.size, v]) ht hT hg (by with_unfolding_all rfl)

noncomputable def cutV (xs : List V) (lo hi : Option Int) : List V := (xs.drop (HT.sIx xs.length 0 lo)).take (HT.sIx xs.length xs.length hi - HT.sIx xs.length 0 lo)
theorem cutV_length (xs : List V) (lo hi : Option Int) : (cutV xs lo hi).length ≤ xs.length := by
  unfold cutV
  rw [List.length_take, List.length_drop]
  omega

end
end L2

namespace L2
open PySem PySem.Spec PyProof.Rows

noncomputable def ixN (n : Nat) (i : Int) : Option Nat := if 0 ≤ i then (if i < n then some i.toNat else none) else if -(n : Int) ≤ i then some (i + n).toNat else none
noncomputable def atI {α : Type} (xs : List α) (i : Int) : Option α := (ixN xs.length i).bind fun j => xs[j]?
theorem ixN_seq {n : Nat} {i : Int} {j : Nat} (h : ixN n i = some j) : seqIndex? i n = some j ∧ j < n ∧ -(n : Int) ≤ i ∧ i < n := by
  unfold ixN at h
  by_cases h0 : 0 ≤ i
  · rw [if_pos h0] at h
    by_cases h1 : i < n
    · rw [if_pos h1] at h
      have e : i.toNat = j := Option.some.inj h
      exact ⟨by rw [seqIndex_of h0 h1, e], by omega, by omega, h1⟩
    · rw [if_neg h1] at h; cases h
  · rw [if_neg h0] at h
    by_cases h1 : -(n : Int) ≤ i
    · rw [if_pos h1] at h
      have e : (i + n).toNat = j := Option.some.inj h
      exact ⟨by rw [seqIndex_neg (by omega) h1, e], by omega, h1, by omega⟩
    · rw [if_neg h1] at h; cases h
theorem atI_get {α : Type} {xs : List α} {i : Int} {v : α} (h : atI xs i = some v) : ∃ j, seqIndex? i xs.length = some j ∧ xs[j]? = some v ∧ j < xs.length ∧ -(xs.length : Int) ≤ i ∧ i < xs.length := by
  unfold atI at h
  cases e : ixN xs.length i with
  | none => rw [e] at h; cases h
  | some j =>
    rw [e] at h
    obtain ⟨h1, h2, h3, h4⟩ := ixN_seq e
    exact ⟨j, h1, h, h2, h3, h4⟩

noncomputable def PlainIx (b : Expr) : Prop := ∀ o i, subscripted b false o i = operate [o, i] (getItem o i)
noncomputable def IxR (X : Cx) (r : R2) : Prop :=
  ∀ (value slice : Expr) (pins : List (Addr × Obj)) (s : Shared) (σ : St) (H : Hp) (x y : V) (v u : Value) (Q : VK), Inv X pins σ H s → RelV x v → RelV y u → r x y H Q →
    subscripted slice false v u = operate [v, u] (getItem v u) → wpAny (model X.prog X.w) X.A (subscriptTail value slice v u) (EP X pins σ Q) X.xe s
noncomputable def MtR (X : Cx) (id : String) (r : V → List V → Hp → VK → Prop) : Prop :=
  ∀ (pins : List (Addr × Obj)) (s : Shared) (σ : St) (H : Hp) (x : V) (xs : List V) (v : Value) (us : List Value) (Q : VK), Inv X pins σ H s → RelV x v → Vals xs us → r x xs H Q →
    wpAny (model X.prog X.w) X.A (call (.builtin id) (v :: us)) (EP X pins σ Q) X.xe s
section
variable {X : Cx} {a b : Expr} {ta tb : TE} {pos : Pos}
theorem pe_ix {r : R2} (hr : IxR X r) (ha : PE X a ta) (hb : PE X b tb) (hs : PlainIx b) : PE X (.Subscript a b pos) (tOp r ta tb) := by
  intro pins s σ H Q I h
  exact Subscript_ (binT ha hb I h fun v u s2 x y H2 I2 rx ry q => hr a b pins s2 σ H2 x y v u Q I2 rx ry q (hs _ _))

inductive rIxL (K : PySem.W.Frag) (x : V) (y : V) (H : Hp) (Q : VK) : Prop
  | mk : ∀ p xs i v, (x = .ref p) → (y = .int i) → (SqL K H p xs) → (atI xs i = some v) → (Q v H) → rIxL K x y H Q
theorem ix_list : IxR X (rIxL X.K) := by
  intro value slice pins s σ H x y v u Q I rx ry h hs
  obtain ⟨p, xs, i, z, rfl, rfl, hq, he, q⟩ := h
  cases rx
  obtain ⟨t, rfl⟩ := ry
  obtain ⟨its, r, pl, hz⟩ := I.list hq
  obtain ⟨j, h1, h2, h3, h4, h5⟩ := atI_get he
  obtain ⟨w, ew, rw'⟩ := r.get h2
  have hl := r.length
  have hn := line63
  have fin : EP X pins σ Q w s := ⟨z, H, I, rw', q⟩
  by_cases h0 : 0 ≤ i
  · have hj : i.toNat = j := by
      rw [seqIndex_of h0 h5] at h1
      exact Option.some.inj h1
    exact item_listR pl.isList h0 (by omega) (by rw [hj]; simpa using ew) fin hs
  · have hj : (i + (its.toArray.size : Int)).toNat = j := by
      rw [seqIndex_neg (by omega) h4] at h1
      rw [List.size_toArray, ← hl]
      exact Option.some.inj h1
    exact subscriptTail_builtinR (x := w) pl.isList.typeIs slot_list_getitem.lookup
      (wpAny_getItem_list_neg (Q := fun r s' => r = w ∧ EP X pins σ Q r s') pl.isList (by omega) (by rw [List.size_toArray] <;> omega) (by omega) (by rw [hj]; simpa using ew) ⟨rfl, fin⟩) hs


theorem slice_bounds (lo hi : Option Int) (n : Nat) : (sliceBounds lo hi none n).1 = ((HT.sIx n 0 lo : Nat) : Int) ∧ (sliceBounds lo hi none n).2.1 = ((HT.sIx n n hi : Nat) : Int) ∧ (sliceBounds lo hi none n).2.2 = 1 := by
  refine ⟨?_, ?_, rfl⟩
  · cases lo with
    | none => simp [sliceBounds, HT.sIx]
    | some i =>
      simp only [sliceBounds, HT.sIx, Option.getD_none, show (1 : Int) > 0 by decide, if_true]
      by_cases h : i < 0
      · simp only [h, if_true] <;> omega
      · simp only [h, if_false] <;> omega
  · cases hi with
    | none => simp [sliceBounds, HT.sIx]
    | some i =>
      simp only [sliceBounds, HT.sIx, Option.getD_none, show (1 : Int) > 0 by decide, if_true]
      by_cases h : i < 0
      · simp only [h, if_true] <;> omega
      · simp only [h, if_false] <;> omega
theorem slicePick_cut (its : List Value) (lo hi : Option Int) : slicePick its.toArray lo hi none = ((its.drop (HT.sIx its.length 0 lo)).take (HT.sIx its.length its.length hi - HT.sIx its.length 0 lo)).toArray := by
  obtain ⟨h1, h2, h3⟩ := slice_bounds lo hi its.toArray.size
  unfold slicePick
  rw [h1, h2, h3]
  simp only [sliceRange_one, pick_run, List.size_toArray] <;> rfl
inductive rSlL (K : PySem.W.Frag) (x : V) (lo : Option Int) (hi : Option Int) (H : Hp) (Q : VK) : Prop
  | mk : ∀ a xs, (x = .ref a) → (SqL K H a xs) → (∀ p, H p = none → Q (.ref p) (upd H p (.lst (cutV xs lo hi)))) → rSlL K x lo hi H Q
theorem sl_list : SlR X (rSlL X.K) := by
  intro pins s σ H x v vl vu lo hi sl Q I rx hs pl pu h
  obtain ⟨a, xs, rfl, hx, q⟩ := h
  cases rx
  obtain ⟨its, r, ht, hz⟩ := I.list hx
  have hlen := r.length
  refine ⟨"list", _, slot_list_getitem.lookup, ht.isList.typeIs, ?_⟩
  refine wpAny_getItem_list_slice ht.isList hs pl pu .none (by simp) ?_ (by rw [List.size_toArray] <;> omega)
  rw [slicePick_cut, ← hlen]
  refine ⟨.ref s.heap.objs.size, _, I.laid (t' := s.toks) (o := .lst (cutV xs lo hi)) (fun b ob q => Heap.get?_push_of_some _ q) (Nat.le_refl _) ?_, rfl, q _ (I.hok.fresh (Nat.le_refl _))⟩
  exact ⟨Nat.le_trans (cutV_length xs lo hi) hz, _, 0, (r.drop (HT.sIx xs.length 0 lo)).take (HT.sIx xs.length xs.length hi - HT.sIx xs.length 0 lo), Heap.get?_push_size _ rfl⟩


inductive call_len_seq_r (K : PySem.W.Frag) (xs : List V) (H : Hp) (Q : VK) : Prop
  | mk : ∀ p ys, (xs = [.ref p]) → ((SqL K H p ys ∨ SqT K H p ys)) → (Q (.int ys.length) H) → call_len_seq_r K xs H Q
theorem call_len_seq : CallR X (.builtin "len") (call_len_seq_r X.K) := by
  intro pins s σ H xs us Q I r h
  obtain ⟨p, ys, rfl, hq, q⟩ := h
  obtain ⟨u, rfl, rx⟩ := vals1 r
  cases rx
  have hn := line63
  rcases hq with hq | hq
  · obtain ⟨its, r', pl, hz⟩ := I.list hq
    have hlen := r'.length
    exact Calls.call_len_list pl.isList (by simp only [List.size_toArray] <;> omega) ⟨.int ys.length, H, I.tok _, ⟨s.toks + 1, by rw [List.size_toArray, hlen]⟩, q⟩
  · obtain ⟨its, r', pl, hz⟩ := I.tuple hq
    have hlen := r'.length
    exact len_tuple pl (by simp only [List.size_toArray] <;> omega) ⟨.int ys.length, H, I.tok _, ⟨s.toks + 1, by rw [List.size_toArray, hlen]⟩, q⟩
inductive call_list_of_r (K : PySem.W.Frag) (xs : List V) (H : Hp) (Q : VK) : Prop
  | mk : ∀ p ys, (xs = [.ref p]) → ((SqL K H p ys ∨ SqT K H p ys)) → (∀ l, H l = none → Q (.ref l) (upd H l (.lst ys))) → call_list_of_r K xs H Q
theorem call_list_of : CallR X (.type "list") (call_list_of_r X.K) := by
  intro pins s σ H xs us Q I r h
  obtain ⟨p, ys, rfl, hq, q⟩ := h
  obtain ⟨u, rfl, rx⟩ := vals1 r
  cases rx
  have fin : ∀ (its : List Value), Vals ys its → ys.length ≤ sizeLine → ∀ (h' : Heap) (c' : Nat), (∀ b o', s.heap.get? b = some o' → h'.get? b = some o') →
      h'.get? s.heap.objs.size = some { cls := .type "list", dict := none, data := .seq its.toArray c', slots := #[] } → EP X pins σ Q (.ref s.heap.objs.size) { s with heap := h' } := fun its r' hz h' c' kp e =>
    ⟨.ref s.heap.objs.size, _, I.laid (t' := s.toks) kp (Nat.le_refl _) (show ObjOk X.prog X.w _ h' _ (.lst ys) from ⟨hz, its, c', r', e⟩), rfl, q _ (I.hok.fresh (Nat.le_refl _))⟩
  rcases hq with hq | hq
  · obtain ⟨its, r', pl, hz⟩ := I.list hq
    have hlen := r'.length
    obtain ⟨o, ho, hc, n, hd⟩ := pl.isList
    exact call_list_seq p (.inl rfl) ho hc hd (fun h' c' kp e => fin its r' hz h' c' kp e) (by simp only [List.size_toArray] <;> omega)
  · obtain ⟨its, r', pl, hz⟩ := I.tuple hq
    have hlen := r'.length
    obtain ⟨o, ho, hc, n, hd⟩ := pl
    exact call_list_seq p (.inr rfl) ho hc hd (fun h' c' kp e => fin its r' hz h' c' kp e) (by simp only [List.size_toArray] <;> omega)

noncomputable def tyV (K : PySem.W.Frag) (T : String) (x : V) (H : Hp) : Prop := match x with
  | .str _ => T = "str"
  | .int _ => T = "int"
  | .ref p => (T = "list" ∧ ∃ xs, SqL K H p xs) ∨ (T = "tuple" ∧ ((∃ o, K.lookup p = some o ∧ o.cls = .type "tuple" ∧ o.dict = none) ∨ ∃ xs, H p = some (.tup xs))) ∨
      (T = "dict" ∧ ((∃ kvs, H p = some (.dK kvs)) ∨ ∃ kvs, H p = some (.dT kvs))) ∨ (T = "set" ∧ ∃ S n, H p = some (.set S n))
  | _ => False
theorem tyV_is {pins : List (Addr × Obj)} {σ : St} {H : Hp} {s : Shared} {T : String} {x : V} {v : Value} (I : Inv X pins σ H s) (r : RelV x v) (ty : tyV X.K T x H) :
    s.TypeIs v T ∧ ∀ a, v = .ref a → ∃ ob, s.heap.get? a = some ob ∧ ob.dict = none := by
  cases x with
  | str z =>
    obtain ⟨t, rfl⟩ := r
    cases (show T = "str" from ty)
    exact ⟨typeIs_str s z t, fun _ e => nomatch e⟩
  | int i =>
    obtain ⟨t, rfl⟩ := r
    cases (show T = "int" from ty)
    exact ⟨typeIs_int s i t, fun _ e => nomatch e⟩
  | ref p =>
    cases r
    rcases ty with ⟨rfl, xs, hq⟩ | ⟨rfl, ⟨o, hk, hc, hd⟩ | ⟨xs, hk⟩⟩ | ⟨rfl, hk⟩ | ⟨rfl, S, n, hk⟩
    · obtain ⟨its, _, pl, _⟩ := I.list hq
      refine ⟨pl.isList.typeIs, fun a e => ?_⟩
      cases e
      obtain ⟨o, n, e, c, hd, _⟩ := pl
      exact ⟨o, e, hd⟩
    · refine ⟨⟨o, I.kIn p o hk, hc⟩, fun a e => ?_⟩
      cases e
      exact ⟨o, I.kIn _ o hk, hd⟩
    · obtain ⟨_, _, _, ⟨o, e, hc, _⟩, hn⟩ := I.hok p _ hk
      refine ⟨⟨o, e, hc⟩, fun a e => ?_⟩
      cases e
      exact hn
    · have z : ∃ o, s.heap.get? p = some o ∧ o.ExactDict := by
        rcases hk with ⟨kvs, hk⟩ | ⟨kvs, hk⟩
        · obtain ⟨_, _, _, _, o, _, _, e, ex, _⟩ := I.hok p _ hk
          exact ⟨o, e, ex⟩
        · obtain ⟨_, _, _, _, o, _, _, e, ex, _⟩ := I.hok p _ hk
          exact ⟨o, e, ex⟩
      obtain ⟨o, e, ex⟩ := z
      refine ⟨⟨o, e, ex.1⟩, fun a e2 => ?_⟩
      cases e2
      exact ⟨o, e, ex.2.1⟩
    · obtain ⟨o, _, _, _, e, ex, _⟩ := I.hok p _ hk
      refine ⟨⟨o, e, ex.1⟩, fun a e2 => ?_⟩
      cases e2
      exact ⟨o, e, ex.2.1⟩
  | _ => exact False.elim ty
noncomputable def tBM_k1 (r : V → List V → Hp → VK → Prop) (Q : VK) (x : V) : List V → Hp → Prop := fun xs H2 => r x xs H2 Q
noncomputable def tBM_k2 (K : PySem.W.Frag) (T : String) (r : V → List V → Hp → VK → Prop) (t : TA) (σ : St) (Q : VK) : V → Hp → Prop := fun x H1 => tyV K T x H1 ∧ t σ H1 (tBM_k1 r Q x)
noncomputable def tBM (K : PySem.W.Frag) (T : String) (r : V → List V → Hp → VK → Prop) (to : TE) (t : TA) : TE := fun σ H Q => to σ H (tBM_k2 K T r t σ Q)
variable {o e : Expr} {es : List Expr} {to : TE} {t : TA} {name : Str} {apos cpos : Pos} {T id : String} {r : V → List V → Hp → VK → Prop}
theorem pe_bm (pa : PlainAttrs T) (slot : Slot T name id) (hty : typeOf (.builtin id) = pure (.type "method_descriptor")) (hm : MtR X id r) (ho : PE X o to) (ha : PA X (e :: es) t)
    (hbase : attributeBase o name X.env (eval o X.env) = eval o X.env := by rfl)
    (hfew : ((backTo cpos (starEach (e :: es) X.env)).all (fun x => !x.1) && (backToKw cpos (keywordEach [] X.env)).all (fun x => x.1.isSome)
      && decide ((e :: es).length + ([] : List Keyword).length + (if ([] : List Keyword).isEmpty then 0 else 1) < 30)) = true := by rfl)
    (hline : (apos.endLine == cpos.line) = true := by rfl) (hs : starEach (e :: es) X.env = (false, eval e X.env) :: starEach es X.env := by rfl) (hplain : (backTo cpos (starEach es X.env)).any (·.1) = false := by rfl) :
    PE X (.Call (.Attribute o name apos) (e :: es) [] cpos) (tBM X.K T r to t) := by
  intro pins s σ H Q I h
  refine wpAny_Call_method_late hbase hfew hline rfl (thn (ho pins s σ H _ I h) fun v s1 zq66 => ?_)
  obtain ⟨x, H1, I1, r1, ty, q1⟩ := zq66
  obtain ⟨h1, h2⟩ := tyV_is I1 r1 ty
  refine ⟨T, id, pa, slot, hty, h1, h2, ?_⟩
  have hA := ha cpos pins s1 σ H1 _ I1 q1
  rw [hs] at hA ⊢
  refine Calls.callWith_builtin (by show (false || (backTo cpos (starEach es X.env)).any (·.1)) = false; rw [hplain] <;> rfl) (Calls.evalArgs_plain ?_)
  exact thn hA fun us s2 zq67 => (by obtain ⟨vs, H2, I2, r2, q2⟩ := zq67; exact hm pins s2 σ H2 x vs v us Q I2 r1 r2 q2)
/- xs.append(e), list.index on a module's tuple .. are MtR facts of 06m -/
end
end L2

namespace L2
open PySem PySem.Spec PyProof.Rows

noncomputable def MtM (X : Cx) (id : String) (r : V → List V → Hp → VK → Prop) : Prop :=
  ∀ (pins : List (Addr × Obj)) (s : Shared) (σ : St) (H : Hp) (x : V) (xs : List V) (v : Value) (us : List Value) (Q : VK), Inv X pins σ H s → RelV x v → Vals xs us → r x xs H Q →
    wpAny (model X.prog X.w) X.A (call (.builtin id) (v :: us)) (EP X pins σ Q) X.xe s

theorem Vals.one : ∀ {x : V} {us : List Value}, Vals [x] us → ∃ u, us = [u] ∧ RelV x u
  | _, _, .cons r .nil => ⟨_, rfl, r⟩
theorem Vals.rep {xs : List V} {us : List Value} (h : Vals xs us) : ∀ k : Nat, Vals (List.replicate k xs).flatten (List.replicate k us).flatten
  | 0 => .nil
  | k + 1 => by
    rw [List.replicate_succ, List.replicate_succ, List.flatten_cons, List.flatten_cons]
    exact Vals.append h (Vals.rep h k)
theorem foldl_rep (its : List Value) : ∀ (k : Nat) (acc : List Value),
    List.foldl (fun x1 x2 => x1 ++ x2) acc.toArray (List.replicate k its.toArray) = (acc ++ (List.replicate k its).flatten).toArray
  | 0, acc => by simp
  | k + 1, acc => by
    have e : acc.toArray ++ its.toArray = (acc ++ its).toArray := by simp
    have e2 : (acc ++ its) ++ (List.replicate k its).flatten = acc ++ (List.replicate (k + 1) its).flatten := by
      rw [List.replicate_succ, List.flatten_cons, List.append_assoc]
    rw [← e2, ← foldl_rep its k (acc ++ its), ← e, List.replicate_succ, List.foldl_cons]

section
variable {X : Cx} {pins : List (Addr × Obj)} {σ : St} {H : Hp} {s : Shared} {l b : Addr} {xs ys zs : List V}

theorem Inv.lset {its its' : List Value} {n : Nat} {f : Array Value → Array Value} {t' : Nat} (I : Inv X pins σ H s) (hH : H l = some (.lst xs))
    (e : s.heap.get? l = some { cls := .type "list", data := .seq its.toArray n }) (hf : f its.toArray = its'.toArray) (hv : Vals ys its') (hz : ys.length ≤ sizeLine) :
    Inv X pins σ (upd H l (.lst ys)) { s with heap := s.heap.update l (Obj.mapSeq f), toks := t' } := by
  have q := PySem.IsL.update e f
  rw [hf] at q
  refine I.write (x := l) (e := l) (by rw [hH]; exact trivial) (.inl rfl) (fun b' u hb hu => (Heap.get?_update_other s.heap (Obj.mapSeq f) (Ne.symm hb)).trans hu) ⟨_, q⟩ ?_
  exact ⟨hz, its', _, hv, q⟩
theorem Inv.lnew {its : List Value} {t' : Nat} (I : Inv X pins σ H s) (hv : Vals ys its) (hz : ys.length ≤ sizeLine) :
    Inv X pins σ (upd H s.heap.objs.size (.lst ys)) { s with heap := s.heap.push { cls := .type "list", data := .seq its.toArray }, toks := t' } :=
  I.laid (fun _ _ q => Heap.get?_push_of_some _ q) (Nat.le_refl _) ⟨hz, its, 0, hv, Heap.get?_push_size _ rfl⟩
theorem Inv.fresh (I : Inv X pins σ H s) : H s.heap.objs.size = none := I.hok.fresh (Nat.le_refl _)
theorem Inv.lstM (I : Inv X pins σ H s) (hH : H l = some (.lst xs)) : xs.length ≤ sizeLine ∧ ∃ (its : List Value) (n : Nat), Vals xs its ∧ xs.length = its.length ∧ s.heap.get? l = some { cls := .type "list", data := .seq its.toArray n } := by
  obtain ⟨z, its, n, r, e⟩ := I.hok l _ hH
  exact ⟨z, its, n, r, r.length, e⟩

theorem notLongL {n : Nat} (h : n ≤ sizeLine) : Builtin.List.listTooLong n = false := by
  unfold Builtin.List.listTooLong
  exact decide_eq_false (by omega)
end

section
variable {X : Cx}

inductive rAppend (x : V) (vs : List V) (H : Hp) (Q : VK) : Prop
  | mk : ∀ l xs y, (x = .ref l) → (vs = [y]) → (H l = some (.lst xs)) → (xs.length < sizeLine) → (Q .non (upd H l (.lst (xs ++ [y])))) → rAppend x vs H Q
theorem mt_append : MtM X "list.append" rAppend := by
  intro pins s σ H x vs v us Q I rx rv h
  obtain ⟨l, xs, y, rfl, rfl, hH, hz, q⟩ := h
  cases rx
  obtain ⟨u, rfl, ru⟩ := rv.one
  obtain ⟨z, its, n, r, hl, e⟩ := I.lstM hH
  refine call_meets F.slot_list_append ⟨_, e, rfl⟩ F.entry_list_append (F.args_list_append_2 _ _) (PySem.list_append l its.toArray n u (by rw [List.size_toArray]; omega)) ⟨e, ?_⟩
  refine ⟨.non, _, I.lset (its' := its ++ [u]) hH e (by simp) (r.append (.cons ru .nil)) ?_, rfl, q⟩
  rw [List.length_append, List.length_singleton]
  omega






inductive rCat (x : V) (y : V) (H : Hp) (Q : VK) : Prop
  | mk : ∀ l b xs zs, (x = .ref l) → (y = .ref b) → (H l = some (.lst xs)) → (H b = some (.lst zs)) → (xs.length + zs.length ≤ sizeLine) → (∀ p, H p = none → Q (.ref p) (upd H p (.lst (xs ++ zs)))) → rCat x y H Q
theorem op_cat : OpR X (binaryOp .Add) rCat := by
  intro pins s σ H x y v u Q I rx ry h
  obtain ⟨l, b, xs, zs, rfl, rfl, hH, hB, hz, q⟩ := h
  cases rx
  cases ry
  obtain ⟨z, its, n, r, hl, e⟩ := I.lstM hH
  obtain ⟨z2, its2, n2, r2, hl2, e2⟩ := I.lstM hB
  refine PySem.P.add_list e e2 ?_ (by rw [List.size_toArray, List.size_toArray]; omega)
  have ea : its.toArray ++ its2.toArray = (its ++ its2).toArray := by simp
  rw [ea]
  exact ⟨.ref _, _, I.lnew (t' := s.toks) (r.append r2) (by rw [List.length_append]; omega), rfl, q _ I.fresh⟩
inductive rRep (x : V) (y : V) (H : Hp) (Q : VK) : Prop
  | mk : ∀ l k xs, (x = .ref l) → (y = .int k) → (H l = some (.lst xs)) → (-(2 ^ 63) ≤ k) → (k < 2 ^ 63) → (xs.length * k.toNat ≤ sizeLine) → (∀ p, H p = none → Q (.ref p) (upd H p (.lst (List.replicate k.toNat xs).flatten))) → rRep x y H Q
theorem len_rep {α : Type} (xs : List α) (k : Nat) : (List.replicate k xs).flatten.length = k * xs.length := by
  induction k with
  | zero => simp
  | succ k ih => rw [List.replicate_succ, List.flatten_cons, List.length_append, ih, Nat.succ_mul, Nat.add_comm]
theorem op_rep : OpR X (binaryOp .Mult) rRep := by
  intro pins s σ H x y v u Q I rx ry h
  obtain ⟨l, k, xs, rfl, rfl, hH, h1, h2, hz, q⟩ := h
  cases rx
  obtain ⟨t, rfl⟩ := ry
  obtain ⟨z, its, n, r, hl, e⟩ := I.lstM hH
  have hlen : its.toArray.size * k.toNat ≤ sizeLine := by rw [List.size_toArray, ← hl]; exact hz
  have hcap : ¬ its.toArray.size * k.toNat > (2 ^ 63 - 1) / 8 := by
    have : (sizeLine : Nat) ≤ (2 ^ 63 - 1) / 8 := by decide
    omega
  have hfit : ¬ (!Builtin.List.listFitsIndex k) = true := by
    rw [fitsIndex_both h1 h2]
    exact Bool.false_ne_true
  have hlong : ¬ Builtin.List.listTooLong (its.toArray.size * k.toNat) = true := by
    rw [notLongL hlen]
    exact Bool.false_ne_true
  have hnew : List.foldl (fun x1 x2 => x1 ++ x2) #[] (List.replicate (if its.toArray.isEmpty = true then 0 else k.toNat) its.toArray) = (List.replicate k.toNat its).flatten.toArray := by
    have f0 : ∀ m : Nat, List.foldl (fun x1 x2 => x1 ++ x2) #[] (List.replicate m its.toArray) = (List.replicate m its).flatten.toArray := fun m => by
      have := foldl_rep its m []
      rw [List.nil_append] at this
      exact this
    rw [f0]
    cases its with
    | nil => simp
    | cons a r' => rw [if_neg (by simp)]
  refine wpAny_binaryOp_repeat_ref (T := "list") (U := "int") (by decide) ⟨_, e, rfl⟩ (fun s' => typeIs_int s' k t) noFill_list_mul F.fills_int_mul F.slot_int_rmul repeat_list F.slot_int_index.lookup
    (call_meets F.slot_int_rmul (typeIs_int s k t) F.entry_int_rmul (F.args_int_rmul_2 _ _) (int___rmul___int_list k t l its.toArray n)
      ⟨e, rfl, ⟨_, e, rfl⟩, call_meets F.slot_list_mul ⟨_, e, rfl⟩ F.entry_list_mul (F.args_list_mul_2 _ _) (AutoListH.list___mul___list_int_3 l its.toArray n k t hfit hcap hlong) ⟨e, ?_⟩⟩)
  rw [hnew]
  exact ⟨.ref _, _, I.lnew (t' := s.toks) (r.rep k.toNat) (by rw [len_rep, Nat.mul_comm]; exact hz), rfl, q _ I.fresh⟩

end

section
variable {prog : Program} {w : World} {A : Around} {E : Value → Shared → Prop} {s : Shared}
end

section
variable {X : Cx}
end
end L2

namespace L2
open PySem PySem.Spec PyProof.Rows

section
variable {κ : Type} [DecidableEq κ]
noncomputable def valV (kvs : List (κ × V)) (k : κ) : Option V := (kvs.find? fun kv => decide (kv.1 = k)).map (·.2)
noncomputable def putK (kvs : List (κ × V)) (k : κ) (v : V) : List (κ × V) :=
  if (kvs.any fun kv => decide (kv.1 = k)) = true then kvs.map (fun kv => if kv.1 = k then (kv.1, v) else kv) else kvs ++ [(k, v)]

theorem valV_pos {p : κ × V} {r : List (κ × V)} {k : κ} (e : p.1 = k) : valV (p :: r) k = some p.2 := by simp [valV, List.find?_cons, e]
theorem valV_neg {p : κ × V} {r : List (κ × V)} {k : κ} (e : ¬ p.1 = k) : valV (p :: r) k = valV r k := by simp [valV, List.find?_cons, e]
theorem valV_any (k : κ) : ∀ kvs : List (κ × V), (kvs.any fun kv => decide (kv.1 = k)) = (valV kvs k).isSome
  | [] => rfl
  | p :: r => by
    rw [List.any_cons]
    by_cases e : p.1 = k
    · simp only [valV_pos e, decide_eq_true e, Bool.true_or, Option.isSome_some]
    · rw [valV_neg e, decide_eq_false e, Bool.false_or]; exact valV_any k r
theorem length_putK (kvs : List (κ × V)) (k : κ) (v : V) : (putK kvs k v).length ≤ kvs.length + 1 := by
  unfold putK
  split
  · rw [List.length_map]; omega
  · rw [List.length_append, List.length_cons, List.length_nil]; omega

theorem RelO.isSome_eq {o : Option V} {u : Option Value} (r : RelO o u) : o.isSome = u.isSome := by
  cases o with
  | none => cases u with
    | none => rfl
    | some _ => exact (show False from r).elim
  | some _ => cases u with
    | none => exact (show False from r).elim
    | some _ => rfl

theorem KV.val {kvs : List (κ × V)} {vs : List (κ × Value)} (r : KV kvs vs) (k : κ) : RelO (valV kvs k) (valueAt vs k) := by
  unfold KV at r
  induction r with
  | nil => exact True.intro
  | @cons p q ps qs h t ih =>
    obtain ⟨h1, h2⟩ := h
    by_cases e : p.1 = k
    · have e' : q.1 = k := h1.symm.trans e
      have b : valueAt (q :: qs) k = some q.2 := by simp [valueAt, List.find?_cons, e']
      rw [valV_pos e, b]; exact h2
    · have e' : ¬ q.1 = k := fun z => e (h1.trans z)
      have b : valueAt (q :: qs) k = valueAt qs k := by simp [valueAt, List.find?_cons, e']
      rw [valV_neg e, b]; exact ih
theorem KV.any {kvs : List (κ × V)} {vs : List (κ × Value)} (r : KV kvs vs) (k : κ) : (kvs.any fun kv => decide (kv.1 = k)) = vs.any fun kv => decide (kv.1 = k) := by
  unfold KV at r
  induction r with
  | nil => rfl
  | cons h t ih => rw [List.any_cons, List.any_cons, ih, h.1]
theorem KV.repl {kvs : List (κ × V)} {vs : List (κ × Value)} (r : KV kvs vs) (k : κ) {y : V} {u : Value} (ry : RelV y u) :
    KV (kvs.map fun kv => if kv.1 = k then (kv.1, y) else kv) (vs.map fun kv => if kv.1 = k then (kv.1, u) else kv) := by
  unfold KV at r ⊢
  induction r with
  | nil => exact .nil
  | @cons p q ps qs h t ih =>
    rw [List.map_cons, List.map_cons]
    refine .cons ?_ ih
    obtain ⟨h1, h2⟩ := h
    by_cases e : p.1 = k
    · rw [if_pos e, if_pos (h1.symm.trans e)]; exact ⟨h1, ry⟩
    · rw [if_neg e, if_neg (fun z => e (h1.trans z))]; exact ⟨h1, h2⟩
theorem KV.put {kvs : List (κ × V)} {vs : List (κ × Value)} (r : KV kvs vs) (k : κ) {y : V} {u : Value} (ry : RelV y u) : KV (putK kvs k y) (stored vs k u) := by
  unfold putK stored
  rw [r.any k]
  by_cases e : (vs.any fun kv => decide (kv.1 = k)) = true
  · rw [if_pos e, if_pos e]; exact r.repl k ry
  · rw [if_neg e, if_neg e]; exact Paired.snoc r ⟨rfl, ry⟩
theorem KV.length {kvs : List (κ × V)} {vs : List (κ × Value)} (r : KV kvs vs) : kvs.length = vs.length := Paired.length r
end


theorem kV_is {P : Program} {w : World} {k : Key} {u : Value} (r : RelV (kV k) u) : (mixKind P w).is k u = true := by
  cases k with
  | inl i => obtain ⟨t, e⟩ := (show ∃ t, u = Value.int i t from r); subst e; exact mixKind_int P w i t
  | inr x => obtain ⟨t, e⟩ := (show ∃ t, u = Value.str x t from r); subst e; exact mixKind_str P w x t
theorem items_are {P : Program} {w : World} : ∀ {ks : List Key} {us : List Value}, Vals (ks.map kV) us → ItemsAre (mixKind P w) ks us
  | [], _, r => by rw [List.map_nil] at r; cases r; exact .nil
  | k :: ks, _, r => by
    rw [List.map_cons] at r
    cases r with
    | cons h t => exact .cons (kV_is h) (items_are t)

noncomputable abbrev KT (H : Hp) : List (List Key × V) → List (List Key × Addr × Value) → Prop := Paired fun p q => p.1 = q.1 ∧ H q.2.1 = some (.tup (p.1.map kV)) ∧ RelV p.2 q.2.2
theorem KT.val {H : Hp} {kvs : List (List Key × V)} {xs : List (List Key × Addr × Value)} (r : KT H kvs xs) (k : List Key) : RelO (valV kvs k) ((atKey xs k).map (·.2)) := by
  induction r with
  | nil => exact True.intro
  | @cons p q ps qs h t ih =>
    obtain ⟨h1, _, h2⟩ := h
    by_cases e : p.1 = k
    · have e' : q.1 = k := h1.symm.trans e
      have b : atKey (q :: qs) k = some q.2 := by simp [atKey, List.find?_cons, e']
      rw [valV_pos e, b]; exact h2
    · have e' : ¬ q.1 = k := fun z => e (h1.trans z)
      have b : atKey (q :: qs) k = atKey qs k := by simp [atKey, List.find?_cons, e']
      rw [valV_neg e, b]; exact ih
theorem KT.repl {H : Hp} {kvs : List (List Key × V)} {xs : List (List Key × Addr × Value)} (r : KT H kvs xs) (k : List Key) {y : V} {u : Value} (ry : RelV y u) :
    KT H (kvs.map fun kv => if kv.1 = k then (kv.1, y) else kv) (xs.map (putAt k u)) := by
  induction r with
  | nil => exact .nil
  | @cons p q ps qs h t ih =>
    rw [List.map_cons, List.map_cons]
    refine .cons ?_ ih
    obtain ⟨h1, h2, h3⟩ := h
    unfold putAt
    by_cases e : p.1 = k
    · rw [if_pos e, if_pos (h1.symm.trans e)]; exact ⟨h1, h2, ry⟩
    · rw [if_neg e, if_neg (fun z => e (h1.trans z))]; exact ⟨h1, h2, h3⟩
theorem KT.put {H : Hp} {kvs : List (List Key × V)} {xs : List (List Key × Addr × Value)} (r : KT H kvs xs) (k : List Key) {b : Addr} {y : V} {u : Value} (hb : H b = some (.tup (k.map kV))) (ry : RelV y u) :
    KT H (putK kvs k y) (storedH xs k b u) := by
  have e : (kvs.any fun kv => decide (kv.1 = k)) = (atKey xs k).isSome := by
    rw [valV_any, (r.val k).isSome_eq, Option.isSome_map]
  unfold putK storedH
  rw [e]
  by_cases q : (atKey xs k).isSome = true
  · rw [if_pos q, if_pos q]; exact r.repl k ry
  · rw [if_neg q, if_neg q]; exact Paired.snoc r ⟨rfl, hb, ry⟩
theorem KT.keeps {H H' : Hp} {kvs : List (List Key × V)} {xs : List (List Key × Addr × Value)} (r : KT H kvs xs) (ht : ∀ b ys, H b = some (.tup ys) → H' b = some (.tup ys)) : KT H' kvs xs :=
  Paired.mapP r fun _ _ z => ⟨z.1, ht _ _ z.2.1, z.2.2⟩

section
variable {P : Program} {w : World} {H : Hp} {h : Heap} {a : Addr}
theorem rd_of {u : HO} (ok : HOk P w H h) (e : Rd H a u) : ObjOk P w H h a u := e.ok ok
theorem dk_rd {kvs : List (Key × V)} (ok : HOk P w H h) (e : Rd H a (.dK kvs)) : kvs.length ≤ sizeLine ∧ (a == sysModules) = false ∧ ∃ vs, KV kvs vs ∧ h.DictOf (mixKind P w) a vs :=
  show ObjOk P w H h a (.dK kvs) from rd_of ok e
theorem dk_of {kvs : List (Key × V)} (ok : HOk P w H h) (e : H a = some (.dK kvs)) : kvs.length ≤ sizeLine ∧ (a == sysModules) = false ∧ ∃ vs, KV kvs vs ∧ h.DictOf (mixKind P w) a vs := dk_rd ok (.inl e)
theorem key_of {ks : List Key} (ok : HOk P w H h) (e : H a = some (.tup (ks.map kV))) : (tupleKind (mixKind P w)).is h ks a := by
  obtain ⟨_, its, r, ⟨o, h1, h2, n, h3⟩, _⟩ := (show ObjOk P w H h a (.tup (ks.map kV)) from ok a _ e)
  exact ⟨o, its.toArray, n, h1, h2, h3, by simpa using items_are r⟩
theorem dt_rd {kvs : List (List Key × V)} (ok : HOk P w H h) (e : Rd H a (.dT kvs)) : kvs.length ≤ sizeLine ∧ (a == sysModules) = false ∧
    ∃ xs, KT H kvs xs ∧ h.DictOfH (tupleKind (mixKind P w)) a xs := by
  obtain ⟨z, y, xs, r, o, es, ep, h1, h2, h3, h4, h5⟩ := (show ObjOk P w H h a (.dT kvs) from rd_of ok e)
  refine ⟨z, y, xs, r, o, es, ep, h1, h2, h3, h4, fun x hx => ?_, h5⟩
  have all : ∀ {l : List (List Key × V)} {m : List (List Key × Addr × Value)}, KT H l m → ∀ x ∈ m, (tupleKind (mixKind P w)).is h x.1 x.2.1 := by
    intro l m q
    induction q with
    | nil => intro x hx; exact nomatch hx
    | @cons p q ps qs hq t ih =>
      intro x hx
      rcases List.mem_cons.mp hx with e | hx
      · subst e
        exact key_of ok (by rw [← hq.1]; exact hq.2.1)
      · exact ih x hx
  exact all r x hx
theorem dt_of {kvs : List (List Key × V)} (ok : HOk P w H h) (e : H a = some (.dT kvs)) : kvs.length ≤ sizeLine ∧ (a == sysModules) = false ∧
    ∃ xs, KT H kvs xs ∧ h.DictOfH (tupleKind (mixKind P w)) a xs := dt_rd ok (.inl e)
end

noncomputable def DGet (H : Hp) (a : Addr) (y : V) (r : Option V) : Prop :=
  (∃ kvs k, Rd H a (.dK kvs) ∧ y = kV k ∧ r = valV kvs k) ∨ ∃ kvs k b, Rd H a (.dT kvs) ∧ y = .ref b ∧ H b = some (.tup (k.map kV)) ∧ r = valV kvs k
noncomputable def DPut (H : Hp) (a : Addr) (y v : V) (H' : Hp) : Prop :=
  (∃ kvs k, H a = some (.dK kvs) ∧ y = kV k ∧ kvs.length < sizeLine ∧ H' = upd H a (.dK (putK kvs k v))) ∨
  ∃ kvs k b, H a = some (.dT kvs) ∧ y = .ref b ∧ H b = some (.tup (k.map kV)) ∧ kvs.length < sizeLine ∧ H' = upd H a (.dT (putK kvs k v))
theorem DGet.k {H : Hp} {a : Addr} {kvs : List (Key × V)} {k : Key} (e : H a = some (.dK kvs)) : DGet H a (kV k) (valV kvs k) := .inl ⟨kvs, k, .inl e, rfl, rfl⟩
theorem DPut.k {H : Hp} {a : Addr} {kvs : List (Key × V)} {k : Key} {v : V} (e : H a = some (.dK kvs)) (hl : kvs.length < sizeLine) : DPut H a (kV k) v (upd H a (.dK (putK kvs k v))) := .inl ⟨kvs, k, e, rfl, hl, rfl⟩


section
variable {X : Cx} {pins : List (Addr × Obj)} {σ : St} {H : Hp} {s : Shared} {a : Addr} {y v : V} {u r : Value} {o : Option V} {A : Around} {E : Value → Shared → Prop}

theorem Inv.big (I : Inv X pins σ H s) : sysModules < s.heap.objs.size := by
  have h : mainGlobals < s.heap.objs.size := (I.mod.glob.keeps I.bk).lt
  exact Nat.lt_trans (by decide) h

theorem d_getItem {Q : Value → Shared → Prop} (hu : A.units + 1 < cLine) (I : Inv X pins σ H s) (g : DGet H a y (some v)) (ry : RelV y u) (h : ∀ w' s', Inv X pins σ H s' → RelV v w' → Q w' s') :
    wpAny (model X.prog X.w) A (getItem (.ref a) u) Q E s := by
  rcases g with ⟨kvs, k, e, ey, l⟩ | ⟨kvs, k, b, e, ey, eb, l⟩
  · subst ey
    obtain ⟨z, hd, vs, rel, dd⟩ := dk_rd I.hok e
    obtain ⟨w', hw, rw'⟩ := RelO.some_of (v := v) (o := valueAt vs k) (by rw [l]; exact rel.val k)
    exact wpAny_getItem_of (kV_is ry) dd.mapOf hw (h w' _ (I.tok _) rw')
  · subst ey
    cases (show u = Value.ref b from ry)
    obtain ⟨z, hd, xs, rel, dd⟩ := dt_rd I.hok e
    obtain ⟨w', hw, rw'⟩ := RelO.some_of (v := v) (o := (atKey xs k).map (·.2)) (by rw [l]; exact rel.val k)
    obtain ⟨p, hp, hp2⟩ := Option.map_eq_some_iff.mp hw
    refine wpAny_getItem_heap (tupleKind_room_in1 hu) (key_of I.hok eb) dd hp ?_
    rw [hp2]
    exact h w' _ (I.tok _) rw'
theorem d_write {h' : Heap} {t' : Nat} {ob : HO} (I : Inv X pins σ H s) (mu : Mut (H a)) (hs : Heap.SameBut a s.heap h') (he : ∃ q, h'.get? a = some q) (new : ObjOk X.prog X.w (upd H a ob) h' a ob) :
    Inv X pins σ (upd H a ob) { s with heap := h', toks := t' } :=
  I.write (x := a) (e := a) mu (.inl rfl) (fun b q hb z => (hs.2 b hb).trans z) he new
theorem dk_new {P : Program} {w : World} {H' : Hp} {h' : Heap} {kvs : List (Key × V)} {vs : List (Key × Value)} (z : kvs.length ≤ sizeLine) (hd : (a == sysModules) = false) (rel : KV kvs vs) (dd : h'.DictOf (mixKind P w) a vs) :
    ObjOk P w H' h' a (.dK kvs) := ⟨z, hd, vs, rel, dd⟩
theorem d_setItem {H' : Hp} {Q : Unit → Shared → Prop} (hu : A.units + 1 < cLine) (I : Inv X pins σ H s) (g : DPut H a y v H') (ry : RelV y u) (rv : RelV v r) (h : ∀ s', Inv X pins σ H' s' → Q () s') :
    wpAny (model X.prog X.w) A (setItem (.ref a) u r) Q E s := by
  rcases g with ⟨kvs, k, e, ey, l, eH⟩ | ⟨kvs, k, b, e, ey, eb, l, eH⟩
  · subst ey eH
    obtain ⟨z, hd, vs, rel, dd⟩ := dk_of I.hok e
    have hz : vs.length ≤ sizeLine := by rw [← rel.length]; exact z
    have hl : (putK kvs k v).length ≤ sizeLine := by have := length_putK kvs k v; omega
    refine wpAny_setItem_pairs (hsz := hz) (kV_is ry) dd fun h' dd' hs => h _ ?_
    have he : ∃ q, h'.get? a = some q := let ⟨q, _, _, hq, _⟩ := dd'; ⟨q, hq⟩
    exact d_write I (by rw [e]; exact True.intro) hs he (dk_new hl hd (rel.put k rv) dd')
  · subst ey eH
    cases (show u = Value.ref b from ry)
    obtain ⟨z, hd, xs, rel, dd⟩ := dt_of I.hok e
    have hz : xs.length ≤ sizeLine := by rw [← Paired.length rel]; exact z
    have hl : (putK kvs k v).length ≤ sizeLine := by have := length_putK kvs k v; omega
    refine wpAny_setItem_heap (hsz := hz) (tupleKind_room_in1 hu) (key_of I.hok eb) dd fun h' dd' hs => h _ ?_
    obtain ⟨q, es, ep, hq, h2, h3, h4, _, h5⟩ := dd'
    refine d_write I (by rw [e]; exact True.intro) hs ⟨q, hq⟩ ⟨hl, hd, _, (rel.put k eb rv).keeps fun c ys ec => ?_, q, es, ep, hq, h2, h3, h4, h5⟩
    rw [upd_ne (ne_of ec e (fun z => nomatch z))]
    exact ec
end

section
variable {X : Cx} {pins : List (Addr × Obj)} {σ : St} {H : Hp} {s : Shared} {a : Addr} {kvs : List (Key × V)} {k : Key} {u : Value} {A : Around} {E : Value → Shared → Prop}
end


noncomputable def NoSl (i : Expr) : Prop := ∀ ov iv, subscripted i false ov iv = operate [ov, iv] (getItem ov iv)
theorem subD_of {prog : Program} {w : World} {A : Around} {E : Value → Shared → Prop} {s : Shared} {env : Env} {value slice : Expr} {pos : Pos} {T id : String} {Q : Value → Shared → Prop}
    (hl : typeLookup (.type T) "__getitem__" = pure (some (.builtin id))) (hs : NoSl slice)
    (h : wpAny (model prog w) A (eval value env) (fun o s₁ => wpAny (model prog w) A (eval slice env) (fun i s₂ => s₂.TypeIs o T ∧ wpAny (model prog w) A (getItem o i) Q E s₂) E s₁) E s) :
    wpAny (model prog w) A (eval (.Subscript value slice pos) env) Q E s := by
  refine Subscript_ (wpAny_mono h (fun o s₁ h₁ => wpAny_mono h₁ (fun i s₂ h₂ => ?_) fun _ _ x => x) fun _ _ x => x)
  obtain ⟨hT, h₂⟩ := h₂
  unfold subscriptTail
  refine wpAny_bind ?_
  rw [getitemInPython_of_ne hT.not_modules]
  refine wpAny_bind (wpAny_specialOf hT hl ?_)
  have fin : wpAny (model prog w) A (subscripted slice false o i) (fun r s₃ => wpAny (model prog w) A (letTemporaryGo value o r >>= fun _ => pure r) Q E s₃) E s₂ := by
    rw [hs o i]
    exact wpAny_operating (wpAny_mono h₂ (fun r s₃ h₃ => wpAny_bind (wpAny_letTemporaryGo (wpAny_pure h₃))) fun _ _ x => x)
  first
    | exact wpAny_pure (wpAny_bind fin)
    | exact wpAny_bind (wpAny_pure (wpAny_bind fin))
    | exact wpAny_bind fin

theorem dict_typeIs {X : Cx} {pins : List (Addr × Obj)} {σ : St} {H : Hp} {s : Shared} {a : Addr} {y : V} {o : Option V} (I : Inv X pins σ H s) (g : DGet H a y o) : s.TypeIs (.ref a) "dict" := by
  rcases g with ⟨kvs, k, e, _, _⟩ | ⟨kvs, k, b, e, _, _, _⟩
  · obtain ⟨_, _, vs, _, dd⟩ := dk_rd I.hok e
    exact dd.typeIs
  · obtain ⟨_, _, xs, _, dd⟩ := dt_rd I.hok e
    exact dd.typeIs

noncomputable def tDGet (td ty : TE) : TE := fun σ H Q => td σ H fun x H1 => ty σ H1 fun y H2 => ∃ a v, x = .ref a ∧ DGet H2 a y (some v) ∧ Q v H2
noncomputable def sDPut (td ty tv : TE) : TS := fun D σ H => tv σ H fun v H1 => td σ H1 fun x H2 => ty σ H2 fun y H3 => ∃ a H4, x = .ref a ∧ DPut H3 a y v H4 ∧ D.nx σ H4

section
variable {X : Cx} {o i e value : Expr} {pos pos' tpos : Pos} {td ty tv : TE}
theorem pe_dget (hu : X.A.units + 1 < cLine) (ho : PE X o td) (hi : PE X i ty) (hs : NoSl i) : PE X (.Subscript o i pos) (tDGet td ty) := by
  intro pins s σ H Q I h
  refine subD_of PySem.F.slot_dict_getitem.lookup hs (thn (ho pins s σ H _ I h) fun u s1 ⟨x, H1, I1, rx, q1⟩ => thn (hi pins s1 σ H1 _ I1 q1) fun iv s2 zq68 => ?_)
  obtain ⟨y, H2, I2, ry, a, v, ex, g, q2⟩ := zq68
  subst ex
  obtain rfl : u = Value.ref a := rx
  exact ⟨dict_typeIs I2 g, d_getItem hu I2 g ry fun w' s3 I3 rw' => ⟨v, H2, I3, rw', q2⟩⟩
theorem ps_dput (hu : X.A.units + 1 < cLine) (ho : PE X o td) (hi : PE X i ty) (hv : PE X value tv) (hs : swapsWith value (some (.Subscript o i pos')) pos.line X.env = pure false) :
    PS X (.Assign [.Subscript o i pos'] value pos) (sDPut td ty tv) := by
  intro pins s σ H D I h
  refine wpAny_Assign_Subscript (thn (hv pins s σ H _ I h) fun r s1 ⟨v, H1, I1, rv, q1⟩ => thn (ho pins s1 σ H1 _ I1 q1) fun u s2 ⟨x, H2, I2, rx, q2⟩ => thn (hi pins s2 σ H2 _ I2 q2) fun iv s3 zq71 => ?_) hs
  obtain ⟨y, H3, I3, ry, a, H4, ex, g, q3⟩ := zq71
  subst ex
  obtain rfl : u = Value.ref a := rx
  exact d_setItem hu I3 g ry rv fun s4 I4 => ⟨σ, H4, I4, q3⟩
end


theorem dk_empty {P : Program} {w : World} {H : Hp} (h : Heap) (hb : sysModules < h.objs.size) : ObjOk P w H (h.push { cls := .type "dict", data := .dict #[] }) h.objs.size (.dK []) :=
  ⟨Nat.zero_le _, beq_eq_false_iff_ne.mpr (Ne.symm (Nat.ne_of_lt hb)), [], .nil, Heap.DictOf.new h⟩
section
variable {X : Cx} {pos : Pos}
end

noncomputable def tPairs : List (TE × TE) → St → Hp → (List (V × V) → Hp → Prop) → Prop
  | [], _, H, Q => Q [] H
  | (tk, tv) :: r, σ, H, Q => tk σ H fun x H1 => tv σ H1 fun y H2 => tPairs r σ H2 fun ps H3 => Q ((x, y) :: ps) H3
noncomputable abbrev VV : List (V × V) → List (Value × Value) → Prop := Paired fun p q => RelV p.1 q.1 ∧ RelV p.2 q.2
noncomputable def PPs (X : Cx) (pos : Pos) (keys : List (Option Expr)) (values : List Expr) (trs : List (TE × TE)) : Prop :=
  ∀ (pins : List (Addr × Obj)) (s : Shared) (σ : St) (H : Hp) (Q : List (V × V) → Hp → Prop), Inv X pins σ H s → tPairs trs σ H Q →
    wpAny (model X.prog X.w) X.A (evalPairs (pairTrees keys values X.env pos)) (fun vs s' => ∃ ps H', Inv X pins σ H' s' ∧ VV ps vs ∧ Q ps H') X.xe s
theorem pps_nil {X : Cx} {pos : Pos} : PPs X pos [] [] [] := fun pins s σ H Q I h => pairTrees_nil_walk ⟨[], H, I, .nil, h⟩
theorem pps_cons {X : Cx} {pos : Pos} {k v : Expr} {ks : List (Option Expr)} {vs : List Expr} {tk tv : TE} {trs : List (TE × TE)} (hk : PE X k tk) (hv : PE X v tv) (hr : PPs X pos ks vs trs) :
    PPs X pos (some k :: ks) (v :: vs) ((tk, tv) :: trs) := fun pins s σ H Q I h =>
  pairTrees_cons_walk (thn (hk pins s σ H _ I h) fun u s1 ⟨x, H1, I1, rx, q1⟩ => thn (hv pins s1 σ H1 _ I1 q1) fun w2 s2 ⟨y, H2, I2, ry, q2⟩ =>
    thn (hr pins s2 σ H2 _ I2 q2) fun ws s3 zq75 => (by obtain ⟨ps, H3, I3, rel, q3⟩ := zq75; exact ⟨(x, y) :: ps, H3, I3, .cons ⟨rx, ry⟩ rel, q3⟩))

noncomputable def mergeK (kvs more : List (Key × V)) : List (Key × V) := more.foldl (fun acc kv => putK acc kv.1 kv.2) kvs
theorem KV.merge : ∀ {more : List (Key × V)} {rs : List (Key × Value)} {kvs : List (Key × V)} {vs : List (Key × Value)}, KV more rs → KV kvs vs → KV (mergeK kvs more) (merged vs rs) := by
  intro more rs kvs vs r
  unfold KV at r
  induction r generalizing kvs vs with
  | nil => intro q; exact q
  | @cons p q ps qs h t ih =>
    intro r0
    have e : KV (putK kvs p.1 p.2) (stored vs q.1 q.2) := by
      have := r0.put p.1 h.2
      rw [← h.1]; exact this
    exact ih e
theorem length_mergeK : ∀ (more kvs : List (Key × V)), (mergeK kvs more).length ≤ kvs.length + more.length
  | [], kvs => by show kvs.length ≤ kvs.length + 0; omega
  | p :: r, kvs => by
    have h1 := length_mergeK r (putK kvs p.1 p.2)
    have h2 := length_putK kvs p.1 p.2
    show (mergeK (putK kvs p.1 p.2) r).length ≤ _
    rw [List.length_cons]; omega
theorem carries_of {P : Program} {w : World} : ∀ {kvs : List (Key × V)} {ws : List (Value × Value)}, VV (kvs.map fun kv => (kV kv.1, kv.2)) ws → ∃ rs, Carries (mixKind P w) ws rs ∧ KV kvs rs
  | [], _, r => by rw [List.map_nil] at r; cases r; exact ⟨[], True.intro, .nil⟩
  | p :: kvs, _, r => by
    rw [List.map_cons] at r
    cases r with
    | @cons a b as bs h t =>
      obtain ⟨rs, c, q⟩ := carries_of (P := P) (w := w) t
      obtain ⟨b1, b2⟩ := b
      exact ⟨(p.1, b2) :: rs, ⟨kV_is h.1, rfl, c⟩, .cons ⟨rfl, h.2⟩ q⟩
noncomputable def tDisp (trs : List (TE × TE)) : TE := fun σ H Q => ∀ p, H p = none → tPairs trs σ (upd H p (.dK [])) fun ps H2 => H2 p = some (.dK []) ∧ ∃ kvs : List (Key × V), ps = kvs.map (fun kv => (kV kv.1, kv.2)) ∧ kvs.length ≤ 15 ∧ Q (.ref p) (upd H2 p (.dK (mergeK [] kvs)))
theorem pe_disp {X : Cx} {pos : Pos} {keys : List (Option Expr)} {values : List Expr} {trs : List (TE × TE)} (h : PPs X pos keys values trs) (hall : keys.all (·.isSome) = true) (hl : keys.length = values.length) (h0 : keys ≠ [])
    (h15 : keys.length ≤ 15) : PE X (.Dict keys values pos) (tDisp trs) := by
  intro pins s σ H Q I q
  have hn := I.hok.fresh (Nat.le_refl s.heap.objs.size)
  have I1 := I.laid (a := s.heap.objs.size) (o := .dK []) (h' := s.heap.push { cls := .type "dict", data := .dict #[] }) (t' := s.toks) (fun _ _ q => Heap.get?_push_of_some _ q) (Nat.le_refl _) (dk_empty s.heap I.big)
  refine wpAny_Dict_walk (knd := mixKind X.prog X.w) hall hl h0 h15 (thn (h pins _ σ _ _ I1 (q _ hn)) fun ws s2 zq76 => ?_)
  obtain ⟨ps, H2, I2, rel, e, kvs, ep, lk, q2⟩ := zq76
  subst ep
  obtain ⟨rs, c, rk⟩ := carries_of (P := X.prog) (w := X.w) rel
  obtain ⟨z, hd, vs0, r0, dd⟩ := dk_of I2.hok e
  cases r0
  refine ⟨rs, c, dd, fun h' dd' hs => ⟨.ref s.heap.objs.size, _, ?_, rfl, q2⟩⟩
  have hz : (mergeK [] kvs).length ≤ sizeLine := by
    have h1 := length_mergeK kvs []
    rw [List.length_nil] at h1
    rw [sizeLine_eq]; omega
  have he : ∃ q, h'.get? s.heap.objs.size = some q := let ⟨q, _, _, hq, _⟩ := dd'; ⟨q, hq⟩
  exact d_write I2 (by rw [e]; exact True.intro) hs he (dk_new hz hd (rk.merge .nil) dd')


structure M1 (X : Cx) (o : Expr) (m : Str) (apos : Pos) (e : Expr) (cpos : Pos) : Prop where
  base : attributeBase o m X.env (eval o X.env) = eval o X.env
  few : ((backTo cpos (starEach [e] X.env)).all (fun x => !x.1) && (backToKw cpos (keywordEach [] X.env)).all (fun x => x.1.isSome)
    && decide (([e] : List Expr).length + ([] : List Keyword).length + (if ([] : List Keyword).isEmpty then 0 else 1) < 30)) = true
  line : (apos.endLine == cpos.line) = true
  trees : backTo cpos (starEach [e] X.env) = [(false, eval e X.env)]
structure M2 (X : Cx) (o : Expr) (m : Str) (apos : Pos) (e f : Expr) (cpos : Pos) : Prop where
  base : attributeBase o m X.env (eval o X.env) = eval o X.env
  few : ((backTo cpos (starEach [e, f] X.env)).all (fun x => !x.1) && (backToKw cpos (keywordEach [] X.env)).all (fun x => x.1.isSome)
    && decide (([e, f] : List Expr).length + ([] : List Keyword).length + (if ([] : List Keyword).isEmpty then 0 else 1) < 30)) = true
  line : (apos.endLine == cpos.line) = true
  trees : backTo cpos (starEach [e, f] X.env) = [(false, eval e X.env), (false, eval f X.env)]


section
variable {X : Cx} {pins : List (Addr × Obj)} {σ : St} {H : Hp} {s : Shared} {a : Addr} {y d : V} {u r : Value} {o : Option V} {A : Around} {E : Value → Shared → Prop}
end

section
variable {X : Cx} {o e f : Expr} {apos cpos : Pos} {td ty tx : TE}
end

section
variable {X : Cx} {pins : List (Addr × Obj)} {σ : St} {H : Hp} {s : Shared} {a : Addr} {kvs : List (Key × V)} {A : Around} {E : Value → Shared → Prop}
end


section
variable {X : Cx} {pins : List (Addr × Obj)} {σ : St} {H : Hp} {s : Shared} {a : Addr} {y : V} {u : Value} {A : Around} {E : Value → Shared → Prop}
end
end L2

namespace Att
open PySem PySem.W PySem.Calls PyProof.Rows

theorem ints_of_wellAll {P : Params} {h : Heap} : ∀ (ns : List Int) (vs : List Value), WellAll P h vs (ns.map WData.int) → IntsAre vs ns := by
  intro ns
  induction ns with
  | nil =>
    intro vs w
    rw [List.map_nil] at w
    cases w
    exact .nil
  | cons n ns ih =>
    intro vs w
    rw [List.map_cons] at w
    cases w with
    | cons a b =>
      cases a
      exact .cons _ _ (ih _ b)

theorem script_of {l : OpenLaw} {n : Nat} (hn : l.most = some n) {P : Params} {h : Heap} {args : List WData} {vals : List Value}
    (hpre : l.row.toRowW.claim.pre args = true) (hwl : WellAll P h vals args) :
    ∃ a vs ns, vals = [Value.ref a] ∧ args = [WData.list (ns.map WData.int)] ∧ h.get? a = some { cls := .type "list", data := .seq vs.toArray } ∧ IntsAre vs ns ∧ ns.length ≤ n := by
  have hsh : WShape.hasAll [] args [.list .int] = true := (pre_splitW hpre).1
  have hc : l.pre.holds [] { args := args } = true := (pre_splitW hpre).2
  obtain ⟨d, r, rfl, h1, h2⟩ := hasAllW_cons hsh
  obtain rfl := hasAllW_nil h2
  obtain ⟨xs, rfl, h3⟩ := hasW_list h1
  obtain ⟨ns, rfl⟩ := items_int h3
  have hlen : ns.length ≤ n := by
    unfold OpenLaw.pre at hc
    have h4 : (WTm.not (.lt (.lit (.int (n : Int))) (.len (.arg 0)))).holds [] { args := [.list (ns.map .int)] } = true := by
      have h4 := (holds_andW hc).1
      rw [hn] at h4
      exact h4
    have h5 := condW_of h4 (w_not (w_lt w_lit (w_len_list (w_arg rfl))))
    rw [List.length_map] at h5
    refine Nat.le_of_not_lt fun q => ?_
    have q' : (n : Int) < ((ns.length : Nat) : Int) := by omega
    first
      | (rw [decide_eq_true q'] at h5; exact absurd h5 (by decide))
      | (simp at h5; omega)
  cases hwl with
  | cons w1 w2 =>
    cases w2
    cases w1 with
    | list ho hall => exact ⟨_, _, ns, rfl, rfl, ho, ints_of_wellAll ns _ hall, hlen⟩

theorem post_true (l : OpenLaw) (args : List WData) : l.row.toRowW.claim.post args (.bool true) args = true :=
  postW_of (r := l.row.toRowW) (X := (true == true))
    (show WShape.has [] (.bool true) .bool = true by first | rfl | decide | simp [WShape.has, WShape.arms, WShape.armsAll])
    (show (WTm.eq .res (.lit (.bool true))).value [] { args := args, res := some (.bool true), after := args } = some (.bool (true == true)) from w_eq_bool (w_res rfl) w_lit) rfl


theorem attach_call {l : OpenLaw} {n : Nat} {q : Program} {loose : List Str} {XP : (Str → Option Value) → Heap → Prop} {YP : World → Heap → Prop} {d : DefRec}
    (hn : l.most = some n) (hdf : d.params.defaults = [])
    (call : ∀ (w : World) (s₀ s₁ : Shared) (mg mb : Str → Option Value) (fa : Addr) (o : Obj) (pm cd doc : Value) (a : Addr) (vs : List Value) (ns : List Int),
      Ground q loose [] XP w s₀ mg mb s₁.heap → YP w s₁.heap →
      s₁.heap.get? fa = some o → o.data = .func (docDef d.name d.params d.body d.scope pm cd doc) → s₁.heap.CodeRec cd d.name → mg d.name = some (.ref fa) →
      s₁.heap.get? a = some { cls := .type "list", data := .seq vs.toArray } → IntsAre vs ns → ns.length ≤ n → s₁.gens = #[] →
      codeAny (model l.prog w) callerA (.call (.ref fa) ⟨[.ref a], []⟩) (fun r s' => r = .ok (.ret (.bool true)) ∧ OldK s₁.heap s'.heap ∧ s'.os = s₁.os ∧ AllBare s'.gens) s₁) :
    WalkO q loose XP YP l.row.toRowW d [] (fun f vs => PySem.call f vs) := by
  intro w s₀ s₁ mg mb G Y fa o pm cd doc dV kV ho hd hcd hD hmg hg args vals as hpre hlay hrd hwl hlo
  obtain rfl : dV = .none := Dflts.none hD hdf
  obtain rfl : kV = .none := Dflts.noKw hD
  obtain ⟨a, vs, ns, rfl, rfl, hobj, hints, hlen⟩ := script_of hn hpre hwl
  refine enter_call (codeAny_mono (call w s₀ s₁ mg mb fa o pm cd doc a vs ns G Y ho (fd_plain hd) hcd hmg hobj hints hlen hg) fun r s' hq => ?_)
  obtain ⟨rfl, h2, h3, h4⟩ := hq
  exact ⟨.inl ⟨.bool true, .bool true, [], rfl, fun _ => rfl, .bool true, post_true l _, fun _ => ⟨List.Pairwise.nil, fun _ hm => (nomatch hm)⟩⟩, h2, h3, h4⟩


section
variable {prog : Program} {w : World} {A : Around} {E : Value → Shared → Prop} {s : Shared} {K : Frag}






end
end Att

namespace L2
open PySem PySem.Spec PyProof.Rows

theorem vals_ints : ∀ {vs : List Value} {ns : List Int}, IntsAre vs ns → Vals (ns.map V.int) vs
  | _, _, .nil => .nil
  | _, _, .cons n t h => .cons ⟨t, rfl⟩ (vals_ints h)

noncomputable def Only (H : Hp) : Prop := ∀ b, H b = none ∨ ∃ o xs, H b = some (.frz o (.lst xs))

theorem law_call {P : Program} {w : World} {K : PySem.W.Frag} {mg mb : Str → Option Value} {CX : CXT} {k : Nat} {fa a : Addr} {fd : FuncData} {x : Str} {sp : Sp} {s₁ : Shared} {vs : List Value} {ns : List Int}
    (KX : K.In s₁.heap) (hns : s₁.heap.Ns mainGlobals mg) (hb : s₁.heap.Ns builtinsNs mb) (hbb : ∀ x : Str, x ≠ "__name__" → mb x = bootBuiltins x) (hlim : s₁.heap.NoLimit) (hg : s₁.gens = #[])
    (ha : s₁.heap.get? a = some { cls := .type "list", data := .seq vs.toArray }) (hi : IntsAre vs ns) (hl : ns.length ≤ sizeLine) (hr : Room k callerA)
    (F : ∀ base : Heap, K.In base → base.Ns mainGlobals mg → FnOk P w K mg base CX k fa fd [x] sp) (hbind : ∀ (s : Shared) (u : Value), BindsTo s fd ⟨[u], []⟩ [(x, u)])
    (hsp : ∀ H : Hp, Only H → SqL K H a (ns.map V.int) → sp [.ref a] H (fun v _ => v = .bl true) fun _ _ _ => False)
    (hCX : ∀ H e s', CX [] H s₁ (fun _ _ _ => False) e s' → False) :
    codeAny (model P w) callerA (.call (.ref fa) ⟨[.ref a], []⟩) (fun r s' => r = .ok (.ret (.bool true)) ∧ OldK s₁.heap s'.heap ∧ s'.os = s₁.os ∧ AllBare s'.gens) s₁ := by
  have rv := vals_ints hi
  have lenV := hi.length
  -- from an abstract heap in which nothing but the script may be tracked
  have core : ∀ H : Hp, Only H → SqL K H a (ns.map V.int) → HOk P w H s₁.heap → (∀ b, H b ≠ none → b = a) → (H a ≠ none → K.lookup a = none) →
      codeAny (model P w) callerA (.call (.ref fa) ⟨[.ref a], []⟩) (fun r s' => r = .ok (.ret (.bool true)) ∧ OldK s₁.heap s'.heap ∧ s'.os = s₁.os ∧ AllBare s'.gens) s₁ := by
    intro H hO hS hok hA hK
    have base_of : ∀ {b : Addr} {o : Obj}, s₁.heap.get? b = some o → H b = none → (hidT s₁.heap H).get? b = some o := fun e n => hidT_get e n
    have noA : ∀ {b : Addr} {o : Obj} {es : Array DictEntry} {ep : Nat}, s₁.heap.get? b = some o → o.data = .dict es ep → H b = none := fun {b o es ep} e d => by
      cases q : H b with
      | none => rfl
      | some u =>
        have e' : b = a := hA b (by rw [q]; simp)
        subst e'
        rw [ha] at e; cases e
        have d' : Data.seq vs.toArray _ = Data.dict es ep := d
        cases d'
    have nsK : ∀ {b : Addr} {m : Str → Option Value}, s₁.heap.Ns b m → (hidT s₁.heap H).Ns b m := fun {b m} ⟨o, es, ep, e, d, r⟩ => ⟨o, es, ep, base_of e (noA e d), d, r⟩
    have hKb : K.In (hidT s₁.heap H) := fun b o e => base_of (KX b o e) (by
      cases q : H b with
      | none => rfl
      | some u =>
        have e' : b = a := hA b (by rw [q]; simp)
        subst e'
        rw [hK (by rw [q]; simp)] at e; cases e)
    have hM : Mod K mg (hidT s₁.heap H) := ⟨hKb, nsK hns, ⟨mb, nsK hb, hbb⟩, let ⟨mc, h1, h2⟩ := hlim; ⟨mc, nsK h1, h2⟩⟩
    have e0 : Env0 P w K mg (hidT s₁.heap H) callerA [] s₁ H := ⟨rfl, hM, fun b o e => of_hidT e, Nat.le_of_eq (hidT_size _ _), trivial, fun b hb => absurd (show b ∈ ([] : List Addr) from hb) (by simp), hok, .of_eq hg⟩
    refine codeAny_mono ((F _ hKb (nsK hns)).run callerA [] s₁ H ⟨[.ref a], []⟩ [.ref a] [.ref a] _ _ hr e0 (hbind s₁ (.ref a)) (.cons rfl .nil) (hsp H hO hS)) fun r s' h => ?_
    cases r with
    | error e => exact (hCX H e s' h).elim
    | ok fl =>
      cases fl with
      | next => exact False.elim h
      | brk => exact False.elim h
      | cont => exact False.elim h
      | ret u =>
        obtain ⟨v, H', os, bare, un, hok', r', q⟩ := h
        have q' : v = .bl true := q
        subst q'
        obtain rfl : u = Value.bool true := r'
        refine ⟨rfl, OldK.of_keep fun b o e => ?_, os, bare⟩
        cases q : H b with
        | none => exact un.keep b o e q (by intro z; exact absurd (show b ∈ ([] : List Addr) from z) (by simp)) (by simp)
        | some u =>
          rcases hO b with z | ⟨ob, xs, z⟩
          · rw [q] at z; cases z
          · have z2 := un.frzs b ob _ z
            obtain ⟨e1, _⟩ := hok b _ z
            obtain ⟨e2, _⟩ := hok' b _ z2
            rw [e] at e1; cases e1
            exact e2
  cases hk : K.lookup a with
  | some o =>
    -- the script is one of the module's own objects
    have e := KX a o hk
    rw [ha] at e
    cases e
    refine core (fun _ => none) (fun _ => .inl rfl) (.inr ⟨_, vs.toArray, _, hk, rfl, rfl, rfl, by rw [List.size_toArray, lenV]; exact hl, by simpa using rv⟩) (fun b u z => by have z' : (none : Option HO) = some u := z; cases z') (fun b z => absurd rfl z) fun z => absurd rfl z
  | none =>
    refine core (fun b => if b = a then some (.frz { cls := .type "list", data := .seq vs.toArray } (.lst (ns.map V.int))) else none) (fun b => ?_) (.inl (.inr ⟨{ cls := .type "list", data := .seq vs.toArray }, if_pos rfl⟩)) (fun b u z => ?_) (fun b z => ?_) fun _ => hk
    · by_cases hb : b = a
      · exact .inr ⟨_, _, if_pos hb⟩
      · exact .inl (if_neg hb)
    · by_cases hb : b = a
      · have z' := (if_pos hb).symm.trans z
        cases z'
        subst hb
        exact ⟨ha, by rw [List.length_map]; exact hl, vs, _, rv, ha⟩
      · have z' := (if_neg hb).symm.trans z
        cases z'
    · by_cases hb : b = a
      · exact hb
      · exact absurd (if_neg hb) z
end L2

namespace L2
open PySem PySem.Spec PyProof.Rows


theorem walk_of {l : PySem.W.OpenLaw} {n k : Nat} {q : Program} {loose : List Str} {XP : (Str → Option Value) → Heap → Prop} {YP : World → Heap → Prop} {d : DefRec} {K : Params → PySem.W.Frag} {CX : World → CXT} {sp : World → Sp} {x : Str}
    (hn : l.most = some n) (hn2 : n ≤ sizeLine) (hdf : d.params.defaults = []) (hr : Room k callerA)
    (hY : ∀ (w : World) (h : Heap), YP w h → (K w.params).In h)
    (F : ∀ (w : World) (mg : Str → Option Value) (fa : Addr) (h : Heap), (K w.params).In h → h.Ns mainGlobals mg → mg d.name = some (.ref fa) →
      ∃ fd : FuncData, (∀ (s : Shared) (u : Value), BindsTo s fd ⟨[u], []⟩ [(x, u)]) ∧
        ∀ base : Heap, (K w.params).In base → base.Ns mainGlobals mg → FnOk l.prog w (K w.params) mg base (CX w) k fa fd [x] (sp w))
    (hsp : ∀ (w : World) (H : Hp) (a : Addr) (ns : List Int), ns.length ≤ n → Only H → SqL (K w.params) H a (ns.map V.int) → sp w [.ref a] H (fun v _ => v = .bl true) fun _ _ _ => False)
    (hCX : ∀ (w : World) (H : Hp) (s : Shared) (e : Value) (s' : Shared), CX w [] H s (fun _ _ _ => False) e s' → False) :
    PySem.W.WalkO q loose XP YP l.row.toRowW d [] (fun f vs => PySem.call f vs) := by
  refine Att.attach_call hn hdf fun w s₀ s₁ mg mb fa o pm cd doc a vs ns G Y ho hd hcd hmg hobj hints hlen hg => ?_
  have KX := hY w _ Y
  obtain ⟨fd, hb, hF⟩ := F w mg fa _ KX G.T.g hmg
  exact law_call KX G.T.g G.T.b G.T.builtins G.T.nolimit hg hobj hints (Nat.le_trans hlen hn2) hr hF hb (fun H hO hS => hsp w H a ns hlen hO hS) fun H e s' => hCX w H s₁ e s'
end L2

/- THE LAST THEOREM (shape; LID, My.* are yours):
   My.Adr: a structure of the addresses that your layer names (classes, functions); My.Txt K t: a structure (Prop) of the equations over K;
   My.txt_mk : {K} {implicit addresses ..} (e1 : nsIn K mainGlobals "law" = some (some (.ref f))) (e2 : K.lookup f = some ⟨oc, od, .func (fnOf "law" "law" params body scope dV kV doc pm an cdv ct), sl⟩) (e3 : codeIn K cdv "law" = true) .. : ∃ t, My.Txt K t

set_option maxRecDepth 100000 in
set_option maxHeartbeats 0 in
theorem PySem.Challenge.cw_LID_holds : PySem.Challenge.rw_LID.Holds := by
  w_on; o_law; k_head; (case hw => w_witness2)
  k_fill
  refine L2.walk_of (l := PySem.Challenge.rw_LID) (n := 63) (k := 40) (x := "script") (CX := fun w => ..) (sp := fun _ => My.sp_law) rfl (by decide) rfl ⟨rfl, by decide, by decide⟩ (fun w h Y => PySem.W.kIn_of Y) ?F ?S ?C
  case F =>
    intro w mg fa h KX G hmg
    have T : ∃ t, My.Txt (L2.KOf KX) t := by
      dsimp only [L2.KOf]                          -- K must stand as «<heap const> w.params» for k_is
      refine' My.txt_mk ?e1 ?e2 ?e3 ..
      (case e1 => PySem.W.k_is)                    -- in the order: a name -> its address -> its object -> its parts
      (case e2 => PySem.W.k_is)
      ..
    obtain ⟨t, T⟩ := T
    have e0 := hmg.symm.trans (PySem.W.mg_of KX G T.law)
    cases e0                                       -- fa is the law's own address
    exact ⟨_, fun s u => .of_eq rfl, fun base kb nb => My.law_fn T kb nb⟩     -- if «.of_eq rfl» comes too early: refine' ⟨_, ?b, fun base kb nb => My.law_fn T kb nb⟩; exact fun s u => .of_eq rfl
  case S => exact fun w H a ns hl hO hS => ..
  case C => exact ..
(the tactic k_is has no namespace: write k_is) -/

namespace L2
open PySem PySem.Spec PyProof.Rows

noncomputable def defArgs (s : Stmt) : Arguments := match s with
  | .FunctionDef _ a _ _ _ _ _ _ _ _ => a
  | _ => { posonlyargs := [], args := [], vararg := none, kwonlyargs := [], kw_defaults := [], kwarg := none, defaults := [] }
noncomputable def defBody (s : Stmt) : List Stmt := match s with
  | .FunctionDef _ _ b _ _ _ _ _ _ _ => b
  | _ => []
noncomputable def defScope (s : Stmt) : Scope := match s with
  | .FunctionDef _ _ _ _ _ _ sc _ _ _ => sc
  | _ => { kind := .function, names := [], isGenerator := false, isCoroutine := false }

noncomputable abbrev CX0 : CXT := fun _ _ _ _ _ _ => False
noncomputable abbrev E0 : XK := fun _ _ _ => False
theorem pass0 {X : Cx} : Passes CX0 X E0 := fun _ _ _ _ _ _ _ h => h.elim

structure Fun (K : PySem.W.Frag) (x qual : Str) (st : Stmt) (f : Addr) (fd : FuncData) : Prop where
  ex : ∃ (oc : Value) (od : Option Addr) (kV doc pm : Value) (an : Option Addr) (cdv ct : Value) (osl : Array (Option Value)),
    fd = PySem.W.fnOf x qual (defArgs st) (defBody st) (defScope st) .none kV doc pm an cdv ct ∧ K.lookup f = some ⟨oc, od, .func fd, osl⟩ ∧ PySem.W.codeIn K cdv qual = true
  kp : PySem.W.keepIn K (.ref f) = true
section
variable {P : Program} {w : World} {K : PySem.W.Frag} {mg : Str → Option Value} {base : Heap}
theorem Fun.ok {x qual : Str} {st : Stmt} {f : Addr} {fd : FuncData} {N ps : List Str} {k : Nat} {sp : Sp} (F : Fun K x qual st f fd) (S : FnScope N ps (defScope st)) (len : ∀ vs H Q E, sp vs H Q E → vs.length = ps.length)
    (hbody : ∀ (cdv : Value) (A : Around) (outer : List Env) (s : Shared) (H : Hp) (vs : List V) (Q : VK) (E : XK), Room k (A.deeper (envOfC qual (defScope st) s.heap.objs.size f cdv)) → sp vs H Q E →
      ∃ t, PSs (cxOf CX0 P w K mg base N qual (defScope st) f cdv A outer s H E).nox (defBody st) t ∧ t { nx := fun _ H' => Q .non H', rt := Q } (start N vs) H) : FnOk P w K mg base CX0 (k + 1) f fd ps sp := by
  obtain ⟨oc, od, kV, doc, pm, an, cdv, ct, osl, rfl, lk, hcd⟩ := F.ex
  refine fn_of lk hcd S len fun A outer s H vs Q E hr hsp => ?_
  obtain ⟨t, h, q⟩ := hbody cdv A outer s H vs Q E hr hsp
  exact ⟨t, h.nox, q⟩
theorem Fun.binds {x qual : Str} {st : Stmt} {f : Addr} {fd : FuncData} {ps : List Str} (F : Fun K x qual st f fd)
    (h : ∀ (kV doc pm : Value) (an : Option Addr) (cdv ct : Value) (us : List Value), us.length = ps.length → bindArgs (PySem.W.fnOf x qual (defArgs st) (defBody st) (defScope st) .none kV doc pm an cdv ct) ⟨us, []⟩ = pure (ps.zip us)) : Binds K fd ps [] := by
  obtain ⟨oc, od, kV, doc, pm, an, cdv, ct, osl, rfl, lk, hcd⟩ := F.ex
  exact .all (h kV doc pm an cdv ct)
theorem fun_mk {x qual : Str} {st : Stmt} {f : Addr} {oc : Value} {od an : Option Addr} {osl : Array (Option Value)} {kV doc pm cdv ct : Value} (l : K.lookup f = some ⟨oc, od, .func (PySem.W.fnOf x qual (defArgs st) (defBody st) (defScope st) .none kV doc pm an cdv ct), osl⟩)
    (c : PySem.W.codeIn K cdv qual = true) (k : PySem.W.keepIn K (.ref f) = true) : Fun K x qual st f (PySem.W.fnOf x qual (defArgs st) (defBody st) (defScope st) .none kV doc pm an cdv ct) := ⟨⟨oc, od, kV, doc, pm, an, cdv, ct, osl, rfl, l, c⟩, k⟩
end
theorem hu_of {A : Around} {k : Nat} (hr : Room k A) : A.units + 1 < cLine := Nat.lt_of_le_of_lt (Nat.add_le_add_left (by decide : 1 ≤ 64) _) hr.units

section
variable {X : Cx}
theorem pv (i : Nat) {x : Str} {pos : Pos} (hN : X.N[i]? = some x := by rfl) (hv : Vis X.env.scope x := by first | exact Or.inl rfl | exact Or.inr (Or.inl rfl) | exact Or.inr (Or.inr rfl)) (hd : (x == ("__debug__" : Str)) = false := by decide)
    (hcd : (x == ("__classdict__" : Str)) = false := by decide) : PE X (.Name x pos) (tVar i) := pe_var hN hv hd hcd
end

theorem iteF {A B : Prop} (h : B) : if false = true then A else B := by
  rw [if_neg Bool.false_ne_true]
  exact h
theorem ite2 {c A B : Prop} [Decidable c] (h1 : c → A) (h2 : ¬ c → B) : if c then A else B := by
  by_cases h : c
  · rw [if_pos h]
    exact h1 h
  · rw [if_neg h]
    exact h2 h

noncomputable def Same (H H' : Hp) : Prop := ∀ b o, H b = some o → H' b = some o
theorem Same.trans {H H1 H2 : Hp} (a : Same H H1) (b : Same H1 H2) : Same H H2 := fun c o h => b c o (a c o h)
theorem Same.seq {K : PySem.W.Frag} {H H' : Hp} {a : Addr} {xs : List V} (e : Same H H') (h : SqL K H a xs) : SqL K H' a xs := by
  rcases h with (h | ⟨o, h⟩) | h
  · exact .inl (.inl (e _ _ h))
  · exact .inl (.inr ⟨o, e _ _ h⟩)
  · exact .inr h

section
variable {κ : Type} [DecidableEq κ]
end
end L2
set_option Elab.async false
set_option linter.all false
set_option maxRecDepth 100000
namespace L2
open PySem PySem.Spec PyProof.Rows

noncomputable def clOf (cells : List (Str × Addr)) : List (Str × NameKind) → List (Str × Addr) → List (Str × Addr)
  | [], acc => acc
  | (x, k) :: r, acc => if k == NameKind.free then clOf cells r ((x, (cells.lookup x).getD 0) :: acc) else clOf cells r acc
theorem clOf_mem {cells : List (Str × Addr)} {p : Str × Addr} : ∀ {names : List (Str × NameKind)} {acc : List (Str × Addr)}, p ∈ clOf cells names acc → p ∈ acc ∨ ((p.1, NameKind.free) ∈ names ∧ p.2 = (cells.lookup p.1).getD 0)
  | [], _, h => .inl h
  | (x, k) :: r, acc, h => by
    unfold clOf at h
    by_cases hk : (k == NameKind.free) = true
    · rw [if_pos hk] at h
      have ek : k = NameKind.free := by simpa using hk
      subst ek
      rcases clOf_mem h with h | ⟨h, e⟩
      · rcases List.mem_cons.mp h with h | h
        · subst h
          exact .inr ⟨List.mem_cons_self, rfl⟩
        · exact .inl h
      · exact .inr ⟨List.mem_cons_of_mem _ h, e⟩
    · rw [if_neg hk] at h
      rcases clOf_mem h with h | ⟨h, e⟩
      · exact .inl h
      · exact .inr ⟨List.mem_cons_of_mem _ h, e⟩
theorem clOf_acc {cells : List (Str × Addr)} {p : Str × Addr} : ∀ {names : List (Str × NameKind)} {acc : List (Str × Addr)}, p ∈ acc → p ∈ clOf cells names acc
  | [], _, h => h
  | (x, k) :: r, acc, h => by
    unfold clOf
    split
    · exact clOf_acc (List.mem_cons_of_mem _ h)
    · exact clOf_acc h
theorem clOf_has {cells : List (Str × Addr)} {x : Str} : ∀ {names : List (Str × NameKind)} {acc : List (Str × Addr)}, (x, NameKind.free) ∈ names → (x, (cells.lookup x).getD 0) ∈ clOf cells names acc
  | [], _, h => by simp at h
  | (y, k) :: r, acc, h => by
    unfold clOf
    rcases List.mem_cons.mp h with h | h
    · have e1 : x = y := congrArg Prod.fst h
      have e2 : NameKind.free = k := congrArg Prod.snd h
      subst e1 e2
      rw [if_pos (by simp)]
      exact clOf_acc List.mem_cons_self
    · split
      · exact clOf_has h
      · exact clOf_has h
theorem lookup_of_mem {x : Str} {c : Addr} : ∀ {l : List (Str × Addr)}, (x, c) ∈ l → ∃ d, l.lookup x = some d
  | [], h => by simp at h
  | (y, d) :: r, h => by
    rw [List.lookup_cons]
    by_cases e : (x == y) = true
    · rw [e]; exact ⟨d, rfl⟩
    · have e' : (x == y) = false := by simpa using e
      rw [e']
      rcases List.mem_cons.mp h with h | h
      · have : x = y := congrArg Prod.fst h
        exact absurd (by simpa using this) e
      · exact lookup_of_mem h
theorem closureFor_is {env : Env} {scope : Scope} (h : ∀ y ∈ scope.names, y.2 = NameKind.free → ∃ c, env.cells.lookup y.1 = some c) : closureFor scope env = pure (clOf env.cells scope.names []) := by
  have all : ∀ (names : List (Str × NameKind)) (acc : List (Str × Addr)), (∀ y ∈ names, y.2 = NameKind.free → ∃ c, env.cells.lookup y.1 = some c) →
      (forIn names acc (fun (p : Str × NameKind) (r : List (Str × Addr)) => (if (p.2 == NameKind.free) = true then (do let a ← cellOf env p.1; pure (ForInStep.yield ((p.1, a) :: r))) else pure (ForInStep.yield r) : Sem (ForInStep (List (Str × Addr)))))) = (pure (clOf env.cells names acc) : Sem (List (Str × Addr))) := by
    intro names
    induction names with
    | nil => intro acc _; rfl
    | cons p r ih =>
      intro acc hh
      obtain ⟨x, k⟩ := p
      have hr : ∀ y ∈ r, y.2 = NameKind.free → ∃ c, env.cells.lookup y.1 = some c := fun y hy => hh y (List.mem_cons_of_mem _ hy)
      rw [List.forIn_cons]
      unfold clOf
      by_cases hk : (k == NameKind.free) = true
      · obtain ⟨c, hc⟩ := hh (x, k) List.mem_cons_self (by simpa using hk)
        have hc : env.cells.lookup x = some c := hc
        have ec : cellOf env x = pure c := by
          unfold cellOf
          rw [hc]
        simp only [hk, if_true, ec, pure_bind, hc, Option.getD_some]
        exact ih _ hr
      · simp only [hk, if_false, pure_bind]
        exact ih _ hr
  have e := all scope.names [] h
  unfold closureFor
  simp only [bind_pure]
  exact e

noncomputable def blkOk (scope sc : Scope) (NB own : List Str) (cap : List Nat) (N : List Str) : Bool :=
  (scope.kind == .function) && (sc.kind == .function) &&
  (scope.names.all fun y => match y.2 with
    | .cell => false
    | .free => sc.names.lookup y.1 == some NameKind.cell
    | .local => scope.names.lookup y.1 == some NameKind.local
    | _ => true) &&
  (own.all fun x => scope.names.lookup x == some NameKind.local && scope.names.all fun y => !(y.1 == x) || y.2 == NameKind.local) &&
  (NB == own ++ cap.map fun i => N.getD i "") && (cap.all fun i => decide (i < N.length) && scope.names.lookup (N.getD i "") == some NameKind.free)

structure Blk (X : Cx) (scope : Scope) (NB own : List Str) (cap : List Nat) : Prop where
  kind : scope.kind = .function
  outk : X.env.scope.kind = .function
  nocell : ∀ y ∈ scope.names, y.2 ≠ .cell
  free : ∀ y ∈ scope.names, y.2 = .free → X.env.kindOf y.1 = some .cell
  names : ∀ y ∈ scope.names, y.2 = .local → scope.names.lookup y.1 = some .local
  owns : ∀ x ∈ own, ∀ y ∈ scope.names, y.1 = x → y.2 = .local
  nb : NB = own ++ cap.map fun i => X.N.getD i ""
  caps : ∀ i ∈ cap, i < X.N.length ∧ scope.names.lookup (X.N.getD i "") = some .free
theorem blk_of {X : Cx} {scope sc : Scope} {NB own : List Str} {cap : List Nat} (hs : X.env.scope = sc) (h : blkOk scope sc NB own cap X.N = true) : Blk X scope NB own cap := by
  unfold blkOk at h
  simp only [Bool.and_eq_true] at h
  obtain ⟨⟨⟨⟨⟨h1, h2⟩, h3⟩, h4⟩, h5⟩, h6⟩ := h
  rw [List.all_eq_true] at h3 h4 h6
  subst hs
  refine ⟨by simpa using h1, by simpa using h2, fun y hy e => ?_, fun y hy e => ?_, fun y hy e => ?_, fun x hx y hy e => ?_, by simpa using h5, fun i hi => ?_⟩
  · have := h3 y hy
    rw [e] at this
    exact absurd this (by simp)
  · have := h3 y hy
    rw [e] at this
    show X.env.scope.names.lookup y.1 = some .cell
    simpa using this
  · have := h3 y hy
    rw [e] at this
    simpa using this
  · have := h4 x hx
    simp only [Bool.and_eq_true, List.all_eq_true] at this
    have q := this.2 y hy
    subst e
    simpa using q
  · have := h6 i hi
    simp only [Bool.and_eq_true] at this
    exact ⟨of_decide_eq_true this.1, by simpa using this.2⟩

noncomputable def cxB (X : Cx) (NB own : List Str) (scope : Scope) (C : Addr) (fp : List Addr) (s₀ : Shared) (H₀ : Hp) : Cx where
  prog := X.prog
  w := X.w
  K := X.K
  mg := X.mg
  base := X.base
  A := X.A
  N := NB
  s₀ := s₀
  H₀ := H₀
  env := compEnvC scope (clOf X.env.cells scope.names []) C X.env
  outer := X.stack
  stack := X.stack
  ex := fp
  fn := fun x => own.contains x
  calm := X.calm
  pn := []
  xe := fun _ _ => False

theorem relabel_free {env : Env} {x : Str} {k : NameKind} (hk : k = .cell ∨ k = .free) : ∀ {names : List (Str × NameKind)}, (∀ y ∈ names, y.2 ≠ .cell) →
    (names.map fun (n, k) => if (k == NameKind.free && env.scope.kind == .function && env.kindOf n == some .cell) then (n, NameKind.cell) else (n, k)).lookup x = some k → (x, NameKind.free) ∈ names
  | [], _, h => by simp at h
  | (n, q) :: r, hn, h => by
    have ih := @relabel_free env x k hk r fun y hy => hn y (List.mem_cons_of_mem _ hy)
    rw [List.map_cons, List.lookup_cons] at h
    have key : (if (q == NameKind.free && env.scope.kind == .function && env.kindOf n == some .cell) = true then (n, NameKind.cell) else (n, q)).1 = n := by split <;> rfl
    by_cases e : (x == n) = true
    · have en : x = n := by simpa using e
      subst en
      by_cases hq : q = .free
      · subst hq; exact List.mem_cons_self
      · have hqf : (q == NameKind.free) = false := by simpa using hq
        simp only [hqf, Bool.false_and, Bool.false_eq_true, if_false, beq_self_eq_true] at h
        have h' : q = k := Option.some.inj h
        rcases hk with z | z
        · exact absurd (h'.trans z) (hn (x, q) List.mem_cons_self)
        · exact absurd (h'.trans z) hq
    · have e' : (x == n) = false := by simpa using e
      refine List.mem_cons_of_mem _ (ih ?_)
      have e2 : (x == (if (q == NameKind.free && env.scope.kind == .function && env.kindOf n == some .cell) = true then (n, NameKind.cell) else (n, q)).1) = false := by rw [key]; exact e'
      rw [e2] at h
      exact h
theorem relabel_cap {env : Env} {x : Str} (hk : env.scope.kind = .function) (hc : env.kindOf x = some .cell) : ∀ {names : List (Str × NameKind)}, names.lookup x = some .free →
    (names.map fun (n, k) => if (k == NameKind.free && env.scope.kind == .function && env.kindOf n == some .cell) then (n, NameKind.cell) else (n, k)).lookup x = some .cell
  | [], h => by simp at h
  | (n, q) :: r, h => by
    have ih := @relabel_cap env x hk hc r
    rw [List.lookup_cons] at h
    rw [List.map_cons, List.lookup_cons]
    by_cases e : (x == n) = true
    · have en : x = n := by simpa using e
      subst en
      rw [e] at h
      have hq : q = .free := Option.some.inj h
      subst hq
      simp [hk, hc]
    · have e' : (x == n) = false := by simpa using e
      rw [e'] at h
      have key : (if (q == NameKind.free && env.scope.kind == .function && env.kindOf n == some .cell) = true then (n, NameKind.cell) else (n, q)).1 = n := by split <;> rfl
      have e2 : (x == (if (q == NameKind.free && env.scope.kind == .function && env.kindOf n == some .cell) = true then (n, NameKind.cell) else (n, q)).1) = false := by rw [key]; exact e'
      rw [e2]
      exact ih h

noncomputable def stB (own : List Str) (cap : List Nat) (σ : St) : St := (own.map fun _ => none) ++ cap.map fun i => (σ[i]?).getD none

section
variable {X : Cx} {pins : List (Addr × Obj)} {σ : St} {H : Hp} {s : Shared} {scope : Scope} {NB own : List Str} {cap : List Nat} {fp : List Addr} {C : Addr}
theorem Blk.cells (B : Blk X scope NB own cap) (ok : X.Ok) {x : Str} {c : Addr} (h : (clOf X.env.cells scope.names []).lookup x = some c) : X.env.cells.lookup x = some c ∧ (x, NameKind.free) ∈ scope.names := by
  rcases clOf_mem (PySem.mem_of_lookup h) with q | ⟨q, e⟩
  · simp at q
  · obtain ⟨d, hd⟩ := ok.has x (.inl (B.free (x, .free) q rfl))
    have e : c = (X.env.cells.lookup x).getD 0 := e
    rw [hd] at e
    refine ⟨?_, q⟩
    rw [hd, e]; rfl
theorem Blk.cell (B : Blk X scope NB own cap) (ok : X.Ok) {x : Str} (h : (x, NameKind.free) ∈ scope.names) : ∃ c, (clOf X.env.cells scope.names []).lookup x = some c := lookup_of_mem (clOf_has h)
theorem Blk.start (B : Blk X scope NB own cap) (I : Inv X pins σ H s) (hf : ∀ b ∈ fp, FpOk X pins H b) (hfs : ∀ b ∈ fp, ∃ o, s.heap.get? b = some o) {h' : Heap} {tk : Nat} {m : Str → Option Value} (hC : s.heap.objs.size ≤ C)
    (k : ∀ b o, s.heap.get? b = some o → h'.get? b = some o) (hn : h'.Ns C m) :
    Inv (cxB X NB own scope C fp s H) [] (stB own cap σ) H { s with heap := h', toks := tk } := by
  have hlen : NB.length = own.length + cap.length := by rw [B.nb]; simp
  have okB : (cxB X NB own scope C fp s H).Ok := by
    refine ⟨I.ok.mod, B.kind, I.ok.glob, I.ok.blt, hC, fun x y c h1 h2 => I.ok.inj x y c (B.cells I.ok h1).1 (B.cells I.ok h2).1, fun x hx => ?_, fun x c h1 h2 => ?_, I.ok.hd, I.ok.frames, .inl rfl, fun b hb => ⟨?_, fun x c h => ?_⟩, I.bs, Nat.le_trans I.ok.bsz I.sz, fun b o e hb => ?_, fun b hb z => ?_, I.stack, I.stkFree⟩
    · have : (x, NameKind.free) ∈ scope.names := by
        rcases hx with z | z
        · exact relabel_free (.inl rfl) B.nocell z
        · exact relabel_free (.inr rfl) B.nocell z
      exact B.cell I.ok this
    · have hx : x ∈ own := by simpa [cxB] using h1
      have q := B.owns x hx _ (B.cells I.ok h2).2 rfl
      exact absurd q (by simp)
    · obtain ⟨o, e⟩ := hfs b hb
      exact Nat.ne_of_lt (Nat.lt_of_lt_of_le (Heap.lt_size e) hC)
    · exact (hf b hb).2.2.2.2.1 x c (B.cells I.ok h).1
    · have hb : b ∈ fp := hb
      rcases (hf b hb).2.2.2.1 with z | z
      · exact I.ok.noex b o e z
      · exact absurd (Nat.lt_of_lt_of_le (Heap.lt_size e) (Nat.le_trans I.ok.bsz z)) (Nat.lt_irrefl _)
    · rcases List.mem_cons.mp (I.stkSub b z) with z | z
      · exact (hf b hb).2.1 z
      · exact (hf b hb).2.2.1 z
  refine ⟨okB, rfl, I.bare, Un.kept k, ⟨m, hn, fun i x v e1 e2 e3 => ?_⟩, fun x c h => ?_, I.hok.fresh hC, fun x c h => I.freeC x c (B.cells I.ok h).1, fun p hp => absurd (show p ∈ ([] : List (Addr × Obj)) from hp) (by simp), I.hok.kept k, ?_⟩
  · have e1 : NB[i]? = some x := e1
    have hi : ¬ i < own.length := fun hi => by
      unfold stB at e2
      rw [List.getElem?_append_left (by simpa using hi), List.getElem?_map] at e2
      cases q : own[i]? <;> rw [q] at e2 <;> cases e2
    unfold stB at e2
    rw [List.getElem?_append_right (by simpa using hi), List.getElem?_map] at e2
    rw [B.nb, List.getElem?_append_right (by omega), List.getElem?_map] at e1
    simp only [List.length_map] at e2
    cases q : cap[i - own.length]? with
    | none => rw [q] at e1; cases e1
    | some j =>
      rw [q] at e1 e2
      have ex : X.N.getD j "" = x := Option.some.inj e1
      have ev : (σ[j]?).getD none = some v := Option.some.inj e2
      obtain ⟨hj, hjf⟩ := B.caps j (List.mem_of_getElem? q)
      rw [ex] at hjf
      have hN : X.N[j]? = some x := by rw [← ex, List.getD_eq_getElem?_getD, List.getElem?_eq_getElem hj]; rfl
      have hσ : σ[j]? = some (some v) := by
        cases z : σ[j]? with
        | none => rw [z] at ev; cases ev
        | some u => rw [z] at ev; exact congrArg some ev
      have hmem : (x, NameKind.free) ∈ scope.names := PySem.mem_of_lookup hjf
      have hkc := B.free _ hmem rfl
      obtain ⟨m0, hn0, hl⟩ := I.loc
      obtain ⟨u, r, l⟩ := hl j x v hN hσ (.inr (.inl hkc))
      refine ⟨u, r, .inr ⟨.inl (relabel_cap B.outk hkc hjf), ?_⟩⟩
      obtain ⟨c, hc⟩ := B.cell I.ok hmem
      refine ⟨c, hc, ?_⟩
      rcases l with ⟨z, _⟩ | ⟨_, c', hc', ⟨oc, hoc, hd⟩⟩
      · rw [show X.env.kindOf x = some .cell from hkc] at z; cases z
      · have := (B.cells I.ok hc).1
        rw [hc'] at this
        have : c' = c := Option.some.inj this
        subst this
        exact ⟨oc, k _ _ hoc, hd⟩
  · obtain ⟨v, oc, hoc, hd⟩ := I.cell x c (B.cells I.ok h).1
    exact ⟨v, oc, k _ _ hoc, hd⟩
  · show (stB own cap σ).length = NB.length
    unfold stB
    rw [hlen]; simp
theorem Blk.done (B : Blk X scope NB own cap) (I : Inv X pins σ H s) (hf : ∀ b ∈ fp, FpOk X pins H b) {σB : St} {H' : Hp} {s' : Shared} {h'' : Heap} {D : Addr} {ys : List V} {its : List Value} {n : Nat} (hC : s.heap.objs.size ≤ C) (hD : s.heap.objs.size ≤ D) (hDC : D ≠ C)
    (J : Inv (cxB X NB own scope C fp s H) [] σB H' s') (hn : H' D = none) (e : s'.heap.get? D = some { cls := .type "list", data := .seq its.toArray n }) (hv : Vals ys its) (hz : ys.length ≤ sizeLine)
    (sb : Heap.SameBut C s'.heap h'') : Inv X pins σ (upd H' D (.lst ys)) { s' with heap := h'' } := by
  have un : Un (frs X.stack) fp H H' s.heap s'.heap := J.base
  have neC : ∀ {b o}, s.heap.get? b = some o → b ≠ C := fun q => Nat.ne_of_lt (Nat.lt_of_lt_of_le (Heap.lt_size q) hC)
  have neD : ∀ {b o}, s.heap.get? b = some o → b ≠ D := fun q => Nat.ne_of_lt (Nat.lt_of_lt_of_le (Heap.lt_size q) hD)
  have hCn : H' C = none := J.free
  refine I.call' (s' := { s' with heap := h'' }) (ch := fp) J.os ⟨fun b o q n hb hx => ?_, fun b o q n hb hx => ?_, fun b o q n hx => ?_, fun b o q hx => ?_, fun b xs q => ?_, fun b o u q => ?_, fun b ps q => ?_⟩ (fun b u q => ?_) J.bare fun b hb => ?_
  · exact (sb.2 b (neC q)).trans (un.keep b o q n hb hx)
  · obtain ⟨sl, r⟩ := un.slot b o q n hb hx
    exact ⟨sl, (sb.2 b (neC q)).trans r⟩
  · rw [upd_ne (neD q)]
    exact un.free b o q n hx
  · obtain ⟨o', r⟩ := un.there b o q hx
    exact ⟨o', (sb.2 b (neC q)).trans r⟩
  · have r := un.tups b xs q
    rw [upd_ne (ne_of_none r hn)]
    exact r
  · have r := un.frzs b o u q
    rw [upd_ne (ne_of_none r hn)]
    exact r
  · obtain ⟨more, r⟩ := un.tbls b ps q
    exact ⟨more, by rw [upd_ne (ne_of_none r hn)]; exact r⟩
  · by_cases hb : b = D
    · subst hb
      rw [upd_same] at q
      cases q
      exact ⟨hz, its, n, hv, (sb.2 b hDC).trans e⟩
    · rw [upd_ne hb] at q
      refine (J.hok b u q).stay (fun c v hc r => (sb.2 c ?_).trans r) (fun c r => ?_) fun c xs r => ?_
      · rcases hc with z | z
        · rw [z]; exact ne_of_none q hCn
        · exact ne_of_none z hCn
      · rw [upd_ne (ne_of_none r hn)]; exact r
      · rw [upd_ne (ne_of_none r hn)]; exact r
  · obtain ⟨_, f1, _, f3, f4, f5⟩ := hf b hb
    exact ⟨f3, f1, f4, f5⟩
end

noncomputable def PIf (X : Cx) (ifs : List Expr) (t : TT) : Prop :=
  ∀ (pins : List (Addr × Obj)) (s : Shared) (σ : St) (H : Hp) (Q : Bool → Hp → Prop), Inv X pins σ H s → t σ H Q →
    wpAny (model X.prog X.w) X.A (forIn ifs true fun c r => if r = true then do let ok ← isTrue c X.env (eval c X.env); pure (ForInStep.yield ok) else pure (ForInStep.yield r)) (TP X pins σ Q) X.xe s
noncomputable def tYes : TT := fun _ H Q => Q true H
theorem pifs_nil {X : Cx} : PIf X [] tYes := fun _ _ _ H _ I h => wpAny_tests_nil ⟨H, I, h⟩

section
variable {prog : Program} {w : World} {A : Around} {R : Result → Shared → Prop} {s : Shared}
noncomputable abbrev noE : Value → Shared → Prop := fun _ _ => False
theorem comp_loop {elt tg iter : Expr} {ifs : List Expr} {scope : Scope} {pos : Pos} {it acc : Value} {env : Env} (I : Nat → Shared → Prop)
    (turn : ∀ n s, I n s → wpAny (model prog w) A (pyNext it) (fun r s₁ => match r with
      | none => R (.ok .next) s₁
      | some v => wpAny (model prog w) A (letOwnedTupleGo tg it v) (fun _ s₀ => wpAny (model prog w) A (assign tg env v) (fun _ s₂ =>
          wpAny (model prog w) A (forIn ifs true fun c r => if r = true then do let ok ← isTrue c env (eval c env); pure (ForInStep.yield ok) else pure (ForInStep.yield r)) (fun ok s₃ =>
            if ok = true then wpAny (model prog w) A (eval elt env) (fun x s₄ => wpAny (model prog w) A (call (.builtin "list.append") [acc, x]) (fun _ s₅ => ∃ m, m < n ∧ I m s₅) noE s₄) noE s₃
            else ∃ m, m < n ∧ I m s₃) noE s₂) noE s₀) noE s₁) noE s)
    (n : Nat) (h : I n s) : codeAny (model prog w) A (.compLoop (.ListComp elt [⟨tg, iter, ifs, 0⟩] scope pos) 0 it acc env) R s := by
  refine codeAny_loop rfl I (fun n s hI => ?_) n h
  show wpAny _ A ((compTurn (.ListComp elt [⟨tg, iter, ifs, 0⟩] scope pos) 0 it acc env).onRaise (fun x => do noteFrame x env; theTreesLotGoes x)) _ _ s
  refine wpAny_noted ?_
  rw [compTurn_list]
  refine wpAny_bind (wpAny_standAt (wpAny_bind (wpAny_mono (turn n s hI) (fun r s₁ h₁ => ?_) fun _ _ z => False.elim z)))
  cases r with
  | none => exact wpAny_pure h₁
  | some v =>
    refine wpAny_bind (wpAny_mono h₁ (fun _ s₀ h₀ => wpAny_bind (wpAny_mono h₀ (fun _ s₂ h₂ => wpAny_bind (wpAny_mono h₂ (fun ok s₃ h₃ => ?_) fun _ _ z => False.elim z)) fun _ _ z => False.elim z)) fun _ _ z => False.elim z)
    cases ok with
    | false => exact wpAny_pure ⟨rfl, h₃⟩
    | true => exact wpAny_bind (wpAny_bind (wpAny_mono h₃ (fun x s₄ h₄ => wpAny_bind (wpAny_mono h₄ (fun _ s₅ h₅ => wpAny_pure (wpAny_pure ⟨rfl, h₅⟩)) fun _ _ z => False.elim z)) fun _ _ z => False.elim z))
end

noncomputable def CompW (own : List Str) (cap : List Nat) (g : TG) (ti : TT) (te : TE) (Q : VK) (σ : St) (J : It) (H1 : Hp) : Prop := ∃ W : Nat → Nat → List V → St → Hp → Prop, (∃ m, W 0 m [] (stB own cap σ) H1) ∧ ∀ i m ys σ H, W i m ys σ H →
  (J.stop i H ∧ ys.length ≤ sizeLine ∧ ∀ D, H D = none → Q (.ref D) (upd H D (.lst ys))) ∨
  (J.go i H ∧ ys.length < sizeLine ∧ ∀ x H', J.yld i H x H' → g x σ H' fun σ2 H2 => ti σ2 H2 fun b H3 => if b = true then te σ2 H3 fun y H4 => ∃ m', m' < m ∧ W (i + 1) m' (ys ++ [y]) σ2 H4 else ∃ m', m' < m ∧ W (i + 1) m' ys σ2 H3)
noncomputable def tComp (own : List Str) (cap : List Nat) (wi : TI) (g : TG) (ti : TT) (te : TE) : TE := fun σ H Q => wi σ H fun J H1 => CompW own cap g ti te Q σ J H1

theorem pe_comp {X : Cx} {elt iter tg : Expr} {ifs : List Expr} {scope : Scope} {pos : Pos} {NB own : List Str} {cap : List Nat} {wi : TI} {g : TG} {ti : TT} {te : TE} (B : Blk X scope NB own cap) (hc : X.calm = true) (hi : PI X tg iter wi)
    (hg : ∀ C fp s₀ H₀, PG (cxB X NB own scope C fp s₀ H₀) tg g) (ht : ∀ C fp s₀ H₀, PIf (cxB X NB own scope C fp s₀ H₀) ifs ti) (he : ∀ C fp s₀ H₀, PE (cxB X NB own scope C fp s₀ H₀) elt te)
    (hs : ∀ x, foldedSetIterable iter X.env x = pure x := by intro _; rfl) : PE X (.ListComp elt [⟨tg, iter, ifs, 0⟩] scope pos) (tComp own cap wi g ti te) := by
  intro pins s σ H Q I0 h
  rw [eval_ListComp]
  have hclos := closureFor_is (env := X.env) (scope := scope) fun y hy e => I0.ok.has y.1 (.inl (B.free y hy e))
  refine wpAny_comprehension_free (use := none) rfl hs hclos B.kind B.names (thn (hi pins s σ H _ I0 h) fun v s1 h1 => thn h1 fun itv s2 h2 => ?_)
  obtain ⟨it, fp, tn, J, H2, rfl, I, T, st2, f2, W, ⟨m0, w0⟩, turn⟩ := h2
  refine wpAny_newList ?_
  refine wpAny_newFunctionEnv B.nocell (by intro y hy; simp at hy) (fun h₁ hns₁ hsb₁ => ?_) B.kind
  dsimp only at hns₁ hsb₁ ⊢
  generalize hP : s2.heap.push { cls := .type "list", dict := none, data := .seq ([] : List Value).toArray } = P at hns₁ hsb₁ ⊢
  have hC : P.objs.size = s2.heap.objs.size + 1 := by rw [← hP, Heap.size_push]
  have hDC : s2.heap.objs.size ≠ P.objs.size := by rw [hC]; exact Nat.ne_of_lt (Nat.lt_succ_self _)
  have hCle : s2.heap.objs.size ≤ P.objs.size := by rw [hC]; exact Nat.le_succ _
  have old : ∀ b o, s2.heap.get? b = some o → h₁.get? b = some o := fun b o e => by
    refine (hsb₁.2 b ?_).trans (Heap.get?_push_of_some _ (hP ▸ Heap.get?_push_of_some _ e))
    exact Nat.ne_of_lt (Nat.lt_of_lt_of_le (Heap.lt_size e) hCle)
  have hD : h₁.get? s2.heap.objs.size = some { cls := .type "list", data := .seq ([] : List Value).toArray 0 } := by
    refine (hsb₁.2 _ hDC).trans (Heap.get?_push_of_some _ ?_)
    rw [← hP]
    exact Heap.get?_push_size _ rfl
  have hfs : ∀ b ∈ fp, ∃ o, s2.heap.get? b = some o := fun b hb => let ⟨o, e, _⟩ := T.obj _ _ st2 b hb; ⟨o, e⟩
  have st4 : tn 0 h₁ := T.keep _ _ _ st2 fun b _ o e => old b o e
  generalize htk : s2.toks + ([] : List (Str × Value)).length = tk4
  have I4 := B.start (C := P.objs.size) (tk := tk4) I f2 hfs hCle old hns₁
  have fOk : ∀ {H' : Hp} {b : Addr} {ob : Obj}, b ∈ fp → H' b = none → FpOk (cxB X NB own scope P.objs.size fp s2 H2) [(s2.heap.objs.size, ob)] H' b := fun {H' b ob} hb hn => by
    obtain ⟨o, e⟩ := hfs b hb
    refine ⟨hn, (I4.ok.exf b hb).1, I4.ok.exfs b hb, .inl hb, (I4.ok.exf b hb).2, fun p hp => ?_⟩
    have ep : p = (s2.heap.objs.size, ob) := List.mem_singleton.mp (show p ∈ [(s2.heap.objs.size, ob)] from hp)
    rw [ep]
    exact fun z => absurd (Heap.lt_size e) (by rw [← z]; exact Nat.lt_irrefl _)
  have dnf : s2.heap.objs.size ∉ frs X.stack := fun z => by
    rcases List.mem_cons.mp (I.stkSub _ z) with z | z
    · exact absurd I.lt (by rw [← z]; exact Nat.lt_irrefl _)
    · exact I.nofs (Nat.le_refl _) z
  have I3D : ∀ {σ3 : St} {H3 : Hp} {s3 : Shared} {its : List Value} {k : Nat}, Inv (cxB X NB own scope P.objs.size fp s2 H2) [] σ3 H3 s3 → s3.heap.get? s2.heap.objs.size = some { cls := .type "list", data := .seq its.toArray k } → H3 s2.heap.objs.size = none →
      Inv (cxB X NB own scope P.objs.size fp s2 H2) [(s2.heap.objs.size, { cls := .type "list", data := .seq its.toArray k })] σ3 H3 s3 := fun I3 e n => I3.pins_of fun p hp => by
    have ep := List.mem_singleton.mp hp
    subst ep
    exact ⟨e, n, hDC, dnf, fun v z => by cases z⟩
  have ndf : s2.heap.objs.size ∉ fp := fun z => by
    obtain ⟨o, e⟩ := hfs _ z
    exact absurd (Heap.lt_size e) (Nat.lt_irrefl _)
  have nCD : ∀ x c, (cxB X NB own scope P.objs.size fp s2 H2).env.cells.lookup x = some c → c ≠ s2.heap.objs.size := fun x c e z => by
    obtain ⟨v, o, ho, _⟩ := I.cell x c (B.cells I.ok e).1
    rw [z] at ho
    exact absurd (Heap.lt_size ho) (Nat.lt_irrefl _)
  have loop : ∀ s₃ : Shared, s₃ = { s2 with heap := h₁, toks := tk4 } → codeAny (model X.prog X.w) X.A (.compLoop (.ListComp elt [⟨tg, iter, ifs, 0⟩] scope pos) 0 (.ref it) (.ref s2.heap.objs.size) (cxB X NB own scope P.objs.size fp s2 H2).env)
      (compPost (model X.prog X.w) X.A X.xe none (EP X pins σ Q) (.ref s2.heap.objs.size) P.objs.size) s₃ := by
    rintro s₃ rfl
    refine comp_loop (fun n s' => ∃ i σB H' ys its k, Inv (cxB X NB own scope P.objs.size fp s2 H2) [] σB H' s' ∧ tn i s'.heap ∧ (∀ b ∈ fp, H' b = none) ∧ s'.heap.get? s2.heap.objs.size = some { cls := .type "list", data := .seq (its : List Value).toArray k } ∧ Vals ys its ∧ H' s2.heap.objs.size = none ∧ W i n ys σB H') ?_ m0
      ⟨0, stB own cap σ, H2, [], [], 0, I4, st4, fun b hb => (f2 b hb).1, hD, .nil, I.hok.fresh (Nat.le_refl _), w0⟩
    rintro n s3 ⟨i, σ3, H3, ys, its, k, I3, st3, fr3, hD3, rv, hn3, w3⟩
    rcases turn i n ys σ3 H3 w3 with ⟨stop, hz, q⟩ | ⟨go, hz, step⟩
    · refine thn (T.done (cxB X NB own scope P.objs.size fp s2 H2) rfl rfl rfl hc i _ s3 σ3 H3 noE (I3D I3 hD3 hn3) (fun b hb => fOk hb (fr3 b hb)) st3 stop) fun r s4 zq1 => ?_
      obtain ⟨hr, I4'⟩ := zq1
      subst hr
      have hD4 : s4.heap.get? s2.heap.objs.size = some { cls := .type "list", data := .seq (its : List Value).toArray k } := (I4'.pin (s2.heap.objs.size, _) (List.mem_append_right _ (List.mem_singleton.mpr rfl))).1
      have I5 : Inv (cxB X NB own scope P.objs.size fp s2 H2) [] σ3 H3 s4 := I4'.pins_of fun p hp => absurd (show p ∈ ([] : List (Addr × Obj)) from hp) (by simp)
      obtain ⟨mC, hnC, _⟩ := I5.loc
      exact ⟨mC, hnC, fun h'' sb => ⟨.ref s2.heap.objs.size, _, B.done I f2 hCle (Nat.le_refl _) hDC I5 hn3 hD4 rv hz sb, rfl, q _ hn3⟩⟩
    · refine thn (T.item (cxB X NB own scope P.objs.size fp s2 H2) rfl rfl rfl hc i _ s3 σ3 H3 noE (I3D I3 hD3 hn3) (fun b hb => fOk hb (fr3 b hb)) st3 go) fun r s4 zq2 => ?_
      obtain ⟨u, hr, h4⟩ := zq2
      subst hr
      refine thn h4 fun _ s5 zq3 => ?_
      obtain ⟨x, H5, I5, r5, y5, st5, fr5⟩ := zq3
      have I5' := I5.pinned (fun b hb => fOk hb (fr5 b hb)) (T.obj _ _ st5)
      refine thn (hg _ fp s2 H2 _ s5 σ3 H5 x u _ I5' r5 (step x H5 y5)) fun _ s6 zq4 => ?_
      obtain ⟨σ6, H6, I6, q6⟩ := zq4
      refine thn (ht _ fp s2 H2 _ s6 σ6 H6 _ I6 q6) fun b s7 zq5 => ?_
      obtain ⟨H7, I7, q7⟩ := zq5
      have pinned : ∀ {σ8 : St} {H8 : Hp} {s8 : Shared}, Inv (cxB X NB own scope P.objs.size fp s2 H2) ([(s2.heap.objs.size, { cls := .type "list", data := .seq (its : List Value).toArray k })] ++ pinsAt fp s5.heap) σ8 H8 s8 →
          tn (i + 1) s8.heap ∧ (∀ b ∈ fp, H8 b = none) ∧ s8.heap.get? s2.heap.objs.size = some { cls := .type "list", data := .seq (its : List Value).toArray k } ∧ H8 s2.heap.objs.size = none := fun {σ8 H8 s8} I8 => by
        refine ⟨T.keep _ _ _ st5 fun b hb o e => (I8.pin (b, o) (List.mem_append_right _ (List.mem_append_right _ (mem_pinsAt hb e)))).1, fun b hb => ?_, ?_, ?_⟩
        · obtain ⟨o, e, d⟩ := T.obj _ _ st5 b hb
          exact (I8.pin (b, o) (List.mem_append_right _ (List.mem_append_right _ (mem_pinsAt hb e)))).2.1
        · exact (I8.pin (s2.heap.objs.size, _) (List.mem_append_right _ (List.mem_append_left _ (List.mem_singleton.mpr rfl)))).1
        · exact (I8.pin (s2.heap.objs.size, _) (List.mem_append_right _ (List.mem_append_left _ (List.mem_singleton.mpr rfl)))).2.1
      have nopin : ∀ {pp : List (Addr × Obj)} {σ8 : St} {H8 : Hp} {s8 : Shared}, Inv (cxB X NB own scope P.objs.size fp s2 H2) pp σ8 H8 s8 → Inv (cxB X NB own scope P.objs.size fp s2 H2) [] σ8 H8 s8 := fun I8 => I8.pins_of fun p hp => absurd (show p ∈ ([] : List (Addr × Obj)) from hp) (by simp)
      cases b with
      | false =>
        rw [if_neg Bool.false_ne_true] at q7 ⊢
        obtain ⟨m', hm, w7⟩ := q7
        obtain ⟨p1, p2, p3, p4⟩ := pinned I7
        exact ⟨m', hm, i + 1, σ6, H7, ys, its, k, nopin I7, p1, p2, p3, rv, p4, w7⟩
      | true =>
        rw [if_pos rfl] at q7 ⊢
        refine thn (he _ fp s2 H2 _ s7 σ6 H7 _ I7 q7) fun yv s8 zq6 => ?_
        obtain ⟨y, H8, I8, r8, m', hm, w8⟩ := zq6
        obtain ⟨p1, p2, p3, p4⟩ := pinned I8
        refine call_meets F.slot_list_append ⟨_, p3, rfl⟩ F.entry_list_append (F.args_list_append_2 _ _) (PySem.list_append s2.heap.objs.size its.toArray k yv (by rw [List.size_toArray, ← rv.length]; omega)) ⟨p3, ?_⟩
        have q := PySem.IsL.update p3 fun a => a.push yv
        have ea : its.toArray.push yv = (its ++ [yv]).toArray := by simp
        rw [ea] at q
        have I9 : Inv (cxB X NB own scope P.objs.size fp s2 H2) [] σ6 H8 { s8 with heap := s8.heap.update s2.heap.objs.size (Obj.mapSeq fun a => a.push yv), toks := s8.toks } :=
          (nopin I8).turned (it := s2.heap.objs.size) (fun b o hb e => (Heap.get?_update_other s8.heap _ (Ne.symm hb)).trans e) p4 hDC (.inr (Nat.le_refl _)) (fun x c e => nCD x c e) fun p hp => absurd (show p ∈ ([] : List (Addr × Obj)) from hp) (by simp)
        refine ⟨m', hm, i + 1, σ6, H8, ys ++ [y], its ++ [yv], _, I9, ?_, p2, q, rv.append (.cons r8 .nil), p4, w8⟩
        refine T.keep _ _ _ p1 fun b hb o e => (Heap.get?_update_other s8.heap _ ?_).trans e
        intro z
        rw [z] at ndf
        exact ndf hb
  exact codeAny_compStart_list (loop _ rfl) (T.self X.A 0 _ _ _ st4 (loop _ rfl))

theorem comp_by {own : List Str} {cap : List Nat} {J : It} {g : TG} {ti : TT} {te : TE} {σ : St} {H : Hp} {Q : VK} (n : Nat) (Pv : Nat → List V → St → Hp → Prop) (h0 : Pv 0 [] (stB own cap σ) H) (hz : ∀ i ys σ H, i ≤ n → Pv i ys σ H → ys.length ≤ i) (hn : n ≤ sizeLine)
    (hgo : ∀ i ys σ H, i < n → Pv i ys σ H → J.go i H) (hst : ∀ ys σ H, Pv n ys σ H → J.stop n H)
    (hs : ∀ i ys σ H x H' (N : List V → St → Hp → Prop), i < n → Pv i ys σ H → J.yld i H x H' → (∀ ys' σ' H'', Pv (i + 1) ys' σ' H'' → N ys' σ' H'') → g x σ H' fun σ2 H2 => ti σ2 H2 fun b H3 => if b = true then te σ2 H3 fun y H4 => N (ys ++ [y]) σ2 H4 else N ys σ2 H3)
    (hd : ∀ ys σ H D, Pv n ys σ H → H D = none → Q (.ref D) (upd H D (.lst ys))) :
    CompW own cap g ti te Q σ J H := by
  refine ⟨fun i m ys σ H => m = n - i ∧ i ≤ n ∧ Pv i ys σ H, ⟨n, by simp, Nat.zero_le _, h0⟩, ?_⟩
  rintro i m ys σ H ⟨rfl, hi, p⟩
  have hl := hz i ys σ H hi p
  by_cases hlt : i < n
  · refine .inr ⟨hgo i ys σ H hlt p, by omega, fun x H' y => ?_⟩
    exact hs i ys σ H x H' (fun ys' σ' H'' => ∃ m', m' < n - i ∧ m' = n - (i + 1) ∧ i + 1 ≤ n ∧ Pv (i + 1) ys' σ' H'') hlt p y fun ys' σ' H'' q => ⟨n - (i + 1), by omega, rfl, hlt, q⟩
  · have e : i = n := by omega
    subst e
    exact .inl ⟨hst ys σ H p, by omega, fun D hD => hd ys σ H D p hD⟩
end L2
set_option Elab.async false
set_option linter.all false
set_option maxRecDepth 100000
namespace L2
open PySem PySem.Spec PyProof.Rows


section
variable {X : Cx} {tg : Expr}




end

end L2
set_option Elab.async false
set_option linter.all false
set_option maxRecDepth 100000
namespace PySem
open Sem (wp)
open Builtin Builtin.SmallTypes
namespace F
end F

namespace F
end F
section
variable {prog : Program} {w : World} {A : Around} {E : Value → Shared → Prop} {s : Shared} {x : Str} {t : Tok}
end
end PySem

namespace L2
open PySem PySem.Spec PyProof.Rows
section
variable {X : Cx} {tg : Expr}

end
end L2
set_option linter.all false
namespace Wd
noncomputable abbrev L := Fin 12
noncomputable def inv (x : L) : L := if h : x.val < 6 then ⟨x.val + 6, by omega⟩ else ⟨x.val - 6, by omega⟩
theorem inv_inv : ∀ x : L, inv (inv x) = x := by decide
theorem inv_ne : ∀ x : L, inv x ≠ x := by decide
noncomputable def bk (w : List L) : List L := (w.map inv).reverse

noncomputable def push (st : List L) (x : L) : List L := match st with
  | [] => [x]
  | y :: r => if y = inv x then r else x :: y :: r
noncomputable def Rd : List L → Prop
  | [] => True
  | [_] => True
  | x :: y :: r => y ≠ inv x ∧ Rd (y :: r)
noncomputable def rep : Nat → List L → List L
  | 0, _ => []
  | n + 1, w => rep n w ++ w

end Wd
set_option Elab.async false
set_option linter.all false
set_option maxRecDepth 100000
namespace L2
open PySem PySem.Spec PyProof.Rows Wd

noncomputable def cp (x : L) : Nat := if x.val < 6 then 97 + x.val else 59 + x.val
noncomputable def toS (w : List L) : Str := ⟨(w.map cp).toArray⟩
theorem small : toS [0, 1, 2, 3, 4, 5] = ("abcdef" : Str) := by decide +kernel
theorem big : toS [6, 7, 8, 9, 10, 11] = ("ABCDEF" : Str) := by decide +kernel



end L2
set_option Elab.async false
set_option linter.all false
set_option maxRecDepth 100000
namespace L2
open PySem PySem.Spec PyProof.Rows Wd

structure Fnc (P : Program) (w : World) (K : PySem.W.Frag) (mg : Str → Option Value) (base : Heap) (x : Str) (ps : List Str) (k : Nat) (sp : Sp) : Prop where
  ex : ∃ (f : Addr) (fd : FuncData), mg x = some (.ref f) ∧ PySem.W.keepIn K (.ref f) = true ∧ Binds K fd ps [] ∧ FnOk P w K mg base CX0 k f fd ps sp
theorem pe_fn {X : Cx} {x : Str} {ps : List Str} {k j : Nat} {sp : Sp} {e : Expr} {es : List Expr} {t : TA} {p pos : Pos} (F : Fnc X.prog X.w X.K X.mg X.base x ps j sp) (hr : Room k X.A) (hj : j ≤ k) (hg : Gl X x) (ha : PA X (e :: es) t)
    (hdb : (x == ("__debug__" : Str)) = false := by decide) (he : starEach (e :: es) X.env = (false, eval e X.env) :: starEach es X.env := by rfl) (hpl : (backTo pos (starEach es X.env)).any (·.1) = false := by rfl) :
    PE X (.Call (.Name x p) (e :: es) [] pos) (tCall sp [] E0 t) := by
  obtain ⟨f, fd, hm, hk, hb, F⟩ := F.ex
  exact pe_call F (hr.mono hj) hg hm hk hb .nil pass0 ha hdb he hpl
structure Df (K : PySem.W.Frag) (mg : Str → Option Value) (x : Str) (st : Stmt) : Prop where
  ex : ∃ (f : Addr) (fd : FuncData), mg x = some (.ref f) ∧ Fun K x x st f fd
theorem Df.ok {P : Program} {w : World} {K : PySem.W.Frag} {mg : Str → Option Value} {base : Heap} {x : Str} {st : Stmt} {N ps : List Str} {k : Nat} {sp : Sp} (D : Df K mg x st) (S : FnScope N ps (defScope st))
    (hb : ∀ (kV doc pm : Value) (an : Option Addr) (cdv ct : Value) (us : List Value), us.length = ps.length → bindArgs (PySem.W.fnOf x x (defArgs st) (defBody st) (defScope st) .none kV doc pm an cdv ct) ⟨us, []⟩ = pure (ps.zip us))
    (len : ∀ vs H Q E, sp vs H Q E → vs.length = ps.length)
    (hbody : ∀ (f : Addr) (cdv : Value) (A : Around) (outer : List Env) (s : Shared) (H : Hp) (vs : List V) (Q : VK) (E : XK), Room k (A.deeper (envOfC x (defScope st) s.heap.objs.size f cdv)) → sp vs H Q E →
      ∃ t, PSs (cxOf CX0 P w K mg base N x (defScope st) f cdv A outer s H E).nox (defBody st) t ∧ t { nx := fun _ H' => Q .non H', rt := Q } (start N vs) H) : Fnc P w K mg base x ps (k + 1) sp := by
  obtain ⟨f, fd, hm, F⟩ := D.ex
  exact ⟨f, fd, hm, F.kp, F.binds hb, F.ok S len fun cdv A outer s H vs Q E hr h => hbody f cdv A outer s H vs Q E hr h⟩

noncomputable def SameB (d : Addr) (H H' : Hp) : Prop := ∀ b o, b ≠ d → H b = some o → H' b = some o
theorem Same.new {H : Hp} {a : Addr} {o : HO} (h : H a = none) : Same H (upd H a o) := fun b u e => by rw [upd_ne (ne_of_none e h)]; exact e
theorem SameB.upd {d : Addr} {H : Hp} {o : HO} : SameB d H (upd H d o) := fun b u n e => by rw [upd_ne n]; exact e
theorem Same.then {H H1 : Hp} {a : Addr} {o : HO} (s : Same H H1) (h : H1 a = none) : Same H (L2.upd H1 a o) := s.trans (Same.new h)

noncomputable def kS (x : Str) : Key := .inr x
noncomputable def fkv (c : Addr) (i l t : Int) : List (Key × V) := [(kS "cells", .ref c), (kS "at", .int i), (kS "left", .int l), (kS "turn", .int t)]
theorem n_ca : ¬ (kS "cells" = kS "at") := by decide +kernel
theorem n_cl : ¬ (kS "cells" = kS "left") := by decide +kernel
theorem n_ct : ¬ (kS "cells" = kS "turn") := by decide +kernel
theorem n_al : ¬ (kS "at" = kS "left") := by decide +kernel
theorem n_at : ¬ (kS "at" = kS "turn") := by decide +kernel
theorem n_lt : ¬ (kS "left" = kS "turn") := by decide +kernel
theorem valV_hit {κ : Type} [DecidableEq κ] {k : κ} {v : V} {r : List (κ × V)} : valV ((k, v) :: r) k = some v := by unfold valV; simp
theorem valV_skip {κ : Type} [DecidableEq κ] {k k' : κ} {v : V} {r : List (κ × V)} (h : ¬ k' = k) : valV ((k', v) :: r) k = valV r k := by unfold valV; simp [h]
theorem g_cells (c : Addr) (i l t : Int) : valV (fkv c i l t) (kS "cells") = some (.ref c) := valV_hit
theorem g_at (c : Addr) (i l t : Int) : valV (fkv c i l t) (kS "at") = some (.int i) := (valV_skip n_ca).trans valV_hit
theorem g_left (c : Addr) (i l t : Int) : valV (fkv c i l t) (kS "left") = some (.int l) := (valV_skip n_cl).trans ((valV_skip n_al).trans valV_hit)
theorem g_turn (c : Addr) (i l t : Int) : valV (fkv c i l t) (kS "turn") = some (.int t) := (valV_skip n_ct).trans ((valV_skip n_at).trans ((valV_skip n_lt).trans valV_hit))
theorem n_ta : ¬ (kS "turn" = kS "at") := fun e => n_at e.symm
theorem n_la : ¬ (kS "left" = kS "at") := fun e => n_al e.symm
theorem n_tl : ¬ (kS "turn" = kS "left") := fun e => n_lt e.symm
theorem p_at (c : Addr) (i l t z : Int) : putK (fkv c i l t) (kS "at") (.int z) = fkv c z l t := by simp [putK, fkv, n_ca, n_la, n_ta]
theorem p_left (c : Addr) (i l t z : Int) : putK (fkv c i l t) (kS "left") (.int z) = fkv c i z t := by simp [putK, fkv, n_cl, n_al, n_tl]
theorem p_turn (c : Addr) (i l t z : Int) : putK (fkv c i l t) (kS "turn") (.int z) = fkv c i l z := by simp [putK, fkv, n_ct, n_at, n_lt]
theorem fkv_len (c : Addr) (i l t : Int) : (fkv c i l t).length < sizeLine := by show 4 < sizeLine; decide
theorem m_fkv (c : Addr) (i l t : Int) : mergeK [] (fkv c i l t) = fkv c i l t := by simp [mergeK, putK, fkv, n_ca, n_cl, n_ct, n_al, n_at, n_lt]

structure Fd (H : Hp) (d : Addr) : Prop where
  ex : ∃ (c : Addr) (i l t : Int) (ns : List Int), H d = some (.dK (fkv c i l t)) ∧ H c = some (.lst (ns.map V.int)) ∧ ns ≠ [] ∧ ns.length ≤ 64
theorem Fd.same {H H' : Hp} {d : Addr} (F : Fd H d) (s : Same H H') : Fd H' d := by
  obtain ⟨c, i, l, t, ns, h1, h2, h3, h4⟩ := F.ex
  exact ⟨c, i, l, t, ns, s _ _ h1, s _ _ h2, h3, h4⟩
theorem Fd.new {H : Hp} {d a : Addr} {o : HO} (F : Fd H d) (h : H a = none) : Fd (upd H a o) d := F.same (Same.new h)
theorem Fd.ne {H : Hp} {d a : Addr} (F : Fd H d) (h : H a = none) : a ≠ d := by
  obtain ⟨c, i, l, t, ns, h1, h2, h3, h4⟩ := F.ex
  exact (ne_of_none h1 h).symm
inductive spDraw (vs : List V) (H : Hp) (Q : VK) (u3_ : XK) : Prop
  | mk : ∀ (d : Addr) (m : Int), (vs = [.ref d, .int m]) → (Fd H d) → (0 < m) → (m < 1000000) → (∀ (r : Int) (H' : Hp), 0 ≤ r → r < m → Fd H' d → SameB d H H' → Q (.int r) H') → spDraw vs H Q u3_
inductive spFeed (K : PySem.W.Frag) (vs : List V) (H : Hp) (Q : VK) (u3_ : XK) : Prop
  | mk : ∀ (a : Addr) (ns : List Int), (vs = [.ref a]) → (SqL K H a (ns.map V.int)) → (ns.length ≤ 63) → (∀ (d : Addr) (H' : Hp), H d = none → Fd H' d → Same H H' → Q (.ref d) H') → spFeed K vs H Q u3_
theorem cell_at {ns : List Int} (h : ns ≠ []) (i : Int) : ∃ n : Int, atI (ns.map V.int) (i % ((ns.map V.int).length : Int)) = some (.int n) := by
  have hl : 0 < ns.length := List.length_pos_iff.mpr h
  rw [List.length_map]
  have h0 := Int.emod_nonneg i (show (ns.length : Int) ≠ 0 by omega)
  have h1 := Int.emod_lt_of_pos i (show (0 : Int) < ns.length by omega)
  obtain ⟨k, hk⟩ := Int.eq_ofNat_of_zero_le h0
  rw [hk] at h1 ⊢
  have hk' : k < ns.length := by omega
  refine ⟨ns[k], ?_⟩
  unfold atI ixN
  rw [if_pos (by omega), if_pos (by rw [List.length_map]; omega)]
  show (ns.map V.int)[((k : Nat) : Int).toNat]? = _
  rw [Int.toNat_natCast, List.getElem?_map, List.getElem?_eq_getElem hk']
  rfl
end L2
set_option Elab.async false
set_option linter.all false
set_option maxRecDepth 100000
namespace L2
open PySem PySem.Spec PyProof.Rows Wd
mutual
inductive Dt (H : Hp) : V → PyData → Prop where
  | non : Dt H .non .none
  | bl (b : Bool) : Dt H (.bl b) (.bool b)
  | int (i : Int) : Dt H (.int i) (.int i)
  | str (x : Str) : Dt H (.str x) (.str x)
  | lst {a : Addr} {xs : List V} {ds : List PyData} : H a = some (.lst xs) → Dts H xs ds → Dt H (.ref a) (.list ds)
  | tup {a : Addr} {xs : List V} {ds : List PyData} : H a = some (.tup xs) → Dts H xs ds → Dt H (.ref a) (.tuple ds)
inductive Dts (H : Hp) : List V → List PyData → Prop where
  | nil : Dts H [] []
  | cons {v : V} {d : PyData} {vs : List V} {ds : List PyData} : Dt H v d → Dts H vs ds → Dts H (v :: vs) (d :: ds)
end
section
variable {P : Program} {w : World} {H : Hp} {h : Heap}
mutual
theorem Dt.reads (ok : HOk P w H h) : ∀ {v : V} {d : PyData}, Dt H v d → ∀ {u : Value}, RelV v u → ∃ as, Reads h u d as
  | _, _, .non, u, r => by cases r; exact ⟨_, .none⟩
  | _, _, .bl b, u, r => by cases r; exact ⟨_, .bool b⟩
  | _, _, .int i, u, r => by obtain ⟨t, rfl⟩ := r; exact ⟨_, .int i t⟩
  | _, _, .str x, u, r => by obtain ⟨t, rfl⟩ := r; exact ⟨_, .str x t⟩
  | _, _, .lst e q, u, r => by
    cases r
    obtain ⟨_, its, n, rv, g⟩ := ok _ _ e
    obtain ⟨as, ra⟩ := Dts.reads ok q rv
    exact ⟨_, .list g rfl rfl (by simpa using ra)⟩
  | _, _, .tup e q, u, r => by
    cases r
    obtain ⟨_, its, rv, ⟨ob, g, c, n, d⟩, _⟩ := ok _ _ e
    obtain ⟨as, ra⟩ := Dts.reads ok q rv
    exact ⟨_, .tuple g c d (by simpa using ra)⟩
theorem Dts.reads (ok : HOk P w H h) : ∀ {vs : List V} {ds : List PyData}, Dts H vs ds → ∀ {us : List Value}, Vals vs us → ∃ as, ReadsAll h us ds as
  | _, _, .nil, _, r => by cases r; exact ⟨_, .nil⟩
  | _, _, .cons q qs, _, r => by
    cases r with
    | cons r rs =>
      obtain ⟨as, a1⟩ := Dt.reads ok q r
      obtain ⟨bs, a2⟩ := Dts.reads ok qs rs
      exact ⟨_, .cons a1 a2⟩
end
end
structure Sh (d : PyData) : Prop where
  sh : d.showable = true
  nd : d.hasDict = false
  dp : d.depth ≤ 10
  sz : d.shown.length ≤ sizeLine
section
variable {X : Cx}
inductive call_repr_dat_r  (xs : List V) (H : Hp) (Q : VK) : Prop
  | mk : ∀ a d, (xs = [.ref a]) → (Dt H (.ref a) d) → (Sh d) → (Q (.str d.shown) H) → call_repr_dat_r xs H Q
theorem call_repr_dat (hg : X.A.guards = some []) (hu : X.A.units + 64 < cLine) : CallR X (.builtin "repr") call_repr_dat_r := by
  intro pins s σ H xs us Q I r h
  obtain ⟨a, d, rfl, q, S, hQ⟩ := h
  obtain ⟨u, rfl, ru⟩ := vals1 r
  cases ru
  obtain ⟨as, rd⟩ := q.reads I.hok (u := .ref a) rfl
  refine repr_of_reads' rd S.sh (PyData.noDict_hsm S.nd) hg (by have := S.dp; omega) (fun _ _ e => e) (fun h' u tk hk => ?_) S.sz
  exact ⟨.str _, H, I.kept hk, ⟨_, rfl⟩, hQ⟩
end
section
variable {X : Cx}
end
end L2
set_option Elab.async false
set_option linter.all false
set_option maxRecDepth 100000
set_option maxHeartbeats 0
namespace Kx
open PySem PySem.Spec PyProof.Rows L2 Wd
theorem b_list : bootBuiltins "list" = some (.type "list") := by kernel_rfl
theorem b_int : bootBuiltins "int" = some (.type "int") := by kernel_rfl
theorem b_repr : bootBuiltins "repr" = some (.builtin "repr") := by kernel_rfl
theorem b_isinstance : bootBuiltins "isinstance" = some (.builtin "isinstance") := by kernel_rfl
theorem dg {H : Hp} {d : Addr} {kvs : List (Key × V)} {k : Str} {v : V} (h : H d = some (.dK kvs)) (e : valV kvs (kS k) = some v) : DGet H d (.str k) (some v) := by
  have q := DGet.k (k := kS k) h
  rw [e] at q
  exact q
theorem dp {H : Hp} {d : Addr} {kvs kvs' : List (Key × V)} {k : Str} {v : V} (h : H d = some (.dK kvs)) (hl : kvs.length < sizeLine) (e : putK kvs (kS k) v = kvs') : DPut H d (.str k) v (upd H d (.dK kvs')) := by
  have q := DPut.k (k := kS k) (v := v) h hl
  rw [e] at q
  exact q
theorem cut63 {ns : List Int} (h : ns.length ≤ 63) : cutV (ns.map V.int) none (some 63) = ns.map V.int := by
  unfold cutV
  have e : HT.sIx (ns.map V.int).length (ns.map V.int).length (some 63) = (ns.map V.int).length := by
    have := HT.sIx_nat (ns.map V.int).length (ns.map V.int).length 63
    rw [show ((63 : Nat) : Int) = 63 from rfl] at this
    rw [this, List.length_map]
    omega
  rw [e, HT.sIx_none, List.drop_zero, Nat.sub_zero, List.take_length]
theorem line16 : sizeLine = 16777216 := sizeLine_eq
theorem iteC {c : Bool} {A B : Prop} (hc : c = true) (h : A) : if c = true then A else B := by rw [if_pos hc]; exact h
theorem iteD {c : Bool} {A B : Prop} (hc : c = false) (h : B) : if c = true then A else B := by rw [hc]; exact iteF h
end Kx
set_option Elab.async false
set_option linter.all false
set_option maxRecDepth 100000
namespace L2
open PySem PySem.Spec PyProof.Rows Wd
section
variable {X : Cx} {tg : Expr}
end

section
variable {X : Cx} {o e : Expr} {es : List Expr} {to : TE} {t : TA} {name : Str} {apos cpos : Pos} {T id : String} {r : V → List V → Hp → VK → Prop} {K : PySem.W.Frag}
theorem pe_bmK (hK : X.K = K) (pa : PlainAttrs T) (slot : Slot T name id) (hty : typeOf (.builtin id) = pure (.type "method_descriptor")) (hm : MtR X id r) (ho : PE X o to) (ha : PA X (e :: es) t)
    (hbase : attributeBase o name X.env (eval o X.env) = eval o X.env := by rfl)
    (hfew : ((backTo cpos (starEach (e :: es) X.env)).all (fun x => !x.1) && (backToKw cpos (keywordEach [] X.env)).all (fun x => x.1.isSome)
      && decide ((e :: es).length + ([] : List Keyword).length + (if ([] : List Keyword).isEmpty then 0 else 1) < 30)) = true := by rfl)
    (hline : (apos.endLine == cpos.line) = true := by rfl) (hs : starEach (e :: es) X.env = (false, eval e X.env) :: starEach es X.env := by rfl) (hplain : (backTo cpos (starEach es X.env)).any (·.1) = false := by rfl) :
    PE X (.Call (.Attribute o name apos) (e :: es) [] cpos) (tBM K T r to t) := by
  subst hK
  exact pe_bm pa slot hty hm ho ha hbase hfew hline hs hplain
end

end L2
set_option Elab.async false
set_option linter.all false
set_option maxRecDepth 100000
namespace L2
open PySem PySem.Spec PyProof.Rows Wd
section
variable {X : Cx}
end
end L2
set_option Elab.async false
set_option linter.all false
set_option maxRecDepth 100000
namespace PySem
open Sem (wp)
section
variable {prog : Program} {w : World} {A : Around} {E : Value → Shared → Prop} {s : Shared} {z TI TO i1 i2 : Addr} {x y : Str} {t u : Tok} {k c d : Nat} {a b : Value}
end
end PySem
set_option Elab.async false
set_option linter.all false
set_option maxRecDepth 100000
namespace PySem
end PySem
namespace L2
open PySem PySem.Spec PyProof.Rows
section
variable {X : Cx}
end
end L2
set_option Elab.async false
set_option linter.all false
set_option maxRecDepth 100000
set_option maxHeartbeats 0
namespace L2
open PySem PySem.Spec PyProof.Rows Wd
noncomputable def notStar : Expr → Bool
  | .Starred _ _ => false
  | _ => true
theorem star_of {e : Expr} (h : notStar e = true) (es : List Expr) (env : Env) : starEach (e :: es) env = (false, eval e env) :: starEach es env := by
  cases e <;> first | rfl | cases h
theorem pa_c {X : Cx} {e : Expr} {es : List Expr} {te : TE} {t : TA} (ha : PE X e te) (hr : PA X es t) (h : notStar e = true := by rfl) : PA X (e :: es) (tCons te t) := pa_cons ha hr (star_of h _ _)
noncomputable def litE : Expr → Option V
  | .Constant .none _ _ => some .non
  | .Constant (.bool b) _ _ => some (.bl b)
  | .Constant (.int i) _ _ => some (.int i)
  | .Constant (.str x) _ _ => some (.str x)
  | .BinOp (.Constant (.int i) _ _) .Pow (.Constant (.int j) _ _) _ => if 0 ≤ j ∧ j ≤ 1000000 ∧ i.natAbs < 2 ^ 64 then some (.int (i ^ j.toNat)) else none
  | _ => none
noncomputable def litEs : List Expr → Option (List V)
  | [] => some []
  | e :: r => match litE e, litEs r with
    | some v, some vs => some (v :: vs)
    | _, _ => none
theorem pe_lit {X : Cx} {e : Expr} {v : V} (h : litE e = some v) : PE X e (tC v) ∧ notStar e = true := by
  unfold litE at h
  split at h
  · cases h; exact ⟨pe_non, rfl⟩
  · cases h; exact ⟨pe_bl, rfl⟩
  · cases h; exact ⟨pe_int, rfl⟩
  · cases h; exact ⟨pe_str, rfl⟩
  · rename_i i _ _ j _ _ _
    split at h
    · rename_i c
      cases h
      refine ⟨fun pins s σ H Q I h => pe_op op_pow pe_int pe_int pins s σ H Q I ⟨_, _, rfl, rfl, c, h⟩, rfl⟩
    · cases h
  · cases h
theorem pa_lits {X : Cx} : ∀ {es : List Expr} {vs : List V}, litEs es = some vs → PA X es (fun _ H Q => Q vs H)
  | [], vs, h => by
    cases h
    exact pa_nil
  | e :: r, vs, h => by
    unfold litEs at h
    split at h
    · rename_i v vs' h1 h2
      cases h
      exact pa_cons (pe_lit h1).1 (pa_lits h2) (star_of (pe_lit (X := X) h1).2 _ _)
    · cases h
noncomputable def letters : List Str := ([0, 1, 2, 3, 4, 5, 6, 7, 8, 9, 10, 11] : List L).map fun x => toS [x]
end L2
namespace Kx
open PySem PySem.Spec PyProof.Rows L2 Wd
end Kx
set_option Elab.async false
set_option linter.all false
set_option maxRecDepth 100000
set_option maxHeartbeats 0
namespace L2
open PySem PySem.Spec PyProof.Rows Wd
section
variable {X : Cx}
end
end L2
namespace Kx
open PySem PySem.Spec PyProof.Rows L2 Wd
end Kx
namespace L2
open PySem PySem.Spec PyProof.Rows Wd
end L2
namespace L2
open PySem PySem.Spec PyProof.Rows Wd
end L2
namespace L2
open PySem PySem.Spec PyProof.Rows Wd
end L2
namespace L2
open PySem PySem.Spec PyProof.Rows Wd
end L2
namespace L2
open PySem PySem.Spec PyProof.Rows Wd
end L2
set_option Elab.async false
set_option linter.all false
set_option maxRecDepth 100000
namespace L2
open PySem PySem.Spec PyProof.Rows
theorem ps_setC {X : Cx} {i : Nat} {y : Str} {py spos : Pos} {elt iter tg : Expr} {ifs : List Expr} {scope : Scope} {pos : Pos} {NB own : List Str} {cap : List Nat} {wi : TI} {g : TG} {ti : TT} {te : TE} (hN : X.N.Nodup) (hi0 : X.N[i]? = some y) (hx : Loc X.env.scope y) (B : Blk X scope NB own cap) (hc : X.calm = true) (hi : PI X tg iter wi)
    (hg : ∀ C fp s₀ H₀, PG (cxB X NB own scope C fp s₀ H₀) tg g) (ht : ∀ C fp s₀ H₀, PIf (cxB X NB own scope C fp s₀ H₀) ifs ti) (he : ∀ C fp s₀ H₀, PE (cxB X NB own scope C fp s₀ H₀) elt te)
    (hs : ∀ x, foldedSetIterable iter X.env x = pure x := by intro _; rfl) (hsw : swapsWith (.ListComp elt [⟨tg, iter, ifs, 0⟩] scope pos) (some (.Name y py)) spos.line X.env = pure true := by rfl) (hf : X.fn y = true ∨ X.env.scope.names.lookup y = some .local := by first | exact .inl rfl | exact .inr rfl | assumption) : PS X (.Assign [.Name y py] (.ListComp elt [⟨tg, iter, ifs, 0⟩] scope pos) spos) (tAsg (tComp own cap wi g ti te) (gName i)) := by
  intro pins s σ H DD I0 h
  rw [exec_Assign_Name_used _ _ _ _ hsw]
  refine wpAny_bind (wpAny_standAt (wpAny_bind ?_))
  show wpAny _ X.A (do let _ ← comprehension (.ListComp elt [⟨tg, iter, ifs, 0⟩] scope pos) scope X.env _ (newList []) false (eval iter X.env) (some (assign (.Name y py) X.env))) _ _ s
  have hclos := closureFor_is (env := X.env) (scope := scope) fun y hy e => I0.ok.has y.1 (.inl (B.free y hy e))
  refine wpAny_bind (wpAny_mono (wpAny_comprehension_free (use := some (assign (.Name y py) X.env)) (Q := fun _ s' => SP X pins DD .next s') rfl hs hclos B.kind B.names (thn (hi pins s σ H _ I0 h) fun v s1 h1 => thn h1 fun itv s2 h2 => ?_)) (fun _ s' hq => wpAny_pure (wpAny_pure hq)) fun _ _ e => e)
  obtain ⟨it, fp, tn, J, H2, rfl, I, T, st2, f2, W, ⟨m0, w0⟩, turn⟩ := h2
  refine wpAny_newList ?_
  refine wpAny_newFunctionEnv B.nocell (by intro y hy; simp at hy) (fun h₁ hns₁ hsb₁ => ?_) B.kind
  dsimp only at hns₁ hsb₁ ⊢
  generalize hP : s2.heap.push { cls := .type "list", dict := none, data := .seq ([] : List Value).toArray } = P at hns₁ hsb₁ ⊢
  have hC : P.objs.size = s2.heap.objs.size + 1 := by rw [← hP, Heap.size_push]
  have hDC : s2.heap.objs.size ≠ P.objs.size := by rw [hC]; exact Nat.ne_of_lt (Nat.lt_succ_self _)
  have hCle : s2.heap.objs.size ≤ P.objs.size := by rw [hC]; exact Nat.le_succ _
  have old : ∀ b o, s2.heap.get? b = some o → h₁.get? b = some o := fun b o e => by
    refine (hsb₁.2 b ?_).trans (Heap.get?_push_of_some _ (hP ▸ Heap.get?_push_of_some _ e))
    exact Nat.ne_of_lt (Nat.lt_of_lt_of_le (Heap.lt_size e) hCle)
  have hD : h₁.get? s2.heap.objs.size = some { cls := .type "list", data := .seq ([] : List Value).toArray 0 } := by
    refine (hsb₁.2 _ hDC).trans (Heap.get?_push_of_some _ ?_)
    rw [← hP]
    exact Heap.get?_push_size _ rfl
  have hfs : ∀ b ∈ fp, ∃ o, s2.heap.get? b = some o := fun b hb => let ⟨o, e, _⟩ := T.obj _ _ st2 b hb; ⟨o, e⟩
  have st4 : tn 0 h₁ := T.keep _ _ _ st2 fun b _ o e => old b o e
  generalize htk : s2.toks + ([] : List (Str × Value)).length = tk4
  have I4 := B.start (C := P.objs.size) (tk := tk4) I f2 hfs hCle old hns₁
  have fOk : ∀ {H' : Hp} {b : Addr} {ob : Obj}, b ∈ fp → H' b = none → FpOk (cxB X NB own scope P.objs.size fp s2 H2) [(s2.heap.objs.size, ob)] H' b := fun {H' b ob} hb hn => by
    obtain ⟨o, e⟩ := hfs b hb
    refine ⟨hn, (I4.ok.exf b hb).1, I4.ok.exfs b hb, .inl hb, (I4.ok.exf b hb).2, fun p hp => ?_⟩
    have ep : p = (s2.heap.objs.size, ob) := List.mem_singleton.mp (show p ∈ [(s2.heap.objs.size, ob)] from hp)
    rw [ep]
    exact fun z => absurd (Heap.lt_size e) (by rw [← z]; exact Nat.lt_irrefl _)
  have dnf : s2.heap.objs.size ∉ frs X.stack := fun z => by
    rcases List.mem_cons.mp (I.stkSub _ z) with z | z
    · exact absurd I.lt (by rw [← z]; exact Nat.lt_irrefl _)
    · exact I.nofs (Nat.le_refl _) z
  have I3D : ∀ {σ3 : St} {H3 : Hp} {s3 : Shared} {its : List Value} {k : Nat}, Inv (cxB X NB own scope P.objs.size fp s2 H2) [] σ3 H3 s3 → s3.heap.get? s2.heap.objs.size = some { cls := .type "list", data := .seq its.toArray k } → H3 s2.heap.objs.size = none →
      Inv (cxB X NB own scope P.objs.size fp s2 H2) [(s2.heap.objs.size, { cls := .type "list", data := .seq its.toArray k })] σ3 H3 s3 := fun I3 e n => I3.pins_of fun p hp => by
    have ep := List.mem_singleton.mp hp
    subst ep
    exact ⟨e, n, hDC, dnf, fun v z => by cases z⟩
  have ndf : s2.heap.objs.size ∉ fp := fun z => by
    obtain ⟨o, e⟩ := hfs _ z
    exact absurd (Heap.lt_size e) (Nat.lt_irrefl _)
  have nCD : ∀ x c, (cxB X NB own scope P.objs.size fp s2 H2).env.cells.lookup x = some c → c ≠ s2.heap.objs.size := fun x c e z => by
    obtain ⟨v, o, ho, _⟩ := I.cell x c (B.cells I.ok e).1
    rw [z] at ho
    exact absurd (Heap.lt_size ho) (Nat.lt_irrefl _)
  have loop : ∀ s₃ : Shared, s₃ = { s2 with heap := h₁, toks := tk4 } → codeAny (model X.prog X.w) X.A (.compLoop (.ListComp elt [⟨tg, iter, ifs, 0⟩] scope pos) 0 (.ref it) (.ref s2.heap.objs.size) (cxB X NB own scope P.objs.size fp s2 H2).env)
      (compPost (model X.prog X.w) X.A X.xe (some (assign (.Name y py) X.env)) (fun _ s' => SP X pins DD .next s') (.ref s2.heap.objs.size) P.objs.size) s₃ := by
    rintro s₃ rfl
    refine comp_loop (fun n s' => ∃ i σB H' ys its k, Inv (cxB X NB own scope P.objs.size fp s2 H2) [] σB H' s' ∧ tn i s'.heap ∧ (∀ b ∈ fp, H' b = none) ∧ s'.heap.get? s2.heap.objs.size = some { cls := .type "list", data := .seq (its : List Value).toArray k } ∧ Vals ys its ∧ H' s2.heap.objs.size = none ∧ W i n ys σB H') ?_ m0
      ⟨0, stB own cap σ, H2, [], [], 0, I4, st4, fun b hb => (f2 b hb).1, hD, .nil, I.hok.fresh (Nat.le_refl _), w0⟩
    rintro n s3 ⟨i, σ3, H3, ys, its, k, I3, st3, fr3, hD3, rv, hn3, w3⟩
    rcases turn i n ys σ3 H3 w3 with ⟨stop, hz, q⟩ | ⟨go, hz, step⟩
    · refine thn (T.done (cxB X NB own scope P.objs.size fp s2 H2) rfl rfl rfl hc i _ s3 σ3 H3 noE (I3D I3 hD3 hn3) (fun b hb => fOk hb (fr3 b hb)) st3 stop) fun r s4 zq1 => ?_
      obtain ⟨hr, I4'⟩ := zq1
      subst hr
      have hD4 : s4.heap.get? s2.heap.objs.size = some { cls := .type "list", data := .seq (its : List Value).toArray k } := (I4'.pin (s2.heap.objs.size, _) (List.mem_append_right _ (List.mem_singleton.mpr rfl))).1
      have I5 : Inv (cxB X NB own scope P.objs.size fp s2 H2) [] σ3 H3 s4 := I4'.pins_of fun p hp => absurd (show p ∈ ([] : List (Addr × Obj)) from hp) (by simp)
      obtain ⟨mC, hnC, _⟩ := I5.loc
      have I6 : Inv X pins σ (upd H3 s2.heap.objs.size (.lst ys)) s4 := B.done (h'' := s4.heap) I f2 hCle (Nat.le_refl _) hDC I5 hn3 hD4 rv hz ⟨rfl, fun _ _ => rfl⟩
      obtain ⟨oC, es, ep, hoC, hdC, rC⟩ := hnC
      have hCn : (upd H3 s2.heap.objs.size (.lst ys)) P.objs.size = none := by rw [upd_ne hDC.symm]; exact I5.free
      have nL : P.objs.size ≠ X.env.locals := fun z => absurd I.lt (by rw [← z]; exact Nat.not_lt.mpr hCle)
      have I7 : Inv X (pins ++ [(P.objs.size, oC)]) σ (upd H3 s2.heap.objs.size (.lst ys)) s4 := I6.pins_of fun p hp => by
        rcases List.mem_append.mp hp with z | z
        · exact I6.pin p (List.mem_append_right _ z)
        · have ep := List.mem_singleton.mp z
          subst ep
          exact ⟨hoC, hCn, nL, I.nofs hCle, fun v z => by rw [hdC] at z; cases z⟩
      refine thn (pg_name (pos := py) hN hi0 hx hf (pins ++ [(P.objs.size, oC)]) s4 σ _ (.ref s2.heap.objs.size) (.ref s2.heap.objs.size) (fun σ' H' => DD.nx σ' H' ∧ H' = upd H3 s2.heap.objs.size (.lst ys)) I7 rfl ⟨q _ hn3, rfl⟩) fun _ s5 zq2 => ?_
      obtain ⟨σ5, H5, I8, q5, e5⟩ := zq2
      subst e5
      have pC := (I8.pin (P.objs.size, oC) (List.mem_append_right _ (List.mem_append_right _ (List.mem_singleton.mpr rfl)))).1
      refine ⟨mC, ⟨oC, es, ep, pC, hdC, rC⟩, fun h'' sb => ⟨σ5, _, ?_, q5⟩⟩
      have I9 : Inv X pins σ5 (upd H3 s2.heap.objs.size (.lst ys)) s5 := I8.pins_of fun p hp => I8.pin p (List.mem_append_right _ (List.mem_append_left _ hp))
      refine I9.turned (t' := s5.toks) (it := P.objs.size) (fun b o hb e => (sb.2 b hb).trans e) hCn nL (.inr (Nat.le_trans I.sz hCle)) (fun x c e z => ?_) fun p hp z => ?_
      · obtain ⟨v, o, ho, _⟩ := I.cell x c e
        exact absurd (Heap.lt_size ho) (by rw [z]; exact Nat.not_lt.mpr hCle)
      · exact absurd (Heap.lt_size (I.pin p hp).1) (by rw [z]; exact Nat.not_lt.mpr hCle)
    · refine thn (T.item (cxB X NB own scope P.objs.size fp s2 H2) rfl rfl rfl hc i _ s3 σ3 H3 noE (I3D I3 hD3 hn3) (fun b hb => fOk hb (fr3 b hb)) st3 go) fun r s4 zq3 => ?_
      obtain ⟨u, hr, h4⟩ := zq3
      subst hr
      refine thn h4 fun _ s5 zq4 => ?_
      obtain ⟨x, H5, I5, r5, y5, st5, fr5⟩ := zq4
      have I5' := I5.pinned (fun b hb => fOk hb (fr5 b hb)) (T.obj _ _ st5)
      refine thn (hg _ fp s2 H2 _ s5 σ3 H5 x u _ I5' r5 (step x H5 y5)) fun _ s6 zq5 => ?_
      obtain ⟨σ6, H6, I6, q6⟩ := zq5
      refine thn (ht _ fp s2 H2 _ s6 σ6 H6 _ I6 q6) fun b s7 zq6 => ?_
      obtain ⟨H7, I7, q7⟩ := zq6
      have pinned : ∀ {σ8 : St} {H8 : Hp} {s8 : Shared}, Inv (cxB X NB own scope P.objs.size fp s2 H2) ([(s2.heap.objs.size, { cls := .type "list", data := .seq (its : List Value).toArray k })] ++ pinsAt fp s5.heap) σ8 H8 s8 →
          tn (i + 1) s8.heap ∧ (∀ b ∈ fp, H8 b = none) ∧ s8.heap.get? s2.heap.objs.size = some { cls := .type "list", data := .seq (its : List Value).toArray k } ∧ H8 s2.heap.objs.size = none := fun {σ8 H8 s8} I8 => by
        refine ⟨T.keep _ _ _ st5 fun b hb o e => (I8.pin (b, o) (List.mem_append_right _ (List.mem_append_right _ (mem_pinsAt hb e)))).1, fun b hb => ?_, ?_, ?_⟩
        · obtain ⟨o, e, d⟩ := T.obj _ _ st5 b hb
          exact (I8.pin (b, o) (List.mem_append_right _ (List.mem_append_right _ (mem_pinsAt hb e)))).2.1
        · exact (I8.pin (s2.heap.objs.size, _) (List.mem_append_right _ (List.mem_append_left _ (List.mem_singleton.mpr rfl)))).1
        · exact (I8.pin (s2.heap.objs.size, _) (List.mem_append_right _ (List.mem_append_left _ (List.mem_singleton.mpr rfl)))).2.1
      have nopin : ∀ {pp : List (Addr × Obj)} {σ8 : St} {H8 : Hp} {s8 : Shared}, Inv (cxB X NB own scope P.objs.size fp s2 H2) pp σ8 H8 s8 → Inv (cxB X NB own scope P.objs.size fp s2 H2) [] σ8 H8 s8 := fun I8 => I8.pins_of fun p hp => absurd (show p ∈ ([] : List (Addr × Obj)) from hp) (by simp)
      cases b with
      | false =>
        rw [if_neg Bool.false_ne_true] at q7 ⊢
        obtain ⟨m', hm, w7⟩ := q7
        obtain ⟨p1, p2, p3, p4⟩ := pinned I7
        exact ⟨m', hm, i + 1, σ6, H7, ys, its, k, nopin I7, p1, p2, p3, rv, p4, w7⟩
      | true =>
        rw [if_pos rfl] at q7 ⊢
        refine thn (he _ fp s2 H2 _ s7 σ6 H7 _ I7 q7) fun yv s8 zq7 => ?_
        obtain ⟨y, H8, I8, r8, m', hm, w8⟩ := zq7
        obtain ⟨p1, p2, p3, p4⟩ := pinned I8
        refine call_meets F.slot_list_append ⟨_, p3, rfl⟩ F.entry_list_append (F.args_list_append_2 _ _) (PySem.list_append s2.heap.objs.size its.toArray k yv (by rw [List.size_toArray, ← rv.length]; omega)) ⟨p3, ?_⟩
        have q := PySem.IsL.update p3 fun a => a.push yv
        have ea : its.toArray.push yv = (its ++ [yv]).toArray := by simp
        rw [ea] at q
        have I9 : Inv (cxB X NB own scope P.objs.size fp s2 H2) [] σ6 H8 { s8 with heap := s8.heap.update s2.heap.objs.size (Obj.mapSeq fun a => a.push yv), toks := s8.toks } :=
          (nopin I8).turned (it := s2.heap.objs.size) (fun b o hb e => (Heap.get?_update_other s8.heap _ (Ne.symm hb)).trans e) p4 hDC (.inr (Nat.le_refl _)) (fun x c e => nCD x c e) fun p hp => absurd (show p ∈ ([] : List (Addr × Obj)) from hp) (by simp)
        refine ⟨m', hm, i + 1, σ6, H8, ys ++ [y], its ++ [yv], _, I9, ?_, p2, q, rv.append (.cons r8 .nil), p4, w8⟩
        refine T.keep _ _ _ p1 fun b hb o e => (Heap.get?_update_other s8.heap _ ?_).trans e
        intro z
        rw [z] at ndf
        exact ndf hb
  exact codeAny_compStart_list (loop _ rfl) (T.self X.A 0 _ _ _ st4 (loop _ rfl))

end L2
namespace L2
open PySem PySem.Spec PyProof.Rows Wd
theorem Fd.upd {H : Hp} {d l p : Addr} {o : HO} {xs : List V} (F : Fd H d) (h : H l = some (.lst xs)) (n : l ≠ d) (hx : .ref p ∈ xs) : Fd (L2.upd H l o) d := by
  obtain ⟨c, i, ll, t, ns, h1, h2, h3, h4⟩ := F.ex
  have hc : c ≠ l := fun e => by
    subst e
    rw [h2] at h
    have h := HO.lst.inj (Option.some.inj h)
    rw [← h] at hx
    obtain ⟨k, _, e⟩ := List.mem_map.mp hx
    cases e
  exact ⟨c, i, ll, t, ns, by rw [upd_ne n.symm]; exact h1, by rw [upd_ne hc]; exact h2, h3, h4⟩
end L2
set_option Elab.async false
set_option linter.all false
set_option maxRecDepth 100000
namespace PySem
open Sem (wp)
open AutoSeq1 (wpAny_loadPart')
section
variable {prog : Program} {w : World} {A : Around} {E : Value → Shared → Prop} {s : Shared}
end
end PySem
namespace L2
open PySem PySem.Spec PyProof.Rows Wd
section
variable {X : Cx}
theorem fp2 {pins : List (Addr × Obj)} {σ : St} {H : Hp} {s : Shared} (I : Inv X pins σ H s) : ∀ b ∈ [s.heap.objs.size + 1, s.heap.objs.size], FpOk X pins H b := fun b hb => by
  have hge : s.heap.objs.size ≤ b := by
    simp only [List.mem_cons, List.not_mem_nil, or_false] at hb
    rcases hb with rfl | rfl <;> omega
  exact I.fpOk hge (I.hok.fresh hge)
end
end L2
set_option Elab.async false
set_option linter.all false
set_option maxRecDepth 100000
namespace PySem
open Sem (wp)
section
variable {prog : Program} {w : World} {A : Around} {E : Value → Shared → Prop} {s : Shared} {z TI TO i1 i2 : Addr} {k n1 n2 : Nat} {a b : Value} {fp1 fp2 : List Addr} {P1 P2 : Nat → Value → Prop} {S1 S2 : Nat → Heap → Prop}
end
end PySem
set_option Elab.async false
set_option linter.all false
set_option maxRecDepth 100000
namespace PySem
end PySem
namespace L2
open PySem PySem.Spec PyProof.Rows Wd
section
variable {X : Cx}
end
end L2
set_option Elab.async false
set_option linter.all false
set_option maxRecDepth 100000
namespace L2
open PySem PySem.Spec PyProof.Rows Wd
section
variable {X : Cx}
end
end L2
set_option Elab.async false
set_option linter.all false
set_option maxRecDepth 100000
set_option maxHeartbeats 0
namespace Kx
open PySem PySem.Spec PyProof.Rows L2 Wd
end Kx
namespace L2
open PySem PySem.Spec PyProof.Rows Wd
section
variable {X : Cx} {tg : Expr}
end
end L2
namespace Kx
open PySem PySem.Spec PyProof.Rows L2 Wd
noncomputable def dV : V → PyData
  | .int i => .int i
  | .str z => .str z
  | _ => .none
end Kx
set_option Elab.async false
set_option linter.all false
set_option maxRecDepth 100000
namespace HT
open PySem PySem.Spec PyProof.Rows
section
variable {prog : Program} {w : World} {A : Around} {E : Value → Shared → Prop} {s : Shared}
end
end HT
namespace L2
open PySem PySem.Spec PyProof.Rows Wd
end L2
set_option Elab.async false
set_option linter.all false
set_option maxRecDepth 100000
namespace PySem
open Sem (wp)
section
variable {prog : Program} {w : World} {A : Around} {E : Value → Shared → Prop} {s : Shared}
section
variable {R : Result → Shared → Prop} {I : Addr} {fp wr : List Addr} {G : Array GenState → Array GenState → Prop} {n : Nat} {P : Nat → Value → Prop} {St : Nat → Shared → Prop}
end
end
end PySem
set_option Elab.async false
set_option linter.all false
set_option maxRecDepth 100000
namespace PySem
open Sem (wp)
section
variable {prog : Program} {w : World} {A : Around} {E : Value → Shared → Prop} {s : Shared}
end
end PySem
set_option Elab.async false
set_option linter.all false
set_option maxRecDepth 100000
namespace L2
open PySem PySem.Spec PyProof.Rows
theorem upd_idle {h : Heap} {T : Addr} {o : Obj} {f : Obj → Obj} (ho : h.get? T = some o) (hf : f o = o) (b : Addr) : (h.update T f).get? b = h.get? b := by
  by_cases e : T = b
  · subst e
    have := Heap.get?_update_self f ho (by rw [hf]; exact (Heap.get?_some_iff.mp ho).2)
    rw [this, hf, ho]
  · exact Heap.get?_update_other _ _ e
theorem map_idle {oT : Obj} {ts : Array Value} {i : Nat} {v : Value} (hd : oT.data = .fields ts) (h3 : ts[i]? = some v) : Obj.mapFields (·.setIfInBounds i v) oT = oT := by
  obtain ⟨c, d, dt, sl⟩ := oT
  simp only at hd
  subst hd
  obtain ⟨hi, hv⟩ := Array.getElem?_eq_some_iff.mp h3
  have : ts.setIfInBounds i v = ts := by
    apply Array.ext
    · simp
    · intro j h1 h2
      by_cases hj : i = j
      · subst hj; simp [hv]
      · rw [Array.getElem_setIfInBounds_ne _ hj]
  simp only [Obj.mapFields, this]

noncomputable def FltT (T : Addr) (h : Heap) (a : Addr) (fl : Value) : Prop :=
  ∃ oe vs oT ts, h.get? a = some oe ∧ oe.data = .fields vs ∧ vs[1]? = some (.ref T) ∧ T ≠ a ∧ h.get? T = some oT ∧ oT.data = .fields ts ∧ ts[3]? = some fl
noncomputable def Flt (h : Heap) (a : Addr) (fl : Value) : Prop := ∃ T, FltT T h a fl

structure Nts (fs : List Addr) (a : Addr) (fl : Value) (h h' : Heap) : Prop where
  keep : ∀ b o, b ∉ fs → b ≠ a → h.get? b = some o → h'.get? b = some o
  slot : ∀ b o, b ∈ fs → h.get? b = some o → ∃ sl, h'.get? b = some { o with slots := sl }
  exc : ∀ oe vs, h.get? a = some oe → oe.data = .fields vs → ∃ oe' vs', h'.get? a = some oe' ∧ oe'.cls = oe.cls ∧ oe'.dict = oe.dict ∧ oe'.data = .fields vs' ∧ vs'.size = vs.size
  fly : ∃ T, h.objs.size ≤ T ∧ FltT T h' a fl

section
variable {M : Model} {A : Around} {E : Value → Shared → Prop} {s : Shared}
set_option maxHeartbeats 1600000 in
theorem entryX {base : Heap} {env : Env} {outer : List Env} {L e : Addr} {oe : Obj} {vs : Array Value} {head : Value} {hadNext : Bool} {Q : Unit → Shared → Prop}
    (hfr : A.frames = some (env :: outer)) (hl : s.heap.FunFrames base (env :: outer)) (hf : env.frame = some L)
    (he : s.heap.get? e = some oe) (hd : oe.data = .fields vs) (hsz : 1 < vs.size)
    (h : ∀ h', Nts (frs (env :: outer)) e (rawInt L) s.heap h' → Q () { s with heap := h' }) :
    wpAny M A (do let a ← frameOf env; let pl ← entryPlaceOf L hadNext; let b ← EntryCells.newEntry head a .none (rawInt L) .none pl; setField (.ref e) 1 b) Q E s := by
  have hene : e ∉ frs (env :: outer) := fun hm => by
    obtain ⟨_, o, ho, hnf⟩ := hl.mem hm
    rw [he] at ho; injection ho with ho; subst ho; exact hnf vs hd
  refine wpAny_bind (wpAny_frameOf_fun hfr hl hf fun h₁ hs₁ => ?_)
  refine wpAny_bind (wpAny_entryPlaceOf fun pl hpl => ?_)
  unfold EntryCells.newEntry newFields
  refine wpAny_bind (wpAny_newObj_type ?_ (hpl.sizeOk5 _ _ _ _ _))
  generalize hN : ({ cls := .type "traceback", dict := none, data := .fields ([head, .ref L, .none, rawInt L, .none] ++ (if pl.isEmpty then List.replicate 6 Value.none else pl)).toArray } : Obj) = oN
  have hNd : oN.data = .fields ([head, .ref L, .none, rawInt L, .none] ++ (if pl.isEmpty then List.replicate 6 Value.none else pl)).toArray := by rw [← hN]
  have hNf : oN.isFreed = false := by rw [← hN]; rfl
  have he₁ : h₁.get? e = some oe := (hs₁.2.1 e hene).trans he
  have he₂ := Heap.get?_push_of_some (h := h₁) oN he₁
  refine wpAny_setField he₂ hd hsz (h _ ?_)
  have hTe : h₁.objs.size ≠ e := Nat.ne_of_gt (Heap.lt_size he₁)
  have hd₃ := Obj.data_mapFields hd (·.setIfInBounds 1 (Value.ref h₁.objs.size))
  have he₃ := Heap.get?_update_self (Obj.mapFields (·.setIfInBounds 1 (Value.ref h₁.objs.size))) he₂ (Obj.isFreed_of_fields hd₃)
  have hT₃ := (Heap.get?_update_other (h₁.push oN) (Obj.mapFields (·.setIfInBounds 1 (Value.ref h₁.objs.size))) (Ne.symm hTe)).trans (Heap.get?_push_size h₁ hNf)
  have keep : ∀ b o, b ≠ e → h₁.get? b = some o → ((h₁.push oN).update e (Obj.mapFields (·.setIfInBounds 1 (Value.ref h₁.objs.size)))).get? b = some o := fun b o hbe hb => by
    rw [Heap.get?_update_other _ _ (Ne.symm hbe)]
    exact Heap.get?_push_of_some _ hb
  refine ⟨fun b o hb hbe q => keep b o hbe ((hs₁.2.1 b hb).trans q), fun b o hb q => ?_, fun oe' vs' q qd => ?_, ?_⟩
  · obtain ⟨sl, q'⟩ := hs₁.2.2 b o q
    exact ⟨sl, keep b _ (fun z => hene (z ▸ hb)) q'⟩
  · rw [he] at q; cases q
    rw [hd] at qd; cases qd
    refine ⟨_, _, he₃, Obj.cls_mapFields _ _, ?_, hd₃, by simp⟩
    obtain ⟨c, d, dt, sl⟩ := oe
    cases dt <;> rfl
  · refine ⟨h₁.objs.size, Nat.le_of_eq hs₁.1.symm, _, _, oN, _, he₃, hd₃, by simp [hsz], hTe, hT₃, hNd, ?_⟩
    first | (simp; done) | (rcases hpl with rfl | ⟨_, _, _, _, _, _, _, rfl⟩ <;> simp)

theorem noteX {base : Heap} {env : Env} {outer : List Env} {L e : Addr} {oe : Obj} {vs : Array Value} {Q : Unit → Shared → Prop}
    (hfr : A.frames = some (env :: outer)) (hl : s.heap.FunFrames base (env :: outer)) (hf : env.frame = some L)
    (he : s.heap.get? e = some oe) (hd : oe.data = .fields vs) (h1 : vs[1]? = some .none ∨ Flt s.heap e .none)
    (h : ∀ h', Nts (frs (env :: outer)) e (rawInt L) s.heap h' → Q () { s with heap := h' }) : wpAny M A (noteFrame (.ref e) env) Q E s := by
  unfold noteFrame
  simp only [hf]
  rcases h1 with h1 | ⟨T, oe', vs', oT, ts, he', hd', h1, hTe, hT, hdT, h3⟩
  · refine wpAny_bind (wpAny_field he hd h1 ?_)
    rw [if_neg (by decide)]
    exact entryX hfr hl hf he hd (Array.getElem?_eq_some_iff.mp h1).1 h
  · rw [he] at he'; cases he'
    rw [hd] at hd'; cases hd'
    refine wpAny_bind (wpAny_field he hd h1 ?_)
    rw [if_pos (show (Value.ref T != Value.none) = true from by simp)]
    refine wpAny_bind (wpAny_field hT hdT h3 ?_)
    rw [if_neg (show ¬ ((Value.none == rawInt L) = true) from by simp [rawInt])]
    refine wpAny_bind (wpAny_setField hT hdT (Array.getElem?_eq_some_iff.mp h3).1 ?_)
    have idle := upd_idle (f := Obj.mapFields (·.setIfInBounds 3 Value.none)) hT (map_idle hdT h3)
    refine entryX hfr (hl.of_keeps fun b o hb _ => ⟨o, (idle b).trans hb, rfl⟩) hf ((idle e).trans he) hd (Array.getElem?_eq_some_iff.mp h1).1 fun h' N => h h' ?_
    obtain ⟨k1, k2, k3, k4⟩ := N
    refine ⟨fun b o hb hbe q => k1 b o hb hbe ((idle b).trans q), fun b o hb q => k2 b o hb ((idle b).trans q), fun o v q d => k3 o v ((idle e).trans q) d, ?_⟩
    obtain ⟨T', b1, b2⟩ := k4
    exact ⟨T', Nat.le_trans (Nat.le_of_eq (Heap.size_after_update ..).symm) b1, b2⟩

theorem flightX {T e : Addr} {fl : Value} {Q : Unit → Shared → Prop} (hF : FltT T s.heap e fl)
    (h : ∀ h', FltT T h' e .none → (∀ b o, b ≠ T → s.heap.get? b = some o → h'.get? b = some o) → (∀ b, (∃ o, s.heap.get? b = some o) → ∃ o, h'.get? b = some o) → (fl = .none → ∀ b, h'.get? b = s.heap.get? b) → Q () { s with heap := h' }) :
    wpAny M A (setFlight (.ref e) none) Q E s := by
  obtain ⟨oe, vs, oT, ts, he, hd, h1, hTe, hT, hdT, h3⟩ := hF
  have hsz3 : 3 < ts.size := (Array.getElem?_eq_some_iff.mp h3).1
  have other : ∀ b, b ≠ T → (s.heap.update T (Obj.mapFields (·.setIfInBounds 3 ((none : Option Addr).elim Value.none fun f => rawInt f)))).get? b = s.heap.get? b :=
    fun b hb => Heap.get?_update_other _ _ (Ne.symm hb)
  have hT' := Heap.get?_update_self (Obj.mapFields (·.setIfInBounds 3 ((none : Option Addr).elim Value.none fun f => rawInt f))) hT (Obj.isFreed_of_fields (Obj.data_mapFields hdT _))
  unfold setFlight
  refine wpAny_bind (wpAny_field he hd h1 ?_)
  rw [if_pos (show (Value.ref T != Value.none) = true from by simp)]
  refine wpAny_setField hT hdT hsz3 (h _ ⟨oe, vs, _, _, (other e (Ne.symm hTe)).trans he, hd, h1, hTe, hT', Obj.data_mapFields hdT _, by simp [hsz3]⟩ (fun b o hb q => (other b hb).trans q) (fun b ⟨o, q⟩ => ?_) fun z b => ?_)
  · by_cases z : b = T
    · subst z; exact ⟨_, hT'⟩
    · exact ⟨o, (other b z).trans q⟩
  · subst z
    exact upd_idle hT (map_idle hdT h3) b

theorem leaveX {base : Heap} {env : Env} {outer : List Env} {L e : Addr} {oe : Obj} {vs : Array Value} {Q : Unit → Shared → Prop}
    (hfr : A.frames = some (env :: outer)) (hl : s.heap.FunFrames base (env :: outer)) (hf : env.frame = some L)
    (he : s.heap.get? e = some oe) (hd : oe.data = .fields vs) (h1 : vs[1]? = some .none ∨ Flt s.heap e .none)
    (h : ∀ h', Nts (frs (env :: outer)) e .none s.heap h' → Q () { s with heap := h' }) : wpAny M A (leaving env (.ref e)) Q E s := by
  unfold leaving
  refine wpAny_bind (noteX hfr hl hf he hd h1 fun h₁ N => ?_)
  obtain ⟨k1, k2, k3, T, hT, k4⟩ := N
  refine flightX (s := { s with heap := h₁ }) k4 fun h₂ f1 f2 f3 _ => h h₂ ⟨fun b o hb hbe q => f2 b o (fun z => ?_) (k1 b o hb hbe q), fun b o hb q => ?_, fun oe vs q qd => ?_, T, hT, f1⟩
  · exact absurd (Nat.lt_of_lt_of_le (Heap.lt_size q) (z ▸ hT)) (Nat.lt_irrefl _)
  · obtain ⟨sl, q'⟩ := k2 b o hb q
    exact ⟨sl, f2 b _ (fun z => absurd (Nat.lt_of_lt_of_le (Heap.lt_size q) (z ▸ hT)) (Nat.lt_irrefl _)) q'⟩
  · obtain ⟨oe', vs', q1, q2⟩ := k3 oe vs q qd
    exact ⟨oe', vs', f2 e _ (fun z => absurd (Nat.lt_of_lt_of_le (Heap.lt_size q) (z ▸ hT)) (Nat.lt_irrefl _)) q1, q2⟩
end
end L2
set_option Elab.async false
set_option linter.all false
set_option maxRecDepth 100000
namespace L2
open PySem PySem.Spec PyProof.Rows
noncomputable def exo (a C : Addr) (d : Option Addr) (b : Bool) : Heap → Prop := fun h =>
  ∃ oe vs, h.get? a = some oe ∧ oe.cls = .ref C ∧ oe.dict = d ∧ oe.data = .fields vs ∧ vs.size = 6 ∧ (b = true → vs[1]? = some .none)
noncomputable abbrev Exo (a C : Addr) (d : Option Addr) (b : Bool) : HO := .ext (exo a C d b)
theorem exo_stay {a C : Addr} {d : Option Addr} {b : Bool} {h1 h2 : Heap} (x : exo a C d b h1) (k : ∀ o, h1.get? a = some o → h2.get? a = some o) : exo a C d b h2 :=
  let ⟨oe, vs, q, r⟩ := x; ⟨oe, vs, k _ q, r⟩
theorem exo_ok {P : Program} {w : World} {H : Hp} {h : Heap} {a C : Addr} {d : Option Addr} {b : Bool} (x : exo a C d b h) : ObjOk P w H h a (Exo a C d b) :=
  ⟨x, let ⟨oe, _, q, _⟩ := x; ⟨oe, q⟩, fun _ _ y k => exo_stay y k⟩
theorem upd_idem {H : Hp} {a : Addr} {o : HO} (h : H a = some o) : upd H a o = H := by
  funext b
  by_cases e : b = a
  · subst e; rw [upd_same, h]
  · rw [upd_ne e]

noncomputable def CXe (P : Program) (w : World) : CXT := fun outer H s E e s' =>
  ∃ a C d H', e = .ref a ∧ s'.os = s.os ∧ AllBare s'.gens ∧ Un (frs outer) [] H H' s.heap s'.heap ∧ HOk P w H' s'.heap ∧ H' a = some (Exo a C d false) ∧ Flt s'.heap a .none ∧ E (.ref a) none H'


section
variable {P : Program} {w : World} {H : Hp} {h h' : Heap} {fs : List Addr} {e C : Addr} {d : Option Addr} {b : Bool} {fl : Value}
theorem nts_un (ok : HOk P w H h) (he : H e = some (Exo e C d b)) (hfs : ∀ c ∈ fs, H c = none) (N : Nts fs e fl h h') :
    Un fs [] H (upd H e (Exo e C d false)) h h' ∧ HOk P w (upd H e (Exo e C d false)) h' := by
  obtain ⟨⟨oe, vs, g1, g2, g3, g4, g5, g6⟩, _, _⟩ := ok e _ he
  obtain ⟨oe', vs', n1, n2, n3, n4, n5⟩ := N.exc oe vs g1 g4
  have hx : exo e C d false h' := ⟨oe', vs', n1, n2.trans g2, n3.trans g3, n4, n5.trans g5, fun z => by cases z⟩
  have ne : ∀ c, H c = none → c ≠ e := fun c n z => by rw [z, he] at n; cases n
  have ne' : ∀ c u, H c = some u → u ≠ Exo e C d b → c ≠ e := fun c u q n z => by rw [z, he] at q; cases q; exact n rfl
  refine ⟨⟨fun c o q n hc _ => N.keep c o hc (ne c n) q, fun c o q n hc _ => N.slot c o hc q, fun c o q n _ => by rw [upd_ne (ne c n)]; exact n, fun c o q _ => ?_,
    fun c xs q => by rw [upd_ne (ne' c _ q (by intro z; cases z))]; exact q, fun c o u q => by rw [upd_ne (ne' c _ q (by intro z; cases z))]; exact q, fun c ps q => ⟨#[], by rw [upd_ne (ne' c _ q (by intro z; cases z)), q]; simp⟩⟩, fun c u q => ?_⟩
  · by_cases z : c = e
    · subst z; exact ⟨_, n1⟩
    · by_cases y : c ∈ fs
      · obtain ⟨sl, r⟩ := N.slot c o y q
        exact ⟨_, r⟩
      · exact ⟨o, N.keep c o y z q⟩
  · by_cases z : c = e
    · subst z; rw [upd_same] at q; cases q; exact exo_ok hx
    · rw [upd_ne z] at q
      refine (ok c u q).stay (fun x v hx q' => ?_) (fun x hx => by rw [upd_ne (ne' x _ hx (by intro z; cases z))]; exact hx) fun x xs hx => by rw [upd_ne (ne' x _ hx (by intro z; cases z))]; exact hx
      have nx : x ≠ e := by
        rcases hx with rfl | hx
        · exact z
        · exact ne' x _ hx (by intro z; cases z)
      refine N.keep x v (fun y => ?_) nx q'
      have := hfs x y
      rcases hx with rfl | hx
      · rw [this] at q; cases q
      · rw [this] at hx; cases hx
end

noncomputable def Raises (X : Cx) (E : XK) : Prop := ∀ (pins : List (Addr × Obj)) (σ : St) (H : Hp) (s : Shared) (a C : Addr) (d : Option Addr), Inv X pins σ H s → H a = some (Exo a C d true) → E (.ref a) none (upd H a (Exo a C d false)) → X.xe (.ref a) s

section
variable {P : Program} {w : World} {K : PySem.W.Frag} {mg : Str → Option Value} {base : Heap} {N : List Str} {qual : Str} {scope : Scope} {f : Addr} {cd : Value} {A : Around} {outer : List Env} {s : Shared} {H : Hp} {E : XK}
theorem leave_def {pins : List (Addr × Obj)} {σ : St} {H1 : Hp} {s1 : Shared} {a C : Addr} {d : Option Addr} {b : Bool} (I : Inv (cxOf (CXe P w) P w K mg base N qual scope f cd A outer s H E) pins σ H1 s1)
    (ha : H1 a = some (Exo a C d b)) (hf : b = true ∨ Flt s1.heap a .none) (hE : E (.ref a) none (upd H1 a (Exo a C d false))) : (cxOf (CXe P w) P w K mg base N qual scope f cd A outer s H E).xe (.ref a) s1 := by
  obtain ⟨⟨oe, vs, g1, g2, g3, g4, g5, g6⟩, _, _⟩ := I.hok a _ ha
  refine leaveX (base := base) (outer := outer) I.ok.frames I.stack rfl g1 g4 (hf.imp (fun z => g6 z) id) fun h' Nt => ?_
  obtain ⟨un, hok⟩ := nts_un I.hok ha I.stkFree Nt
  have J := I.call' (s' := { s1 with heap := h' }) rfl un hok I.bare (fun b z => absurd z (by simp))
  obtain ⟨T, _, hT⟩ := Nt.fly
  exact ⟨a, C, d, _, rfl, J.os, J.bare, J.base, J.hok, upd_same .., ⟨T, hT⟩, hE⟩
theorem raises_def : Raises (cxOf (CXe P w) P w K mg base N qual scope f cd A outer s H E) E := fun pins σ H1 s1 a C d I ha hE => leave_def I ha (.inl rfl) hE
theorem passes_def : Passes (CXe P w) (cxOf (CXe P w) P w K mg base N qual scope f cd A outer s H E) E := by
  intro pins σ H1 s1 e s' I ⟨a, C, d, H', he, os, bare, un, hok, ha, hf, hE⟩
  subst he
  have J := I.call' os un hok bare (fun b z => absurd z (by simp))
  exact leave_def J ha (.inr hf) (by rw [upd_idem ha]; exact hE)
end
end L2
set_option Elab.async false
set_option linter.all false
set_option maxRecDepth 100000
namespace L2
open PySem PySem.Spec PyProof.Rows
noncomputable abbrev bmV : List Value := [.type "ValueError", .type "Exception", .type "BaseException", .type "object"]
structure XCl (K : PySem.W.Frag) (C : Addr) (bm : List Value) : Prop where
  obj : ∃ dd cd k0 k1 k2 k3 k5, K.lookup C = some ⟨.type "type", dd, .cls cd, #[k0, k1, k2, k3, some (.builtin "ValueError.__new__"), k5]⟩ ∧ cd.mro = .ref C :: bm ∧ cd.hasDel = false ∧ cd.hasDict = true
  tl : PySem.W.tailIn K bmV bm = true
  kp : PySem.W.keepIn K (.ref C) = true
noncomputable abbrev xtup (us : List Value) : Obj := { cls := .type "tuple", data := .seq us.toArray }
noncomputable abbrev xnew (C t : Addr) : Obj := { cls := .ref C, data := .fields #[.ref t, .none, .none, .none, .bool false, .none] }
theorem XCl.at {K : PySem.W.Frag} {C : Addr} {bm : List Value} {h : Heap} (x : XCl K C bm) (X : K.In h) : OwnTail h bmV bm ∧ ∃ nm q N bs sn sub ab col dd k0 k1 k2 k3 k5, h.get? C = some (excClassObj nm q C N bs bm true sn sub ab col dd k0 k1 k2 k3 k5 "ValueError.__new__") := by
  refine ⟨PySem.W.tail_of_in X x.tl, ?_⟩
  obtain ⟨dd, cd, k0, k1, k2, k3, k5, hl, hm, hd, hh⟩ := x.obj
  obtain ⟨nm, bs, mro, ns, qn, hdc, sn, sub, ab, col, del⟩ := cd
  dsimp only at hm hd hh
  subst hm hd hh
  exact ⟨nm, qn, ns, bs, sn, sub, ab, col, dd, k0, k1, k2, k3, k5, X _ _ hl⟩

section
variable {prog : Program} {w : World} {A : Around} {E : Value → Shared → Prop} {h : Heap} {g : Array GenState} {d : Drawn} {t : Nat} {os : OsState} {K : PySem.W.Frag} {C fI : Addr} {bm : List Value}
set_option maxHeartbeats 1600000 in
theorem type_call_X {rest : List Value} {Q : Fin → Shared → Prop} (X : K.In h) (x : XCl K C bm) (hi : PySem.W.findIn K (.ref C) "__init__" = some (some (.ref fI))) (hf : PySem.W.isFn K (.ref fI) = true)
    (hq : wpAny (model prog w) A (call (.ref fI) (.ref (h.objs.size + 1) :: rest)) (fun r s' => r = .none ∧ Q (.done (.ret (.ref (h.objs.size + 1)))) s') E ⟨(h.push (xtup rest)).push (xnew C h.objs.size), g, d, t, os⟩) (hrest : rest.length ≤ sizeLine) :
    wpAny (model prog w) A (Builtin.«type.__call__» ⟨.ref C :: rest, []⟩) Q E ⟨h, g, d, t, os⟩ := by
  obtain ⟨T, nm, q, N, bs, sn, sub, ab, col, dd, k0, k1, k2, k3, k5, hC⟩ := x.at X
  have F := PySem.F.excBase_ValueError
  repeat (first | with_reducible refine wpAny_loadPart_at hC ?_ | with_reducible refine wpAny_madeBy_exc hC ?_ | wp_step)
  refine codeAny_call_builtin_code (Code.quiet_builtin _ F.quiet) (wpAny_check_new_subT F T hC ?_)
  refine codeAny_exc_new_subT F T hC ?_ hrest
  show wpAny _ _ _ _ _ _
  have k1 : ∀ b o, h.get? b = some o → ((h.push (xtup rest)).push (xnew C h.objs.size)).get? b = some o := fun b o e => Heap.get?_push_of_some _ (Heap.get?_push_of_some _ e)
  have hC₁ := k1 _ _ hC
  have X₁ : K.In ((h.push (xtup rest)).push (xnew C h.objs.size)) := fun b o e => k1 b o (X b o e)
  have hget : ((h.push (xtup rest)).push (xnew C h.objs.size)).get? (h.objs.size + 1) = some (xnew C h.objs.size) := by heap_get
  have hcC : (Value.ref C :: bm).contains (.ref C) = true := by simp
  unfold isInstance
  repeat (first | with_reducible refine wpAny_loadPart_at hget ?_ | (with_reducible refine wpAny_isSubtype_exc hC₁ ?_; rw [hcC]) | wp_step)
  show wpAny _ _ (typeLookup (.ref C) _) _ _ _
  refine (PySem.W.looks_findIn (M := model prog w) X₁ hi).at ?_
  refine wpAny_holding (wpAny_bind ?_)
  unfold bindSpecial
  have L := PySem.W.looks_typeIn (M := model prog w) X₁ (beq_iff_eq.mp hf)
  refine wpAny_bind (L.at ?_)
  rw [if_pos (by decide)]
  refine wpAny_pure (wpAny_bind (wpAny_mono hq (fun r s' hr => ?_) fun _ _ x => x))
  obtain ⟨rfl, hQ⟩ := hr
  wp_walk
  exact hQ

theorem call_X {rest : List Value} {Q : Value → Shared → Prop} (X : K.In h) (x : XCl K C bm) (hi : PySem.W.findIn K (.ref C) "__init__" = some (some (.ref fI))) (hf : PySem.W.isFn K (.ref fI) = true)
    (hq : wpAny (model prog w) (A.under (.builtin "type.__call__" ⟨.ref C :: rest, []⟩)) (call (.ref fI) (.ref (h.objs.size + 1) :: rest)) (fun r s' => r = .none ∧ Q (.ref (h.objs.size + 1)) s') E ⟨(h.push (xtup rest)).push (xnew C h.objs.size), g, d, t, os⟩) (hrest : rest.length ≤ sizeLine) :
    wpAny (model prog w) A (call (.ref C) rest) Q E ⟨h, g, d, t, os⟩ := by
  obtain ⟨T, nm, q, N, bs, sn, sub, ab, col, dd, k0, k1, k2, k3, k5, hC⟩ := x.at X
  have f1 := tc_lookup
  have f2 := tc_bind (.ref C)
  have hT : (⟨h, g, d, t, os⟩ : Shared).TypeIs (.ref C) "type" := ⟨_, hC, rfl⟩
  refine wpAny_call (codeAny_of_tree ?_)
  show wpAny _ _ (callAny (.ref C) _) _ _ _
  repeat (any_goals (first | assumption | with_reducible refine wpAny_loadPart_at hC ?_ | wp_step))
  refine ⟨rfl, ?_⟩
  exact codeAny_call_builtin_at (Code.quiet_builtin _ (by decide +kernel)) entry_typeCall (wpAny_check_type_call_sub hC (type_call_X X x hi hf hq hrest))
end

section
variable {X : Cx} {k : Nat} {f C : Addr} {fd : FuncData} {ps : List Str} {sp : Sp} {x : Str} {p pos : Pos} {e : Expr} {es : List Expr} {t : TA} {bm : List Value}
theorem Inv.madeX {pins : List (Addr × Obj)} {σ : St} {H : Hp} {s : Shared} (I : Inv X pins σ H s) (us : List Value) : Inv X pins σ (upd H (s.heap.objs.size + 1) (Exo (s.heap.objs.size + 1) C none true)) { s with heap := (s.heap.push (xtup us)).push (xnew C s.heap.objs.size) } := by
  have I1 := I.kept (h' := s.heap.push (xtup us)) (t' := s.toks) (fun b u q => Heap.get?_push_of_some _ q)
  refine I1.laid (a := s.heap.objs.size + 1) (t' := s.toks) (fun b u q => Heap.get?_push_of_some _ q) (Nat.le_of_eq (Heap.size_push _ _)) (exo_ok ⟨xnew C s.heap.objs.size, _, ?_, rfl, rfl, rfl, rfl, fun _ => rfl⟩)
  have := Heap.get?_push_size (s.heap.push (xtup us)) (o := xnew C s.heap.objs.size) rfl
  rwa [Heap.size_push] at this
theorem run_makeX {pins : List (Addr × Obj)} {σ : St} {H : Hp} {s : Shared} {Q : VK} {us : List Value} {vs : List V} (M : XCl X.K C bm) (hi : PySem.W.findIn X.K (.ref C) "__init__" = some (some (.ref f))) (hf : PySem.W.isFn X.K (.ref f) = true)
    (F : FnOk X.prog X.w X.K X.mg X.base CX0 k f fd ps sp) (hr : Room (k + 1) X.A) (hb : Binds X.K fd ps []) (I : Inv X pins σ H s) (r : Vals vs us)
    (h : vs.length ≤ 1000 ∧ ∀ x, H x = none → sp (.ref x :: vs) (upd H x (Exo x C none true)) (fun v H2 => v = .non ∧ Q (.ref x) H2) E0) : wpAny (model X.prog X.w) X.A (call (.ref C) us) (EP X pins σ Q) X.xe s := by
  obtain ⟨hl0, h⟩ := h
  have hq := h (s.heap.objs.size + 1) (I.hok.fresh (Nat.le_succ _))
  have I2 := Inv.madeX (C := C) I us
  have r2 : Vals (V.ref (s.heap.objs.size + 1) :: vs) (Value.ref (s.heap.objs.size + 1) :: us) := .cons rfl r
  have hl : (Value.ref (s.heap.objs.size + 1) :: us ++ []).length = ps.length := by
    have e := r2.length
    rw [F.len _ _ _ _ hq] at e
    rw [List.append_nil]
    exact e.symm
  obtain ⟨hh, g, d, tk, os⟩ := s
  refine call_X I.kIn M hi hf (wpAny_call ?_) (by rw [← r.length, sizeLine_eq]; omega)
  have hb' := hb ⟨(hh.push (xtup us)).push (xnew C hh.objs.size), g, d, tk, os⟩ (Value.ref (hh.objs.size + 1) :: us) I2.kIn hl
  rw [List.append_nil] at hb'
  refine codeAny_mono (F.run _ X.stack _ _ ⟨Value.ref (hh.objs.size + 1) :: us, []⟩ (Value.ref (hh.objs.size + 1) :: us) _ _ E0 (hr.make C us []) (I2.env0.make C us []) hb' r2 hq) fun r s' hq' => ?_
  cases r with
  | error e => exact hq'.elim
  | ok fl =>
    cases fl with
    | ret u =>
      obtain ⟨v, H', I3, rv, ev, q3⟩ := I2.after hq'
      subst ev
      exact ⟨rv, ⟨V.ref (hh.objs.size + 1), H', I3, rfl, q3⟩⟩
    | next => exact False.elim hq'
    | brk => exact False.elim hq'
    | cont => exact False.elim hq'
end
end L2
set_option Elab.async false
set_option linter.all false
set_option maxRecDepth 100000
namespace L2
open PySem PySem.Spec PyProof.Rows Builtin Builtin.ObjectAttr
section
variable {prog : Program} {w : World} {A : Around} {E : Value → Shared → Prop} {h : Heap} {g : Array GenState} {d : Drawn} {t : Nat} {os : OsState} {K : PySem.W.Frag} {C e : Addr} {bm : List Value} {oe : Obj} {vs : Array Value}
theorem init_X {rest : List Value} {R : Result → Shared → Prop} (X : K.In h) (x : XCl K C bm) (he : h.get? e = some oe) (hcls : oe.cls = .ref C) (hd : oe.data = .fields vs) (hsz : vs.size = 6) (hrest : rest.length ≤ sizeLine)
    (hq : R (.ok (.ret .none)) ⟨(h.push (xtup rest)).update e (Obj.mapFields (·.setIfInBounds 0 (.ref h.objs.size))), g, d, t, os⟩) :
    codeAny (model prog w) A (.call (.builtin "ValueError.__init__") ⟨.ref e :: rest, []⟩) R ⟨h, g, d, t, os⟩ := by
  obtain ⟨T, nm, q, N, bs, sn, sub, ab, col, dd, k0, k1, k2, k3, k5, hC⟩ := x.at X
  have F := PySem.F.excBase_ValueError
  refine codeAny_call_builtin F.init.plain F.initEntry (wpAny_check_init_subT F T hC he hcls ?_)
  unfold Builtin.«BaseException.__init__»
  refine wpAny_bind (m := newTuple rest) ?_
  unfold newTuple
  refine wpAny_newObj_type ?_ (by show rest.toArray.size ≤ sizeLine; rw [List.size_toArray]; exact hrest)
  have he₁ := Heap.get?_push_of_some (h := h) (xtup rest) he
  have h0 : ∃ a0, vs[0]? = some a0 := ⟨vs[0], Array.getElem?_eq_getElem (by omega)⟩
  obtain ⟨a0, h0⟩ := h0
  unfold BaseException.bexcPut
  refine wpAny_bind (wpAny_bind (wpAny_field he₁ hd h0 (wpAny_bind (wpAny_setField he₁ hd (by omega) ?_))))
  cases a0 <;> first | exact wpAny_letGo (wpAny_pure hq) | exact wpAny_pure (wpAny_pure hq)

theorem refuse_tail {bm : List Value} {self : Value} (T : OwnTail h bmV bm) : refuseLoop self "__setattr__" bm = pure () := by
  induction T with
  | base => exact PySem.F.store_ValueError.passes self
  | own _ _ _ _ ih => rw [refuseLoop_ref]; exact ih

structure SetX (h h' : Heap) (e : Addr) (oe : Obj) (name : Str) (v : Value) (mA : Str → Option Value) (dx : Addr) : Prop where
  ns : h'.Ns1 dx fun y => if y = name then some v else mA y
  exc : h'.get? e = some { oe with dict := some dx }
  keep : ∀ b o, b ≠ e → b ≠ dx → h.get? b = some o → h'.get? b = some o
section
variable {name : Str} {v : Value} {mA : Str → Option Value}
set_option maxHeartbeats 1600000 in
theorem set_entryX {tk : Tok} {Q : Fin → Shared → Prop} {ns : List Str} (X : K.In h) (x : XCl K C bm) (hna : PySem.W.findIn K (.ref C) name = some none)
    (hx : h.get? e = some oe) (hc : oe.cls = .ref C) (hnc : oe.data = .fields vs) (hd : (oe.dict = none ∧ ∀ n, mA n = none) ∨ ∃ dx, oe.dict = some dx ∧ dx ≠ e ∧ h.Ns1 dx mA)
    (hq : ∀ h' tk' dx, SetX h h' e oe name v mA dx → (oe.dict = none → dx = h.objs.size) → (∀ dy, oe.dict = some dy → dx = dy) → Q (.done (.ret .none)) ⟨h', g, d, tk', os⟩) (hw : Within mA ns) (hsz : ns.length ≤ 1000) :
    wpAny (model prog w) A (Builtin.«object.__setattr__» ⟨[.ref e, .str name tk, v], []⟩) Q E ⟨h, g, d, t, os⟩ := by
  obtain ⟨T, nm, q, N, bs, sn, sub, ab, col, dd, k0, k1, k2, k3, k5, hC⟩ := x.at X
  have hpass := refuse_tail (self := .ref e) T
  have L := PySem.W.looks_findIn (M := model prog w) X hna
  unfold Builtin.«object.__setattr__»
  repeat (first | rw [refuse_eq] | (rw [refuseLoop_ref, hpass]) | (with_reducible refine wpAny_loadPart_at hx ?_; rw [hc]) | with_reducible refine wpAny_mroOf_exc hC ?_ | with_reducible refine L.at ?_ | wp_step)
  rcases hd with ⟨hdn, hmA⟩ | ⟨dx, hdx, hne, hns⟩
  · rw [hdn, if_neg (by simp [typeHasDict])]
    split
    · rename_i hcd
      cases hcd
    split
    · rename_i c hcd
      rw [hnc] at hcd; cases hcd
    · have hx₁ : (h.push { cls := .type "dict", data := .dict #[] }).get? e = some oe := Heap.get?_push_of_some _ hx
      have hxs : e ≠ h.objs.size := Nat.ne_of_lt (Heap.lt_size hx)
      refine wpAny_bind (wpAny_alloc' ?_)
      refine wpAny_bind (wpAny_update' hx₁ ?_)
      refine wpAny_pure ?_
      have hgd : ((h.push { cls := .type "dict", data := .dict #[] }).update e fun o => { cls := o.cls, dict := some h.objs.size, data := o.data, slots := o.slots }).get? h.objs.size
          = some { cls := .type "dict", data := .dict #[] } :=
        (Heap.get?_update_ne _ _ _ _ hxs.symm).trans (Heap.get?_push_at rfl rfl)
      have hnd : ((h.push { cls := .type "dict", data := .dict #[] }).update e fun o => { cls := o.cls, dict := some h.objs.size, data := o.data, slots := o.slots }).Ns h.objs.size (fun _ => none) :=
        ⟨_, #[], _, hgd, rfl, fun e he => absurd he (by simp), fun _ => rfl⟩
      show wpAny _ _ (storeInDict h.objs.size (.str name tk) name v) _ _ _
      unfold storeInDict newKeyGuard
      refine wpAny_bind (wpAny_pure (wpAny_bind (wpAny_nsSet1 (Heap.Ns1.of_empty hnd) fun h' hn' hs => ?_)))
      obtain ⟨oD, esD, epD, hoD, hdD, hcD⟩ := hn'.count (Within.cons name v Within.nil)
      refine wpAny_bind (wpAny_lookBehind hoD (by rw [hdD]; exact pastItsLine_dict (Nat.le_trans hcD (by rw [List.length_cons, List.length_nil, sizeLine_eq]; omega))) ?_)
      wp_walk
      refine hq h' _ h.objs.size ⟨?_, ?_, fun b o hbx _ hb => ?_⟩ (fun _ => rfl) fun dy q => by rw [hdn] at q; cases q
      · obtain ⟨o', es, ep, e1, e2, e3, eu, e4⟩ := hn'
        exact ⟨o', es, ep, e1, e2, e3, eu, fun y => by rw [e4 y]; by_cases hy : y = name <;> simp [hy, hmA]⟩
      · exact (hs.2 e hxs).trans (Heap.get?_update_self _ hx₁ (Obj.isFreed_of_fields hnc))
      · exact (hs.2 b (Nat.ne_of_lt (Heap.lt_size hb))).trans ((Heap.get?_update_ne _ _ _ _ hbx).trans (Heap.get?_push_of_some _ hb))
  · rw [hdx]
    refine wpAny_pure ?_
    show wpAny _ _ (storeInDict dx (.str name tk) name v) _ _ _
    unfold storeInDict newKeyGuard
    refine wpAny_bind (wpAny_pure (wpAny_bind (wpAny_nsSet1 hns fun h' hn' hs => ?_)))
    obtain ⟨oD, esD, epD, hoD, hdD, hcD⟩ := hn'.count (Within.cons name v hw)
    refine wpAny_bind (wpAny_lookBehind hoD (by rw [hdD]; exact pastItsLine_dict (Nat.le_trans hcD (by rw [List.length_cons, sizeLine_eq]; omega))) ?_)
    wp_walk
    refine hq h' _ dx ⟨hn', ?_, fun b ob _ hbd hb => (hs.2 b hbd).trans hb⟩ (fun q => by rw [hdx] at q; cases q) fun dy q => by rw [hdx] at q; cases q; rfl
    rw [(hs.2 e hne.symm).trans hx]
    obtain ⟨c, dd, dt, sl⟩ := oe
    simp only at hdx
    subst hdx
    rfl

theorem check_saX {M : Model} {nameV : Value} {Q : Unit → Shared → Prop} (X : K.In h) (x : XCl K C bm) (hx : h.get? e = some oe) (hc : oe.cls = .ref C) (hq : Q () ⟨h, g, d, t, os⟩) :
    wpAny M A (checkBuiltinCall "object.__setattr__" ⟨[.ref e, nameV, v], []⟩) Q E ⟨h, g, d, t, os⟩ := by
  obtain ⟨T, nm, q, N, bs, sn, sub, ab, col, dd, k0, k1, k2, k3, k5, hC⟩ := x.at X
  have SF := PySem.F.store_ValueError
  have hcB : (Value.ref C :: bm).contains (.type "object") = true := by rw [List.contains_cons, T.hasType SF.hasOwner, Bool.or_true]
  have ha := SF.args (.ref e) nameV v
  simp only [checkBuiltinCall, SF.kind, SF.split]
  refine wpAny_bind ?_
  unfold isInstance
  repeat (first | (with_reducible refine wpAny_loadPart_at hx ?_; rw [hc]) | (with_reducible refine wpAny_isSubtype_exc hC ?_; rw [hcB]) | wp_step)
  exact hq

theorem set_X {Q : Unit → Shared → Prop} {ns : List Str} (X : K.In h) (x : XCl K C bm) (hsa : PySem.W.findIn K (.ref C) "__setattr__" = some (some (.builtin "object.__setattr__"))) (hna : PySem.W.findIn K (.ref C) name = some none)
    (hx : h.get? e = some oe) (hc : oe.cls = .ref C) (hnc : oe.data = .fields vs) (hd : (oe.dict = none ∧ ∀ n, mA n = none) ∨ ∃ dx, oe.dict = some dx ∧ dx ≠ e ∧ h.Ns1 dx mA)
    (hq : ∀ h' tk' dx, SetX h h' e oe name v mA dx → (oe.dict = none → dx = h.objs.size) → (∀ dy, oe.dict = some dy → dx = dy) → Q () ⟨h', g, d, tk', os⟩) (hw : Within mA ns) (hsz : ns.length ≤ 1000) :
    wpAny (model prog w) A (setAttr (.ref e) name v) Q E ⟨h, g, d, t, os⟩ := by
  obtain ⟨T, nm, q, N, bs, sn, sub, ab, col, dd, k0, k1, k2, k3, k5, hC⟩ := id (x.at X)
  have SF := PySem.F.store_ValueError
  have f3 := SF.slot.bind (.ref e)
  have L := PySem.W.looks_findIn (M := model prog w) X hsa
  unfold setAttr callSpecial? specialOf
  repeat (any_goals (first | assumption | (with_reducible refine wpAny_loadPart_at hx ?_; rw [hc]) | with_reducible refine L.at ?_ | wp_step))
  refine codeAny_call_builtin SF.slot.plain SF.entry (check_saX X x hx hc (set_entryX X x hna hx hc hnc hd (fun h' tk' dx a b c => ?_) hw hsz))
  repeat (any_goals (first | assumption | wp_step))
  exact hq h' tk' dx a b c
end
end
end L2
set_option Elab.async false
set_option linter.all false
set_option maxRecDepth 100000
namespace L2
open PySem PySem.Spec PyProof.Rows
noncomputable def xdt (d : Addr) (fs : List (Str × V)) : Heap → Prop := fun h => ∃ mA, h.Ns1 d mA ∧ (∀ f, RelO (fs.lookup f) (mA f)) ∧ PySem.Within mA (fs.map (·.1))
noncomputable abbrev Xdt (d : Addr) (fs : List (Str × V)) : HO := .ext (xdt d fs)
theorem xdt_ok {P : Program} {w : World} {H : Hp} {h : Heap} {d : Addr} {fs : List (Str × V)} (x : xdt d fs h) : ObjOk P w H h d (Xdt d fs) :=
  ⟨x, let ⟨_, ⟨o, _, _, q, _⟩, _⟩ := x; ⟨o, q⟩, fun _ _ y k => let ⟨mA, n, r⟩ := y; ⟨mA, n.at k, r⟩⟩

structure XAt (K : PySem.W.Frag) (C : Addr) : Prop where
  cl : ∃ bm, XCl K C bm
  sa : PySem.W.findIn K (.ref C) "__setattr__" = some (some (.builtin "object.__setattr__"))
  ga : PySem.W.findIn K (.ref C) "__getattribute__" = some (some (.builtin "BaseException.__getattribute__"))
  gn : PySem.W.findIn K (.ref C) "__getattr__" = some none

section
variable {X : Cx} {pins : List (Addr × Obj)} {σ : St} {H : Hp} {s : Shared} {A : Around} {E : Value → Shared → Prop} {a C : Addr} {b : Bool} {f : Str} {y : V} {u : Value} {Q : Unit → Shared → Prop}
theorem exo_get {P : Program} {w : World} {h : Heap} {d : Option Addr} (ok : HOk P w H h) (e : H a = some (Exo a C d b)) : exo a C d b h := (ok a _ e).1
theorem xdt_get {P : Program} {w : World} {h : Heap} {d : Addr} {fs : List (Str × V)} (ok : HOk P w H h) (e : H d = some (Xdt d fs)) : xdt d fs h := (ok d _ e).1
theorem setx0_ok (I : Inv X pins σ H s) (ea : H a = some (Exo a C none b)) (x : XAt X.K C) (hna : PySem.W.findIn X.K (.ref C) f = some none) (ry : RelV y u)
    (h : ∀ s' dx, H dx = none → dx ≠ a → Inv X pins σ (upd (upd H a (Exo a C (some dx) b)) dx (Xdt dx [(f, y)])) s' → Q () s') : wpAny (model X.prog X.w) A (setAttr (.ref a) f u) Q E s := by
  obtain ⟨oe, vs, g1, g2, g3, g4, g5, g6⟩ := exo_get I.hok ea
  obtain ⟨bm, xc⟩ := x.cl
  obtain ⟨hh, g, dr, tk, os⟩ := s
  refine set_X (mA := fun _ => none) (ns := []) I.kIn xc x.sa hna g1 g2 g4 (.inl ⟨g3, fun _ => rfl⟩) (fun h' tk' dx S d1 _ => ?_) (fun n hn => absurd rfl hn) (by simp)
  have hdx : dx = hh.objs.size := d1 g3
  have hfr : H dx = none := I.hok.fresh (Nat.le_of_eq hdx.symm)
  have nea : dx ≠ a := fun z => by rw [z, ea] at hfr; cases hfr
  have nin : ∀ c o, hh.get? c = some o → c ≠ dx := fun c o q z => absurd (Heap.lt_size q) (by rw [z, hdx]; exact Nat.lt_irrefl _)
  have neA : ∀ c, H c = none → c ≠ a := fun c n z => by rw [z, ea] at n; cases n
  have neA' : ∀ c v, H c = some v → v ≠ Exo a C none b → c ≠ a := fun c v q n z => by rw [z, ea] at q; cases q; exact n rfl
  have neD : ∀ c v, H c = some v → c ≠ dx := fun c v q z => by rw [z, hfr] at q; cases q
  have same : ∀ c v, H c = some v → v ≠ Exo a C none b → upd (upd H a (Exo a C (some dx) b)) dx (Xdt dx [(f, y)]) c = some v := fun c v q n => by rw [upd_ne (neD c v q), upd_ne (neA' c v q n)]; exact q
  refine h _ dx hfr nea (I.un (t' := tk') ⟨fun c o q n _ _ => S.keep c o (neA c n) (nin c o q) q, fun c o q n _ _ => ⟨o.slots, S.keep c o (neA c n) (nin c o q) q⟩,
    fun c o q n _ => by rw [upd_ne (nin c o q), upd_ne (neA c n)]; exact n, fun c o q _ => ?_, fun c xs q => same c _ q (by intro z; cases z), fun c o v q => same c _ q (by intro z; cases z), fun c ps q => ⟨#[], by rw [same c _ q (by intro z; cases z)]; simp⟩⟩ fun c v q => ?_)
  · by_cases z : c = a
    · subst z; exact ⟨_, S.exc⟩
    · exact ⟨o, S.keep c o z (nin c o q) q⟩
  · by_cases z : c = dx
    · subst z
      rw [upd_same] at q; cases q
      refine xdt_ok ⟨_, S.ns, fun n => ?_, fun n hn => ?_⟩
      · show RelO (List.lookup n [(f, y)]) (if n = f then some u else none)
        by_cases z : n = f
        · subst z; rw [if_pos rfl, List.lookup_cons, beq_self_eq_true]; exact ry
        · rw [if_neg z, List.lookup_cons, beq_eq_false_iff_ne.mpr z]; exact True.intro
      · by_cases z : n = f
        · subst z; exact List.mem_cons_self
        · exact absurd (show (if n = f then some u else none) = none by rw [if_neg z]) hn
    · rw [upd_ne z] at q
      by_cases y' : c = a
      · subst y'
        rw [upd_same] at q; cases q
        exact exo_ok ⟨_, vs, S.exc, g2, rfl, g4, g5, g6⟩
      · rw [upd_ne y'] at q
        have hc := I.hok c v q
        refine hc.stay (fun p o hp r => S.keep p o ?_ (nin p o r) r) (fun p hp => same p _ hp (by intro z; cases z)) fun p xs hp => same p _ hp (by intro z; cases z)
        rcases hp with rfl | hp
        · exact y'
        · exact neA' p _ hp (by intro z; cases z)
theorem setx1_ok {dx : Addr} {fs : List (Str × V)} (I : Inv X pins σ H s) (ea : H a = some (Exo a C (some dx) b)) (ed : H dx = some (Xdt dx fs)) (hl : fs.length ≤ 900) (x : XAt X.K C) (hna : PySem.W.findIn X.K (.ref C) f = some none) (ry : RelV y u) (hda : dx ≠ a)
    (h : ∀ s', Inv X pins σ (upd H dx (Xdt dx (putF f y fs))) s' → Q () s') : wpAny (model X.prog X.w) A (setAttr (.ref a) f u) Q E s := by
  obtain ⟨oe, vs, g1, g2, g3, g4, g5, g6⟩ := exo_get I.hok ea
  obtain ⟨mA, n1, n2, n3⟩ := xdt_get I.hok ed
  obtain ⟨bm, xc⟩ := x.cl
  obtain ⟨hh, g, dr, tk, os⟩ := s
  refine set_X (mA := mA) (ns := fs.map (·.1)) I.kIn xc x.sa hna g1 g2 g4 (.inr ⟨dx, g3, hda, n1⟩) (fun h' tk' dy S _ d2 => ?_) n3 (by rw [List.length_map]; omega)
  obtain rfl : dy = dx := d2 dx g3
  refine h _ (I.write (t' := tk') (x := dy) (e := dy) (by rw [ed]; exact True.intro) (.inl rfl) (fun c o hc q => ?_) ?_ (xdt_ok ⟨_, S.ns, fun n => ?_, fun n hn => ?_⟩))
  · by_cases z : c = a
    · subst z
      rw [g1] at q; cases q
      rw [S.exc]
      obtain ⟨c1, c2, c3, c4⟩ := oe
      simp only at g3
      subst g3
      rfl
    · exact S.keep c o z hc q
  · obtain ⟨o, _, _, e, _⟩ := S.ns; exact ⟨o, e⟩
  · show RelO ((putF f y fs).lookup n) (if n = f then some u else mA n)
    rw [lookup_putF]
    by_cases z : n = f
    · rw [if_pos z, if_pos z]; exact ry
    · rw [if_neg z, if_neg z]; exact n2 n
  · by_cases z : n = f
    · rw [z]; exact (keys_putF f y fs).1
    · refine (keys_putF f y fs).2 n (n3 n fun w => hn ?_)
      show (if n = f then some u else mA n) = none
      rw [if_neg z]; exact w
end

noncomputable def sFx0 (K : PySem.W.Frag) (ta tv : TE) (f : Str) : TS := fun D σ H => tv σ H fun y H1 => ta σ H1 fun x H2 => ∃ a C b, x = .ref a ∧ H2 a = some (Exo a C none b) ∧ XAt K C ∧ PySem.W.findIn K (.ref C) f = some none ∧
  ∀ dx, H2 dx = none → dx ≠ a → D.nx σ (upd (upd H2 a (Exo a C (some dx) b)) dx (Xdt dx [(f, y)]))
noncomputable def sFx1 (K : PySem.W.Frag) (ta tv : TE) (f : Str) : TS := fun D σ H => tv σ H fun y H1 => ta σ H1 fun x H2 => ∃ a C b dx fs, x = .ref a ∧ H2 a = some (Exo a C (some dx) b) ∧ H2 dx = some (Xdt dx fs) ∧ fs.length ≤ 900 ∧ XAt K C ∧ PySem.W.findIn K (.ref C) f = some none ∧ dx ≠ a ∧
  D.nx σ (upd H2 dx (Xdt dx (putF f y fs)))
section
variable {X : Cx} {o e value : Expr} {es : List Expr} {f x : Str} {p pos pos' apos : Pos} {ta tv te : TE} {t : TA} {R : Addr} {E : XK}
theorem ps_fx0 (ha : PE X o ta) (hv : PE X value tv) (hs : swapsWith value (some (.Attribute o f pos')) pos.line X.env = pure false) : PS X (.Assign [.Attribute o f pos'] value pos) (sFx0 X.K ta tv f) := by
  intro pins s σ H D I h
  refine plainObj_wpAny_Assign_Attribute (thn (hv pins s σ H _ I h) fun u s1 ⟨y, H1, I1, ry, q⟩ => thn (ha pins s1 σ H1 _ I1 q) fun ov s2 zq1 => ?_) hs
  obtain ⟨z, H2, I2, rx, a, C, b, ex, ea, c, n, q2⟩ := zq1
  subst ex
  obtain rfl : ov = Value.ref a := rx
  exact setx0_ok I2 ea c n ry fun s3 dx h1 h2 I3 => ⟨σ, _, I3, q2 dx h1 h2⟩
theorem ps_fx1 (ha : PE X o ta) (hv : PE X value tv) (hs : swapsWith value (some (.Attribute o f pos')) pos.line X.env = pure false) : PS X (.Assign [.Attribute o f pos'] value pos) (sFx1 X.K ta tv f) := by
  intro pins s σ H D I h
  refine plainObj_wpAny_Assign_Attribute (thn (hv pins s σ H _ I h) fun u s1 ⟨y, H1, I1, ry, q⟩ => thn (ha pins s1 σ H1 _ I1 q) fun ov s2 zq2 => ?_) hs
  obtain ⟨z, H2, I2, rx, a, C, b, dx, fs, ex, ea, ed, l, c, n, da, q2⟩ := zq2
  subst ex
  obtain rfl : ov = Value.ref a := rx
  exact setx1_ok I2 ea ed l c n ry da fun s3 I3 => ⟨σ, _, I3, q2⟩

noncomputable def tInitX (K : PySem.W.Frag) (t : TA) : TE := fun σ H Q => t σ H fun vs H1 => ∃ a C d b rest, vs = .ref a :: rest ∧ rest.length ≤ 1000 ∧ H1 a = some (Exo a C d b) ∧ XAt K C ∧ Q .non H1
structure XBase (K : PySem.W.Frag) (R : Addr) : Prop where
  rd : PySem.W.readsIn K R (.type "type") = true
  at_ : PySem.W.findCls K (.ref R) (.type "type") "__init__" = some (.val (.builtin "ValueError.__init__"))
  ga : PySem.W.specialIn K (.ref R) "__getattribute__" = some (some (.builtin "type.__getattribute__"))
  hd : PySem.W.handedIn (.builtin "ValueError.__init__") = true
theorem initx_ok {pins : List (Addr × Obj)} {σ : St} {H : Hp} {s : Shared} {A : Around} {F : Value → Shared → Prop} {Q : Value → Shared → Prop} {a C : Addr} {d : Option Addr} {b : Bool} {rest : List Value} (I : Inv X pins σ H s) (ea : H a = some (Exo a C d b)) (x : XAt X.K C) (hl : rest.length ≤ 1000)
    (h : ∀ s', Inv X pins σ H s' → Q .none s') : wpAny (model X.prog X.w) A (call (.builtin "ValueError.__init__") (.ref a :: rest)) Q F s := by
  obtain ⟨oe, vs, g1, g2, g3, g4, g5, g6⟩ := exo_get I.hok ea
  obtain ⟨bm, xc⟩ := x.cl
  obtain ⟨hh, g, dr, tk, os⟩ := s
  refine wpAny_call (init_X I.kIn xc g1 g2 g4 g5 (by rw [sizeLine_eq]; omega) (h _ ?_))
  have I1 := I.kept (h' := hh.push (xtup rest)) (t' := tk) (fun b u q => Heap.get?_push_of_some _ q)
  have g1' := Heap.get?_push_of_some (h := hh) (xtup rest) g1
  have hd' := Obj.data_mapFields g4 (·.setIfInBounds 0 (Value.ref hh.objs.size))
  have e' := Heap.get?_update_self (Obj.mapFields (·.setIfInBounds 0 (Value.ref hh.objs.size))) g1' (Obj.isFreed_of_fields hd')
  have I2 := I1.write (t' := tk) (x := a) (e := a) (h' := (hh.push (xtup rest)).update a (Obj.mapFields (·.setIfInBounds 0 (Value.ref hh.objs.size)))) (o := Exo a C d b) (by rw [ea]; exact True.intro) (.inl rfl) (fun c o hc q => (Heap.get?_update_other _ _ (Ne.symm hc)).trans q) ⟨_, e'⟩
    (exo_ok ⟨_, _, e', (Obj.cls_mapFields _ _).trans g2, by
      rw [← g3]
      obtain ⟨c1, c2, c3, c4⟩ := oe
      cases c3 <;> rfl, hd', by rw [Array.size_setIfInBounds]; exact g5, fun z => by rw [Array.getElem?_setIfInBounds_ne (by decide)]; exact g6 z⟩)
  rwa [upd_idem ea] at I2
theorem pe_initX {pl : Sem Bool} (B : XBase X.K R) (hg : Gl X x) (hm : X.mg x = some (.ref R)) (ha : PA X (e :: es) t) (hdb : (x == ("__debug__" : Str)) = false := by decide)
    (hst : starEach (e :: es) X.env = (false, eval e X.env) :: starEach es X.env := by rfl) (hpl : (backTo pos (starEach es X.env)).any (·.1) = false := by rfl)
    (ht : eval (.Call (.Attribute (.Name x p) "__init__" apos) (e :: es) [] pos) X.env = (do
      let ov ← eval (.Name x p) X.env
      standAt apos.atName
      let (f, first) ← holding [ov] (getMethod ov "__init__" pl)
      callWith pos f first (backTo pos (starEach (e :: es) X.env)) (backToKw pos (keywordEach [] X.env))) := by rfl) :
    PE X (.Call (.Attribute (.Name x p) "__init__" apos) (e :: es) [] pos) (tInitX X.K t) := by
  intro pins s σ H Q I h
  refine PySem.W.methodCall_KW (pl := pl) (ld_glob I hg hm ?_ hdb) ht
  refine PySem.W.method_cls I.kIn B.ga (PySem.W.cls_value I.kIn B.rd B.at_ B.hd ?_)
  refine PyProof.Rows.callWith_builtin1 (thn (ha pos pins _ σ H _ (I.tok _) h) fun us s2 zq3 => ?_) hst hpl
  obtain ⟨vs, H2, I2, r, a, C, d, b, rest, ev, hl, ea, xa, q2⟩ := zq3
  subst ev
  cases r with
  | cons r1 r2 =>
    obtain rfl : _ = Value.ref a := r1
    exact initx_ok I2 ea xa (by rw [← r2.length]; exact hl) fun s3 I3 => ⟨.non, H2, I3, rfl, q2⟩

noncomputable def sRaise (K : PySem.W.Frag) (te : TE) (E : XK) : TS := fun D σ H => te σ H fun v H1 => ∃ a C d, v = .ref a ∧ H1 a = some (Exo a C d true) ∧ XAt K C ∧ E (.ref a) none (upd H1 a (Exo a C d false))
theorem ps_raiseX (hx : Raises X E) (hc : X.calm = true) (he : PE X e te) : PS X (.Raise (some e) none pos) (sRaise X.K te E) := by
  intro pins s σ H D I h
  rw [arm_exec_Raise]
  refine wpAny_bind (wpAny_standAt ?_)
  unfold raiseStmt
  refine wpAny_bind (wpAny_bind (thn (he pins s σ H _ I h) fun v s1 ⟨y, H1, I1, ry, a, C, d, ey, ea, xa, q⟩ => wpAny_bind (wpAny_standAt (wpAny_pure ?_))))
  subst ey
  obtain rfl : v = Value.ref a := ry
  have fin := hx pins σ H1 s1 a C d I1 ea q
  obtain ⟨⟨oc, od, odt, osl⟩, vs, g1, g2, g3, g4, g5, g6⟩ := exo_get I1.hok ea
  simp only at g2 g3 g4
  subst g2 g3 g4
  obtain ⟨bm, xc⟩ := xa.cl
  obtain ⟨T, nm, q, N, bs, sn, sub, ab, col, dd, k0, k1, k2, k3, k5, hC⟩ := xc.at I1.kIn
  have hcB : (Value.ref C :: bm).contains (.type "BaseException") = true := by rw [List.contains_cons, T.hasType PySem.F.excBase_ValueError.hasBase, Bool.or_true]
  have hh := I1.ok.hd hc
  obtain ⟨hp, g, dr, tk, os⟩ := s1
  repeat (first | with_reducible refine wpAny_loadPart_at g1 ?_ | with_reducible refine wpAny_loadPart_at hC ?_ | (with_reducible refine wpAny_isSubtype_exc hC ?_; rw [hcB]) | wp_step)
  rw [g6 rfl]
  refine wpAny_pure ?_
  rw [if_neg (by decide)]
  exact wpAny_pure (wpAny_raiseNew_none hh fin)
end
end L2
set_option Elab.async false
set_option linter.all false
set_option maxRecDepth 100000
namespace L2
open PySem PySem.Spec PyProof.Rows
theorem XCl.mro {K : PySem.W.Frag} {C : Addr} {bm : List Value} {h : Heap} (x : XCl K C bm) (X : K.In h) {T : String} {b : Bool} (hb : bmV.contains (.type T) = b) : PySem.W.mroIn K C (.type T) = some b := by
  have T' := PySem.W.tail_of_in X x.tl
  obtain ⟨dd, cd, k0, k1, k2, k3, k5, hl, hm, hd, hh⟩ := x.obj
  unfold PySem.W.mroIn PySem.W.clsIn
  rw [hl, Option.bind_some, hm, if_neg (by simp), List.contains_cons, T'.hasType hb]
  rfl
theorem XCl.cls {K : PySem.W.Frag} {C : Addr} {bm : List Value} (x : XCl K C bm) : ∃ cd, PySem.W.clsIn K C = some cd ∧ cd.hasDict = true := by
  obtain ⟨dd, cd, k0, k1, k2, k3, k5, hl, hm, hd, hh⟩ := x.obj
  exact ⟨cd, by unfold PySem.W.clsIn; rw [hl], hh⟩
section
variable {prog : Program} {w : World} {A : Around} {E : Value → Shared → Prop} {s : Shared} {K : PySem.W.Frag} {C a : Addr} {bm : List Value} {oe : Obj} {od : Option Obj} {name : Str} {fill expr : Bool} {tk : Tok}
theorem byX_open {Q : Value → Shared → Prop} (X : K.In s.heap) (I : PySem.W.InstAt s.heap a oe C od) (x : XAt K C)
    (h : wpAny (model prog w) A.in1 (Builtin.«object.__getattribute__» ⟨[.ref a, .str name tk], []⟩) (fun fin s' => match fin with | .done (.ret v) => wpAny (model prog w) A (handedOut v) Q E s' | _ => False) (fun _ _ => False) s) :
    wpAny (model prog w) A (getAttrBy (.ref a) (.str name tk) fill expr) Q E s := by
  obtain ⟨bm, xc⟩ := x.cl
  have hmB := xc.mro X (T := "BaseException") (b := true) PySem.F.excBase_ValueError.hasBase
  have L0 := I.type (M := model prog w)
  unfold getAttrBy
  refine wpAny_holding (wpAny_bind (L0.here (wpAny_bind ((PySem.W.looks_findIn X x.ga).here ?_))))
  dsimp only
  rw [show (onTheHeap (Value.ref C) && Value.builtin "BaseException.__getattribute__" == Value.builtin "object.__getattribute__") = false from by rw [show (Value.builtin "BaseException.__getattribute__" == Value.builtin "object.__getattribute__") = false from by decide +kernel, Bool.and_false], if_neg (by decide)]
  unfold getAttrByItsOwn
  refine wpAny_bind ((PySem.W.looks_hook (mc := .ref C) (r := none) X (by rw [if_pos (show onTheHeap (Value.ref C) = true from rfl)]; exact x.gn)).here (wpAny_bind (wpAny_attempt (wpAny_holding ?_))))
  unfold callGetattribute
  rw [show (expr && onTheHeap (Value.builtin "BaseException.__getattribute__")) = false from Bool.and_false _, if_neg (by decide)]
  unfold boundAndCalled
  rw [PySem.F.attr_ValueError.ga.bind]
  refine wpAny_bind (wpAny_pure ?_)
  show wpAny _ _ (call (.builtin "BaseException.__getattribute__") [.ref a, .str name tk]) _ _ _
  refine wpAny_call (codeAny_call_builtin PySem.F.attr_ValueError.ga.plain PySem.F.entry_bexc_ga ?_)
  have hk : builtinKind "BaseException.__getattribute__" = some .slot := by decide +kernel
  have hsp : splitId "BaseException.__getattribute__" = some ("BaseException", "__getattribute__") := by decide +kernel
  have LI : PySem.W.Looks (model prog w) s.heap (isInstance (.ref a) (.type "BaseException")) true := L0.andThen (PySem.W.looks_mroIn X hmB)
  refine @PySem.W.check_slot (model prog w) _ _ s "BaseException.__getattribute__" "BaseException" "__getattribute__" (.ref a) [.str name tk] [] _ hk hsp LI (PySem.F.args_bexc_ga (.ref a) (.str name tk)) ?_
  refine wpAny_mono h (fun fin s' z => ?_) fun _ _ z => z.elim
  rcases fin with (_ | _ | _ | _) | _ <;> first | exact z | exact z.elim
theorem ga_value {v : Value} {Q : Fin → Shared → Prop} (X : K.In s.heap) (I : PySem.W.InstAt s.heap a oe C od) (hf : PySem.W.findObj K C od name = some (.value v)) (h : Q (.done (.ret v)) s) :
    wpAny (model prog w) A (Builtin.«object.__getattribute__» ⟨[.ref a, .str name tk], []⟩) Q E s := by
  have L0 := I.type (M := model prog w)
  have L1 := PySem.W.looks_find (M := model prog w) X I hf
  refine wpAny_bind (wpAny_pure (wpAny_bind (wpAny_pure (wpAny_bind (L0.here (wpAny_bind (L1.here ?_)))))))
  exact wpAny_pure h
theorem ga_bind {g b : Value} {Q : Fin → Shared → Prop} (X : K.In s.heap) (I : PySem.W.InstAt s.heap a oe C od) (hf : PySem.W.findObj K C od name = some (.bind g b))
    (h : wpAny (model prog w) A (call g [b, .ref a, .ref C]) (fun v s' => Q (.done (.ret v)) s') E s) :
    wpAny (model prog w) A (Builtin.«object.__getattribute__» ⟨[.ref a, .str name tk], []⟩) Q E s := by
  have L0 := I.type (M := model prog w)
  have L1 := PySem.W.looks_find (M := model prog w) X I hf
  refine wpAny_bind (wpAny_pure (wpAny_bind (wpAny_pure (wpAny_bind (L0.here (wpAny_bind (L1.here ?_)))))))
  show wpAny _ _ (holding [b] (call g [b, .ref a, .ref C]) >>= ret) _ _ _
  exact wpAny_bind (wpAny_holding (wpAny_mono h (fun v s' z => wpAny_pure z) fun _ _ z => z))
end

theorem XCl.hasDict {K : PySem.W.Frag} {C : Addr} {bm : List Value} (x : XCl K C bm) : PySem.W.hasDictIn K C = true := by
  obtain ⟨cd, h1, h2⟩ := x.cls
  unfold PySem.W.hasDictIn
  rw [h1]
  exact h2
structure XCa (K : PySem.W.Frag) (C : Addr) : Prop where
  at_ : XAt K C
  ca : PySem.W.findIn K (.ref C) "__class__" = some (some (.builtin "object.__class__"))
  gt : PySem.W.specialIn K (.builtin "object.__class__") "__get__" = some (some (.builtin "getset_descriptor.__get__"))
  tk : PySem.W.takesIn K (.builtin "object.__class__") = some true
theorem kitx_exc {K : PySem.W.Frag} {C a : Addr} (x : XCa K C) : PySem.W.KitX K (.ref a) (.ref C) (fun h => ∃ oe od, PySem.W.InstAt h a oe C (some od)) where
  ty := fun _ _ _ zq1 => (by obtain ⟨_, _, I⟩ := zq1; exact I.type)
  it := fun _ _ X _ => by
    obtain ⟨bm, xc⟩ := x.at_.cl
    obtain ⟨dd, cd, k0, k1, k2, k3, k5, ho, _⟩ := xc.obj
    intro A' Q' E' s' k q
    unfold isType loadHead
    exact wpAny_bind (wpAny_loadPart (k _ _ (X _ _ ho)) (wpAny_pure q))
  ne := fun h tp dd its n sl X htp => by
    obtain ⟨bm, xc⟩ := x.at_.cl
    obtain ⟨dd, cd, k0, k1, k2, k3, k5, ho, _⟩ := xc.obj
    refine Bool.eq_false_iff.mpr fun q => ?_
    have e : C = tp := Value.ref.inj (beq_iff_eq.mp q)
    subst e
    have z := congrArg Obj.data (Option.some.inj ((X _ _ ho).symm.trans htp))
    cases z
  ca := fun {prog w A E Q s} X ⟨oe, od, I⟩ k => by
    obtain ⟨bm, xc⟩ := x.at_.cl
    obtain ⟨cd, hc, _⟩ := xc.cls
    have hf : PySem.W.findObj K C (some od) "__class__" = some (.bind (.builtin "getset_descriptor.__get__") (.builtin "object.__class__")) := PySem.W.findObj_data (by rw [hc]; rfl) x.ca x.gt x.tk
    refine wpAny_bind (wpAny_mkText ?_)
    unfold getAttrBy?
    refine wpAny_bind (wpAny_attempt ?_)
    refine byX_open (s := { s with toks := s.toks + 1 }) X I x.at_ (ga_bind (s := { s with toks := s.toks + 1 }) X I hf (wpAny_call ?_))
    exact PySem.W.class_get (s := { s with toks := s.toks + 1 }) (ox := oe) (od := some od) X I (xc.mro X PySem.F.store_ValueError.hasOwner) (PySem.W.handed_on rfl (wpAny_pure k))

section
variable {X : Cx} {pins : List (Addr × Obj)} {σ : St} {H : Hp} {s : Shared} {A : Around} {E : Value → Shared → Prop} {a C dx : Addr} {b : Bool} {fs : List (Str × V)} {f : Str} {v : V}
theorem exc_inst (I : Inv X pins σ H s) (ea : H a = some (Exo a C (some dx) b)) (ed : H dx = some (Xdt dx fs)) : ∃ oe od, PySem.W.InstAt s.heap a oe C (some od) ∧ ∃ mA : Str → Option Value, (∀ n, PySem.W.lookIn n od = some (mA n)) ∧ ∀ n, RelO (fs.lookup n) (mA n) := by
  obtain ⟨oe, vs, g1, g2, g3, g4, g5, g6⟩ := exo_get I.hok ea
  obtain ⟨mA, n1, n2, n3⟩ := xdt_get I.hok ed
  obtain ⟨od, ho, hl⟩ := lookIn_ns n1
  exact ⟨oe, od, ⟨g1, g2, by unfold PySem.W.notCls; rw [g4], by rw [g3]; exact ho⟩, mA, hl, n2⟩
theorem getx_ok {ex : Bool} {Q : Value → Shared → Prop} (I : Inv X pins σ H s) (ea : H a = some (Exo a C (some dx) b)) (ed : H dx = some (Xdt dx fs)) (x : XAt X.K C) (hna : PySem.W.findIn X.K (.ref C) f = some none) (l : fs.lookup f = some v)
    (h : ∀ u s', Inv X pins σ H s' → RelV v u → Q u s') : wpAny (model X.prog X.w) A (getAttr (.ref a) f ex) Q E s := by
  obtain ⟨oe, od, J, mA, hl, r⟩ := exc_inst I ea ed
  obtain ⟨bm, xc⟩ := x.cl
  obtain ⟨u, hu, ru⟩ := RelO.some_of (v := v) (o := mA f) (by rw [← l]; exact r f)
  have hf : PySem.W.findObj X.K C (some od) f = some (.value u) := PySem.W.findObj_own xc.hasDict hna rfl (by rw [hl, hu])
  refine wpAny_bind (wpAny_mkText ?_)
  refine byX_open (s := { s with toks := s.toks + 1 }) I.kIn J x (ga_value (s := { s with toks := s.toks + 1 }) I.kIn J hf ?_)
  exact PySem.W.handed_on (handed_of ru) (h u _ (I.tok _) ru)
end

noncomputable def tFx (K : PySem.W.Frag) (ta : TE) (f : Str) : TE := fun σ H Q => ta σ H fun x H1 => ∃ a C b dx fs v, x = .ref a ∧ H1 a = some (Exo a C (some dx) b) ∧ H1 dx = some (Xdt dx fs) ∧ XAt K C ∧ PySem.W.findIn K (.ref C) f = some none ∧ fs.lookup f = some v ∧ Q v H1
section
variable {X : Cx} {e : Expr} {f : Str} {pos : Pos} {ta : TE}
theorem pe_fx (he : PE X e ta) (hb : attributeBase e f X.env (eval e X.env) = eval e X.env) : PE X (.Attribute e f pos) (tFx X.K ta f) := by
  intro pins s σ H Q I h
  refine attr_of hb (thn (he pins s σ H _ I h) fun u s1 zq2 => ?_)
  obtain ⟨x, H1, I1, rx, a, C, b, dx, fs, v, ex, ea, ed, c, n, l, q⟩ := zq2
  subst ex
  obtain rfl : u = Value.ref a := rx
  exact getx_ok I1 ea ed c n l fun u' s2 I2 ru => ⟨v, H1, I2, ru, q⟩
end
end L2
set_option Elab.async false
set_option linter.all false
set_option maxRecDepth 100000
namespace L2
open PySem PySem.Spec PyProof.Rows
noncomputable abbrev Hd (X : Cx) (v : Value) : Cx := { X with A := X.A.mark (some v), calm := false, xe := fun _ _ => False }
theorem Inv.hold {X : Cx} {pins : List (Addr × Obj)} {σ : St} {H : Hp} {s : Shared} (I : Inv X pins σ H s) (v : Value) : Inv (Hd X v) pins σ H s :=
  ⟨⟨I.ok.mod, I.ok.kind, I.ok.glob, I.ok.blt, I.ok.above, I.ok.inj, I.ok.has, I.ok.cab, (fun z => by cases z), I.ok.frames, I.ok.stk, I.ok.exf, I.ok.bs, I.ok.bsz, I.ok.noex, I.ok.exfs, I.ok.funs, I.ok.frf⟩, I.os, I.bare, I.base, I.loc, I.cell, I.free, I.freeC, I.pin, I.hok, I.len⟩
theorem Inv.offHold {X : Cx} {pins : List (Addr × Obj)} {σ : St} {H : Hp} {s : Shared} {v : Value} (ok : X.Ok) (I : Inv (Hd X v) pins σ H s) : Inv X pins σ H s :=
  ⟨ok, I.os, I.bare, I.base, I.loc, I.cell, I.free, I.freeC, I.pin, I.hok, I.len⟩

noncomputable def XE (X : Cx) (pins : List (Addr × Obj)) (σ : St) (E : XK) (e : Value) (s' : Shared) : Prop :=
  ∃ a C d H', e = .ref a ∧ Inv X pins σ H' s' ∧ H' a = some (Exo a C d false) ∧ Flt s'.heap a .none ∧ E (.ref a) none H'
noncomputable def PEE (X : Cx) (E : XK) (e : Expr) (t : TE) : Prop :=
  ∀ (pins : List (Addr × Obj)) (s : Shared) (σ : St) (H : Hp) (Q : VK), Inv X pins σ H s → t σ H Q → wpAny (model X.prog X.w) X.A (eval e X.env) (EP X pins σ Q) (XE X pins σ E) s

section
variable {X : Cx} {pins : List (Addr × Obj)} {σ : St} {H : Hp} {s : Shared}
theorem XE.of {E : XK} {e : Value} {s' : Shared} (I : Inv X pins σ H s) (h : CXe X.prog X.w X.stack H s E e s') : XE X pins σ E e s' := by
  obtain ⟨a, C, d, H', he, os, bare, un, hok, ha, hf, hE⟩ := h
  exact ⟨a, C, d, H', he, I.call' os un hok bare (fun b z => absurd z (by simp)), ha, hf, hE⟩
theorem gone_ok {M : Model} {A : Around} {E : Value → Shared → Prop} {i : Nat} {x : Str} {pos : Pos} {Q : Unit → Shared → Prop} (I : Inv X pins σ H s) (hN : X.N.Nodup) (hi : X.N[i]? = some x) (hx : X.env.scope.names.lookup x = some .local)
    (h : ∀ s', Inv X pins (σ.set i none) H s' → Q () s') : wpAny M A (do bindName X.env x .none; unbindBehindTheSuite X.env x pos) Q E s := by
  have hcls : (X.env.scope.kind == .class || (X.env.scope.kind == .module && X.env.locals != X.env.globals)) = false := by rw [I.ok.kind]; rfl
  have hiσ : i < σ.length := by rw [I.len]; exact (List.getElem?_eq_some_iff.mp hi).1
  have hk : X.env.kindOf x = some .local := hx
  refine wpAny_bind (wpAny_bindName (store_ok (v := .non) (u := .none) I hN hi (.inl hx) rfl (fun s₁ J => ?_) (.inr hx)))
  obtain ⟨m, hn, hl⟩ := id J.loc
  have hm : (m x).isSome = true := by
    obtain ⟨u, _, q⟩ := hl i x .non hi (by rw [List.getElem?_set_self hiσ]) (.inl hx)
    rcases q with ⟨_, e⟩ | ⟨e, _⟩
    · rw [e]; rfl
    · rcases e with e | e <;> (rw [hk] at e; cases e)
  unfold unbindBehindTheSuite
  refine wpAny_onRaise ?_
  unfold unbindName
  refine wpAny_bind (wpAny_point (wpAny_bind ?_))
  unfold deleteName
  simp only [hk, hcls]
  rw [if_neg (by decide)]
  refine wpAny_bind (wpAny_nsDel_keeps hn fun h₂ v hn₂ hs₂ => ?_)
  simp only [hm, if_true, Option.isSome_some, Bool.not_true, Bool.false_eq_true, if_false]
  refine wpAny_pure (wpAny_point (h _ ?_))
  have I := J
  have cne := I.cne
  obtain ⟨oL, _, _, hoL, _⟩ := id hn
  have ne : ∀ b o, X.s₀.heap.get? b = some o → b ≠ X.env.locals := fun b o e => Nat.ne_of_lt (Nat.lt_of_lt_of_le (Heap.lt_size e) I.ok.above)
  refine ⟨I.ok, I.os, I.bare, ⟨fun b o e n hb hx => (hs₂.2 b (ne b o e)).trans (I.base.keep b o e n hb hx), fun b o e n hb hx => ?_, I.base.free, fun b o e hx => ?_, I.base.tups, I.base.frzs, I.base.tbls⟩, ⟨_, hn₂, fun j y v' e1 e2 e3 => ?_⟩, fun y c e => ?_, I.free, I.freeC, fun p hp => ?_, fun b ob e => ?_, by simpa using I.len⟩
  · obtain ⟨sl, e1⟩ := I.base.slot b o e n hb hx
    exact ⟨sl, (hs₂.2 b (ne b o e)).trans e1⟩
  · obtain ⟨o', e1⟩ := I.base.there b o e hx
    exact ⟨o', (hs₂.2 b (ne b o e)).trans e1⟩
  · by_cases hj : j = i
    · subst hj
      rw [List.getElem?_set_self (by exact hiσ)] at e2
      cases e2
    · rw [List.getElem?_set_ne (Ne.symm hj)] at e2
      obtain ⟨u', r', q⟩ := hl j y v' e1 (by rw [List.getElem?_set_ne (Ne.symm hj)]; exact e2) e3
      refine ⟨u', r', ?_⟩
      rcases q with ⟨k, e⟩ | ⟨k, c, e, z⟩
      · refine .inl ⟨k, ?_⟩
        have : y ≠ x := fun e => hj (nodup_ix hN e1 (e ▸ hi))
        simp [this, e]
      · exact .inr ⟨k, c, e, z.sameBut hs₂ (cne y c e)⟩
  · obtain ⟨w', z⟩ := I.cell y c e
    exact ⟨w', z.sameBut hs₂ (cne y c e)⟩
  · obtain ⟨e, n, ne, nf, d⟩ := I.pin p hp
    exact ⟨(hs₂.2 p.1 ne).trans e, n, ne, nf, d⟩
  · refine (I.hok b ob e).stay (fun c w' hc q => (hs₂.2 c ?_).trans q) (fun _ q => q) fun _ _ q => q
    rintro rfl
    rcases hc with rfl | hc
    · rw [I.free] at e; cases e
    · rw [I.free] at hc; cases hc
end

section
variable {M : Model} {A : Around} {E : Value → Shared → Prop} {s : Shared}
theorem leaveX' {base : Heap} {env : Env} {outer : List Env} {L e : Addr} {oe : Obj} {vs : Array Value} {Q : Unit → Shared → Prop}
    (hfr : A.frames = some (env :: outer)) (hl : s.heap.FunFrames base (env :: outer)) (hf : env.frame = some L)
    (he : s.heap.get? e = some oe) (hd : oe.data = .fields vs) (h1 : vs[1]? = some .none ∨ Flt s.heap e .none)
    (h : ∀ h', Nts (frs (env :: outer)) e .none s.heap h' → Q () { s with heap := h' }) : wpAny M A (noteFrame (.ref e) env) (fun _ s₂ => wpAny M A (setFlight (.ref e) none) Q E s₂) E s := by
  refine noteX hfr hl hf he hd h1 fun h₁ N => ?_
  obtain ⟨k1, k2, k3, T, hT, k4⟩ := N
  refine flightX (s := { s with heap := h₁ }) k4 fun h₂ f1 f2 f3 _ => h h₂ ⟨fun b o hb hbe q => f2 b o (fun z => ?_) (k1 b o hb hbe q), fun b o hb q => ?_, fun oe vs q qd => ?_, T, hT, f1⟩
  · exact absurd (Nat.lt_of_lt_of_le (Heap.lt_size q) (z ▸ hT)) (Nat.lt_irrefl _)
  · obtain ⟨sl, q'⟩ := k2 b o hb q
    exact ⟨sl, f2 b _ (fun z => absurd (Nat.lt_of_lt_of_le (Heap.lt_size q) (z ▸ hT)) (Nat.lt_irrefl _)) q'⟩
  · obtain ⟨oe', vs', q1, q2⟩ := k3 oe vs q qd
    exact ⟨oe', vs', f2 e _ (fun z => absurd (Nat.lt_of_lt_of_le (Heap.lt_size q) (z ▸ hT)) (Nat.lt_irrefl _)) q1, q2⟩
theorem matchX {K : PySem.W.Frag} {C R e : Addr} {bm bm' : List Value} {oe : Obj} {h : Heap} {g : Array GenState} {d : Drawn} {t : Nat} {os : OsState} {Q : Bool → Shared → Prop} (X : K.In h) (xC : XCl K C bm) (xR : XCl K R bm') (he : h.get? e = some oe) (hcls : oe.cls = .ref C)
    (hq : Q ((Value.ref C :: bm).contains (.ref R)) ⟨h, g, d, t, os⟩) : wpAny M A (excMatches (.ref e) (.ref R)) Q E ⟨h, g, d, t, os⟩ := by
  obtain ⟨T, nm, q, N, bs, sn, sub, ab, col, dd, k0, k1, k2, k3, k5, hC⟩ := xC.at X
  obtain ⟨T', nm', q', N', bs', sn', sub', ab', col', dd', k0', k1', k2', k3', k5', hR⟩ := xR.at X
  have hcB : (Value.ref R :: bm').contains (.type "BaseException") = true := by rw [List.contains_cons, T'.hasType PySem.F.excBase_ValueError.hasBase, Bool.or_true]
  have f := tc_notTuple
  generalize hb : (Value.ref C :: bm).contains (.ref R) = b at hq
  unfold excMatches
  repeat (first | (with_reducible refine wpAny_loadPart_at he ?_; rw [hcls]) | with_reducible refine wpAny_loadPart_at hR ?_ | (with_reducible refine wpAny_isSubtype_exc hR ?_; rw [hcB]) | (with_reducible refine wpAny_isSubtype_exc hC ?_; rw [hb]) | wp_step)
  cases b <;> (wp_walk; exact hq)
end
end L2
set_option Elab.async false
set_option linter.all false
set_option maxRecDepth 100000
namespace L2
open PySem PySem.Spec PyProof.Rows
structure FncX (P : Program) (w : World) (K : PySem.W.Frag) (mg : Str → Option Value) (base : Heap) (x : Str) (ps : List Str) (k : Nat) (sp : Sp) : Prop where
  ex : ∃ (f : Addr) (fd : FuncData), mg x = some (.ref f) ∧ PySem.W.keepIn K (.ref f) = true ∧ Binds K fd ps [] ∧ FnOk P w K mg base (CXe P w) k f fd ps sp
theorem Df.okX {P : Program} {w : World} {K : PySem.W.Frag} {mg : Str → Option Value} {base : Heap} {x : Str} {st : Stmt} {N ps : List Str} {k : Nat} {sp : Sp} (D : Df K mg x st) (S : FnScope N ps (defScope st))
    (hb : ∀ (kV doc pm : Value) (an : Option Addr) (cdv ct : Value) (us : List Value), us.length = ps.length → bindArgs (PySem.W.fnOf x x (defArgs st) (defBody st) (defScope st) .none kV doc pm an cdv ct) ⟨us, []⟩ = pure (ps.zip us))
    (len : ∀ vs H Q E, sp vs H Q E → vs.length = ps.length)
    (hbody : ∀ (f : Addr) (cdv : Value) (A : Around) (outer : List Env) (s : Shared) (H : Hp) (vs : List V) (Q : VK) (E : XK), Room k (A.deeper (envOfC x (defScope st) s.heap.objs.size f cdv)) → sp vs H Q E →
      ∃ t, PSs (cxOf (CXe P w) P w K mg base N x (defScope st) f cdv A outer s H E) (defBody st) t ∧ t { nx := fun _ H' => Q .non H', rt := Q } (start N vs) H) : FncX P w K mg base x ps (k + 1) sp := by
  obtain ⟨f, fd, hm, F⟩ := D.ex
  refine ⟨f, fd, hm, F.kp, F.binds hb, ?_⟩
  obtain ⟨oc, od, kV, doc, pm, an, cdv, ct, osl, rfl, lk, hcd⟩ := F.ex
  exact fn_of lk hcd S len fun A outer s H vs Q E hr hsp => hbody f cdv A outer s H vs Q E hr hsp

section
variable {X : Cx} {E : XK} {x : Str} {ps : List Str} {k j : Nat} {sp : Sp} {e a b : Expr} {es : List Expr} {t : TA} {te tb : TE} {tt : TT} {p pos pos' : Pos}
theorem pe_fnX (F : FncX X.prog X.w X.K X.mg X.base x ps j sp) (hr : Room k X.A) (hj : j ≤ k) (hx : Passes (CXe X.prog X.w) X E) (hg : Gl X x) (ha : PA X (e :: es) t)
    (hdb : (x == ("__debug__" : Str)) = false := by decide) (he : starEach (e :: es) X.env = (false, eval e X.env) :: starEach es X.env := by rfl) (hpl : (backTo pos (starEach es X.env)).any (·.1) = false := by rfl) :
    PE X (.Call (.Name x p) (e :: es) [] pos) (tCall sp [] E t) := by
  obtain ⟨f, fd, hm, hk, hb, F⟩ := F.ex
  exact pe_call F (hr.mono hj) hg hm hk hb .nil hx ha hdb he hpl
theorem pee_fn (F : FncX X.prog X.w X.K X.mg X.base x ps j sp) (hr : Room k X.A) (hj : j ≤ k) (hg : Gl X x) (ha : PA X.nox (e :: es) t)
    (hdb : (x == ("__debug__" : Str)) = false := by decide) (he : starEach (e :: es) X.env = (false, eval e X.env) :: starEach es X.env := by rfl) (hpl : (backTo pos (starEach es X.env)).any (·.1) = false := by rfl) :
    PEE X E (.Call (.Name x p) (e :: es) [] pos) (tCall sp [] E t) := by
  obtain ⟨f, fd, hm, hk, hb, F⟩ := F.ex
  intro pins s σ H Q I h
  refine wpAny_Call_Name_kw (ld_glob I hg hm ?_ hdb)
  refine PySem.W.callWith_K (h₀ := X.base) I.ok.mod.kin hk (wpAny_mono (ha pos pins s σ H _ (I.wish _) h) (fun us s1 ⟨vs, H1, I0, r, q⟩ => ⟨I0.kIn, ?_⟩) fun _ _ z => False.elim z) he hpl
  have I1 : Inv X pins σ H1 s1 := I0.unwish
  have r2 : Vals (vs ++ []) (us ++ []) := r.append .nil
  have hl : (us ++ []).length = ps.length := by rw [← r2.length]; exact F.len _ _ _ _ q
  refine wpAny_call (codeAny_mono ((F.mono hj).run X.A X.stack s1 H1 ⟨us, []⟩ (us ++ []) (vs ++ []) Q E hr I1.env0 (hb s1 us I1.kIn hl) r2 q) fun r s' hq => ?_)
  cases r with
  | error e => exact XE.of I1 hq
  | ok fl =>
    cases fl with
    | ret u => exact I1.after hq
    | next => exact False.elim hq
    | brk => exact False.elim hq
    | cont => exact False.elim hq
noncomputable def PSE (X : Cx) (E : XK) (st : List Stmt) (t : TS) : Prop :=
  ∀ (pins : List (Addr × Obj)) (s : Shared) (σ : St) (H : Hp) (D : Ends), Inv X pins σ H s → t D σ H → wpAny (model X.prog X.w) X.A (execs st X.env) (SP X pins D) (XE X pins σ E) s
theorem pse_expr (he : PEE X E e te) (hs : swapsWith e none pos.line X.env = pure false := by rfl) : PSE X E [.Expr e pos] (tDrop te) := by
  intro pins s σ H D I h
  exact wpAny_execs_cons (wpAny_Expr_any (thn (he pins s σ H _ I h) fun v s1 zq3 => (by obtain ⟨x, H1, I1, r1, q1⟩ := zq3; exact wpAny_execs_nil ⟨σ, H1, I1, q1⟩)) I.quiet hs)

noncomputable def Ends.gone (D : Ends) (i : Nat) : Ends := { nx := fun σ H => D.nx (σ.set i none) H, rt := D.rt, bk := fun σ H => D.bk (σ.set i none) H, ct := fun σ H => D.ct (σ.set i none) H }
noncomputable def sTry (K : PySem.W.Frag) (R : Addr) (i : Nat) (tb : XK → TS) (ts : TS) : TS := fun D σ H =>
  tb (fun v _ H' => ∃ a C d bm, v = .ref a ∧ H' a = some (Exo a C d false) ∧ XCl K C bm ∧ (Value.ref C :: bm).contains (.ref R) = true ∧ ts (D.gone i) (σ.set i (some (.ref a))) H') D σ H
set_option maxHeartbeats 800000 in
theorem ps_try {n r : Str} {i : Nat} {R : Addr} {bmR : List Value} {body suite : List Stmt} {b₀ : Stmt} {np hpos : Pos} {tb : XK → TS} {ts : TS} (hst : X.stack = X.env :: X.outer) (hfr : X.env.frame = some X.env.locals) (hN : X.N.Nodup) (hi : X.N[i]? = some n) (hloc : X.env.scope.names.lookup n = some .local)
    (hg : Gl X r) (hm : X.mg r = some (.ref R)) (xR : XCl X.K R bmR) (hb : ∀ E, PSE X E body (tb E)) (hs : ∀ v, PSs (Hd X v) (b₀ :: suite) ts) (hdb : (r == ("__debug__" : Str)) = false := by decide) :
    PS X (.Try body [.ExceptHandler (some (.Name r np)) (some n) (b₀ :: suite) hpos] [] [] pos) (sTry X.K R i tb ts) := by
  intro pins s σ H D I h
  refine wpAny_Try_except (wpAny_mono (hb _ pins s σ H D I h) (fun f s₁ hf => ?_) fun e s₁ he => ?_)
  · cases f with
    | next => exact wpAny_execs_nil hf
    | brk => exact hf
    | cont => exact hf
    | ret u => exact hf
  · obtain ⟨a, C, d, H', rfl, I1, ha, hF, a', C', d', bm, ea', ha', xC, hc, ht⟩ := he
    cases ea'
    have hCC : C = C' := by
      obtain ⟨oe, vs, g1, g2, _⟩ := exo_get I1.hok ha
      obtain ⟨oe', vs', g1', g2', _⟩ := exo_get I1.hok ha'
      rw [g1] at g1'; cases g1'
      rw [g2] at g2'; cases g2'; rfl
    subst hCC
    obtain ⟨oe, vs, g1, g2, g3, g4, g5, g6⟩ := exo_get I1.hok ha
    refine leaveX' (base := X.base) (env := X.env) (outer := X.outer) (L := X.env.locals) (by rw [I.ok.frames, hst]) (by rw [← hst]; exact I1.stack) hfr g1 g4 (.inr hF) fun h' Nt => ?_
    obtain ⟨un, hok⟩ := nts_un I1.hok ha (by rw [← hst]; exact I1.stkFree) Nt
    have J := I1.call' (s' := { s₁ with heap := h' }) rfl (by rw [hst]; exact un) hok I1.bare (fun b z => absurd z (by simp))
    rw [upd_idem ha] at J
    obtain ⟨T, _, hT⟩ := Nt.fly
    have JH := J.hold (.ref a)
    refine wpAny_handleBy_cons (codeAny_handlers_test ?_) (by intro q; cases q)
    refine ld_glob (X := Hd X (.ref a)) JH hg hm ?_ hdb
    obtain ⟨oe2, vs2, k1, k2, _⟩ := exo_get J.hok ha
    refine matchX J.kIn xC xR k1 k2 ?_
    rw [hc]
    refine codeAny_handlers_suite_as ?_
    refine flightX (s := { s₁ with heap := h' }) hT fun h2 _ _ _ same => ?_
    have J2 : Inv (Hd X (.ref a)) pins σ H' { s₁ with heap := h2 } := JH.kept (t' := s₁.toks) (fun b u q => (same rfl b).trans q)
    refine store_ok (X := Hd X (.ref a)) J2 hN hi (.inl hloc) (v := .ref a) rfl (fun s₃ J3 => ?_) (.inr hloc)
    refine wpAny_mono (hs (.ref a) pins s₃ _ H' (D.gone i) J3 ht) (fun f s₄ hf => ?_) fun _ _ z => False.elim z
    cases f with
    | next => obtain ⟨σ', H2, J4, q⟩ := hf; exact gone_ok (J4.offHold I.ok) hN hi hloc fun s' K' => ⟨_, H2, K', q⟩
    | brk => obtain ⟨σ', H2, J4, q⟩ := hf; exact gone_ok (J4.offHold I.ok) hN hi hloc fun s' K' => ⟨_, H2, K', q⟩
    | cont => obtain ⟨σ', H2, J4, q⟩ := hf; exact gone_ok (J4.offHold I.ok) hN hi hloc fun s' K' => ⟨_, H2, K', q⟩
    | ret u => obtain ⟨v, σ', H2, J4, rv, q⟩ := hf; exact gone_ok (J4.offHold I.ok) hN hi hloc fun s' K' => ⟨v, _, H2, K', rv, q⟩
end
end L2
set_option Elab.async false
set_option linter.all false
set_option maxRecDepth 100000
namespace L2
open PySem PySem.Spec PyProof.Rows
section
variable {K : PySem.W.Frag} {C R N : Addr} {dd d0 : Option Addr} {c0 oc : Value} {cd cdR : ClassData} {k0 k1 k2 k3 k5 : Option Value} {sl sl' : Array (Option Value)} {es : Array DictEntry} {n : Nat} {bm bm' : List Value}
theorem tail_base : PySem.W.tailIn K bmV bmV = true := by
  unfold PySem.W.tailIn
  rw [beq_self_eq_true]; rfl
theorem nsok_of (l : K.lookup N = some ⟨oc, d0, .dict es n, sl'⟩) (h : (es.toList.all fun e => match e.key with | .str _ _ => true | _ => false) = true) : PySem.W.nsOkIn K N = true := by
  unfold PySem.W.nsOkIn; rw [l]; dsimp only; rw [← Array.all_toList]; exact h
theorem tail_own (l : K.lookup R = some ⟨c0, d0, .cls cdR, sl⟩) (ok : PySem.W.nsOkIn K cdR.ns = true) (ni : PySem.W.nsIn K cdR.ns "__init__" = some none) (t : PySem.W.tailIn K bmV bm = true) : PySem.W.tailIn K bmV (.ref R :: bm) = true := by
  unfold PySem.W.tailIn
  simp only [l, ok, ni, t, beq_self_eq_true, Bool.and_self, Bool.or_true]
theorem xcl_of (l : K.lookup C = some ⟨.type "type", dd, .cls cd, #[k0, k1, k2, k3, some (.builtin "ValueError.__new__"), k5]⟩) (m : cd.mro = .ref C :: bm) (h1 : cd.hasDel = false) (h2 : cd.hasDict = true) (t : PySem.W.tailIn K bmV bm = true) (kp : PySem.W.keepIn K (.ref C) = true) : XCl K C bm :=
  ⟨⟨dd, cd, k0, k1, k2, k3, k5, l, m, h1, h2⟩, t, kp⟩
theorem kit_ref (xC : XCl K C bm) (xR : XCl K R bm') : PySem.W.kitOne K (.ref C) (.ref R) = some ((Value.ref C :: bm).contains (.ref R)) := by
  obtain ⟨dd, cd, k0, k1, k2, k3, k5, hl, hm, hd, hh⟩ := xC.obj
  obtain ⟨dd', cd', k0', k1', k2', k3', k5', hl', hm', hd', hh'⟩ := xR.obj
  unfold PySem.W.kitOne
  by_cases q : (Value.ref C == Value.ref R) = true
  · rw [if_pos q, beq_iff_eq.mp q]; simp
  · rw [if_neg q]
    unfold PySem.W.kitCls
    have h1 : (PySem.W.clsIn K R).isSome = true := by unfold PySem.W.clsIn; rw [hl']; rfl
    have h2 : PySem.W.typeIn K (.ref R) = some (.type "type") := by
      show (K.lookup R).map (·.cls) = _
      rw [hl']; rfl
    simp only [h1, h2, beq_self_eq_true, Bool.and_self, if_true]
    unfold PySem.W.subIn PySem.W.mroIn PySem.W.clsIn
    simp only [hl, Option.bind_some, hm, List.isEmpty_cons, Bool.false_eq_true, if_false]
theorem kit_ty {h : Heap} {T : String} {b : Bool} (X : K.In h) (xC : XCl K C bm) (hk : PySem.W.kitMeta T = true) (hb : bmV.contains (.type T) = b) : PySem.W.kitOne K (.ref C) (.type T) = some b := by
  unfold PySem.W.kitOne
  rw [if_neg (show ¬ (Value.ref C == Value.type T) = true from by simp)]
  unfold PySem.W.kitCls
  simp only [hk, if_true]
  exact xC.mro X hb
end
noncomputable def fillF : List (Str × V) → List (Str × V) → List (Str × V)
  | acc, [] => acc
  | acc, (f, y) :: r => fillF (putF f y acc) r
inductive spInit (names : List Str) (C : Addr) (vs : List V) (H : Hp) (Q : VK) (E : XK) : Prop
  | mk : ∀ a ys b, (vs = .ref a :: ys) → (ys.length = names.length) → (H a = some (Exo a C none b)) → (∀ dx, H dx = none → dx ≠ a → Q .non (upd (upd H a (Exo a C (some dx) b)) dx (Xdt dx (fillF [] (names.zip ys))))) → spInit names C vs H Q E
end L2
set_option Elab.async false
set_option linter.all false
set_option maxRecDepth 100000
namespace L2
open PySem PySem.Spec PyProof.Rows
structure XMk (P : Program) (w : World) (K : PySem.W.Frag) (mg : Str → Option Value) (base : Heap) (x : Str) (C : Addr) (names : List Str) (k : Nat) : Prop where
  at_ : mg x = some (.ref C)
  ca : XCa K C
  no : ∀ f ∈ names, PySem.W.findIn K (.ref C) f = some none
  ex : ∃ (f : Addr) (fd : FuncData) (bm : List Value), XCl K C bm ∧ PySem.W.findIn K (.ref C) "__init__" = some (some (.ref f)) ∧ PySem.W.isFn K (.ref f) = true ∧ Binds K fd ("self" :: names) [] ∧ FnOk P w K mg base CX0 k f fd ("self" :: names) (spInit names C)
noncomputable def tNewX (C : Addr) (names : List Str) (t : TA) : TE := fun σ H Q => t σ H fun ys H1 => ys.length = names.length ∧ names.length ≤ 900 ∧ ∀ a dx, H1 a = none → H1 dx = none → dx ≠ a →
  Q (.ref a) (upd (upd H1 a (Exo a C (some dx) true)) dx (Xdt dx (fillF [] (names.zip ys))))
section
variable {X : Cx} {x : Str} {C : Addr} {names : List Str} {k j : Nat} {e : Expr} {es : List Expr} {t : TA} {p pos : Pos}
theorem pe_mk (M : XMk X.prog X.w X.K X.mg X.base x C names j) (hr : Room k X.A) (hj : j + 1 ≤ k) (hg : Gl X x) (ha : PA X (e :: es) t)
    (hdb : (x == ("__debug__" : Str)) = false := by decide) (he : starEach (e :: es) X.env = (false, eval e X.env) :: starEach es X.env := by rfl) (hpl : (backTo pos (starEach es X.env)).any (·.1) = false := by rfl) :
    PE X (.Call (.Name x p) (e :: es) [] pos) (tNewX C names t) := by
  obtain ⟨f, fd, bm, xc, hi, hf, hb, F⟩ := M.ex
  intro pins s σ H Q I h
  refine wpAny_Call_Name_kw (ld_glob I hg M.at_ ?_ hdb)
  refine PySem.W.callWith_K (h₀ := X.base) I.ok.mod.kin xc.kp (thn (ha pos pins s σ H _ I h) fun us s1 ⟨vs, H1, I1, r, hl, hn, q⟩ => ⟨I1.kIn, ?_⟩) he hpl
  refine run_makeX (k := j) xc hi hf F (hr.mono hj) hb I1 r ⟨by omega, fun a h0 => ⟨a, vs, true, rfl, hl, upd_same .., fun dx hdx ne => ⟨rfl, ?_⟩⟩⟩
  rw [upd_upd]
  exact q a dx h0 (by rw [upd_ne ne] at hdx; exact hdx) ne
end

section
variable {K : PySem.W.Frag} {C dx a : Addr} {b : Bool} {H : Hp}
end

section
variable {X : Cx} {K : PySem.W.Frag} {e : Expr} {f : Str} {pos : Pos} {ta : TE}
theorem pe_fxK (hK : X.K = K) (he : PE X e ta) (hb : attributeBase e f X.env (eval e X.env) = eval e X.env) : PE X (.Attribute e f pos) (tFx K ta f) := by subst hK; exact pe_fx he hb
end
end L2
set_option Elab.async false
set_option linter.all false
set_option maxRecDepth 100000
namespace L2
open PySem PySem.Spec PyProof.Rows
section
variable {X : Cx} {E : XK} {e a b c : Expr} {te ta tb : TE} {tA : TT} {pos : Pos}

end
end L2
set_option Elab.async false
set_option linter.all false
set_option maxRecDepth 100000
namespace L2
open PySem PySem.Spec PyProof.Rows
structure RoomH (k : Nat) (A : Around) : Prop where
  dp : A.depth + 3 * k + 5 < recursionLimit
  un : A.units + 16 * k + 200 < cLine
  gd : A.guards = some []
theorem Room.h {k : Nat} {A : Around} (r : Room k A) : RoomH k A := ⟨r.dp, r.un, r.gd⟩
theorem RoomH.mark {k : Nat} {A : Around} {v : Option Value} (r : RoomH k A) : RoomH k (A.mark v) := ⟨r.dp, r.un, r.gd⟩
theorem RoomH.mono {j k : Nat} {A : Around} (r : RoomH k A) (h : j ≤ k) : RoomH j A := ⟨by have := r.dp; omega, by have := r.un; omega, r.gd⟩
theorem RoomH.deeper {k : Nat} {A : Around} (r : RoomH (k + 1) A) (env : Env) : RoomH k (A.deeper env) :=
  ⟨by have := r.dp; show A.depth + 1 + 3 * k + 5 < _; omega, by have := r.un; show A.units + 3 + 16 * k + 200 < _; omega, r.gd⟩
theorem RoomH.depth {k : Nat} {A : Around} (r : RoomH k A) : A.depth < recursionLimit := by have := r.dp; omega
noncomputable abbrev cxH (P : Program) (w : World) (K : PySem.W.Frag) (mg : Str → Option Value) (base : Heap) (N : List Str) (qual : Str) (scope : Scope) (f : Addr) (cd : Value) (A : Around) (outer : List Env) (s : Shared) (H : Hp) : Cx :=
  { cxOf CX0 P w K mg base N qual scope f cd A outer s H E0 with calm := false, xe := fun _ _ => False }
theorem inv_startH {P : Program} {w : World} {K : PySem.W.Frag} {mg : Str → Option Value} {base : Heap} {N ps : List Str} {qual : Str} {scope : Scope} {f : Addr} {cd : Value} {A : Around} {outer : List Env} {s s1 : Shared} {H : Hp} {us : List Value} {vs : List V}
    (S : FnScope N ps scope) (e0 : Env0 P w K mg base A outer s H) (hl : vs.length = ps.length) (r : Vals vs us)
    (x : InCallC s s.heap.objs.size (bindL (envOfC qual scope s.heap.objs.size f cd).kindOf (ps.zip us) fun _ => none) (cellsFrom (s.heap.objs.size + 1) scope.names []) (bindC (envOfC qual scope s.heap.objs.size f cd).kindOf (ps.zip us) fun _ => none) s1) :
    Inv (cxH P w K mg base N qual scope f cd A outer s H) [] (start N vs) H s1 := by
  have e1 : Env0 P w K mg base { A with handled := none } outer s H := ⟨e0.frames, e0.mod, e0.bs, e0.bsz, e0.funs, e0.frf, e0.hok, e0.bare⟩
  have I := inv_start (CX := CX0) (E := E0) (cd := cd) (f := f) S rfl e1 hl r x
  exact ⟨⟨I.ok.mod, I.ok.kind, I.ok.glob, I.ok.blt, I.ok.above, I.ok.inj, I.ok.has, I.ok.cab, (fun z => by cases z), I.ok.frames, I.ok.stk, I.ok.exf, I.ok.bs, I.ok.bsz, I.ok.noex, I.ok.exfs, I.ok.funs, I.ok.frf⟩, I.os, I.bare, I.base, I.loc, I.cell, I.free, I.freeC, I.pin, I.hok, I.len⟩
structure FncH (P : Program) (w : World) (K : PySem.W.Frag) (mg : Str → Option Value) (base : Heap) (x : Str) (ps : List Str) (k : Nat) (sp : Sp) : Prop where
  len : ∀ vs H Q E, sp vs H Q E → vs.length = ps.length
  ex : ∃ (f : Addr) (fd : FuncData), mg x = some (.ref f) ∧ PySem.W.keepIn K (.ref f) = true ∧ Binds K fd ps [] ∧
    ∀ (A : Around) (outer : List Env) (s : Shared) (H : Hp) (args : Args) (us : List Value) (vs : List V) (Q : VK), RoomH k A → Env0 P w K mg base A outer s H → BindsTo s fd args (ps.zip us) → Vals vs us → sp vs H Q E0 →
      codeAny (model P w) A (.call (.ref f) args) (CR CX0 outer P w H s Q E0) s
theorem Df.okH {P : Program} {w : World} {K : PySem.W.Frag} {mg : Str → Option Value} {base : Heap} {x : Str} {st : Stmt} {N ps : List Str} {k : Nat} {sp : Sp} (D : Df K mg x st) (S : FnScope N ps (defScope st))
    (hb : ∀ (kV doc pm : Value) (an : Option Addr) (cdv ct : Value) (us : List Value), us.length = ps.length → bindArgs (PySem.W.fnOf x x (defArgs st) (defBody st) (defScope st) .none kV doc pm an cdv ct) ⟨us, []⟩ = pure (ps.zip us))
    (len : ∀ vs H Q E, sp vs H Q E → vs.length = ps.length)
    (hbody : ∀ (f : Addr) (cdv : Value) (A : Around) (outer : List Env) (s : Shared) (H : Hp) (vs : List V) (Q : VK), RoomH k (A.deeper (envOfC x (defScope st) s.heap.objs.size f cdv)) → sp vs H Q E0 →
      ∃ t, PSs (cxH P w K mg base N x (defScope st) f cdv A outer s H) (defBody st) t ∧ t { nx := fun _ H' => Q .non H', rt := Q } (start N vs) H) : FncH P w K mg base x ps (k + 1) sp := by
  obtain ⟨f, fd, hm, F⟩ := D.ex
  refine ⟨len, f, fd, hm, F.kp, F.binds hb, fun A outer s H args us vs Q hr e0 hbt r hsp => ?_⟩
  obtain ⟨oc, od, kV, doc, pm, an, cdv, ct, osl, rfl, lk, hcd⟩ := F.ex
  have hl := len _ _ _ _ hsp
  have KX : K.In s.heap := e0.mod.kin.keeps fun b o e => (e0.bs b o e).1
  have lim : s.heap.NoLimit := e0.mod.nolimit.keeps fun b o e => (e0.bs b o e).1
  have hkind : ∀ y ∈ ps.zip us, (defScope st).names.lookup y.1 = some .local ∨ ((defScope st).names.lookup y.1 = some .cell ∧ ((cellsFrom (s.heap.objs.size + 1) (defScope st).names []).lookup y.1).isSome = true) := fun ⟨n, v⟩ hy => by
    rcases S.par n (List.of_mem_zip hy).1 with q | q
    · exact .inl q
    · exact .inr ⟨q, PySem.W.cellsFrom_some _ _ _ (.inl q)⟩
  refine codeAny_call_function hr.depth (KX _ _ lk) rfl S.co S.gen rfl (PySem.W.codeRec_of KX hcd) (hbt _ _ _ _ ?_)
  refine wpAny_newFunctionEnv_cells S.kind hkind fun env he s1 xx => ?_
  subst he
  refine ⟨lim.keeps xx.toInCall.keep, codeAny_func ?_⟩
  obtain ⟨t, ht, hq⟩ := hbody f cdv A outer s H vs Q (hr.deeper _) hsp
  have I := inv_startH (w := w) (f := f) (cd := cdv) S e0 hl r xx
  refine wpAny_mono (ht [] s1 (start N vs) H _ I hq) (fun fl s' hs => ?_) fun e s' hs => hs.elim
  have fin : ∀ {σ' : St} {H' : Hp} {v : V} {u : Value}, Inv (cxH P w K mg base N x (defScope st) f cdv A outer s H) [] σ' H' s' → RelV v u → Q v H' → CE outer P w H s Q u s' :=
    fun {σ' H' v u} J rv q => ⟨v, H', J.os, J.bare, J.base, J.hok, rv, q⟩
  cases fl with
  | ret u =>
    obtain ⟨v, σ', H', J, rv, q⟩ := hs
    exact fin J rv q
  | next =>
    obtain ⟨σ', H', J, q⟩ := hs
    exact fin (v := V.non) (u := Value.none) J rfl q
  | brk =>
    obtain ⟨_, _, _, q⟩ := hs
    exact False.elim q
  | cont =>
    obtain ⟨_, _, _, q⟩ := hs
    exact False.elim q
section
variable {X : Cx} {x : Str} {ps : List Str} {k j : Nat} {sp : Sp} {e : Expr} {es : List Expr} {t : TA} {p pos : Pos}
theorem pe_fnH (F : FncH X.prog X.w X.K X.mg X.base x ps j sp) (hr : RoomH k X.A) (hj : j ≤ k) (hg : Gl X x) (ha : PA X (e :: es) t)
    (hdb : (x == ("__debug__" : Str)) = false := by decide) (he : starEach (e :: es) X.env = (false, eval e X.env) :: starEach es X.env := by rfl) (hpl : (backTo pos (starEach es X.env)).any (·.1) = false := by rfl) :
    PE X (.Call (.Name x p) (e :: es) [] pos) (tCall sp [] E0 t) := by
  obtain ⟨f, fd, hm, hk, hb, R⟩ := F.ex
  intro pins s σ H Q I h
  refine wpAny_Call_Name_kw (ld_glob I hg hm ?_ hdb)
  refine PySem.W.callWith_K (h₀ := X.base) I.ok.mod.kin hk (thn (ha pos pins s σ H _ I h) fun us s1 ⟨vs, H1, I1, r, q⟩ => ⟨I1.kIn, ?_⟩) he hpl
  have q' : sp (vs ++ []) H1 Q E0 := q
  rw [List.append_nil] at q'
  have hl : (us ++ []).length = ps.length := by rw [List.append_nil, ← r.length]; exact F.len _ _ _ _ q'
  have bt := hb s1 us I1.kIn hl
  rw [List.append_nil] at bt
  refine wpAny_call (codeAny_mono (R X.A X.stack s1 H1 ⟨us, []⟩ us vs Q (hr.mono hj) I1.env0 bt r q') fun r s' hq => ?_)
  cases r with
  | error e => exact hq.elim
  | ok fl =>
    cases fl with
    | ret u => exact I1.after hq
    | next => exact False.elim hq
    | brk => exact False.elim hq
    | cont => exact False.elim hq
end
theorem kitx_excN {K : PySem.W.Frag} {C a : Addr} (x : XCa K C) : PySem.W.KitX K (.ref a) (.ref C) (fun h => ∃ oe, PySem.W.InstAt h a oe C none) where
  ty := fun _ _ _ zq1 => (by obtain ⟨_, I⟩ := zq1; exact I.type)
  it := fun _ _ X _ => by
    obtain ⟨bm, xc⟩ := x.at_.cl
    obtain ⟨dd, cd, k0, k1, k2, k3, k5, ho, _⟩ := xc.obj
    intro A' Q' E' s' k q
    unfold isType loadHead
    exact wpAny_bind (wpAny_loadPart (k _ _ (X _ _ ho)) (wpAny_pure q))
  ne := fun h tp dd its n sl X htp => by
    obtain ⟨bm, xc⟩ := x.at_.cl
    obtain ⟨dd, cd, k0, k1, k2, k3, k5, ho, _⟩ := xc.obj
    refine Bool.eq_false_iff.mpr fun q => ?_
    have e : C = tp := Value.ref.inj (beq_iff_eq.mp q)
    subst e
    have z := congrArg Obj.data (Option.some.inj ((X _ _ ho).symm.trans htp))
    cases z
  ca := fun {prog w A E Q s} X ⟨oe, I⟩ k => by
    obtain ⟨bm, xc⟩ := x.at_.cl
    obtain ⟨cd, hc, _⟩ := xc.cls
    have hf : PySem.W.findObj K C none "__class__" = some (.bind (.builtin "getset_descriptor.__get__") (.builtin "object.__class__")) := by
      unfold PySem.W.findObj
      rw [hc, Option.bind_some, x.ca, Option.bind_some]
      simp [x.gt, x.tk]
    refine wpAny_bind (wpAny_mkText ?_)
    unfold getAttrBy?
    refine wpAny_bind (wpAny_attempt ?_)
    refine byX_open (s := { s with toks := s.toks + 1 }) X I x.at_ (ga_bind (s := { s with toks := s.toks + 1 }) X I hf (wpAny_call ?_))
    exact PySem.W.class_get (s := { s with toks := s.toks + 1 }) (ox := oe) (od := none) X I (xc.mro X PySem.F.store_ValueError.hasOwner) (PySem.W.handed_on rfl (wpAny_pure k))
noncomputable def XI (H : Hp) (a C : Addr) : Prop := (∃ b, H a = some (Exo a C none b)) ∨ ∃ b dx fs, H a = some (Exo a C (some dx) b) ∧ H dx = some (Xdt dx fs)
theorem XI.same {H H' : Hp} {a C : Addr} (x : XI H a C) (s : Same H H') : XI H' a C := by
  rcases x with ⟨b, h⟩ | ⟨b, dx, fs, h1, h2⟩
  · exact .inl ⟨b, s _ _ h⟩
  · exact .inr ⟨b, dx, fs, s _ _ h1, s _ _ h2⟩
inductive rIsy (K : PySem.W.Frag) (xs : List V) (H : Hp) (Q : VK) : Prop
  | mk : ∀ a C c t r, (xs = [.ref a, c]) → (XI H a C) → (XCa K C) → ((∀ u, RelV c u → u = t)) → (PySem.W.kitOne K (.ref C) t = some r) → (Q (.bl r) H) → rIsy K xs H Q
theorem call_isy {X : Cx} : CallR X (.builtin "isinstance") (rIsy X.K) := by
  intro pins s σ H xs us Q I r h
  obtain ⟨a, C, c, t, rr, rfl, xi, x, hc, e, q⟩ := h
  obtain ⟨u, u2, rfl, rx, r2⟩ := vals2 r
  obtain rfl := hc _ r2
  obtain rfl : u = Value.ref a := rx
  rcases xi with ⟨b, ea⟩ | ⟨b, dx, fs, ea, ed⟩
  · obtain ⟨oe, vs, g1, g2, g3, g4, g5, g6⟩ := exo_get I.hok ea
    exact PySem.W.kia_one (kitx_excN x) I.kIn ⟨oe, ⟨g1, g2, by unfold PySem.W.notCls; rw [g4], by rw [g3]; trivial⟩⟩ e (fun z => nomatch z) fun tk => ⟨.bl rr, H, I.tok _, rfl, q⟩
  · obtain ⟨oe, od, J, _⟩ := exc_inst I ea ed
    exact PySem.W.kia_one (kitx_exc x) I.kIn ⟨oe, _, J⟩ e (fun z => nomatch z) fun tk => ⟨.bl rr, H, I.tok _, rfl, q⟩
theorem call_isyK {X : Cx} {K : PySem.W.Frag} (hK : X.K = K) : CallR X (.builtin "isinstance") (rIsy K) := by subst hK; exact call_isy
section
variable {prog : Program} {w : World} {A : Around} {E : Value → Shared → Prop} {h : Heap} {g : Array GenState} {d : Drawn} {t : Nat} {os : OsState} {K : PySem.W.Frag} {C : Addr} {bm : List Value}
set_option maxHeartbeats 1600000 in
theorem type_call_X0 {rest : List Value} {Q : Fin → Shared → Prop} (X : K.In h) (x : XCl K C bm) (hi : PySem.W.findIn K (.ref C) "__init__" = some (some (.builtin "ValueError.__init__")))
    (hq : ∀ h', (∀ b o, h.get? b = some o → h'.get? b = some o) → (∃ t, h'.get? (h.objs.size + 1) = some (xnew C t)) → Q (.done (.ret (.ref (h.objs.size + 1)))) ⟨h', g, d, t, os⟩) (hrest : rest.length ≤ sizeLine) :
    wpAny (model prog w) A (Builtin.«type.__call__» ⟨.ref C :: rest, []⟩) Q E ⟨h, g, d, t, os⟩ := by
  obtain ⟨T, nm, q, N, bs, sn, sub, ab, col, dd, k0, k1, k2, k3, k5, hC⟩ := x.at X
  have F := PySem.F.excBase_ValueError
  repeat (first | with_reducible refine wpAny_loadPart_at hC ?_ | with_reducible refine wpAny_madeBy_exc hC ?_ | wp_step)
  refine codeAny_call_builtin_code (Code.quiet_builtin _ F.quiet) (wpAny_check_new_subT F T hC ?_)
  refine codeAny_exc_new_subT F T hC ?_ hrest
  show wpAny _ _ _ _ _ _
  have k1 : ∀ b o, h.get? b = some o → ((h.push (xtup rest)).push (xnew C h.objs.size)).get? b = some o := fun b o e => Heap.get?_push_of_some _ (Heap.get?_push_of_some _ e)
  have hC₁ := k1 _ _ hC
  have X₁ : K.In ((h.push (xtup rest)).push (xnew C h.objs.size)) := fun b o e => k1 b o (X b o e)
  have hget : ((h.push (xtup rest)).push (xnew C h.objs.size)).get? (h.objs.size + 1) = some (xnew C h.objs.size) := by heap_get
  have hcC : (Value.ref C :: bm).contains (.ref C) = true := by simp
  unfold isInstance
  repeat (first | with_reducible refine wpAny_loadPart_at hget ?_ | (with_reducible refine wpAny_isSubtype_exc hC₁ ?_; rw [hcC]) | wp_step)
  show wpAny _ _ (typeLookup (.ref C) _) _ _ _
  refine (PySem.W.looks_findIn (M := model prog w) X₁ hi).at ?_
  refine wpAny_holding (wpAny_bind (wpAny_of_eq (F.init.bind _) (wpAny_bind (wpAny_call ?_))))
  refine init_X X₁ x hget rfl rfl rfl hrest ?_
  wp_walk
  refine hq _ (fun b o hb => ?_) ⟨((h.push (xtup rest)).push (xnew C h.objs.size)).objs.size, ?_⟩
  · rw [Heap.get?_update_other _ _ (Nat.ne_of_gt (Nat.lt_succ_of_lt (Heap.lt_size hb)))]
    exact Heap.get?_push_of_some _ (k1 b o hb)
  · exact Heap.get?_update_self _ (Heap.get?_push_of_some _ hget) rfl
theorem call_X0 {rest : List Value} {Q : Value → Shared → Prop} (X : K.In h) (x : XCl K C bm) (hi : PySem.W.findIn K (.ref C) "__init__" = some (some (.builtin "ValueError.__init__")))
    (hq : ∀ h', (∀ b o, h.get? b = some o → h'.get? b = some o) → (∃ t, h'.get? (h.objs.size + 1) = some (xnew C t)) → Q (.ref (h.objs.size + 1)) ⟨h', g, d, t, os⟩) (hrest : rest.length ≤ sizeLine) :
    wpAny (model prog w) A (call (.ref C) rest) Q E ⟨h, g, d, t, os⟩ := by
  obtain ⟨T, nm, q, N, bs, sn, sub, ab, col, dd, k0, k1, k2, k3, k5, hC⟩ := x.at X
  have f1 := tc_lookup
  have f2 := tc_bind (.ref C)
  have hT : (⟨h, g, d, t, os⟩ : Shared).TypeIs (.ref C) "type" := ⟨_, hC, rfl⟩
  refine wpAny_call (codeAny_of_tree ?_)
  show wpAny _ _ (callAny (.ref C) _) _ _ _
  repeat (any_goals (first | assumption | with_reducible refine wpAny_loadPart_at hC ?_ | wp_step))
  refine ⟨rfl, ?_⟩
  exact codeAny_call_builtin_at (Code.quiet_builtin _ (by decide +kernel)) entry_typeCall (wpAny_check_type_call_sub hC (type_call_X0 X x hi hq hrest))
end
structure XMk0 (K : PySem.W.Frag) (mg : Str → Option Value) (x : Str) (C : Addr) : Prop where
  mg_ : mg x = some (.ref C)
  ca : XCa K C
  cl : ∃ bm, XCl K C bm
  hi : PySem.W.findIn K (.ref C) "__init__" = some (some (.builtin "ValueError.__init__"))
noncomputable def tNew0 (C : Addr) (t : TA) : TE := fun σ H Q => t σ H fun ys H1 => ys.length ≤ 1000 ∧ ∀ a, H1 a = none → Q (.ref a) (upd H1 a (Exo a C none true))
theorem pe_mk0 {X : Cx} {x : Str} {C : Addr} {e : Expr} {es : List Expr} {t : TA} {p pos : Pos} (M : XMk0 X.K X.mg x C) (hg : Gl X x) (ha : PA X (e :: es) t)
    (hdb : (x == ("__debug__" : Str)) = false := by decide) (he : starEach (e :: es) X.env = (false, eval e X.env) :: starEach es X.env := by rfl) (hpl : (backTo pos (starEach es X.env)).any (·.1) = false := by rfl) :
    PE X (.Call (.Name x p) (e :: es) [] pos) (tNew0 C t) := by
  obtain ⟨bm, xc⟩ := M.cl
  intro pins s σ H Q I h
  refine wpAny_Call_Name_kw (ld_glob I hg M.mg_ ?_ hdb)
  refine PySem.W.callWith_K (h₀ := X.base) I.ok.mod.kin xc.kp (thn (ha pos pins s σ H _ I h) fun us s1 ⟨vs, H1, I1, r, hlen, q⟩ => ⟨I1.kIn, ?_⟩) he hpl
  obtain ⟨hp, g, d, tk, os⟩ := s1
  refine call_X0 I1.kIn xc M.hi (fun h' kp ⟨t', m⟩ => ?_) (by show us.length ≤ _; rw [← r.length, sizeLine_eq]; omega)
  exact ⟨.ref _, _, I1.laid (a := hp.objs.size + 1) (t' := tk) kp (Nat.le_succ _) (exo_ok ⟨_, _, m, rfl, rfl, rfl, rfl, fun _ => rfl⟩), rfl, q _ (I1.hok.fresh (Nat.le_succ _))⟩
end L2
set_option Elab.async false
set_option linter.all false
set_option maxRecDepth 100000
namespace PySem
end PySem
namespace L2
open PySem PySem.Spec PyProof.Rows Wd
section
variable {X : Cx}
end
end L2
set_option Elab.async false
set_option linter.all false
set_option maxRecDepth 100000
namespace L2
open PySem PySem.Spec PyProof.Rows Wd
end L2
set_option Elab.async false
set_option linter.all false
set_option maxRecDepth 100000
namespace L2
open PySem PySem.Spec PyProof.Rows Wd
section
variable {X : Cx}
end
end L2
set_option linter.all false
namespace Wd
noncomputable def img (ws : List (List L)) (x : L) : List L := if x.val < 6 then ws.getD x.val [] else bk (ws.getD (x.val - 6) [])
noncomputable def sub (ws : List (List L)) (u : List L) : List L := u.flatMap (img ws)
end Wd
set_option Elab.async false
set_option linter.all false
set_option maxRecDepth 100000
namespace PySem
section
variable {prog : Program} {w : World} {A : Around} {E : Value → Shared → Prop}
end
end PySem
namespace L2
open PySem PySem.Spec PyProof.Rows Wd
section
variable {X : Cx} {pos : Pos}
end
end L2
set_option Elab.async false
set_option linter.all false
set_option maxRecDepth 100000
set_option maxHeartbeats 0
namespace L2
open PySem PySem.Spec PyProof.Rows Wd
section
variable {X : Cx}
theorem ix_listK {K : PySem.W.Frag} (hK : X.K = K) : IxR X (rIxL K) := by subst hK; exact ix_list
end
end L2
namespace L2
open PySem PySem.Spec PyProof.Rows Wd
end L2
namespace Kx
open PySem PySem.Spec PyProof.Rows L2 Wd
end Kx
set_option Elab.async false
set_option linter.all false
set_option maxRecDepth 100000
namespace L2
open PySem PySem.Spec PyProof.Rows Wd
section
variable {X : Cx}
end
end L2
set_option Elab.async false
set_option linter.all false
set_option maxRecDepth 100000
set_option maxHeartbeats 0
namespace Wd
structure Srf (u : List L) : Prop where
  ne : u ≠ []
  nd : u.Nodup
  iv : ∀ x ∈ u, inv x ∈ u
  le : u.length ≤ 12
noncomputable def fam (k : Nat) : List L := (List.range k).flatMap fun j => if h : j < 6 then [⟨j, by omega⟩, ⟨j + 6, by omega⟩] else []
theorem fam_ok : ∀ k : Fin 7, (fam k.val).Nodup ∧ (∀ x ∈ fam k.val, inv x ∈ fam k.val) ∧ (fam k.val).length = 2 * k.val := by decide
theorem srf_of {k : Nat} {u : List L} (h1 : 1 ≤ k) (h6 : k ≤ 6) (p : u.Perm (fam k)) : Srf u := by
  obtain ⟨a, b, c⟩ := fam_ok ⟨k, by omega⟩
  have hl := p.length_eq
  have c : (fam k).length = 2 * k := c
  refine ⟨fun e => ?_, (p.nodup_iff).mpr a, fun x hx => p.mem_iff.mpr (b x (p.mem_iff.mp hx)), by omega⟩
  subst e
  rw [c] at hl
  simp at hl
  omega
end Wd
namespace Kx
open PySem PySem.Spec PyProof.Rows L2 Wd
end Kx
set_option Elab.async false
set_option linter.all false
set_option maxRecDepth 100000
set_option maxHeartbeats 0
namespace Wd
end Wd
set_option Elab.async false
set_option linter.all false
set_option maxRecDepth 100000
set_option maxHeartbeats 0
namespace L2
open PySem PySem.Spec PyProof.Rows Wd
section
variable {X : Cx}
end
end L2
namespace Kx
open PySem PySem.Spec PyProof.Rows L2 Wd
end Kx
namespace L2
open PySem PySem.Spec PyProof.Rows Wd
section
variable {X : Cx}
end
end L2
set_option Elab.async false
set_option linter.all false
set_option maxRecDepth 100000
namespace L2
open PySem PySem.Spec PyProof.Rows
section
variable {X : Cx}
end
end L2
set_option Elab.async false
set_option linter.all false
set_option maxRecDepth 100000
namespace L2
open PySem PySem.Spec PyProof.Rows
section
variable {prog : Program} {w : World} {A : Around} {E : Value → Shared → Prop} {s : Shared}
end
section
variable {X : Cx}
end
end L2
namespace L2
open PySem PySem.Spec PyProof.Rows
section
variable {X : Cx}
end
end L2
namespace L2
open PySem PySem.Spec PyProof.Rows
section
variable {X : Cx}
end
end L2
set_option linter.all false
namespace Wd
end Wd
set_option Elab.async false
set_option linter.all false
set_option maxRecDepth 100000
set_option maxHeartbeats 0
namespace Wd
structure SK (u : List L) (k : Nat) : Prop where
  pm : u.Perm (fam k)
  lo : 1 ≤ k
  hi : k ≤ 6
theorem SK.srf {u : List L} {k : Nat} (h : SK u k) : Srf u := srf_of h.lo h.hi h.pm
theorem fam_mem : ∀ (k : Fin 7) (x : L), x ∈ fam k.val ↔ x.val % 6 < k.val := by decide
theorem SK.mem {u : List L} {k : Nat} (h : SK u k) (x : L) : x ∈ u ↔ x.val % 6 < k := by
  rw [h.pm.mem_iff]
  exact fam_mem ⟨k, by have := h.hi; omega⟩ x
theorem get_idx {u : List L} {x : L} (h : x ∈ u) : u[u.idxOf x]? = some x := by
  have hlt := List.idxOf_lt_length_of_mem h
  rw [List.getElem?_eq_getElem hlt]
  exact congrArg some (List.getElem_idxOf hlt)
theorem idx_lt {u : List L} {x : L} (h : x ∈ u) : u.idxOf x < u.length := List.idxOf_lt_length_of_mem h
theorem idx_inj {u : List L} {x y : L} (hx : x ∈ u) (hy : y ∈ u) (h : u.idxOf x = u.idxOf y) : x = y := by
  have h1 := get_idx hx
  have h2 := get_idx hy
  rw [h, h2] at h1
  exact (Option.some.inj h1).symm
noncomputable def rfI (u : List L) (a b : L) : Int := ((u.idxOf b : Int) - (u.idxOf a : Int)) % (u.length : Int)
theorem mod_val {n a b : Nat} (ha : a < n) (hb : b < n) : ((b : Int) - (a : Int)) % (n : Int) = if a ≤ b then (b : Int) - a else (b : Int) - a + n := by
  split
  · exact Int.emod_eq_of_lt (by omega) (by omega)
  · have : (b : Int) - a = ((b : Int) - a + n) + (n : Int) * (-1) := by omega
    rw [this, Int.add_mul_emod_self_left, Int.emod_eq_of_lt (by omega) (by omega)]
    omega
theorem rf_val {u : List L} {a b : L} (ha : a ∈ u) (hb : b ∈ u) : rfI u a b = if u.idxOf a ≤ u.idxOf b then (u.idxOf b : Int) - (u.idxOf a : Int) else (u.idxOf b : Int) - (u.idxOf a : Int) + (u.length : Int) := mod_val (idx_lt ha) (idx_lt hb)
noncomputable def ic (u : List L) (x z : L) : Int := if rfI u x z < rfI u x (inv x) then 1 else 0
noncomputable def sd (u : List L) (x y : L) : Int := ic u x y - ic u x (inv y)
structure Four (u : List L) (x y : L) : Prop where
  mx : x ∈ u
  mX : inv x ∈ u
  my : y ∈ u
  mY : inv y ∈ u
  n1 : u.idxOf x ≠ u.idxOf (inv x)
  n2 : u.idxOf x ≠ u.idxOf y
  n3 : u.idxOf x ≠ u.idxOf (inv y)
  n4 : u.idxOf (inv x) ≠ u.idxOf y
  n5 : u.idxOf (inv x) ≠ u.idxOf (inv y)
  n6 : u.idxOf y ≠ u.idxOf (inv y)
theorem four_of {u : List L} (U : Srf u) {x y : L} (hx : x ∈ u) (hy : y ∈ u) (h1 : x ≠ y) (h2 : x ≠ inv y) : Four u x y := by
  have hX := U.iv x hx
  have hY := U.iv y hy
  refine ⟨hx, hX, hy, hY, fun e => inv_ne x (idx_inj hx hX e).symm, fun e => h1 (idx_inj hx hy e), fun e => h2 (idx_inj hx hY e), fun e => h2 ?_, fun e => h1 ?_, fun e => inv_ne y (idx_inj hy hY e).symm⟩
  · rw [← idx_inj hX hy e, inv_inv]
  · have := congrArg inv (idx_inj hX hY e)
    rw [inv_inv, inv_inv] at this
    exact this
theorem Four.swap {u : List L} {x y : L} (F : Four u x y) : Four u y x := ⟨F.my, F.mY, F.mx, F.mX, F.n6, F.n2.symm, F.n4.symm, F.n3.symm, F.n5.symm, F.n1⟩
theorem sd_anti {u : List L} {x y : L} (F : Four u x y) : sd u y x = - sd u x y := by
  have a1 := idx_lt F.mx
  have a2 := idx_lt F.mX
  have a3 := idx_lt F.my
  have a4 := idx_lt F.mY
  have n1 := F.n1; have n2 := F.n2; have n3 := F.n3; have n4 := F.n4; have n5 := F.n5; have n6 := F.n6
  unfold sd ic
  rw [rf_val F.mx F.my, rf_val F.mx F.mX, rf_val F.mx F.mY, rf_val F.my F.mx, rf_val F.my F.mY, rf_val F.my F.mX]
  generalize u.idxOf x = a at *
  generalize u.idxOf (inv x) = b at *
  generalize u.idxOf y = c at *
  generalize u.idxOf (inv y) = d at *
  generalize u.length = n at *
  grind
noncomputable def sumN : Nat → (Nat → Int) → Int
  | 0, _ => 0
  | n + 1, f => sumN n f + f n
theorem sumN_congr {f g : Nat → Int} : ∀ (n : Nat), (∀ i, i < n → f i = g i) → sumN n f = sumN n g
  | 0, _ => rfl
  | n + 1, h => by
    show sumN n f + f n = sumN n g + g n
    rw [sumN_congr n fun i hi => h i (by omega), h n (by omega)]
theorem sumN_zero {f : Nat → Int} (n : Nat) (h : ∀ i, i < n → f i = 0) : sumN n f = 0 := by
  rw [sumN_congr n h]
  clear h
  induction n with
  | zero => rfl
  | succ n ih =>
    show sumN n (fun _ => 0) + 0 = 0
    rw [ih]
    rfl
theorem sumN_add (f g : Nat → Int) : ∀ n, sumN n (fun i => f i + g i) = sumN n f + sumN n g
  | 0 => rfl
  | n + 1 => by
    show sumN n (fun i => f i + g i) + (f n + g n) = (sumN n f + f n) + (sumN n g + g n)
    rw [sumN_add f g n]
    omega
theorem sumN_single {f : Nat → Int} {j : Nat} : ∀ (n : Nat), j < n → (∀ i, i < n → i ≠ j → f i = 0) → sumN n f = f j
  | 0, h, _ => absurd h (Nat.not_lt_zero _)
  | n + 1, h, hz => by
    show sumN n f + f n = f j
    by_cases e : j = n
    · subst e
      rw [sumN_zero j fun i hi => hz i (by omega) (by omega), Int.zero_add]
    · rw [sumN_single n (by omega) fun i hi => hz i (by omega), hz n (by omega) (fun e' => e e'.symm), Int.add_zero]
noncomputable def lt6 (j : Nat) : L := if h : j < 12 then ⟨j, h⟩ else 0
noncomputable def dfi (w : List L) (x : L) : Int := ((w.count x : Nat) : Int) - ((w.count (inv x) : Nat) : Int)
theorem lt6_val {j : Nat} (h : j < 6) : (lt6 j).val = j := by
  unfold lt6
  rw [dif_pos (by omega)]
theorem small_mod : ∀ x : L, x.val < 6 → (inv x).val = x.val + 6 := by decide
theorem SK.four {u : List L} {k : Nat} (h : SK u k) {x y : Nat} (hx : x < k) (hy : y < k) (hn : x ≠ y) : Four u (lt6 x) (lt6 y) := by
  have h6 := h.hi
  have vx := lt6_val (show x < 6 by omega)
  have vy := lt6_val (show y < 6 by omega)
  refine four_of h.srf ((h.mem _).mpr (by rw [vx]; omega)) ((h.mem _).mpr (by rw [vy]; omega)) (fun e => hn ?_) (fun e => ?_)
  · rw [← vx, ← vy, e]
  · have := small_mod (lt6 y) (by omega)
    rw [← e] at this
    omega
theorem dfi_app (v w : List L) (x : L) : dfi (v ++ w) x = dfi v x + dfi w x := by
  unfold dfi
  rw [List.count_append, List.count_append]
  omega
theorem dfi_nil (x : L) : dfi [] x = 0 := rfl
noncomputable def tau (u : List L) (y l : L) : Int := if l = y ∨ l = inv y then 0 else ic u y (inv l) - ic u y l
noncomputable def tsum (u : List L) (y : L) : List L → Int
  | [] => 0
  | l :: w => tau u y l + tsum u y w
theorem dfi_one (l x : L) : dfi [l] x = (if l = x then 1 else 0) - (if l = inv x then 1 else 0) := by
  have c : ∀ a b : L, (([a].count b : Nat) : Int) = if a = b then 1 else 0 := fun a b => by
    rw [List.count_singleton]
    by_cases h : a = b
    · rw [if_pos h, h]
      simp
    · rw [if_neg h]
      simp [h]
  unfold dfi
  rw [c, c]
theorem l_small : ∀ l : L, l = lt6 (l.val % 6) ∨ l = inv (lt6 (l.val % 6)) := by decide
theorem l_other : ∀ (l : L) (x : Fin 6), x.val ≠ l.val % 6 → l ≠ lt6 x.val ∧ l ≠ inv (lt6 x.val) := by decide
theorem l_both : ∀ l : L, ¬ (l = lt6 (l.val % 6) ∧ l = inv (lt6 (l.val % 6))) := by decide
theorem z_one {u : List L} {k : Nat} (h : SK u k) {y : Nat} (hy : y < k) {l : L} (hl : l ∈ u) : sumN k (fun x => if x = y then 0 else dfi [l] (lt6 x) * sd u (lt6 x) (lt6 y)) = tau u (lt6 y) l := by
  have h6 := h.hi
  have hj := (h.mem l).mp hl
  rw [sumN_single k hj]
  · unfold tau
    by_cases e : l.val % 6 = y
    · subst e
      rw [if_pos rfl, if_pos (l_small l)]
    · rw [if_neg e]
      have q := l_other l ⟨y, by omega⟩ (fun z => e z.symm)
      rw [if_neg (fun z => z.elim q.1 q.2), dfi_one]
      have F := h.four hj hy e
      have an := sd_anti F.swap
      rcases l_small l with e1 | e1
      · have e2 : ¬ l = inv (lt6 (l.val % 6)) := fun z => l_both l ⟨e1, z⟩
        rw [if_pos e1, if_neg e2, an, ← e1]
        unfold sd
        omega
      · have e2 : ¬ l = lt6 (l.val % 6) := fun z => l_both l ⟨z, e1⟩
        have e3 : lt6 (l.val % 6) = inv l := by rw [e1, inv_inv, ← e1]
        rw [if_neg e2, if_pos e1, an, e3]
        unfold sd
        rw [inv_inv]
        omega
  · intro i hi hn
    by_cases e : i = y
    · rw [if_pos e]
    · rw [if_neg e, dfi_one]
      have q := l_other l ⟨i, by omega⟩ hn
      rw [if_neg q.1, if_neg q.2]
      omega
theorem z_all {u : List L} {k : Nat} (h : SK u k) {y : Nat} (hy : y < k) : ∀ w : List L, (∀ l ∈ w, l ∈ u) → sumN k (fun x => if x = y then 0 else dfi w (lt6 x) * sd u (lt6 x) (lt6 y)) = tsum u (lt6 y) w
  | [], _ => sumN_zero k fun x _ => by
    split
    · rfl
    · rw [dfi_nil, Int.zero_mul]
  | l :: w, hw => by
    have ih := z_all h hy w fun z hz => hw z (List.mem_cons_of_mem _ hz)
    show _ = tau u (lt6 y) l + tsum u (lt6 y) w
    rw [← ih, ← z_one h hy (hw l List.mem_cons_self), ← sumN_add]
    refine sumN_congr k fun x _ => ?_
    have e : dfi (l :: w) (lt6 x) = dfi [l] (lt6 x) + dfi w (lt6 x) := dfi_app [l] w (lt6 x)
    rw [e]
    split
    · rfl
    · rw [Int.add_mul]
end Wd
set_option Elab.async false
set_option linter.all false
set_option maxRecDepth 100000
set_option maxHeartbeats 0
namespace L2
open PySem PySem.Spec PyProof.Rows
section
variable {X : Cx}
end
end L2
namespace Kx
open PySem PySem.Spec PyProof.Rows L2 Wd
noncomputable def ends (k : Nat) : List L := (List.range k).map lt6 ++ bk ((List.range k).map lt6)
end Kx
set_option Elab.async false
set_option linter.all false
set_option maxRecDepth 100000
namespace L2
open PySem PySem.Spec PyProof.Rows
section
variable {prog : Program} {w : World} {A : Around} {E : Value → Shared → Prop} {s : Shared}
end
section
variable {X : Cx}
end
end L2
set_option Elab.async false
set_option linter.all false
set_option maxRecDepth 100000
set_option maxHeartbeats 0
namespace L2
open PySem PySem.Spec PyProof.Rows Wd
section
variable {X : Cx}
end
end L2
namespace L2
open PySem PySem.Spec PyProof.Rows Wd
mutual
theorem Dt.mono {H H' : Hp} (ok : ∀ b xs, H b = some (.lst xs) → H' b = some (.lst xs)) (ok2 : ∀ b xs, H b = some (.tup xs) → H' b = some (.tup xs)) : ∀ {v : V} {d : PyData}, Dt H v d → Dt H' v d
  | _, _, .non => .non
  | _, _, .bl b => .bl b
  | _, _, .int i => .int i
  | _, _, .str x => .str x
  | _, _, .lst e q => .lst (ok _ _ e) (Dts.mono ok ok2 q)
  | _, _, .tup e q => .tup (ok2 _ _ e) (Dts.mono ok ok2 q)
theorem Dts.mono {H H' : Hp} (ok : ∀ b xs, H b = some (.lst xs) → H' b = some (.lst xs)) (ok2 : ∀ b xs, H b = some (.tup xs) → H' b = some (.tup xs)) : ∀ {vs : List V} {ds : List PyData}, Dts H vs ds → Dts H' vs ds
  | _, _, .nil => .nil
  | _, _, .cons q qs => .cons (Dt.mono ok ok2 q) (Dts.mono ok ok2 qs)
end
theorem Dt.same {H H' : Hp} (s : Same H H') {v : V} {d : PyData} (h : Dt H v d) : Dt H' v d := h.mono (fun _ _ e => s _ _ e) fun _ _ e => s _ _ e
theorem fits40 {d : PyData} (h : d.leavesShort 40 = true) (hw : d.weight ≤ 2 ^ 18) : d.shown.length ≤ sizeLine := by
  have := PyData.shown_le 40 (by decide) d h
  have e : sizeLine = 16777216 := sizeLine_eq
  rw [e]
  omega
structure Sm (d : PyData) : Prop where
  sh : d.showable = true
  nd : d.hasDict = false
  dp : d.depth ≤ 4
  lv : d.leavesShort 40 = true
  wt : d.weight ≤ 400
  nt : ∀ i, d = .int i → i.natAbs.log2 < 1920
theorem sm_bool (b : Bool) : Sm (.bool b) := ⟨rfl, rfl, by cases b <;> decide, rfl, by cases b <;> decide, fun i e => by cases e⟩
theorem all_sm {ds : List PyData} (h : ∀ d ∈ ds, Sm d) : PyData.showableAll ds = true ∧ PyData.hasDictAll ds = false ∧ PyData.depthAll ds ≤ 4 ∧ PyData.leavesShortAll 40 ds = true ∧ PyData.weightAll ds ≤ ds.length * 401 := by
  induction ds with
  | nil => exact ⟨rfl, rfl, Nat.zero_le _, rfl, Nat.zero_le _⟩
  | cons d r ih =>
    obtain ⟨a, b, c, e, f⟩ := ih fun x hx => h x (List.mem_cons_of_mem _ hx)
    have S := h d List.mem_cons_self
    refine ⟨?_, ?_, ?_, ?_, ?_⟩
    · show (PyData.showable d && PyData.showableAll r) = true
      rw [S.sh, a]; rfl
    · show (PyData.hasDict d || PyData.hasDictAll r) = false
      rw [S.nd, b]; rfl
    · show max (PyData.depth d) (PyData.depthAll r) ≤ 4
      have := S.dp
      omega
    · show (PyData.leavesShort 40 d && PyData.leavesShortAll 40 r) = true
      rw [S.lv, e]; rfl
    · show PyData.weight d + 1 + PyData.weightAll r ≤ (r.length + 1) * 401
      have := S.wt
      omega
theorem sh_lstD {ds : List PyData} (h : ∀ d ∈ ds, Sm d) (hl : ds.length ≤ 100) : Sh (.list ds) := by
  obtain ⟨a, b, c, e, f⟩ := all_sm h
  have : ds.length * 401 ≤ 100 * 401 := Nat.mul_le_mul_right _ hl
  exact ⟨a, b, by show PyData.depthAll ds + 1 ≤ 10; omega, fits40 e (by show PyData.weightAll ds ≤ 2 ^ 18; omega)⟩
end L2
namespace Kx
open PySem PySem.Spec PyProof.Rows L2 Wd
end Kx
set_option Elab.async false
set_option linter.all false
set_option maxRecDepth 100000
namespace Kx
open PySem PySem.Spec PyProof.Rows L2 Wd
end Kx
set_option Elab.async false
set_option linter.all false
set_option maxRecDepth 100000
set_option maxHeartbeats 0
namespace Kx
open PySem PySem.Spec PyProof.Rows L2 Wd
structure Bt0 (mg : Str → Option Value) : Prop where
  len : mg "len" = none
  repr : mg "repr" = none
  abs : mg "abs" = none
  max : mg "max" = none
  int : mg "int" = none
  list : mg "list" = none
  range : mg "range" = none
  reversed : mg "reversed" = none
  min : mg "min" = none
  sorted : mg "sorted" = none
  tuple : mg "tuple" = none
  isinstance : mg "isinstance" = none
  all : mg "all" = none
  str : mg "str" = none
  zip : mg "zip" = none
noncomputable def flds : Nat → List Str
  | 0 => ["place"] | 1 => ["place"] | 2 => ["letter"] | 3 => ["row"] | 4 => ["name"]
  | 5 => ["step", "word"] | 6 => ["word", "at"] | 7 => ["letters", "holes"] | 8 => ["turn", "other", "piece"] | _ => []
structure KC (K : PySem.W.Frag) (mg : Str → Option Value) (c : Nat → Addr) : Prop where
  nR : mg "RingError" = some (.ref (c 9))
  nV : mg "ValueError" = none
  n0 : mg "NoStep" = some (.ref (c 0))
  n1 : mg "NoSlide" = some (.ref (c 1))
  n2 : mg "NoBand" = some (.ref (c 2))
  n3 : mg "NoRow" = some (.ref (c 3))
  n4 : mg "NoWay" = some (.ref (c 4))
  n5 : mg "NoText" = some (.ref (c 5))
  n6 : mg "NoPaper" = some (.ref (c 6))
  n7 : mg "NoSurface" = some (.ref (c 7))
  n8 : mg "NoThin" = some (.ref (c 8))
  ca : ∀ n, n ≤ 9 → XCa K (c n)
  cl : ∀ n, n ≤ 9 → ∃ bm, XCl K (c n) bm ∧ (Value.ref (c n) :: bm).contains (.ref (c 9)) = true
  kit : ∀ n m, n ≤ 9 → m ≤ 8 → PySem.W.kitOne K (.ref (c n)) (.ref (c m)) = some (decide (n = m))
  kv : ∀ n, n ≤ 9 → PySem.W.kitOne K (.ref (c n)) (.type "ValueError") = some true
  no : ∀ n f, n ≤ 8 → f ∈ flds n → PySem.W.findIn K (.ref (c n)) f = some none
noncomputable def RX (c : Nat → Addr) (H : Hp) (a : Addr) (n : Nat) (xs : List V) : Prop :=
  (n = 9 ∧ H a = some (Exo a (c 9) none false)) ∨ (n ≤ 8 ∧ ∃ dx, H a = some (Exo a (c n) (some dx) false) ∧ H dx = some (Xdt dx (fillF [] ((flds n).zip xs))))
theorem RX.xi {c : Nat → Addr} {H : Hp} {a : Addr} {n : Nat} {xs : List V} (h : RX c H a n xs) : XI H a (c n) := by
  rcases h with ⟨rfl, h⟩ | ⟨_, dx, h1, h2⟩
  · exact .inl ⟨_, h⟩
  · exact .inr ⟨_, dx, _, h1, h2⟩
theorem RX.same {c : Nat → Addr} {H H' : Hp} {a : Addr} {n : Nat} {xs : List V} (h : RX c H a n xs) (s : Same H H') : RX c H' a n xs := by
  rcases h with ⟨e, h⟩ | ⟨e, dx, h1, h2⟩
  · exact .inl ⟨e, s _ _ h⟩
  · exact .inr ⟨e, dx, s _ _ h1, s _ _ h2⟩
theorem RX.ex {c : Nat → Addr} {H : Hp} {a : Addr} {n : Nat} {xs : List V} (h : RX c H a n xs) : n ≤ 9 ∧ ∃ d, H a = some (Exo a (c n) d false) := by
  rcases h with ⟨rfl, h⟩ | ⟨e, dx, h1, h2⟩
  · exact ⟨Nat.le_refl _, _, h⟩
  · exact ⟨by omega, _, h1⟩
inductive spRaise (c : Nat → Addr) (most : Nat) (vs : List V) (H : Hp) (Q : VK) (E : XK) : Prop
  | mk : ∀ (n : Nat) (l : Addr) (x y z : V), (vs = [.int n, .ref l]) → (n ≤ most) → (H l = some (.lst [x, y, z])) → (∀ a H', RX c H' a n [x, y, z] → Same H H' → E (.ref a) none H') → spRaise c most vs H Q E
noncomputable def kindsV (n : Nat) : List V := (List.range 9).map fun m => V.bl (decide (n = m))
inductive spKinds (c : Nat → Addr) (vs : List V) (H : Hp) (Q : VK) (E : XK) : Prop
  | mk : ∀ (n : Nat) (a : Addr), (vs = [.ref a]) → (n ≤ 9) → (XI H a (c n)) → (∀ p H', H' p = some (.lst (kindsV n)) → Same H H' → Q (.ref p) H') → spKinds c vs H Q E
inductive spFields (c : Nat → Addr) (vs : List V) (H : Hp) (Q : VK) (E : XK) : Prop
  | mk : ∀ (n : Nat) (a : Addr) (x y z : V), (vs = [.ref a, .int n]) → (n ≤ 8) → (RX c H a n [x, y, z]) → (∀ p H', H p = none → H' p = some (.lst ([x, y, z].take (flds n).length)) → Same H H' → Q (.ref p) H') → spFields c vs H Q E
theorem new_exc {c : Nat → Addr} {H : Hp} {n : Nat} {xs : List V} {a dx : Addr} (h : n ≤ 8) (ha : H a = none) (hd : H dx = none) (ne : dx ≠ a) :
    RX c (upd (upd (upd H a (Exo a (c n) (some dx) true)) dx (Xdt dx (fillF [] ((flds n).zip xs)))) a (Exo a (c n) (some dx) false)) a n xs := by
  refine .inr ⟨h, dx, upd_same, ?_⟩
  rw [upd_ne ne, upd_same]
theorem new_same {H : Hp} {a dx : Addr} {o o' o2 : HO} (ha : H a = none) (hd : H dx = none) : Same H (upd (upd (upd H a o) dx o') a o2) := fun b u e => by
  rw [upd_ne (ne_of_none e ha), upd_ne (ne_of_none e hd), upd_ne (ne_of_none e ha)]
  exact e
noncomputable def menuD : List PyData := [.int 0, .int 1, .int (10 ^ 30), .str "shape", .str "", .none, .int (-1), .str "a b", .str "abAB"]
noncomputable def mV : PyData → V
  | .int i => .int i
  | .str x => .str x
  | .bool b => .bl b
  | _ => .non
theorem mV_dt {d : PyData} (h : d ∈ menuD) (H : Hp) : Dt H (mV d) d := by
  simp only [menuD, List.mem_cons, List.not_mem_nil, or_false] at h
  rcases h with rfl | rfl | rfl | rfl | rfl | rfl | rfl | rfl | rfl
  · exact .int _
  · exact .int _
  · exact .int _
  · exact .str _
  · exact .str _
  · exact .non
  · exact .int _
  · exact .str _
  · exact .str _
theorem mVs_dts {ds : List PyData} (h : ∀ d ∈ ds, d ∈ menuD) (H : Hp) : Dts H (ds.map mV) ds := by
  induction ds with
  | nil => exact .nil
  | cons d r ih => exact .cons (mV_dt (h d List.mem_cons_self) H) (ih fun e he => h e (List.mem_cons_of_mem _ he))
theorem bls_dts {H : Hp} (bs : List Bool) : Dts H (bs.map V.bl) (bs.map PyData.bool) := by
  induction bs with
  | nil => exact .nil
  | cons b r ih => exact .cons (.bl b) ih
noncomputable def kindsD (n : Nat) : PyData := .list (((List.range 9).map fun m => decide (n = m)).map PyData.bool)
theorem kinds_dt {H : Hp} {p : Addr} {n : Nat} (h : H p = some (.lst (kindsV n))) : Dt H (.ref p) (kindsD n) := by
  refine .lst h ?_
  have : kindsV n = ((List.range 9).map fun m => decide (n = m)).map V.bl := by unfold kindsV; rw [List.map_map]; rfl
  rw [this]
  exact bls_dts _
noncomputable def toldD (n : Nat) (ds : List PyData) : PyData := .list ([.bool true, kindsD n] ++ if n < 9 then [.list (ds.take (flds n).length)] else [])
structure Le (w : Nat) (d : PyData) : Prop where
  sh : d.showable = true
  nd : d.hasDict = false
  dp : d.depth = 0
  lv : d.leavesShort 40 = true
  wt : d.weight ≤ w
theorem le_bool (b : Bool) : Le 40 (.bool b) := by cases b <;> exact ⟨rfl, rfl, rfl, rfl, by decide⟩
theorem le_menu {d : PyData} (h : d ∈ menuD) : Le 120 d := by
  simp only [menuD, List.mem_cons, List.not_mem_nil, or_false] at h
  rcases h with rfl | rfl | rfl | rfl | rfl | rfl | rfl | rfl | rfl <;> exact ⟨by decide +kernel, by decide +kernel, by decide +kernel, by decide +kernel, by decide +kernel⟩
theorem all_le {w : Nat} : ∀ {ds : List PyData}, (∀ d ∈ ds, Le w d) → PyData.showableAll ds = true ∧ PyData.hasDictAll ds = false ∧ PyData.depthAll ds = 0 ∧ PyData.leavesShortAll 40 ds = true ∧ PyData.weightAll ds ≤ ds.length * (w + 1)
  | [], _ => ⟨rfl, rfl, rfl, rfl, Nat.zero_le _⟩
  | d :: r, h => by
    obtain ⟨a, b, c, e, f⟩ := all_le (ds := r) fun x hx => h x (List.mem_cons_of_mem _ hx)
    have S := h d List.mem_cons_self
    refine ⟨?_, ?_, ?_, ?_, ?_⟩
    · show (PyData.showable d && PyData.showableAll r) = true
      rw [S.sh, a]; rfl
    · show (PyData.hasDict d || PyData.hasDictAll r) = false
      rw [S.nd, b]; rfl
    · show max (PyData.depth d) (PyData.depthAll r) = 0
      have := S.dp
      omega
    · show (PyData.leavesShort 40 d && PyData.leavesShortAll 40 r) = true
      rw [S.lv, e]; rfl
    · show PyData.weight d + 1 + PyData.weightAll r ≤ (r.length + 1) * (w + 1)
      have := S.wt
      rw [Nat.succ_mul]
      omega
theorem sm_le {w : Nat} {ds : List PyData} (h : ∀ d ∈ ds, Le w d) (hl : ds.length * (w + 1) ≤ 400) : Sm (.list ds) := by
  obtain ⟨a, b, c, e, f⟩ := all_le h
  refine ⟨a, b, ?_, e, ?_, fun i e => by cases e⟩
  · show PyData.depthAll ds + 1 ≤ 4
    omega
  · show PyData.weightAll ds ≤ 400
    omega
theorem told_sh {n : Nat} {ds : List PyData} (h : ∀ d ∈ ds, d ∈ menuD) (hl : ds.length = 3) : Sh (toldD n ds) := by
  have hk : Sm (kindsD n) := sm_le (fun d hd => by
    obtain ⟨b, _, rfl⟩ := List.mem_map.mp hd
    exact le_bool b) (by simp)
  refine sh_lstD (fun d hd => ?_) ?_
  · rcases List.mem_append.mp hd with hd | hd
    · rcases List.mem_cons.mp hd with rfl | hd
      · exact sm_bool true
      · rcases List.mem_cons.mp hd with rfl | hd
        · exact hk
        · cases hd
    · split at hd
      · rw [List.mem_singleton] at hd
        subst hd
        exact sm_le (fun d hd => le_menu (h d (List.mem_of_mem_take hd))) (by rw [List.length_take]; omega)
      · cases hd
  · rw [List.length_append]
    split <;> simp
theorem told_dt {H : Hp} {p k f : Addr} {n : Nat} {ds : List PyData} (h : ∀ d ∈ ds, d ∈ menuD) (hk : H k = some (.lst (kindsV n))) (hf : n < 9 → H f = some (.lst ((ds.map mV).take (flds n).length))) (hp : H p = some (.lst ([.bl true, .ref k] ++ if n < 9 then [V.ref f] else []))) : Dt H (.ref p) (toldD n ds) := by
  by_cases hn : n < 9
  · rw [if_pos hn] at hp
    unfold toldD
    rw [if_pos hn]
    refine .lst hp (.cons (.bl _) (.cons (kinds_dt hk) (.cons (.lst (hf hn) ?_) .nil)))
    rw [← List.map_take]
    exact mVs_dts (fun d hd => h d (List.mem_of_mem_take hd)) H
  · rw [if_neg hn] at hp
    unfold toldD
    rw [if_neg hn]
    exact .lst hp (.cons (.bl _) (.cons (kinds_dt hk) .nil))
theorem getD_nodup {cs : List Addr} {d : Addr} (nd : cs.Nodup) {n m : Nat} (hn : n < cs.length) (hm : m < cs.length) : (cs.getD n d = cs.getD m d) ↔ n = m := by
  rw [List.getD_eq_getElem?_getD, List.getD_eq_getElem?_getD, List.getElem?_eq_getElem hn, List.getElem?_eq_getElem hm]
  constructor
  · intro e
    have e : cs[n] = cs[m] := e
    have P := List.pairwise_iff_getElem.mp nd
    rcases Nat.lt_trichotomy n m with h | h | h
    · exact absurd e (P n m hn hm h)
    · exact h
    · exact absurd e.symm (P m n hm hn h)
  · rintro rfl; rfl
theorem kit_all {K : PySem.W.Frag} {cs : List Addr} {R : Addr} (hl : cs.length = 9) (nd : (cs ++ [R]).Nodup) (own : ∀ C ∈ cs, XCl K C (.ref R :: bmV)) (xR : XCl K R bmV) :
    ∀ n m, n ≤ 9 → m ≤ 8 → PySem.W.kitOne K (.ref ((cs ++ [R]).getD n R)) (.ref ((cs ++ [R]).getD m R)) = some (decide (n = m)) := by
  intro n m hn hm
  have hL : (cs ++ [R]).length = 10 := by rw [List.length_append, hl]; rfl
  have eR : (cs ++ [R]).getD 9 R = R := by rw [List.getD_eq_getElem?_getD, List.getElem?_append_right (by omega), hl]; rfl
  have inC : ∀ j, j ≤ 8 → XCl K ((cs ++ [R]).getD j R) (.ref R :: bmV) := fun j hj => by
    have : (cs ++ [R]).getD j R = cs[j]'(by omega) := by rw [List.getD_eq_getElem?_getD, List.getElem?_append_left (by omega), List.getElem?_eq_getElem (by omega)]; rfl
    rw [this]
    exact own _ (List.getElem_mem _)
  have nm := getD_nodup (d := R) nd (n := n) (m := m) (by omega) (by omega)
  have rm : R ≠ (cs ++ [R]).getD m R := fun e => by
    have := (getD_nodup (d := R) nd (n := 9) (m := m) (by omega) (by omega)).mp (eR.trans e)
    omega
  have fin : ∀ (b : Bool) (bm : List Value), (∀ v ∈ bm, v ≠ .ref ((cs ++ [R]).getD m R)) → (Value.ref ((cs ++ [R]).getD n R) :: bm).contains (.ref ((cs ++ [R]).getD m R)) = decide (n = m) := fun b bm h => by
    have h2 : bm.contains (.ref ((cs ++ [R]).getD m R)) = false := by
      rw [← Bool.not_eq_true, List.contains_iff_mem]
      exact fun q => h _ q rfl
    rw [List.contains_cons, h2, Bool.or_false]
    by_cases e : n = m
    · subst e; simp
    · rw [decide_eq_false e]
      exact beq_eq_false_iff_ne.mpr fun q => e (nm.mp (Value.ref.inj q).symm)
  have hbm : ∀ v ∈ bmV, v ≠ .ref ((cs ++ [R]).getD m R) := fun v hv => by
    simp only [bmV, List.mem_cons, List.not_mem_nil, or_false] at hv
    rcases hv with rfl | rfl | rfl | rfl <;> (intro z; cases z)
  by_cases h9 : n = 9
  · subst h9
    have x9 : XCl K ((cs ++ [R]).getD 9 R) bmV := by rw [eR]; exact xR
    rw [kit_ref x9 (inC m hm), fin true bmV hbm]
  · rw [kit_ref (inC n (by omega)) (inC m hm), fin true _ fun v hv => ?_]
    rcases List.mem_cons.mp hv with rfl | hv
    · exact fun z => rm (Value.ref.inj z)
    · exact hbm v hv
theorem b_ValueError : bootBuiltins "ValueError" = some (.type "ValueError") := by first | rfl | decide +kernel | kernel_rfl
theorem atN25 {α : Type} {xs : List α} {i : Nat} {x : α} (h : xs[i]? = some x) : atI xs (i : Int) = some x := by
  have hl := (List.getElem?_eq_some_iff.mp h).1
  unfold atI ixN
  rw [if_pos (by omega), if_pos (by omega)]
  show xs[((i : Nat) : Int).toNat]? = _
  rw [Int.toNat_natCast]
  exact h
theorem cnt_at {n : Nat} (h : n < 9) : atI [V.int 1, V.int 1, V.int 1, V.int 1, V.int 1, V.int 2, V.int 2, V.int 2, V.int 3] (n : Int) = some (.int ((flds n).length : Nat)) := by
  match n, h with
  | 0, _ => rfl
  | 1, _ => rfl
  | 2, _ => rfl
  | 3, _ => rfl
  | 4, _ => rfl
  | 5, _ => rfl
  | 6, _ => rfl
  | 7, _ => rfl
  | 8, _ => rfl
  | n + 9, h => exact absurd h (by omega)
theorem cut_take (xs : List V) (k : Nat) (h : k ≤ xs.length) : cutV xs none (some (k : Int)) = xs.take k := by
  unfold cutV
  rw [HT.sIx_nat, HT.sIx_none, List.drop_zero, Nat.sub_zero, Nat.min_eq_left h]
theorem flds_len {n : Nat} (h : n < 9) : (flds n).length ≤ 3 := by
  match n, h with
  | 0, _ => decide
  | 1, _ => decide
  | 2, _ => decide
  | 3, _ => decide
  | 4, _ => decide
  | 5, _ => decide
  | 6, _ => decide
  | 7, _ => decide
  | 8, _ => decide
  | n + 9, h => exact absurd h (by omega)
theorem dec_int (j n : Nat) : decide (V.int (0 + (j : Int)) = V.int (n : Int)) = decide (n = j) := by
  by_cases e : n = j
  · subst e; simp
  · rw [decide_eq_false e, decide_eq_false]
    intro z
    have := V.int.inj z
    omega
theorem kindsV_eq (n : Nat) : (List.range 9).map (fun m => V.bl (decide (n = m))) = kindsV n := rfl
end Kx
set_option Elab.async false
set_option linter.all false
set_option maxRecDepth 100000
set_option maxHeartbeats 0
namespace Kx
open PySem PySem.Spec PyProof.Rows L2 Wd
noncomputable def top (i : Nat) : Stmt := PySem.Challenge.pw_ringwords_k25_refusals_apart.main.body.getD i (.Pass ⟨0, 0, 0, 0⟩)
theorem len1 {α : Type} {us : List α} (h : us.length = 1) : ∃ a0, us = [a0] := by
  cases us with
  | nil => cases h
  | cons a0 us =>
    cases us with
    | nil => exact ⟨a0, rfl⟩
    | cons b us => cases h
theorem len2 {α : Type} {us : List α} (h : us.length = 2) : ∃ a0 a1, us = [a0, a1] := by
  cases us with
  | nil => cases h
  | cons a0 us =>
    cases us with
    | nil => cases h
    | cons a1 us =>
      cases us with
      | nil => exact ⟨a0, a1, rfl⟩
      | cons b us => cases h
end Kx
set_option Elab.async false
set_option linter.all false
set_option maxRecDepth 100000
set_option maxHeartbeats 0
namespace Kx
open PySem PySem.Spec PyProof.Rows L2 Wd
section
variable {P : Program} {w : World} {K : PySem.W.Frag} {mg : Str → Option Value} {base : Heap} {aB : Addr}
noncomputable abbrev s_draw : Stmt := top 13
theorem sc_draw : FnScope ["_law_feed_here", "_law_many", "_law_cell", "_law_mixed", "_law_found"] ["_law_feed_here", "_law_many"] (defScope s_draw) := ⟨rfl, rfl, rfl, by decide +kernel, rfl, by decide +kernel, by decide +kernel⟩
theorem c_draw (D : Df K mg "_law_draw" s_draw) (T : Bt0 mg) : Fnc P w K mg base "_law_draw" ["_law_feed_here", "_law_many"] 1 spDraw := by
  have sc := sc_draw
  refine D.ok sc (fun _ _ _ _ _ _ us hl => by obtain ⟨_, _, rfl⟩ := len2 hl; rfl) (fun vs H Q E h => ?_) (fun f cdv A outer s H vs Q E hr h => ?_)
  · obtain ⟨d, m, rfl, _⟩ := h
    rfl
  · obtain ⟨d, m, rfl, F, m0, m1, k⟩ := h
    have hu := hu_of hr
    refine ⟨_, (@pss_cons _ _ _ _ _ (@ps_dput _ _ _ _ _ _ _ _ _ hu (pv 0) pe_str (@pe_op _ _ _ _ _ _ _ _ op_add (@pe_dget _ _ _ _ _ _ hu (pv 0) pe_str (fun _ _ => rfl)) pe_int) rfl) (@pss_cons _ _ _ _ _ (@ps_if _ _ _ _ _ _ _ _ (@pt_cmpR _ _ _ _ _ _ _ _ op_eq (@pe_dget _ _ _ _ _ _ hu (pv 0) pe_str (fun _ _ => rfl)) pe_int (nomark _)) (@pss_cons _ _ _ _ _ (@ps_set _ _ (2) _ _ _ _ sc.nd rfl (Or.inl rfl) (@pe_ix _ _ _ _ _ _ _ ix_list (@pe_dget _ _ _ _ _ _ hu (pv 0) pe_str (fun _ _ => rfl)) (@pe_op _ _ _ _ _ _ _ _ op_mod (@pe_dget _ _ _ _ _ _ hu (pv 0) pe_str (fun _ _ => rfl)) (@pe_callB _ _ _ _ _ _ _ _ _ call_len_seq (by rfl) T.len PySem.boot_len (@pa_cons _ _ _ _ _ (@pe_dget _ _ _ _ _ _ hu (pv 0) pe_str (fun _ _ => rfl)) pa_nil (by rfl)) (by decide) (by decide) (by rfl) (by rfl))) (fun _ _ => rfl)) (by rfl) (by first | exact .inl rfl | exact .inr rfl | assumption)) (@pss_cons _ _ _ _ _ (@ps_dput _ _ _ _ _ _ _ _ _ hu (pv 0) pe_str (@pe_op _ _ _ _ _ _ _ _ op_add (@pe_dget _ _ _ _ _ _ hu (pv 0) pe_str (fun _ _ => rfl)) pe_int) rfl) (@pss_cons _ _ _ _ _ (@ps_if _ _ _ _ _ _ _ _ (@pt_cmpR _ _ _ _ _ _ _ _ op_lt (pv 2) (@pe_op _ _ _ _ _ _ _ _ op_pow pe_int pe_int) (nomark _)) (@pss_cons _ _ _ _ _ (@ps_set _ _ (3) _ _ _ _ sc.nd rfl (Or.inl rfl) (@pe_op _ _ _ _ _ _ _ _ op_mod (@pe_op _ _ _ _ _ _ _ _ op_mul (@pe_op _ _ _ _ _ _ _ _ op_add (@pe_op _ _ _ _ _ _ _ _ op_mod (pv 2) pe_int) (@pe_op _ _ _ _ _ _ _ _ op_mul pe_int (@pe_dget _ _ _ _ _ _ hu (pv 0) pe_str (fun _ _ => rfl)))) pe_int) pe_int) (by rfl) (by first | exact .inl rfl | exact .inr rfl | assumption)) (@pss_cons _ _ _ _ _ (@ps_set _ _ (3) _ _ _ _ sc.nd rfl (Or.inl rfl) (@pe_op _ _ _ _ _ _ _ _ op_mod (@pe_op _ _ _ _ _ _ _ _ op_mul (@pe_op _ _ _ _ _ _ _ _ op_add (@pe_op _ _ _ _ _ _ _ _ op_fdiv (pv 3) pe_int) (@pe_op _ _ _ _ _ _ _ _ op_mul pe_int (@pe_dget _ _ _ _ _ _ hu (pv 0) pe_str (fun _ _ => rfl)))) pe_int) pe_int) (by rfl) (by first | exact .inl rfl | exact .inr rfl | assumption)) (@pss_one _ _ _ (@ps_ret _ _ _ _ (@pe_op _ _ _ _ _ _ _ _ op_mod (@pe_op _ _ _ _ _ _ _ _ op_fdiv (pv 3) pe_int) (pv 1)))))) pss_nil) (@pss_one _ _ _ (@ps_dput _ _ _ _ _ _ _ _ _ hu (pv 0) pe_str (pv 2) rfl))))) pss_nil) (@pss_cons _ _ _ _ _ (@ps_set _ _ (4) _ _ _ _ sc.nd rfl (Or.inl rfl) (@pe_op _ _ _ _ _ _ _ _ op_mod (@pe_dget _ _ _ _ _ _ hu (pv 0) pe_str (fun _ _ => rfl)) (pv 1)) (by rfl) (by first | exact .inl rfl | exact .inr rfl | assumption)) (@pss_cons _ _ _ _ _ (@ps_dput _ _ _ _ _ _ _ _ _ hu (pv 0) pe_str (@pe_op _ _ _ _ _ _ _ _ op_fdiv (@pe_dget _ _ _ _ _ _ hu (pv 0) pe_str (fun _ _ => rfl)) (pv 1)) rfl) (@pss_one _ _ _ (@ps_ret _ _ _ _ (pv 4))))))), ?_⟩
    obtain ⟨c, i, l, t, ns, hd, hc, hne, h64⟩ := F.ex
    have dc : c ≠ d := ne_of hc hd (by intro z; cases z)
    have fin : ∀ (r i' l' t' : Int), 0 ≤ r → r < m → Q (.int r) (upd H d (.dK (fkv c i' l' t'))) := fun r i' l' t' h0 h1 =>
      k r _ h0 h1 ⟨c, i', l', t', ns, upd_same, by rw [upd_ne dc]; exact hc, hne, h64⟩ SameB.upd
    have c1 : ∀ o, (upd H d o) c = some (.lst (ns.map V.int)) := fun o => by rw [upd_ne dc]; exact hc
    have hl0 : (0 : Int) < ((ns.map V.int).length : Int) := by
      rw [List.length_map]
      have := List.length_pos_iff.mpr hne
      omega
    refine ⟨_, rfl, d, _, rfl, dg hd (g_turn c i l t), _, _, rfl, rfl, _, rfl, d, _, rfl, dp hd (fkv_len c i l t) (p_turn c i l t _), ?_⟩
    refine ⟨_, rfl, d, _, rfl, dg upd_same (g_left c i l _), rfl, _, rfl, ?_⟩
    refine ite2 (fun _ => ?_) (fun _ => ?_)
    rotate_left
    · refine ⟨_, rfl, d, _, rfl, dg upd_same (g_left c _ _ _), _, rfl, _, _, rfl, rfl, m0, ?_⟩
      refine ⟨_, rfl, d, _, rfl, dg upd_same (g_left c _ _ _), _, rfl, _, _, rfl, rfl, ⟨m0, by omega⟩, _, rfl, d, _, rfl, dp upd_same (fkv_len c _ _ _) (p_left c _ _ _ _), ?_⟩
      refine ⟨_, rfl, ?_⟩
      rw [upd_upd]
      exact fin _ _ _ _ (Int.emod_nonneg _ (by omega)) (Int.emod_lt_of_pos _ m0)
    obtain ⟨n, hn⟩ := cell_at hne i
    refine ⟨_, rfl, d, _, rfl, dg upd_same (g_cells c i l _), _, rfl, d, _, rfl, dg upd_same (g_at c i l _), _, rfl, d, _, rfl, dg upd_same (g_cells c i l _), c, _, rfl, .inl (SqL.of (c1 _)), _, _, rfl, rfl, hl0, c, _, _, _, rfl, rfl, SqL.of (c1 _), hn, ?_⟩
    refine ⟨_, rfl, d, _, rfl, dg upd_same (g_at c i l _), _, _, rfl, rfl, _, rfl, d, _, rfl, dp upd_same (fkv_len c i l _) (p_at c i l _ _), ?_⟩
    rw [upd_upd]
    refine ⟨_, rfl, _, _, rfl, rfl, ⟨by decide, by decide, by decide⟩, _, _, rfl, rfl, _, rfl, ?_⟩
    refine ite2 (fun _ => ?_) (fun _ => ?_)
    · refine ⟨_, rfl, _, _, rfl, rfl, (by show (0 : Int) < 2147483629; decide), _, rfl, d, _, rfl, dg upd_same (g_turn c _ l _), _, _, rfl, rfl, .inl ⟨by decide, by decide⟩, _, _, rfl, rfl, _, _, rfl, rfl, .inr ⟨by decide, by decide⟩, _, _, rfl, rfl, (by show (0 : Int) < 2147483647; decide), ?_⟩
      refine ⟨_, rfl, _, _, rfl, rfl, ⟨by decide, by decide⟩, _, rfl, d, _, rfl, dg upd_same (g_turn c _ l _), _, _, rfl, rfl, .inl ⟨by decide, by decide⟩, _, _, rfl, rfl, _, _, rfl, rfl, .inr ⟨by decide, by decide⟩, _, _, rfl, rfl, (by show (0 : Int) < 2147483587; decide), ?_⟩
      refine ⟨_, rfl, _, _, rfl, rfl, ⟨by decide, by decide⟩, _, rfl, _, _, rfl, rfl, m0, ?_⟩
      exact fin _ _ _ _ (Int.emod_nonneg _ (by omega)) (Int.emod_lt_of_pos _ m0)
    · refine ⟨_, rfl, _, rfl, d, _, rfl, dp upd_same (fkv_len c _ l _) (p_left c _ l _ _), ?_⟩
      rw [upd_upd]
      refine ⟨_, rfl, d, _, rfl, dg upd_same (g_left c _ _ _), _, rfl, _, _, rfl, rfl, m0, ?_⟩
      refine ⟨_, rfl, d, _, rfl, dg upd_same (g_left c _ _ _), _, rfl, _, _, rfl, rfl, ⟨m0, by omega⟩, _, rfl, d, _, rfl, dp upd_same (fkv_len c _ _ _) (p_left c _ _ _ _), ?_⟩
      refine ⟨_, rfl, ?_⟩
      rw [upd_upd]
      exact fin _ _ _ _ (Int.emod_nonneg _ (by omega)) (Int.emod_lt_of_pos _ m0)
end
section
variable {P : Program} {w : World} {K : PySem.W.Frag} {mg : Str → Option Value} {base : Heap} {aB : Addr}
noncomputable abbrev s_feed : Stmt := top 12
theorem sc_feed : FnScope ["_law_script"] ["_law_script"] (defScope s_feed) := ⟨rfl, rfl, rfl, by decide +kernel, rfl, by decide +kernel, by decide +kernel⟩
theorem c_feed (D : Df K mg "_law_feed" s_feed) (T : Bt0 mg) : Fnc P w K mg base "_law_feed" ["_law_script"] 1 (spFeed K) := by
  have sc := sc_feed
  refine D.ok sc (fun _ _ _ _ _ _ us hl => by obtain ⟨_, rfl⟩ := len1 hl; rfl) (fun vs H Q E h => ?_) (fun f cdv A outer s H vs Q E hr h => ?_)
  · obtain ⟨a, ns, rfl, _⟩ := h
    rfl
  · obtain ⟨a, ns, rfl, hS, hlen, k⟩ := h
    have hu := hu_of hr
    refine ⟨_, (@pss_one _ _ _ (@ps_ret _ _ _ _ (@pe_disp _ _ _ _ _ (@pps_cons _ _ _ _ _ _ _ _ _ pe_str (@pe_op _ _ _ _ _ _ _ _ op_cat (@pe_callTy _ _ _ _ _ _ _ _ _ call_list_of (by rfl) T.list b_list (@pa_cons _ _ _ _ _ (@pe_slice _ _ _ _ _ _ _ _ _ _ sl_list (pv 0) po_none (@po_some _ _ _ pe_int)) pa_nil (by rfl)) (by decide) (by decide) (by rfl) (by rfl)) (@pe_op _ _ _ _ _ _ _ _ op_rep (@pe_lst _ _ _ _ (@pa_cons _ _ _ _ _ pe_int pa_nil (by rfl))) (@pe_callTy _ _ _ _ _ _ _ _ _ call_int1 (by rfl) T.int b_int (@pa_cons _ _ _ _ _ (@pe_cmpR _ _ _ _ _ _ _ _ op_eq (@pe_callB _ _ _ _ _ _ _ _ _ call_len_seq (by rfl) T.len PySem.boot_len (@pa_cons _ _ _ _ _ (pv 0) pa_nil (by rfl)) (by decide) (by decide) (by rfl) (by rfl)) pe_int (nomark _)) pa_nil (by rfl)) (by decide) (by decide) (by rfl) (by rfl)))) (@pps_cons _ _ _ _ _ _ _ _ _ pe_str pe_int (@pps_cons _ _ _ _ _ _ _ _ _ pe_str pe_int (@pps_cons _ _ _ _ _ _ _ _ _ pe_str pe_int pps_nil)))) rfl rfl (by simp) (by decide)))), ?_⟩
    intro p hp
    have s1 : Same H (upd H p (.dK [])) := Same.new hp
    have p1 : (upd H p (.dK [])) p = some (.dK []) := upd_same
    generalize upd H p (.dK []) = H1 at s1 p1
    refine ⟨_, rfl, _, rfl, a, _, rfl, s1.seq hS, fun q1 hq1 => ?_⟩
    rw [cut63 hlen]
    have s2 : Same H1 (upd H1 q1 (.lst (ns.map V.int))) := Same.new hq1
    have l2 : (upd H1 q1 (.lst (ns.map V.int))) q1 = some (.lst (ns.map V.int)) := upd_same
    generalize upd H1 q1 (.lst (ns.map V.int)) = H2 at s2 l2 ⊢
    refine ⟨q1, _, rfl, .inl (SqL.of l2), fun q2 hq2 => ?_⟩
    have s3 : Same H2 (upd H2 q2 (.lst (ns.map V.int))) := Same.new hq2
    have l3 : (upd H2 q2 (.lst (ns.map V.int))) q2 = some (.lst (ns.map V.int)) := upd_same
    generalize upd H2 q2 (.lst (ns.map V.int)) = H3 at s3 l3 ⊢
    refine ⟨(by show 1 ≤ sizeLine; decide), fun q4 hq4 => ?_⟩
    have s4 : Same H3 (upd H3 q4 (.lst [V.int 0])) := Same.new hq4
    have l4 : (upd H3 q4 (.lst [V.int 0])) q4 = some (.lst [V.int 0]) := upd_same
    generalize upd H3 q4 (.lst [V.int 0]) = H4 at s4 l4 ⊢
    have s14 : Same H H4 := ((s1.trans s2).trans s3).trans s4
    refine ⟨_, rfl, a, _, rfl, .inl (s14.seq hS), rfl, .inr ⟨_, rfl, q4, _, _, rfl, rfl, l4, ?_, ?_, ?_, fun q5 hq5 => ?_⟩⟩
    · split <;> decide
    · split <;> decide
    · split <;> decide
    have s5 : Same H4 (upd H4 q5 (.lst (List.replicate ((if decide (V.int ((ns.map V.int).length : Int) = V.int 0) = true then 1 else 0 : Int)).toNat [V.int 0]).flatten)) := Same.new hq5
    have l5 : (upd H4 q5 (.lst (List.replicate ((if decide (V.int ((ns.map V.int).length : Int) = V.int 0) = true then 1 else 0 : Int)).toNat [V.int 0]).flatten)) q5 = _ := upd_same
    generalize upd H4 q5 (.lst (List.replicate ((if decide (V.int ((ns.map V.int).length : Int) = V.int 0) = true then 1 else 0 : Int)).toNat [V.int 0]).flatten) = H5 at s5 l5 ⊢
    refine ⟨q2, q5, _, _, rfl, rfl, s5 _ _ (s4 _ _ l3), l5, ?_, fun q6 hq6 => ?_⟩
    · have e : (List.replicate ((if decide (V.int ((ns.map V.int).length : Int) = V.int 0) = true then 1 else 0 : Int)).toNat [V.int 0]).flatten.length ≤ 1 := by split <;> decide
      have e2 : sizeLine = 16777216 := sizeLine_eq
      have e3 : (ns.map V.int).length = ns.length := List.length_map ..
      omega
    have el : ns.map V.int ++ (List.replicate ((if decide (V.int ((ns.map V.int).length : Int) = V.int 0) = true then 1 else 0 : Int)).toNat [V.int 0]).flatten = (if ns = [] then [0] else ns).map V.int := by
      cases ns with
      | nil => rfl
      | cons n r =>
        have en : ¬ (decide (V.int (((n :: r).map V.int).length : Int) = V.int 0) = true) := by
          rw [List.length_map, List.length_cons]
          simp only [V.int.injEq, decide_eq_true_eq]
          omega
        rw [if_neg en, if_neg (by simp)]
        simp
    rw [el]
    have s6 : Same H5 (upd H5 q6 (.lst ((if ns = [] then [0] else ns).map V.int))) := Same.new hq6
    have l6 : (upd H5 q6 (.lst ((if ns = [] then [0] else ns).map V.int))) q6 = _ := upd_same
    generalize upd H5 q6 (.lst ((if ns = [] then [0] else ns).map V.int)) = H6 at s6 l6 ⊢
    have p6 : H6 p = some (.dK []) := s6 _ _ (s5 _ _ (s4 _ _ (s3 _ _ (s2 _ _ p1))))
    have pq : q6 ≠ p := ne_of l6 p6 (by intro z; cases z)
    refine ⟨p6, fkv q6 0 0 0, rfl, (by show 4 ≤ 15; decide), ?_⟩
    rw [m_fkv]
    refine k p _ hp ⟨q6, 0, 0, 0, (if ns = [] then [0] else ns), upd_same, by rw [upd_ne pq]; exact l6, ?_, ?_⟩ fun b o e => ?_
    · split
      · simp
      · assumption
    · split
      · decide
      · omega
    · rw [upd_ne (ne_of_none e hp)]
      exact s6 _ _ (s5 _ _ (s14 _ _ e))
end
end Kx
set_option Elab.async false
set_option linter.all false
set_option maxRecDepth 100000
set_option maxHeartbeats 0
namespace Kx
open PySem PySem.Spec PyProof.Rows L2 Wd
section
variable {P : Program} {w : World} {K : PySem.W.Frag} {mg : Str → Option Value} {base : Heap} {aB : Addr}
noncomputable abbrev s_raise1 : Stmt := top 14
theorem sc_raise1 : FnScope ["_law_number", "_law_some"] ["_law_number", "_law_some"] (defScope s_raise1) := ⟨rfl, rfl, rfl, by decide +kernel, rfl, by decide +kernel, by decide +kernel⟩
theorem c_raise1 {c : Nat → Addr} (D : Df K mg "_law_raise_one" s_raise1) (M0 : XMk P w K mg base "NoStep" (c 0) ["place"] 1) (M1 : XMk P w K mg base "NoSlide" (c 1) ["place"] 1) (M2 : XMk P w K mg base "NoBand" (c 2) ["letter"] 1) (M3 : XMk P w K mg base "NoRow" (c 3) ["row"] 1) (M4 : XMk P w K mg base "NoWay" (c 4) ["name"] 1) : FncX P w K mg base "_law_raise_one" ["_law_number", "_law_some"] 3 (spRaise c 4) := by
  have sc := sc_raise1
  refine D.okX sc (fun _ _ _ _ _ _ us hl => by obtain ⟨_, _, rfl⟩ := len2 hl; rfl) (fun vs H Q E h => ?_) (fun f cdv A outer s H vs Q E hr h => ?_)
  · obtain ⟨n, l, x, y, z, rfl, _⟩ := h
    rfl
  · obtain ⟨n, l, x, y, z, rfl, hn, hl, k⟩ := h
    refine ⟨_, (@pss_cons _ _ _ _ _ (@ps_if _ _ _ _ _ _ _ _ (@pt_cmpR _ _ _ _ _ _ _ _ op_eq (pv 0) pe_int (nomark _)) (@pss_one _ _ _ (@ps_raiseX _ _ _ _ _ raises_def rfl (@pe_mk _ _ _ _ _ _ _ _ _ _ _ M0 hr (by decide) rfl (@pa_cons _ _ _ _ _ (@pe_ix _ _ _ _ _ _ _ ix_list (pv 1) pe_int (fun _ _ => rfl)) pa_nil (by rfl)) (by decide) (by rfl) (by rfl)))) pss_nil) (@pss_cons _ _ _ _ _ (@ps_if _ _ _ _ _ _ _ _ (@pt_cmpR _ _ _ _ _ _ _ _ op_eq (pv 0) pe_int (nomark _)) (@pss_one _ _ _ (@ps_raiseX _ _ _ _ _ raises_def rfl (@pe_mk _ _ _ _ _ _ _ _ _ _ _ M1 hr (by decide) rfl (@pa_cons _ _ _ _ _ (@pe_ix _ _ _ _ _ _ _ ix_list (pv 1) pe_int (fun _ _ => rfl)) pa_nil (by rfl)) (by decide) (by rfl) (by rfl)))) pss_nil) (@pss_cons _ _ _ _ _ (@ps_if _ _ _ _ _ _ _ _ (@pt_cmpR _ _ _ _ _ _ _ _ op_eq (pv 0) pe_int (nomark _)) (@pss_one _ _ _ (@ps_raiseX _ _ _ _ _ raises_def rfl (@pe_mk _ _ _ _ _ _ _ _ _ _ _ M2 hr (by decide) rfl (@pa_cons _ _ _ _ _ (@pe_ix _ _ _ _ _ _ _ ix_list (pv 1) pe_int (fun _ _ => rfl)) pa_nil (by rfl)) (by decide) (by rfl) (by rfl)))) pss_nil) (@pss_cons _ _ _ _ _ (@ps_if _ _ _ _ _ _ _ _ (@pt_cmpR _ _ _ _ _ _ _ _ op_eq (pv 0) pe_int (nomark _)) (@pss_one _ _ _ (@ps_raiseX _ _ _ _ _ raises_def rfl (@pe_mk _ _ _ _ _ _ _ _ _ _ _ M3 hr (by decide) rfl (@pa_cons _ _ _ _ _ (@pe_ix _ _ _ _ _ _ _ ix_list (pv 1) pe_int (fun _ _ => rfl)) pa_nil (by rfl)) (by decide) (by rfl) (by rfl)))) pss_nil) (@pss_one _ _ _ (@ps_raiseX _ _ _ _ _ raises_def rfl (@pe_mk _ _ _ _ _ _ _ _ _ _ _ M4 hr (by decide) rfl (@pa_cons _ _ _ _ _ (@pe_ix _ _ _ _ _ _ _ ix_list (pv 1) pe_int (fun _ _ => rfl)) pa_nil (by rfl)) (by decide) (by rfl) (by rfl)))))))), ?_⟩
    have hat : atI [x, y, z] 0 = some x := rfl
    match n, hn with
    | 0, _ =>
      exact ⟨_, rfl, rfl, _, rfl, iteC (by decide) ⟨_, rfl, l, _, _, _, rfl, rfl, SqL.of hl, hat, rfl, by decide, fun a dx ha hd ne => ⟨a, c 0, some dx, rfl, by rw [upd_ne ne.symm, upd_same], M0.ca.1, k a _ (new_exc (n := 0) (xs := [x, y, z]) (by decide) ha hd ne) (new_same ha hd)⟩⟩⟩
    | 1, _ =>
      exact ⟨_, rfl, rfl, _, rfl, iteD (by decide) ⟨_, rfl, rfl, _, rfl, iteC (by decide) ⟨_, rfl, l, _, _, _, rfl, rfl, SqL.of hl, hat, rfl, by decide, fun a dx ha hd ne => ⟨a, c 1, some dx, rfl, by rw [upd_ne ne.symm, upd_same], M1.ca.1, k a _ (new_exc (n := 1) (xs := [x, y, z]) (by decide) ha hd ne) (new_same ha hd)⟩⟩⟩⟩
    | 2, _ =>
      exact ⟨_, rfl, rfl, _, rfl, iteD (by decide) ⟨_, rfl, rfl, _, rfl, iteD (by decide) ⟨_, rfl, rfl, _, rfl, iteC (by decide) ⟨_, rfl, l, _, _, _, rfl, rfl, SqL.of hl, hat, rfl, by decide, fun a dx ha hd ne => ⟨a, c 2, some dx, rfl, by rw [upd_ne ne.symm, upd_same], M2.ca.1, k a _ (new_exc (n := 2) (xs := [x, y, z]) (by decide) ha hd ne) (new_same ha hd)⟩⟩⟩⟩⟩
    | 3, _ =>
      exact ⟨_, rfl, rfl, _, rfl, iteD (by decide) ⟨_, rfl, rfl, _, rfl, iteD (by decide) ⟨_, rfl, rfl, _, rfl, iteD (by decide) ⟨_, rfl, rfl, _, rfl, iteC (by decide) ⟨_, rfl, l, _, _, _, rfl, rfl, SqL.of hl, hat, rfl, by decide, fun a dx ha hd ne => ⟨a, c 3, some dx, rfl, by rw [upd_ne ne.symm, upd_same], M3.ca.1, k a _ (new_exc (n := 3) (xs := [x, y, z]) (by decide) ha hd ne) (new_same ha hd)⟩⟩⟩⟩⟩⟩
    | 4, _ =>
      exact ⟨_, rfl, rfl, _, rfl, iteD (by decide) ⟨_, rfl, rfl, _, rfl, iteD (by decide) ⟨_, rfl, rfl, _, rfl, iteD (by decide) ⟨_, rfl, rfl, _, rfl, iteD (by decide) ⟨_, rfl, l, _, _, _, rfl, rfl, SqL.of hl, hat, rfl, by decide, fun a dx ha hd ne => ⟨a, c 4, some dx, rfl, by rw [upd_ne ne.symm, upd_same], M4.ca.1, k a _ (new_exc (n := 4) (xs := [x, y, z]) (by decide) ha hd ne) (new_same ha hd)⟩⟩⟩⟩⟩⟩
    | n + 5, h => exact absurd h (by omega)
end
end Kx
set_option Elab.async false
set_option linter.all false
set_option maxRecDepth 100000
set_option maxHeartbeats 0
namespace Kx
open PySem PySem.Spec PyProof.Rows L2 Wd
section
variable {P : Program} {w : World} {K : PySem.W.Frag} {mg : Str → Option Value} {base : Heap} {aB : Addr}
noncomputable abbrev s_raise : Stmt := top 15
theorem sc_raise : FnScope ["_law_number", "_law_some"] ["_law_number", "_law_some"] (defScope s_raise) := ⟨rfl, rfl, rfl, by decide +kernel, rfl, by decide +kernel, by decide +kernel⟩
theorem c_raise {c : Nat → Addr} (D : Df K mg "_law_raise" s_raise) (F_raise1 : FncX P w K mg base "_law_raise_one" ["_law_number", "_law_some"] 3 (spRaise c 4)) (M5 : XMk P w K mg base "NoText" (c 5) ["step", "word"] 1) (M6 : XMk P w K mg base "NoPaper" (c 6) ["word", "at"] 1) (M7 : XMk P w K mg base "NoSurface" (c 7) ["letters", "holes"] 1) (M8 : XMk P w K mg base "NoThin" (c 8) ["turn", "other", "piece"] 1) (MR : XMk0 K mg "RingError" (c 9)) : FncX P w K mg base "_law_raise" ["_law_number", "_law_some"] 4 (spRaise c 9) := by
  have sc := sc_raise
  refine D.okX sc (fun _ _ _ _ _ _ us hl => by obtain ⟨_, _, rfl⟩ := len2 hl; rfl) (fun vs H Q E h => ?_) (fun f cdv A outer s H vs Q E hr h => ?_)
  · obtain ⟨n, l, x, y, z, rfl, _⟩ := h
    rfl
  · obtain ⟨n, l, x, y, z, rfl, hn, hl, k⟩ := h
    refine ⟨_, (@pss_cons _ _ _ _ _ (@ps_if _ _ _ _ _ _ _ _ (@pt_cmpR _ _ _ _ _ _ _ _ op_lt (pv 0) pe_int (nomark _)) (@pss_one _ _ _ (@ps_expr _ _ _ _ (@pe_fnX _ _ _ _ _ _ _ _ _ _ _ _ F_raise1 hr (by decide) passes_def rfl (@pa_cons _ _ _ _ _ (pv 0) (@pa_cons _ _ _ _ _ (pv 1) pa_nil (by rfl)) (by rfl)) (by decide) (by rfl) (by rfl)) (by rfl))) pss_nil) (@pss_cons _ _ _ _ _ (@ps_if _ _ _ _ _ _ _ _ (@pt_cmpR _ _ _ _ _ _ _ _ op_eq (pv 0) pe_int (nomark _)) (@pss_one _ _ _ (@ps_raiseX _ _ _ _ _ raises_def rfl (@pe_mk _ _ _ _ _ _ _ _ _ _ _ M5 hr (by decide) rfl (@pa_cons _ _ _ _ _ (@pe_ix _ _ _ _ _ _ _ ix_list (pv 1) pe_int (fun _ _ => rfl)) (@pa_cons _ _ _ _ _ (@pe_ix _ _ _ _ _ _ _ ix_list (pv 1) pe_int (fun _ _ => rfl)) pa_nil (by rfl)) (by rfl)) (by decide) (by rfl) (by rfl)))) pss_nil) (@pss_cons _ _ _ _ _ (@ps_if _ _ _ _ _ _ _ _ (@pt_cmpR _ _ _ _ _ _ _ _ op_eq (pv 0) pe_int (nomark _)) (@pss_one _ _ _ (@ps_raiseX _ _ _ _ _ raises_def rfl (@pe_mk _ _ _ _ _ _ _ _ _ _ _ M6 hr (by decide) rfl (@pa_cons _ _ _ _ _ (@pe_ix _ _ _ _ _ _ _ ix_list (pv 1) pe_int (fun _ _ => rfl)) (@pa_cons _ _ _ _ _ (@pe_ix _ _ _ _ _ _ _ ix_list (pv 1) pe_int (fun _ _ => rfl)) pa_nil (by rfl)) (by rfl)) (by decide) (by rfl) (by rfl)))) pss_nil) (@pss_cons _ _ _ _ _ (@ps_if _ _ _ _ _ _ _ _ (@pt_cmpR _ _ _ _ _ _ _ _ op_eq (pv 0) pe_int (nomark _)) (@pss_one _ _ _ (@ps_raiseX _ _ _ _ _ raises_def rfl (@pe_mk _ _ _ _ _ _ _ _ _ _ _ M7 hr (by decide) rfl (@pa_cons _ _ _ _ _ (@pe_ix _ _ _ _ _ _ _ ix_list (pv 1) pe_int (fun _ _ => rfl)) (@pa_cons _ _ _ _ _ (@pe_ix _ _ _ _ _ _ _ ix_list (pv 1) pe_int (fun _ _ => rfl)) pa_nil (by rfl)) (by rfl)) (by decide) (by rfl) (by rfl)))) pss_nil) (@pss_cons _ _ _ _ _ (@ps_if _ _ _ _ _ _ _ _ (@pt_cmpR _ _ _ _ _ _ _ _ op_eq (pv 0) pe_int (nomark _)) (@pss_one _ _ _ (@ps_raiseX _ _ _ _ _ raises_def rfl (@pe_mk _ _ _ _ _ _ _ _ _ _ _ M8 hr (by decide) rfl (@pa_cons _ _ _ _ _ (@pe_ix _ _ _ _ _ _ _ ix_list (pv 1) pe_int (fun _ _ => rfl)) (@pa_cons _ _ _ _ _ (@pe_ix _ _ _ _ _ _ _ ix_list (pv 1) pe_int (fun _ _ => rfl)) (@pa_cons _ _ _ _ _ (@pe_ix _ _ _ _ _ _ _ ix_list (pv 1) pe_int (fun _ _ => rfl)) pa_nil (by rfl)) (by rfl)) (by rfl)) (by decide) (by rfl) (by rfl)))) pss_nil) (@pss_one _ _ _ (@ps_raiseX _ _ _ _ _ raises_def rfl (@pe_mk0 _ _ _ _ _ _ _ _ MR rfl (@pa_cons _ _ _ _ _ pe_str pa_nil (by rfl)) (by decide) (by rfl) (by rfl))))))))), ?_⟩
    have h0 : atI [x, y, z] 0 = some x := rfl
    have h1 : atI [x, y, z] 1 = some y := rfl
    have h2 : atI [x, y, z] 2 = some z := rfl
    by_cases h5 : n < 5
    · refine ⟨_, rfl, _, _, rfl, rfl, _, rfl, iteC (decide_eq_true (by omega)) ?_⟩
      exact ⟨_, rfl, _, rfl, n, l, x, y, z, rfl, by omega, hl, k⟩
    · refine ⟨_, rfl, _, _, rfl, rfl, _, rfl, iteD (decide_eq_false (by omega)) ?_⟩
      match n, hn, h5 with
      | 5, _, _ =>
        exact ⟨_, rfl, rfl, _, rfl, iteC (by decide) ⟨_, rfl, l, _, _, _, rfl, rfl, SqL.of hl, h0, _, rfl, l, _, _, _, rfl, rfl, SqL.of hl, h1, rfl, by decide, fun a dx ha hd ne => ⟨a, c 5, some dx, rfl, by rw [upd_ne ne.symm, upd_same], M5.ca.1, k a _ (new_exc (n := 5) (xs := [x, y, z]) (by decide) ha hd ne) (new_same ha hd)⟩⟩⟩
      | 6, _, _ =>
        exact ⟨_, rfl, rfl, _, rfl, iteD (by decide) ⟨_, rfl, rfl, _, rfl, iteC (by decide) ⟨_, rfl, l, _, _, _, rfl, rfl, SqL.of hl, h0, _, rfl, l, _, _, _, rfl, rfl, SqL.of hl, h1, rfl, by decide, fun a dx ha hd ne => ⟨a, c 6, some dx, rfl, by rw [upd_ne ne.symm, upd_same], M6.ca.1, k a _ (new_exc (n := 6) (xs := [x, y, z]) (by decide) ha hd ne) (new_same ha hd)⟩⟩⟩⟩
      | 7, _, _ =>
        exact ⟨_, rfl, rfl, _, rfl, iteD (by decide) ⟨_, rfl, rfl, _, rfl, iteD (by decide) ⟨_, rfl, rfl, _, rfl, iteC (by decide) ⟨_, rfl, l, _, _, _, rfl, rfl, SqL.of hl, h0, _, rfl, l, _, _, _, rfl, rfl, SqL.of hl, h1, rfl, by decide, fun a dx ha hd ne => ⟨a, c 7, some dx, rfl, by rw [upd_ne ne.symm, upd_same], M7.ca.1, k a _ (new_exc (n := 7) (xs := [x, y, z]) (by decide) ha hd ne) (new_same ha hd)⟩⟩⟩⟩⟩
      | 8, _, _ =>
        exact ⟨_, rfl, rfl, _, rfl, iteD (by decide) ⟨_, rfl, rfl, _, rfl, iteD (by decide) ⟨_, rfl, rfl, _, rfl, iteD (by decide) ⟨_, rfl, rfl, _, rfl, iteC (by decide) ⟨_, rfl, l, _, _, _, rfl, rfl, SqL.of hl, h0, _, rfl, l, _, _, _, rfl, rfl, SqL.of hl, h1, _, rfl, l, _, _, _, rfl, rfl, SqL.of hl, h2, rfl, by decide, fun a dx ha hd ne => ⟨a, c 8, some dx, rfl, by rw [upd_ne ne.symm, upd_same], M8.ca.1, k a _ (new_exc (n := 8) (xs := [x, y, z]) (by decide) ha hd ne) (new_same ha hd)⟩⟩⟩⟩⟩⟩
      | 9, _, _ =>
        exact ⟨_, rfl, rfl, _, rfl, iteD (by decide) ⟨_, rfl, rfl, _, rfl, iteD (by decide) ⟨_, rfl, rfl, _, rfl, iteD (by decide) ⟨_, rfl, rfl, _, rfl, iteD (by decide) ⟨by decide, fun a ha => ⟨a, c 9, none, rfl, upd_same, MR.ca.1, k a _ (.inl ⟨rfl, upd_same⟩) (by rw [upd_upd]; exact Same.new ha)⟩⟩⟩⟩⟩⟩
      | n + 10, h, _ => exact absurd h (by omega)
end
end Kx
set_option Elab.async false
set_option linter.all false
set_option maxRecDepth 100000
set_option maxHeartbeats 0
namespace Kx
open PySem PySem.Spec PyProof.Rows L2 Wd
section
variable {P : Program} {w : World} {K : PySem.W.Frag} {mg : Str → Option Value} {base : Heap} {aB : Addr}
noncomputable abbrev s_kinds : Stmt := top 17
theorem sc_kinds : FnScope ["_law_e", "_law_found"] ["_law_e"] (defScope s_kinds) := ⟨rfl, rfl, rfl, by decide +kernel, rfl, by decide +kernel, by decide +kernel⟩
theorem c_kinds {c : Nat → Addr} (D : Df K mg "_law_kinds" s_kinds) (T : Bt0 mg) (C : KC K mg c) : FncH P w K mg base "_law_kinds" ["_law_e"] 1 (spKinds c) := by
  have sc := sc_kinds
  have cNoStep := C.n0
  have cNoSlide := C.n1
  have cNoBand := C.n2
  have cNoRow := C.n3
  have cNoWay := C.n4
  have cNoText := C.n5
  have cNoPaper := C.n6
  have cNoSurface := C.n7
  have cNoThin := C.n8
  refine D.okH sc (fun _ _ _ _ _ _ us hl => by obtain ⟨_, rfl⟩ := len1 hl; rfl) (fun vs H Q E h => ?_) (fun f cdv A outer s H vs Q hr h => ?_)
  · obtain ⟨n, a, rfl, _⟩ := h
    rfl
  · obtain ⟨n, a, rfl, hn, xi, k⟩ := h
    refine ⟨_, (@pss_cons _ _ _ _ _ (@ps_set _ _ (1) _ _ _ _ sc.nd rfl (Or.inl rfl) (@pe_lst _ _ _ _ (@pa_cons _ _ _ _ _ (@pe_callB _ _ _ _ _ _ _ _ _ (@call_isyK _ (K) rfl) (by rfl) T.isinstance b_isinstance (@pa_cons _ _ _ _ _ (pv 0) (@pa_cons _ _ _ _ _ (@pe_glob _ _ (.ref _) _ _ rfl cNoStep rfl (by decide)) pa_nil (by rfl)) (by rfl)) (by decide) (by decide) (by rfl) (by rfl)) (@pa_cons _ _ _ _ _ (@pe_callB _ _ _ _ _ _ _ _ _ (@call_isyK _ (K) rfl) (by rfl) T.isinstance b_isinstance (@pa_cons _ _ _ _ _ (pv 0) (@pa_cons _ _ _ _ _ (@pe_glob _ _ (.ref _) _ _ rfl cNoSlide rfl (by decide)) pa_nil (by rfl)) (by rfl)) (by decide) (by decide) (by rfl) (by rfl)) (@pa_cons _ _ _ _ _ (@pe_callB _ _ _ _ _ _ _ _ _ (@call_isyK _ (K) rfl) (by rfl) T.isinstance b_isinstance (@pa_cons _ _ _ _ _ (pv 0) (@pa_cons _ _ _ _ _ (@pe_glob _ _ (.ref _) _ _ rfl cNoBand rfl (by decide)) pa_nil (by rfl)) (by rfl)) (by decide) (by decide) (by rfl) (by rfl)) (@pa_cons _ _ _ _ _ (@pe_callB _ _ _ _ _ _ _ _ _ (@call_isyK _ (K) rfl) (by rfl) T.isinstance b_isinstance (@pa_cons _ _ _ _ _ (pv 0) (@pa_cons _ _ _ _ _ (@pe_glob _ _ (.ref _) _ _ rfl cNoRow rfl (by decide)) pa_nil (by rfl)) (by rfl)) (by decide) (by decide) (by rfl) (by rfl)) pa_nil (by rfl)) (by rfl)) (by rfl)) (by rfl))) (by rfl) (by first | exact .inl rfl | exact .inr rfl | assumption)) (@pss_cons _ _ _ _ _ (@ps_set _ _ (1) _ _ _ _ sc.nd rfl (Or.inl rfl) (@pe_op _ _ _ _ _ _ _ _ op_cat (pv 1) (@pe_lst _ _ _ _ (@pa_cons _ _ _ _ _ (@pe_callB _ _ _ _ _ _ _ _ _ (@call_isyK _ (K) rfl) (by rfl) T.isinstance b_isinstance (@pa_cons _ _ _ _ _ (pv 0) (@pa_cons _ _ _ _ _ (@pe_glob _ _ (.ref _) _ _ rfl cNoWay rfl (by decide)) pa_nil (by rfl)) (by rfl)) (by decide) (by decide) (by rfl) (by rfl)) (@pa_cons _ _ _ _ _ (@pe_callB _ _ _ _ _ _ _ _ _ (@call_isyK _ (K) rfl) (by rfl) T.isinstance b_isinstance (@pa_cons _ _ _ _ _ (pv 0) (@pa_cons _ _ _ _ _ (@pe_glob _ _ (.ref _) _ _ rfl cNoText rfl (by decide)) pa_nil (by rfl)) (by rfl)) (by decide) (by decide) (by rfl) (by rfl)) (@pa_cons _ _ _ _ _ (@pe_callB _ _ _ _ _ _ _ _ _ (@call_isyK _ (K) rfl) (by rfl) T.isinstance b_isinstance (@pa_cons _ _ _ _ _ (pv 0) (@pa_cons _ _ _ _ _ (@pe_glob _ _ (.ref _) _ _ rfl cNoPaper rfl (by decide)) pa_nil (by rfl)) (by rfl)) (by decide) (by decide) (by rfl) (by rfl)) (@pa_cons _ _ _ _ _ (@pe_callB _ _ _ _ _ _ _ _ _ (@call_isyK _ (K) rfl) (by rfl) T.isinstance b_isinstance (@pa_cons _ _ _ _ _ (pv 0) (@pa_cons _ _ _ _ _ (@pe_glob _ _ (.ref _) _ _ rfl cNoSurface rfl (by decide)) pa_nil (by rfl)) (by rfl)) (by decide) (by decide) (by rfl) (by rfl)) pa_nil (by rfl)) (by rfl)) (by rfl)) (by rfl)))) (by rfl) (by first | exact .inl rfl | exact .inr rfl | assumption)) (@pss_one _ _ _ (@ps_ret _ _ _ _ (@pe_op _ _ _ _ _ _ _ _ op_cat (pv 1) (@pe_lst _ _ _ _ (@pa_cons _ _ _ _ _ (@pe_callB _ _ _ _ _ _ _ _ _ (@call_isyK _ (K) rfl) (by rfl) T.isinstance b_isinstance (@pa_cons _ _ _ _ _ (pv 0) (@pa_cons _ _ _ _ _ (@pe_glob _ _ (.ref _) _ _ rfl cNoThin rfl (by decide)) pa_nil (by rfl)) (by rfl)) (by decide) (by decide) (by rfl) (by rfl)) pa_nil (by rfl)))))))), ?_⟩
    have ca := C.ca n hn
    have kt := fun m (hm : m ≤ 8) => C.kit n m hn hm
    refine ⟨_, rfl, a, _, _, _, _, rfl, xi, ca, (fun u r => r), kt 0 (by decide), _, rfl, a, _, _, _, _, rfl, xi, ca, (fun u r => r), kt 1 (by decide), _, rfl, a, _, _, _, _, rfl, xi, ca, (fun u r => r), kt 2 (by decide), _, rfl, a, _, _, _, _, rfl, xi, ca, (fun u r => r), kt 3 (by decide), (by show 4 ≤ sizeLine; decide), fun p hp => ?_⟩
    have sp : Same H (upd H p (.lst [.bl (decide (n = 0)), .bl (decide (n = 1)), .bl (decide (n = 2)), .bl (decide (n = 3))])) := Same.new hp
    have fp : (upd H p (.lst [.bl (decide (n = 0)), .bl (decide (n = 1)), .bl (decide (n = 2)), .bl (decide (n = 3))])) p = some (.lst [.bl (decide (n = 0)), .bl (decide (n = 1)), .bl (decide (n = 2)), .bl (decide (n = 3))]) := upd_same
    generalize upd H p (.lst [.bl (decide (n = 0)), .bl (decide (n = 1)), .bl (decide (n = 2)), .bl (decide (n = 3))]) = H1 at sp fp ⊢
    have xi1 := xi.same sp
    refine ⟨_, rfl, _, rfl, a, _, _, _, _, rfl, xi1, ca, (fun u r => r), kt 4 (by decide), _, rfl, a, _, _, _, _, rfl, xi1, ca, (fun u r => r), kt 5 (by decide), _, rfl, a, _, _, _, _, rfl, xi1, ca, (fun u r => r), kt 6 (by decide), _, rfl, a, _, _, _, _, rfl, xi1, ca, (fun u r => r), kt 7 (by decide), (by show 4 ≤ sizeLine; decide), fun q hq => ?_⟩
    refine ⟨p, q, _, _, rfl, rfl, Same.new hq _ _ fp, upd_same, (by show 8 ≤ sizeLine; decide), fun r hr' => ?_⟩
    have s2 := (sp.trans (Same.new hq)).then (o := .lst ([.bl (decide (n = 0)), .bl (decide (n = 1)), .bl (decide (n = 2)), .bl (decide (n = 3))] ++ [.bl (decide (n = 4)), .bl (decide (n = 5)), .bl (decide (n = 6)), .bl (decide (n = 7))])) hr'
    have f2 : ∀ (H : Hp) (o : HO), (upd H r o) r = some o := fun _ _ => upd_same
    have f2 := f2 (upd H1 q (.lst [.bl (decide (n = 4)), .bl (decide (n = 5)), .bl (decide (n = 6)), .bl (decide (n = 7))])) (.lst ([.bl (decide (n = 0)), .bl (decide (n = 1)), .bl (decide (n = 2)), .bl (decide (n = 3))] ++ [.bl (decide (n = 4)), .bl (decide (n = 5)), .bl (decide (n = 6)), .bl (decide (n = 7))]))
    generalize upd (upd H1 q (.lst [.bl (decide (n = 4)), .bl (decide (n = 5)), .bl (decide (n = 6)), .bl (decide (n = 7))])) r _ = H2 at s2 f2 ⊢
    refine ⟨_, rfl, _, rfl, a, _, _, _, _, rfl, xi.same s2, ca, (fun u r => r), kt 8 (by decide), (by show 1 ≤ sizeLine; decide), fun q2 hq2 => ?_⟩
    refine ⟨r, q2, _, _, rfl, rfl, Same.new hq2 _ _ f2, upd_same, (by show 9 ≤ sizeLine; decide), fun r3 hr3 => ?_⟩
    exact k r3 _ upd_same ((s2.trans (Same.new hq2)).then hr3)
end
end Kx
set_option Elab.async false
set_option linter.all false
set_option maxRecDepth 100000
set_option maxHeartbeats 0
namespace Kx
open PySem PySem.Spec PyProof.Rows L2 Wd
section
variable {P : Program} {w : World} {K : PySem.W.Frag} {mg : Str → Option Value} {base : Heap} {aB : Addr}
noncomputable abbrev s_fields : Stmt := top 16
theorem sc_fields : FnScope ["_law_e", "_law_number"] ["_law_e", "_law_number"] (defScope s_fields) := ⟨rfl, rfl, rfl, by decide +kernel, rfl, by decide +kernel, by decide +kernel⟩
theorem c_fields {c : Nat → Addr} (D : Df K mg "_law_fields" s_fields) (T : Bt0 mg) (C : KC K mg c) : FncH P w K mg base "_law_fields" ["_law_e", "_law_number"] 1 (spFields c) := by
  have sc := sc_fields
  refine D.okH sc (fun _ _ _ _ _ _ us hl => by obtain ⟨_, _, rfl⟩ := len2 hl; rfl) (fun vs H Q E h => ?_) (fun f cdv A outer s H vs Q hr h => ?_)
  · obtain ⟨n, a, x, y, z, rfl, _⟩ := h
    rfl
  · obtain ⟨n, a, x, y, z, rfl, hn, rx, k⟩ := h
    obtain ⟨dx, ea, ed⟩ : ∃ dx, H a = some (Exo a (c n) (some dx) false) ∧ H dx = some (Xdt dx (fillF [] ((flds n).zip [x, y, z]))) := by
      rcases rx with ⟨rfl, _⟩ | ⟨_, h⟩
      · exact absurd hn (by decide)
      · exact h
    refine ⟨_, (@pss_cons _ _ _ _ _ (@ps_if _ _ _ _ _ _ _ _ (@pt_cmpR _ _ _ _ _ _ _ _ op_lt (pv 1) pe_int (nomark _)) (@pss_one _ _ _ (@ps_ret _ _ _ _ (@pe_lst _ _ _ _ (@pa_cons _ _ _ _ _ (@pe_fxK _ (K) _ _ _ _ rfl (pv 0) rfl) pa_nil (by rfl))))) pss_nil) (@pss_cons _ _ _ _ _ (@ps_if _ _ _ _ _ _ _ _ (@pt_cmpR _ _ _ _ _ _ _ _ op_eq (pv 1) pe_int (nomark _)) (@pss_one _ _ _ (@ps_ret _ _ _ _ (@pe_lst _ _ _ _ (@pa_cons _ _ _ _ _ (@pe_fxK _ (K) _ _ _ _ rfl (pv 0) rfl) pa_nil (by rfl))))) pss_nil) (@pss_cons _ _ _ _ _ (@ps_if _ _ _ _ _ _ _ _ (@pt_cmpR _ _ _ _ _ _ _ _ op_eq (pv 1) pe_int (nomark _)) (@pss_one _ _ _ (@ps_ret _ _ _ _ (@pe_lst _ _ _ _ (@pa_cons _ _ _ _ _ (@pe_fxK _ (K) _ _ _ _ rfl (pv 0) rfl) pa_nil (by rfl))))) pss_nil) (@pss_cons _ _ _ _ _ (@ps_if _ _ _ _ _ _ _ _ (@pt_cmpR _ _ _ _ _ _ _ _ op_eq (pv 1) pe_int (nomark _)) (@pss_one _ _ _ (@ps_ret _ _ _ _ (@pe_lst _ _ _ _ (@pa_cons _ _ _ _ _ (@pe_fxK _ (K) _ _ _ _ rfl (pv 0) rfl) pa_nil (by rfl))))) pss_nil) (@pss_cons _ _ _ _ _ (@ps_if _ _ _ _ _ _ _ _ (@pt_cmpR _ _ _ _ _ _ _ _ op_eq (pv 1) pe_int (nomark _)) (@pss_one _ _ _ (@ps_ret _ _ _ _ (@pe_lst _ _ _ _ (@pa_cons _ _ _ _ _ (@pe_fxK _ (K) _ _ _ _ rfl (pv 0) rfl) (@pa_cons _ _ _ _ _ (@pe_fxK _ (K) _ _ _ _ rfl (pv 0) rfl) pa_nil (by rfl)) (by rfl))))) pss_nil) (@pss_cons _ _ _ _ _ (@ps_if _ _ _ _ _ _ _ _ (@pt_cmpR _ _ _ _ _ _ _ _ op_eq (pv 1) pe_int (nomark _)) (@pss_one _ _ _ (@ps_ret _ _ _ _ (@pe_lst _ _ _ _ (@pa_cons _ _ _ _ _ (@pe_fxK _ (K) _ _ _ _ rfl (pv 0) rfl) (@pa_cons _ _ _ _ _ (@pe_fxK _ (K) _ _ _ _ rfl (pv 0) rfl) pa_nil (by rfl)) (by rfl))))) pss_nil) (@pss_one _ _ _ (@ps_ret _ _ _ _ (@pe_ifExp _ _ _ _ _ _ _ _ (@pt_cmpR _ _ _ _ _ _ _ _ op_eq (pv 1) pe_int (nomark _)) (@pe_lst _ _ _ _ (@pa_cons _ _ _ _ _ (@pe_fxK _ (K) _ _ _ _ rfl (pv 0) rfl) (@pa_cons _ _ _ _ _ (@pe_fxK _ (K) _ _ _ _ rfl (pv 0) rfl) pa_nil (by rfl)) (by rfl))) (@pe_lst _ _ _ _ (@pa_cons _ _ _ _ _ (@pe_fxK _ (K) _ _ _ _ rfl (pv 0) rfl) (@pa_cons _ _ _ _ _ (@pe_fxK _ (K) _ _ _ _ rfl (pv 0) rfl) (@pa_cons _ _ _ _ _ (@pe_fxK _ (K) _ _ _ _ rfl (pv 0) rfl) pa_nil (by rfl)) (by rfl)) (by rfl)))))))))))), ?_⟩
    have xa := (C.ca n (by omega)).1
    have no := C.no n
    match n, hn with
    | 0, _ => exact ⟨_, rfl, _, _, rfl, rfl, _, rfl, iteC (by decide) ⟨_, rfl, a, _, _, dx, _, _, rfl, ea, ed, xa, no "place" (by decide) (by decide +kernel), rfl, (by show 1 ≤ sizeLine; decide), fun p hp => k p _ hp upd_same (Same.new hp)⟩⟩
    | 1, _ => exact ⟨_, rfl, _, _, rfl, rfl, _, rfl, iteC (by decide) ⟨_, rfl, a, _, _, dx, _, _, rfl, ea, ed, xa, no "place" (by decide) (by decide +kernel), rfl, (by show 1 ≤ sizeLine; decide), fun p hp => k p _ hp upd_same (Same.new hp)⟩⟩
    | n + 2, hn =>
    refine ⟨_, rfl, _, _, rfl, rfl, _, rfl, iteD (decide_eq_false (by omega)) ?_⟩
    match n, hn with
    | 0, _ => exact ⟨_, rfl, rfl, _, rfl, iteC (by decide) ⟨_, rfl, a, _, _, dx, _, _, rfl, ea, ed, xa, no "letter" (by decide) (by decide +kernel), rfl, (by show 1 ≤ sizeLine; decide), fun p hp => k p _ hp upd_same (Same.new hp)⟩⟩
    | n + 1, hn =>
    refine ⟨_, rfl, rfl, _, rfl, iteD (decide_eq_false (by intro e; have := V.int.inj e; omega)) ?_⟩
    match n, hn with
    | 0, _ => exact ⟨_, rfl, rfl, _, rfl, iteC (by decide) ⟨_, rfl, a, _, _, dx, _, _, rfl, ea, ed, xa, no "row" (by decide) (by decide +kernel), rfl, (by show 1 ≤ sizeLine; decide), fun p hp => k p _ hp upd_same (Same.new hp)⟩⟩
    | n + 1, hn =>
    refine ⟨_, rfl, rfl, _, rfl, iteD (decide_eq_false (by intro e; have := V.int.inj e; omega)) ?_⟩
    match n, hn with
    | 0, _ => exact ⟨_, rfl, rfl, _, rfl, iteC (by decide) ⟨_, rfl, a, _, _, dx, _, _, rfl, ea, ed, xa, no "name" (by decide) (by decide +kernel), rfl, (by show 1 ≤ sizeLine; decide), fun p hp => k p _ hp upd_same (Same.new hp)⟩⟩
    | n + 1, hn =>
    refine ⟨_, rfl, rfl, _, rfl, iteD (decide_eq_false (by intro e; have := V.int.inj e; omega)) ?_⟩
    match n, hn with
    | 0, _ => exact ⟨_, rfl, rfl, _, rfl, iteC (by decide) ⟨_, rfl, a, _, _, dx, _, _, rfl, ea, ed, xa, no "step" (by decide) (by decide +kernel), rfl, _, rfl, a, _, _, dx, _, _, rfl, ea, ed, xa, no "word" (by decide) (by decide +kernel), rfl, (by show 2 ≤ sizeLine; decide), fun p hp => k p _ hp upd_same (Same.new hp)⟩⟩
    | n + 1, hn =>
    refine ⟨_, rfl, rfl, _, rfl, iteD (decide_eq_false (by intro e; have := V.int.inj e; omega)) ?_⟩
    match n, hn with
    | 0, _ => exact ⟨_, rfl, rfl, _, rfl, iteC (by decide) ⟨_, rfl, a, _, _, dx, _, _, rfl, ea, ed, xa, no "word" (by decide) (by decide +kernel), rfl, _, rfl, a, _, _, dx, _, _, rfl, ea, ed, xa, no "at" (by decide) (by decide +kernel), rfl, (by show 2 ≤ sizeLine; decide), fun p hp => k p _ hp upd_same (Same.new hp)⟩⟩
    | n + 1, hn =>
    refine ⟨_, rfl, rfl, _, rfl, iteD (decide_eq_false (by intro e; have := V.int.inj e; omega)) ?_⟩
    match n, hn with
    | 0, _ => exact ⟨_, rfl, rfl, _, rfl, iteC (by decide) ⟨_, rfl, a, _, _, dx, _, _, rfl, ea, ed, xa, no "letters" (by decide) (by decide +kernel), rfl, _, rfl, a, _, _, dx, _, _, rfl, ea, ed, xa, no "holes" (by decide) (by decide +kernel), rfl, (by show 2 ≤ sizeLine; decide), fun p hp => k p _ hp upd_same (Same.new hp)⟩⟩
    | 1, _ => exact ⟨_, rfl, rfl, _, rfl, iteD (by decide) ⟨_, rfl, a, _, _, dx, _, _, rfl, ea, ed, xa, no "turn" (by decide) (by decide +kernel), rfl, _, rfl, a, _, _, dx, _, _, rfl, ea, ed, xa, no "other" (by decide) (by decide +kernel), rfl, _, rfl, a, _, _, dx, _, _, rfl, ea, ed, xa, no "piece" (by decide) (by decide +kernel), rfl, (by show 3 ≤ sizeLine; decide), fun p hp => k p _ hp upd_same (Same.new hp)⟩⟩
    | n + 2, hn => exact absurd hn (by omega)
end
end Kx
set_option Elab.async false
set_option linter.all false
set_option maxRecDepth 100000
set_option maxHeartbeats 0
namespace Kx
open PySem PySem.Spec PyProof.Rows L2 Wd
section
variable {P : Program} {w : World} {K : PySem.W.Frag} {mg : Str → Option Value} {base : Heap} {aB : Addr}
noncomputable def cmem (st : Stmt) (j : Nat) : Stmt := match st with | .ClassDef (body := b) .. => b.getD j (.Pass ⟨0, 0, 0, 0⟩) | _ => .Pass ⟨0, 0, 0, 0⟩
noncomputable abbrev i_0 : Stmt := cmem (top 2) 0
theorem sc_i0 : FnScope ["self", "place"] ["self", "place"] (defScope i_0) := ⟨rfl, rfl, rfl, by decide +kernel, rfl, by decide +kernel, by decide +kernel⟩
theorem c_i0 {R C f : Addr} {fd : FuncData} (D : Fun K "__init__" "NoStep.__init__" i_0 f fd) (B : XBase K R) (hR : mg "RingError" = some (.ref R)) (x : XAt K C) (n0 : PySem.W.findIn K (.ref C) "place" = some none) :
    Binds K fd ["self", "place"] [] ∧ FnOk P w K mg base CX0 1 f fd ["self", "place"] (spInit ["place"] C) := by
  have sc := sc_i0
  refine ⟨D.binds fun _ _ _ _ _ _ us hl => match us, hl with | [_, _], _ => rfl, D.ok sc (fun vs H Q E h => ?_) (fun cdv A outer s H vs Q E hr h => ?_)⟩
  · obtain ⟨a, ys, b, rfl, hl, _⟩ := h
    rw [List.length_cons, hl]; rfl
  · obtain ⟨a, ys, b, rfl, hl, ea, k⟩ := h
    match ys, hl with
    | [y0], _ =>
    refine ⟨_, (@pss_cons _ _ _ _ _ (@ps_expr _ _ _ _ (@pe_initX _ _ _ _ _ _ _ _ _ _ B rfl hR (@pa_cons _ _ _ _ _ (pv 0) (@pa_cons _ _ _ _ _ pe_str pa_nil (by rfl)) (by rfl)) (by decide) (by rfl) (by rfl) (by rfl)) (by rfl)) (@pss_one _ _ _ (@ps_fx0 _ _ _ _ _ _ _ _ (pv 0) (pv 1) (by rfl)))), ?_⟩
    refine ⟨_, rfl, a, C, none, b, [_], rfl, by simp, ea, x, ?_⟩
    refine ⟨_, rfl, _, rfl, a, C, b, rfl, ea, x, n0, fun dx hdx ne => ?_⟩
    exact k dx hdx ne
noncomputable abbrev i_1 : Stmt := cmem (top 6) 0
theorem sc_i1 : FnScope ["self", "place"] ["self", "place"] (defScope i_1) := ⟨rfl, rfl, rfl, by decide +kernel, rfl, by decide +kernel, by decide +kernel⟩
theorem c_i1 {R C f : Addr} {fd : FuncData} (D : Fun K "__init__" "NoSlide.__init__" i_1 f fd) (B : XBase K R) (hR : mg "RingError" = some (.ref R)) (x : XAt K C) (n0 : PySem.W.findIn K (.ref C) "place" = some none) :
    Binds K fd ["self", "place"] [] ∧ FnOk P w K mg base CX0 1 f fd ["self", "place"] (spInit ["place"] C) := by
  have sc := sc_i1
  refine ⟨D.binds fun _ _ _ _ _ _ us hl => match us, hl with | [_, _], _ => rfl, D.ok sc (fun vs H Q E h => ?_) (fun cdv A outer s H vs Q E hr h => ?_)⟩
  · obtain ⟨a, ys, b, rfl, hl, _⟩ := h
    rw [List.length_cons, hl]; rfl
  · obtain ⟨a, ys, b, rfl, hl, ea, k⟩ := h
    match ys, hl with
    | [y0], _ =>
    refine ⟨_, (@pss_cons _ _ _ _ _ (@ps_expr _ _ _ _ (@pe_initX _ _ _ _ _ _ _ _ _ _ B rfl hR (@pa_cons _ _ _ _ _ (pv 0) (@pa_cons _ _ _ _ _ pe_str pa_nil (by rfl)) (by rfl)) (by decide) (by rfl) (by rfl) (by rfl)) (by rfl)) (@pss_one _ _ _ (@ps_fx0 _ _ _ _ _ _ _ _ (pv 0) (pv 1) (by rfl)))), ?_⟩
    refine ⟨_, rfl, a, C, none, b, [_], rfl, by simp, ea, x, ?_⟩
    refine ⟨_, rfl, _, rfl, a, C, b, rfl, ea, x, n0, fun dx hdx ne => ?_⟩
    exact k dx hdx ne
noncomputable abbrev i_2 : Stmt := cmem (top 8) 0
theorem sc_i2 : FnScope ["self", "letter"] ["self", "letter"] (defScope i_2) := ⟨rfl, rfl, rfl, by decide +kernel, rfl, by decide +kernel, by decide +kernel⟩
theorem c_i2 {R C f : Addr} {fd : FuncData} (D : Fun K "__init__" "NoBand.__init__" i_2 f fd) (B : XBase K R) (hR : mg "RingError" = some (.ref R)) (x : XAt K C) (n0 : PySem.W.findIn K (.ref C) "letter" = some none) :
    Binds K fd ["self", "letter"] [] ∧ FnOk P w K mg base CX0 1 f fd ["self", "letter"] (spInit ["letter"] C) := by
  have sc := sc_i2
  refine ⟨D.binds fun _ _ _ _ _ _ us hl => match us, hl with | [_, _], _ => rfl, D.ok sc (fun vs H Q E h => ?_) (fun cdv A outer s H vs Q E hr h => ?_)⟩
  · obtain ⟨a, ys, b, rfl, hl, _⟩ := h
    rw [List.length_cons, hl]; rfl
  · obtain ⟨a, ys, b, rfl, hl, ea, k⟩ := h
    match ys, hl with
    | [y0], _ =>
    refine ⟨_, (@pss_cons _ _ _ _ _ (@ps_expr _ _ _ _ (@pe_initX _ _ _ _ _ _ _ _ _ _ B rfl hR (@pa_cons _ _ _ _ _ (pv 0) (@pa_cons _ _ _ _ _ pe_str pa_nil (by rfl)) (by rfl)) (by decide) (by rfl) (by rfl) (by rfl)) (by rfl)) (@pss_one _ _ _ (@ps_fx0 _ _ _ _ _ _ _ _ (pv 0) (pv 1) (by rfl)))), ?_⟩
    refine ⟨_, rfl, a, C, none, b, [_], rfl, by simp, ea, x, ?_⟩
    refine ⟨_, rfl, _, rfl, a, C, b, rfl, ea, x, n0, fun dx hdx ne => ?_⟩
    exact k dx hdx ne
noncomputable abbrev i_3 : Stmt := cmem (top 9) 0
theorem sc_i3 : FnScope ["self", "row"] ["self", "row"] (defScope i_3) := ⟨rfl, rfl, rfl, by decide +kernel, rfl, by decide +kernel, by decide +kernel⟩
theorem c_i3 {R C f : Addr} {fd : FuncData} (D : Fun K "__init__" "NoRow.__init__" i_3 f fd) (B : XBase K R) (hR : mg "RingError" = some (.ref R)) (x : XAt K C) (n0 : PySem.W.findIn K (.ref C) "row" = some none) :
    Binds K fd ["self", "row"] [] ∧ FnOk P w K mg base CX0 1 f fd ["self", "row"] (spInit ["row"] C) := by
  have sc := sc_i3
  refine ⟨D.binds fun _ _ _ _ _ _ us hl => match us, hl with | [_, _], _ => rfl, D.ok sc (fun vs H Q E h => ?_) (fun cdv A outer s H vs Q E hr h => ?_)⟩
  · obtain ⟨a, ys, b, rfl, hl, _⟩ := h
    rw [List.length_cons, hl]; rfl
  · obtain ⟨a, ys, b, rfl, hl, ea, k⟩ := h
    match ys, hl with
    | [y0], _ =>
    refine ⟨_, (@pss_cons _ _ _ _ _ (@ps_expr _ _ _ _ (@pe_initX _ _ _ _ _ _ _ _ _ _ B rfl hR (@pa_cons _ _ _ _ _ (pv 0) (@pa_cons _ _ _ _ _ pe_str pa_nil (by rfl)) (by rfl)) (by decide) (by rfl) (by rfl) (by rfl)) (by rfl)) (@pss_one _ _ _ (@ps_fx0 _ _ _ _ _ _ _ _ (pv 0) (pv 1) (by rfl)))), ?_⟩
    refine ⟨_, rfl, a, C, none, b, [_], rfl, by simp, ea, x, ?_⟩
    refine ⟨_, rfl, _, rfl, a, C, b, rfl, ea, x, n0, fun dx hdx ne => ?_⟩
    exact k dx hdx ne
noncomputable abbrev i_4 : Stmt := cmem (top 10) 0
theorem sc_i4 : FnScope ["self", "name"] ["self", "name"] (defScope i_4) := ⟨rfl, rfl, rfl, by decide +kernel, rfl, by decide +kernel, by decide +kernel⟩
theorem c_i4 {R C f : Addr} {fd : FuncData} (D : Fun K "__init__" "NoWay.__init__" i_4 f fd) (B : XBase K R) (hR : mg "RingError" = some (.ref R)) (x : XAt K C) (n0 : PySem.W.findIn K (.ref C) "name" = some none) :
    Binds K fd ["self", "name"] [] ∧ FnOk P w K mg base CX0 1 f fd ["self", "name"] (spInit ["name"] C) := by
  have sc := sc_i4
  refine ⟨D.binds fun _ _ _ _ _ _ us hl => match us, hl with | [_, _], _ => rfl, D.ok sc (fun vs H Q E h => ?_) (fun cdv A outer s H vs Q E hr h => ?_)⟩
  · obtain ⟨a, ys, b, rfl, hl, _⟩ := h
    rw [List.length_cons, hl]; rfl
  · obtain ⟨a, ys, b, rfl, hl, ea, k⟩ := h
    match ys, hl with
    | [y0], _ =>
    refine ⟨_, (@pss_cons _ _ _ _ _ (@ps_expr _ _ _ _ (@pe_initX _ _ _ _ _ _ _ _ _ _ B rfl hR (@pa_cons _ _ _ _ _ (pv 0) (@pa_cons _ _ _ _ _ pe_str pa_nil (by rfl)) (by rfl)) (by decide) (by rfl) (by rfl) (by rfl)) (by rfl)) (@pss_one _ _ _ (@ps_fx0 _ _ _ _ _ _ _ _ (pv 0) (pv 1) (by rfl)))), ?_⟩
    refine ⟨_, rfl, a, C, none, b, [_], rfl, by simp, ea, x, ?_⟩
    refine ⟨_, rfl, _, rfl, a, C, b, rfl, ea, x, n0, fun dx hdx ne => ?_⟩
    exact k dx hdx ne
noncomputable abbrev i_5 : Stmt := cmem (top 3) 0
theorem sc_i5 : FnScope ["self", "step", "word"] ["self", "step", "word"] (defScope i_5) := ⟨rfl, rfl, rfl, by decide +kernel, rfl, by decide +kernel, by decide +kernel⟩
theorem c_i5 {R C f : Addr} {fd : FuncData} (D : Fun K "__init__" "NoText.__init__" i_5 f fd) (B : XBase K R) (hR : mg "RingError" = some (.ref R)) (x : XAt K C) (n0 : PySem.W.findIn K (.ref C) "step" = some none) (n1 : PySem.W.findIn K (.ref C) "word" = some none) :
    Binds K fd ["self", "step", "word"] [] ∧ FnOk P w K mg base CX0 1 f fd ["self", "step", "word"] (spInit ["step", "word"] C) := by
  have sc := sc_i5
  refine ⟨D.binds fun _ _ _ _ _ _ us hl => match us, hl with | [_, _, _], _ => rfl, D.ok sc (fun vs H Q E h => ?_) (fun cdv A outer s H vs Q E hr h => ?_)⟩
  · obtain ⟨a, ys, b, rfl, hl, _⟩ := h
    rw [List.length_cons, hl]; rfl
  · obtain ⟨a, ys, b, rfl, hl, ea, k⟩ := h
    match ys, hl with
    | [y0, y1], _ =>
    refine ⟨_, (@pss_cons _ _ _ _ _ (@ps_expr _ _ _ _ (@pe_initX _ _ _ _ _ _ _ _ _ _ B rfl hR (@pa_cons _ _ _ _ _ (pv 0) (@pa_cons _ _ _ _ _ pe_str pa_nil (by rfl)) (by rfl)) (by decide) (by rfl) (by rfl) (by rfl)) (by rfl)) (@pss_cons _ _ _ _ _ (@ps_fx0 _ _ _ _ _ _ _ _ (pv 0) (pv 1) (by rfl)) (@pss_one _ _ _ (@ps_fx1 _ _ _ _ _ _ _ _ (pv 0) (pv 2) (by rfl))))), ?_⟩
    refine ⟨_, rfl, a, C, none, b, [_], rfl, by simp, ea, x, ?_⟩
    refine ⟨_, rfl, _, rfl, a, C, b, rfl, ea, x, n0, fun dx hdx ne => ?_⟩
    refine ⟨_, rfl, _, rfl, a, C, b, dx, _, rfl, ?_, upd_same .., (by show (1 : Nat) ≤ 900; decide), x, n1, ne, ?_⟩
    · rw [upd_ne (Ne.symm ne), upd_same]
    have q := k dx hdx ne
    repeat rw [show ∀ o o', upd (upd (upd H a (Exo a C (some dx) b)) dx o) dx o' = upd (upd H a (Exo a C (some dx) b)) dx o' from fun _ _ => upd_upd]
    exact q
noncomputable abbrev i_6 : Stmt := cmem (top 4) 0
theorem sc_i6 : FnScope ["self", "word", "at"] ["self", "word", "at"] (defScope i_6) := ⟨rfl, rfl, rfl, by decide +kernel, rfl, by decide +kernel, by decide +kernel⟩
theorem c_i6 {R C f : Addr} {fd : FuncData} (D : Fun K "__init__" "NoPaper.__init__" i_6 f fd) (B : XBase K R) (hR : mg "RingError" = some (.ref R)) (x : XAt K C) (n0 : PySem.W.findIn K (.ref C) "word" = some none) (n1 : PySem.W.findIn K (.ref C) "at" = some none) :
    Binds K fd ["self", "word", "at"] [] ∧ FnOk P w K mg base CX0 1 f fd ["self", "word", "at"] (spInit ["word", "at"] C) := by
  have sc := sc_i6
  refine ⟨D.binds fun _ _ _ _ _ _ us hl => match us, hl with | [_, _, _], _ => rfl, D.ok sc (fun vs H Q E h => ?_) (fun cdv A outer s H vs Q E hr h => ?_)⟩
  · obtain ⟨a, ys, b, rfl, hl, _⟩ := h
    rw [List.length_cons, hl]; rfl
  · obtain ⟨a, ys, b, rfl, hl, ea, k⟩ := h
    match ys, hl with
    | [y0, y1], _ =>
    refine ⟨_, (@pss_cons _ _ _ _ _ (@ps_expr _ _ _ _ (@pe_initX _ _ _ _ _ _ _ _ _ _ B rfl hR (@pa_cons _ _ _ _ _ (pv 0) (@pa_cons _ _ _ _ _ pe_str pa_nil (by rfl)) (by rfl)) (by decide) (by rfl) (by rfl) (by rfl)) (by rfl)) (@pss_cons _ _ _ _ _ (@ps_fx0 _ _ _ _ _ _ _ _ (pv 0) (pv 1) (by rfl)) (@pss_one _ _ _ (@ps_fx1 _ _ _ _ _ _ _ _ (pv 0) (pv 2) (by rfl))))), ?_⟩
    refine ⟨_, rfl, a, C, none, b, [_], rfl, by simp, ea, x, ?_⟩
    refine ⟨_, rfl, _, rfl, a, C, b, rfl, ea, x, n0, fun dx hdx ne => ?_⟩
    refine ⟨_, rfl, _, rfl, a, C, b, dx, _, rfl, ?_, upd_same .., (by show (1 : Nat) ≤ 900; decide), x, n1, ne, ?_⟩
    · rw [upd_ne (Ne.symm ne), upd_same]
    have q := k dx hdx ne
    repeat rw [show ∀ o o', upd (upd (upd H a (Exo a C (some dx) b)) dx o) dx o' = upd (upd H a (Exo a C (some dx) b)) dx o' from fun _ _ => upd_upd]
    exact q
noncomputable abbrev i_7 : Stmt := cmem (top 7) 0
theorem sc_i7 : FnScope ["self", "letters", "holes"] ["self", "letters", "holes"] (defScope i_7) := ⟨rfl, rfl, rfl, by decide +kernel, rfl, by decide +kernel, by decide +kernel⟩
theorem c_i7 {R C f : Addr} {fd : FuncData} (D : Fun K "__init__" "NoSurface.__init__" i_7 f fd) (B : XBase K R) (hR : mg "RingError" = some (.ref R)) (x : XAt K C) (n0 : PySem.W.findIn K (.ref C) "letters" = some none) (n1 : PySem.W.findIn K (.ref C) "holes" = some none) :
    Binds K fd ["self", "letters", "holes"] [] ∧ FnOk P w K mg base CX0 1 f fd ["self", "letters", "holes"] (spInit ["letters", "holes"] C) := by
  have sc := sc_i7
  refine ⟨D.binds fun _ _ _ _ _ _ us hl => match us, hl with | [_, _, _], _ => rfl, D.ok sc (fun vs H Q E h => ?_) (fun cdv A outer s H vs Q E hr h => ?_)⟩
  · obtain ⟨a, ys, b, rfl, hl, _⟩ := h
    rw [List.length_cons, hl]; rfl
  · obtain ⟨a, ys, b, rfl, hl, ea, k⟩ := h
    match ys, hl with
    | [y0, y1], _ =>
    refine ⟨_, (@pss_cons _ _ _ _ _ (@ps_expr _ _ _ _ (@pe_initX _ _ _ _ _ _ _ _ _ _ B rfl hR (@pa_cons _ _ _ _ _ (pv 0) (@pa_cons _ _ _ _ _ pe_str pa_nil (by rfl)) (by rfl)) (by decide) (by rfl) (by rfl) (by rfl)) (by rfl)) (@pss_cons _ _ _ _ _ (@ps_fx0 _ _ _ _ _ _ _ _ (pv 0) (pv 1) (by rfl)) (@pss_one _ _ _ (@ps_fx1 _ _ _ _ _ _ _ _ (pv 0) (pv 2) (by rfl))))), ?_⟩
    refine ⟨_, rfl, a, C, none, b, [_], rfl, by simp, ea, x, ?_⟩
    refine ⟨_, rfl, _, rfl, a, C, b, rfl, ea, x, n0, fun dx hdx ne => ?_⟩
    refine ⟨_, rfl, _, rfl, a, C, b, dx, _, rfl, ?_, upd_same .., (by show (1 : Nat) ≤ 900; decide), x, n1, ne, ?_⟩
    · rw [upd_ne (Ne.symm ne), upd_same]
    have q := k dx hdx ne
    repeat rw [show ∀ o o', upd (upd (upd H a (Exo a C (some dx) b)) dx o) dx o' = upd (upd H a (Exo a C (some dx) b)) dx o' from fun _ _ => upd_upd]
    exact q
noncomputable abbrev i_8 : Stmt := cmem (top 5) 0
theorem sc_i8 : FnScope ["self", "turn", "other", "piece"] ["self", "turn", "other", "piece"] (defScope i_8) := ⟨rfl, rfl, rfl, by decide +kernel, rfl, by decide +kernel, by decide +kernel⟩
theorem c_i8 {R C f : Addr} {fd : FuncData} (D : Fun K "__init__" "NoThin.__init__" i_8 f fd) (B : XBase K R) (hR : mg "RingError" = some (.ref R)) (x : XAt K C) (n0 : PySem.W.findIn K (.ref C) "turn" = some none) (n1 : PySem.W.findIn K (.ref C) "other" = some none) (n2 : PySem.W.findIn K (.ref C) "piece" = some none) :
    Binds K fd ["self", "turn", "other", "piece"] [] ∧ FnOk P w K mg base CX0 1 f fd ["self", "turn", "other", "piece"] (spInit ["turn", "other", "piece"] C) := by
  have sc := sc_i8
  refine ⟨D.binds fun _ _ _ _ _ _ us hl => match us, hl with | [_, _, _, _], _ => rfl, D.ok sc (fun vs H Q E h => ?_) (fun cdv A outer s H vs Q E hr h => ?_)⟩
  · obtain ⟨a, ys, b, rfl, hl, _⟩ := h
    rw [List.length_cons, hl]; rfl
  · obtain ⟨a, ys, b, rfl, hl, ea, k⟩ := h
    match ys, hl with
    | [y0, y1, y2], _ =>
    refine ⟨_, (@pss_cons _ _ _ _ _ (@ps_expr _ _ _ _ (@pe_initX _ _ _ _ _ _ _ _ _ _ B rfl hR (@pa_cons _ _ _ _ _ (pv 0) (@pa_cons _ _ _ _ _ pe_str pa_nil (by rfl)) (by rfl)) (by decide) (by rfl) (by rfl) (by rfl)) (by rfl)) (@pss_cons _ _ _ _ _ (@ps_fx0 _ _ _ _ _ _ _ _ (pv 0) (pv 1) (by rfl)) (@pss_cons _ _ _ _ _ (@ps_fx1 _ _ _ _ _ _ _ _ (pv 0) (pv 2) (by rfl)) (@pss_one _ _ _ (@ps_fx1 _ _ _ _ _ _ _ _ (pv 0) (pv 3) (by rfl)))))), ?_⟩
    refine ⟨_, rfl, a, C, none, b, [_], rfl, by simp, ea, x, ?_⟩
    refine ⟨_, rfl, _, rfl, a, C, b, rfl, ea, x, n0, fun dx hdx ne => ?_⟩
    refine ⟨_, rfl, _, rfl, a, C, b, dx, _, rfl, ?_, upd_same .., (by show (1 : Nat) ≤ 900; decide), x, n1, ne, ?_⟩
    · rw [upd_ne (Ne.symm ne), upd_same]
    refine ⟨_, rfl, _, rfl, a, C, b, dx, _, rfl, ?_, upd_same .., (by show (2 : Nat) ≤ 900; decide), x, n2, ne, ?_⟩
    · rw [upd_upd]; rw [upd_ne (Ne.symm ne), upd_same]
    have q := k dx hdx ne
    repeat rw [show ∀ o o', upd (upd (upd H a (Exo a C (some dx) b)) dx o) dx o' = upd (upd H a (Exo a C (some dx) b)) dx o' from fun _ _ => upd_upd]
    exact q
end
end Kx
set_option Elab.async false
set_option linter.all false
set_option maxRecDepth 100000
set_option maxHeartbeats 0
namespace Kx
open PySem PySem.Spec PyProof.Rows L2 Wd
noncomputable def spLaw (K : PySem.W.Frag) : Sp := fun vs H Q _ => ∃ (a : Addr) (ns : List Int), vs = [.ref a] ∧ SqL K H a (ns.map V.int) ∧ ns.length ≤ 63 ∧ ∀ H', Q (.bl true) H'
section
variable {P : Program} {w : World} {K : PySem.W.Frag} {mg : Str → Option Value} {base : Heap} {aB : Addr}
noncomputable abbrev s_law : Stmt := top 18
theorem sc_law : FnScope ["_law_script", "_law_feed_here", "_law_k", "_law_menu", "_law_some", "_law_number", "_law_told", "_law_e", "_law_due"] ["_law_script"] (defScope s_law) := ⟨rfl, rfl, rfl, by decide +kernel, rfl, by decide +kernel, by decide +kernel⟩
theorem c_law {c : Nat → Addr} {bmR : List Value} {f : Addr} {fd : FuncData} (D : Fun K "law" "law" s_law f fd) (T : Bt0 mg) (F_feed : Fnc P w K mg base "_law_feed" ["_law_script"] 1 (spFeed K)) (F_draw : Fnc P w K mg base "_law_draw" ["_law_feed_here", "_law_many"] 1 spDraw)
    (C : KC K mg c) (xR : XCl K (c 9) bmR) (F_raise : FncX P w K mg base "_law_raise" ["_law_number", "_law_some"] 4 (spRaise c 9)) (F_kinds : FncH P w K mg base "_law_kinds" ["_law_e"] 1 (spKinds c)) (F_fields : FncH P w K mg base "_law_fields" ["_law_e", "_law_number"] 1 (spFields c)) : FnOk P w K mg base CX0 5 f fd ["_law_script"] (spLaw K) := by
  have sc := sc_law
  have cRingError := C.nR
  have TV := C.nV
  refine D.ok sc (fun vs H Q E h => ?_) (fun cdv A outer s H vs Q E hr h => ?_)
  · obtain ⟨a, ns, rfl, _⟩ := h
    rfl
  · obtain ⟨a, ns, rfl, hS, hlen, k⟩ := h
    have l16 := line16
    refine ⟨_, (@pss_cons _ _ _ _ _ (@ps_set _ _ (1) _ _ _ _ sc.nd rfl (Or.inr rfl) (@pe_fn _ _ _ _ _ _ _ _ _ _ _ F_feed hr (by decide) rfl (@pa_cons _ _ _ _ _ (pv 0) pa_nil (by rfl)) (by decide) (by rfl) (by rfl)) (by rfl) (by first | exact .inl rfl | exact .inr rfl | assumption)) (@pss_cons _ _ _ _ _ (@ps_for _ _ _ _ _ _ _ _ PassesOwn.never rfl (@pi_range1 _ _ _ _ _ _ rfl T.range (@pa_cons _ _ _ _ _ pe_int pa_nil (by rfl)) (by rfl)) (@pg_name _ _ (2) _ sc.nd rfl (Or.inl rfl) (by first | exact .inl rfl | exact .inr rfl | assumption)) (@pss_cons _ _ _ _ _ (@ps_set _ _ (3) _ _ _ _ sc.nd rfl (Or.inr rfl) (@pe_lst _ _ _ _ (@pa_c _ _ _ _ _ pe_int (@pa_c _ _ _ _ _ pe_int (@pa_c _ _ _ _ _ (@pe_op _ _ _ _ _ _ _ _ op_pow pe_int pe_int) (@pa_c _ _ _ _ _ pe_str (@pa_c _ _ _ _ _ pe_str (@pa_c _ _ _ _ _ pe_non (@pa_c _ _ _ _ _ (@pe_un _ _ _ _ _ _ un_neg pe_int) (@pa_c _ _ _ _ _ pe_str (@pa_c _ _ _ _ _ pe_str pa_nil (by rfl)) (by rfl)) (by rfl)) (by rfl)) (by rfl)) (by rfl)) (by rfl)) (by rfl)) (by rfl))) (by rfl) (by first | exact .inl rfl | exact .inr rfl | assumption)) (@pss_cons _ _ _ _ _ (@ps_setC _ (4) _ _ _ _ _ _ _ _ _ (["_law_j", "_law_menu", "_law_feed_here"]) (["_law_j"]) ([3, 1]) _ _ _ _ sc.nd rfl (Or.inl rfl) (@blk_of _ _ _ _ _ _ rfl (by kernel_rfl)) rfl (@pi_range1 _ _ _ _ _ _ rfl T.range (@pa_cons _ _ _ _ _ pe_int pa_nil (by rfl)) (by rfl)) (fun _ _ _ _ => @pg_name _ _ (0) _ (show (["_law_j", "_law_menu", "_law_feed_here"] : List Str).Nodup from by decide +kernel) rfl (Or.inl rfl) (by first | exact .inl rfl | exact .inr rfl | assumption)) (fun _ _ _ _ => pifs_nil) (fun _ _ _ _ => by (exact (@pe_ix _ _ _ _ _ _ _ (@ix_listK _ (K) rfl) (pv 1) (@pe_fn _ _ _ _ _ _ _ _ _ _ _ F_draw hr (by decide) rfl (@pa_cons _ _ _ _ _ (pv 2) (@pa_cons _ _ _ _ _ pe_int pa_nil (by rfl)) (by rfl)) (by decide) (by rfl) (by rfl)) (fun _ _ => rfl)))) (by intro _ ; rfl) (by rfl) (by first | exact .inl rfl | exact .inr rfl | assumption)) (@pss_one _ _ _ (@ps_for _ _ _ _ _ _ _ _ PassesOwn.never rfl (@pi_range1 _ _ _ _ _ _ rfl T.range (@pa_cons _ _ _ _ _ pe_int pa_nil (by rfl)) (by rfl)) (@pg_name _ _ (5) _ sc.nd rfl (Or.inr rfl) (by first | exact .inl rfl | exact .inr rfl | assumption)) (@pss_cons _ _ _ _ _ (@ps_set _ _ (6) _ _ _ _ sc.nd rfl (Or.inl rfl) pe_non (by rfl) (by first | exact .inl rfl | exact .inr rfl | assumption)) (@pss_cons _ _ _ _ _ (@ps_try _ _ _ _ (7) _ _ _ _ _ _ _ _ _ rfl rfl sc.nd rfl rfl rfl cRingError xR (fun _ => (@pse_expr _ _ _ _ _ (@pee_fn _ _ _ _ _ _ _ _ _ _ _ _ F_raise hr (by decide) rfl (@pa_cons _ _ _ _ _ (pv 5) (@pa_cons _ _ _ _ _ (pv 4) pa_nil (by rfl)) (by rfl)) (by decide) (by rfl) (by rfl)) (by rfl))) (fun _ => (@pss_cons _ _ _ _ _ (@ps_set _ _ (6) _ _ _ _ sc.nd rfl (Or.inl rfl) (@pe_lst _ _ _ _ (@pa_cons _ _ _ _ _ (@pe_callB _ _ _ _ _ _ _ _ _ (@call_isyK _ (K) rfl) (by rfl) T.isinstance b_isinstance (@pa_cons _ _ _ _ _ (pv 7) (@pa_cons _ _ _ _ _ (@pe_bltn _ _ (.ty "ValueError") _ _ rfl TV b_ValueError rfl (by decide) (by decide)) pa_nil (by rfl)) (by rfl)) (by decide) (by decide) (by rfl) (by rfl)) (@pa_cons _ _ _ _ _ (@pe_fnH _ _ _ _ _ _ _ _ _ _ _ F_kinds (RoomH.mark (Room.h hr)) (by decide) rfl (@pa_cons _ _ _ _ _ (pv 7) pa_nil (by rfl)) (by decide) (by rfl) (by rfl)) pa_nil (by rfl)) (by rfl))) (by rfl) (by first | exact .inl rfl | exact .inr rfl | assumption)) (@pss_one _ _ _ (@ps_if _ _ _ _ _ _ _ _ (@pt_cmpR _ _ _ _ _ _ _ _ op_lt (pv 5) pe_int (nomark _)) (@pss_one _ _ _ (@ps_expr _ _ _ _ (@pe_bmK _ _ _ _ _ _ _ _ _ _ _ _ (K) rfl PySem.F.plainAttrs_list PySem.F.slot_list_append PySem.F.type_list_append mt_append (pv 6) (@pa_cons _ _ _ _ _ (@pe_fnH _ _ _ _ _ _ _ _ _ _ _ F_fields (RoomH.mark (Room.h hr)) (by decide) rfl (@pa_cons _ _ _ _ _ (pv 7) (@pa_cons _ _ _ _ _ (pv 5) pa_nil (by rfl)) (by rfl)) (by decide) (by rfl) (by rfl)) pa_nil (by rfl)) (by rfl) (by rfl) (by rfl) (by rfl) (by rfl)) (by rfl))) pss_nil)))) (by decide)) (@pss_cons _ _ _ _ _ (@ps_set _ _ (8) _ _ _ _ sc.nd rfl (Or.inl rfl) (@pe_lst _ _ _ _ (@pa_cons _ _ _ _ _ pe_bl (@pa_cons _ _ _ _ _ (@pe_comp _ _ _ _ _ _ _ (["_law_other", "_law_number"]) (["_law_other"]) ([5]) _ _ _ _ (@blk_of _ _ _ _ _ _ rfl (by kernel_rfl)) rfl (@pi_range1 _ _ _ _ _ _ rfl T.range (@pa_cons _ _ _ _ _ pe_int pa_nil (by rfl)) (by rfl)) (fun _ _ _ _ => @pg_name _ _ (0) _ (show (["_law_other", "_law_number"] : List Str).Nodup from by decide +kernel) rfl (Or.inl rfl) (by first | exact .inl rfl | exact .inr rfl | assumption)) (fun _ _ _ _ => pifs_nil) (fun _ _ _ _ => by (exact @pe_cmpR _ _ _ _ _ _ _ _ op_eq (by (exact (pv 0))) (by (exact (pv 1))) (nomark _))) (by intro _ ; rfl)) pa_nil (by rfl)) (by rfl))) (by rfl) (by first | exact .inl rfl | exact .inr rfl | assumption)) (@pss_cons _ _ _ _ _ (@ps_if _ _ _ _ _ _ _ _ (@pt_cmpR _ _ _ _ _ _ _ _ op_lt (pv 5) pe_int (nomark _)) (@pss_one _ _ _ (@ps_expr _ _ _ _ (@pe_bm _ _ _ _ _ _ _ _ _ _ _ _ PySem.F.plainAttrs_list PySem.F.slot_list_append PySem.F.type_list_append mt_append (pv 8) (@pa_cons _ _ _ _ _ (@pe_slice _ _ _ _ _ _ _ _ _ _ sl_list (pv 4) po_none (@po_some _ _ _ (@pe_ix _ _ _ _ _ _ _ ix_list (@pe_lst _ _ _ _ (@pa_lits _ _ ([.int 1, .int 1, .int 1, .int 1, .int 1, .int 2, .int 2, .int 2, .int 3]) (by kernel_rfl))) (pv 5) (fun _ _ => rfl)))) pa_nil (by rfl)) (by rfl) (by rfl) (by rfl) (by rfl) (by rfl)) (by rfl))) pss_nil) (@pss_one _ _ _ (@ps_if _ _ _ _ _ _ _ _ (@pt_cmpR _ _ _ _ _ _ _ _ op_ne (@pe_callB _ _ _ _ _ _ _ _ _ (@call_repr_dat _ (by exact hr.gd) (by exact hr.units)) (by rfl) T.repr b_repr (@pa_cons _ _ _ _ _ (pv 6) pa_nil (by rfl)) (by decide) (by decide) (by rfl) (by rfl)) (@pe_callB _ _ _ _ _ _ _ _ _ (@call_repr_dat _ (by exact hr.gd) (by exact hr.units)) (by rfl) T.repr b_repr (@pa_cons _ _ _ _ _ (pv 8) pa_nil (by rfl)) (by decide) (by decide) (by rfl) (by rfl)) (nomark _)) (@pss_one _ _ _ (@ps_ret _ _ _ _ pe_bl)) pss_nil)))))) (by intro _ ; rfl))))) (by intro _ ; rfl)) (@pss_one _ _ _ (@ps_ret _ _ _ _ pe_bl)))), ?_⟩
    refine ⟨_, rfl, a, ns, rfl, hS, hlen, fun d H0 hd0 F0 s0 => ?_⟩
    refine ⟨_, rfl, by decide, by decide, for_range (lo := 0) (n := 6) (fun i σ H' => ∃ (b2 b3 b4 b5 b6 b7 b8 : Option V), σ = [some (.ref a), some (.ref d), b2, b3, b4, b5, b6, b7, b8] ∧ Fd H' d) ⟨none, none, none, none, none, none, none, rfl, F0⟩ ?_ ?_⟩
    · rintro i0 σ H1 hi ⟨b2, b3, b4, b5, b6, b7, b8, rfl, F1⟩
      have mn : ∀ q : Int, 0 ≤ q → q < 9 → ∃ dd, atI (menuD.map mV) q = some (mV dd) ∧ dd ∈ menuD := fun q h0 h1 => by
        obtain ⟨n, rfl⟩ := Int.eq_ofNat_of_zero_le h0
        have hn : n < menuD.length := by show n < 9; omega
        refine ⟨menuD[n], atN25 ?_, List.getElem_mem hn⟩
        rw [List.getElem?_map, List.getElem?_eq_getElem hn]
        rfl
      refine ⟨_, _, rfl, rfl, ⟨by decide, by decide, by decide⟩, _, rfl, (by show 9 ≤ sizeLine; decide), fun m hm => ?_⟩
      rw [show ([V.int 0, V.int 1, V.int (10 ^ (30 : Int).toNat), V.str "shape", V.str "", V.non, V.int (-1), V.str "a b", V.str "abAB"] : List V) = menuD.map mV from rfl]
      have F2 : Fd (upd H1 m (.lst (menuD.map mV))) d := F1.new hm
      have f2 : (upd H1 m (.lst (menuD.map mV))) m = some (.lst (menuD.map mV)) := upd_same
      have nm : m ≠ d := F1.ne hm
      generalize upd H1 m (.lst (menuD.map mV)) = H2 at F2 f2 ⊢
      refine ⟨_, rfl, by decide, by decide, ?_⟩
      refine comp_by (own := ["_law_j"]) (cap := [3, 1]) (J := Itr 0 3) 3 (fun i ys σ H' => ∃ (v : Option V) (ds : List PyData), σ = [v, some (.ref m), some (.ref d)] ∧ ys = ds.map mV ∧ ds.length = i ∧ (∀ x ∈ ds, x ∈ menuD) ∧ Fd H' d ∧ H' m = some (.lst (menuD.map mV)))
        ⟨none, [], rfl, rfl, rfl, (fun x hx => by cases hx), F2, f2⟩ (fun i ys σ H' hi ⟨v, ds, _, e, e2, _⟩ => by rw [e, List.length_map, e2]; exact Nat.le_refl _) (by decide) (fun i ys σ H' hi _ => hi) (fun ys σ H' _ => Nat.le_refl _) ?_ ?_
      · rintro j ys σ H3 x H4 N hj ⟨v, ds, rfl, rfl, hl, hds, F3, f3⟩ ⟨rfl, rfl⟩ hN
        refine ⟨_, rfl, _, rfl, d, _, rfl, F3, by decide, by decide, fun q H5 q0 q1 F5 sb5 => ?_⟩
        obtain ⟨dd, h1, h2⟩ := mn q q0 q1
        have f5 := sb5 _ _ nm f3
        refine ⟨m, _, _, _, rfl, rfl, SqL.of f5, h1, hN _ _ _ ⟨_, ds ++ [dd], rfl, by rw [List.map_append]; rfl, by rw [List.length_append, hl]; rfl, fun x hx => ?_, F5, f5⟩⟩
        rcases List.mem_append.mp hx with hx | hx
        · exact hds x hx
        · rw [List.mem_singleton] at hx
          subst hx
          exact h2
      · rintro ys σ H3 l ⟨v, ds, rfl, rfl, hl, hds, F3, f3⟩ hl0
        have F4 : Fd (upd H3 l (.lst (ds.map mV))) d := F3.new hl0
        have f4 : (upd H3 l (.lst (ds.map mV))) l = some (.lst (ds.map mV)) := upd_same
        have nl : l ≠ d := F3.ne hl0
        generalize upd H3 l (.lst (ds.map mV)) = H4 at F4 f4 ⊢
        match ds, hl, hds with
        | [dx, dy, dz], _, hds =>
        refine ⟨_, rfl, by decide, by decide, for_range (lo := 0) (n := 10) (fun i σ H' => ∃ (b5 b6 b7 b8 : Option V), σ = [some (.ref a), some (.ref d), some (.int (0 + (i0 : Int))), some (.ref m), some (.ref l), b5, b6, b7, b8] ∧ Fd H' d ∧ H' l = some (.lst ([dx, dy, dz].map mV))) ⟨b5, b6, b7, b8, rfl, F4, f4⟩ ?_ ?_⟩
        · rintro n σ H5 hn ⟨b5, b6, b7, b8, rfl, F5, f5⟩
          have e0 : (0 : Int) + (n : Int) = (n : Int) := Int.zero_add _
          rw [e0]
          refine ⟨_, rfl, _, rfl, n, l, mV dx, mV dy, mV dz, rfl, by omega, f5, fun aE H6 rx s6 => ?_⟩
          obtain ⟨hn9, dE, hE⟩ := rx.ex
          obtain ⟨bm, xcl, hc⟩ := C.cl n hn9
          refine ⟨aE, c n, dE, bm, rfl, hE, xcl, hc, ?_⟩
          refine ⟨_, rfl, aE, _, _, _, _, rfl, rx.xi, C.ca n hn9, (fun u r => r), C.kv n hn9, _, rfl, n, aE, rfl, hn9, rx.xi, fun p H7 fp s7 => ⟨(by show 2 ≤ sizeLine; decide), fun q hq => ?_⟩⟩
          have F7 : Fd H7 d := (F5.same s6).same s7
          have f7 := s7 _ _ (s6 _ _ f5)
          have rx7 := rx.same s7
          have F8 : Fd (upd H7 q (.lst [.bl true, .ref p])) d := F7.new hq
          have f8 := Same.new (o := .lst [.bl true, .ref p]) hq _ _ f7
          have fp8 := Same.new (o := .lst [.bl true, .ref p]) hq _ _ fp
          have rx8 := rx7.same (Same.new (o := .lst [.bl true, .ref p]) hq)
          have fq8 : (upd H7 q (.lst [.bl true, .ref p])) q = some (.lst [.bl true, .ref p]) := upd_same
          have nqd : q ≠ d := F7.ne hq
          have nql : l ≠ q := ne_of_none f7 hq
          have nqp : p ≠ q := ne_of_none fp hq
          generalize upd H7 q (.lst [.bl true, .ref p]) = H8 at F8 f8 fp8 rx8 fq8 ⊢
          by_cases h9 : n < 9
          · refine ⟨_, rfl, _, _, rfl, rfl, _, rfl, iteC (decide_eq_true (by omega)) ?_⟩
            refine ⟨_, rfl, .inl ⟨rfl, _, SqL.of fq8⟩, _, rfl, _, rfl, n, aE, mV dx, mV dy, mV dz, rfl, by omega, rx8, fun p2 H9 np2 fp2 s9 => ⟨q, _, _, rfl, rfl, s9 _ _ fq8, (by show 2 < sizeLine; decide), ?_⟩⟩
            have nq2 : p2 ≠ q := (ne_of_none fq8 np2).symm
            have F10 : Fd (upd H9 q (.lst ([.bl true, .ref p] ++ [.ref p2]))) d := (F8.same s9).upd (s9 _ _ fq8) nqd (p := p) (by simp)
            have f10 : (upd H9 q (.lst ([.bl true, .ref p] ++ [.ref p2]))) l = some (.lst ([dx, dy, dz].map mV)) := by rw [upd_ne nql]; exact s9 _ _ f8
            have dt10 : Dt (upd H9 q (.lst ([.bl true, .ref p] ++ [.ref p2]))) (.ref q) (toldD n [dx, dy, dz]) := told_dt (k := p) (f := p2) hds (by rw [upd_ne nqp]; exact s9 _ _ fp8) (fun _ => by rw [upd_ne nq2]; exact fp2) (by rw [if_pos h9]; exact upd_same)
            generalize upd H9 q (.lst ([.bl true, .ref p] ++ [.ref p2])) = H10 at F10 f10 dt10 ⊢
            refine ⟨_, rfl, by decide, by decide, ?_⟩
            refine comp_by (own := ["_law_other"]) (cap := [5]) (J := Itr 0 9) 9 (fun i ys σ H' => ∃ v : Option V, σ = [v, some (.int n)] ∧ ys = (List.range i).map (fun m => V.bl (decide (n = m))) ∧ Same H10 H') ⟨none, rfl, rfl, fun _ _ e => e⟩ (fun i ys σ H' hi ⟨v, _, e, _⟩ => by rw [e, List.length_map, List.length_range]; exact Nat.le_refl _) (by decide) (fun i ys σ H' hi _ => hi) (fun ys σ H' _ => Nat.le_refl _) ?_ ?_
            · rintro j ys σ H11 x H12 N hj ⟨v, rfl, rfl, s11⟩ ⟨rfl, rfl⟩ hN
              refine ⟨_, rfl, _, rfl, rfl, hN _ _ _ ⟨_, rfl, ?_, s11⟩⟩
              rw [List.range_succ, List.map_append, dec_int]
              rfl
            · rintro ys σ H11 kq ⟨v, rfl, rfl, s11⟩ hkq
              rw [kindsV_eq]
              have F12 : Fd (upd H11 kq (.lst (kindsV n))) d := (F10.same s11).new hkq
              have f12 := Same.new (o := .lst (kindsV n)) hkq _ _ (s11 _ _ f10)
              have t12 := (dt10.same s11).same (Same.new (o := .lst (kindsV n)) hkq)
              have k12 : (upd H11 kq (.lst (kindsV n))) kq = some (.lst (kindsV n)) := upd_same
              generalize upd H11 kq (.lst (kindsV n)) = H12 at F12 f12 t12 k12 ⊢
              refine ⟨(by show 2 ≤ sizeLine; decide), fun r hr1 => ?_⟩
              have F13 : Fd (upd H12 r (.lst [.bl true, .ref kq])) d := F12.new hr1
              have f13 := Same.new (o := .lst [.bl true, .ref kq]) hr1 _ _ f12
              have t13 := t12.same (Same.new (o := .lst [.bl true, .ref kq]) hr1)
              have k13 := Same.new (o := .lst [.bl true, .ref kq]) hr1 _ _ k12
              have r13 : (upd H12 r (.lst [.bl true, .ref kq])) r = some (.lst [.bl true, .ref kq]) := upd_same
              have nrd : r ≠ d := F12.ne hr1
              have nrl : l ≠ r := ne_of_none f12 hr1
              have nrk : kq ≠ r := ne_of_none k12 hr1
              have sm : ∀ b o, H12 b = some o → b ≠ r ∧ (upd H12 r (.lst [.bl true, .ref kq])) b = some o := fun b o e => ⟨ne_of_none e hr1, Same.new hr1 _ _ e⟩
              generalize upd H12 r (.lst [.bl true, .ref kq]) = H13 at F13 f13 t13 k13 r13 sm ⊢
              refine ⟨_, rfl, _, _, rfl, rfl, _, rfl, iteC (decide_eq_true (by omega)) ?_⟩
              refine ⟨_, rfl, .inl ⟨rfl, _, SqL.of r13⟩, _, rfl, (by show 9 ≤ sizeLine; decide), fun z hz => ⟨_, rfl, z, _, _, _, rfl, rfl, SqL.of upd_same, cnt_at h9, _, rfl, l, _, rfl, SqL.of (Same.new hz _ _ f13), fun y hy => ?_⟩⟩
              rw [cut_take _ _ (flds_len h9)]
              have s14 := Same.new (o := .lst [V.int 1, V.int 1, V.int 1, V.int 1, V.int 1, V.int 2, V.int 2, V.int 2, V.int 3]) hz
              have F14 := F13.new (o := .lst [V.int 1, V.int 1, V.int 1, V.int 1, V.int 1, V.int 2, V.int 2, V.int 2, V.int 3]) hz
              generalize upd H13 z (.lst [V.int 1, V.int 1, V.int 1, V.int 1, V.int 1, V.int 2, V.int 2, V.int 2, V.int 3]) = H14 at s14 F14 hy ⊢
              have s15 := s14.trans (Same.new (o := .lst (([dx, dy, dz].map mV).take (flds n).length)) hy)
              have F15 := F14.new (o := .lst (([dx, dy, dz].map mV).take (flds n).length)) hy
              have y15 : (upd H14 y (.lst (([dx, dy, dz].map mV).take (flds n).length))) y = some (.lst (([dx, dy, dz].map mV).take (flds n).length)) := upd_same
              have nry : y ≠ r := (ne_of_none (s14 _ _ r13) hy).symm
              generalize upd H14 y (.lst (([dx, dy, dz].map mV).take (flds n).length)) = H15 at s15 F15 y15 ⊢
              refine ⟨r, _, _, rfl, rfl, s15 _ _ r13, (by show 2 < sizeLine; decide), ?_⟩
              have sh := told_sh (n := n) hds rfl
              have F16 : Fd (upd H15 r (.lst ([.bl true, .ref kq] ++ [.ref y]))) d := F15.upd (s15 _ _ r13) nrd (p := kq) (by simp)
              have f16 : (upd H15 r (.lst ([.bl true, .ref kq] ++ [.ref y]))) l = some (.lst ([dx, dy, dz].map mV)) := by rw [upd_ne nrl]; exact s15 _ _ f13
              have t16 : Dt (upd H15 r (.lst ([.bl true, .ref kq] ++ [.ref y]))) (.ref q) (toldD n [dx, dy, dz]) := t12.same fun b o e => by
                obtain ⟨h1, h2⟩ := sm b o e
                rw [upd_ne h1]
                exact s15 _ _ h2
              have u16 : Dt (upd H15 r (.lst ([.bl true, .ref kq] ++ [.ref y]))) (.ref r) (toldD n [dx, dy, dz]) := told_dt (k := kq) (f := y) hds (by rw [upd_ne nrk]; exact s15 _ _ k13) (fun _ => by rw [upd_ne nry]; exact y15) (by rw [if_pos h9]; exact upd_same)
              generalize upd H15 r (.lst ([.bl true, .ref kq] ++ [.ref y])) = H16 at F16 f16 t16 u16 ⊢
              refine ⟨_, rfl, q, _, rfl, t16, sh, _, rfl, r, _, rfl, u16, sh, rfl, _, rfl, iteD (by simp) ?_⟩
              exact ⟨_, _, _, _, rfl, F16, f16⟩
          · have e9 : n = 9 := by omega
            refine ⟨_, rfl, _, _, rfl, rfl, _, rfl, iteD (decide_eq_false (by omega)) ?_⟩
            have dt8 : Dt H8 (.ref q) (toldD n [dx, dy, dz]) := told_dt (k := p) (f := p) hds fp8 (fun h => absurd h h9) (by rw [if_neg h9]; exact fq8)
            refine ⟨_, rfl, by decide, by decide, ?_⟩
            refine comp_by (own := ["_law_other"]) (cap := [5]) (J := Itr 0 9) 9 (fun i ys σ H' => ∃ v : Option V, σ = [v, some (.int n)] ∧ ys = (List.range i).map (fun m => V.bl (decide (n = m))) ∧ Same H8 H') ⟨none, rfl, rfl, fun _ _ e => e⟩ (fun i ys σ H' hi ⟨v, _, e, _⟩ => by rw [e, List.length_map, List.length_range]; exact Nat.le_refl _) (by decide) (fun i ys σ H' hi _ => hi) (fun ys σ H' _ => Nat.le_refl _) ?_ ?_
            · rintro j ys σ H11 x H12 N hj ⟨v, rfl, rfl, s11⟩ ⟨rfl, rfl⟩ hN
              refine ⟨_, rfl, _, rfl, rfl, hN _ _ _ ⟨_, rfl, ?_, s11⟩⟩
              rw [List.range_succ, List.map_append, dec_int]
              rfl
            · rintro ys σ H11 kq ⟨v, rfl, rfl, s11⟩ hkq
              rw [kindsV_eq]
              have F12 : Fd (upd H11 kq (.lst (kindsV n))) d := (F8.same s11).new hkq
              have f12 := Same.new (o := .lst (kindsV n)) hkq _ _ (s11 _ _ f8)
              have t12 := (dt8.same s11).same (Same.new (o := .lst (kindsV n)) hkq)
              have k12 : (upd H11 kq (.lst (kindsV n))) kq = some (.lst (kindsV n)) := upd_same
              generalize upd H11 kq (.lst (kindsV n)) = H12 at F12 f12 t12 k12 ⊢
              refine ⟨(by show 2 ≤ sizeLine; decide), fun r hr1 => ?_⟩
              have F13 : Fd (upd H12 r (.lst [.bl true, .ref kq])) d := F12.new hr1
              have f13 := Same.new (o := .lst [.bl true, .ref kq]) hr1 _ _ f12
              have t13 := t12.same (Same.new (o := .lst [.bl true, .ref kq]) hr1)
              have k13 := Same.new (o := .lst [.bl true, .ref kq]) hr1 _ _ k12
              have r13 : (upd H12 r (.lst [.bl true, .ref kq])) r = some (.lst [.bl true, .ref kq]) := upd_same
              have nrd : r ≠ d := F12.ne hr1
              have nrl : l ≠ r := ne_of_none f12 hr1
              have nrk : kq ≠ r := ne_of_none k12 hr1
              have sm : ∀ b o, H12 b = some o → b ≠ r ∧ (upd H12 r (.lst [.bl true, .ref kq])) b = some o := fun b o e => ⟨ne_of_none e hr1, Same.new hr1 _ _ e⟩
              generalize upd H12 r (.lst [.bl true, .ref kq]) = H13 at F13 f13 t13 k13 r13 sm ⊢
              refine ⟨_, rfl, _, _, rfl, rfl, _, rfl, iteD (decide_eq_false (by omega)) ?_⟩
              have sh := told_sh (n := n) hds rfl
              refine ⟨_, rfl, q, _, rfl, t13, sh, _, rfl, r, _, rfl, told_dt (k := kq) (f := kq) hds k13 (fun h => absurd h h9) (by rw [if_neg h9]; exact r13), sh, rfl, _, rfl, iteD (by simp) ?_⟩
              exact ⟨_, _, _, _, rfl, F13, f13⟩
        · rintro σ H5 ⟨b5, b6, b7, b8, rfl, F5, f5⟩
          exact ⟨_, _, _, _, _, _, _, rfl, F5⟩
    · rintro σ H1 ⟨b2, b3, b4, b5, b6, b7, b8, rfl, F1⟩
      exact k _
end
end Kx
set_option Elab.async false
set_option linter.all false
set_option maxRecDepth 100000
set_option maxHeartbeats 0
namespace Kx
open PySem PySem.Spec PyProof.Rows L2 Wd
theorem df_mk {K : PySem.W.Frag} {h : Heap} {mg : Str → Option Value} {x : Str} {st : Stmt} {f : Addr} {oc : Value} {od an : Option Addr} {osl : Array (Option Value)} {kV doc pm cdv ct : Value} (X : K.In h) (G : h.Ns mainGlobals mg) (a : PySem.W.nsIn K mainGlobals x = some (some (.ref f)))
    (l : K.lookup f = some ⟨oc, od, .func (PySem.W.fnOf x x (defArgs st) (defBody st) (defScope st) .none kV doc pm an cdv ct), osl⟩) (c : PySem.W.codeIn K cdv x = true) (k : PySem.W.keepIn K (.ref f) = true) : Df K mg x st := ⟨f, _, PySem.W.mg_of X G a, fun_mk l c k⟩
theorem all_mk {l : PySem.W.OpenLaw} {w : World} {K : PySem.W.Frag} {h : Heap} {mg : Str → Option Value} {fa : Addr} (X : K.In h) (G : h.Ns mainGlobals mg) (hfa : mg "law" = some (.ref fa))
    {f0 : Addr} {od0 an0 : Option Addr} {sl0 : Array (Option Value)} {oc0 kV0 dc0 pm0 cd0 ct0 : Value} {f1 : Addr} {od1 an1 : Option Addr} {sl1 : Array (Option Value)} {oc1 kV1 dc1 pm1 cd1 ct1 : Value} {f2 : Addr} {od2 an2 : Option Addr} {sl2 : Array (Option Value)} {oc2 kV2 dc2 pm2 cd2 ct2 : Value} {f3 : Addr} {od3 an3 : Option Addr} {sl3 : Array (Option Value)} {oc3 kV3 dc3 pm3 cd3 ct3 : Value} {f4 : Addr} {od4 an4 : Option Addr} {sl4 : Array (Option Value)} {oc4 kV4 dc4 pm4 cd4 ct4 : Value} {f5 : Addr} {od5 an5 : Option Addr} {sl5 : Array (Option Value)} {oc5 kV5 dc5 pm5 cd5 ct5 : Value} {f6 : Addr} {od6 an6 : Option Addr} {sl6 : Array (Option Value)} {oc6 kV6 dc6 pm6 cd6 ct6 : Value}  {CR : Addr} {ddCR : Option Addr} {cdCR : ClassData} {sCR0 sCR1 sCR2 sCR3 sCR5 : Option Value}         {nsCR : Addr} {onCR : Value} {dnCR : Option Addr} {esCR : Array DictEntry} {nnCR : Nat} {snCR : Array (Option Value)}          {C0 : Addr} {ddC0 : Option Addr} {cdC0 : ClassData} {sC00 sC01 sC02 sC03 sC05 : Option Value}          {fC0 : Addr} {ocC0 kVC0 dcC0 pmC0 cvC0 ctC0 : Value} {odC0 anC0 : Option Addr} {slC0 : Array (Option Value)}    {C1 : Addr} {ddC1 : Option Addr} {cdC1 : ClassData} {sC10 sC11 sC12 sC13 sC15 : Option Value}          {fC1 : Addr} {ocC1 kVC1 dcC1 pmC1 cvC1 ctC1 : Value} {odC1 anC1 : Option Addr} {slC1 : Array (Option Value)}    {C2 : Addr} {ddC2 : Option Addr} {cdC2 : ClassData} {sC20 sC21 sC22 sC23 sC25 : Option Value}          {fC2 : Addr} {ocC2 kVC2 dcC2 pmC2 cvC2 ctC2 : Value} {odC2 anC2 : Option Addr} {slC2 : Array (Option Value)}    {C3 : Addr} {ddC3 : Option Addr} {cdC3 : ClassData} {sC30 sC31 sC32 sC33 sC35 : Option Value}          {fC3 : Addr} {ocC3 kVC3 dcC3 pmC3 cvC3 ctC3 : Value} {odC3 anC3 : Option Addr} {slC3 : Array (Option Value)}    {C4 : Addr} {ddC4 : Option Addr} {cdC4 : ClassData} {sC40 sC41 sC42 sC43 sC45 : Option Value}          {fC4 : Addr} {ocC4 kVC4 dcC4 pmC4 cvC4 ctC4 : Value} {odC4 anC4 : Option Addr} {slC4 : Array (Option Value)}    {C5 : Addr} {ddC5 : Option Addr} {cdC5 : ClassData} {sC50 sC51 sC52 sC53 sC55 : Option Value}           {fC5 : Addr} {ocC5 kVC5 dcC5 pmC5 cvC5 ctC5 : Value} {odC5 anC5 : Option Addr} {slC5 : Array (Option Value)}    {C6 : Addr} {ddC6 : Option Addr} {cdC6 : ClassData} {sC60 sC61 sC62 sC63 sC65 : Option Value}           {fC6 : Addr} {ocC6 kVC6 dcC6 pmC6 cvC6 ctC6 : Value} {odC6 anC6 : Option Addr} {slC6 : Array (Option Value)}    {C7 : Addr} {ddC7 : Option Addr} {cdC7 : ClassData} {sC70 sC71 sC72 sC73 sC75 : Option Value}           {fC7 : Addr} {ocC7 kVC7 dcC7 pmC7 cvC7 ctC7 : Value} {odC7 anC7 : Option Addr} {slC7 : Array (Option Value)}    {C8 : Addr} {ddC8 : Option Addr} {cdC8 : ClassData} {sC80 sC81 sC82 sC83 sC85 : Option Value}            {fC8 : Addr} {ocC8 kVC8 dcC8 pmC8 cvC8 ctC8 : Value} {odC8 anC8 : Option Addr} {slC8 : Array (Option Value)}    
    (a0 : PySem.W.nsIn K mainGlobals "_law_feed" = some (some (.ref f0)))
    (l0 : K.lookup f0 = some ⟨oc0, od0, .func (PySem.W.fnOf "_law_feed" "_law_feed" (defArgs s_feed) (defBody s_feed) (defScope s_feed) .none kV0 dc0 pm0 an0 cd0 ct0), sl0⟩)
    (c0 : PySem.W.codeIn K cd0 "_law_feed" = true)
    (k0 : PySem.W.keepIn K (.ref f0) = true)
    (a1 : PySem.W.nsIn K mainGlobals "_law_draw" = some (some (.ref f1)))
    (l1 : K.lookup f1 = some ⟨oc1, od1, .func (PySem.W.fnOf "_law_draw" "_law_draw" (defArgs s_draw) (defBody s_draw) (defScope s_draw) .none kV1 dc1 pm1 an1 cd1 ct1), sl1⟩)
    (c1 : PySem.W.codeIn K cd1 "_law_draw" = true)
    (k1 : PySem.W.keepIn K (.ref f1) = true)
    (a2 : PySem.W.nsIn K mainGlobals "_law_raise_one" = some (some (.ref f2)))
    (l2 : K.lookup f2 = some ⟨oc2, od2, .func (PySem.W.fnOf "_law_raise_one" "_law_raise_one" (defArgs s_raise1) (defBody s_raise1) (defScope s_raise1) .none kV2 dc2 pm2 an2 cd2 ct2), sl2⟩)
    (c2 : PySem.W.codeIn K cd2 "_law_raise_one" = true)
    (k2 : PySem.W.keepIn K (.ref f2) = true)
    (a3 : PySem.W.nsIn K mainGlobals "_law_raise" = some (some (.ref f3)))
    (l3 : K.lookup f3 = some ⟨oc3, od3, .func (PySem.W.fnOf "_law_raise" "_law_raise" (defArgs s_raise) (defBody s_raise) (defScope s_raise) .none kV3 dc3 pm3 an3 cd3 ct3), sl3⟩)
    (c3 : PySem.W.codeIn K cd3 "_law_raise" = true)
    (k3 : PySem.W.keepIn K (.ref f3) = true)
    (a4 : PySem.W.nsIn K mainGlobals "_law_fields" = some (some (.ref f4)))
    (l4 : K.lookup f4 = some ⟨oc4, od4, .func (PySem.W.fnOf "_law_fields" "_law_fields" (defArgs s_fields) (defBody s_fields) (defScope s_fields) .none kV4 dc4 pm4 an4 cd4 ct4), sl4⟩)
    (c4 : PySem.W.codeIn K cd4 "_law_fields" = true)
    (k4 : PySem.W.keepIn K (.ref f4) = true)
    (a5 : PySem.W.nsIn K mainGlobals "_law_kinds" = some (some (.ref f5)))
    (l5 : K.lookup f5 = some ⟨oc5, od5, .func (PySem.W.fnOf "_law_kinds" "_law_kinds" (defArgs s_kinds) (defBody s_kinds) (defScope s_kinds) .none kV5 dc5 pm5 an5 cd5 ct5), sl5⟩)
    (c5 : PySem.W.codeIn K cd5 "_law_kinds" = true)
    (k5 : PySem.W.keepIn K (.ref f5) = true)
    (a6 : PySem.W.nsIn K mainGlobals "law" = some (some (.ref f6)))
    (l6 : K.lookup f6 = some ⟨oc6, od6, .func (PySem.W.fnOf "law" "law" (defArgs s_law) (defBody s_law) (defScope s_law) .none kV6 dc6 pm6 an6 cd6 ct6), sl6⟩)
    (c6 : PySem.W.codeIn K cd6 "law" = true)
    (k6 : PySem.W.keepIn K (.ref f6) = true)
    (z_len : PySem.W.nsIn K mainGlobals "len" = some none)
    (z_repr : PySem.W.nsIn K mainGlobals "repr" = some none)
    (z_abs : PySem.W.nsIn K mainGlobals "abs" = some none)
    (z_max : PySem.W.nsIn K mainGlobals "max" = some none)
    (z_int : PySem.W.nsIn K mainGlobals "int" = some none)
    (z_list : PySem.W.nsIn K mainGlobals "list" = some none)
    (z_range : PySem.W.nsIn K mainGlobals "range" = some none)
    (z_reversed : PySem.W.nsIn K mainGlobals "reversed" = some none)
    (z_min : PySem.W.nsIn K mainGlobals "min" = some none)
    (z_sorted : PySem.W.nsIn K mainGlobals "sorted" = some none)
    (z_tuple : PySem.W.nsIn K mainGlobals "tuple" = some none)
    (z_isinstance : PySem.W.nsIn K mainGlobals "isinstance" = some none)
    (z_all : PySem.W.nsIn K mainGlobals "all" = some none)
    (z_str : PySem.W.nsIn K mainGlobals "str" = some none)
    (z_zip : PySem.W.nsIn K mainGlobals "zip" = some none)
    (zV : PySem.W.nsIn K mainGlobals "ValueError" = some none)
    (aCR : PySem.W.nsIn K mainGlobals "RingError" = some (some (.ref CR)))
    (lCR : K.lookup CR = some ⟨.type "type", ddCR, .cls cdCR, #[sCR0, sCR1, sCR2, sCR3, some (.builtin "ValueError.__new__"), sCR5]⟩)
    (mCR : cdCR.mro = .ref CR :: bmV)
    (eCR : cdCR.hasDel = false)
    (dCR : cdCR.hasDict = true)
    (kCR : PySem.W.keepIn K (.ref CR) = true)
    (saCR : PySem.W.findIn K (.ref CR) "__setattr__" = some (some (.builtin "object.__setattr__")))
    (gaCR : PySem.W.findIn K (.ref CR) "__getattribute__" = some (some (.builtin "BaseException.__getattribute__")))
    (gnCR : PySem.W.findIn K (.ref CR) "__getattr__" = some (none))
    (caCR : PySem.W.findIn K (.ref CR) "__class__" = some (some (.builtin "object.__class__")))
    (nCR : cdCR.ns = nsCR)
    (oCR : K.lookup nsCR = some ⟨onCR, dnCR, .dict esCR nnCR, snCR⟩)
    (pCR : (esCR.toList.all fun e => match e.key with | .str _ _ => true | _ => false) = true)
    (qCR : PySem.W.nsIn K nsCR "__init__" = some none)
    (rdCR : PySem.W.readsIn K CR (.type "type") = true)
    (atCR : PySem.W.findCls K (.ref CR) (.type "type") "__init__" = some (.val (.builtin "ValueError.__init__")))
    (gtCR : PySem.W.specialIn K (.ref CR) "__getattribute__" = some (some (.builtin "type.__getattribute__")))
    (hdI : PySem.W.handedIn (.builtin "ValueError.__init__") = true)
    (cgt : PySem.W.specialIn K (.builtin "object.__class__") "__get__" = some (some (.builtin "getset_descriptor.__get__")))
    (ctk : PySem.W.takesIn K (.builtin "object.__class__") = some true)
    (iCR : PySem.W.findIn K (.ref CR) "__init__" = some (some (.builtin "ValueError.__init__")))
    (aC0 : PySem.W.nsIn K mainGlobals "NoStep" = some (some (.ref C0)))
    (lC0 : K.lookup C0 = some ⟨.type "type", ddC0, .cls cdC0, #[sC00, sC01, sC02, sC03, some (.builtin "ValueError.__new__"), sC05]⟩)
    (mC0 : cdC0.mro = .ref C0 :: .ref CR :: bmV)
    (eC0 : cdC0.hasDel = false)
    (dC0 : cdC0.hasDict = true)
    (kC0 : PySem.W.keepIn K (.ref C0) = true)
    (saC0 : PySem.W.findIn K (.ref C0) "__setattr__" = some (some (.builtin "object.__setattr__")))
    (gaC0 : PySem.W.findIn K (.ref C0) "__getattribute__" = some (some (.builtin "BaseException.__getattribute__")))
    (gnC0 : PySem.W.findIn K (.ref C0) "__getattr__" = some (none))
    (caC0 : PySem.W.findIn K (.ref C0) "__class__" = some (some (.builtin "object.__class__")))
    (xC00 : PySem.W.findIn K (.ref C0) "place" = some none)
    (iC0 : PySem.W.findIn K (.ref C0) "__init__" = some (some (.ref fC0)))
    (uC0 : K.lookup fC0 = some ⟨ocC0, odC0, .func (PySem.W.fnOf "__init__" "NoStep.__init__" (defArgs i_0) (defBody i_0) (defScope i_0) .none kVC0 dcC0 pmC0 anC0 cvC0 ctC0), slC0⟩)
    (vC0 : PySem.W.codeIn K cvC0 "NoStep.__init__" = true)
    (wC0 : PySem.W.keepIn K (.ref fC0) = true)
    (jC0 : PySem.W.isFn K (.ref fC0) = true)
    (aC1 : PySem.W.nsIn K mainGlobals "NoSlide" = some (some (.ref C1)))
    (lC1 : K.lookup C1 = some ⟨.type "type", ddC1, .cls cdC1, #[sC10, sC11, sC12, sC13, some (.builtin "ValueError.__new__"), sC15]⟩)
    (mC1 : cdC1.mro = .ref C1 :: .ref CR :: bmV)
    (eC1 : cdC1.hasDel = false)
    (dC1 : cdC1.hasDict = true)
    (kC1 : PySem.W.keepIn K (.ref C1) = true)
    (saC1 : PySem.W.findIn K (.ref C1) "__setattr__" = some (some (.builtin "object.__setattr__")))
    (gaC1 : PySem.W.findIn K (.ref C1) "__getattribute__" = some (some (.builtin "BaseException.__getattribute__")))
    (gnC1 : PySem.W.findIn K (.ref C1) "__getattr__" = some (none))
    (caC1 : PySem.W.findIn K (.ref C1) "__class__" = some (some (.builtin "object.__class__")))
    (xC10 : PySem.W.findIn K (.ref C1) "place" = some none)
    (iC1 : PySem.W.findIn K (.ref C1) "__init__" = some (some (.ref fC1)))
    (uC1 : K.lookup fC1 = some ⟨ocC1, odC1, .func (PySem.W.fnOf "__init__" "NoSlide.__init__" (defArgs i_1) (defBody i_1) (defScope i_1) .none kVC1 dcC1 pmC1 anC1 cvC1 ctC1), slC1⟩)
    (vC1 : PySem.W.codeIn K cvC1 "NoSlide.__init__" = true)
    (wC1 : PySem.W.keepIn K (.ref fC1) = true)
    (jC1 : PySem.W.isFn K (.ref fC1) = true)
    (aC2 : PySem.W.nsIn K mainGlobals "NoBand" = some (some (.ref C2)))
    (lC2 : K.lookup C2 = some ⟨.type "type", ddC2, .cls cdC2, #[sC20, sC21, sC22, sC23, some (.builtin "ValueError.__new__"), sC25]⟩)
    (mC2 : cdC2.mro = .ref C2 :: .ref CR :: bmV)
    (eC2 : cdC2.hasDel = false)
    (dC2 : cdC2.hasDict = true)
    (kC2 : PySem.W.keepIn K (.ref C2) = true)
    (saC2 : PySem.W.findIn K (.ref C2) "__setattr__" = some (some (.builtin "object.__setattr__")))
    (gaC2 : PySem.W.findIn K (.ref C2) "__getattribute__" = some (some (.builtin "BaseException.__getattribute__")))
    (gnC2 : PySem.W.findIn K (.ref C2) "__getattr__" = some (none))
    (caC2 : PySem.W.findIn K (.ref C2) "__class__" = some (some (.builtin "object.__class__")))
    (xC20 : PySem.W.findIn K (.ref C2) "letter" = some none)
    (iC2 : PySem.W.findIn K (.ref C2) "__init__" = some (some (.ref fC2)))
    (uC2 : K.lookup fC2 = some ⟨ocC2, odC2, .func (PySem.W.fnOf "__init__" "NoBand.__init__" (defArgs i_2) (defBody i_2) (defScope i_2) .none kVC2 dcC2 pmC2 anC2 cvC2 ctC2), slC2⟩)
    (vC2 : PySem.W.codeIn K cvC2 "NoBand.__init__" = true)
    (wC2 : PySem.W.keepIn K (.ref fC2) = true)
    (jC2 : PySem.W.isFn K (.ref fC2) = true)
    (aC3 : PySem.W.nsIn K mainGlobals "NoRow" = some (some (.ref C3)))
    (lC3 : K.lookup C3 = some ⟨.type "type", ddC3, .cls cdC3, #[sC30, sC31, sC32, sC33, some (.builtin "ValueError.__new__"), sC35]⟩)
    (mC3 : cdC3.mro = .ref C3 :: .ref CR :: bmV)
    (eC3 : cdC3.hasDel = false)
    (dC3 : cdC3.hasDict = true)
    (kC3 : PySem.W.keepIn K (.ref C3) = true)
    (saC3 : PySem.W.findIn K (.ref C3) "__setattr__" = some (some (.builtin "object.__setattr__")))
    (gaC3 : PySem.W.findIn K (.ref C3) "__getattribute__" = some (some (.builtin "BaseException.__getattribute__")))
    (gnC3 : PySem.W.findIn K (.ref C3) "__getattr__" = some (none))
    (caC3 : PySem.W.findIn K (.ref C3) "__class__" = some (some (.builtin "object.__class__")))
    (xC30 : PySem.W.findIn K (.ref C3) "row" = some none)
    (iC3 : PySem.W.findIn K (.ref C3) "__init__" = some (some (.ref fC3)))
    (uC3 : K.lookup fC3 = some ⟨ocC3, odC3, .func (PySem.W.fnOf "__init__" "NoRow.__init__" (defArgs i_3) (defBody i_3) (defScope i_3) .none kVC3 dcC3 pmC3 anC3 cvC3 ctC3), slC3⟩)
    (vC3 : PySem.W.codeIn K cvC3 "NoRow.__init__" = true)
    (wC3 : PySem.W.keepIn K (.ref fC3) = true)
    (jC3 : PySem.W.isFn K (.ref fC3) = true)
    (aC4 : PySem.W.nsIn K mainGlobals "NoWay" = some (some (.ref C4)))
    (lC4 : K.lookup C4 = some ⟨.type "type", ddC4, .cls cdC4, #[sC40, sC41, sC42, sC43, some (.builtin "ValueError.__new__"), sC45]⟩)
    (mC4 : cdC4.mro = .ref C4 :: .ref CR :: bmV)
    (eC4 : cdC4.hasDel = false)
    (dC4 : cdC4.hasDict = true)
    (kC4 : PySem.W.keepIn K (.ref C4) = true)
    (saC4 : PySem.W.findIn K (.ref C4) "__setattr__" = some (some (.builtin "object.__setattr__")))
    (gaC4 : PySem.W.findIn K (.ref C4) "__getattribute__" = some (some (.builtin "BaseException.__getattribute__")))
    (gnC4 : PySem.W.findIn K (.ref C4) "__getattr__" = some (none))
    (caC4 : PySem.W.findIn K (.ref C4) "__class__" = some (some (.builtin "object.__class__")))
    (xC40 : PySem.W.findIn K (.ref C4) "name" = some none)
    (iC4 : PySem.W.findIn K (.ref C4) "__init__" = some (some (.ref fC4)))
    (uC4 : K.lookup fC4 = some ⟨ocC4, odC4, .func (PySem.W.fnOf "__init__" "NoWay.__init__" (defArgs i_4) (defBody i_4) (defScope i_4) .none kVC4 dcC4 pmC4 anC4 cvC4 ctC4), slC4⟩)
    (vC4 : PySem.W.codeIn K cvC4 "NoWay.__init__" = true)
    (wC4 : PySem.W.keepIn K (.ref fC4) = true)
    (jC4 : PySem.W.isFn K (.ref fC4) = true)
    (aC5 : PySem.W.nsIn K mainGlobals "NoText" = some (some (.ref C5)))
    (lC5 : K.lookup C5 = some ⟨.type "type", ddC5, .cls cdC5, #[sC50, sC51, sC52, sC53, some (.builtin "ValueError.__new__"), sC55]⟩)
    (mC5 : cdC5.mro = .ref C5 :: .ref CR :: bmV)
    (eC5 : cdC5.hasDel = false)
    (dC5 : cdC5.hasDict = true)
    (kC5 : PySem.W.keepIn K (.ref C5) = true)
    (saC5 : PySem.W.findIn K (.ref C5) "__setattr__" = some (some (.builtin "object.__setattr__")))
    (gaC5 : PySem.W.findIn K (.ref C5) "__getattribute__" = some (some (.builtin "BaseException.__getattribute__")))
    (gnC5 : PySem.W.findIn K (.ref C5) "__getattr__" = some (none))
    (caC5 : PySem.W.findIn K (.ref C5) "__class__" = some (some (.builtin "object.__class__")))
    (xC50 : PySem.W.findIn K (.ref C5) "step" = some none)
    (xC51 : PySem.W.findIn K (.ref C5) "word" = some none)
    (iC5 : PySem.W.findIn K (.ref C5) "__init__" = some (some (.ref fC5)))
    (uC5 : K.lookup fC5 = some ⟨ocC5, odC5, .func (PySem.W.fnOf "__init__" "NoText.__init__" (defArgs i_5) (defBody i_5) (defScope i_5) .none kVC5 dcC5 pmC5 anC5 cvC5 ctC5), slC5⟩)
    (vC5 : PySem.W.codeIn K cvC5 "NoText.__init__" = true)
    (wC5 : PySem.W.keepIn K (.ref fC5) = true)
    (jC5 : PySem.W.isFn K (.ref fC5) = true)
    (aC6 : PySem.W.nsIn K mainGlobals "NoPaper" = some (some (.ref C6)))
    (lC6 : K.lookup C6 = some ⟨.type "type", ddC6, .cls cdC6, #[sC60, sC61, sC62, sC63, some (.builtin "ValueError.__new__"), sC65]⟩)
    (mC6 : cdC6.mro = .ref C6 :: .ref CR :: bmV)
    (eC6 : cdC6.hasDel = false)
    (dC6 : cdC6.hasDict = true)
    (kC6 : PySem.W.keepIn K (.ref C6) = true)
    (saC6 : PySem.W.findIn K (.ref C6) "__setattr__" = some (some (.builtin "object.__setattr__")))
    (gaC6 : PySem.W.findIn K (.ref C6) "__getattribute__" = some (some (.builtin "BaseException.__getattribute__")))
    (gnC6 : PySem.W.findIn K (.ref C6) "__getattr__" = some (none))
    (caC6 : PySem.W.findIn K (.ref C6) "__class__" = some (some (.builtin "object.__class__")))
    (xC60 : PySem.W.findIn K (.ref C6) "word" = some none)
    (xC61 : PySem.W.findIn K (.ref C6) "at" = some none)
    (iC6 : PySem.W.findIn K (.ref C6) "__init__" = some (some (.ref fC6)))
    (uC6 : K.lookup fC6 = some ⟨ocC6, odC6, .func (PySem.W.fnOf "__init__" "NoPaper.__init__" (defArgs i_6) (defBody i_6) (defScope i_6) .none kVC6 dcC6 pmC6 anC6 cvC6 ctC6), slC6⟩)
    (vC6 : PySem.W.codeIn K cvC6 "NoPaper.__init__" = true)
    (wC6 : PySem.W.keepIn K (.ref fC6) = true)
    (jC6 : PySem.W.isFn K (.ref fC6) = true)
    (aC7 : PySem.W.nsIn K mainGlobals "NoSurface" = some (some (.ref C7)))
    (lC7 : K.lookup C7 = some ⟨.type "type", ddC7, .cls cdC7, #[sC70, sC71, sC72, sC73, some (.builtin "ValueError.__new__"), sC75]⟩)
    (mC7 : cdC7.mro = .ref C7 :: .ref CR :: bmV)
    (eC7 : cdC7.hasDel = false)
    (dC7 : cdC7.hasDict = true)
    (kC7 : PySem.W.keepIn K (.ref C7) = true)
    (saC7 : PySem.W.findIn K (.ref C7) "__setattr__" = some (some (.builtin "object.__setattr__")))
    (gaC7 : PySem.W.findIn K (.ref C7) "__getattribute__" = some (some (.builtin "BaseException.__getattribute__")))
    (gnC7 : PySem.W.findIn K (.ref C7) "__getattr__" = some (none))
    (caC7 : PySem.W.findIn K (.ref C7) "__class__" = some (some (.builtin "object.__class__")))
    (xC70 : PySem.W.findIn K (.ref C7) "letters" = some none)
    (xC71 : PySem.W.findIn K (.ref C7) "holes" = some none)
    (iC7 : PySem.W.findIn K (.ref C7) "__init__" = some (some (.ref fC7)))
    (uC7 : K.lookup fC7 = some ⟨ocC7, odC7, .func (PySem.W.fnOf "__init__" "NoSurface.__init__" (defArgs i_7) (defBody i_7) (defScope i_7) .none kVC7 dcC7 pmC7 anC7 cvC7 ctC7), slC7⟩)
    (vC7 : PySem.W.codeIn K cvC7 "NoSurface.__init__" = true)
    (wC7 : PySem.W.keepIn K (.ref fC7) = true)
    (jC7 : PySem.W.isFn K (.ref fC7) = true)
    (aC8 : PySem.W.nsIn K mainGlobals "NoThin" = some (some (.ref C8)))
    (lC8 : K.lookup C8 = some ⟨.type "type", ddC8, .cls cdC8, #[sC80, sC81, sC82, sC83, some (.builtin "ValueError.__new__"), sC85]⟩)
    (mC8 : cdC8.mro = .ref C8 :: .ref CR :: bmV)
    (eC8 : cdC8.hasDel = false)
    (dC8 : cdC8.hasDict = true)
    (kC8 : PySem.W.keepIn K (.ref C8) = true)
    (saC8 : PySem.W.findIn K (.ref C8) "__setattr__" = some (some (.builtin "object.__setattr__")))
    (gaC8 : PySem.W.findIn K (.ref C8) "__getattribute__" = some (some (.builtin "BaseException.__getattribute__")))
    (gnC8 : PySem.W.findIn K (.ref C8) "__getattr__" = some (none))
    (caC8 : PySem.W.findIn K (.ref C8) "__class__" = some (some (.builtin "object.__class__")))
    (xC80 : PySem.W.findIn K (.ref C8) "turn" = some none)
    (xC81 : PySem.W.findIn K (.ref C8) "other" = some none)
    (xC82 : PySem.W.findIn K (.ref C8) "piece" = some none)
    (iC8 : PySem.W.findIn K (.ref C8) "__init__" = some (some (.ref fC8)))
    (uC8 : K.lookup fC8 = some ⟨ocC8, odC8, .func (PySem.W.fnOf "__init__" "NoThin.__init__" (defArgs i_8) (defBody i_8) (defScope i_8) .none kVC8 dcC8 pmC8 anC8 cvC8 ctC8), slC8⟩)
    (vC8 : PySem.W.codeIn K cvC8 "NoThin.__init__" = true)
    (wC8 : PySem.W.keepIn K (.ref fC8) = true)
    (jC8 : PySem.W.isFn K (.ref fC8) = true)
    (nd : ([C0, C1, C2, C3, C4, C5, C6, C7, C8] ++ [CR] : List Addr).Nodup) :
    ∃ fd : FuncData, (∀ (s : Shared) (v : Value), BindsTo s fd ⟨[v], []⟩ [("_law_script", v)]) ∧ ∀ base : Heap, K.In base → base.Ns mainGlobals mg → FnOk l.prog w K mg base CX0 5 fa fd ["_law_script"] (spLaw K) := by
  have e := hfa.symm.trans (PySem.W.mg_of X G a6)
  cases e
  have T : Bt0 mg := ⟨PySem.W.mg_none_of X G z_len, PySem.W.mg_none_of X G z_repr, PySem.W.mg_none_of X G z_abs, PySem.W.mg_none_of X G z_max, PySem.W.mg_none_of X G z_int, PySem.W.mg_none_of X G z_list, PySem.W.mg_none_of X G z_range, PySem.W.mg_none_of X G z_reversed, PySem.W.mg_none_of X G z_min, PySem.W.mg_none_of X G z_sorted, PySem.W.mg_none_of X G z_tuple, PySem.W.mg_none_of X G z_isinstance, PySem.W.mg_none_of X G z_all, PySem.W.mg_none_of X G z_str, PySem.W.mg_none_of X G z_zip⟩
  have XCR : XCl K CR bmV := xcl_of lCR mCR eCR dCR tail_base kCR
  have ACR : XAt K CR := ⟨⟨_, XCR⟩, saCR, gaCR, gnCR⟩
  have GCR : mg "RingError" = some (.ref CR) := PySem.W.mg_of X G aCR
  have BCR : XBase K CR := ⟨rdCR, atCR, gtCR, hdI⟩
  have CCR : XCa K CR := ⟨ACR, caCR, cgt, ctk⟩
  have XC0 : XCl K C0 (.ref CR :: bmV) := xcl_of lC0 mC0 eC0 dC0 (tail_own lCR (by rw [nCR]; exact nsok_of oCR pCR) (by rw [nCR]; exact qCR) tail_base) kC0
  have AC0 : XAt K C0 := ⟨⟨_, XC0⟩, saC0, gaC0, gnC0⟩
  have CC0 : XCa K C0 := ⟨AC0, caC0, cgt, ctk⟩
  have IC0 := fun base : Heap => c_i0 (P := l.prog) (w := w) (mg := mg) (base := base) (fun_mk uC0 vC0 wC0) BCR GCR AC0 xC00
  have MC0 : ∀ base : Heap, XMk l.prog w K mg base "NoStep" C0 ["place"] 1 := fun base => ⟨PySem.W.mg_of X G aC0, CC0, by intro f hf; simp only [List.mem_cons, List.not_mem_nil, or_false] at hf; rcases hf with rfl <;> assumption, ⟨_, _, _, XC0, iC0, jC0, (IC0 base).1, (IC0 base).2⟩⟩
  have XC1 : XCl K C1 (.ref CR :: bmV) := xcl_of lC1 mC1 eC1 dC1 (tail_own lCR (by rw [nCR]; exact nsok_of oCR pCR) (by rw [nCR]; exact qCR) tail_base) kC1
  have AC1 : XAt K C1 := ⟨⟨_, XC1⟩, saC1, gaC1, gnC1⟩
  have CC1 : XCa K C1 := ⟨AC1, caC1, cgt, ctk⟩
  have IC1 := fun base : Heap => c_i1 (P := l.prog) (w := w) (mg := mg) (base := base) (fun_mk uC1 vC1 wC1) BCR GCR AC1 xC10
  have MC1 : ∀ base : Heap, XMk l.prog w K mg base "NoSlide" C1 ["place"] 1 := fun base => ⟨PySem.W.mg_of X G aC1, CC1, by intro f hf; simp only [List.mem_cons, List.not_mem_nil, or_false] at hf; rcases hf with rfl <;> assumption, ⟨_, _, _, XC1, iC1, jC1, (IC1 base).1, (IC1 base).2⟩⟩
  have XC2 : XCl K C2 (.ref CR :: bmV) := xcl_of lC2 mC2 eC2 dC2 (tail_own lCR (by rw [nCR]; exact nsok_of oCR pCR) (by rw [nCR]; exact qCR) tail_base) kC2
  have AC2 : XAt K C2 := ⟨⟨_, XC2⟩, saC2, gaC2, gnC2⟩
  have CC2 : XCa K C2 := ⟨AC2, caC2, cgt, ctk⟩
  have IC2 := fun base : Heap => c_i2 (P := l.prog) (w := w) (mg := mg) (base := base) (fun_mk uC2 vC2 wC2) BCR GCR AC2 xC20
  have MC2 : ∀ base : Heap, XMk l.prog w K mg base "NoBand" C2 ["letter"] 1 := fun base => ⟨PySem.W.mg_of X G aC2, CC2, by intro f hf; simp only [List.mem_cons, List.not_mem_nil, or_false] at hf; rcases hf with rfl <;> assumption, ⟨_, _, _, XC2, iC2, jC2, (IC2 base).1, (IC2 base).2⟩⟩
  have XC3 : XCl K C3 (.ref CR :: bmV) := xcl_of lC3 mC3 eC3 dC3 (tail_own lCR (by rw [nCR]; exact nsok_of oCR pCR) (by rw [nCR]; exact qCR) tail_base) kC3
  have AC3 : XAt K C3 := ⟨⟨_, XC3⟩, saC3, gaC3, gnC3⟩
  have CC3 : XCa K C3 := ⟨AC3, caC3, cgt, ctk⟩
  have IC3 := fun base : Heap => c_i3 (P := l.prog) (w := w) (mg := mg) (base := base) (fun_mk uC3 vC3 wC3) BCR GCR AC3 xC30
  have MC3 : ∀ base : Heap, XMk l.prog w K mg base "NoRow" C3 ["row"] 1 := fun base => ⟨PySem.W.mg_of X G aC3, CC3, by intro f hf; simp only [List.mem_cons, List.not_mem_nil, or_false] at hf; rcases hf with rfl <;> assumption, ⟨_, _, _, XC3, iC3, jC3, (IC3 base).1, (IC3 base).2⟩⟩
  have XC4 : XCl K C4 (.ref CR :: bmV) := xcl_of lC4 mC4 eC4 dC4 (tail_own lCR (by rw [nCR]; exact nsok_of oCR pCR) (by rw [nCR]; exact qCR) tail_base) kC4
  have AC4 : XAt K C4 := ⟨⟨_, XC4⟩, saC4, gaC4, gnC4⟩
  have CC4 : XCa K C4 := ⟨AC4, caC4, cgt, ctk⟩
  have IC4 := fun base : Heap => c_i4 (P := l.prog) (w := w) (mg := mg) (base := base) (fun_mk uC4 vC4 wC4) BCR GCR AC4 xC40
  have MC4 : ∀ base : Heap, XMk l.prog w K mg base "NoWay" C4 ["name"] 1 := fun base => ⟨PySem.W.mg_of X G aC4, CC4, by intro f hf; simp only [List.mem_cons, List.not_mem_nil, or_false] at hf; rcases hf with rfl <;> assumption, ⟨_, _, _, XC4, iC4, jC4, (IC4 base).1, (IC4 base).2⟩⟩
  have XC5 : XCl K C5 (.ref CR :: bmV) := xcl_of lC5 mC5 eC5 dC5 (tail_own lCR (by rw [nCR]; exact nsok_of oCR pCR) (by rw [nCR]; exact qCR) tail_base) kC5
  have AC5 : XAt K C5 := ⟨⟨_, XC5⟩, saC5, gaC5, gnC5⟩
  have CC5 : XCa K C5 := ⟨AC5, caC5, cgt, ctk⟩
  have IC5 := fun base : Heap => c_i5 (P := l.prog) (w := w) (mg := mg) (base := base) (fun_mk uC5 vC5 wC5) BCR GCR AC5 xC50 xC51
  have MC5 : ∀ base : Heap, XMk l.prog w K mg base "NoText" C5 ["step", "word"] 1 := fun base => ⟨PySem.W.mg_of X G aC5, CC5, by intro f hf; simp only [List.mem_cons, List.not_mem_nil, or_false] at hf; rcases hf with rfl | rfl <;> assumption, ⟨_, _, _, XC5, iC5, jC5, (IC5 base).1, (IC5 base).2⟩⟩
  have XC6 : XCl K C6 (.ref CR :: bmV) := xcl_of lC6 mC6 eC6 dC6 (tail_own lCR (by rw [nCR]; exact nsok_of oCR pCR) (by rw [nCR]; exact qCR) tail_base) kC6
  have AC6 : XAt K C6 := ⟨⟨_, XC6⟩, saC6, gaC6, gnC6⟩
  have CC6 : XCa K C6 := ⟨AC6, caC6, cgt, ctk⟩
  have IC6 := fun base : Heap => c_i6 (P := l.prog) (w := w) (mg := mg) (base := base) (fun_mk uC6 vC6 wC6) BCR GCR AC6 xC60 xC61
  have MC6 : ∀ base : Heap, XMk l.prog w K mg base "NoPaper" C6 ["word", "at"] 1 := fun base => ⟨PySem.W.mg_of X G aC6, CC6, by intro f hf; simp only [List.mem_cons, List.not_mem_nil, or_false] at hf; rcases hf with rfl | rfl <;> assumption, ⟨_, _, _, XC6, iC6, jC6, (IC6 base).1, (IC6 base).2⟩⟩
  have XC7 : XCl K C7 (.ref CR :: bmV) := xcl_of lC7 mC7 eC7 dC7 (tail_own lCR (by rw [nCR]; exact nsok_of oCR pCR) (by rw [nCR]; exact qCR) tail_base) kC7
  have AC7 : XAt K C7 := ⟨⟨_, XC7⟩, saC7, gaC7, gnC7⟩
  have CC7 : XCa K C7 := ⟨AC7, caC7, cgt, ctk⟩
  have IC7 := fun base : Heap => c_i7 (P := l.prog) (w := w) (mg := mg) (base := base) (fun_mk uC7 vC7 wC7) BCR GCR AC7 xC70 xC71
  have MC7 : ∀ base : Heap, XMk l.prog w K mg base "NoSurface" C7 ["letters", "holes"] 1 := fun base => ⟨PySem.W.mg_of X G aC7, CC7, by intro f hf; simp only [List.mem_cons, List.not_mem_nil, or_false] at hf; rcases hf with rfl | rfl <;> assumption, ⟨_, _, _, XC7, iC7, jC7, (IC7 base).1, (IC7 base).2⟩⟩
  have XC8 : XCl K C8 (.ref CR :: bmV) := xcl_of lC8 mC8 eC8 dC8 (tail_own lCR (by rw [nCR]; exact nsok_of oCR pCR) (by rw [nCR]; exact qCR) tail_base) kC8
  have AC8 : XAt K C8 := ⟨⟨_, XC8⟩, saC8, gaC8, gnC8⟩
  have CC8 : XCa K C8 := ⟨AC8, caC8, cgt, ctk⟩
  have IC8 := fun base : Heap => c_i8 (P := l.prog) (w := w) (mg := mg) (base := base) (fun_mk uC8 vC8 wC8) BCR GCR AC8 xC80 xC81 xC82
  have MC8 : ∀ base : Heap, XMk l.prog w K mg base "NoThin" C8 ["turn", "other", "piece"] 1 := fun base => ⟨PySem.W.mg_of X G aC8, CC8, by intro f hf; simp only [List.mem_cons, List.not_mem_nil, or_false] at hf; rcases hf with rfl | rfl | rfl <;> assumption, ⟨_, _, _, XC8, iC8, jC8, (IC8 base).1, (IC8 base).2⟩⟩
  have KCC : KC K mg (fun n => ([C0, C1, C2, C3, C4, C5, C6, C7, C8] ++ [CR]).getD n CR) := ⟨GCR, PySem.W.mg_none_of X G zV, PySem.W.mg_of X G aC0, PySem.W.mg_of X G aC1, PySem.W.mg_of X G aC2, PySem.W.mg_of X G aC3, PySem.W.mg_of X G aC4, PySem.W.mg_of X G aC5, PySem.W.mg_of X G aC6, PySem.W.mg_of X G aC7, PySem.W.mg_of X G aC8, fun n hn => match n, hn with | 0, _ => CC0 | 1, _ => CC1 | 2, _ => CC2 | 3, _ => CC3 | 4, _ => CC4 | 5, _ => CC5 | 6, _ => CC6 | 7, _ => CC7 | 8, _ => CC8 | 9, _ => CCR | _ + 10, h => absurd h (by omega), fun n hn => match n, hn with | 0, _ => ⟨_, XC0, by simp⟩ | 1, _ => ⟨_, XC1, by simp⟩ | 2, _ => ⟨_, XC2, by simp⟩ | 3, _ => ⟨_, XC3, by simp⟩ | 4, _ => ⟨_, XC4, by simp⟩ | 5, _ => ⟨_, XC5, by simp⟩ | 6, _ => ⟨_, XC6, by simp⟩ | 7, _ => ⟨_, XC7, by simp⟩ | 8, _ => ⟨_, XC8, by simp⟩ | 9, _ => ⟨_, XCR, by simp⟩ | _ + 10, h => absurd h (by omega), kit_all rfl nd (by intro C hC; simp only [List.mem_cons, List.not_mem_nil, or_false] at hC; rcases hC with rfl | rfl | rfl | rfl | rfl | rfl | rfl | rfl | rfl <;> assumption) XCR, fun n hn => match n, hn with | 0, _ => kit_ty X XC0 rfl rfl | 1, _ => kit_ty X XC1 rfl rfl | 2, _ => kit_ty X XC2 rfl rfl | 3, _ => kit_ty X XC3 rfl rfl | 4, _ => kit_ty X XC4 rfl rfl | 5, _ => kit_ty X XC5 rfl rfl | 6, _ => kit_ty X XC6 rfl rfl | 7, _ => kit_ty X XC7 rfl rfl | 8, _ => kit_ty X XC8 rfl rfl | 9, _ => kit_ty X XCR rfl rfl | _ + 10, h => absurd h (by omega), fun n f hn hf => match n, hn, hf with | 0, _, hf => by simp only [flds, List.mem_cons, List.not_mem_nil, or_false] at hf; rcases hf with rfl <;> assumption | 1, _, hf => by simp only [flds, List.mem_cons, List.not_mem_nil, or_false] at hf; rcases hf with rfl <;> assumption | 2, _, hf => by simp only [flds, List.mem_cons, List.not_mem_nil, or_false] at hf; rcases hf with rfl <;> assumption | 3, _, hf => by simp only [flds, List.mem_cons, List.not_mem_nil, or_false] at hf; rcases hf with rfl <;> assumption | 4, _, hf => by simp only [flds, List.mem_cons, List.not_mem_nil, or_false] at hf; rcases hf with rfl <;> assumption | 5, _, hf => by simp only [flds, List.mem_cons, List.not_mem_nil, or_false] at hf; rcases hf with rfl | rfl <;> assumption | 6, _, hf => by simp only [flds, List.mem_cons, List.not_mem_nil, or_false] at hf; rcases hf with rfl | rfl <;> assumption | 7, _, hf => by simp only [flds, List.mem_cons, List.not_mem_nil, or_false] at hf; rcases hf with rfl | rfl <;> assumption | 8, _, hf => by simp only [flds, List.mem_cons, List.not_mem_nil, or_false] at hf; rcases hf with rfl | rfl | rfl <;> assumption | _ + 9, h, _ => absurd h (by omega)⟩
  have MR : XMk0 K mg "RingError" CR := ⟨GCR, CCR, ⟨_, XCR⟩, iCR⟩
  refine ⟨PySem.W.fnOf "law" "law" (defArgs s_law) (defBody s_law) (defScope s_law) .none kV6 dc6 pm6 an6 cd6 ct6, fun s v => .of_eq rfl, fun base _ _ => ?_⟩
  have F_feed := c_feed (P := l.prog) (w := w) (base := base) (df_mk X G a0 l0 c0 k0) T
  have F_draw := c_draw (P := l.prog) (w := w) (base := base) (df_mk X G a1 l1 c1 k1) T
  have F_raise1 := c_raise1 (P := l.prog) (w := w) (base := base) (df_mk X G a2 l2 c2 k2) (c := fun n => ([C0, C1, C2, C3, C4, C5, C6, C7, C8] ++ [CR]).getD n CR) (MC0 _) (MC1 _) (MC2 _) (MC3 _) (MC4 _)
  have F_raise := c_raise (P := l.prog) (w := w) (base := base) (df_mk X G a3 l3 c3 k3) F_raise1 (MC5 _) (MC6 _) (MC7 _) (MC8 _) MR
  have F_fields := c_fields (P := l.prog) (w := w) (base := base) (df_mk X G a4 l4 c4 k4) T KCC
  have F_kinds := c_kinds (P := l.prog) (w := w) (base := base) (df_mk X G a5 l5 c5 k5) T KCC
  exact c_law (fun_mk l6 c6 k6) T F_feed F_draw KCC XCR F_raise F_kinds F_fields
theorem walk {l : PySem.W.OpenLaw} {q : Program} {loose : List Str} {XP : (Str → Option Value) → Heap → Prop} {YP : World → Heap → Prop} {d : DefRec} {K : Params → PySem.W.Frag} (hn : l.most = some 63) (hdf : d.params.defaults = [])
    (hY : ∀ (w : World) (h : Heap), YP w h → (K w.params).In h)
    (F : ∀ (w : World) (mg : Str → Option Value) (fa : Addr) (h : Heap), (K w.params).In h → h.Ns mainGlobals mg → mg d.name = some (.ref fa) →
      ∃ fd : FuncData, (∀ (s : Shared) (u : Value), BindsTo s fd ⟨[u], []⟩ [("_law_script", u)]) ∧ ∀ base : Heap, (K w.params).In base → base.Ns mainGlobals mg → FnOk l.prog w (K w.params) mg base CX0 5 fa fd ["_law_script"] (spLaw (K w.params))) :
    PySem.W.WalkO q loose XP YP l.row.toRowW d [] (fun f vs => PySem.call f vs) :=
  L2.walk_of (n := 63) (k := 5) (x := "_law_script") (CX := fun _ => CX0) (sp := fun w => spLaw (K w.params)) hn (by decide) hdf ⟨rfl, by decide, by decide, rfl⟩ hY F (fun _ _ a ns hl _ hS => ⟨a, ns, rfl, hS, hl, fun _ => rfl⟩) fun _ _ _ _ _ z => z
end Kx
namespace Kx
open PySem
noncomputable def fastS (s : String) : Str := ⟨⟨PySem.W.R.mapR Char.toNat (PySem.W.S.toListS s)⟩⟩
theorem fastS_eq : Str.ofString = fastS := by
  funext s
  rw [Str.ofString_eq_toList, PySem.W.S.toListS_eq]
  show _ = (⟨⟨PySem.W.R.mapR Char.toNat (PySem.W.S.toListS s)⟩⟩ : Str)
  rw [← PySem.W.R.mapR_eq]
noncomputable def apG (G : (String → Str) → Program) (x : String → Str) : Program := G x
noncomputable def Gs : { G : (String → Str) → Program // apG G Str.ofString = PySem.Challenge.pw_ringwords_k25_refusals_apart } := by
  refine ⟨?G, ?h⟩
  case h =>
    delta PySem.Challenge.pw_ringwords_k25_refusals_apart
    generalize Str.ofString = x
    exact rfl
end Kx
noncomputable def PySem.W.Fast.tw5397216441124454016 : PySem.Program := Kx.Gs.1 Kx.fastS
theorem PySem.W.Fast.te5397216441124454016 : PySem.Challenge.pw_ringwords_k25_refusals_apart = PySem.W.Fast.tw5397216441124454016 := Kx.Gs.2.symm.trans (congrArg (Kx.apG Kx.Gs.1) Kx.fastS_eq)
theorem PySem.W.Fast.te1871896351429906602 : True := trivial
open PySem PySem.W PyProof.Rows
set_option maxRecDepth 100000 in
set_option maxHeartbeats 0 in
theorem PySem.Challenge.cw_ringwords_k25_refusals_apart_holds : PySem.Challenge.rw_ringwords_k25_refusals_apart.Holds := by
  w_on; o_law; k_head; (case hw => w_witness2)
  k_fill
  refine Kx.walk (l := PySem.Challenge.rw_ringwords_k25_refusals_apart) rfl rfl (fun w h Y => PySem.W.kIn_of Y) ?F
  case F =>
    intro w mg fa h KX G hmg
    refine' Kx.all_mk KX G hmg ?a0 ?l0 ?c0 ?k0 ?a1 ?l1 ?c1 ?k1 ?a2 ?l2 ?c2 ?k2 ?a3 ?l3 ?c3 ?k3 ?a4 ?l4 ?c4 ?k4 ?a5 ?l5 ?c5 ?k5 ?a6 ?l6 ?c6 ?k6 ?z_len ?z_repr ?z_abs ?z_max ?z_int ?z_list ?z_range ?z_reversed ?z_min ?z_sorted ?z_tuple ?z_isinstance ?z_all ?z_str ?z_zip ?zV ?aCR ?lCR ?mCR ?eCR ?dCR ?kCR ?saCR ?gaCR ?gnCR ?caCR ?nCR ?oCR ?pCR ?qCR ?rdCR ?atCR ?gtCR ?hdI ?cgt ?ctk ?iCR ?aC0 ?lC0 ?mC0 ?eC0 ?dC0 ?kC0 ?saC0 ?gaC0 ?gnC0 ?caC0 ?xC00 ?iC0 ?uC0 ?vC0 ?wC0 ?jC0 ?aC1 ?lC1 ?mC1 ?eC1 ?dC1 ?kC1 ?saC1 ?gaC1 ?gnC1 ?caC1 ?xC10 ?iC1 ?uC1 ?vC1 ?wC1 ?jC1 ?aC2 ?lC2 ?mC2 ?eC2 ?dC2 ?kC2 ?saC2 ?gaC2 ?gnC2 ?caC2 ?xC20 ?iC2 ?uC2 ?vC2 ?wC2 ?jC2 ?aC3 ?lC3 ?mC3 ?eC3 ?dC3 ?kC3 ?saC3 ?gaC3 ?gnC3 ?caC3 ?xC30 ?iC3 ?uC3 ?vC3 ?wC3 ?jC3 ?aC4 ?lC4 ?mC4 ?eC4 ?dC4 ?kC4 ?saC4 ?gaC4 ?gnC4 ?caC4 ?xC40 ?iC4 ?uC4 ?vC4 ?wC4 ?jC4 ?aC5 ?lC5 ?mC5 ?eC5 ?dC5 ?kC5 ?saC5 ?gaC5 ?gnC5 ?caC5 ?xC50 ?xC51 ?iC5 ?uC5 ?vC5 ?wC5 ?jC5 ?aC6 ?lC6 ?mC6 ?eC6 ?dC6 ?kC6 ?saC6 ?gaC6 ?gnC6 ?caC6 ?xC60 ?xC61 ?iC6 ?uC6 ?vC6 ?wC6 ?jC6 ?aC7 ?lC7 ?mC7 ?eC7 ?dC7 ?kC7 ?saC7 ?gaC7 ?gnC7 ?caC7 ?xC70 ?xC71 ?iC7 ?uC7 ?vC7 ?wC7 ?jC7 ?aC8 ?lC8 ?mC8 ?eC8 ?dC8 ?kC8 ?saC8 ?gaC8 ?gnC8 ?caC8 ?xC80 ?xC81 ?xC82 ?iC8 ?uC8 ?vC8 ?wC8 ?jC8 ?nd
    (case a0 => k_is)
    (case l0 => k_is)
    (case c0 => k_is)
    (case k0 => k_is)
    (case a1 => k_is)
    (case l1 => k_is)
    (case c1 => k_is)
    (case k1 => k_is)
    (case a2 => k_is)
    (case l2 => k_is)
    (case c2 => k_is)
    (case k2 => k_is)
    (case a3 => k_is)
    (case l3 => k_is)
    (case c3 => k_is)
    (case k3 => k_is)
    (case a4 => k_is)
    (case l4 => k_is)
    (case c4 => k_is)
    (case k4 => k_is)
    (case a5 => k_is)
    (case l5 => k_is)
    (case c5 => k_is)
    (case k5 => k_is)
    (case a6 => k_is)
    (case l6 => k_is)
    (case c6 => k_is)
    (case k6 => k_is)
    (case z_len => k_is)
    (case z_repr => k_is)
    (case z_abs => k_is)
    (case z_max => k_is)
    (case z_int => k_is)
    (case z_list => k_is)
    (case z_range => k_is)
    (case z_reversed => k_is)
    (case z_min => k_is)
    (case z_sorted => k_is)
    (case z_tuple => k_is)
    (case z_isinstance => k_is)
    (case z_all => k_is)
    (case z_str => k_is)
    (case z_zip => k_is)
    (case zV => k_is)
    (case aCR => k_is)
    (case lCR => k_is)
    (case mCR => rfl)
    (case eCR => rfl)
    (case dCR => rfl)
    (case kCR => k_is)
    (case saCR => k_is)
    (case gaCR => k_is)
    (case gnCR => k_is)
    (case caCR => k_is)
    (case nCR => rfl)
    (case oCR => k_is)
    (case pCR => rfl)
    (case qCR => k_is)
    (case rdCR => k_is)
    (case atCR => k_is)
    (case gtCR => k_is)
    (case hdI => rfl)
    (case cgt => k_is)
    (case ctk => k_is)
    (case iCR => k_is)
    (case aC0 => k_is)
    (case lC0 => k_is)
    (case mC0 => rfl)
    (case eC0 => rfl)
    (case dC0 => rfl)
    (case kC0 => k_is)
    (case saC0 => k_is)
    (case gaC0 => k_is)
    (case gnC0 => k_is)
    (case caC0 => k_is)
    (case xC00 => k_is)
    (case iC0 => k_is)
    (case uC0 => k_is)
    (case vC0 => k_is)
    (case wC0 => k_is)
    (case jC0 => k_is)
    (case aC1 => k_is)
    (case lC1 => k_is)
    (case mC1 => rfl)
    (case eC1 => rfl)
    (case dC1 => rfl)
    (case kC1 => k_is)
    (case saC1 => k_is)
    (case gaC1 => k_is)
    (case gnC1 => k_is)
    (case caC1 => k_is)
    (case xC10 => k_is)
    (case iC1 => k_is)
    (case uC1 => k_is)
    (case vC1 => k_is)
    (case wC1 => k_is)
    (case jC1 => k_is)
    (case aC2 => k_is)
    (case lC2 => k_is)
    (case mC2 => rfl)
    (case eC2 => rfl)
    (case dC2 => rfl)
    (case kC2 => k_is)
    (case saC2 => k_is)
    (case gaC2 => k_is)
    (case gnC2 => k_is)
    (case caC2 => k_is)
    (case xC20 => k_is)
    (case iC2 => k_is)
    (case uC2 => k_is)
    (case vC2 => k_is)
    (case wC2 => k_is)
    (case jC2 => k_is)
    (case aC3 => k_is)
    (case lC3 => k_is)
    (case mC3 => rfl)
    (case eC3 => rfl)
    (case dC3 => rfl)
    (case kC3 => k_is)
    (case saC3 => k_is)
    (case gaC3 => k_is)
    (case gnC3 => k_is)
    (case caC3 => k_is)
    (case xC30 => k_is)
    (case iC3 => k_is)
    (case uC3 => k_is)
    (case vC3 => k_is)
    (case wC3 => k_is)
    (case jC3 => k_is)
    (case aC4 => k_is)
    (case lC4 => k_is)
    (case mC4 => rfl)
    (case eC4 => rfl)
    (case dC4 => rfl)
    (case kC4 => k_is)
    (case saC4 => k_is)
    (case gaC4 => k_is)
    (case gnC4 => k_is)
    (case caC4 => k_is)
    (case xC40 => k_is)
    (case iC4 => k_is)
    (case uC4 => k_is)
    (case vC4 => k_is)
    (case wC4 => k_is)
    (case jC4 => k_is)
    (case aC5 => k_is)
    (case lC5 => k_is)
    (case mC5 => rfl)
    (case eC5 => rfl)
    (case dC5 => rfl)
    (case kC5 => k_is)
    (case saC5 => k_is)
    (case gaC5 => k_is)
    (case gnC5 => k_is)
    (case caC5 => k_is)
    (case xC50 => k_is)
    (case xC51 => k_is)
    (case iC5 => k_is)
    (case uC5 => k_is)
    (case vC5 => k_is)
    (case wC5 => k_is)
    (case jC5 => k_is)
    (case aC6 => k_is)
    (case lC6 => k_is)
    (case mC6 => rfl)
    (case eC6 => rfl)
    (case dC6 => rfl)
    (case kC6 => k_is)
    (case saC6 => k_is)
    (case gaC6 => k_is)
    (case gnC6 => k_is)
    (case caC6 => k_is)
    (case xC60 => k_is)
    (case xC61 => k_is)
    (case iC6 => k_is)
    (case uC6 => k_is)
    (case vC6 => k_is)
    (case wC6 => k_is)
    (case jC6 => k_is)
    (case aC7 => k_is)
    (case lC7 => k_is)
    (case mC7 => rfl)
    (case eC7 => rfl)
    (case dC7 => rfl)
    (case kC7 => k_is)
    (case saC7 => k_is)
    (case gaC7 => k_is)
    (case gnC7 => k_is)
    (case caC7 => k_is)
    (case xC70 => k_is)
    (case xC71 => k_is)
    (case iC7 => k_is)
    (case uC7 => k_is)
    (case vC7 => k_is)
    (case wC7 => k_is)
    (case jC7 => k_is)
    (case aC8 => k_is)
    (case lC8 => k_is)
    (case mC8 => rfl)
    (case eC8 => rfl)
    (case dC8 => rfl)
    (case kC8 => k_is)
    (case saC8 => k_is)
    (case gaC8 => k_is)
    (case gnC8 => k_is)
    (case caC8 => k_is)
    (case xC80 => k_is)
    (case xC81 => k_is)
    (case xC82 => k_is)
    (case iC8 => k_is)
    (case uC8 => k_is)
    (case vC8 => k_is)
    (case wC8 => k_is)
    (case jC8 => k_is)
    (case nd => decide)
